import PyProof.Rows.All
import Wide.All
import OpenK.AllK
import Wide.FinOn
import HandS.ForMost
import HandS.IsInst
import HandS.Style
import HandS.WideBits
import HandS.RaiseMore
import PyProof.ReprRoads
import PyProof.Rows.ReprR
import HandS.Walk
import HandS.Evl
import HandS.More
import HandS.Star
import HandS.Property
import HandS.ClsMeth
import HandS.SetFor
import HandS.Strs
import KE.GoesEnum
import OpenK.KEqL
import KE.KEqDeep
import HandS.Conv
import PySem.Challenge.RW_cutshows_k17_whole_boxes_of_two_sides
set_option Elab.async false
set_option linter.all false
set_option maxRecDepth 100000
set_option maxHeartbeats 8100000
namespace Jc
open PySem PySem.Spec L2
open PyProof.Rows hiding St

/-! ### the pot of a law: two ints in a list; hidden behind one word, so that a draw leaves the heap as it was -/
def potPhi (p : Addr) : Heap → Prop := fun h => ∃ (a b : Int) (t u : Tok) (n : Nat), 0 ≤ a ∧ 0 ≤ b ∧ b < 2147483587 ∧
  h.get? p = some { cls := .type "list", data := .seq #[.int a t, .int b u] n }
abbrev Pot (H : Hp) (p : Addr) : Prop := H p = some (.ext (potPhi p))
section
variable {X : Cx} {pins : List (Addr × Obj)} {σ : St} {H : Hp} {s : Shared} {p : Addr}
theorem two_le : 2 ≤ sizeLine := by rw [sizeLine_eq]; decide
theorem pot_open (I : Inv X pins σ H s) (h : Pot H p) : ∃ a b : Int, 0 ≤ a ∧ 0 ≤ b ∧ b < 2147483587 ∧ Inv X pins σ (upd H p (.lst [.int a, .int b])) s := by
  obtain ⟨⟨a, b, t, u, n, ha, hb, hb2, hg⟩, _, _⟩ := (show ObjOk X.prog X.w H s.heap p (.ext (potPhi p)) from I.hok p _ h)
  refine ⟨a, b, ha, hb, hb2, ?_⟩
  exact I.write (x := p) (e := p) (h' := s.heap) (t' := s.toks) (by rw [h]; trivial) (.inl rfl) (fun _ _ _ e => e) ⟨_, hg⟩
    ⟨two_le, [.int a t, .int b u], n, .cons ⟨_, rfl⟩ (.cons ⟨_, rfl⟩ .nil), hg⟩
theorem pot_shut (I : Inv X pins σ H s) {a b : Int} (h : H p = some (.lst [.int a, .int b])) (ha : 0 ≤ a) (hb : 0 ≤ b) (hb2 : b < 2147483587) : Inv X pins σ (upd H p (.ext (potPhi p))) s := by
  obtain ⟨_, its, n, r, hg⟩ := (show ObjOk X.prog X.w H s.heap p (.lst [.int a, .int b]) from I.hok p _ h)
  obtain ⟨u1, u2, e, ⟨t, r1⟩, ⟨u, r2⟩⟩ := vals2 r
  subst e r1 r2
  refine I.write (x := p) (e := p) (h' := s.heap) (t' := s.toks) (by rw [h]; trivial) (.inl rfl) (fun _ _ _ e => e) ⟨_, hg⟩ ⟨⟨a, b, t, u, n, ha, hb, hb2, hg⟩, ⟨_, hg⟩, ?_⟩
  rintro h1 h2 ⟨a', b', t', u', n', c1, c2, c3, c4⟩ k
  exact ⟨a', b', t', u', n', c1, c2, c3, k _ c4⟩
end
section
variable {X : Cx}
/-- a block, its pot laid open first -/
theorem pss_pot {body : List Stmt} {t : TS} (h : PSs X body t) : PSs X body (fun D σ H => ∃ p, Pot H p ∧ ∀ a b : Int, 0 ≤ a → 0 ≤ b → b < 2147483587 → t D σ (upd H p (.lst [.int a, .int b]))) := by
  refine ⟨fun pins s σ H D I ht => ?_⟩
  obtain ⟨p, hp, k⟩ := ht
  obtain ⟨a, b, ha, hb, hb2, I2⟩ := pot_open I hp
  exact h.run pins s σ _ D I2 (k a b ha hb hb2)
/-- behind an expression a list of two ints is hidden as a pot -/
theorem pe_pot {e : Expr} {t : TE} (h : PE X e t) : PE X e (fun σ H Q => t σ H fun v H1 => ∃ (p : Addr) (a b : Int), H1 p = some (.lst [.int a, .int b]) ∧ 0 ≤ a ∧ 0 ≤ b ∧ b < 2147483587 ∧ Q v (upd H1 p (.ext (potPhi p)))) := by
  refine ⟨fun pins s σ H Q I ht => ?_⟩
  refine thn (h.run pins s σ H _ I ht) fun u s1 ⟨v, H1, I1, r1, p, a, b, e1, ha, hb, hb2, q⟩ => ?_
  exact ⟨v, _, pot_shut I1 e1 ha hb hb2, r1, q⟩
end

/-! ### a def that is called where no repr is under way -/
structure FnG (P : Program) (w : World) (K : PySem.W.Frag) (mg : Str → Option Value) (base : Heap) (k : Nat) (f : Addr) (fd : FuncData) (ps : List Str) (sp : Sp) : Prop where
  lenG : ∀ vs H Q E, sp vs H Q E → vs.length = ps.length
  runG : ∀ (A : Around) (outer : List Env) (s : Shared) (H : Hp) (args : Args) (us : List Value) (vs : List V) (Q : VK), Room k A → A.guards = some [] →
    Env0 P w K mg base A outer s H → BindsTo s fd args (ps.zip us) → Vals vs us → sp vs H Q E0 → codeAny (model P w) A (.call (.ref f) args) (CR CX0 outer P w H s Q E0) s
section
variable {P : Program} {w : World} {K : PySem.W.Frag} {mg : Str → Option Value} {base : Heap}
theorem FnG.of {k : Nat} {f : Addr} {fd : FuncData} {ps : List Str} {sp : Sp} (F : FnOk P w K mg base CX0 k f fd ps sp) : FnG P w K mg base k f fd ps sp :=
  ⟨F.len, fun A outer s H args us vs Q hr _ e b r h => F.run A outer s H args us vs Q E0 hr e b r h⟩
theorem fnG_of {x qual : Str} {st : Stmt} {f : Addr} {fd : FuncData} {N ps : List Str} {k : Nat} {sp : Sp} (F : Fun K x qual st f fd) (S : FnScope N ps (defScope st)) (len : ∀ vs H Q E, sp vs H Q E → vs.length = ps.length)
    (hkind : ∀ us : List Value, us.length = ps.length → ((ps.zip us).all fun y => (defScope st).names.lookup y.1 == some .local || (defScope st).names.lookup y.1 == some .cell) = true)
    (body : ∀ (cdv : Value) (A : Around) (outer : List Env) (s : Shared) (H : Hp) (vs : List V) (Q : VK), Room k (A.deeper (envOfC qual (defScope st) s.heap.objs.size f cdv)) → A.guards = some [] → sp vs H Q E0 →
      ∃ t, PSs (cxOf CX0 P w K mg base N qual (defScope st) f cdv A outer s H E0).nox (defBody st) t ∧ t { nx := fun _ H' => Q .non H', rt := Q } (start N vs) H) :
    FnG P w K mg base (k + 1) f fd ps sp := by
  obtain ⟨oc, od, kV, doc, pm, an, cdv, ct, osl, rfl, lk, hcd⟩ := F.ex
  refine ⟨len, fun A outer s H args us vs Q hr hg e0 hb r h => ?_⟩
  have hl := len _ _ _ _ h
  have hlu : us.length = ps.length := r.length.symm.trans hl
  have KX : K.In s.heap := e0.mod.kin.keeps fun b o e => (e0.bs b o e).1
  have lim : s.heap.NoLimit := e0.mod.nolimit.keeps fun b o e => (e0.bs b o e).1
  obtain ⟨t, ht, q⟩ := body cdv A outer s H vs Q (hr.deeper _) hg h
  refine Att.call_fn KX lim lk hcd hr.depth hb (hkind us hlu) (fun s1 ic => ?_) S.co S.gen S.kind
  have I : Inv (cxOf CX0 P w K mg base N qual (defScope st) f cdv A outer s H E0) [] (start N vs) H s1 := inv_start S hr.hd e0 hl r ic
  refine wpAny_mono (ht.nox.run [] s1 (start N vs) H _ I q) (fun fl s2 z => ?_) fun _ _ z => z
  match fl, z with
  | .ret u, ⟨v, σ2, H2, J, rv, q2⟩ => exact ⟨v, H2, J.os, J.bare, J.base, J.hok, rv, q2⟩
  | .next, ⟨σ2, H2, J, q2⟩ => exact ⟨.non, H2, J.os, J.bare, J.base, J.hok, rfl, q2⟩
  | .brk, ⟨_, _, _, q2⟩ => exact q2.elim
  | .cont, ⟨_, _, _, q2⟩ => exact q2.elim
end

/-! ### a def of the module as its callers see it -/
structure Own (P : Program) (w : World) (K : PySem.W.Frag) (mg : Str → Option Value) (base : Heap) (x : Str) (k : Nat) (ps : List Str) (sp : Sp) : Prop where
  ex : ∃ (f : Addr) (fd : FuncData), FnG P w K mg base k f fd ps sp ∧ mg x = some (.ref f) ∧ PySem.W.keepIn K (.ref f) = true ∧
    (∀ (s : Shared) (us : List Value), us.length = ps.length → BindsTo s fd ⟨us, []⟩ (ps.zip us)) ∧
    (∀ (s : Shared) (u : Value), ps.length = 1 → BindsTo s fd ⟨[], ps.zip [u]⟩ (ps.zip [u]))
def tOwn (sp : Sp) (t : TA) : TE := fun σ H Q => t σ H fun vs H1 => sp vs H1 Q E0
section
variable {X : Cx} {k j : Nat} {x : Str} {ps : List Str} {sp : Sp} {p pos : Pos} {e : Expr} {es : List Expr} {t : TA} {kws : List Keyword}
theorem run_own {pins : List (Addr × Obj)} {σ : L2.St} {H : Hp} {s : Shared} {Q : VK} {f : Addr} {fd : FuncData} {args : Args} {us : List Value} {vs : List V} (G : FnG X.prog X.w X.K X.mg X.base k f fd ps sp) (hr : Room k X.A) (hq : X.A.guards = some [])
    (I : Inv X pins σ H s) (b : BindsTo s fd args (ps.zip us)) (r : Vals vs us) (h : sp vs H Q E0) : wpAny (model X.prog X.w) X.A (call (.ref f) args.pos args.kw) (EP X pins σ Q) X.xe s := by
  refine wpAny_call (codeAny_mono (G.runG X.A X.stack s H args us vs Q hr hq I.env0 b r h) fun rs s2 z => ?_)
  match rs, z with
  | .ok (.ret u), z => exact I.after z
  | .ok .next, z => exact z.elim
  | .ok .brk, z => exact z.elim
  | .ok .cont, z => exact z.elim
  | .error _, z => exact z.elim
theorem pe_own (c : Own X.prog X.w X.K X.mg X.base x k ps sp) (hr : Room j X.A) (hq : X.A.guards = some []) (hj : k ≤ j) (ha : PA X (e :: es) t) (hg : Gl X x := by rfl) (hdb : (x == ("__debug__" : Str)) = false := by decide)
    (he : starEach (e :: es) X.env = (false, eval e X.env) :: starEach es X.env := by rfl) (hpl : (backTo pos (starEach es X.env)).any (·.1) = false := by rfl) : PE X (.Call (.Name x p) (e :: es) [] pos) (tOwn sp t) := by
  obtain ⟨f, fd, G, hm, hk, hb, _⟩ := c.ex
  refine ⟨fun pins s σ H Q I h => wpAny_Call_Name_kw (ld_glob I hg hm ?_ hdb)⟩
  refine PySem.W.callWith_K (h₀ := X.base) I.ok.mod.kin hk (thn (ha.run pos pins s σ H _ I h) fun us s1 z => ?_) he hpl
  obtain ⟨vs, H1, I1, r, q⟩ := z
  exact ⟨I1.kIn, run_own (args := ⟨us, []⟩) G (hr.mono hj) hq I1 (hb s1 us (r.length.symm.trans (G.lenG _ _ _ _ q))) r q⟩
/-- f(a = e), the one parameter by its name -/
theorem pe_ownK {a : Str} {tk : TA} (c : Own X.prog X.w X.K X.mg X.base x k [a] sp) (hr : Room j X.A) (hq : X.A.guards = some []) (hj : k ≤ j) (hkw : PK X kws tk) (hg : Gl X x := by rfl) (hdb : (x == ("__debug__" : Str)) = false := by decide)
    (hall : (backToKw pos (keywordEach kws X.env)).all (·.1.isSome) = true := by rfl) (hks : (backToKw pos (keywordEach kws X.env)).filterMap (·.1) = [a] := by rfl)
    (hpl : ((backTo pos (starEach [] X.env)).any (·.1) || (backToKw pos (keywordEach kws X.env)).any (·.1.isNone)) = false := by rfl) : PE X (.Call (.Name x p) [] kws pos) (tOwn sp tk) := by
  obtain ⟨f, fd, G, hm, hk, _, hb⟩ := c.ex
  refine ⟨fun pins s σ H Q I h => wpAny_Call_Name_kw (ld_glob I hg hm ?_ hdb)⟩
  refine PySem.W.callWith_KW0 (h₀ := X.base) I.ok.mod.kin hk hall (thn (hkw.run pos pins s σ H _ I h) fun ws s1 z => ?_) hpl
  obtain ⟨vs, H1, I1, r, q⟩ := z
  refine ⟨I1.kIn, ?_⟩
  rw [hks]
  have l1 : vs.length = 1 := G.lenG _ _ _ _ q
  obtain ⟨u, rfl⟩ : ∃ u, ws = [u] := by
    have l2 : ws.length = 1 := r.length.symm.trans l1
    match ws, l2 with
    | [u], _ => exact ⟨u, rfl⟩
  exact run_own (args := ⟨[], [(a, u)]⟩) G (hr.mono hj) hq I1 (hb s1 u rfl) r q
end

/-! ### repr -/
def rRepr (K : PySem.W.Frag) : List V → Hp → VK → Prop := fun xs H Q => ∃ v d, xs = [v] ∧ Dp K H v d ∧ d.showable = true ∧ d.hasDict = false ∧ d.depth ≤ 60 ∧ d.shown.length ≤ sizeLine ∧ Q (.str d.shown) H
theorem call_repr {X : Cx} (hq : X.A.guards = some []) (hu : X.A.units + 64 < cLine) : CallR X (.builtin "repr") (rRepr X.K) := by
  intro pins s σ H xs us Q I r h
  obtain ⟨v, d, rfl, hd, hs, hn, hdep, hsz, q⟩ := h
  obtain ⟨u, rfl, rv⟩ := vals1 r
  have back : ∀ (h2 : Heap) (x : Tok) (tk : Nat), (∀ b o, s.heap.get? b = some o → h2.get? b = some o) → EP X pins σ Q (.str d.shown x) { s with heap := h2, toks := tk } := fun h2 x tk k => ⟨.str d.shown, H, I.kept k, ⟨_, rfl⟩, q⟩
  obtain ⟨as, rd⟩ := Dp.reads I d v u hd rv
  cases hd with
  | non => cases rv; exact P.repr_of_none (back _ _ _ fun _ _ e => e)
  | bl b =>
    cases rv
    have e : PyData.shown (.bool b) = (if b then ("True" : Str) else "False") := by cases b <;> rfl
    rw [e] at back
    exact P.repr_of_bool (by cases b <;> exact back _ _ _ fun _ _ e => e)
  | int i =>
    obtain ⟨t, rfl⟩ := rv
    exact P.repr_of_int (by simpa [PyData.showable] using hs) (back _ _ _ fun _ _ e => e)
  | str z =>
    obtain ⟨t, rfl⟩ := rv
    exact P.repr_of_str (back _ _ _ fun _ _ e => e) hsz
  | lst _ _ =>
    cases rv
    exact repr_of_reads' rd hs (PyData.noDict_hsm hn) hq (by omega) (fun _ _ e => e) (fun h2 x tk k => back h2 x tk k) hsz
  | tup _ _ =>
    cases rv
    exact repr_of_reads' rd hs (PyData.noDict_hsm hn) hq (by omega) (fun _ _ e => e) (fun h2 x tk k => back h2 x tk k) hsz

/-! ### the built-in names that the texts use -/
theorem bo_len : bootBuiltins "len" = some (.builtin "len") := by decide +kernel
theorem bo_abs : bootBuiltins "abs" = some (.builtin "abs") := by decide +kernel
theorem bo_max : bootBuiltins "max" = some (.builtin "max") := by decide +kernel
theorem bo_min : bootBuiltins "min" = some (.builtin "min") := by decide +kernel
theorem bo_divmod : bootBuiltins "divmod" = some (.builtin "divmod") := by decide +kernel
theorem bo_repr : bootBuiltins "repr" = some (.builtin "repr") := by decide +kernel
theorem bo_isinstance : bootBuiltins "isinstance" = some (.builtin "isinstance") := by decide +kernel
theorem bo_all : bootBuiltins "all" = some (.builtin "all") := by decide +kernel
theorem bo_any : bootBuiltins "any" = some (.builtin "any") := by decide +kernel
theorem bo_sum : bootBuiltins "sum" = some (.builtin "sum") := by decide +kernel
theorem bo_sorted : bootBuiltins "sorted" = some (.builtin "sorted") := by decide +kernel
theorem bo_int : bootBuiltins "int" = some (.type "int") := by decide +kernel
theorem bo_str : bootBuiltins "str" = some (.type "str") := by decide +kernel
theorem bo_bool : bootBuiltins "bool" = some (.type "bool") := by decide +kernel
theorem bo_list : bootBuiltins "list" = some (.type "list") := by decide +kernel
theorem bo_tuple : bootBuiltins "tuple" = some (.type "tuple") := by decide +kernel
theorem bo_dict : bootBuiltins "dict" = some (.type "dict") := by decide +kernel
theorem bo_set : bootBuiltins "set" = some (.type "set") := by decide +kernel
theorem bo_range : bootBuiltins "range" = some (.type "range") := by decide +kernel
theorem bo_enumerate : bootBuiltins "enumerate" = some (.type "enumerate") := by decide +kernel
theorem bo_zip : bootBuiltins "zip" = some (.type "zip") := by decide +kernel
theorem bo_reversed : bootBuiltins "reversed" = some (.type "reversed") := by decide +kernel
structure Blt (mg : Str → Option Value) : Prop where
  len : mg "len" = none
  abs : mg "abs" = none
  max : mg "max" = none
  min : mg "min" = none
  divmod : mg "divmod" = none
  repr : mg "repr" = none
  isinstance : mg "isinstance" = none
  all : mg "all" = none
  any : mg "any" = none
  sum : mg "sum" = none
  sorted : mg "sorted" = none
  int : mg "int" = none
  str : mg "str" = none
  bool : mg "bool" = none
  list : mg "list" = none
  tuple : mg "tuple" = none
  dict : mg "dict" = none
  set : mg "set" = none
  range : mg "range" = none
  enumerate : mg "enumerate" = none
  zip : mg "zip" = none
  reversed : mg "reversed" = none

/-! ### the law's own helpers: what they promise -/
def spDraw : Sp := fun vs H Q _ => ∃ (p : Addr) (n : Int), vs = [.ref p, .int n] ∧ Pot H p ∧ 0 < n ∧ n < 1073741824 ∧ ∀ (d : Int) (H2 : Hp), 0 ≤ d → d < n → Same H H2 → Q (.int d) H2
def spPick (K : PySem.W.Frag) : Sp := fun vs H Q _ => ∃ (p l : Addr) (xs : List V), vs = [.ref p, .ref l] ∧ Pot H p ∧ SqL K H l xs ∧ 0 < xs.length ∧ xs.length ≤ 1000 ∧ ∀ (i : Nat) (v : V) (H2 : Hp), xs[i]? = some v → Same H H2 → Q v H2
def spPot (K : PySem.W.Frag) : Sp := fun vs H Q _ => ∃ (a : Addr) (ns : List Int) (k : Nat), vs = [.ref a, .int (k : Int)] ∧ SqL K H a (ns.map V.int) ∧ k < 100 ∧
  ∀ (p : Addr) (x y : Int), H p = none → 0 ≤ x → 0 ≤ y → y < 2147483587 → Q (.ref p) (upd H p (.lst [.int x, .int y]))
theorem same_new {H : Hp} {p : Addr} {o : HO} (h : H p = none) : Same H (upd H p o) := fun b u e => by
  rw [upd_ne (ne_of_none e h)]
  exact e
theorem same_mut {H H2 : Hp} {p : Addr} {o : HO} (s : Same H H2) (h : H p = none) : Same H (upd H2 p o) := fun b u e => by
  rw [upd_ne (ne_of_none e h)]
  exact s b u e
theorem same_back {H H2 : Hp} {p : Addr} {o : HO} (h : H p = some o) (s : ∀ b u, b ≠ p → H b = some u → H2 b = some u) : Same H (upd H2 p o) := fun b u e => by
  by_cases hb : b = p
  · subst hb
    rw [h] at e
    rw [upd_same, ← e]
  · rw [upd_ne hb]
    exact s b u hb e
end Jc
namespace Jc
open PySem PySem.Spec L2
open PyProof.Rows hiding St
/-- what law promises: handed a list of at most 63 ints, it gives True -/
def spLaw (K : PySem.W.Frag) : Sp := fun vs H Q _ => ∃ (a : Addr) (ns : List Int), vs = [.ref a] ∧ SqL K H a (ns.map V.int) ∧ ns.length ≤ 63 ∧ ∀ H2, Q (.bl true) H2
/-- the script as it lies at the call: known to the object, or one of the module's own -/
structure Lies (K : PySem.W.Frag) (a : Addr) (ob : Obj) (ns : List Int) (H : Hp) : Prop where
  one : ∀ b, H b = none ∨ (b = a ∧ K.lookup a = none ∧ H b = some (.frz ob (.lst (ns.map V.int))))
  seq : SqL K H a (ns.map V.int)
theorem lies_of {K : PySem.W.Frag} {h : Heap} {a : Addr} {vs : List Value} {ns : List Int} (KX : K.In h) (ha : h.get? a = some { cls := .type "list", data := .seq vs.toArray }) (hi : IntsAre vs ns) (hl : ns.length ≤ 63) :
    ∃ H, Lies K a { cls := .type "list", data := .seq vs.toArray } ns H := by
  have r := vals_ints hi
  have hz : ns.length ≤ sizeLine := Nat.le_trans hl (by rw [sizeLine_eq]; decide)
  cases e : K.lookup a with
  | none =>
    refine ⟨fun b => if b = a then some (.frz { cls := .type "list", data := .seq vs.toArray } (.lst (ns.map V.int))) else none, fun b => ?_, .inl (.inr ⟨_, if_pos rfl⟩)⟩
    by_cases hb : b = a
    · exact .inr ⟨hb, e, if_pos hb⟩
    · exact .inl (if_neg hb)
  | some o =>
    have e2 := KX a o e
    rw [ha] at e2
    cases e2
    exact ⟨fun _ => none, fun _ => .inl rfl, .inr ⟨_, vs.toArray, _, e, rfl, rfl, rfl, by rw [List.size_toArray, hi.length]; exact hz, by simpa using r⟩⟩
section
variable {P : Program} {w : World} {K : PySem.W.Frag} {mg mb : Str → Option Value} {k : Nat} {fa a : Addr} {fd : FuncData} {s1 : Shared} {vs : List Value} {ns : List Int}
theorem lawG (KX : K.In s1.heap) (hns : s1.heap.Ns mainGlobals mg) (hb : s1.heap.Ns builtinsNs mb) (hbb : ∀ x : Str, x ≠ "__name__" → mb x = bootBuiltins x) (hlim : s1.heap.NoLimit) (hg : s1.gens = #[])
    (ha : s1.heap.get? a = some { cls := .type "list", data := .seq vs.toArray }) (hi : IntsAre vs ns) (hl : ns.length ≤ 63) (hr : Room k callerA)
    (F : ∀ base : Heap, K.In base → base.Ns mainGlobals mg → FnG P w K mg base k fa fd ["_law_script"] (spLaw K)) (hbind : ∀ (s : Shared) (u : Value), BindsTo s fd ⟨[u], []⟩ [("_law_script", u)]) :
    codeAny (model P w) callerA (.call (.ref fa) ⟨[.ref a], []⟩) (fun r s' => r = .ok (.ret (.bool true)) ∧ OldK s1.heap s'.heap ∧ s'.os = s1.os ∧ AllBare s'.gens) s1 := by
  obtain ⟨H, L⟩ := lies_of KX ha hi hl
  have r := vals_ints hi
  have hok : HOk P w H s1.heap := fun b u z => by
    rcases L.one b with n | ⟨rfl, _, n⟩
    · rw [n] at z; cases z
    · rw [n] at z; cases z
      exact ⟨ha, Nat.le_trans (by rw [List.length_map]; exact hl) (show 63 ≤ sizeLine by rw [sizeLine_eq]; decide), vs, _, r, ha⟩
  have dictFree : ∀ {b : Addr} {m : Str → Option Value}, s1.heap.Ns b m → H b = none := fun {b m} z => by
    rcases L.one b with n | ⟨rfl, _, _⟩
    · exact n
    · obtain ⟨o, es, ep, e1, e2, _⟩ := z
      rw [ha] at e1
      cases e1
      exact nomatch e2
  have nsB : ∀ {b : Addr} {m : Str → Option Value}, s1.heap.Ns b m → (hidT s1.heap H).Ns b m := fun z => by
    have n := dictFree z
    obtain ⟨o, es, ep, e1, e2⟩ := z
    exact ⟨o, es, ep, hidT_get e1 n, e2⟩
  have kB : K.In (hidT s1.heap H) := fun b o e => by
    rcases L.one b with n | ⟨rfl, n, _⟩
    · exact hidT_get (KX b o e) n
    · rw [n] at e; cases e
  have hM : Mod K mg (hidT s1.heap H) := by
    obtain ⟨mc, h1, h2⟩ := hlim
    exact ⟨kB, nsB hns, ⟨mb, nsB hb, hbb⟩, mc, nsB h1, h2⟩
  have e0 : Env0 P w K mg (hidT s1.heap H) callerA [] s1 H := ⟨rfl, hM, fun _ _ e => of_hidT e, Nat.le_of_eq (hidT_size _ _), trivial, fun b z => (List.not_mem_nil z).elim, hok, .of_eq hg⟩
  refine codeAny_mono ((F _ kB (nsB hns)).runG callerA [] s1 H ⟨[.ref a], []⟩ [.ref a] [.ref a] (fun v _ => v = .bl true) hr rfl e0 (hbind s1 (.ref a)) (.cons rfl .nil) ⟨a, ns, rfl, L.seq, hl, fun _ => rfl⟩) fun rs s2 z => ?_
  match rs, z with
  | .ok .next, z => exact z.elim
  | .ok .brk, z => exact z.elim
  | .ok .cont, z => exact z.elim
  | .error _, z => exact z.elim
  | .ok (.ret u), z =>
    obtain ⟨v, H2, os, bare, un, hok2, rv, (q : v = .bl true)⟩ := z
    subst q
    cases (show u = Value.bool true from rv)
    refine ⟨rfl, OldK.of_keep fun b o e => ?_, os, bare⟩
    rcases L.one b with n | ⟨_, _, n⟩
    · exact un.keep b o e n (fun z => (List.not_mem_nil z).elim) (fun z => (List.not_mem_nil z).elim)
    · have e1 := (hok b _ n).1
      rw [e] at e1
      cases e1
      exact (hok2 b _ (un.frzs b _ _ n)).1
end
theorem walkG {l : PySem.W.OpenLaw} {k : Nat} {q : Program} {loose : List Str} {XP : (Str → Option Value) → Heap → Prop} {YP : World → Heap → Prop} {d : DefRec} {K : Params → PySem.W.Frag}
    (hn : l.most = some 63) (hdf : d.params.defaults = []) (hr : Room k callerA) (hY : ∀ (w : World) (h : Heap), YP w h → (K w.params).In h)
    (F : ∀ (w : World) (mg : Str → Option Value) (fa : Addr) (h : Heap), (K w.params).In h → h.Ns mainGlobals mg → mg d.name = some (.ref fa) →
      ∃ fd : FuncData, (∀ (s : Shared) (u : Value), BindsTo s fd ⟨[u], []⟩ [("_law_script", u)]) ∧
        ∀ base : Heap, (K w.params).In base → base.Ns mainGlobals mg → FnG l.prog w (K w.params) mg base k fa fd ["_law_script"] (spLaw (K w.params))) :
    PySem.W.WalkO q loose XP YP l.row.toRowW d [] (fun f vs => PySem.call f vs) := by
  refine Att.attach_call hn hdf fun w _ s1 mg _ fa _ _ _ _ a vs ns G Y _ _ _ hmg hobj hints hlen hg => ?_
  obtain ⟨fd, b, hF⟩ := F w mg fa _ (hY w _ Y) G.T.g hmg
  exact lawG (hY w _ Y) G.T.g G.T.b G.T.builtins G.T.nolimit hg hobj hints hlen hr hF b
end Jc
namespace Jc
open PySem PySem.Spec L2
open PyProof.Rows hiding St
/-- a comprehension without a test, its elements flat values told by R -/
theorem lc_flat {J : It} {n : Nat} {G : Hp → Prop} {Y : Nat → Hp → V → Hp → Prop} (w : Walk J n G Y) {g : TG} {te : TE} {vs : List Nat} {σ : L2.St} {H1 : Hp} {D : Addr} {Qd : Hp → Prop} (R : Nat → V → Prop) (hn : n < 1000000) (hD : H1 D = none)
    (hG : ∀ H2, Same H1 H2 → G H2)
    (hs : ∀ i x H H2 (k : V → Hp → Prop), i < n → Same H1 H → Y i H x H2 → (∀ y H4, Same H H4 → R i y → k y H4) → g x (wipe σ vs) H2 fun σ2 H3 => wipe σ2 vs = wipe σ vs ∧ te σ2 H3 k)
    (hd : ∀ ys H2, ys.length = n → (∀ i y, ys[i]? = some y → R i y) → Same H1 H2 → H2 D = some (.lst ys) → Qd H2) :
    ∃ W : Nat → Nat → Hp → Prop, (∃ m, W 0 m (upd H1 D (.lst []))) ∧ ∀ i m H, W i m H →
      (J.stop i H ∧ Qd H) ∨ (J.go i H ∧ ∃ Nx : Hp → Prop, (∀ H', Nx H' → ∃ m', m' < m ∧ W (i + 1) m' H') ∧ ∀ x H', J.yld i H x H' → g x (wipe σ vs) H' fun σ2 H2 => wipe σ2 vs = wipe σ vs ∧ tYes σ2 H2 fun b H3 =>
        if b = true then te σ2 H3 fun y H4 => ∃ acc, H4 D = some (.lst acc) ∧ acc.length < sizeLine ∧ Nx (upd H4 D (.lst (acc ++ [y]))) else Nx H3) := by
  refine lc_it w (fun i H => Same H1 H ∧ ∃ ys : List V, ys.length = i ∧ (∀ j y, ys[j]? = some y → R j y) ∧ H D = some (.lst ys)) ⟨same_new hD, [], rfl, fun j y e => by simp at e, upd_same⟩ (fun i H _ p => hG H p.1) ?_ ?_
  · rintro i x H H2 hi ⟨s1, ys, hl, hR, hy⟩ y
    refine hs i x H H2 _ hi s1 y fun z H4 s4 r => ⟨ys, s4 _ _ hy, Nat.lt_of_lt_of_le (show ys.length < 1000000 by omega) (by rw [sizeLine_eq]; decide), same_mut (s1.trans s4) hD, ys ++ [z], by rw [List.length_append, hl]; rfl, fun j u e => ?_, upd_same⟩
    by_cases hj : j < ys.length
    · rw [List.getElem?_append_left hj] at e
      exact hR j u e
    · have hj2 : j = ys.length := by
        have := (List.getElem?_eq_some_iff.mp e).1
        rw [List.length_append] at this
        simp at this
        omega
      subst hj2
      rw [List.getElem?_append_right (Nat.le_refl _)] at e
      simp at e
      subst e
      rw [hl]
      exact r
  · rintro H ⟨s1, ys, hl, hR, hy⟩
    exact hd ys H hl hR s1 hy
theorem all_eq {α : Type} {xs ys : List α} (hl : xs.length = ys.length) (h : ∀ (i : Nat) x y, xs[i]? = some x → ys[i]? = some y → x = y) : xs = ys := by
  refine List.ext_getElem? fun i => ?_
  by_cases hi : i < xs.length
  · rw [List.getElem?_eq_getElem hi, List.getElem?_eq_getElem (hl ▸ hi)]
    exact congrArg some (h i _ _ (List.getElem?_eq_getElem hi) (List.getElem?_eq_getElem (hl ▸ hi)))
  · rw [List.getElem?_eq_none (by omega), List.getElem?_eq_none (by omega)]
end Jc
namespace Jc
open PySem PySem.Spec L2
open PyProof.Rows hiding St
/-! ### defs and methods as their callers see them, whatever is under way -/
structure OwnK (P : Program) (w : World) (K : PySem.W.Frag) (mg : Str → Option Value) (base : Heap) (x : Str) (k : Nat) (ps : List Str) (sp : Sp) : Prop where
  ex : ∃ (f : Addr) (fd : FuncData), FnOk P w K mg base CX0 k f fd ps sp ∧ mg x = some (.ref f) ∧ PySem.W.keepIn K (.ref f) = true ∧ Binds K fd ps []
structure OwnM (P : Program) (w : World) (K : PySem.W.Frag) (mg : Str → Option Value) (base : Heap) (C : Addr) (m : Str) (k : Nat) (sp : Sp) : Prop where
  ex : ∃ f : Addr, Meth K C m f ∧ FnR P w K mg base CX0 k f sp
structure OwnM0 (P : Program) (w : World) (K : PySem.W.Frag) (mg : Str → Option Value) (base : Heap) (C : Addr) (m : Str) (k : Nat) (sp : Sp) : Prop where
  ex : ∃ (f : Addr) (fd : FuncData), Meth K C m f ∧ FnOk P w K mg base CX0 k f fd ["self"] sp ∧ Binds K fd ["self"] []
structure OwnI (P : Program) (w : World) (K : PySem.W.Frag) (mg : Str → Option Value) (base : Heap) (C : Addr) (k : Nat) (sp : Sp) : Prop where
  ex : ∃ f : Addr, Mk K C f ∧ FnR P w K mg base CX0 k f sp
structure PC (K : PySem.W.Frag) (mg : Str → Option Value) (C : Addr) : Prop where
  cl : Cls K C
  na : NoAttr K C "_classes"
  mc : mg "Partition" = some (.ref C)
section
variable {X : Cx} {k j : Nat} {C : Addr} {x m : Str} {ps : List Str} {sp : Sp} {p pos apos : Pos} {e o : Expr} {es : List Expr} {t : TA} {ta : TE}
theorem pe_ownk (c : OwnK X.prog X.w X.K X.mg X.base x k ps sp) (hr : Room j X.A) (hj : k ≤ j) (ha : PA X (e :: es) t) (hg : Gl X x := by rfl) (hdb : (x == ("__debug__" : Str)) = false := by decide)
    (he : starEach (e :: es) X.env = (false, eval e X.env) :: starEach es X.env := by rfl) (hpl : (backTo pos (starEach es X.env)).any (·.1) = false := by rfl) : PE X (.Call (.Name x p) (e :: es) [] pos) (tOwn sp t) := by
  obtain ⟨f, fd, F, hm, hk, hb⟩ := c.ex
  have h := pe_call F (hr.mono hj) hg hm hk hb .nil (pass0 (X := X)) ha (p := p) (pos := pos) hdb he hpl
  refine ⟨fun pins s σ H Q I q => h.run pins s σ H Q I ?_⟩
  have e2 : (fun (vs : List V) (H1 : Hp) => sp (vs ++ []) H1 Q E0) = fun vs H1 => sp vs H1 Q E0 := by
    funext vs H1
    rw [List.append_nil]
  show t σ H (fun (vs : List V) (H1 : Hp) => sp (vs ++ []) H1 Q E0)
  rw [e2]
  exact q
theorem pe_om {pl : Sem Bool} (he : PE X o ta) (c : Cls X.K C) (h : OwnM X.prog X.w X.K X.mg X.base C m k sp) (hr : Room j X.A) (hj : k ≤ j) (ha : PA X (e :: es) t)
    (hst : starEach (e :: es) X.env = (false, eval e X.env) :: starEach es X.env := by rfl) (hpl : (backTo pos (starEach es X.env)).any (·.1) = false := by rfl)
    (ht : eval (.Call (.Attribute o m apos) (e :: es) [] pos) X.env =
      (eval o X.env >>= fun ov => standAt apos.atName >>= fun _ => holding [ov] (getMethod ov m pl) >>= fun r => callWith pos r.1 r.2 (backTo pos (starEach (e :: es) X.env)) (backToKw pos (keywordEach [] X.env))) := by rfl) :
    PE X (.Call (.Attribute o m apos) (e :: es) [] pos) (tMethR C m sp E0 ta t) := by
  obtain ⟨f, hm, F⟩ := h.ex
  exact pe_methR (pl := pl) he c hm F (hr.mono hj) pass0 ha hst hpl ht
theorem pe_om0 {pl : Sem Bool} (he : PE X o ta) (c : Cls X.K C) (h : OwnM0 X.prog X.w X.K X.mg X.base C m k sp) (hr : Room j X.A) (hj : k ≤ j)
    (ht : eval (.Call (.Attribute o m apos) [] [] pos) X.env =
      (eval o X.env >>= fun ov => standAt apos.atName >>= fun _ => holding [ov] (getMethod ov m pl) >>= fun r => callWith pos r.1 r.2 (backTo pos (starEach [] X.env)) (backToKw pos (keywordEach [] X.env))) := by rfl) :
    PE X (.Call (.Attribute o m apos) [] [] pos) (tMeth C m sp [] E0 ta tNil) := by
  obtain ⟨f, fd, hm, F, hb⟩ := h.ex
  exact pe_meth0 (pl := pl) he c hm F (hr.mono hj) hb .nil pass0 ht
theorem pe_oi (M : OwnI X.prog X.w X.K X.mg X.base C k sp) (hr : Room j X.A) (hj : k + 1 ≤ j) (hm : X.mg x = some (.ref C)) (ha : PA X (e :: es) t) (hg : Gl X x := by rfl) (hdb : (x == ("__debug__" : Str)) = false := by decide)
    (he : starEach (e :: es) X.env = (false, eval e X.env) :: starEach es X.env := by rfl) (hpl : (backTo pos (starEach es X.env)).any (·.1) = false := by rfl) : PE X (.Call (.Name x p) (e :: es) [] pos) (StX.tMakeR C sp E0 t) := by
  obtain ⟨f, hM, F⟩ := M.ex
  exact StX.pe_makeR hM F (hr.mono hj) hg hm pass0 ha hdb he hpl
end
end Jc
namespace Jc
/-! numbering marks by first holders; -1 is gone -/
def toldF (acc : List Int) (m : Int) : List Int := if m ≠ -1 ∧ m ∉ acc then acc ++ [m] else acc
def told (ms : List Int) : List Int := ms.foldl toldF []
def numOf (ts : List Int) (m : Int) : Int := if m = -1 then -1 else (ts.idxOf m : Int)
def num (ms : List Int) : List Int := ms.map (numOf (told ms))
/-- pairs of marks of which both sides tell the same -/
def Kern (ps : List (Int × Int)) : Prop := ∀ p ∈ ps, ∀ q ∈ ps, (p.1 = q.1 ↔ p.2 = q.2) ∧ (p.1 = -1 ↔ p.2 = -1)
def toldP (acc : List (Int × Int)) (p : Int × Int) : List (Int × Int) := if p.1 ≠ -1 ∧ p.1 ∉ acc.map (·.1) then acc ++ [p] else acc
theorem toldP_sub : ∀ (ps acc all : List (Int × Int)), (∀ p ∈ acc, p ∈ all) → (∀ p ∈ ps, p ∈ all) → ∀ p ∈ ps.foldl toldP acc, p ∈ all
  | [], acc, all, h, _ => h
  | p :: r, acc, all, h, h2 => by
    refine toldP_sub r (toldP acc p) all (fun q hq => ?_) fun q hq => h2 q (List.mem_cons_of_mem _ hq)
    unfold toldP at hq
    split at hq
    · rcases List.mem_append.mp hq with hq | hq
      · exact h q hq
      · rw [List.mem_singleton.mp hq]
        exact h2 p List.mem_cons_self
    · exact h q hq
theorem toldP_fst : ∀ (ps acc : List (Int × Int)), (ps.foldl toldP acc).map (·.1) = (ps.map (·.1)).foldl toldF (acc.map (·.1))
  | [], acc => rfl
  | p :: r, acc => by
    show (r.foldl toldP (toldP acc p)).map (·.1) = (r.map (·.1)).foldl toldF (toldF (acc.map (·.1)) p.1)
    rw [toldP_fst r]
    congr 1
    unfold toldP toldF
    split <;> simp
theorem toldP_snd {all : List (Int × Int)} (K : Kern all) : ∀ (ps acc : List (Int × Int)), (∀ p ∈ acc, p ∈ all) → (∀ p ∈ ps, p ∈ all) → (ps.foldl toldP acc).map (·.2) = (ps.map (·.2)).foldl toldF (acc.map (·.2))
  | [], acc, _, _ => rfl
  | p :: r, acc, h, h2 => by
    have hp := h2 p List.mem_cons_self
    have e : (toldP acc p).map (·.2) = toldF (acc.map (·.2)) p.2 := by
      have e1 : (p.1 ≠ -1 ∧ p.1 ∉ acc.map (·.1)) ↔ (p.2 ≠ -1 ∧ p.2 ∉ acc.map (·.2)) := by
        have a := (K p hp p hp).2
        have b : p.1 ∈ acc.map (·.1) ↔ p.2 ∈ acc.map (·.2) := by
          simp only [List.mem_map]
          constructor
          · rintro ⟨q, hq, e⟩
            exact ⟨q, hq, (K q (h q hq) p hp).1.mp e⟩
          · rintro ⟨q, hq, e⟩
            exact ⟨q, hq, (K q (h q hq) p hp).1.mpr e⟩
        rw [b]
        constructor
        · rintro ⟨x, y⟩
          exact ⟨fun z => x (a.mpr z), y⟩
        · rintro ⟨x, y⟩
          exact ⟨fun z => x (a.mp z), y⟩
      unfold toldP toldF
      by_cases c : p.1 ≠ -1 ∧ p.1 ∉ acc.map (·.1)
      · rw [if_pos c, if_pos (e1.mp c)]
        simp
      · rw [if_neg c, if_neg (fun z => c (e1.mpr z))]
    show (r.foldl toldP (toldP acc p)).map (·.2) = (r.map (·.2)).foldl toldF (toldF (acc.map (·.2)) p.2)
    rw [toldP_snd K r (toldP acc p) (fun q hq => ?_) fun q hq => h2 q (List.mem_cons_of_mem _ hq), e]
    exact toldP_sub [p] acc all h (fun x hx => by rw [List.mem_singleton.mp hx]; exact hp) q hq
theorem idx_kern {all : List (Int × Int)} (K : Kern all) {p : Int × Int} (hp : p ∈ all) : ∀ ts : List (Int × Int), (∀ q ∈ ts, q ∈ all) → (ts.map (·.1)).idxOf p.1 = (ts.map (·.2)).idxOf p.2
  | [], _ => rfl
  | q :: r, h => by
    have hq := h q List.mem_cons_self
    have ih := idx_kern K hp r fun x hx => h x (List.mem_cons_of_mem _ hx)
    simp only [List.map_cons, List.idxOf_cons]
    have e := (K q hq p hp).1
    by_cases c : q.1 = p.1
    · rw [show (q.1 == p.1) = true from beq_iff_eq.mpr c, show (q.2 == p.2) = true from beq_iff_eq.mpr (e.mp c)]
      rfl
    · rw [show (q.1 == p.1) = false from beq_eq_false_iff_ne.mpr c, show (q.2 == p.2) = false from beq_eq_false_iff_ne.mpr fun z => c (e.mpr z), ih]
theorem num_congr {ps : List (Int × Int)} (K : Kern ps) : num (ps.map (·.1)) = num (ps.map (·.2)) := by
  have s := toldP_sub ps [] ps (fun p h => (List.not_mem_nil h).elim) fun p h => h
  have e1 := toldP_fst ps []
  have e2 := toldP_snd K ps [] (fun p h => (List.not_mem_nil h).elim) fun p h => h
  unfold num
  rw [List.map_map, List.map_map]
  refine List.map_congr_left fun p hp => ?_
  show numOf (told (ps.map (·.1))) p.1 = numOf (told (ps.map (·.2))) p.2
  unfold told
  rw [show ((ps.map (·.1)).foldl toldF []) = (ps.foldl toldP []).map (·.1) from e1.symm, show ((ps.map (·.2)).foldl toldF []) = (ps.foldl toldP []).map (·.2) from e2.symm]
  unfold numOf
  have c := (K p hp p hp).2
  by_cases z : p.1 = -1
  · rw [if_pos z, if_pos (c.mp z)]
  · rw [if_neg z, if_neg fun y => z (c.mpr y), idx_kern K hp _ s]
theorem num_cong {xs ys : List Int} (hl : xs.length = ys.length) (h : ∀ (i j : Nat) (a b c d : Int), xs[i]? = some a → ys[i]? = some b → xs[j]? = some c → ys[j]? = some d → (a = c ↔ b = d) ∧ (a = -1 ↔ b = -1)) : num xs = num ys := by
  have K : Kern (xs.zip ys) := by
    intro p hp q hq
    obtain ⟨i, hi⟩ := List.getElem?_of_mem hp
    obtain ⟨j, hj⟩ := List.getElem?_of_mem hq
    rw [List.getElem?_zip_eq_some] at hi hj
    exact h i j p.1 p.2 q.1 q.2 hi.1 hi.2 hj.1 hj.2
  have := num_congr K
  rw [List.map_fst_zip (by omega), List.map_snd_zip (by omega)] at this
  exact this
/-! what is known of the numbers -/
theorem told_has : ∀ (ms acc : List Int) (m : Int), m ∈ ms.foldl toldF acc ↔ m ∈ acc ∨ (m ∈ ms ∧ m ≠ -1)
  | [], acc, m => by simp
  | x :: r, acc, m => by
    show m ∈ r.foldl toldF (toldF acc x) ↔ _
    rw [told_has r]
    unfold toldF
    split
    · rename_i c
      simp only [List.mem_append, List.mem_cons, List.mem_singleton, List.not_mem_nil, or_false]
      constructor
      · rintro ((h | h) | h)
        · exact .inl h
        · exact .inr ⟨.inl h, h ▸ c.1⟩
        · exact .inr ⟨.inr h.1, h.2⟩
      · rintro (h | ⟨h | h, n⟩)
        · exact .inl (.inl h)
        · exact .inl (.inr h)
        · exact .inr ⟨h, n⟩
    · rename_i c
      simp only [List.mem_cons]
      constructor
      · rintro (h | h)
        · exact .inl h
        · exact .inr ⟨.inr h.1, h.2⟩
      · rintro (h | ⟨h | h, n⟩)
        · exact .inl h
        · subst h
          by_cases z : m ∈ acc
          · exact .inl z
          · exact absurd ⟨n, z⟩ c
        · exact .inr ⟨h, n⟩
theorem told_mem {ms : List Int} {m : Int} : m ∈ told ms ↔ m ∈ ms ∧ m ≠ -1 := by
  unfold told
  rw [told_has]
  simp
theorem told_len : ∀ (ms acc : List Int), (ms.foldl toldF acc).length ≤ acc.length + ms.length
  | [], acc => by simp
  | x :: r, acc => by
    have h := told_len r (toldF acc x)
    have h2 : (toldF acc x).length ≤ acc.length + 1 := by
      unfold toldF
      split <;> simp
    show (r.foldl toldF (toldF acc x)).length ≤ acc.length + (r.length + 1)
    omega
theorem numOf_inj {ms : List Int} {a b : Int} (ha : a ∈ ms) (hb : b ∈ ms) : numOf (told ms) a = numOf (told ms) b ↔ a = b := by
  unfold numOf
  by_cases x : a = -1
  · by_cases y : b = -1
    · rw [if_pos x, if_pos y]
      exact ⟨fun _ => x.trans y.symm, fun _ => rfl⟩
    · rw [if_pos x, if_neg y]
      constructor
      · intro h
        omega
      · intro h
        exact absurd (h.symm.trans x) y
  · by_cases y : b = -1
    · rw [if_neg x, if_pos y]
      constructor
      · intro h
        omega
      · intro h
        exact absurd (h.trans y) x
    · rw [if_neg x, if_neg y]
      constructor
      · intro h
        have h2 : (told ms).idxOf a = (told ms).idxOf b := by omega
        have h3 := List.idxOf_lt_length_of_mem (told_mem.mpr ⟨ha, x⟩)
        have h4 := List.idxOf_lt_length_of_mem (told_mem.mpr ⟨hb, y⟩)
        have e1 : (told ms)[(told ms).idxOf a] = a := List.getElem_idxOf h3
        have e2 : (told ms)[(told ms).idxOf b] = b := List.getElem_idxOf h4
        rw [← e1, ← e2]
        congr 1
      · intro h
        rw [h]
theorem numOf_gone {ts : List Int} {a : Int} : numOf ts a = -1 ↔ a = -1 := by
  unfold numOf
  split
  · rename_i h
    exact ⟨fun _ => h, fun _ => rfl⟩
  · rename_i h
    constructor
    · intro z
      omega
    · intro z
      exact absurd z h
theorem numOf_range {ms : List Int} {a : Int} (ha : a ∈ ms) : -1 ≤ numOf (told ms) a ∧ numOf (told ms) a < (told ms).length := by
  unfold numOf
  split
  · constructor <;> omega
  · rename_i h
    have := List.idxOf_lt_length_of_mem (told_mem.mpr ⟨ha, h⟩)
    constructor <;> omega
theorem num_len (ms : List Int) : (num ms).length = ms.length := by unfold num; simp
theorem num_at {ms : List Int} {i : Nat} {a : Int} (h : ms[i]? = some a) : (num ms)[i]? = some (numOf (told ms) a) := by
  unfold num
  rw [List.getElem?_map, h]
  rfl
theorem num_at' {ms : List Int} {i : Nat} {c : Int} (h : (num ms)[i]? = some c) : ∃ a, ms[i]? = some a ∧ c = numOf (told ms) a := by
  unfold num at h
  rw [List.getElem?_map] at h
  cases e : ms[i]? with
  | none => rw [e] at h; cases h
  | some a =>
    rw [e] at h
    exact ⟨a, rfl, (Option.some.inj h).symm⟩
theorem num_num (ms : List Int) : num (num ms) = num ms := by
  refine num_cong (num_len ms) fun i j a b c d h1 h2 h3 h4 => ?_
  rw [num_at h2] at h1
  rw [num_at h4] at h3
  cases h1
  cases h3
  exact ⟨numOf_inj (List.mem_of_getElem? h2) (List.mem_of_getElem? h4), numOf_gone⟩
theorem num_small {ms : List Int} {c : Int} (h : c ∈ num ms) : -1 ≤ c ∧ c < ms.length := by
  obtain ⟨i, hi⟩ := List.getElem?_of_mem h
  obtain ⟨a, ha, rfl⟩ := num_at' hi
  have h1 := numOf_range (List.mem_of_getElem? ha)
  have h2 := told_len ms []
  have h3 : (told ms).length ≤ ms.length := by simpa [told] using h2
  omega
/-- marks with holders put to a mark -/
def marked (c : List Int) (ts : List Int) (m : Int) : List Int := c.mapIdx fun i x => if (i : Int) ∈ ts then m else x
theorem marked_len (c ts : List Int) (m : Int) : (marked c ts m).length = c.length := by unfold marked; simp
theorem marked_at {c ts : List Int} {m : Int} {i : Nat} {y : Int} (h : (marked c ts m)[i]? = some y) : ∃ x, c[i]? = some x ∧ y = if (i : Int) ∈ ts then m else x := by
  unfold marked at h
  rw [List.getElem?_mapIdx] at h
  cases e : c[i]? with
  | none => rw [e] at h; cases h
  | some a =>
    rw [e] at h
    exact ⟨a, rfl, (Option.some.inj h).symm⟩
/-- a mark that is new for one list and the other: the same numbers -/
theorem num_marked {bs ts : List Int} {m n : Int} (h : ∀ (i j : Nat) (b d : Int), bs[i]? = some b → bs[j]? = some d → (i : Int) ∈ ts → (j : Int) ∉ ts → (m = numOf (told bs) d ↔ n = d)) (hm : m = -1 ↔ n = -1) :
    num (marked (num bs) ts m) = num (marked bs ts n) := by
  refine num_cong (by rw [marked_len, marked_len, num_len]) fun i j a b c d h1 h2 h3 h4 => ?_
  obtain ⟨x1, e1, rfl⟩ := marked_at h1
  obtain ⟨x2, e2, rfl⟩ := marked_at h2
  obtain ⟨x3, e3, rfl⟩ := marked_at h3
  obtain ⟨x4, e4, rfl⟩ := marked_at h4
  rw [num_at e2] at e1
  rw [num_at e4] at e3
  cases e1
  cases e3
  have g2 := List.mem_of_getElem? e2
  have g4 := List.mem_of_getElem? e4
  by_cases p : (i : Int) ∈ ts
  · rw [if_pos p, if_pos p]
    by_cases q : (j : Int) ∈ ts
    · rw [if_pos q, if_pos q]
      exact ⟨⟨fun _ => rfl, fun _ => rfl⟩, hm⟩
    · rw [if_neg q, if_neg q]
      exact ⟨h i j x2 x4 e2 e4 p q, hm⟩
  · rw [if_neg p, if_neg p]
    by_cases q : (j : Int) ∈ ts
    · rw [if_pos q, if_pos q]
      refine ⟨?_, numOf_gone⟩
      have := h j i x4 x2 e4 e2 q p
      constructor
      · intro z
        exact (this.mp z.symm).symm
      · intro z
        exact (this.mpr z.symm).symm
    · rw [if_neg q, if_neg q]
      exact ⟨numOf_inj g2 g4, numOf_gone⟩
/-- a new mark -/
theorem num_fresh {bs ts : List Int} {n : Int} (hn : n ∉ bs) (hg : n ≠ -1) : num (marked (num bs) ts (bs.length : Int)) = num (marked bs ts n) := by
  refine num_marked (fun i j b d _ e _ _ => ?_) ⟨fun z => ?_, fun z => absurd z hg⟩
  · have g := List.mem_of_getElem? e
    have r := numOf_range g
    have l := told_len bs []
    have l2 : (told bs).length ≤ bs.length := by simpa [told] using l
    constructor
    · intro z
      omega
    · intro z
      exact absurd (z ▸ g) hn
  · have : (0 : Int) ≤ bs.length := Int.natCast_nonneg _
    omega
/-- gone ones -/
theorem num_gone {bs ts : List Int} : num (marked (num bs) ts (-1)) = num (marked bs ts (-1)) := by
  refine num_marked (fun i j b d _ e _ _ => ?_) ⟨fun _ => rfl, fun _ => rfl⟩
  constructor
  · intro z
    exact (numOf_gone.mp z.symm).symm
  · intro z
    exact (numOf_gone.mpr z.symm).symm
/-- a copy -/
theorem num_copied {bs ts : List Int} {k : Nat} {b : Int} (h : bs[k]? = some b) : num (marked (num bs) ts (numOf (told bs) b)) = num (marked bs ts b) := by
  refine num_marked (fun i j x d _ e _ _ => ?_) numOf_gone
  exact numOf_inj (List.mem_of_getElem? h) (List.mem_of_getElem? e)
end Jc
namespace Jc
open PySem PySem.Spec L2
open PyProof.Rows hiding St
/-! ### max of a tuple of ints -/
def rMaxT (K : PySem.W.Frag) : List V → Hp → VK → Prop := fun vs H Q => ∃ (a : Addr) (ns : List Int), vs = [V.ref a] ∧ SqT K H a (ns.map V.int) ∧ 0 < ns.length ∧ ∀ m, m ∈ ns → (∀ y, y ∈ ns → y ≤ m) → Q (.int m) H
section
variable {P : Program} {w : World} {A : Around} {E : Value → Shared → Prop} {s : Shared} {l : Addr}
theorem maxT_raw {its : List Value} {ns : List Int} {Q : Value → Shared → Prop} (hh : A.handled = none) (hl : s.heap.IsTuple l its.toArray) (hi : IntsAre its ns) (hne : 0 < ns.length)
    (h : ∀ h' tk M t', (∀ b o, s.heap.get? b = some o → h'.get? b = some o) → M ∈ ns → (∀ a, a ∈ ns → a ≤ M) → Q (.int M t') { s with heap := h', toks := tk }) : wpAny (model P w) A (call (.builtin "max") [.ref l]) Q E s := by
  obtain ⟨xs, e⟩ := hi.allInts.items
  have hn : numsOf (intItems xs).toList = ns := by rw [← e]; exact hi.numsOf
  rw [nums_intItems] at hn
  subst hn
  rw [e] at hl
  have h0 : 0 < xs.size := by simpa using hne
  have hlt : l < s.heap.objs.size := by
    obtain ⟨_, z, _⟩ := hl
    exact Heap.lt_size z
  refine call_max_walk (wpAny_pyIter_tuple hl ⟨s.heap.objs.size, [s.heap.objs.size, l], [s.heap.objs.size], (intItems xs).size, _, _, _, rfl, Walks.tuple (A := A.in1) hh _ l (Nat.ne_of_lt hlt) (intItems xs), ⟨⟨_, Heap.get?_push_size _ rfl, rfl, rfl⟩, hl.push _⟩, ?_, by simpa [intItems] using h0, CmpOf.ints_gt (numAt xs) (fun _ _ => intItems_at), fun v h' tk hP hk => ?_⟩)
  · intro b hb
    show b < (s.heap.push _).objs.size
    rw [Heap.size_push]
    simp only [List.mem_cons, List.not_mem_nil, or_false] at hb
    rcases hb with z | z
    · rw [z]; exact Nat.lt_succ_self _
    · rw [z]; exact Nat.lt_succ_of_lt hlt
  · have hv : (intItems xs)[argBest (fun i j => decide (numAt xs i > numAt xs j)) (xs.size - 1)]? = some v := by simpa [intItems] using hP
    obtain ⟨t, rfl⟩ := intItems_at hv
    obtain ⟨h1, h2⟩ := argBest_gt (numAt xs) (xs.size - 1)
    refine h h' tk _ t (fun b o z => hk b o (fun hm => ?_) (Heap.get?_push_of_some _ z)) ?_ fun a ha => ?_
    · rw [List.mem_singleton.mp hm] at z
      exact absurd (Heap.lt_size z) (Nat.lt_irrefl _)
    · rw [numAt_eq]
      exact PySem.getD_mem (by rw [List.length_map, Array.length_toList]; omega)
    · obtain ⟨j, hj, rfl⟩ := mem_getD ha
      rw [List.length_map, Array.length_toList] at hj
      rw [← numAt_eq]
      exact h2 j (by omega)
end
theorem cr_maxT {X : Cx} (hc : X.calm = true) : CallR X (.builtin "max") (rMaxT X.K) := by
  intro pins s σ H vs us Q I r h
  obtain ⟨a, ns, rfl, hs, hne, q⟩ := h
  obtain ⟨its, rv, hl, _⟩ := I.tuple hs
  rw [Vals.ref1 r]
  exact maxT_raw (I.ok.hd hc) (show s.heap.IsTuple a its.toArray from hl) rv.ints hne fun h' tk m t' hk h1 h2 => ⟨.int _, H, I.kept hk, ⟨_, rfl⟩, q m h1 h2⟩
/-! ### enumerate(tuple) -/
def Ent (K : PySem.W.Frag) (a : Addr) : It :=
  ⟨fun i H => ∃ xs x, SqT K H a xs ∧ xs[i]? = some x, fun i H v H' => ∃ T x, v = .ref T ∧ H T = none ∧ H' = upd H T (.tup [.int (i : Nat), x]) ∧ ∀ xs, SqT K H a xs → xs[i]? = some x, fun i H => ∃ xs, SqT K H a xs ∧ xs.length = i⟩
theorem turn_ent {P : Program} {w : World} {K : PySem.W.Frag} {elts : List Expr} {kk : Nat} {tpos : Pos} (a e it : Addr) (hai : a ≠ it) (hae : a ≠ e) :
    Turn P w K (.Tuple elts kk tpos) (Ent K a) [e, it] e (fun i h => (∃ old, IsEnum h e it ((i : Nat) : Int) old) ∧ h.IsTupleIter it a i ∧ e ≠ it) where
  mem := List.mem_cons_self
  obj := fun i h st b hb => by
    obtain ⟨⟨old, he⟩, ⟨o, ho, hc, hd⟩, _⟩ := st
    rcases List.mem_cons.mp hb with z | z
    · rw [z]; exact ⟨_, he, fun v q => nomatch q⟩
    · rw [List.mem_singleton.mp z]; exact ⟨o, ho, fun v q => by rw [hd] at q; cases q⟩
  keep := fun i h h' st k => by
    obtain ⟨⟨old, he⟩, hi, hne⟩ := st
    exact ⟨⟨old, k e List.mem_cons_self _ he⟩, hi.at fun o q => k it (by simp) o q, hne⟩
  item := by
    intro X hP hw hK hc i pins s σ H E I hf st hg
    subst hP hw hK
    obtain ⟨⟨old, he⟩, hit, hne⟩ := st
    obtain ⟨xs, x, hq, hx⟩ := hg
    obtain ⟨its, rv, p, hz⟩ := I.tuple hq
    obtain ⟨u, hu, ru⟩ := rv.get hx
    have hel : e < s.heap.objs.size := Heap.lt_size he
    have hil : it < s.heap.objs.size := by obtain ⟨_, q, _⟩ := hit; exact Heap.lt_size q
    have hd : X.A.in1.handled = none := I.ok.hd hc
    have hib : i < its.toArray.size := by
      have := (List.getElem?_eq_some_iff.mp hu).1
      simpa using this
    refine wpAny_pyNext_enum_itemD (Draws.tuple hd it a hai its.toArray) he ⟨hit, p⟩ hib hne (by simp [hne, Ne.symm hae]) fun v h' tk hv ho st' hT hsz hk => ?_
    have ev : v = u := by
      have z : its.toArray[i]? = some v := hv
      rw [List.getElem?_toArray, hu] at z
      exact (Option.some.inj z).symm
    subst ev
    refine ⟨_, rfl, wpAny_letOwnedTupleGo_enum (s := { s with heap := h', toks := tk + 1 }) ho fun h'' he' sb => ?_⟩
    have hT2 : h''.get? s.heap.objs.size = some { cls := .type "tuple", data := .seq #[.int i tk, v] } := (sb.2 _ (Nat.ne_of_gt hel)).trans hT
    have new : ObjOk X.prog X.w (upd H s.heap.objs.size (.tup [.int (i : Nat), x])) h'' s.heap.objs.size (.tup [.int (i : Nat), x]) := ⟨two_le, [.int i tk, v], .cons ⟨_, rfl⟩ (.cons ru .nil), ⟨_, hT2, rfl, _, rfl⟩⟩
    have I1 : Inv X pins σ (upd H s.heap.objs.size (.tup [.int (i : Nat), x])) { s with heap := h'', toks := tk + 1 } :=
      I.turnedNew (ch := [e, it]) (fun b ob hb q => by
        have n1 : b ≠ e := fun z => hb (by simp [z])
        have n2 : b ≠ it := fun z => hb (by simp [z])
        exact (sb.2 b n1).trans (hk b ob n1 n2 q)) hf (Nat.le_refl _) new
    refine ⟨.ref s.heap.objs.size, _, I1, rfl, ⟨_, x, rfl, I.hok.fresh (Nat.le_refl _), rfl, fun ys hy => by rw [I.tuple_inj hy hq]; exact hx⟩, ⟨⟨v, ?_⟩, st'.1.at fun o q => (sb.2 it (Ne.symm hne)).trans q, hne⟩, fun b hb => ?_⟩
    · have e1 : ((i + 1 : Nat) : Int) = (i : Int) + 1 := by omega
      rw [e1]
      exact he'
    · have hb' : b < s.heap.objs.size := by
        rcases List.mem_cons.mp hb with z | z
        · rw [z]; exact hel
        · rw [List.mem_singleton.mp z]; exact hil
      rw [upd_ne (Nat.ne_of_lt hb')]
      exact (hf b hb).1
  done := by
    intro X hP hw hK hc i pins s σ H E I hf st hg
    subst hP hw hK
    obtain ⟨⟨old, he⟩, hit, hne⟩ := st
    obtain ⟨xs, hq, hx⟩ := hg
    obtain ⟨its, rv, p, hz⟩ := I.tuple hq
    obtain ⟨f0, f1, f2, f3, f4, f5⟩ := hf it (by simp)
    have hl := rv.length
    have hd : X.A.in1.handled = none := I.ok.hd hc
    have hn : its.toArray.size = i := by rw [List.size_toArray]; omega
    refine wpAny_pyNext_enum_endD (Draws.tuple hd it a hai its.toArray) he ⟨by rw [hn]; exact hit, p⟩ fun h' eb => ⟨rfl, I.turned (t' := s.toks) (fun b o hb q => eb b o hb q) f0 f1 f3 f4 f5⟩
  self := fun A i s Q E st h => by
    obtain ⟨⟨_, he⟩, _⟩ := st
    exact wpAny_pyIter_enum he h
def iEnt (K : PySem.W.Frag) (ta : TA) : TI := fun σ H R => ta σ H fun vs H1 => ∃ a xs, vs = [.ref a] ∧ SqT K H1 a xs ∧ R (Ent K a) H1
set_option maxHeartbeats 8000000 in
theorem meets_enew {v : Value} {o : Obj} {G : Heap → Prop} (B : Begins v o G) : Meets (Builtin.«enumerate.__new__» ⟨[.type "enumerate", v], []⟩) (fun _ R s => G s.heap ∧
      R (.ok (.ret (.ref (s.heap.push o).objs.size))) { s with heap := (s.heap.push o).push { cls := .type "enumerate", data := .fields #[.none, .bool false, .ref s.heap.objs.size, rawInt 0, .none, .none] } }) :=
  .of_wp fun P w A R s h => by
    obtain ⟨hp, g, d, tk, os⟩ := s
    obtain ⟨h1, h⟩ := h
    have hsub := sub_enumerate
    have st : ∀ {A' : Around} {E : Value → Shared → Prop} {Q : Value → Shared → Prop}, Q (.ref hp.objs.size) ⟨hp.push o, g, d, tk, os⟩ → wpAny (model P w) A' (pyIter v) Q E ⟨hp, g, d, tk, os⟩ := fun q => B.iter P w _ _ _ _ h1 q
    wp_walk using st
    refine wpAny_stack_any fun z => wpAny_pure ?_
    split
    · rename_i c _ _ _ _ _
      cases (c == Value.type "enumerate") <;>
      · wp_walk using st
        exact ⟨_, rfl, h⟩
    · wp_walk using st
      exact ⟨_, rfl, h⟩
theorem pi_ent {X : Cx} {e : Expr} {ta : TA} {p pos tpos : Pos} {elts : List Expr} {kk : Nat} (hg : Gl X "enumerate") (hm : X.mg "enumerate" = none) (ha : PA X [e] ta) (hs : starEach [e] X.env = [(false, eval e X.env)] := by rfl) :
    PI X (.Tuple elts kk tpos) (.Call (.Name "enumerate" p) [e] [] pos) (iEnt X.K ta) := by
  refine ⟨fun pins s σ H R I h => ?_⟩
  refine Call_ (ld_blt I hg hm boot_enumerate (PyProof.Rows.callWith_type1 (thn (ha.run pos pins s σ H _ I h) fun us s1 ⟨vs, H1, I1, r1, q1⟩ => ?_) hs rfl))
  obtain ⟨a, xs, ex, hq, q⟩ := q1
  subst ex
  obtain ⟨its, rv, p', hz⟩ := I1.tuple hq
  rw [Vals.ref1 r1]
  have hlt : a < s1.heap.objs.size := by
    obtain ⟨_, z, _⟩ := (show s1.heap.IsTuple a its.toArray from p')
    exact Heap.lt_size z
  refine callType_new F.called_enumerate (by decide) (F.typeCall_enumerate_1 _) (F.newCall_enumerate_1 _) (fun obj => F.args_object_init_2 obj _) F.entry_enumerate_new (meets_enew (begins_tuple a its.toArray)) ⟨p', ?_⟩
  generalize ho : ({ cls := .type "tuple_iterator", data := .fields #[.ref a, .int 0 0] } : Obj) = o
  have hz1 : (s1.heap.push o).objs.size = s1.heap.objs.size + 1 := Heap.size_push ..
  show _ ∧ _
  have he : IsEnum ((s1.heap.push o).push { cls := .type "enumerate", data := .fields #[.none, .bool false, .ref s1.heap.objs.size, rawInt 0, .none, .none] }) (s1.heap.push o).objs.size s1.heap.objs.size 0 .none := Heap.get?_push_size _ rfl
  refine ⟨⟨_, he, rfl⟩, wpAny_pyIter_enum he ?_⟩
  refine ⟨(s1.heap.push o).objs.size, [(s1.heap.push o).objs.size, s1.heap.objs.size], _, _, H1, rfl, I1.kept (t' := s1.toks) fun b u z => Heap.get?_push_of_some _ (Heap.get?_push_of_some _ z), turn_ent a (s1.heap.push o).objs.size s1.heap.objs.size (Nat.ne_of_lt hlt) (by rw [hz1]; exact Nat.ne_of_lt (Nat.lt_succ_of_lt hlt)),
    ⟨⟨.none, he⟩, ⟨o, Heap.get?_push_of_some _ (Heap.get?_push_size _ (by subst ho; rfl)), by subst ho; rfl, by subst ho; rfl⟩, by rw [hz1]; exact Nat.succ_ne_self _⟩, fun b hb => ?_, q⟩
  have hle : s1.heap.objs.size ≤ b := by
    rcases List.mem_cons.mp hb with z | z
    · rw [z, hz1]; exact Nat.le_succ _
    · rw [List.mem_singleton.mp z]; exact Nat.le_refl _
  exact I1.fpOk hle (I1.hok.fresh hle)
section
variable {K : PySem.W.Frag} {a : Addr} {xs : List V}
theorem walk_ent : Walk (Ent K a) xs.length (fun H => SqT K H a xs) (YPair (fun i => some (.int (i : Nat))) (fun i => xs[i]?)) := by
  refine ⟨fun i _ hi q => ⟨xs, xs[i], q, by simp [hi]⟩, fun _ q => ⟨xs, q, rfl⟩, fun i H v H' _ q y => ?_⟩
  obtain ⟨T, x, h1, h2, h3, h4⟩ := y
  exact ⟨T, .int (i : Nat), x, h1, h2, h3, rfl, h4 xs q⟩
end
end Jc
namespace Jc
open PySem PySem.Spec L2
open PyProof.Rows hiding St
/-! ### set(list of ints) -/
abbrev empt (w : World) : Obj := { cls := .type "set", dict := none, data := .set #[] 0 (.fresh 0 0 (!w.params.followText "set-order")) }
section
variable {P : Program} {w : World} {A : Around} {E : Value → Shared → Prop} {s : Shared}
theorem set_list_raw {l : Addr} {items : Array Value} (ns : List Int) {Q : Value → Shared → Prop} (hh : A.handled = none) (hl : s.heap.IsList l items) (hit : IntsAre items.toList ns) (hb : ns.length + 1 < scanBound)
    (h : ∀ (h' : Heap) (tk c : Nat), SetR w h' s.heap.objs.size (fun j => decide (j ∈ ns)) c → c ≤ ns.length → (∀ b o, s.heap.get? b = some o → h'.get? b = some o) → Q (.ref s.heap.objs.size) { s with heap := h', toks := tk }) : wpAny (model P w) A (call (.type "set") [.ref l]) Q E s := by
  have sz : items.size = ns.length := by
    have z := hit.length
    rwa [Array.length_toList] at z
  obtain ⟨c, tl, m0⟩ := F.called_set.mro
  have m1 := F.called_set.made
  have m2 := F.called_set.sub
  refine wpAny_call (codeAny_of_tree ?_)
  show wpAny _ _ (callAny (.type "set") _) _ _ _
  refine wpAny_pure ⟨Code.quiet_builtin _ (by decide +kernel), codeAny_builtin F.entry_type_call ?_⟩
  rw [Around.under_plain (weight_type_call_type "set" [.ref l] []) rfl]
  have m3 := F.called_set.notType
  have m4 := F.called_set.canCreate
  have m5 := F.typeCall_set_1 (.ref l)
  repeat (any_goals (first | assumption | wp_step))

  refine codeAny_mono (code_set_led1 (.ref l) (E := E) (Q₁ := fun b t => b = .ref s.heap.objs.size ∧ t = { s with heap := s.heap.push (empt w) }) ⟨rfl, rfl⟩) fun r s1 hr => ?_
  match r, hr with
  | .error e, hr => exact hr
  | .ok .next, hr => exact hr.elim
  | .ok .brk, hr => exact hr.elim
  | .ok .cont, hr => exact hr.elim
  | .ok (.ret obj), hr =>
    obtain ⟨rfl, rfl⟩ := hr
    have g0 : (s.heap.push (empt w)).get? s.heap.objs.size = some (empt w) := Heap.get?_push_size _ rfl
    have g1 : Shared.TypeIs { s with heap := s.heap.push (empt w) } (.ref s.heap.objs.size) "set" := ⟨_, g0, rfl⟩
    have m6 := F.called_set.init.lookup
    have m7 := F.called_set.init.bind (.ref s.heap.objs.size)
    repeat (any_goals (first | assumption | wp_step))

    refine codeAny_mono (codeAny_call_builtin (R := wants (fun r t => r = .none ∧ ∃ h' tk c, t = { s with heap := h', toks := tk } ∧ SetR w h' s.heap.objs.size (fun j => decide (j ∈ ns)) c ∧ c ≤ ns.length ∧ (∀ b o, s.heap.get? b = some o → h'.get? b = some o)) E) F.called_set.init.plain F.entry_set_init (check_set_init_1 g1 ?_)) fun r2 s2 h2 => ?_
    · obtain ⟨⟨ocls, odict, odata, oslots⟩, hol, hcl, nl, hdl⟩ := hl
      replace hcl : ocls = .type "list" := hcl
      replace hdl : odata = .seq items nl := hdl
      subst hcl hdl
      have hol' : (s.heap.push (empt w)).get? l = some { cls := .type "list", dict := odict, data := .seq items nl, slots := oslots } := Heap.get?_push_of_some _ hol
      have m8 := F.sub_list_set
      have m9 := F.sub_list_frozenset
      have hne : (Value.type "list" == Value.type "dict") = false := by decide
      have hl1 : (s.heap.push (empt w)).IsList l items := ⟨_, hol', rfl, nl, rfl⟩
      unfold Builtin.«set.__init__» noKeywords Builtin.Frozenset.updateFrom
      generalize hPI : pyIter = PI
      wp_walk
      subst hPI

      refine wpAny_pyIter_list hl1 ?_
      refine wpAny_bind (wpAny_runValue ?_)
      have lS : l < s.heap.objs.size := Heap.lt_size hol
      have hq : A.in1.in1.in1.handled = none := by simp [hh]
      have z1 : (s.heap.push (empt w)).objs.size = s.heap.objs.size + 1 := Heap.size_push ..
      have nI : l ≠ (s.heap.push (empt w)).objs.size := by
        rw [z1]
        exact Nat.ne_of_lt (Nat.lt_succ_of_lt lS)
      have nS : s.heap.objs.size ∉ [(s.heap.push (empt w)).objs.size, l] := by
        rw [z1]
        intro hm
        rcases List.mem_cons.mp hm with y | y
        · exact absurd y (Nat.ne_of_lt (Nat.lt_succ_self _))
        · exact absurd (List.mem_singleton.mp y) (Nat.ne_of_gt lS)
      have val : ∀ (i : Nat) (v : Value), items[i]? = some v → ∃ k t, ns[i]? = some k ∧ v = .int k t := fun i v hv => by
        have hi : i < ns.length := sz ▸ (Array.getElem?_eq_some_iff.mp hv).1
        obtain ⟨t, e⟩ := hit.get i _ (List.getElem?_eq_getElem hi)
        rw [Array.getElem?_toList, hv] at e
        exact ⟨_, t, List.getElem?_eq_getElem hi, Option.some.inj e⟩
      refine set_update_ints ((Walks.list hq _ l nI items).toS) s.heap.objs.size nS ns sz hb val (items.size - 0) 0 _ (by omega) (Nat.zero_le _) ⟨⟨_, Heap.get?_push_size _ rfl, rfl, rfl⟩, (hl1.push _)⟩ ⟨0, Nat.le_refl 0, setR_new_at (Heap.get?_push_of_some _ g0)⟩ fun s' c' hm hc' hS' => ?_
      obtain ⟨h', g2, d', tk', os'⟩ := s'
      obtain rfl : g2 = s.gens := hm.gens
      obtain rfl : d' = s.drawn := hm.drawn
      obtain rfl : os' = s.os := hm.os
      refine wpAny_pure ?_
      show wpAny _ _ (ret Value.none) _ _ _
      refine wpAny_pure ⟨rfl, h', tk', c', rfl, hS', by omega, fun b o e => ?_⟩
      have b0 : b < s.heap.objs.size := Heap.lt_size e
      refine hm.heap b o (fun hx => ?_) (Heap.get?_push_of_some _ (Heap.get?_push_of_some _ e))
      rcases List.mem_cons.mp hx with y | y
      · exact absurd y (Nat.ne_of_lt b0)
      · have y2 := List.mem_singleton.mp y
        rw [z1] at y2
        exact absurd y2 (Nat.ne_of_lt (Nat.lt_succ_of_lt b0))

    · match r2, h2 with
      | .error e, h2 => exact h2
      | .ok .next, h2 => exact h2.elim
      | .ok .brk, h2 => exact h2.elim
      | .ok .cont, h2 => exact h2.elim
      | .ok (.ret r), h2 =>
        obtain ⟨rfl, h', tk, c', rfl, hS', hc', hk'⟩ := h2
        repeat (any_goals (first | assumption | wp_step))
        exact h _ _ _ hS' hc' hk'
end
def rSetL (w : World) (K : PySem.W.Frag) : List V → Hp → VK → Prop := fun xs H Q => ∃ (a : Addr) (ns : List Int), xs = [.ref a] ∧ SqL K H a (ns.map V.int) ∧ ns.length ≤ 1000 ∧ ∀ p c, H p = none → c ≤ ns.length → Q (.ref p) (upd H p (SetO w p (fun j => decide (j ∈ ns)) c))
theorem cr_setL {X : Cx} (hc : X.calm = true) : CallR X (.type "set") (rSetL X.w X.K) := by
  intro pins s σ H xs us Q I r h
  obtain ⟨a, ns, rfl, hs, hl, q⟩ := h
  obtain ⟨its, rv, pl, hz⟩ := I.list hs
  rw [Vals.ref1 r]
  refine set_list_raw (items := its.toArray) ns (I.ok.hd hc) pl.isList (by simpa using rv.ints) (by unfold scanBound; omega) fun h' tk c R hcn k => ?_
  exact ⟨.ref _, upd H s.heap.objs.size (SetO X.w s.heap.objs.size (fun j => decide (j ∈ ns)) c), I.laid (t' := tk) k (Nat.le_refl _) (setO_new R), rfl, q _ _ (I.hok.fresh (Nat.le_refl _)) hcn⟩
end Jc
namespace Jc
open PySem PySem.Spec L2
open PyProof.Rows hiding St
theorem range_get {α : Type} : ∀ xs : List α, (List.range xs.length).filterMap (fun i => xs[i]?) = xs := by
  intro xs
  have h : ∀ n, n ≤ xs.length → (List.range n).filterMap (fun i => xs[i]?) = xs.take n := by
    intro n
    induction n with
    | zero => intro _; simp
    | succ n ih =>
      intro hn
      rw [List.range_succ, List.filterMap_append, ih (by omega), List.take_add_one]
      congr 1
  have := h xs.length (Nat.le_refl _)
  rwa [List.take_length] at this
/-- a comprehension, its kept elements told by f -/
theorem lc_sel {J : It} {n : Nat} {G : Hp → Prop} {Y : Nat → Hp → V → Hp → Prop} (w : Walk J n G Y) {g : TG} {tt : TT} {te : TE} {vs : List Nat} {σ : L2.St} {H1 : Hp} {D : Addr} {Qd : Hp → Prop} (f : Nat → Option V) (hn : n < 1000000) (hD : H1 D = none)
    (hG : ∀ H2, Same H1 H2 → G H2)
    (hs : ∀ i x H H2 (k : V → Hp → Prop) (kn : Hp → Prop), i < n → Same H1 H → Y i H x H2 → (∀ y H4, f i = some y → Same H H4 → k y H4) → (∀ H3, f i = none → Same H H3 → kn H3) →
      g x (wipe σ vs) H2 fun σ2 H3 => wipe σ2 vs = wipe σ vs ∧ tt σ2 H3 fun b H4 => if b = true then te σ2 H4 k else kn H4)
    (hd : ∀ H2, Same H1 H2 → H2 D = some (.lst ((List.range n).filterMap f)) → Qd H2) :
    ∃ W : Nat → Nat → Hp → Prop, (∃ m, W 0 m (upd H1 D (.lst []))) ∧ ∀ i m H, W i m H →
      (J.stop i H ∧ Qd H) ∨ (J.go i H ∧ ∃ Nx : Hp → Prop, (∀ H', Nx H' → ∃ m', m' < m ∧ W (i + 1) m' H') ∧ ∀ x H', J.yld i H x H' → g x (wipe σ vs) H' fun σ2 H2 => wipe σ2 vs = wipe σ vs ∧ tt σ2 H2 fun b H3 =>
        if b = true then te σ2 H3 fun y H4 => ∃ acc, H4 D = some (.lst acc) ∧ acc.length < sizeLine ∧ Nx (upd H4 D (.lst (acc ++ [y]))) else Nx H3) := by
  have hz : ∀ i, ((List.range i).filterMap f).length ≤ i := fun i => by
    have := List.length_filterMap_le f (List.range i)
    rwa [List.length_range] at this
  refine lc_it w (fun i H => Same H1 H ∧ H D = some (.lst ((List.range i).filterMap f))) ⟨same_new hD, upd_same⟩ (fun i H _ p => hG H p.1) ?_ ?_
  · rintro i x H H' hi ⟨s1, hy⟩ y
    refine hs i x H H' _ _ hi s1 y (fun z H4 e s4 => ⟨_, s4 _ _ hy, Nat.lt_of_lt_of_le (show ((List.range i).filterMap f).length < 1000000 from Nat.lt_of_le_of_lt (hz i) (by omega)) (by rw [sizeLine_eq]; decide), same_mut (s1.trans s4) hD, ?_⟩) fun H3 e s3 => ⟨s1.trans s3, ?_⟩
    · rw [upd_same, List.range_succ, List.filterMap_append]
      simp [e]
    · rw [s3 _ _ hy, List.range_succ, List.filterMap_append]
      simp [e]
  · rintro H ⟨s1, hy⟩
    exact hd H s1 hy
theorem inV_ints {m : Int} : ∀ ts : List Int, inV (.int m) (ts.map V.int) = decide (m ∈ ts)
  | [] => by simp [inV]
  | t :: r => by
    have ih := inV_ints (m := m) r
    unfold inV at ih ⊢
    rw [List.map_cons, List.any_cons, ih]
    show ((t == m) || decide (m ∈ r)) = decide (m ∈ t :: r)
    by_cases h : t = m
    · subst h; simp
    · have h2 : m ≠ t := fun z => h z.symm
      simp [h, h2]
theorem flat_ints : ∀ ts : List Int, (ts.map V.int).all flatV = true := fun ts => by
  rw [List.all_eq_true]
  intro x hx
  obtain ⟨y, _, rfl⟩ := List.mem_map.mp hx
  rfl
theorem get_ints {ts : List Int} {i : Nat} {x : V} (h : (ts.map V.int)[i]? = some x) : ∃ k : Int, ts[i]? = some k ∧ x = .int k := by
  rw [List.getElem?_map] at h
  cases e : ts[i]? with
  | none => rw [e] at h; cases h
  | some k =>
    rw [e] at h
    exact ⟨k, rfl, (Option.some.inj h).symm⟩
/-- the place of an int in a list, as list.index tells it -/
theorem idx_ints {ts : List Int} {m : Int} (h : m ∈ ts) : (ts.map V.int)[ts.idxOf m]? = some (.int m) ∧ ∀ (j : Nat) (z : V), j < ts.idxOf m → (ts.map V.int)[j]? = some z → eqV z (.int m) = false := by
  have hl := List.idxOf_lt_length_of_mem h
  refine ⟨?_, fun j z hj e => ?_⟩
  · rw [List.getElem?_map, List.getElem?_eq_getElem hl, List.getElem_idxOf hl]
    rfl
  · obtain ⟨k, hk, rfl⟩ := get_ints e
    have h3 := List.not_of_lt_findIdx (p := (· == m)) hj
    obtain ⟨h1, h2⟩ := List.getElem?_eq_some_iff.mp hk
    rw [h2] at h3
    exact h3
end Jc
namespace Jc
open PySem PySem.Spec L2
open PyProof.Rows hiding St
/-! ### rules whose readings name the kept objects: for the blocks of comprehensions, whose Cx may not stand in a reading -/
section
variable {X : Cx} {K : PySem.W.Frag} {o e : Expr} {es : List Expr} {to ta : TE} {t : TA} {name fl : Str} {apos cpos pos : Pos} {T id : String} {r : V → List V → Hp → VK → Prop}
theorem ixl_K (h : X.K = K) : IxR X (rIxL K) := by subst h; exact ix_list
theorem ixt_K (h : X.K = K) : IxR X (rIxT K) := by subst h; exact ix_tup
theorem in_K (h : X.K = K) : OpR X (compareOp .In) (rIn K false) := by subst h; exact op_in_seq
theorem notin_K (h : X.K = K) : OpR X (compareOp .NotIn) (rIn K true) := by subst h; exact op_notIn_seq
theorem index_K (h : X.K = K) : MtR X "list.index" (rIndex K) := by subst h; exact mt_index
theorem isi_K (h : X.K = K) : CallR X (.builtin "isinstance") (rIsi K) := by subst h; exact call_isi
theorem pe_bmK (h : X.K = K) (pa : PlainAttrs T) (slot : Slot T name id) (hty : typeOf (.builtin id) = pure (.type "method_descriptor")) (hm : MtR X id r) (ho : PE X o to) (ha : PA X (e :: es) t)
    (hbase : attributeBase o name X.env (eval o X.env) = eval o X.env := by rfl)
    (hfew : ((backTo cpos (starEach (e :: es) X.env)).all (fun x => !x.1) && (backToKw cpos (keywordEach [] X.env)).all (fun x => x.1.isSome) && decide ((e :: es).length + ([] : List Keyword).length + (if ([] : List Keyword).isEmpty then 0 else 1) < 30)) = true := by rfl)
    (hline : (apos.endLine == cpos.line) = true := by rfl) (hs : starEach (e :: es) X.env = (false, eval e X.env) :: starEach es X.env := by rfl) (hplain : (backTo cpos (starEach es X.env)).any (·.1) = false := by rfl) :
    PE X (.Call (.Attribute o name apos) (e :: es) [] cpos) (tBM K T r to t) := by
  subst h
  exact pe_bm pa slot hty hm ho ha hbase hfew hline hs hplain
theorem pe_fldK (h : X.K = K) (he : PE X e ta) (hb : attributeBase e fl X.env (eval e X.env) = eval e X.env := by rfl) : PE X (.Attribute e fl pos) (tFld K ta fl) := by
  subst h
  exact pe_fld he hb
theorem pg_tupK {ts : List Expr} {k : Nat} {tt : TGs} {n : Nat} (hK : X.K = K) (hc : X.calm = true) (h : PGs X ts tt)
    (hn : (assignEach ts X.env).length = n := by rfl) (hst : (assignEach ts X.env).findIdx? (·.1) = none := by rfl) : PG X (.Tuple ts k pos) (gTup K n tt) := by
  subst hK
  exact pg_tup hc h hn hst
end
theorem le_line {n : Nat} (h : n ≤ 1000000) : n ≤ sizeLine := Nat.le_trans h (by rw [sizeLine_eq]; decide)
theorem iteNT {c A B : Prop} [Decidable c] (hc : ¬ c) (h : A) : if (!decide c) = true then A else B := by
  rw [decide_eq_false hc]
  exact iteT h
theorem iteDT {c A B : Prop} [Decidable c] (hc : c) (h : A) : if decide c = true then A else B := by
  rw [decide_eq_true hc]
  exact iteT h
theorem iteDF {c A B : Prop} [Decidable c] (hc : ¬ c) (h : B) : if decide c = true then A else B := by
  rw [decide_eq_false hc]
  exact iteF h
end Jc
namespace Jc
open PySem PySem.Spec L2
open PyProof.Rows hiding St
def topS (i : Nat) : Stmt := PySem.Challenge.pw_cutshows_k17_whole_boxes_of_two_sides.main.body.getD i (.Pass ⟨0, 0, 0, 0⟩)
section
variable {P : Program} {w : World} {K : PySem.W.Frag} {mg : Str → Option Value} {base : Heap} {f : Addr} {fd : FuncData}
abbrev s_draw : Stmt := topS 26
abbrev N_draw : List Str := ["_law_pot_here", "_law_lot", "_law_digit"]
theorem sc_draw : FnScope N_draw ["_law_pot_here", "_law_lot"] (defScope s_draw) := ⟨rfl, rfl, rfl, by decide +kernel, rfl, by decide +kernel, by decide +kernel⟩
theorem ok_draw (F : Fun K "_law_draw" "_law_draw" s_draw f fd) (B : Blt mg) : FnG P w K mg base 1 f fd ["_law_pot_here", "_law_lot"] spDraw := by
  refine fnG_of F sc_draw (fun vs H Q E h => ?_) (fun us hl => ?_) (fun cdv A outer s H vs Q hr hq h => ?_)
  · obtain ⟨p, n, rfl, _⟩ := h
    rfl
  · match us, hl with
    | [_, _], _ => rfl
  · obtain ⟨p, n, rfl, hp, hn, hn2, q⟩ := h
    refine ⟨_, pss_pot (pss_cons (ps_if (pt_cmpR op_gt (pe_ix ix_list (pv 0) pe_int (fun _ _ => rfl)) pe_int (nomark _)) (pss_cons (ps_asg (pe_callB call_divmodW rfl B.divmod bo_divmod (pa_cons (pe_ix ix_list (pv 0) pe_int (fun _ _ => rfl)) (pa_cons (pv 1) pa_nil))) (pg_tup rfl (pgs_cons (pg_sub (pv 0) pe_int set_list) (pgs_cons (pg_name (i := 2) sc_draw.nd rfl (.inl rfl)) pgs_nil))))
      (pss_one (ps_ret (pe_pot (pv 2))))) pss_nil)
      (pss_cons (ps_asg (pe_op op_mod (pe_callTy call_int1 rfl B.int bo_int (pa_cons (pe_op op_add (pe_op op_mul (pe_ix ix_list (pv 0) pe_int (fun _ _ => rfl)) pe_int) pe_int) pa_nil)) pe_int) (pg_sub (pv 0) pe_int set_list))
      (pss_one (ps_ret (pe_pot (pe_op op_mod (pe_callTy call_int1 rfl B.int bo_int (pa_cons (pe_op op_fdiv (pe_op op_mod (pe_callTy call_int1 rfl B.int bo_int (pa_cons (pe_op op_mul (pe_ix ix_list (pv 0) pe_int (fun _ _ => rfl)) (pe_ix ix_list (pv 0) pe_int (fun _ _ => rfl))) pa_nil)) pe_int) pe_int) pa_nil)) (pv 1))))))), ?_⟩
    refine ⟨p, hp, fun a b ha hb hb2 => ?_⟩
    have S0 : SqL K (upd H p (.lst [.int a, .int b])) p [.int a, .int b] := .inl (.inl upd_same)
    have keep : ∀ b' u, b' ≠ p → H b' = some u → (upd H p (.lst [.int a, .int b])) b' = some u := fun b' u hb' e => by rw [upd_ne hb']; exact e
    refine ⟨.ref p, rfl, p, _, 0, .int a, rfl, rfl, S0, atI_nat (j := 0) rfl, _, _, rfl, rfl, _, rfl, ite2 (fun hc => ?_) (fun hc => ?_)⟩
    · have h0 : 0 < a := of_decide_eq_true hc
      refine ⟨.ref p, rfl, p, _, 0, .int a, rfl, rfl, S0, atI_nat (j := 0) rfl, .int n, rfl, a, n, rfl, ⟨hn, PyProof.noPylong_small (by omega)⟩, fun t nt => ?_⟩
      have npt : p ≠ t := fun e => by
        rw [e, upd_same] at nt
        cases nt
      -- pot[0], digit = ..
      refine ⟨t, _, rfl, .inl (.inl upd_same), rfl, _, _, rfl, ?_⟩
      refine ⟨.ref p, rfl, p, [.int a, .int b], 0, 0, rfl, rfl, by rw [upd_ne npt]; exact upd_same, rfl, _, _, rfl, rfl, ?_⟩
      refine ⟨.int (a % n), rfl, p, a / n, b, upd_same, Int.ediv_nonneg ha (by omega), hb, hb2, ?_⟩
      refine q (a % n) _ (Int.emod_nonneg a (by omega)) (Int.emod_lt_of_pos a hn) (same_back hp fun b' u hb' e => ?_)
      rw [upd_ne hb', upd_ne, upd_ne hb']
      · exact e
      · rintro rfl
        rw [upd_ne (Ne.symm npt)] at nt
        rw [e] at nt
        cases nt
    · refine ⟨.ref p, rfl, p, _, 1, .int b, rfl, rfl, S0, atI_nat (j := 1) rfl, b, 48271, rfl, rfl, .inr ⟨by decide, by decide⟩, _, _, rfl, rfl, .inl ⟨_, rfl, _, _, rfl, rfl, (by show (0 : Int) < 2147483587; decide), .ref p, rfl, p, [.int a, .int b], 1, 1, rfl, rfl, upd_same, rfl, ?_⟩⟩
      have c0 : 0 ≤ (b * 48271 + 12391) % 2147483587 := Int.emod_nonneg _ (by decide)
      have c1 : (b * 48271 + 12391) % 2147483587 < 2147483587 := Int.emod_lt_of_pos _ (by decide)
      have eS : ([V.int a, V.int b].set 1 (.int ((b * 48271 + 12391) % 2147483587))) = [.int a, .int ((b * 48271 + 12391) % 2147483587)] := rfl
      rw [eS]
      generalize (b * 48271 + 12391) % 2147483587 = c at c0 c1
      have S1 : SqL K (upd (upd H p (.lst [.int a, .int b])) p (.lst [.int a, .int c])) p [.int a, .int c] := .inl (.inl upd_same)
      refine ⟨.ref p, rfl, p, _, 1, .int c, rfl, rfl, S1, atI_nat (j := 1) rfl, .ref p, rfl, p, _, 1, .int c, rfl, rfl, S1, atI_nat (j := 1) rfl, c, c, rfl, rfl, .inl ⟨by omega, by omega⟩, .inl ⟨_, rfl, _, _, rfl, rfl, (by show (0 : Int) < 2147483549; decide), _, _, rfl, rfl, ⟨by decide, by decide⟩, .inl ⟨_, rfl, .int n, rfl, _, n, rfl, rfl, hn, ?_⟩⟩⟩
      refine ⟨p, a, c, upd_same, ha, c0, c1, ?_⟩
      refine q _ _ (Int.emod_nonneg _ (by omega)) (Int.emod_lt_of_pos _ hn) (same_back hp fun b' u hb' e => ?_)
      rw [upd_ne hb', upd_ne hb']
      exact e
abbrev s_pot : Stmt := topS 25
abbrev N_pot : List Str := ["_law_script", "_law_k", "_law_cell"]
theorem sc_pot : FnScope N_pot ["_law_script", "_law_k"] (defScope s_pot) := ⟨rfl, rfl, rfl, by decide +kernel, rfl, by decide +kernel, by decide +kernel⟩
theorem ok_pot (F : Fun K "_law_pot" "_law_pot" s_pot f fd) (B : Blt mg) : FnG P w K mg base 1 f fd ["_law_script", "_law_k"] (spPot K) := by
  refine fnG_of F sc_pot (fun vs H Q E h => ?_) (fun us hl => ?_) (fun cdv A outer s H vs Q hr hq h => ?_)
  · obtain ⟨a, ns, k, rfl, _⟩ := h
    rfl
  · match us, hl with
    | [_, _], _ => rfl
  · obtain ⟨a, ns, k, rfl, hS, hk, q⟩ := h
    refine ⟨_, (pss_cons (ps_set (i := 2) sc_pot.nd rfl (.inl rfl) (pe_op op_add (pe_op op_mul pe_int (pv 1)) pe_int))
      (Evl.pss_cut (ps_if (pt_cmpR op_lt (pv 1) (pe_callB call_len_seq rfl B.len bo_len (pa_cons (pv 0) pa_nil)) (nomark _)) (pss_one (ps_set (i := 2) sc_pot.nd rfl (.inl rfl) (pe_callB call_abs rfl B.abs bo_abs (pa_cons (pe_ix ix_list (pv 0) (pv 1) (fun _ _ => rfl)) pa_nil)))) pss_nil)
      (pss_one (ps_ret (pe_lst (pa_cons (pe_callB (call_max2 rfl) rfl B.max bo_max (pa_cons pe_int (pa_cons (pe_op op_sub (pv 2) (pe_op op_pow pe_int pe_int)) pa_nil))) (pa_cons (pe_op op_add (pe_op op_mod (pe_op op_mul (pe_callTy call_int1 rfl B.int bo_int (pa_cons (pe_op op_add (pe_op op_mod (pe_callTy call_int1 rfl B.int bo_int (pa_cons (pv 2) pa_nil)) pe_int) pe_int) pa_nil)) (pe_op op_pow (pe_op op_add (pe_op op_mul pe_int (pv 1)) pe_int) pe_int)) pe_int) pe_int) pa_nil))))))), ?_⟩
    refine ⟨.int k, rfl, _, _, rfl, rfl, .inl ⟨by decide, by decide⟩, _, _, rfl, rfl, ?_⟩
    refine ⟨fun σ H' => H' = H ∧ ∃ z : Int, σ = [some (.ref a), some (.int k), some (.int z)], ?_, ?_⟩
    · refine ⟨.int k, rfl, .ref a, rfl, a, _, rfl, .inl hS, _, _, rfl, rfl, _, rfl, ite2 (fun hc => ?_) (fun hc => ?_)⟩
      · have hc2 : (k : Int) < ((ns.map V.int).length : Int) := of_decide_eq_true hc
        have hlt : k < ns.length := by rw [List.length_map] at hc2; omega
        have g : (ns.map V.int)[k]? = some (.int ns[k]) := by rw [List.getElem?_map, List.getElem?_eq_getElem hlt]; rfl
        exact ⟨.ref a, rfl, .int k, rfl, a, _, _, _, rfl, rfl, hS, atI_nat g, _, rfl, rfl, _, rfl⟩
      · exact ⟨rfl, _, rfl⟩
    · rintro σ H' ⟨rfl, z, rfl⟩
      refine ⟨.int z, rfl, _, _, rfl, rfl, ⟨by decide, by decide, by decide⟩, _, _, rfl, rfl, _, _, rfl, ?_⟩
      refine ⟨.int z, rfl, .inl ⟨_, rfl, _, _, rfl, rfl, (by show (0 : Int) < 2147483549; decide), _, _, rfl, rfl, .inl ⟨_, rfl, ?_⟩⟩⟩
      refine ⟨.int k, rfl, _, _, rfl, rfl, .inl ⟨by decide, by decide⟩, _, _, rfl, rfl, _, _, rfl, rfl, ⟨by decide, by decide, by omega⟩, _, _, rfl, rfl, ?_, ?_⟩
      · have e0 := Int.emod_nonneg z (show (2147483549 : Int) ≠ 0 by decide)
        have e1 := Int.emod_lt_of_pos z (show (0 : Int) < 2147483549 by decide)
        exact .inl ⟨by omega, by omega⟩
      · refine ⟨_, _, rfl, rfl, (by show (0 : Int) < 2147483477; decide), _, _, rfl, rfl, two_le, fun p np => ?_⟩
        refine q p _ _ np ?_ ?_ ?_
        · split <;> omega
        · have := Int.emod_nonneg ((z % 2147483549 + 19) * (2 * (k : Int) + 3) ^ (3 : Int).toNat) (show (2147483477 : Int) ≠ 0 by decide)
          omega
        · have := Int.emod_lt_of_pos ((z % 2147483549 + 19) * (2 * (k : Int) + 3) ^ (3 : Int).toNat) (show (0 : Int) < 2147483477 by decide)
          omega
end
end Jc
namespace Jc
open PySem PySem.Spec L2
open PyProof.Rows hiding St
structure TxP (mg : Str → Option Value) (t1 : Tok) : Prop where
  GONE : mg "GONE" = some (.int (-1) t1)
def spInt : Sp := fun vs H Q _ => ∃ i : Int, vs = [.int i] ∧ Q (.bl true) H
def spCnt : Sp := fun vs H Q _ => ∃ i : Int, vs = [.int i] ∧ Q (.bl (decide (0 ≤ i))) H
/-- a list or tuple of ints -/
def SqI (K : PySem.W.Frag) (H : Hp) (b : Addr) (hs : List Int) : Prop := SqL K H b (hs.map V.int) ∨ SqT K H b (hs.map V.int)
def spHold (K : PySem.W.Frag) : Sp := fun vs H Q _ => ∃ (a b : Addr) (c hs : List Int), vs = [.ref a, .ref b] ∧ SqT K H a (c.map V.int) ∧ SqI K H b hs ∧ (∀ h ∈ hs, 0 ≤ h ∧ h < (c.length : Int)) ∧ ∀ H2, Same H H2 → Q .non H2
def spNum (K : PySem.W.Frag) : Sp := fun vs H Q _ => ∃ (a : Addr) (ms : List Int), vs = [.ref a] ∧ SqL K H a (ms.map V.int) ∧ ms.length ≤ 1000 ∧ ∀ (p : Addr) (H2 : Hp), Same H H2 → H p = none → H2 p = some (.lst ((num ms).map V.int)) → Q (.ref p) H2
def members (c : List Int) (m : Int) : List Int := (List.range c.length).filterMap fun i : Nat => if c[i]? = some m then some (i : Int) else none
def spMem (K : PySem.W.Frag) : Sp := fun vs H Q _ => ∃ (a : Addr) (c : List Int) (m : Int), vs = [.ref a, .int m] ∧ SqT K H a (c.map V.int) ∧ c.length ≤ 1000 ∧ ∀ (p : Addr) (H2 : Hp), Same H H2 → H p = none → H2 p = some (.lst ((members c m).map V.int)) → Q (.ref p) H2
def spMark (K : PySem.W.Frag) : Sp := fun vs H Q _ => ∃ (a b : Addr) (c hs : List Int) (m : Int), vs = [.ref a, .ref b, .int m] ∧ SqT K H a (c.map V.int) ∧ SqI K H b hs ∧ c.length ≤ 1000 ∧ ∀ (p : Addr) (H2 : Hp), Same H H2 → H p = none → H2 p = some (.lst ((marked c hs m).map V.int)) → Q (.ref p) H2
theorem seqT {K : PySem.W.Frag} {H H' : Hp} {a : Addr} {xs : List V} (e : Same H H') (h : SqT K H a xs) : SqT K H' a xs := by
  rcases h with (h | ⟨o, h⟩) | h
  · exact .inl (.inl (e _ _ h))
  · exact .inl (.inr ⟨o, e _ _ h⟩)
  · exact .inr h
theorem SqI.same {K : PySem.W.Frag} {H H2 : Hp} {b : Addr} {hs : List Int} (s : Same H H2) (h : SqI K H b hs) : SqI K H2 b hs := h.imp (fun z => s.seq z) (fun z => seqT s z)
section
variable {P : Program} {w : World} {K : PySem.W.Frag} {mg : Str → Option Value} {base : Heap} {f : Addr} {fd : FuncData} {t1 : Tok}
abbrev s_is_integer : Stmt := topS 2
abbrev N_is_integer : List Str := ["value"]
theorem sc_is_integer : FnScope N_is_integer ["value"] (defScope s_is_integer) := ⟨rfl, rfl, rfl, by decide +kernel, rfl, by decide +kernel, by decide +kernel⟩
theorem ok_is_integer (F : Fun K "is_integer" "is_integer" s_is_integer f fd) (B : Blt mg) : FnOk P w K mg base CX0 1 f fd ["value"] spInt := by
  refine F.ok sc_is_integer (fun vs H Q E h => ?_) (fun cdv A outer s H vs Q E hr h => ?_)
  · obtain ⟨i, rfl, _⟩ := h
    rfl
  · obtain ⟨i, rfl, q⟩ := h
    refine ⟨_, (pss_one (ps_ret (pe_and (pe_callB call_isi rfl B.isinstance bo_isinstance (pa_cons (pv 0) (pa_cons (pe_bltn (v := .ty "int") rfl B.int bo_int rfl) pa_nil))) (pe_one (pe_not (pe_callB call_isi rfl B.isinstance bo_isinstance (pa_cons (pv 0) (pa_cons (pe_bltn (v := .ty "bool") rfl B.bool bo_bool rfl) pa_nil)))))))), ?_⟩
    exact ⟨.int i, rfl, .int i, _, _, _, _, rfl, .ty "int", .base (.int i), kit_ty (r := true) (by decide +kernel), _, rfl, .int i, rfl, .int i, _, _, _, _, rfl, .ty "bool", .base (.int i), kit_ty (r := false) (by decide +kernel), _, rfl, q⟩
abbrev s_is_count : Stmt := topS 3
abbrev N_is_count : List Str := ["value"]
theorem sc_is_count : FnScope N_is_count ["value"] (defScope s_is_count) := ⟨rfl, rfl, rfl, by decide +kernel, rfl, by decide +kernel, by decide +kernel⟩
theorem ok_is_count (F : Fun K "is_count" "is_count" s_is_count f fd) (c_is_integer : OwnK P w K mg base "is_integer" 1 ["value"] spInt) : FnOk P w K mg base CX0 2 f fd ["value"] spCnt := by
  refine F.ok sc_is_count (fun vs H Q E h => ?_) (fun cdv A outer s H vs Q E hr h => ?_)
  · obtain ⟨i, rfl, _⟩ := h
    rfl
  · obtain ⟨i, rfl, q⟩ := h
    refine ⟨_, (pss_one (ps_ret (pe_and (pe_ownk c_is_integer hr (by decide) (pa_cons (pv 0) pa_nil)) (pe_one (pe_cmpR op_ge (pv 0) pe_int (nomark _)))))), ?_⟩
    exact ⟨.int i, rfl, i, rfl, _, rfl, .int i, rfl, _, _, rfl, rfl, q⟩
abbrev s_chold : Stmt := topS 15
abbrev N_chold : List Str := ["classes", "holders", "holder"]
theorem sc_chold : FnScope N_chold ["classes", "holders"] (defScope s_chold) := ⟨rfl, rfl, rfl, by decide +kernel, rfl, by decide +kernel, by decide +kernel⟩
theorem ok_chold (F : Fun K "_check_holders" "_check_holders" s_chold f fd) (B : Blt mg) (c_is_count : OwnK P w K mg base "is_count" 2 ["value"] spCnt) : FnOk P w K mg base CX0 3 f fd ["classes", "holders"] (spHold K) := by
  refine F.ok sc_chold (fun vs H Q E h => ?_) (fun cdv A outer s H vs Q E hr h => ?_)
  · obtain ⟨a, b, c, hs, rfl, _⟩ := h
    rfl
  · obtain ⟨a, b, c, hs, rfl, hc, hb, hi, q⟩ := h
    rcases hb with hb | hb
    · refine ⟨_, (pss_one (ps_for PassesOwn.never rfl (pi_list (pv 1)) (pg_name (i := 2) sc_chold.nd rfl (.inl rfl)) (pss_one (ps_if (PW.pt (pw_or (pt_not (pt_val (pe_ownk c_is_count hr (by decide) (pa_cons (pv 2) pa_nil)))) (pw_or1 (pt_cmpR op_ge (pv 2) (pe_callB call_len_seq rfl B.len bo_len (pa_cons (pv 0) pa_nil)) (nomark _))))) (pss_one ps_never) pss_nil)))), ?_⟩
      refine ⟨_, rfl, b, rfl, ⟨_, hb⟩, for_it walk_list (fun i σ H2 => ∃ y, σ = [some (.ref a), some (.ref b), y] ∧ Same H H2) ⟨_, rfl, Same.refl H⟩ (fun _ _ _ _ z => by obtain ⟨_, _, s2⟩ := z; exact s2.seq hb) ?_ (fun σ H2 ⟨y, _, s2⟩ => q H2 s2)⟩
      rintro i x σ H1 H2 hi' ⟨y, rfl, s1⟩ ⟨rfl, hx⟩
      obtain ⟨h, hh, rfl⟩ := get_ints hx
      obtain ⟨h0, h1⟩ := hi h (List.mem_of_getElem? hh)
      refine ⟨.int h, rfl, h, rfl, ?_⟩
      rw [decide_eq_true h0]
      refine ⟨true, rfl, iteF ⟨.int h, rfl, .ref a, rfl, a, _, rfl, .inr (seqT s1 hc), _, _, rfl, rfl, _, rfl, ?_⟩⟩
      rw [List.length_map, decide_eq_false (by omega)]
      exact iteF ⟨_, rfl, s1⟩
    · refine ⟨_, (pss_one (ps_for PassesOwn.never rfl (pi_tup (pv 1)) (pg_name (i := 2) sc_chold.nd rfl (.inl rfl)) (pss_one (ps_if (PW.pt (pw_or (pt_not (pt_val (pe_ownk c_is_count hr (by decide) (pa_cons (pv 2) pa_nil)))) (pw_or1 (pt_cmpR op_ge (pv 2) (pe_callB call_len_seq rfl B.len bo_len (pa_cons (pv 0) pa_nil)) (nomark _))))) (pss_one ps_never) pss_nil)))), ?_⟩
      refine ⟨_, rfl, b, rfl, ⟨_, hb⟩, for_it walk_tup (fun i σ H2 => ∃ y, σ = [some (.ref a), some (.ref b), y] ∧ Same H H2) ⟨_, rfl, Same.refl H⟩ (fun _ _ _ _ z => by obtain ⟨_, _, s2⟩ := z; exact seqT s2 hb) ?_ (fun σ H2 ⟨y, _, s2⟩ => q H2 s2)⟩
      rintro i x σ H1 H2 hi' ⟨y, rfl, s1⟩ ⟨rfl, hx⟩
      obtain ⟨h, hh, rfl⟩ := get_ints hx
      obtain ⟨h0, h1⟩ := hi h (List.mem_of_getElem? hh)
      refine ⟨.int h, rfl, h, rfl, ?_⟩
      rw [decide_eq_true h0]
      refine ⟨true, rfl, iteF ⟨.int h, rfl, .ref a, rfl, a, _, rfl, .inr (seqT s1 hc), _, _, rfl, rfl, _, rfl, ?_⟩⟩
      rw [List.length_map, decide_eq_false (by omega)]
      exact iteF ⟨_, rfl, s1⟩
end
end Jc
namespace Jc
open PySem PySem.Spec L2
open PyProof.Rows hiding St
theorem told_take (ms : List Int) (i : Nat) {m : Int} (h : ms[i]? = some m) : (ms.take (i + 1)).foldl toldF [] = toldF ((ms.take i).foldl toldF []) m := by
  rw [List.take_add_one, h, List.foldl_append]
  rfl
theorem told_short (ms : List Int) (i : Nat) : ((ms.take i).foldl toldF []).length ≤ ms.length := by
  have h := told_len (ms.take i) []
  have h2 : (ms.take i).length ≤ ms.length := by rw [List.length_take]; omega
  have h3 : ([] : List Int).length = 0 := rfl
  omega
section
variable {P : Program} {w : World} {K : PySem.W.Frag} {mg : Str → Option Value} {base : Heap} {f : Addr} {fd : FuncData} {t1 : Tok}
abbrev s_numbered : Stmt := topS 19
abbrev N_numbered : List Str := ["marks", "told", "mark"]
theorem sc_numbered : FnScope N_numbered ["marks"] (defScope s_numbered) := ⟨rfl, rfl, rfl, by decide +kernel, rfl, by decide +kernel, by decide +kernel⟩
theorem ok_numbered (F : Fun K "numbered" "numbered" s_numbered f fd) (B : Blt mg) (T : TxP mg t1) : FnOk P w K mg base CX0 1 f fd ["marks"] (spNum K) := by
  refine F.ok sc_numbered (fun vs H Q E h => ?_) (fun cdv A outer s H vs Q E hr h => ?_)
  · obtain ⟨a, ms, rfl, _⟩ := h
    rfl
  · obtain ⟨a, ms, rfl, ha, hl, q⟩ := h
    refine ⟨_, (pss_cons (ps_set (i := 1) sc_numbered.nd rfl (.inr rfl) (pe_lst pa_nil))
      (pss_cons (ps_for PassesOwn.never rfl (pi_list (pv 0)) (pg_name (i := 2) sc_numbered.nd rfl (.inl rfl)) (pss_one (ps_if (PW.pt (pw_and (pt_cmpR op_ne (pv 2) (pe_glob (v := .int (-1)) rfl T.GONE ⟨_, rfl⟩) (nomark _)) (pw_and1 (pt_cmpR op_notIn_seq (pv 2) (pv 1) rfl)))) (pss_one (ps_expr (pe_bm PySem.F.plainAttrs_list PySem.F.slot_list_append PySem.F.type_list_append mt_append (pv 1) (pa_cons (pv 2) pa_nil)))) pss_nil)))
      (pss_one (ps_ret (pe_lc (own := [("mark", 2)]) (g := gName 2) rfl sc_numbered.nd (pi_list (pv 0)) (blkOk_by (own := [("mark", 2)]) (N := N_numbered) (sc := defScope s_numbered) (by decide +kernel)) (fun _ _ _ _ _ => pg_name (i := 2) sc_numbered.nd rfl (.inl rfl)) (fun _ _ _ _ _ => pts_nil) (fun _ _ _ _ _ => (pe_ifExp (pt_cmpR op_eq (pv 2) (pe_glob (v := .int (-1)) rfl T.GONE ⟨_, rfl⟩) (nomark _)) (pe_glob (v := .int (-1)) rfl T.GONE ⟨_, rfl⟩) (pe_bmK (K := K) rfl PySem.F.plainAttrs_list PySem.F.slot_list_index PySem.F.type_list_index (index_K (K := K) rfl) (pv 1) (pa_cons (pv 2) pa_nil))))))))), ?_⟩
    refine ⟨le_line (by decide), fun L nL => ?_⟩
    refine ⟨_, rfl, a, rfl, ⟨_, (same_new nL).seq ha⟩, for_it walk_list (fun i σ H2 => ∃ y, σ = [some (.ref a), some (.ref L), y] ∧ Same H H2 ∧ H2 L = some (.lst (((ms.take i).foldl toldF []).map V.int))) ⟨_, rfl, same_new nL, upd_same⟩ (fun _ _ _ _ z => by obtain ⟨_, _, s2, _⟩ := z; exact s2.seq ha) ?_ ?_⟩
    · rintro i x σ H1 H2 hi ⟨y, rfl, s1, hL⟩ ⟨rfl, hx⟩
      obtain ⟨m, hm, rfl⟩ := get_ints hx
      refine ⟨.int m, rfl, rfl, _, rfl, ?_⟩
      have e : (ms.take (i + 1)).foldl toldF [] = toldF ((ms.take i).foldl toldF []) m := told_take ms i hm
      by_cases c1 : m = -1
      · refine iteNS (congrArg V.int c1) (iteF ⟨_, rfl, s1, ?_⟩)
        rw [e, toldF, if_neg (fun z => z.1 c1)]
        exact hL
      · refine iteNT (fun z => c1 (V.int.inj z)) ⟨.int m, rfl, .ref L, rfl, ⟨L, _, rfl, .inl (.inl (.inl hL)), rfl, flat_ints _, _, rfl, ?_⟩⟩
        rw [if_pos (rfl : true = true), inV_ints]
        by_cases c2 : m ∈ (ms.take i).foldl toldF []
        · refine iteNS c2 ⟨_, rfl, s1, ?_⟩
          rw [e, toldF, if_neg (fun z => z.2 c2)]
          exact hL
        · have hz := told_short ms i
          refine iteNT c2 ⟨.ref L, rfl, .inl ⟨rfl, _, .inl (.inl hL)⟩, .int m, rfl, L, _, _, rfl, rfl, hL, ?_, ?_⟩
          · rw [List.length_map]
            exact Nat.lt_of_lt_of_le (show _ < 1000000 by omega) (by rw [sizeLine_eq]; decide)
          · refine ⟨_, rfl, same_mut s1 nL, ?_⟩
            rw [upd_same, e, toldF, if_pos ⟨c1, c2⟩, List.map_append]
            rfl
    · rintro σ H2 ⟨y, rfl, s2, hL⟩
      rw [List.length_map, List.take_length] at hL
      refine ⟨_, rfl, a, rfl, ⟨_, s2.seq ha⟩, fun D hD => ?_⟩
      refine lc_sel walk_list (fun i => ((num ms).map V.int)[i]?) (by rw [List.length_map]; omega) hD (fun H3 z => (s2.trans z).seq ha) ?_ ?_
      · rintro i x H3 H4 k kn hi z ⟨rfl, hx⟩ ky kk
        obtain ⟨m, hm, rfl⟩ := get_ints hx
        have e : ((num ms).map V.int)[i]? = some (.int (numOf (told ms) m)) := by rw [List.getElem?_map, num_at hm]; rfl
        refine ⟨rfl, ?_⟩
        refine iteT (B := kn H4) ?_
        refine ⟨.int m, rfl, rfl, _, rfl, ?_⟩
        by_cases c1 : m = -1
        · refine iteDT (congrArg V.int c1) (ky _ _ ?_ (Same.refl _))
          rw [e, numOf, if_pos c1]
        · have hmem : m ∈ told ms := told_mem.mpr ⟨List.mem_of_getElem? hm, c1⟩
          obtain ⟨i1, i2⟩ := idx_ints hmem
          refine iteDF (fun z => c1 (V.int.inj z)) ⟨.ref L, rfl, .inl ⟨rfl, _, .inl (.inl (z _ _ hL))⟩, .int m, rfl, L, _, .int m, (told ms).idxOf m, .int m, rfl, rfl, .inl (.inl (z _ _ hL)), rfl, flat_ints _, i1, (by show (m == m) = true; exact beq_self_eq_true m), i2, ?_⟩
          refine ky _ _ ?_ (Same.refl _)
          rw [e, numOf, if_neg c1]
      · intro H3 z hD2
        refine q D H3 (s2.trans z) (s2.free hD) ?_
        rw [hD2]
        have e : (ms.map V.int).length = ((num ms).map V.int).length := by rw [List.length_map, List.length_map, num_len]
        rw [e, range_get]
end
end Jc
namespace Jc
open PySem PySem.Spec L2
open PyProof.Rows hiding St
theorem members_map (c : List Int) (m : Int) : (members c m).map V.int = (List.range c.length).filterMap fun i : Nat => if c[i]? = some m then some (V.int (i : Int)) else none := by
  unfold members
  rw [List.map_filterMap]
  congr 1
  funext i
  split <;> rfl
theorem marked_get {c ts : List Int} {m : Int} {i : Nat} {x : Int} (h : c[i]? = some x) : (marked c ts m)[i]? = some (if (i : Int) ∈ ts then m else x) := by
  unfold marked
  rw [List.getElem?_mapIdx, h]
  rfl
section
variable {P : Program} {w : World} {K : PySem.W.Frag} {mg : Str → Option Value} {base : Heap} {f : Addr} {fd : FuncData} {t1 : Tok}
abbrev s_members : Stmt := topS 20
abbrev N_members : List Str := ["classes", "number", "holder", "found"]
theorem sc_members : FnScope N_members ["classes", "number"] (defScope s_members) := ⟨rfl, rfl, rfl, by decide +kernel, rfl, by decide +kernel, by decide +kernel⟩
theorem ok_members (F : Fun K "_members" "_members" s_members f fd) (B : Blt mg) : FnOk P w K mg base CX0 1 f fd ["classes", "number"] (spMem K) := by
  refine F.ok sc_members (fun vs H Q E h => ?_) (fun cdv A outer s H vs Q E hr h => ?_)
  · obtain ⟨a, c, m, rfl, _⟩ := h
    rfl
  · obtain ⟨a, c, m, rfl, ha, hl, q⟩ := h
    refine ⟨_, (pss_one (ps_ret (pe_lc (own := [("holder", 2), ("found", 3)]) (g := _) rfl sc_members.nd (pi_ent rfl B.enumerate (pa_cons (pv 0) pa_nil)) (blkOk_by (own := [("holder", 2), ("found", 3)]) (N := N_members) (sc := defScope s_members) (by decide +kernel)) (fun _ _ _ _ _ => pg_tupK (K := K) (n := 2) rfl rfl (pgs_cons (pg_name (i := 2) sc_members.nd rfl (.inl rfl)) (pgs_cons (pg_name (i := 3) sc_members.nd rfl (.inl rfl)) pgs_nil))) (fun _ _ _ _ _ => pts_one (pt_cmpR op_eq (pv 3) (pv 1) (nomark _))) (fun _ _ _ _ _ => (pv 2))))), ?_⟩
    refine ⟨.ref a, rfl, a, _, rfl, ha, fun D hD => ?_⟩
    refine lc_sel walk_ent (fun i => if c[i]? = some m then some (V.int (i : Int)) else none) (by rw [List.length_map]; omega) hD (fun H3 z => seqT z ha) ?_ ?_
    · rintro i x H3 H4 k kn hi z ⟨U, x1, x2, rfl, nU, rfl, e1, e2⟩ ky kk
      cases e1
      obtain ⟨x, hx, rfl⟩ := get_ints e2
      refine ⟨U, _, rfl, .inl (.inl upd_same), rfl, _, _, rfl, _, _, rfl, rfl, rfl, .int x, rfl, .int m, rfl, rfl, _, rfl, ?_⟩
      by_cases h : x = m
      · subst h
        refine iteDT rfl ⟨.int i, rfl, ky _ _ ?_ (same_new nU)⟩
        show (if c[i]? = some x then _ else _) = _
        rw [if_pos hx]
      · refine iteDF (fun y => h (V.int.inj y)) (kk _ ?_ (same_new nU))
        show (if c[i]? = some m then _ else _) = _
        rw [if_neg]
        rw [hx]
        exact fun y => h (Option.some.inj y)
    · intro H3 z hD2
      refine q D H3 z hD ?_
      rw [hD2, members_map, List.length_map]
abbrev s_marked_ : Stmt := topS 21
abbrev N_marked_ : List Str := ["classes", "holders", "mark", "holder", "number"]
theorem sc_marked_ : FnScope N_marked_ ["classes", "holders", "mark"] (defScope s_marked_) := ⟨rfl, rfl, rfl, by decide +kernel, rfl, by decide +kernel, by decide +kernel⟩
theorem ok_marked (F : Fun K "_marked" "_marked" s_marked_ f fd) (B : Blt mg) : FnOk P w K mg base CX0 1 f fd ["classes", "holders", "mark"] (spMark K) := by
  refine F.ok sc_marked_ (fun vs H Q E h => ?_) (fun cdv A outer s H vs Q E hr h => ?_)
  · obtain ⟨a, b, c, hs, m, rfl, _⟩ := h
    rfl
  · obtain ⟨a, b, c, hs, m, rfl, ha, hb, hl, q⟩ := h
    refine ⟨_, (pss_one (ps_ret (pe_lc (own := [("holder", 3), ("number", 4)]) (g := _) rfl sc_marked_.nd (pi_ent rfl B.enumerate (pa_cons (pv 0) pa_nil)) (blkOk_by (own := [("holder", 3), ("number", 4)]) (N := N_marked_) (sc := defScope s_marked_) (by decide +kernel)) (fun _ _ _ _ _ => pg_tupK (K := K) (n := 2) rfl rfl (pgs_cons (pg_name (i := 3) sc_marked_.nd rfl (.inl rfl)) (pgs_cons (pg_name (i := 4) sc_marked_.nd rfl (.inl rfl)) pgs_nil))) (fun _ _ _ _ _ => pts_nil) (fun _ _ _ _ _ => (pe_ifExp (pt_cmpR (in_K (K := K) rfl) (pv 3) (pv 1) rfl) (pv 2) (pv 4)))))), ?_⟩
    refine ⟨.ref a, rfl, a, _, rfl, ha, fun D hD => ?_⟩
    refine lc_sel walk_ent (fun i => ((marked c hs m).map V.int)[i]?) (by rw [List.length_map]; omega) hD (fun H3 z => seqT z ha) ?_ ?_
    · rintro i x H3 H4 k kn hi z ⟨U, x1, x2, rfl, nU, rfl, e1, e2⟩ ky kk
      cases e1
      obtain ⟨x, hx, rfl⟩ := get_ints e2
      have e : ((marked c hs m).map V.int)[i]? = some (.int (if (i : Int) ∈ hs then m else x)) := by rw [List.getElem?_map, marked_get hx]; rfl
      refine ⟨U, _, rfl, .inl (.inl upd_same), rfl, _, _, rfl, _, _, rfl, rfl, rfl, ?_⟩
      refine iteT (B := kn H3) ?_
      refine ⟨.int i, rfl, .ref b, rfl, ⟨b, _, rfl, SqI.same (z.trans (same_new nU)) hb, rfl, flat_ints _, _, rfl, ?_⟩⟩
      rw [if_neg (show ¬ (false = true) from Bool.false_ne_true), inV_ints]
      by_cases h : (i : Int) ∈ hs
      · refine iteDT h ⟨_, rfl, ky _ _ ?_ (same_new nU)⟩
        rw [e, if_pos h]
      · refine iteDF h ⟨_, rfl, ky _ _ ?_ (same_new nU)⟩
        rw [e, if_neg h]
    · intro H3 z hD2
      refine q D H3 z hD ?_
      rw [hD2]
      have e : (c.map V.int).length = ((marked c hs m).map V.int).length := by rw [List.length_map, List.length_map, marked_len]
      rw [e, range_get]
end
end Jc
namespace Jc
open PySem PySem.Spec L2
open PyProof.Rows hiding St
abbrev dI (ns : List Int) : PyData := .list (ns.map PyData.int)
theorem dpAll_ints {K : PySem.W.Frag} {H : Hp} : ∀ ns : List Int, DpAll K H (ns.map V.int) (ns.map PyData.int)
  | [] => .nil
  | n :: r => .cons (.int n) (dpAll_ints r)
theorem dp_ints {K : PySem.W.Frag} {H : Hp} {a : Addr} {ns : List Int} (h : H a = some (.lst (ns.map V.int))) : Dp K H (.ref a) (dI ns) := .lst (.inl (.inl h)) (dpAll_ints ns)
theorem eqv_ints (ns ms : List Int) : PyData.eqv (dI ns) (dI ms) = decide (ns = ms) := PySem.W.ked_eqvAll ns ms
/-- the facts of the class -/
structure PCf (K : PySem.W.Frag) (mg : Str → Option Value) (C : Addr) : Prop where
  cl : Cls K C
  na : NoAttr K C "_classes"
  mc : mg "Partition" = some (.ref C)
  rd : ∃ m u, ClX.CRead K C m ∧ ClX.CVal K C m "MOST_HOLDERS" (.int 8) u
def spAre (K : PySem.W.Frag) : Sp := fun vs H Q _ => ∃ (a : Addr) (ms : List Int), vs = [.ref a] ∧ H a = some (.lst (ms.map V.int)) ∧ 1 ≤ ms.length ∧ ms.length ≤ 8 ∧ ∀ H2, Same H H2 → Q (.bl (decide (num ms = ms))) H2
/-- a partition -/
structure PartAt (C : Addr) (H : Hp) (p : Addr) (c : List Int) : Prop where
  ex : ∃ dx t, H p = some (.ins C dx [("_classes", .ref t)]) ∧ H t = some (.tup (c.map V.int))
  lo : 1 ≤ c.length
  hi : c.length ≤ 8
  nu : num c = c
theorem PartAt.same {C : Addr} {H H2 : Hp} {p : Addr} {c : List Int} (s : Same H H2) (h : PartAt C H p c) : PartAt C H2 p c := by
  obtain ⟨⟨dx, t, h1, h2⟩, a, b, d⟩ := h
  exact ⟨⟨dx, t, s _ _ h1, s _ _ h2⟩, a, b, d⟩
/-- __init__: the new instance at x gets its classes -/
def spInit (K : PySem.W.Frag) (C : Addr) : Sp := fun vs H Q _ => ∃ (x dx a : Addr) (c : List Int), vs = [.ref x, .ref a] ∧ H x = some (.ins C dx []) ∧ H a = some (.lst (c.map V.int)) ∧ 1 ≤ c.length ∧ c.length ≤ 8 ∧ num c = c ∧
  ∀ (t : Addr) (H2 : Hp), H2 x = some (.ins C dx [("_classes", .ref t)]) → H2 t = some (.tup (c.map V.int)) → (∀ b o, b ≠ x → H b = some o → H2 b = some o) → Q .non H2
section
variable {P : Program} {w : World} {K : PySem.W.Frag} {mg : Str → Option Value} {base : Heap} {f C : Addr} {fd : FuncData} {t1 : Tok}
abbrev s_arecls : Stmt := topS 18
abbrev N_arecls : List Str := ["value", "number"]
theorem sc_arecls : FnScope N_arecls ["value"] (defScope s_arecls) := ⟨rfl, rfl, rfl, by decide +kernel, rfl, by decide +kernel, by decide +kernel⟩
theorem ok_arecls (F : Fun K "are_classes" "are_classes" s_arecls f fd) (B : Blt mg) (T : PCf K mg C) (c_is_integer : OwnK P w K mg base "is_integer" 1 ["value"] spInt) (c_numbered : OwnK P w K mg base "numbered" 1 ["marks"] (spNum K)) :
    FnOk P w K mg base CX0 2 f fd ["value"] (spAre K) := by
  refine F.ok sc_arecls (fun vs H Q E h => ?_) (fun cdv A outer s H vs Q E hr h => ?_)
  · obtain ⟨a, ms, rfl, _⟩ := h
    rfl
  · obtain ⟨a, ms, rfl, ha, l1, l8, q⟩ := h
    obtain ⟨mm, mu, crd, cvl⟩ := T.rd
    have hu := hr.units
    refine ⟨_, (pss_cons (ps_if (PW.pt (pw_or (pt_not (pt_val (pe_callB call_isiT rfl B.isinstance bo_isinstance (pa_cons (pv 0) (pa_cons (pe_tup (pa_cons (pe_bltn (v := .ty "list") rfl B.list bo_list rfl) (pa_cons (pe_bltn (v := .ty "tuple") rfl B.tuple bo_tuple rfl) pa_nil))) pa_nil))))) (pw_or1 (pt_not (pt_chain op_le op_le pe_int (pe_callB call_len_seq rfl B.len bo_len (pa_cons (pv 0) pa_nil)) (ClX.pe_cval (pe_glob (v := .ref C) rfl T.mc rfl))))))) (pss_one (ps_ret pe_bl)) pss_nil)
      (pss_cons (ps_if (pt_not (pt_val (pe_callB (cr_all rfl) rfl B.all bo_all (pa_cons (pe_lc (own := [("number", 1)]) (g := gName 1) rfl sc_arecls.nd (pi_list (pv 0)) (blkOk_by (own := [("number", 1)]) (N := N_arecls) (sc := defScope s_arecls) (by decide +kernel)) (fun _ _ _ _ _ => pg_name (i := 1) sc_arecls.nd rfl (.inl rfl)) (fun _ _ _ _ _ => pts_nil) (fun _ _ _ _ _ => (pe_ownk c_is_integer hr (by decide) (pa_cons (pv 1) pa_nil)))) pa_nil)))) (pss_one (ps_ret pe_bl)) pss_nil)
      (pss_one (ps_ret (pe_cmpR (op_eqD hu) (pe_ownk c_numbered hr (by decide) (pa_cons (pv 0) pa_nil)) (pe_callTy call_list_of rfl B.list bo_list (pa_cons (pv 0) pa_nil)) (nomark _)))))), ?_⟩
    refine ⟨.ref a, rfl, two_le, fun tp ntp => ?_⟩
    have s1 : Same H (upd H tp (.tup [.ty "list", .ty "tuple"])) := same_new ntp
    refine ⟨.ref a, tp, _, .type "list", [.type "list", .type "tuple"], true, rfl, upd_same, .cons (.ty "list") (.cons (.ty "tuple") .nil), .base (.lst (s1 _ _ ha)), kitAny_cons (b := true) (kit_ty (by decide +kernel)) (fun z => nomatch z) (fun _ => rfl), ?_⟩
    refine ⟨true, rfl, ?_⟩
    generalize upd H tp (.tup [.ty "list", .ty "tuple"]) = H1 at s1
    refine iteF ?_
    refine ⟨.ref a, rfl, a, _, rfl, .inl (.inl (.inl (s1 _ _ ha))), _, _, rfl, rfl, _, rfl, ?_⟩
    have hlen : (ms.map V.int).length = ms.length := List.length_map ..
    rw [hlen]
    refine iteDT (by omega) ⟨C, mm, _, mu, rfl, crd, cvl, ⟨_, _, rfl, rfl, _, rfl, iteNS (by omega) ?_⟩⟩
    refine ⟨.ref a, rfl, a, rfl, ⟨_, .inl (.inl (s1 _ _ ha))⟩, fun D hD => ?_⟩
    refine lc_sel walk_list (fun i => ((List.replicate ms.length true).map V.bl)[i]?) (by rw [hlen]; omega) hD (fun H3 z => .inl (.inl (z _ _ (s1 _ _ ha)))) ?_ ?_
    · rintro i x H3 H4 k kn hi z ⟨rfl, hx⟩ ky kk
      obtain ⟨m, hm, rfl⟩ := get_ints hx
      refine ⟨rfl, ?_⟩
      refine iteT (B := kn H4) ⟨.int m, rfl, m, rfl, ky _ _ ?_ (Same.refl _)⟩
      rw [List.map_replicate, List.getElem?_replicate, if_pos (by rw [hlen] at hi; exact hi)]
    · intro H3 z hD2
      have e : (ms.map V.int).length = ((List.replicate ms.length true).map V.bl).length := by simp
      rw [e, range_get] at hD2
      refine ⟨D, _, rfl, .inl (.inl hD2), ?_⟩
      have e2 : (List.replicate ms.length true).all id = true := by
        rw [List.all_eq_true]
        intro x hx
        exact (List.mem_replicate.mp hx).2
      rw [e2]
      refine ⟨true, rfl, iteF ?_⟩
      have s3 : Same H H3 := s1.trans z
      refine ⟨.ref a, rfl, a, ms, rfl, .inl (.inl (s3 _ _ ha)), by omega, fun p H4 s4 np h4 => ?_⟩
      refine ⟨.ref a, rfl, a, _, rfl, .inl (.inl (.inl (s4 _ _ (s3 _ _ ha)))), fun l nl => ?_⟩
      refine ⟨dI (num ms), dI ms, dp_ints ((same_new nl) _ _ h4), dp_ints upd_same, PySem.W.shaped_ints _, PySem.W.shaped_ints _, ?_⟩
      rw [eqv_ints]
      exact q _ (s3.trans (s4.trans (same_new nl)))
end
end Jc
namespace Jc
open PySem PySem.Spec L2
open PyProof.Rows hiding St
section
variable {P : Program} {w : World} {K : PySem.W.Frag} {mg : Str → Option Value} {base : Heap} {f C : Addr} {fd : FuncData} {t1 : Tok}
abbrev s_init : Stmt := inClass (topS 13) 1
abbrev N_init : List Str := ["self", "classes"]
theorem sc_init : FnScope N_init ["self", "classes"] (defScope s_init) := ⟨rfl, rfl, rfl, by decide +kernel, rfl, by decide +kernel, by decide +kernel⟩
theorem ok_init (F : Fun K "__init__" "Partition.__init__" s_init f fd) (B : Blt mg) (T : PCf K mg C) (c_arecls : OwnK P w K mg base "are_classes" 2 ["value"] (spAre K)) : FnOk P w K mg base CX0 3 f fd ["self", "classes"] (spInit K C) := by
  refine F.ok sc_init (fun vs H Q E h => ?_) (fun cdv A outer s H vs Q E hr h => ?_)
  · obtain ⟨x, dx, a, c, rfl, _⟩ := h
    rfl
  · obtain ⟨x, dx, a, c, rfl, hx, ha, l1, l8, hn, q⟩ := h
    refine ⟨_, (pss_cons (ps_if (pt_not (pt_val (pe_ownk c_arecls hr (by decide) (pa_cons (pv 1) pa_nil)))) (pss_one ps_never) pss_nil) (pss_one (ps_fld (pv 0) (pe_callTy call_tuple_of rfl B.tuple bo_tuple (pa_cons (pv 1) pa_nil)) rfl))), ?_⟩
    refine ⟨.ref a, rfl, a, c, rfl, ha, l1, l8, fun H2 s2 => ⟨_, rfl, iteNS hn ?_⟩⟩
    refine ⟨.ref a, rfl, a, _, rfl, .inl ⟨.inl (.inl (s2 _ _ ha)), fun t nt => ⟨.ref x, rfl, x, C, dx, [], rfl, (same_new nt) _ _ (s2 _ _ hx), T.cl, T.na, by decide, ?_⟩⟩⟩
    have hxt : t ≠ x := fun e => by
      rw [e, s2 _ _ hx] at nt
      cases nt
    refine q t _ upd_same ?_ (fun b o hb e => ?_)
    · rw [upd_ne hxt, upd_same]
    · rw [upd_ne hb]
      exact (same_new nt) _ _ (s2 _ _ e)
theorem mk_of {H : Hp} {Q : VK} {a : Addr} {c : List Int} (ha : H a = some (.lst (c.map V.int))) (l1 : 1 ≤ c.length) (l8 : c.length ≤ 8) (hn : num c = c) (q : ∀ p H2, Same H H2 → H p = none → PartAt C H2 p c → Q (.ref p) H2) :
    ∀ x dx, H x = none → H dx = none → dx ≠ x → spInit K C [.ref x, .ref a] (upd (upd H dx (.own x)) x (.ins C dx [])) (fun v H2 => v = .non ∧ Q (.ref x) H2) E0 := by
  intro x dx nx nd hne
  have s0 : Same H (upd (upd H dx (.own x)) x (.ins C dx [])) := same_mut (same_new nd) nx
  refine ⟨x, dx, a, c, rfl, upd_same, s0 _ _ ha, l1, l8, hn, fun t H2 h1 h2 k => ⟨rfl, q x H2 (fun b o e => k b o (ne_of_none e nx) (s0 _ _ e)) nx ⟨⟨dx, t, h1, h2⟩, l1, l8, hn⟩⟩⟩
/-- what the class's methods do to a partition's classes -/
def spGone (C : Addr) : Sp := fun vs H Q _ => ∃ (p : Addr) (c : List Int), vs = [.ref p] ∧ PartAt C H p c ∧ ∀ (q : Addr) (H2 : Hp), Same H H2 → H2 q = some (.lst ((members c (-1)).map V.int)) → Q (.ref q) H2
def spNew (C : Addr) (g : List Int → List Int → List Int) : Sp := fun vs H Q _ => ∃ (p : Addr) (c ts : List Int), vs = .ref p :: ts.map V.int ∧ PartAt C H p c ∧ ts.length ≤ 1000 ∧ (∀ h ∈ ts, 0 ≤ h ∧ h < (c.length : Int)) ∧ ∀ (q : Addr) (H2 : Hp), Same H H2 → PartAt C H2 q (num (g c ts)) → Q (.ref q) H2
/-- the same, its targets in a tuple that was just made -/
def spNewT (K : PySem.W.Frag) (C : Addr) (g : List Int → List Int → List Int) : Sp := fun vs H Q _ => ∃ (p t : Addr) (c ts : List Int), vs = [.ref p, .ref t] ∧ PartAt C H p c ∧ H t = some (.tup (ts.map V.int)) ∧ (∀ h ∈ ts, 0 ≤ h ∧ h < (c.length : Int)) ∧ ∀ (q : Addr) (H2 : Hp), Same H H2 → PartAt C H2 q (num (g c ts)) → Q (.ref q) H2
abbrev s_gone : Stmt := inClass (topS 13) 17
abbrev N_gone : List Str := ["self"]
theorem sc_gone : FnScope N_gone ["self"] (defScope s_gone) := ⟨rfl, rfl, rfl, by decide +kernel, rfl, by decide +kernel, by decide +kernel⟩
theorem ok_gone (F : Fun K "gone" "Partition.gone" s_gone f fd) (T : PCf K mg C) (G : TxP mg t1) (c_members : OwnK P w K mg base "_members" 1 ["classes", "number"] (spMem K)) : FnOk P w K mg base CX0 2 f fd ["self"] (spGone C) := by
  refine F.ok sc_gone (fun vs H Q E h => ?_) (fun cdv A outer s H vs Q E hr h => ?_)
  · obtain ⟨p, c, rfl, _⟩ := h
    rfl
  · obtain ⟨p, c, rfl, hp, q⟩ := h
    obtain ⟨⟨dx, t, h1, h2⟩, lo, hi, nu⟩ := hp
    refine ⟨_, (pss_one (ps_ret (pe_ownk c_members hr (by decide) (pa_cons (pe_fld (pv 0) rfl) (pa_cons (pe_glob (v := .int (-1)) rfl G.GONE ⟨_, rfl⟩) pa_nil))))), ?_⟩
    refine ⟨.ref p, rfl, p, C, dx, _, .ref t, rfl, h1, T.cl, T.na, rfl, ?_⟩
    exact ⟨t, c, -1, rfl, .inl (.inl h2), by omega, fun r H2 s2 _ h3 => q r H2 s2 h3⟩
abbrev s_fresh : Stmt := inClass (topS 13) 19
abbrev N_fresh : List Str := ["self", "targets"]
theorem sc_fresh : FnScope N_fresh ["self", "targets"] (defScope s_fresh) := ⟨rfl, rfl, rfl, by decide +kernel, rfl, by decide +kernel, by decide +kernel⟩
end
end Jc
namespace Jc
open PySem PySem.Spec L2
open PyProof.Rows hiding St
section
variable {P : Program} {w : World} {K : PySem.W.Frag} {mg : Str → Option Value} {base : Heap} {f C : Addr} {fd : FuncData} {t1 : Tok}
/-- def m(self, *v): FnR, its promise about the tuple of what is handed over -/
theorem star_mk {x qual : Str} {st : Stmt} {N : List Str} {pv : Str} {k : Nat} {sp : Sp} (F : Fun K x qual st f fd) (S : FnScope N ["self", pv] (defScope st))
    (h0 : ∀ (kV doc pm : Value) (an : Option Addr) (cdv ct a : Value), bindArgs (PySem.W.fnOf x qual (defArgs st) (defBody st) (defScope st) .none kV doc pm an cdv ct) ⟨[a], []⟩ = (newTuple [] >>= fun t => pure [(("self" : Str), a), (pv, t)]))
    (h1 : ∀ (kV doc pm : Value) (an : Option Addr) (cdv ct a r : Value) (rs : List Value), bindArgs (PySem.W.fnOf x qual (defArgs st) (defBody st) (defScope st) .none kV doc pm an cdv ct) ⟨a :: r :: rs, []⟩ = (newTuple (r :: rs) >>= fun t => pure [(("self" : Str), a), (pv, t)]))
    (body : ∀ (cdv : Value) (A : Around) (outer : List Env) (s : Shared) (H : Hp) (vs : List V) (Q : VK) (E : XK), Room k (A.deeper (envOfC qual (defScope st) s.heap.objs.size f cdv)) → sp vs H Q E →
      ∃ t, PSs (cxOf CX0 P w K mg base N qual (defScope st) f cdv A outer s H E) (defBody st) t ∧ t { nx := fun _ H' => Q .non H', rt := Q } (start N vs) H) :
    FnR P w K mg base CX0 (k + 1) f (fun vs H Q E => ∃ ws rest, vs = ws ++ rest ∧ ws.length = 1 ∧ rest.length ≤ sizeLine ∧ ∀ p, H p = Option.none → sp (ws ++ [V.ref p]) (upd H p (.tup rest)) Q E) := by
  obtain ⟨oc, od, kV, doc, pm, an, cdv, ct, osl, rfl, lk, hcd⟩ := F.ex
  exact StX.fn_star (ps := ["self"]) lk hcd S StX.cxUp_none (StX.bind_star1 (B := fun us => bindArgs (PySem.W.fnOf x qual (defArgs st) (defBody st) (defScope st) .none kV doc pm an cdv ct) ⟨us, []⟩) (fun a => h0 kV doc pm an cdv ct a) (fun a r rs => h1 kV doc pm an cdv ct a r rs)) (body cdv)
theorem PartAt.put {C : Addr} {H : Hp} {p t : Addr} {c : List Int} {o : HO} (h : PartAt C H p c) (n : H t = none) : PartAt C (upd H t o) p c := h.same (same_new n)
theorem num_lenM (c ts : List Int) (m : Int) : (num (marked c ts m)).length = c.length := by rw [num_len, marked_len]
abbrev gFresh (c ts : List Int) : List Int := marked c ts c.length
abbrev gWithout (c ts : List Int) : List Int := marked c ts (-1)
theorem ok_fresh (F : Fun K "fresh" "Partition.fresh" s_fresh f fd) (B : Blt mg) (T : PCf K mg C) (c_chold : OwnK P w K mg base "_check_holders" 3 ["classes", "holders"] (spHold K)) (c_numbered : OwnK P w K mg base "numbered" 1 ["marks"] (spNum K))
    (c_marked : OwnK P w K mg base "_marked" 1 ["classes", "holders", "mark"] (spMark K)) (M : OwnI P w K mg base C 3 (spInit K C)) : FnR P w K mg base CX0 5 f (spNew C gFresh) := by
  refine FnR.imp (star_mk (sp := spNewT K C gFresh) F sc_fresh (fun _ _ _ _ _ _ _ => rfl) (fun _ _ _ _ _ _ _ _ _ => rfl) (k := 4) fun cdv A outer s H vs Q E hr h => ?_) fun vs H Q E h => ?_
  · obtain ⟨p, b, c, ts, rfl, hp, hb, hi, q⟩ := h
    have hp0 := hp
    obtain ⟨⟨dx, t, h1, h2⟩, lo, h8, nu⟩ := hp
    refine ⟨_, (pss_cons (ps_expr (pe_ownk c_chold hr (by decide) (pa_cons (pe_fld (pv 0) rfl) (pa_cons (pv 1) pa_nil)))) (pss_one (ps_ret (pe_oi M hr (by decide) T.mc (pa_cons (pe_ownk c_numbered hr (by decide) (pa_cons (pe_ownk c_marked hr (by decide) (pa_cons (pe_fld (pv 0) rfl) (pa_cons (pv 1) (pa_cons (pe_callB call_len_seq rfl B.len bo_len (pa_cons (pe_fld (pv 0) rfl) pa_nil)) pa_nil)))) pa_nil)) pa_nil))))), ?_⟩
    refine ⟨.ref p, rfl, p, C, dx, _, .ref t, rfl, h1, T.cl, T.na, rfl, .ref b, rfl, t, b, c, ts, rfl, .inl (.inl h2), .inr (.inl (.inl hb)), hi, fun H2 s2 => ?_⟩
    refine ⟨.ref p, rfl, p, C, dx, _, .ref t, rfl, s2 _ _ h1, T.cl, T.na, rfl, .ref b, rfl, .ref p, rfl, p, C, dx, _, .ref t, rfl, s2 _ _ h1, T.cl, T.na, rfl, ?_⟩
    refine ⟨t, _, rfl, .inr (.inl (.inl (s2 _ _ h2))), ?_⟩
    rw [List.length_map]
    refine ⟨t, b, c, ts, _, rfl, .inl (.inl (s2 _ _ h2)), .inr (.inl (.inl (s2 _ _ hb))), by omega, fun l H3 s3 _ h3 => ?_⟩
    refine ⟨l, _, rfl, .inl (.inl h3), by rw [marked_len]; omega, fun r H4 s4 _ h4 => ?_⟩
    exact mk_of h4 (by rw [num_lenM]; omega) (by rw [num_lenM]; omega) (num_num _) fun y H5 s5 _ hy => q y H5 (s2.trans (s3.trans (s4.trans s5))) hy
  · obtain ⟨p, c, ts, rfl, hp, hz, hi, q⟩ := h
    exact ⟨[.ref p], ts.map V.int, rfl, rfl, le_line (by rw [List.length_map]; omega), fun t nt => ⟨p, t, c, ts, rfl, hp.put nt, upd_same, hi, fun y H2 s2 hy => q y H2 ((same_new nt).trans s2) hy⟩⟩
abbrev s_without : Stmt := inClass (topS 13) 20
abbrev N_without : List Str := ["self", "holders"]
theorem sc_without : FnScope N_without ["self", "holders"] (defScope s_without) := ⟨rfl, rfl, rfl, by decide +kernel, rfl, by decide +kernel, by decide +kernel⟩
theorem ok_without (F : Fun K "without" "Partition.without" s_without f fd) (B : Blt mg) (T : PCf K mg C) (G : TxP mg t1) (c_chold : OwnK P w K mg base "_check_holders" 3 ["classes", "holders"] (spHold K)) (c_numbered : OwnK P w K mg base "numbered" 1 ["marks"] (spNum K))
    (c_marked : OwnK P w K mg base "_marked" 1 ["classes", "holders", "mark"] (spMark K)) (M : OwnI P w K mg base C 3 (spInit K C)) : FnR P w K mg base CX0 5 f (spNew C gWithout) := by
  refine FnR.imp (star_mk (sp := spNewT K C gWithout) F sc_without (fun _ _ _ _ _ _ _ => rfl) (fun _ _ _ _ _ _ _ _ _ => rfl) (k := 4) fun cdv A outer s H vs Q E hr h => ?_) fun vs H Q E h => ?_
  · obtain ⟨p, b, c, ts, rfl, hp, hb, hi, q⟩ := h
    have hp0 := hp
    obtain ⟨⟨dx, t, h1, h2⟩, lo, h8, nu⟩ := hp
    refine ⟨_, (pss_cons (ps_expr (pe_ownk c_chold hr (by decide) (pa_cons (pe_fld (pv 0) rfl) (pa_cons (pv 1) pa_nil)))) (pss_one (ps_ret (pe_oi M hr (by decide) T.mc (pa_cons (pe_ownk c_numbered hr (by decide) (pa_cons (pe_ownk c_marked hr (by decide) (pa_cons (pe_fld (pv 0) rfl) (pa_cons (pv 1) (pa_cons (pe_glob (v := .int (-1)) rfl G.GONE ⟨_, rfl⟩) pa_nil)))) pa_nil)) pa_nil))))), ?_⟩
    refine ⟨.ref p, rfl, p, C, dx, _, .ref t, rfl, h1, T.cl, T.na, rfl, .ref b, rfl, t, b, c, ts, rfl, .inl (.inl h2), .inr (.inl (.inl hb)), hi, fun H2 s2 => ?_⟩
    refine ⟨.ref p, rfl, p, C, dx, _, .ref t, rfl, s2 _ _ h1, T.cl, T.na, rfl, .ref b, rfl, ?_⟩
    refine ⟨t, b, c, ts, -1, rfl, .inl (.inl (s2 _ _ h2)), .inr (.inl (.inl (s2 _ _ hb))), by omega, fun l H3 s3 _ h3 => ?_⟩
    refine ⟨l, _, rfl, .inl (.inl h3), by rw [marked_len]; omega, fun r H4 s4 _ h4 => ?_⟩
    exact mk_of h4 (by rw [num_lenM]; omega) (by rw [num_lenM]; omega) (num_num _) fun y H5 s5 _ hy => q y H5 (s2.trans (s3.trans (s4.trans s5))) hy
  · obtain ⟨p, c, ts, rfl, hp, hz, hi, q⟩ := h
    exact ⟨[.ref p], ts.map V.int, rfl, rfl, le_line (by rw [List.length_map]; omega), fun t nt => ⟨p, t, c, ts, rfl, hp.put nt, upd_same, hi, fun y H2 s2 hy => q y H2 ((same_new nt).trans s2) hy⟩⟩
end
end Jc
namespace Jc
open PySem PySem.Spec L2
open PyProof.Rows hiding St
def spCopied (C : Addr) : Sp := fun vs H Q _ => ∃ (p : Addr) (c : List Int) (t k : Nat) (m : Int), vs = [.ref p, .int (t : Int), .int (k : Int)] ∧ PartAt C H p c ∧ t < c.length ∧ c[k]? = some m ∧ ∀ (q : Addr) (H2 : Hp), Same H H2 → PartAt C H2 q (num (marked c [(t : Int)] m)) → Q (.ref q) H2
def pick (c ts : List Int) : List Int := ts.map fun h => c.getD h.toNat 0
def alikeB (c ts : List Int) : Bool := !decide ((-1) ∈ pick c ts) && ((pick c ts).map fun n => decide (n = (pick c ts).headD 0)).all id
def spAlikeT (K : PySem.W.Frag) (C : Addr) : Sp := fun vs H Q _ => ∃ (p t : Addr) (c ts : List Int), vs = [.ref p, .ref t] ∧ PartAt C H p c ∧ H t = some (.tup (ts.map V.int)) ∧ ts.length ≤ 1000 ∧ (∀ h ∈ ts, 0 ≤ h ∧ h < (c.length : Int)) ∧ ∀ (H2 : Hp), Same H H2 → Q (.bl (alikeB c ts)) H2
def spAlike (C : Addr) : Sp := fun vs H Q _ => ∃ (p : Addr) (c ts : List Int), vs = .ref p :: ts.map V.int ∧ PartAt C H p c ∧ ts.length ≤ 1000 ∧ (∀ h ∈ ts, 0 ≤ h ∧ h < (c.length : Int)) ∧ ∀ (H2 : Hp), Same H H2 → Q (.bl (alikeB c ts)) H2
theorem at_ints {ns : List Int} {i : Nat} {k : Int} (h : ns[i]? = some k) : atI (ns.map V.int) (i : Int) = some (.int k) := atI_nat (by rw [List.getElem?_map, h]; rfl)
section
variable {P : Program} {w : World} {K : PySem.W.Frag} {mg : Str → Option Value} {base : Heap} {f C : Addr} {fd : FuncData} {t1 : Tok}
abbrev s_copied : Stmt := inClass (topS 13) 18
abbrev N_copied : List Str := ["self", "target", "source"]
theorem sc_copied : FnScope N_copied ["self", "target", "source"] (defScope s_copied) := ⟨rfl, rfl, rfl, by decide +kernel, rfl, by decide +kernel, by decide +kernel⟩
theorem ok_copied (F : Fun K "copied" "Partition.copied" s_copied f fd) (T : PCf K mg C) (c_chold : OwnK P w K mg base "_check_holders" 3 ["classes", "holders"] (spHold K)) (c_numbered : OwnK P w K mg base "numbered" 1 ["marks"] (spNum K))
    (c_marked : OwnK P w K mg base "_marked" 1 ["classes", "holders", "mark"] (spMark K)) (M : OwnI P w K mg base C 3 (spInit K C)) : FnOk P w K mg base CX0 5 f fd ["self", "target", "source"] (spCopied C) := by
  refine F.ok sc_copied (fun vs H Q E h => ?_) (fun cdv A outer s H vs Q E hr h => ?_)
  · obtain ⟨p, c, t, k, m, rfl, _⟩ := h
    rfl
  · obtain ⟨p, c, tg, k, m, rfl, hp, ht, hm, q⟩ := h
    obtain ⟨⟨dx, t, h1, h2⟩, lo, h8, nu⟩ := hp
    have hk : k < c.length := (List.getElem?_eq_some_iff.mp hm).1
    refine ⟨_, (pss_cons (ps_expr (pe_ownk c_chold hr (by decide) (pa_cons (pe_fld (pv 0) rfl) (pa_cons (pe_lst (pa_cons (pv 1) (pa_cons (pv 2) pa_nil))) pa_nil)))) (pss_one (ps_ret (pe_oi M hr (by decide) T.mc (pa_cons (pe_ownk c_numbered hr (by decide) (pa_cons (pe_ownk c_marked hr (by decide) (pa_cons (pe_fld (pv 0) rfl) (pa_cons (pe_lst (pa_cons (pv 1) pa_nil)) (pa_cons (pe_ix ix_tup (pe_fld (pv 0) rfl) (pv 2) (fun _ _ => rfl)) pa_nil)))) pa_nil)) pa_nil))))), ?_⟩
    refine ⟨.ref p, rfl, p, C, dx, _, .ref t, rfl, h1, T.cl, T.na, rfl, .int tg, rfl, .int k, rfl, two_le, fun b nb => ?_⟩
    have s1 : Same H (upd H b (.lst [.int tg, .int k])) := same_new nb
    refine ⟨t, b, c, [(tg : Int), (k : Int)], rfl, .inl (.inl (s1 _ _ h2)), .inl (.inl (.inl upd_same)), fun h hh => ?_, fun H2 s2 => ?_⟩
    · simp only [List.mem_cons, List.not_mem_nil, or_false] at hh
      rcases hh with rfl | rfl <;> omega
    have s3 := s1.trans s2
    refine ⟨.ref p, rfl, p, C, dx, _, .ref t, rfl, s3 _ _ h1, T.cl, T.na, rfl, .int tg, rfl, le_line (by show (1 : Nat) ≤ 1000000; decide), fun d nd => ?_⟩
    have s4 := s3.trans (same_new (o := .lst [.int tg]) nd)
    refine ⟨.ref p, rfl, p, C, dx, _, .ref t, rfl, s4 _ _ h1, T.cl, T.na, rfl, .int k, rfl, t, _, _, .int m, rfl, rfl, .inl (.inl (s4 _ _ h2)), at_ints hm, ?_⟩
    refine ⟨t, d, c, [(tg : Int)], m, rfl, .inl (.inl (s4 _ _ h2)), .inl (.inl (.inl upd_same)), by omega, fun l H3 s5 _ h3 => ?_⟩
    refine ⟨l, _, rfl, .inl (.inl h3), by rw [marked_len]; omega, fun r H4 s6 _ h4 => ?_⟩
    exact mk_of h4 (by rw [num_lenM]; omega) (by rw [num_lenM]; omega) (num_num _) fun y H5 s7 _ hy => q y H5 (s4.trans (s5.trans (s6.trans s7))) hy
abbrev s_classes : Stmt := inClass (topS 13) 4
abbrev N_classes : List Str := ["self"]
theorem sc_classes : FnScope N_classes ["self"] (defScope s_classes) := ⟨rfl, rfl, rfl, by decide +kernel, rfl, by decide +kernel, by decide +kernel⟩
theorem ok_classes (F : Fun K "classes" "Partition.classes" s_classes f fd) (T : PCf K mg C) : FnOk P w K mg base CX0 1 f fd ["self"] (getSp C "_classes") := by
  obtain ⟨oc, od, kV, doc, pm, an, cdv, ct, osl, rfl, lk, hcd⟩ := F.ex
  exact fn_getter lk hcd sc_classes rfl rfl T.cl T.na
abbrev s_alike : Stmt := inClass (topS 13) 15
abbrev N_alike : List Str := ["self", "holders", "found", "holder", "number"]
theorem sc_alike : FnScope N_alike ["self", "holders"] (defScope s_alike) := ⟨rfl, rfl, rfl, by decide +kernel, rfl, by decide +kernel, by decide +kernel⟩
theorem ok_alike (F : Fun K "is_alike" "Partition.is_alike" s_alike f fd) (B : Blt mg) (T : PCf K mg C) (G : TxP mg t1) (c_chold : OwnK P w K mg base "_check_holders" 3 ["classes", "holders"] (spHold K)) : FnR P w K mg base CX0 4 f (spAlike C) := by
  refine FnR.imp (star_mk (sp := spAlikeT K C) F sc_alike (fun _ _ _ _ _ _ _ => rfl) (fun _ _ _ _ _ _ _ _ _ => rfl) (k := 3) fun cdv A outer s H vs Q E hr h => ?_) fun vs H Q E h => ?_
  · obtain ⟨p, b, c, ts, rfl, hp, hb, hz, hi, q⟩ := h
    obtain ⟨⟨dx, t, h1, h2⟩, lo, h8, nu⟩ := hp
    refine ⟨_, (pss_cons (ps_expr (pe_ownk c_chold hr (by decide) (pa_cons (pe_fld (pv 0) rfl) (pa_cons (pv 1) pa_nil))))
      (pss_cons (ps_set (i := 2) sc_alike.nd rfl (.inr rfl) (pe_lc (own := [("holder", 3)]) (g := gName 3) rfl sc_alike.nd (pi_tup (pv 1)) (blkOk_by (own := [("holder", 3)]) (N := N_alike) (sc := defScope s_alike) (by decide +kernel)) (fun _ _ _ _ _ => pg_name (i := 3) sc_alike.nd rfl (.inl rfl)) (fun _ _ _ _ _ => pts_nil) (fun _ _ _ _ _ => (pe_ix (ixt_K (K := K) rfl) (pe_fldK (K := K) rfl (pv 0)) (pv 3) (fun _ _ => rfl)))))
      (pss_one (ps_ret (pe_and (pe_cmpR op_notIn_seq (pe_glob (v := .int (-1)) rfl G.GONE ⟨_, rfl⟩) (pv 2) rfl) (pe_one (pe_callB (cr_all rfl) rfl B.all bo_all (pa_cons (pe_lc (own := [("number", 4)]) (g := gName 4) rfl sc_alike.nd (pi_list (pv 2)) (blkOk_by (own := [("number", 4)]) (N := N_alike) (sc := defScope s_alike) (by decide +kernel)) (fun _ _ _ _ _ => pg_name (i := 4) sc_alike.nd rfl (.inl rfl)) (fun _ _ _ _ _ => pts_nil) (fun _ _ _ _ _ => (pe_cmpR op_eq (pv 4) (pe_ix (ixl_K (K := K) rfl) (pv 2) pe_int (fun _ _ => rfl)) (nomark _)))) pa_nil)))))))), ?_⟩
    refine ⟨.ref p, rfl, p, C, dx, _, .ref t, rfl, h1, T.cl, T.na, rfl, .ref b, rfl, t, b, c, ts, rfl, .inl (.inl h2), .inr (.inl (.inl hb)), hi, fun H2 s2 => ?_⟩
    refine ⟨.ref b, rfl, b, rfl, ⟨_, .inl (.inl (s2 _ _ hb))⟩, fun D hD => ?_⟩
    have hl : (pick c ts).length = ts.length := by unfold pick; simp
    refine lc_sel walk_tup (fun i => ((pick c ts).map V.int)[i]?) (by rw [List.length_map]; omega) hD (fun H3 z => .inl (.inl (z _ _ (s2 _ _ hb)))) ?_ ?_
    · rintro i x H3 H4 k kn hi' z ⟨rfl, hx⟩ ky kk
      obtain ⟨h, hh, rfl⟩ := get_ints hx
      obtain ⟨g0, g1⟩ := hi h (List.mem_of_getElem? hh)
      have s3 := s2.trans z
      have hc : c[h.toNat]? = some (c.getD h.toNat 0) := by
        rw [List.getD_eq_getElem?_getD, List.getElem?_eq_getElem (show h.toNat < c.length by omega)]
        rfl
      have e := at_ints hc
      rw [Int.toNat_of_nonneg g0] at e
      refine ⟨rfl, ?_⟩
      refine iteT (B := kn H4) ⟨.ref p, rfl, p, C, dx, _, .ref t, rfl, s3 _ _ h1, T.cl, T.na, rfl, .int h, rfl, t, _, h, _, rfl, rfl, .inl (.inl (s3 _ _ h2)), e, ky _ _ ?_ (Same.refl _)⟩
      rw [List.getElem?_map, pick, List.getElem?_map, hh]
      rfl
    · intro H3 z hD2
      have e : (ts.map V.int).length = ((pick c ts).map V.int).length := by rw [List.length_map, List.length_map, hl]
      rw [e, range_get] at hD2
      have s3 := s2.trans z
      refine ⟨.ref D, rfl, D, _, rfl, .inl (.inl (.inl hD2)), rfl, flat_ints _, _, rfl, ?_⟩
      rw [if_pos (rfl : true = true), inV_ints]
      by_cases hg : (-1 : Int) ∈ pick c ts
      · refine iteNS hg ?_
        have q0 := q H3 s3
        unfold alikeB at q0
        rw [decide_eq_true hg] at q0
        exact q0
      · refine iteNT hg ?_
        have q0 := fun H4 (s4 : Same H3 H4) => q H4 (s3.trans s4)
        unfold alikeB at q0
        rw [decide_eq_false hg] at q0
        generalize pick c ts = fs at hD2 hl q0
        refine ⟨.ref D, rfl, D, rfl, ⟨_, .inl (.inl hD2)⟩, fun D2 nD2 => ?_⟩
        refine lc_sel walk_list (fun i => ((fs.map fun n => decide (n = fs.headD 0)).map V.bl)[i]?) (by rw [List.length_map]; omega) nD2 (fun H4 y => .inl (.inl (y _ _ hD2))) ?_ ?_
        · rintro i x H4 H5 k kn hi' y ⟨rfl, hx⟩ ky kk
          obtain ⟨n, hn, rfl⟩ := get_ints hx
          have h0 : fs[0]? = some (fs.headD 0) := by
            cases fs with
            | nil => simp at hn
            | cons a r => rfl
          refine ⟨rfl, ?_⟩
          refine iteT (B := kn H5) ⟨.int n, rfl, .ref D, rfl, D, _, 0, _, rfl, rfl, .inl (.inl (y _ _ hD2)), at_ints (i := 0) h0, rfl, ky _ _ ?_ (Same.refl _)⟩
          rw [List.getElem?_map, List.getElem?_map, hn]
          show some (V.bl (decide (n = fs.headD 0))) = some (V.bl (decide (V.int n = V.int (fs.headD 0))))
          congr 2
          exact decide_eq_decide.mpr ⟨fun z => congrArg V.int z, V.int.inj⟩
        · intro H4 y hD4
          have e2 : (fs.map V.int).length = ((fs.map fun n => decide (n = fs.headD 0)).map V.bl).length := by simp
          rw [e2, range_get] at hD4
          exact ⟨D2, _, rfl, .inl (.inl hD4), q0 H4 y⟩
  · obtain ⟨p, c, ts, rfl, hp, hz, hi, q⟩ := h
    exact ⟨[.ref p], ts.map V.int, rfl, rfl, le_line (by rw [List.length_map]; omega), fun t nt => ⟨p, t, c, ts, rfl, hp.put nt, upd_same, hz, hi, fun H2 s2 => q H2 ((same_new nt).trans s2)⟩⟩
end
end Jc
namespace Jc
open PySem PySem.Spec L2
open PyProof.Rows hiding St
/-- a comprehension without a test, its elements told by R, which stands while the heap grows -/
theorem lc_rel {J : It} {n : Nat} {G : Hp → Prop} {Y : Nat → Hp → V → Hp → Prop} (w : Walk J n G Y) {g : TG} {te : TE} {vs : List Nat} {σ : L2.St} {H1 : Hp} {D : Addr} {Qd : Hp → Prop} (R : Nat → V → Hp → Prop) (hn : n < 1000000) (hD : H1 D = none)
    (hR : ∀ i y H H2, (∀ b o, b ≠ D → H b = some o → H2 b = some o) → R i y H → R i y H2) (hG : ∀ H2, Same H1 H2 → G H2)
    (hs : ∀ i x H H2 (k : V → Hp → Prop), i < n → Same H1 H → (∃ ys, H D = some (.lst ys)) → Y i H x H2 → (∀ y H4, Same H H4 → R i y H4 → k y H4) → g x (wipe σ vs) H2 fun σ2 H3 => wipe σ2 vs = wipe σ vs ∧ te σ2 H3 k)
    (hd : ∀ ys H2, ys.length = n → (∀ i y, ys[i]? = some y → R i y H2) → Same H1 H2 → H2 D = some (.lst ys) → Qd H2) :
    ∃ W : Nat → Nat → Hp → Prop, (∃ m, W 0 m (upd H1 D (.lst []))) ∧ ∀ i m H, W i m H →
      (J.stop i H ∧ Qd H) ∨ (J.go i H ∧ ∃ Nx : Hp → Prop, (∀ H', Nx H' → ∃ m', m' < m ∧ W (i + 1) m' H') ∧ ∀ x H', J.yld i H x H' → g x (wipe σ vs) H' fun σ2 H2 => wipe σ2 vs = wipe σ vs ∧ tYes σ2 H2 fun b H3 =>
        if b = true then te σ2 H3 fun y H4 => ∃ acc, H4 D = some (.lst acc) ∧ acc.length < sizeLine ∧ Nx (upd H4 D (.lst (acc ++ [y]))) else Nx H3) := by
  refine lc_it w (fun i H => Same H1 H ∧ ∃ ys : List V, ys.length = i ∧ (∀ j y, ys[j]? = some y → R j y H) ∧ H D = some (.lst ys)) ⟨same_new hD, [], rfl, fun j y e => by simp at e, upd_same⟩ (fun i H _ p => hG H p.1) ?_ ?_
  · rintro i x H H2 hi ⟨s1, ys, hl, hRs, hy⟩ y
    refine hs i x H H2 _ hi s1 ⟨_, hy⟩ y fun z H4 s4 r => ⟨ys, s4 _ _ hy, Nat.lt_of_lt_of_le (show ys.length < 1000000 by omega) (by rw [sizeLine_eq]; decide), same_mut (s1.trans s4) hD, ys ++ [z], by rw [List.length_append, hl]; rfl, fun j u e => ?_, upd_same⟩
    have kp : ∀ b o, b ≠ D → H4 b = some o → upd H4 D (.lst (ys ++ [z])) b = some o := fun b o hb e => by rw [upd_ne hb]; exact e
    refine hR j u H4 _ kp ?_
    by_cases hj : j < ys.length
    · rw [List.getElem?_append_left hj] at e
      exact hR j u H H4 (fun b o _ e => s4 b o e) (hRs j u e)
    · have hj2 : j = ys.length := by
        have := (List.getElem?_eq_some_iff.mp e).1
        rw [List.length_append] at this
        simp at this
        omega
      subst hj2
      rw [List.getElem?_append_right (Nat.le_refl _)] at e
      simp at e
      subst e
      rw [hl]
      exact r
  · rintro H ⟨s1, ys, hl, hRs, hy⟩
    exact hd ys H hl hRs s1 hy
/-! ### lists of lists of ints -/
structure LL (H : Hp) (q : Addr) (yss : List (List Int)) : Prop where
  ex : ∃ ys : List V, H q = some (.lst ys) ∧ ys.length = yss.length ∧ ∀ (i : Nat) y l, ys[i]? = some y → yss[i]? = some l → ∃ r, y = .ref r ∧ H r = some (.lst (l.map V.int))
theorem LL.same {H H2 : Hp} {q : Addr} {yss : List (List Int)} (s : Same H H2) (h : LL H q yss) : LL H2 q yss := by
  obtain ⟨ys, h1, h2, h3⟩ := h
  refine ⟨ys, s _ _ h1, h2, fun i y l e1 e2 => ?_⟩
  obtain ⟨r, e, e3⟩ := h3 i y l e1 e2
  exact ⟨r, e, s _ _ e3⟩
theorem dpAll_ll {K : PySem.W.Frag} {H : Hp} : ∀ (ys : List V) (yss : List (List Int)), ys.length = yss.length → (∀ (i : Nat) y l, ys[i]? = some y → yss[i]? = some l → ∃ r, y = .ref r ∧ H r = some (.lst (l.map V.int))) →
    DpAll K H ys (yss.map fun l => PyData.list (l.map PyData.int))
  | [], [], _, _ => .nil
  | y :: ys, l :: yss, hl, h => by
    obtain ⟨r, rfl, e⟩ := h 0 y l rfl rfl
    have all : ∀ ns : List Int, DpAll K H (ns.map V.int) (ns.map PyData.int) := fun ns => by
      induction ns with
      | nil => exact .nil
      | cons n r ih => exact .cons (.int n) ih
    exact .cons (.lst (.inl (.inl e)) (all l)) (dpAll_ll ys yss (by simpa using hl) fun i y' l' e1 e2 => h (i + 1) y' l' e1 e2)
  | [], _ :: _, hl, _ => nomatch hl
  | _ :: _, [], hl, _ => nomatch hl
abbrev dLL (yss : List (List Int)) : PyData := .list (yss.map fun l => PyData.list (l.map PyData.int))
theorem LL.dp {K : PySem.W.Frag} {H : Hp} {q : Addr} {yss : List (List Int)} (h : LL H q yss) : Dp K H (.ref q) (dLL yss) := by
  obtain ⟨ys, h1, h2, h3⟩ := h
  exact .lst (.inl (.inl h1)) (dpAll_ll ys yss h2 h3)
theorem eqv_ll : ∀ yss : List (List Int), PyData.eqvAll (yss.map fun l => PyData.list (l.map PyData.int)) (yss.map fun l => PyData.list (l.map PyData.int)) = true
  | [] => by simp [PyData.eqvAll]
  | l :: r => by
    have ih := eqv_ll r
    have h := PySem.W.ked_eqvAll l l
    rw [decide_eq_true rfl] at h
    simp only [List.map_cons, PyData.eqvAll, PyData.eqv, h, ih, Bool.and_self]
theorem shaped_ll (yss : List (List Int)) : SeqAt.shaped (dLL yss) = true := by
  have h1 : ∀ zss : List (List Int), PyData.canLayAll0 (zss.map fun l => PyData.list (l.map PyData.int)) = true := fun zss => by
    induction zss with
    | nil => simp [PyData.canLayAll0]
    | cons l r ih => simp [PyData.canLayAll0, PyData.canLay0, PySem.W.canLayAll0_ints, ih]
  have h2 : ∀ zss : List (List Int), PyData.depthAll (zss.map fun l => PyData.list (l.map PyData.int)) ≤ 2 := fun zss => by
    induction zss with
    | nil => simp [PyData.depthAll]
    | cons l r ih =>
      have h3 := PySem.W.depthAll_ints l
      simp only [List.map_cons, PyData.depthAll, PyData.depth]
      omega
  have h3 : PyData.depth (dLL yss) ≤ 64 := by
    have := h2 yss
    simp only [dLL, PyData.depth]
    omega
  show (PyData.canLay0 (dLL yss) && decide (PyData.depth (dLL yss) ≤ 64)) = true
  rw [Bool.and_eq_true]
  exact ⟨by simp only [dLL, PyData.canLay0]; exact h1 yss, decide_eq_true h3⟩
end Jc
namespace Jc
open PySem PySem.Spec L2
open PyProof.Rows hiding St
def grp (c : List Int) (M : Int) : List (List Int) := (List.range (M + 1).toNat).map fun i : Nat => members c (i : Int)
def spGroups (C : Addr) : Sp := fun vs H Q _ => ∃ (p : Addr) (c : List Int), vs = [.ref p] ∧ PartAt C H p c ∧ ∀ (q : Addr) (H2 : Hp) (M : Int), Same H H2 → M ∈ c → (∀ y ∈ c, y ≤ M) → LL H2 q (grp c M) → Q (.ref q) H2
section
variable {P : Program} {w : World} {K : PySem.W.Frag} {mg : Str → Option Value} {base : Heap} {f C : Addr} {fd : FuncData} {t1 : Tok}
abbrev s_groups : Stmt := inClass (topS 13) 16
abbrev N_groups : List Str := ["self", "number"]
theorem sc_groups : FnScope N_groups ["self"] (defScope s_groups) := ⟨rfl, rfl, rfl, by decide +kernel, rfl, by decide +kernel, by decide +kernel⟩
theorem ok_groups (F : Fun K "groups" "Partition.groups" s_groups f fd) (B : Blt mg) (T : PCf K mg C) (c_members : OwnK P w K mg base "_members" 1 ["classes", "number"] (spMem K)) : FnOk P w K mg base CX0 2 f fd ["self"] (spGroups C) := by
  refine F.ok sc_groups (fun vs H Q E h => ?_) (fun cdv A outer s H vs Q E hr h => ?_)
  · obtain ⟨p, c, rfl, _⟩ := h
    rfl
  · obtain ⟨p, c, rfl, hp, q⟩ := h
    obtain ⟨⟨dx, t, h1, h2⟩, lo, h8, nu⟩ := hp
    refine ⟨_, (pss_one (ps_ret (pe_lc (own := [("number", 1)]) (g := gName 1) rfl sc_groups.nd (pi_range1 rfl B.range (pa_cons (pe_op op_add (pe_callB (cr_maxT rfl) rfl B.max bo_max (pa_cons (pe_fld (pv 0) rfl) pa_nil)) pe_int) pa_nil)) (blkOk_by (own := [("number", 1)]) (N := N_groups) (sc := defScope s_groups) (by decide +kernel)) (fun _ _ _ _ _ => pg_name (i := 1) sc_groups.nd rfl (.inl rfl)) (fun _ _ _ _ _ => pts_nil) (fun _ _ _ _ _ => (pe_ownk c_members hr (by decide) (pa_cons (pe_fldK (K := K) rfl (pv 0)) (pa_cons (pv 1) pa_nil))))))), ?_⟩
    refine ⟨.ref p, rfl, p, C, dx, _, .ref t, rfl, h1, T.cl, T.na, rfl, t, c, rfl, .inl (.inl h2), by omega, fun M hM hmax => ?_⟩
    have hb : -1 ≤ M ∧ M < c.length := num_small (nu.symm ▸ hM)
    refine ⟨M, 1, rfl, rfl, M + 1, rfl, by omega, by omega, fun D hD => ?_⟩
    refine lc_rel walk_range (fun i y H => ∃ r, y = .ref r ∧ r ≠ D ∧ H r = some (.lst ((members c (i : Int)).map V.int))) (by omega) hD (fun i y H H2 k r => ?_) (fun _ _ => trivial) ?_ ?_
    · obtain ⟨a, e, n, z⟩ := r
      exact ⟨a, e, n, k a _ n z⟩
    · rintro i x H3 H4 k hi s3 ⟨ys, hy⟩ ⟨rfl, rfl⟩ kk
      refine ⟨rfl, .ref p, rfl, p, C, dx, _, .ref t, rfl, s3 _ _ h1, T.cl, T.na, rfl, .int (0 + (i : Int)), rfl, t, c, 0 + (i : Int), rfl, .inl (.inl (s3 _ _ h2)), by omega, fun r H5 s5 nr h5 => kk _ _ s5 ⟨r, rfl, ?_, ?_⟩⟩
      · rintro rfl
        rw [hy] at nr
        cases nr
      · rw [Int.zero_add] at h5
        exact h5
    · intro ys H3 hl hR s3 hy
      refine q D H3 M s3 hM hmax ⟨ys, hy, by rw [hl, grp, List.length_map, List.length_range], fun i y l e1 e2 => ?_⟩
      obtain ⟨r, e, _, hr3⟩ := hR i y e1
      refine ⟨r, e, ?_⟩
      rw [grp, List.getElem?_map] at e2
      cases e4 : (List.range (M + 1).toNat)[i]? with
      | none => rw [e4] at e2; cases e2
      | some j =>
        rw [e4] at e2
        have hj : j = i := by
          obtain ⟨h6, h7⟩ := List.getElem?_eq_some_iff.mp e4
          rw [List.getElem_range] at h7
          exact h7.symm
        subst hj
        have e5 := Option.some.inj e2
        rw [← e5]
        exact hr3
end
end Jc
namespace Jc
open PySem PySem.Spec L2
open PyProof.Rows hiding St
theorem toldF_pre : ∀ (ms acc : List Int), ∃ r, ms.foldl toldF acc = acc ++ r
  | [], acc => ⟨[], by simp⟩
  | m :: ms, acc => by
    obtain ⟨r, h⟩ := toldF_pre ms (toldF acc m)
    show ∃ r, ms.foldl toldF (toldF acc m) = acc ++ r
    rw [h]
    unfold toldF
    split
    · exact ⟨[m] ++ r, by simp⟩
    · exact ⟨r, rfl⟩
/-- the place in what is told so far is that in the whole -/
theorem told_idx (ms : List Int) (i : Nat) {m : Int} (h : m ∈ (ms.take i).foldl toldF []) : ((ms.take i).foldl toldF []).idxOf m = (told ms).idxOf m := by
  have e : told ms = (ms.drop i).foldl toldF ((ms.take i).foldl toldF []) := by
    unfold told
    rw [← List.foldl_append, List.take_append_drop]
  obtain ⟨r, e2⟩ := toldF_pre (ms.drop i) ((ms.take i).foldl toldF [])
  rw [e, e2, List.idxOf_append, if_pos h]
def spNumbers : Sp := fun vs H Q _ => ∃ (a : Addr) (bs : List Int), vs = [.ref a] ∧ H a = some (.lst (bs.map V.int)) ∧ bs.length ≤ 1000 ∧ (∀ b ∈ bs, b ≠ -1) ∧ ∀ (q : Addr) (H2 : Hp), Same H H2 → H2 q = some (.lst ((num bs).map V.int)) → Q (.ref q) H2
section
variable {P : Program} {w : World} {K : PySem.W.Frag} {mg : Str → Option Value} {base : Heap} {f C : Addr} {fd : FuncData} {t1 : Tok}
abbrev s_numbers : Stmt := topS 28
abbrev N_numbers : List Str := ["_law_marks", "_law_known", "_law_found", "_law_mark"]
theorem sc_numbers : FnScope N_numbers ["_law_marks"] (defScope s_numbers) := ⟨rfl, rfl, rfl, by decide +kernel, rfl, by decide +kernel, by decide +kernel⟩
theorem ok_numbers (F : Fun K "_law_numbers" "_law_numbers" s_numbers f fd) (B : Blt mg) : FnG P w K mg base 1 f fd ["_law_marks"] spNumbers := by
  refine fnG_of F sc_numbers (fun vs H Q E h => ?_) (fun us hl => ?_) (fun cdv A outer s H vs Q hr hq h => ?_)
  · obtain ⟨a, bs, rfl, _⟩ := h
    rfl
  · match us, hl with
    | [_], _ => rfl
  · obtain ⟨a, bs, rfl, ha, hl, hno, q⟩ := h
    refine ⟨_, (pss_cons (ps_par (i := 1) (j := 2) rfl sc_numbers.nd rfl rfl (by decide) rfl rfl (pa_cons (pe_lst pa_nil) (pa_cons (pe_lst pa_nil) pa_nil)) rfl)
      (pss_cons (ps_for PassesOwn.never rfl (pi_list (pv 0)) (pg_name (i := 3) sc_numbers.nd rfl (.inl rfl)) (Evl.pss_cut (ps_if (PW.pt (pw_and (pt_cmpR op_notN (pv 3) pe_non (nomark _)) (pw_and1 (pt_cmpR op_notIn_seq (pv 3) (pv 1) rfl)))) (pss_one (ps_expr (pe_bm PySem.F.plainAttrs_list PySem.F.slot_list_append PySem.F.type_list_append mt_append (pv 1) (pa_cons (pv 3) pa_nil)))) pss_nil)
      (pss_one (ps_expr (pe_bm PySem.F.plainAttrs_list PySem.F.slot_list_append PySem.F.type_list_append mt_append (pv 2) (pa_cons (pe_ifExp (pt_cmpR op_isN (pv 3) pe_non (nomark _)) (pe_un un_neg pe_int) (pe_bm PySem.F.plainAttrs_list PySem.F.slot_list_index PySem.F.type_list_index mt_index (pv 1) (pa_cons (pv 3) pa_nil))) pa_nil))))))
      (pss_one (ps_ret (pv 2))))), ?_⟩
    refine ⟨le_line (by decide), fun L1 n1 => ⟨le_line (by decide), fun L2 n2 => ⟨_, _, rfl, ?_⟩⟩⟩
    have n12 : L1 ≠ L2 := fun e => by
      rw [e, ← e, upd_same] at n2
      cases n2
    have n2' : H L2 = none := by rwa [upd_ne (Ne.symm n12)] at n2
    have s0 : Same H (upd (upd H L1 (.lst [])) L2 (.lst [])) := same_mut (same_new n1) n2'
    refine ⟨_, rfl, a, rfl, ⟨_, .inl (.inl (s0 _ _ ha))⟩, for_it walk_list (fun i σ H2 => ∃ y, σ = [some (.ref a), some (.ref L1), some (.ref L2), y] ∧ Same H H2 ∧ H2 L1 = some (.lst (((bs.take i).foldl toldF []).map V.int)) ∧ H2 L2 = some (.lst (((num bs).take i).map V.int)))
      ⟨_, rfl, s0, by rw [upd_ne n12]; exact upd_same, upd_same⟩ (fun _ _ _ _ z => by obtain ⟨_, _, s2, _⟩ := z; exact .inl (.inl (s2 _ _ ha))) ?_ ?_⟩
    · rintro i x σ H1 H2 hi ⟨y, rfl, s1, h1, h2⟩ ⟨rfl, hx⟩
      obtain ⟨m, hm, rfl⟩ := get_ints hx
      have hm1 : m ≠ -1 := hno m (List.mem_of_getElem? hm)
      have e : (bs.take (i + 1)).foldl toldF [] = toldF ((bs.take i).foldl toldF []) m := told_take bs i hm
      have e2 : (num bs).take (i + 1) = (num bs).take i ++ [numOf (told bs) m] := by rw [List.take_add_one, num_at hm]; rfl
      have hz := told_short bs i
      have hz2 : ((num bs).take i).length ≤ bs.length := by rw [List.length_take, num_len]; omega
      have hmem : m ∈ (bs.take (i + 1)).foldl toldF [] := by
        rw [told_has]
        refine .inr ⟨?_, hm1⟩
        rw [List.take_add_one, hm]
        simp
      have hidx := told_idx bs (i + 1) hmem
      refine ⟨fun σ H3 => σ = [some (.ref a), some (.ref L1), some (.ref L2), some (.int m)] ∧ Same H H3 ∧ H3 L1 = some (.lst (((bs.take (i + 1)).foldl toldF []).map V.int)) ∧ H3 L2 = some (.lst (((num bs).take i).map V.int)), ?_, ?_⟩
      · refine ⟨.int m, rfl, rfl, _, rfl, iteNT (fun z => nomatch z) ⟨.int m, rfl, .ref L1, rfl, L1, _, rfl, .inl (.inl (.inl h1)), rfl, flat_ints _, _, rfl, ?_⟩⟩
        rw [if_pos (rfl : true = true), inV_ints]
        by_cases c2 : m ∈ (bs.take i).foldl toldF []
        · refine iteNS c2 ⟨rfl, s1, ?_, h2⟩
          rw [e, toldF, if_neg (fun z => z.2 c2)]
          exact h1
        · refine iteNT c2 ⟨.ref L1, rfl, .inl ⟨rfl, _, .inl (.inl h1)⟩, .int m, rfl, L1, _, _, rfl, rfl, h1, ?_, ?_⟩
          · rw [List.length_map]
            exact Nat.lt_of_lt_of_le (show _ < 1000000 by omega) (by rw [sizeLine_eq]; decide)
          · refine ⟨rfl, same_mut s1 n1, ?_, by rw [upd_ne (Ne.symm n12)]; exact h2⟩
            rw [upd_same, e, toldF, if_pos ⟨hm1, c2⟩, List.map_append]
            rfl
      · rintro σ H3 ⟨rfl, s3, h3, h4⟩
        obtain ⟨i1, i2⟩ := idx_ints hmem
        refine ⟨.ref L2, rfl, .inl ⟨rfl, _, .inl (.inl h4)⟩, .int m, rfl, rfl, _, rfl, iteDF (fun z => nomatch z) ?_⟩
        refine ⟨.ref L1, rfl, .inl ⟨rfl, _, .inl (.inl h3)⟩, .int m, rfl, L1, _, .int m, _, .int m, rfl, rfl, .inl (.inl h3), rfl, flat_ints _, i1, (by show (m == m) = true; exact beq_self_eq_true m), i2, ?_⟩
        refine ⟨L2, _, _, rfl, rfl, h4, ?_, ?_⟩
        · rw [List.length_map]
          exact Nat.lt_of_lt_of_le (show _ < 1000000 by omega) (by rw [sizeLine_eq]; decide)
        · refine ⟨_, rfl, same_mut s3 n2', by rw [upd_ne n12]; exact h3, ?_⟩
          rw [upd_same, e2, List.map_append, hidx]
          have e5 : numOf (told bs) m = ((told bs).idxOf m : Int) := by rw [numOf, if_neg hm1]
          rw [e5]
          rfl
    · rintro σ H2 ⟨y, rfl, s2, h1, h2⟩
      rw [List.length_map, ← num_len bs, List.take_length] at h2
      exact ⟨.ref L2, rfl, q L2 H2 s2 h2⟩
end
end Jc
namespace Jc
open PySem PySem.Spec L2
open PyProof.Rows hiding St
theorem ixN_of {n : Nat} {k : Int} {j : Nat} (h : k = (j : Int)) (hj : j < n) : ixN n k = some j := by
  subst h
  unfold ixN
  rw [if_pos (by omega), if_pos (by omega)]
  rfl
theorem at_int2 {ns : List Int} {k : Int} {i : Nat} {m : Int} (h : k = (i : Int)) (e : ns[i]? = some m) : atI (ns.map V.int) k = some (.int m) := by
  subst h
  exact at_ints e
theorem marked_set1 {bs : List Int} {i : Nat} {k m : Int} (h : k = (i : Int)) : marked bs [k] m = bs.set i m := by
  subst h
  refine List.ext_getElem? fun j => ?_
  unfold marked
  rw [List.getElem?_mapIdx, List.getElem?_set]
  cases e : bs[j]? with
  | none =>
    have := List.getElem?_eq_none_iff.mp e
    by_cases z : i = j
    · subst z
      rw [if_pos rfl, if_neg (by omega)]
      rfl
    · rw [if_neg z]
      rfl
  | some x =>
    have := (List.getElem?_eq_some_iff.mp e).1
    by_cases z : i = j
    · subst z
      rw [if_pos rfl, if_pos this]
      simp
    · rw [if_neg z]
      have : ¬ ((j : Int) = (i : Int)) := by omega
      simp [this]
theorem marked_two (bs ts us : List Int) (m : Int) : marked (marked bs ts m) us m = marked bs (ts ++ us) m := by
  refine List.ext_getElem? fun j => ?_
  unfold marked
  rw [List.getElem?_mapIdx, List.getElem?_mapIdx, List.getElem?_mapIdx]
  cases bs[j]? with
  | none => rfl
  | some x =>
    show some _ = some _
    by_cases a : (j : Int) ∈ ts <;> by_cases b : (j : Int) ∈ us <;> simp [a, b]
theorem marked_swap (bs : List Int) (k l m : Int) : marked bs [k, l] m = marked bs [l, k] m := by
  unfold marked
  congr 1
  funext i x
  have : ((i : Int) ∈ [k, l]) ↔ ((i : Int) ∈ [l, k]) := by
    simp only [List.mem_cons, List.not_mem_nil, or_false]
    exact Or.comm
  simp only [this]
theorem marked_set2 {bs : List Int} {i j : Nat} {k l m : Int} (h : k = (i : Int)) (h2 : l = (j : Int)) : marked bs [k, l] m = (bs.set i m).set j m := by
  rw [← marked_set1 h, ← marked_set1 h2, marked_two]
  rfl
theorem fresh_set {bs bs2 ts : List Int} {n : Int} (hn : n ∉ bs) (hg : n ≠ -1) (e : marked bs ts n = bs2) : num (gFresh (num bs) ts) = num bs2 := by
  unfold gFresh
  rw [num_len, num_fresh hn hg, e]
theorem copied_set {bs : List Int} {t k : Nat} {b : Int} (h : bs[k]? = some b) : num (marked (num bs) [(t : Int)] (numOf (told bs) b)) = num (bs.set t b) := by
  rw [num_copied h, marked_set1 rfl]
/-- two sides' boxes and their partition -/
structure Mv (C : Addr) (H : Hp) (b p : Addr) (bs : List Int) (n : Nat) (top : Int) : Prop where
  bx : H b = some (.lst (bs.map V.int))
  pt : PartAt C H p (num bs)
  ln : bs.length = n
  bd : ∀ x ∈ bs, 0 ≤ x ∧ x < top
theorem Mv.same {C : Addr} {H H2 : Hp} {b p : Addr} {bs : List Int} {n : Nat} {top : Int} (s : Same H H2) (h : Mv C H b p bs n top) : Mv C H2 b p bs n top := ⟨s _ _ h.bx, h.pt.same s, h.ln, h.bd⟩
def spMoved (C : Addr) : Sp := fun vs H Q _ => ∃ (a b p : Addr) (lot : Nat) (bs : List Int) (top : Int), vs = [.ref a, .int (lot : Int), .ref b, .ref p, .int top] ∧ Pot H a ∧ 1 ≤ lot ∧ lot ≤ 4 ∧ Mv C H b p bs (2 * lot) top ∧ 0 ≤ top ∧
  ∀ (T b2 p2 : Addr) (bs2 : List Int) (H2 : Hp), Same H H2 → H2 T = some (.tup [.ref b2, .ref p2]) → Mv C H2 b2 p2 bs2 (2 * lot) (top + 2) → Q (.ref T) H2
theorem set_bd {bs : List Int} {i : Nat} {m top t2 : Int} (h : ∀ x ∈ bs, 0 ≤ x ∧ x < top) (hm : 0 ≤ m ∧ m < t2) (ht : top ≤ t2) : ∀ x ∈ bs.set i m, 0 ≤ x ∧ x < t2 := fun x hx => by
  rcases List.mem_or_eq_of_mem_set hx with z | z
  · have := h x z
    omega
  · rw [z]; exact hm
section
variable {P : Program} {w : World} {K : PySem.W.Frag} {mg : Str → Option Value} {base : Heap} {f C : Addr} {fd : FuncData} {t1 : Tok}
abbrev s_moved : Stmt := topS 29
abbrev N_moved : List Str := ["_law_pot_here", "_law_lot", "_law_boxes", "_law_made", "_law_top", "_law_way", "_law_one", "_law_two", "_law_side", "_law_later"]
theorem sc_moved : FnScope N_moved ["_law_pot_here", "_law_lot", "_law_boxes", "_law_made", "_law_top"] (defScope s_moved) := ⟨rfl, rfl, rfl, by decide +kernel, rfl, by decide +kernel, by decide +kernel⟩
theorem ok_moved (F : Fun K "_law_moved" "_law_moved" s_moved f fd) (B : Blt mg) (T : PCf K mg C) (c_draw : Own P w K mg base "_law_draw" 1 ["_law_pot_here", "_law_lot"] spDraw)
    (m_fresh : OwnM P w K mg base C "fresh" 5 (spNew C gFresh)) (m_copied : OwnM P w K mg base C "copied" 5 (spCopied C)) : FnG P w K mg base 6 f fd ["_law_pot_here", "_law_lot", "_law_boxes", "_law_made", "_law_top"] (spMoved C) := by
  refine fnG_of F sc_moved (fun vs H Q E h => ?_) (fun us hl => ?_) (fun cdv A outer s H vs Q hr hq h => ?_)
  · obtain ⟨a, b, p, lot, bs, top, rfl, _⟩ := h
    rfl
  · match us, hl with
    | [_, _, _, _, _], _ => rfl
  · obtain ⟨a, b, p, lot, bs, top, rfl, ha, l1, l4, hM, ht, q⟩ := h
    refine ⟨_, (pss_cons (ps_par3 (i := 5) (j := 6) (l := 7) rfl sc_moved.nd rfl rfl rfl (by decide) (by decide) (by decide) rfl rfl rfl (pa_cons (pe_own c_draw hr hq (by decide) (pa_cons (pv 0) (pa_cons pe_int pa_nil))) (pa_cons (pe_own c_draw hr hq (by decide) (pa_cons (pv 0) (pa_cons (pv 1) pa_nil))) (pa_cons (pe_own c_draw hr hq (by decide) (pa_cons (pv 0) (pa_cons (pv 1) pa_nil))) pa_nil))) rfl)
      (pss_cons (ps_par (i := 8) (j := 9) rfl sc_moved.nd rfl rfl (by decide) rfl rfl (pa_cons (pe_op op_mul (pv 1) (pe_own c_draw hr hq (by decide) (pa_cons (pv 0) (pa_cons pe_int pa_nil)))) (pa_cons (pe_callTy call_list_of rfl B.list bo_list (pa_cons (pv 2) pa_nil)) pa_nil)) rfl)
      (Evl.pss_cut
        (ps_if (pt_cmpR op_eq (pv 5) pe_int (nomark _)) (pss_cons (ps_asg (pv 4) (pg_sub (pv 9) (pe_op op_add (pv 8) (pv 6)) set_list)) (pss_one (ps_set (i := 3) sc_moved.nd rfl (.inl rfl) (pe_om (pv 3) T.cl m_fresh hr (by decide) (pa_cons (pe_op op_add (pv 8) (pv 6)) pa_nil)))))
        (pss_one (ps_if (pt_cmpR op_eq (pv 5) pe_int (nomark _)) (pss_cons (ps_asg (pe_tup (pa_cons (pv 4) (pa_cons (pv 4) pa_nil))) (pg_tup rfl (pgs_cons (pg_sub (pv 9) (pv 6) set_list) (pgs_cons (pg_sub (pv 9) (pe_op op_add (pv 1) (pv 6)) set_list) pgs_nil)))) (pss_one (ps_set (i := 3) sc_moved.nd rfl (.inl rfl) (pe_om (pv 3) T.cl m_fresh hr (by decide) (pa_cons (pv 6) (pa_cons (pe_op op_add (pv 1) (pv 6)) pa_nil))))))
        (pss_one (ps_if (pt_cmpR op_eq (pv 5) pe_int (nomark _)) (pss_cons (ps_asg (pe_tup (pa_cons (pv 4) (pa_cons (pe_op op_add (pv 4) pe_int) pa_nil))) (pg_tup rfl (pgs_cons (pg_sub (pv 9) (pv 6) set_list) (pgs_cons (pg_sub (pv 9) (pe_op op_add (pv 1) (pv 6)) set_list) pgs_nil)))) (pss_one (ps_set (i := 3) sc_moved.nd rfl (.inl rfl) (pe_om (pe_om (pv 3) T.cl m_fresh hr (by decide) (pa_cons (pv 6) pa_nil)) T.cl m_fresh hr (by decide) (pa_cons (pe_op op_add (pv 1) (pv 6)) pa_nil)))))
        (pss_one (ps_if (pt_cmpR op_eq (pv 5) pe_int (nomark _)) (pss_cons (ps_asg (pe_tup (pa_cons (pv 4) (pa_cons (pv 4) pa_nil))) (pg_tup rfl (pgs_cons (pg_sub (pv 9) (pv 6) set_list) (pgs_cons (pg_sub (pv 9) (pe_op op_add (pv 1) (pv 7)) set_list) pgs_nil)))) (pss_one (ps_set (i := 3) sc_moved.nd rfl (.inl rfl) (pe_om (pv 3) T.cl m_fresh hr (by decide) (pa_cons (pe_op op_add (pv 1) (pv 7)) (pa_cons (pv 6) pa_nil))))))
        (pss_one (ps_if (pt_cmpR op_eq (pv 5) pe_int (nomark _)) (pss_cons (ps_asg (pe_ix ix_list (pv 2) (pe_op op_add (pv 8) (pv 7)) (fun _ _ => rfl)) (pg_sub (pv 9) (pe_op op_add (pv 8) (pv 6)) set_list)) (pss_one (ps_set (i := 3) sc_moved.nd rfl (.inl rfl) (pe_om (pv 3) T.cl m_copied hr (by decide) (pa_cons (pe_op op_add (pv 8) (pv 6)) (pa_cons (pe_op op_add (pv 8) (pv 7)) pa_nil))))))
          (pss_cons (ps_asg (pe_tup (pa_cons (pe_ix ix_list (pv 2) (pv 7) (fun _ _ => rfl)) (pa_cons (pe_ix ix_list (pv 2) (pe_op op_add (pv 1) (pv 7)) (fun _ _ => rfl)) pa_nil))) (pg_tup rfl (pgs_cons (pg_sub (pv 9) (pv 6) set_list) (pgs_cons (pg_sub (pv 9) (pe_op op_add (pv 1) (pv 6)) set_list) pgs_nil)))) (pss_one (ps_set (i := 3) sc_moved.nd rfl (.inl rfl) (pe_om (pe_om (pv 3) T.cl m_copied hr (by decide) (pa_cons (pv 6) (pa_cons (pv 7) pa_nil))) T.cl m_copied hr (by decide) (pa_cons (pe_op op_add (pv 1) (pv 6)) (pa_cons (pe_op op_add (pv 1) (pv 7)) pa_nil)))))))))))))))
      (pss_one (ps_ret (pe_tup (pa_cons (pv 9) (pa_cons (pv 3) pa_nil)))))))), ?_⟩
    refine ⟨.ref a, rfl, a, 6, rfl, ha, by decide, by decide, fun way H1 w0 w1 s1 => ?_⟩
    refine ⟨.ref a, rfl, .int lot, rfl, a, lot, rfl, s1 _ _ ha, by omega, by omega, fun one H2 o0 o1 s2 => ?_⟩
    have s2' := s1.trans s2
    refine ⟨.ref a, rfl, .int lot, rfl, a, lot, rfl, s2' _ _ ha, by omega, by omega, fun two H3 t0 t2 s3 => ⟨_, _, _, rfl, ?_⟩⟩
    have s3' := s2'.trans s3
    refine ⟨.int lot, rfl, .ref a, rfl, a, 2, rfl, s3' _ _ ha, by decide, by decide, fun sd H4 d0 d1 s4 => ?_⟩
    have s4' := s3'.trans s4
    refine ⟨lot, sd, rfl, rfl, .inl ⟨by omega, by omega⟩, .ref b, rfl, b, _, rfl, .inl (.inl (.inl (s4' _ _ hM.bx))), fun L nL => ⟨_, _, rfl, ?_⟩⟩
    obtain ⟨⟨dx, tt, g1, g2⟩, _, _, _⟩ := hM.pt
    have nLH : H L = none := s4'.free nL
    have s5 : Same H (upd H4 L (.lst (bs.map V.int))) := same_mut s4' nLH
    have hL : (upd H4 L (.lst (bs.map V.int))) L = some (.lst (bs.map V.int)) := upd_same
    generalize upd H4 L (.lst (bs.map V.int)) = H5 at s5 hL
    have hsv : 0 ≤ (lot : Int) * sd ∧ (lot : Int) * sd ≤ lot := by
      obtain rfl | rfl : sd = 0 ∨ sd = 1 := by omega
      · constructor <;> omega
      · constructor <;> omega
    obtain ⟨sv, esv⟩ : ∃ sv, sv = (lot : Int) * sd := ⟨_, rfl⟩
    have eS : (fun i j : Int => V.int (i * j)) (lot : Int) sd = V.int sv := by rw [esv]
    rw [eS]
    rw [← esv] at hsv
    have hln : (bs.map V.int).length = 2 * lot := by rw [List.length_map]; exact hM.ln
    have hnt : top ∉ bs := fun z => by have := hM.bd _ z; omega
    have hng : top ≠ -1 := by omega
    have nln : (num bs).length = 2 * lot := by rw [num_len]; exact hM.ln
    -- what a move leaves
    refine ⟨fun σ H6 => ∃ p2 bs2, σ = [some (.ref a), some (.int lot), some (.ref b), some (.ref p2), some (.int top), some (.int way), some (.int one), some (.int two), some (.int sv), some (.ref L)] ∧ Same H H6 ∧ Mv C H6 L p2 bs2 (2 * lot) (top + 2), ?_, ?_⟩
    · refine ⟨.int way, rfl, rfl, _, rfl, ite2 (fun _ => ?_) (fun _ => ⟨.int way, rfl, rfl, _, rfl, ite2 (fun _ => ?_) (fun _ => ⟨.int way, rfl, rfl, _, rfl, ite2 (fun _ => ?_) (fun _ => ⟨.int way, rfl, rfl, _, rfl, ite2 (fun _ => ?_) (fun _ => ⟨.int way, rfl, rfl, _, rfl, ite2 (fun _ => ?_) (fun _ => ?_)⟩)⟩)⟩)⟩)⟩
      · -- a new number into a box of one side
        refine ⟨.int top, rfl, .ref L, rfl, .int sv, rfl, .int one, rfl, _, _, rfl, rfl, L, _, _, (sv + one).toNat, rfl, rfl, hL, ixN_of (by omega) (by omega), ?_⟩
        rw [show (bs.map V.int).set (sv + one).toNat (.int top) = (bs.set (sv + one).toNat top).map V.int from (List.map_set ..).symm]
        have s6 : Same H (upd H5 L (.lst ((bs.set (sv + one).toNat top).map V.int))) := same_mut s5 nLH
        refine ⟨.ref p, rfl, p, dx, _, rfl, s6 _ _ g1, rfl, .int sv, rfl, .int one, rfl, _, _, rfl, rfl, p, num bs, [sv + one], rfl, hM.pt.same s6, by show (1 : Nat) ≤ 1000; decide, fun h hh => ?_, fun y H7 s7 hy => ?_⟩
        · rw [List.mem_singleton.mp hh, nln]
          constructor <;> omega
        · rw [fresh_set hnt hng (marked_set1 (i := (sv + one).toNat) (by omega))] at hy
          exact ⟨y, _, rfl, s6.trans s7, ⟨s7 _ _ upd_same, hy, by rw [List.length_set]; exact hM.ln, set_bd hM.bd (by omega) (by omega)⟩⟩
      · -- into boxes of both
        refine ⟨.int top, rfl, .int top, rfl, two_le, fun U nU => ?_⟩
        have s6 : Same H (upd H5 U (.tup [.int (top), .int (top)])) := s5.trans (same_new nU)
        have hL6 : (upd H5 U (.tup [.int (top), .int (top)])) L = some (.lst (bs.map V.int)) := (same_new nU) _ _ hL
        have hU : (upd H5 U (.tup [.int (top), .int (top)])) U = some (.tup [.int (top), .int (top)]) := upd_same
        refine ⟨U, _, rfl, .inl (.inl hU), rfl, _, _, rfl, .ref L, rfl, .int one, rfl, L, _, _, one.toNat, rfl, rfl, hL6, ixN_of (by omega) (by omega), ?_⟩
        rw [show (bs.map V.int).set one.toNat (.int (top)) = (bs.set one.toNat (top)).map V.int from (List.map_set ..).symm]
        have s7 : Same H (upd (upd H5 U (.tup [.int (top), .int (top)])) L (.lst ((bs.set one.toNat (top)).map V.int))) := same_mut s6 nLH
        refine ⟨_, _, rfl, .ref L, rfl, .int lot, rfl, .int one, rfl, _, _, rfl, rfl, L, _, _, (lot + one).toNat, rfl, rfl, upd_same, ixN_of (by omega) (by rw [List.length_map, List.length_set, hM.ln]; omega), rfl, ?_⟩
        rw [show ((bs.set one.toNat (top)).map V.int).set (lot + one).toNat (.int (top)) = ((bs.set one.toNat (top)).set (lot + one).toNat (top)).map V.int from (List.map_set ..).symm]
        have s8 := same_mut (o := .lst (((bs.set one.toNat (top)).set (lot + one).toNat (top)).map V.int)) s7 nLH
        have hL8 : (upd (upd (upd H5 U (.tup [.int (top), .int (top)])) L (.lst ((bs.set one.toNat (top)).map V.int))) L (.lst (((bs.set one.toNat (top)).set (lot + one).toNat (top)).map V.int))) L = some (.lst (((bs.set one.toNat (top)).set (lot + one).toNat (top)).map V.int)) := upd_same
        generalize upd (upd (upd H5 U (.tup [.int (top), .int (top)])) L (.lst ((bs.set one.toNat (top)).map V.int))) L (.lst (((bs.set one.toNat (top)).set (lot + one).toNat (top)).map V.int)) = H8 at s8 hL8
        refine ⟨.ref p, rfl, p, dx, _, rfl, s8 _ _ g1, rfl, .int one, rfl, .int lot, rfl, .int one, rfl, _, _, rfl, rfl, p, num bs, [one, lot + one], rfl, hM.pt.same s8, by show (2 : Nat) ≤ 1000; decide, fun h hh => ?_, fun y H9 s9 hy => ?_⟩
        · simp only [List.mem_cons, List.not_mem_nil, or_false] at hh
          rw [nln]
          rcases hh with rfl | rfl <;> constructor <;> omega
        · rw [fresh_set hnt hng (marked_set2 (i := one.toNat) (j := (lot + one).toNat) (by omega) (by omega))] at hy
          exact ⟨y, _, rfl, s8.trans s9, ⟨s9 _ _ hL8, hy, by rw [List.length_set, List.length_set]; exact hM.ln, set_bd (set_bd hM.bd (t2 := top + 2) (by omega) (by omega)) (by omega) (by omega)⟩⟩
      · -- two new numbers
        refine ⟨.int top, rfl, .int top, rfl, _, _, rfl, rfl, two_le, fun U nU => ?_⟩
        have s6 : Same H (upd H5 U (.tup [.int (top), .int (top + 1)])) := s5.trans (same_new nU)
        have hL6 : (upd H5 U (.tup [.int (top), .int (top + 1)])) L = some (.lst (bs.map V.int)) := (same_new nU) _ _ hL
        have hU : (upd H5 U (.tup [.int (top), .int (top + 1)])) U = some (.tup [.int (top), .int (top + 1)]) := upd_same
        refine ⟨U, _, rfl, .inl (.inl hU), rfl, _, _, rfl, .ref L, rfl, .int one, rfl, L, _, _, one.toNat, rfl, rfl, hL6, ixN_of (by omega) (by omega), ?_⟩
        rw [show (bs.map V.int).set one.toNat (.int (top)) = (bs.set one.toNat (top)).map V.int from (List.map_set ..).symm]
        have s7 : Same H (upd (upd H5 U (.tup [.int (top), .int (top + 1)])) L (.lst ((bs.set one.toNat (top)).map V.int))) := same_mut s6 nLH
        refine ⟨_, _, rfl, .ref L, rfl, .int lot, rfl, .int one, rfl, _, _, rfl, rfl, L, _, _, (lot + one).toNat, rfl, rfl, upd_same, ixN_of (by omega) (by rw [List.length_map, List.length_set, hM.ln]; omega), rfl, ?_⟩
        rw [show ((bs.set one.toNat (top)).map V.int).set (lot + one).toNat (.int (top + 1)) = ((bs.set one.toNat (top)).set (lot + one).toNat (top + 1)).map V.int from (List.map_set ..).symm]
        have s8 := same_mut (o := .lst (((bs.set one.toNat (top)).set (lot + one).toNat (top + 1)).map V.int)) s7 nLH
        have hL8 : (upd (upd (upd H5 U (.tup [.int (top), .int (top + 1)])) L (.lst ((bs.set one.toNat (top)).map V.int))) L (.lst (((bs.set one.toNat (top)).set (lot + one).toNat (top + 1)).map V.int))) L = some (.lst (((bs.set one.toNat (top)).set (lot + one).toNat (top + 1)).map V.int)) := upd_same
        generalize upd (upd (upd H5 U (.tup [.int (top), .int (top + 1)])) L (.lst ((bs.set one.toNat (top)).map V.int))) L (.lst (((bs.set one.toNat (top)).set (lot + one).toNat (top + 1)).map V.int)) = H8 at s8 hL8
        refine ⟨.ref p, rfl, p, dx, _, rfl, s8 _ _ g1, rfl, .int one, rfl, p, num bs, [one], rfl, hM.pt.same s8, by show (1 : Nat) ≤ 1000; decide, fun h hh => ?_, fun y H9 s9 hy => ?_⟩
        · rw [List.mem_singleton.mp hh, nln]
          constructor <;> omega
        rw [fresh_set hnt hng (marked_set1 (i := one.toNat) (by omega))] at hy
        obtain ⟨⟨dx2, tt2, e1, e2⟩, _, _, _⟩ := id hy
        refine ⟨y, dx2, _, rfl, e1, rfl, .int lot, rfl, .int one, rfl, _, _, rfl, rfl, y, num (bs.set one.toNat top), [lot + one], rfl, hy, by show (1 : Nat) ≤ 1000; decide, fun h hh => ?_, fun y2 H10 s10 hy2 => ?_⟩
        · rw [List.mem_singleton.mp hh, num_len, List.length_set, hM.ln]
          constructor <;> omega
        · have hb1 : ∀ x ∈ bs.set one.toNat top, 0 ≤ x ∧ x < top + 1 := set_bd hM.bd (by omega) (by omega)
          rw [fresh_set (n := top + 1) (fun z => by have := hb1 _ z; omega) (by omega) (marked_set1 (i := (lot + one).toNat) (by omega))] at hy2
          exact ⟨y2, _, rfl, s8.trans (s9.trans s10), ⟨s10 _ _ (s9 _ _ hL8), hy2, by rw [List.length_set, List.length_set]; exact hM.ln, set_bd hb1 (by omega) (by omega)⟩⟩
      · -- one number, two places
        refine ⟨.int top, rfl, .int top, rfl, two_le, fun U nU => ?_⟩
        have s6 : Same H (upd H5 U (.tup [.int (top), .int (top)])) := s5.trans (same_new nU)
        have hL6 : (upd H5 U (.tup [.int (top), .int (top)])) L = some (.lst (bs.map V.int)) := (same_new nU) _ _ hL
        have hU : (upd H5 U (.tup [.int (top), .int (top)])) U = some (.tup [.int (top), .int (top)]) := upd_same
        refine ⟨U, _, rfl, .inl (.inl hU), rfl, _, _, rfl, .ref L, rfl, .int one, rfl, L, _, _, one.toNat, rfl, rfl, hL6, ixN_of (by omega) (by omega), ?_⟩
        rw [show (bs.map V.int).set one.toNat (.int (top)) = (bs.set one.toNat (top)).map V.int from (List.map_set ..).symm]
        have s7 : Same H (upd (upd H5 U (.tup [.int (top), .int (top)])) L (.lst ((bs.set one.toNat (top)).map V.int))) := same_mut s6 nLH
        refine ⟨_, _, rfl, .ref L, rfl, .int lot, rfl, .int two, rfl, _, _, rfl, rfl, L, _, _, (lot + two).toNat, rfl, rfl, upd_same, ixN_of (by omega) (by rw [List.length_map, List.length_set, hM.ln]; omega), rfl, ?_⟩
        rw [show ((bs.set one.toNat (top)).map V.int).set (lot + two).toNat (.int (top)) = ((bs.set one.toNat (top)).set (lot + two).toNat (top)).map V.int from (List.map_set ..).symm]
        have s8 := same_mut (o := .lst (((bs.set one.toNat (top)).set (lot + two).toNat (top)).map V.int)) s7 nLH
        have hL8 : (upd (upd (upd H5 U (.tup [.int (top), .int (top)])) L (.lst ((bs.set one.toNat (top)).map V.int))) L (.lst (((bs.set one.toNat (top)).set (lot + two).toNat (top)).map V.int))) L = some (.lst (((bs.set one.toNat (top)).set (lot + two).toNat (top)).map V.int)) := upd_same
        generalize upd (upd (upd H5 U (.tup [.int (top), .int (top)])) L (.lst ((bs.set one.toNat (top)).map V.int))) L (.lst (((bs.set one.toNat (top)).set (lot + two).toNat (top)).map V.int)) = H8 at s8 hL8
        refine ⟨.ref p, rfl, p, dx, _, rfl, s8 _ _ g1, rfl, .int lot, rfl, .int two, rfl, _, _, rfl, rfl, .int one, rfl, p, num bs, [lot + two, one], rfl, hM.pt.same s8, by show (2 : Nat) ≤ 1000; decide, fun h hh => ?_, fun y H9 s9 hy => ?_⟩
        · simp only [List.mem_cons, List.not_mem_nil, or_false] at hh
          rw [nln]
          rcases hh with rfl | rfl <;> constructor <;> omega
        · rw [fresh_set hnt hng ((marked_swap _ _ _ _).trans (marked_set2 (i := one.toNat) (j := (lot + two).toNat) (by omega) (by omega)))] at hy
          exact ⟨y, _, rfl, s8.trans s9, ⟨s9 _ _ hL8, hy, by rw [List.length_set, List.length_set]; exact hM.ln, set_bd (set_bd hM.bd (t2 := top + 2) (by omega) (by omega)) (by omega) (by omega)⟩⟩
      · -- a copy on one side
        obtain ⟨m, hm⟩ : ∃ m, bs[(sv + two).toNat]? = some m := ⟨_, List.getElem?_eq_getElem (show (sv + two).toNat < bs.length by rw [hM.ln]; omega)⟩
        have hmb := hM.bd m (List.mem_of_getElem? hm)
        refine ⟨.ref b, rfl, .int sv, rfl, .int two, rfl, _, _, rfl, rfl, b, _, _, .int m, rfl, rfl, .inl (.inl (s5 _ _ hM.bx)), at_int2 (i := (sv + two).toNat) (by omega) hm, ?_⟩
        refine ⟨.ref L, rfl, .int sv, rfl, .int one, rfl, _, _, rfl, rfl, L, _, _, (sv + one).toNat, rfl, rfl, hL, ixN_of (by omega) (by omega), ?_⟩
        rw [show (bs.map V.int).set (sv + one).toNat (.int m) = (bs.set (sv + one).toNat m).map V.int from (List.map_set ..).symm]
        have s6 : Same H (upd H5 L (.lst ((bs.set (sv + one).toNat m).map V.int))) := same_mut s5 nLH
        refine ⟨.ref p, rfl, p, dx, _, rfl, s6 _ _ g1, rfl, .int sv, rfl, .int one, rfl, _, _, rfl, rfl, .int sv, rfl, .int two, rfl, _, _, rfl, rfl, p, num bs, (sv + one).toNat, (sv + two).toNat, _, ?_, hM.pt.same s6, by rw [nln]; omega, num_at hm, fun y H7 s7 hy => ?_⟩
        · show [V.ref p, V.int (sv + one), V.int (sv + two)] = _
          rw [Int.toNat_of_nonneg (by omega), Int.toNat_of_nonneg (by omega)]
        · rw [copied_set hm] at hy
          exact ⟨y, _, rfl, s6.trans s7, ⟨s7 _ _ upd_same, hy, by rw [List.length_set]; exact hM.ln, set_bd hM.bd (by omega) (by omega)⟩⟩
      · -- copies on both sides
        obtain ⟨m, hm⟩ : ∃ m, bs[two.toNat]? = some m := ⟨_, List.getElem?_eq_getElem (show two.toNat < bs.length by rw [hM.ln]; omega)⟩
        obtain ⟨n, hn⟩ : ∃ n, bs[(lot + two).toNat]? = some n := ⟨_, List.getElem?_eq_getElem (show (lot + two).toNat < bs.length by rw [hM.ln]; omega)⟩
        have hmb := hM.bd m (List.mem_of_getElem? hm)
        have hnb := hM.bd n (List.mem_of_getElem? hn)
        have hn1 : (bs.set one.toNat m)[(lot + two).toNat]? = some n := by rw [List.getElem?_set_ne (by omega)]; exact hn
        refine ⟨.ref b, rfl, .int two, rfl, b, _, _, .int m, rfl, rfl, .inl (.inl (s5 _ _ hM.bx)), at_int2 (i := two.toNat) (by omega) hm, .ref b, rfl, .int lot, rfl, .int two, rfl, _, _, rfl, rfl, b, _, _, .int n, rfl, rfl, .inl (.inl (s5 _ _ hM.bx)), at_int2 (i := (lot + two).toNat) (by omega) hn, two_le, fun U nU => ?_⟩
        have s6 : Same H (upd H5 U (.tup [.int (m), .int (n)])) := s5.trans (same_new nU)
        have hL6 : (upd H5 U (.tup [.int (m), .int (n)])) L = some (.lst (bs.map V.int)) := (same_new nU) _ _ hL
        have hU : (upd H5 U (.tup [.int (m), .int (n)])) U = some (.tup [.int (m), .int (n)]) := upd_same
        refine ⟨U, _, rfl, .inl (.inl hU), rfl, _, _, rfl, .ref L, rfl, .int one, rfl, L, _, _, one.toNat, rfl, rfl, hL6, ixN_of (by omega) (by omega), ?_⟩
        rw [show (bs.map V.int).set one.toNat (.int (m)) = (bs.set one.toNat (m)).map V.int from (List.map_set ..).symm]
        have s7 : Same H (upd (upd H5 U (.tup [.int (m), .int (n)])) L (.lst ((bs.set one.toNat (m)).map V.int))) := same_mut s6 nLH
        refine ⟨_, _, rfl, .ref L, rfl, .int lot, rfl, .int one, rfl, _, _, rfl, rfl, L, _, _, (lot + one).toNat, rfl, rfl, upd_same, ixN_of (by omega) (by rw [List.length_map, List.length_set, hM.ln]; omega), rfl, ?_⟩
        rw [show ((bs.set one.toNat (m)).map V.int).set (lot + one).toNat (.int (n)) = ((bs.set one.toNat (m)).set (lot + one).toNat (n)).map V.int from (List.map_set ..).symm]
        have s8 := same_mut (o := .lst (((bs.set one.toNat (m)).set (lot + one).toNat (n)).map V.int)) s7 nLH
        have hL8 : (upd (upd (upd H5 U (.tup [.int (m), .int (n)])) L (.lst ((bs.set one.toNat (m)).map V.int))) L (.lst (((bs.set one.toNat (m)).set (lot + one).toNat (n)).map V.int))) L = some (.lst (((bs.set one.toNat (m)).set (lot + one).toNat (n)).map V.int)) := upd_same
        generalize upd (upd (upd H5 U (.tup [.int (m), .int (n)])) L (.lst ((bs.set one.toNat (m)).map V.int))) L (.lst (((bs.set one.toNat (m)).set (lot + one).toNat (n)).map V.int)) = H8 at s8 hL8
        refine ⟨.ref p, rfl, p, dx, _, rfl, s8 _ _ g1, rfl, .int one, rfl, .int two, rfl, p, num bs, one.toNat, two.toNat, _, ?_, hM.pt.same s8, by rw [nln]; omega, num_at hm, fun y H9 s9 hy => ?_⟩
        · show [V.ref p, V.int one, V.int two] = _
          rw [Int.toNat_of_nonneg (by omega), Int.toNat_of_nonneg (by omega)]
        rw [copied_set hm] at hy
        obtain ⟨⟨dx2, tt2, e1, e2⟩, _, _, _⟩ := id hy
        refine ⟨y, dx2, _, rfl, e1, rfl, .int lot, rfl, .int one, rfl, _, _, rfl, rfl, .int lot, rfl, .int two, rfl, _, _, rfl, rfl, y, num (bs.set one.toNat m), (lot + one).toNat, (lot + two).toNat, _, ?_, hy, by rw [num_len, List.length_set, hM.ln]; omega, num_at hn1, fun y2 H10 s10 hy2 => ?_⟩
        · show [V.ref y, V.int (lot + one), V.int (lot + two)] = _
          rw [Int.toNat_of_nonneg (by omega), Int.toNat_of_nonneg (by omega)]
        · rw [copied_set hn1] at hy2
          exact ⟨y2, _, rfl, s8.trans (s9.trans s10), ⟨s10 _ _ (s9 _ _ hL8), hy2, by rw [List.length_set, List.length_set]; exact hM.ln, set_bd (set_bd hM.bd (t2 := top + 2) (by omega) (by omega)) (by omega) (by omega)⟩⟩
    · rintro σ H6 ⟨p2, bs2, rfl, s6, hm⟩
      refine ⟨.ref L, rfl, .ref p2, rfl, two_le, fun T nT => ?_⟩
      exact q T L p2 bs2 _ (s6.trans (same_new nT)) upd_same (hm.same (same_new nT))
end
end Jc
namespace Jc
theorem sorted_ext : ∀ {xs ys : List Int}, xs.Pairwise (· < ·) → ys.Pairwise (· < ·) → (∀ k, k ∈ xs ↔ k ∈ ys) → xs = ys
  | [], [], _, _, _ => rfl
  | [], y :: ys, _, _, h => by have := (h y).mpr List.mem_cons_self; cases this
  | x :: xs, [], _, _, h => by have := (h x).mp List.mem_cons_self; cases this
  | x :: xs, y :: ys, h1, h2, h => by
    obtain ⟨a1, b1⟩ := List.pairwise_cons.mp h1
    obtain ⟨a2, b2⟩ := List.pairwise_cons.mp h2
    have e : x = y := by
      rcases List.mem_cons.mp ((h x).mp List.mem_cons_self) with z | z
      · exact z
      · have p := a2 x z
        rcases List.mem_cons.mp ((h y).mpr List.mem_cons_self) with w | w
        · exact w.symm
        · have := a1 y w
          omega
    subst e
    rw [sorted_ext b1 b2 fun k => ?_]
    constructor
    · intro hk
      have p := a1 k hk
      rcases List.mem_cons.mp ((h k).mp (List.mem_cons_of_mem _ hk)) with z | z
      · omega
      · exact z
    · intro hk
      have p := a2 k hk
      rcases List.mem_cons.mp ((h k).mpr (List.mem_cons_of_mem _ hk)) with z | z
      · omega
      · exact z
/-- the first places of what is told, in their order -/
theorem told_firsts (bs : List Int) (hno : ∀ b ∈ bs, b ≠ -1) : ((told bs).map fun t => (bs.idxOf t : Int)).Pairwise (· < ·) := by
  have h : ∀ n, n ≤ bs.length → (((bs.take n).foldl toldF []).map fun t => (bs.idxOf t : Int)).Pairwise (· < ·) := by
    intro n
    induction n with
    | zero => intro _; simp
    | succ n ih =>
      intro hn
      obtain ⟨v, hb⟩ : ∃ v, bs[n]? = some v := ⟨_, List.getElem?_eq_getElem (by omega)⟩
      have ih := ih (by omega)
      rw [told_take bs n hb, toldF]
      split
      · rename_i c
        rw [List.map_append, List.pairwise_append]
        refine ⟨ih, by simp, fun x hx y hy => ?_⟩
        simp only [List.map_cons, List.map_nil, List.mem_singleton] at hy
        subst hy
        obtain ⟨t, ht, rfl⟩ := List.mem_map.mp hx
        rw [told_has] at ht
        rcases ht with z | ⟨z, _⟩
        · cases z
        have hnot : v ∉ bs.take n := fun z => c.2 (by rw [told_has]; exact .inr ⟨z, c.1⟩)
        have e1 : bs.idxOf t < n := by
          have e := List.take_append_drop n bs
          have h2 : bs.idxOf t = (bs.take n).idxOf t := by
            conv => lhs; rw [← e]
            rw [List.idxOf_append, if_pos z]
          have h3 := List.idxOf_lt_length_of_mem z
          rw [List.length_take] at h3
          omega
        have e2 : n ≤ bs.idxOf v := by
          have e := List.take_append_drop n bs
          have h2 : bs.idxOf v = (bs.drop n).idxOf v + (bs.take n).length := by
            conv => lhs; rw [← e]
            rw [List.idxOf_append, if_neg hnot]
          rw [List.length_take] at h2
          omega
        omega
      · exact ih
  have := h bs.length (Nat.le_refl _)
  rwa [List.take_length] at this
theorem fm_congr {α β : Type} {f g : α → Option β} : ∀ l : List α, (∀ x ∈ l, f x = g x) → l.filterMap f = l.filterMap g
  | [], _ => rfl
  | x :: l, h => by
    rw [List.filterMap_cons, List.filterMap_cons, h x List.mem_cons_self, fm_congr l fun y hy => h y (List.mem_cons_of_mem _ hy)]
/-- the holders with the number of a box -/
theorem members_num {bs : List Int} {i : Nat} {t : Int} (hno : ∀ b ∈ bs, b ≠ -1) (h : (told bs)[i]? = some t) (nd : (told bs).Nodup) : members (num bs) (i : Int) = (List.range bs.length).filterMap fun n : Nat => if bs[n]? = some t then some (n : Int) else none := by
  unfold members
  rw [num_len]
  refine fm_congr _ fun n hn => ?_
  have hn2 : n < bs.length := by simpa using hn
  have hb : bs[n]? = some bs[n] := List.getElem?_eq_getElem hn2
  have hmem := List.mem_of_getElem? hb
  rw [num_at hb, hb]
  have hg := hno _ hmem
  have e : (numOf (told bs) bs[n] = (i : Int)) ↔ bs[n] = t := by
    unfold numOf
    rw [if_neg hg]
    have h3 := List.idxOf_lt_length_of_mem (told_mem.mpr ⟨hmem, hg⟩)
    obtain ⟨h4, h5⟩ := List.getElem?_eq_some_iff.mp h
    constructor
    · intro z
      have z2 : (told bs).idxOf bs[n] = i := by omega
      have := List.getElem_idxOf h3
      subst z2
      rw [← this, h5]
    · intro z
      rw [z, ← h5, nd.idxOf_getElem]
  by_cases c : bs[n] = t
  · rw [if_pos (congrArg some (e.mpr c)), if_pos (congrArg some c)]
  · rw [if_neg fun z => c (e.mp (Option.some.inj z)), if_neg fun z => c (Option.some.inj z)]
theorem told_nodup (bs : List Int) : (told bs).Nodup := by
  have h : ∀ (ms acc : List Int), acc.Nodup → (ms.foldl toldF acc).Nodup := by
    intro ms
    induction ms with
    | nil => intro acc h; exact h
    | cons m ms ih =>
      intro acc h
      refine ih _ ?_
      unfold toldF
      split
      · rename_i c
        rw [List.nodup_append]
        exact ⟨h, by simp, fun a ha b hb => by
          rw [List.mem_singleton.mp hb]
          rintro rfl
          exact c.2 ha⟩
      · exact h
  exact h bs [] List.nodup_nil
/-- the groups: of each first place the places with its number -/
def own (bs : List Int) (k : Int) : List Int := (List.range bs.length).filterMap fun n : Nat => if bs[n]? = bs[k.toNat]? then some (n : Int) else none
theorem grp_own {bs ns : List Int} {M : Int} (hno : ∀ b ∈ bs, b ≠ -1) (hM : M ∈ num bs) (hmax : ∀ y ∈ num bs, y ≤ M) (hs : ns.Pairwise (· < ·)) (hm : ∀ k, k ∈ ns ↔ k ∈ bs.map fun b => (bs.idxOf b : Int)) :
    grp (num bs) M = ns.map (own bs) := by
  have e1 : ns = (told bs).map fun t => (bs.idxOf t : Int) := by
    refine sorted_ext hs (told_firsts bs hno) fun k => ?_
    rw [hm, List.mem_map, List.mem_map]
    constructor
    · rintro ⟨b, hb, e⟩
      exact ⟨b, told_mem.mpr ⟨hb, hno b hb⟩, e⟩
    · rintro ⟨b, hb, e⟩
      exact ⟨b, (told_mem.mp hb).1, e⟩
  have e2 : (M + 1).toNat = (told bs).length := by
    obtain ⟨i, hi⟩ := List.getElem?_of_mem hM
    obtain ⟨a, ha, rfl⟩ := num_at' hi
    have g := List.mem_of_getElem? ha
    have r := numOf_range g
    have hpos : 0 < (told bs).length := List.length_pos_of_mem (told_mem.mpr ⟨g, hno a g⟩)
    obtain ⟨t, ht⟩ : ∃ t, (told bs)[(told bs).length - 1]? = some t := ⟨_, List.getElem?_eq_getElem (by omega)⟩
    have tm := List.mem_of_getElem? ht
    have tb := told_mem.mp tm
    obtain ⟨j, hj⟩ := List.getElem?_of_mem tb.1
    have z := hmax _ (List.mem_of_getElem? (num_at hj))
    have z2 : numOf (told bs) t = ((told bs).length - 1 : Nat) := by
      unfold numOf
      rw [if_neg tb.2]
      obtain ⟨h4, h5⟩ := List.getElem?_eq_some_iff.mp ht
      rw [← h5, (told_nodup bs).idxOf_getElem]
    rw [z2] at z
    omega
  rw [e1, List.map_map]
  unfold grp
  rw [e2]
  refine List.ext_getElem? fun i => ?_
  rw [List.getElem?_map, List.getElem?_map]
  by_cases hi : i < (told bs).length
  · rw [List.getElem?_range hi, List.getElem?_eq_getElem hi]
    show some (members (num bs) (i : Int)) = some (own bs (bs.idxOf (told bs)[i] : Int))
    congr 1
    have ht : (told bs)[i]? = some (told bs)[i] := List.getElem?_eq_getElem hi
    rw [members_num hno ht (told_nodup bs)]
    unfold own
    have hm2 := (told_mem.mp (List.mem_of_getElem? ht)).1
    have hl := List.idxOf_lt_length_of_mem hm2
    rw [Int.toNat_natCast, List.getElem?_eq_getElem hl, List.getElem_idxOf hl]
  · rw [List.getElem?_eq_none (by rw [List.length_range]; omega), List.getElem?_eq_none (by omega)]
    rfl
theorem members_gone {bs : List Int} (hno : ∀ b ∈ bs, b ≠ -1) : members (num bs) (-1) = [] := by
  unfold members
  rw [List.filterMap_eq_nil_iff]
  intro i _
  rw [if_neg]
  intro h
  obtain ⟨a, ha, e⟩ := num_at' h
  exact hno a (List.mem_of_getElem? ha) (numOf_gone.mp e.symm)
/-- two holders are alike if their boxes hold the same -/
theorem alike_two {bs : List Int} {i j : Nat} {a b : Int} (ha : bs[i]? = some a) (hb : bs[j]? = some b) (hno : a ≠ -1 ∧ b ≠ -1) : alikeB (num bs) [(i : Int), (j : Int)] = decide (a = b) := by
  have e : pick (num bs) [(i : Int), (j : Int)] = [numOf (told bs) a, numOf (told bs) b] := by
    unfold pick
    simp only [List.map_cons, List.map_nil, Int.toNat_natCast, List.getD_eq_getElem?_getD, num_at ha, num_at hb, Option.getD_some]
  unfold alikeB
  rw [e]
  have g1 : ¬ numOf (told bs) a = -1 := fun z => hno.1 (numOf_gone.mp z)
  have g2 : ¬ numOf (told bs) b = -1 := fun z => hno.2 (numOf_gone.mp z)
  have g3 : ¬ ((-1 : Int) ∈ [numOf (told bs) a, numOf (told bs) b]) := by
    simp only [List.mem_cons, List.not_mem_nil, or_false, not_or]
    exact ⟨fun z => g1 z.symm, fun z => g2 z.symm⟩
  have g4 := numOf_inj (ms := bs) (List.mem_of_getElem? ha) (List.mem_of_getElem? hb)
  rw [decide_eq_false g3]
  by_cases c : a = b
  · subst c
    simp
  · have g5 : ¬ numOf (told bs) b = numOf (told bs) a := fun z => c (g4.mp z.symm)
    simp [c, g5]
end Jc
namespace Jc
open PySem PySem.Spec L2
open PyProof.Rows hiding St
structure OwnP (P : Program) (w : World) (K : PySem.W.Frag) (mg : Str → Option Value) (base : Heap) (C : Addr) (m : Str) (k : Nat) (sp : Sp) : Prop where
  ex : ∃ (p g : Addr) (fd : FuncData), PropOf K C m p g ∧ FnOk P w K mg base CX0 k g fd ["self"] sp ∧ Binds K fd ["self"] []
section
variable {X : Cx} {K : PySem.W.Frag} {k j : Nat} {C : Addr} {m : Str} {sp : Sp} {pos : Pos} {o : Expr} {ta : TE}
theorem pe_opr (he : PE X o ta) (c : Cls X.K C) (h : OwnP X.prog X.w X.K X.mg X.base C m k sp) (hr : Room j X.A) (hj : k + 1 ≤ j) (hab : attributeBase o m X.env (eval o X.env) = eval o X.env := by rfl) : PE X (.Attribute o m pos) (tProp C sp [] E0 ta) := by
  obtain ⟨p, g, fd, hp, F, hb⟩ := h.ex
  exact pe_prop he c hp F (hr.mono hj) hb .nil pass0 hab
theorem pi_enumK {e : Expr} {ta : TA} {p pos tpos : Pos} {elts : List Expr} {kk : Nat} (hK : X.K = K) (hg : Gl X "enumerate") (hm : X.mg "enumerate" = none) (ha : PA X [e] ta) (hs : starEach [e] X.env = [(false, eval e X.env)] := by rfl) :
    PI X (.Tuple elts kk tpos) (.Call (.Name "enumerate" p) [e] [] pos) (iEnum K ta) := by
  subst hK
  exact pi_enum hg hm ha hs
end
theorem dbB : ∀ a : Bool, (PyData.bool a).showable = true ∧ (PyData.bool a).hasDict = false ∧ (PyData.bool a).depth ≤ 60 ∧ (PyData.bool a).shown.length ≤ 1000000 := by
  intro a
  cases a <;> decide +kernel
def spShown (C : Addr) : Sp := fun vs H Q _ => ∃ (b p : Addr) (bs : List Int) (n : Nat) (top : Int), vs = [.ref b, .ref p] ∧ Mv C H b p bs n top ∧ ∀ H2, Same H H2 → Q (.bl true) H2
section
variable {P : Program} {w : World} {K : PySem.W.Frag} {mg : Str → Option Value} {base : Heap} {f C : Addr} {fd : FuncData} {t1 : Tok}
theorem own_map (bs : List Int) (k : Int) : (own bs k).map V.int = (List.range bs.length).filterMap fun n : Nat => if bs[n]? = bs[k.toNat]? then some (V.int (n : Int)) else none := by
  unfold own
  rw [List.map_filterMap]
  congr 1
  funext i
  split <;> rfl
theorem decV (o n : Int) : decide (V.int o = V.int n) = decide (o = n) := decide_eq_decide.mpr ⟨V.int.inj, congrArg V.int⟩
abbrev sc_kk : Scope := { kind := .function, names := [(".0", .local), ("_law_k", .cell), ("enumerate", .globalImplicit), ("_law_boxes", .cell)], isGenerator := false, isCoroutine := false }
abbrev s_shown : Stmt := topS 30
abbrev N_shown : List Str := ["_law_boxes", "_law_made", "_law_k", "_law_own", "_law_n", "_law_near", "_law_known", "_law_groups"]
theorem sc_shown : FnScope N_shown ["_law_boxes", "_law_made"] (defScope s_shown) := ⟨rfl, rfl, rfl, by decide +kernel, rfl, by decide +kernel, by decide +kernel⟩
theorem ok_shown (F : Fun K "_law_is_shown" "_law_is_shown" s_shown f fd) (B : Blt mg) (T : PCf K mg C) (c_numbers : Own P w K mg base "_law_numbers" 1 ["_law_marks"] spNumbers)
    (m_alike : OwnM P w K mg base C "is_alike" 4 (spAlike C)) (m_groups : OwnM0 P w K mg base C "groups" 2 (spGroups C)) (m_gone : OwnM0 P w K mg base C "gone" 2 (spGone C)) (m_cls : OwnP P w K mg base C "classes" 1 (getSp C "_classes")) :
    FnG P w K mg base 5 f fd ["_law_boxes", "_law_made"] (spShown C) := by
  refine fnG_of F sc_shown (fun vs H Q E h => ?_) (fun us hl => ?_) (fun cdv A outer s H vs Q hr hq h => ?_)
  · obtain ⟨b, p, bs, n, top, rfl, _⟩ := h
    rfl
  · match us, hl with
    | [_, _], _ => rfl
  · obtain ⟨b, p, bs, n, top, rfl, hM, q⟩ := h
    have hu := hr.units
    refine ⟨_, (pss_cons (ps_for PassesOwn.never rfl (pi_enum rfl B.enumerate (pa_cons (pv 0) pa_nil)) (pg_tup rfl (pgs_cons (pg_name (i := 2) sc_shown.nd rfl (.inl rfl)) (pgs_cons (pg_name (i := 3) sc_shown.nd rfl (.inl rfl)) pgs_nil)))
        (pss_one (ps_for PassesOwn.never rfl (pi_enum rfl B.enumerate (pa_cons (pv 0) pa_nil)) (pg_tup rfl (pgs_cons (pg_name (i := 4) sc_shown.nd rfl (.inl rfl)) (pgs_cons (pg_name (i := 5) sc_shown.nd rfl (.inl rfl)) pgs_nil)))
          (pss_one (ps_if (pt_cmpR op_ne (pe_callB (call_repr hq hu) rfl B.repr bo_repr (pa_cons (pe_om (pv 1) T.cl m_alike hr (by decide) (pa_cons (pv 2) (pa_cons (pv 4) pa_nil))) pa_nil)) (pe_callB (call_repr hq hu) rfl B.repr bo_repr (pa_cons (pe_cmpR op_eq (pv 3) (pv 5) (nomark _)) pa_nil)) (nomark _)) (pss_one (ps_ret pe_bl)) pss_nil)))))
      (pss_cons (ps_set (i := 6) sc_shown.nd rfl (.inl rfl) (pe_callB (cr_sortedSet rfl) rfl B.sorted bo_sorted (pa_cons (pe_callTy (cr_setL rfl) rfl B.set bo_set (pa_cons (pe_lc (own := [("_law_own", 3)]) (g := gName 3) rfl sc_shown.nd (pi_list (pv 0)) (blkOk_by (own := [("_law_own", 3)]) (N := N_shown) (sc := defScope s_shown) (by decide +kernel)) (fun _ _ _ _ _ => pg_name (i := 3) sc_shown.nd rfl (.inl rfl)) (fun _ _ _ _ _ => pts_nil) (fun _ _ _ _ _ => (pe_bmK (K := K) rfl PySem.F.plainAttrs_list PySem.F.slot_list_index PySem.F.type_list_index (index_K (K := K) rfl) (pv 0) (pa_cons (pv 3) pa_nil)))) pa_nil)) pa_nil)))
      (pss_cons (ps_setLc (i := 7) (own := [("_law_k", 2)]) (g := gName 2) rfl sc_shown.nd rfl rfl (sw_true rfl rfl rfl (by decide +kernel)) (pi_list (pv 6)) (blkOk_by (own := [("_law_k", 2)]) (N := N_shown) (sc := defScope s_shown) (by decide +kernel)) (fun _ _ _ _ _ => pg_name (i := 2) sc_shown.nd rfl (.inr rfl)) (fun _ _ _ _ _ => pts_nil)
          (fun _ _ _ _ _ => pe_lc (own := [("_law_n", 4), ("_law_near", 5)]) (g := _) rfl sc_shown.nd (pi_enumK (K := K) rfl rfl B.enumerate (pa_cons (pv 0) pa_nil)) (blkOk_by (own := [("_law_n", 4), ("_law_near", 5)]) (N := N_shown) (sc := sc_kk) (by decide +kernel)) (fun _ _ _ _ _ => pg_tupK (K := K) (n := 2) rfl rfl (pgs_cons (pg_name (i := 4) sc_shown.nd rfl (.inl rfl)) (pgs_cons (pg_name (i := 5) sc_shown.nd rfl (.inl rfl)) pgs_nil))) (fun _ _ _ _ _ => pts_one (pt_cmpR op_eq (pv 5) (pe_ix (ixl_K (K := K) rfl) (pv 0) (pv 2) (fun _ _ => rfl)) (nomark _))) (fun _ _ _ _ _ => pv 4)))
      (pss_one (ps_ret (pe_and (pe_cmpR (op_eqD hu) (pe_om0 (pv 1) T.cl m_groups hr (by decide)) (pv 7) (nomark _)) (pe_and (pe_cmpR (op_eqD hu) (pe_callTy call_list_of rfl B.list bo_list (pa_cons (pe_opr (pv 1) T.cl m_cls hr (by decide)) pa_nil)) (pe_own c_numbers hr hq (by decide) (pa_cons (pv 0) pa_nil)) (nomark _)) (pe_one (pe_cmpR (op_eqD hu) (pe_om0 (pv 1) T.cl m_gone hr (by decide)) (pe_lst pa_nil) (nomark _)))))))))), ?_⟩
    have hno : ∀ x ∈ bs, x ≠ -1 := fun x hx => by have := hM.bd x hx; omega
    obtain ⟨⟨dx, tt, g1, g2⟩, lo, h8, nu⟩ := id hM.pt
    have hbl : bs.length ≤ 8 := by rw [num_len] at h8; exact h8
    have hbl1 : 1 ≤ bs.length := by rw [num_len] at lo; exact lo
    have bxs : ∀ H2, Same H H2 → SqL K H2 b (bs.map V.int) := fun H2 s => .inl (.inl (s _ _ hM.bx))
    refine ⟨.ref b, rfl, b, _, rfl, bxs _ (Same.refl _), for_it walk_enum (fun i σ H2 => ∃ y2 y3 y4 y5 y6 y7, σ = [some (.ref b), some (.ref p), y2, y3, y4, y5, y6, y7] ∧ Same H H2) ⟨_, _, _, _, _, _, rfl, Same.refl H⟩ (fun _ _ _ _ z => by obtain ⟨_, _, _, _, _, _, _, s2⟩ := z; exact bxs _ s2) ?_ ?_⟩
    · rintro i x σ H1 H2 hi ⟨y2, y3, y4, y5, y6, y7, rfl, s1⟩ ⟨U, v1, v2, rfl, nU, rfl, e1, e2⟩
      cases e1
      obtain ⟨o, ho, rfl⟩ := get_ints e2
      have s2 : Same H (upd H1 U (.tup [.int (i : Nat), .int o])) := s1.trans (same_new nU)
      have hU : (upd H1 U (.tup [.int (i : Nat), .int o])) U = some (.tup [.int (i : Nat), .int o]) := upd_same
      refine ⟨U, _, rfl, .inl (.inl hU), rfl, _, _, rfl, _, _, rfl, rfl, ?_⟩
      refine ⟨.ref b, rfl, b, _, rfl, bxs _ s2, for_it walk_enum (fun j σ H4 => ∃ y4 y5 y6 y7, σ = [some (.ref b), some (.ref p), some (.int (i : Nat)), some (.int o), y4, y5, y6, y7] ∧ Same H H4) ⟨_, _, _, _, rfl, s2⟩ (fun _ _ _ _ z => by obtain ⟨_, _, _, _, _, s2⟩ := z; exact bxs _ s2) ?_ ?_⟩
      · rintro j x σ H3 H4 hj ⟨y4, y5, y6, y7, rfl, s3⟩ ⟨U2, v1, v2, rfl, nU2, rfl, e3, e4⟩
        cases e3
        obtain ⟨n2, hn, rfl⟩ := get_ints e4
        have s4 : Same H (upd H3 U2 (.tup [.int (j : Nat), .int n2])) := s3.trans (same_new nU2)
        have hU2 : (upd H3 U2 (.tup [.int (j : Nat), .int n2])) U2 = some (.tup [.int (j : Nat), .int n2]) := upd_same
        refine ⟨U2, _, rfl, .inl (.inl hU2), rfl, _, _, rfl, _, _, rfl, rfl, ?_⟩
        have hil : i < bs.length := by rw [List.length_map] at hi; exact hi
        have hjl : j < bs.length := by rw [List.length_map] at hj; exact hj
        refine ⟨.ref p, rfl, p, dx, _, rfl, s4 _ _ g1, rfl, .int i, rfl, .int j, rfl, p, num bs, [(i : Int), (j : Int)], rfl, hM.pt.same s4, by show (2 : Nat) ≤ 1000; decide, fun h hh => ?_, fun H6 s6 => ?_⟩
        · simp only [List.mem_cons, List.not_mem_nil, or_false] at hh
          rw [num_len]
          rcases hh with rfl | rfl <;> constructor <;> omega
        · rw [alike_two ho hn ⟨hno _ (List.mem_of_getElem? ho), hno _ (List.mem_of_getElem? hn)⟩]
          refine ⟨_, .bool _, rfl, .bl _, (dbB _).1, (dbB _).2.1, (dbB _).2.2.1, le_line (dbB _).2.2.2, ?_⟩
          refine ⟨.int o, rfl, .int n2, rfl, rfl, ?_⟩
          rw [decV]
          refine ⟨_, .bool _, rfl, .bl _, (dbB _).1, (dbB _).2.1, (dbB _).2.2.1, le_line (dbB _).2.2.2, ?_⟩
          exact ⟨rfl, _, rfl, iteNS rfl ⟨_, _, _, _, rfl, s4.trans s6⟩⟩
      · rintro σ H3 ⟨y4, y5, y6, y7, rfl, s3⟩
        exact ⟨_, _, _, _, _, _, rfl, s3⟩
    · rintro σ H2 ⟨y2, y3, y4, y5, y6, y7, rfl, s2⟩
      -- the first places
      refine ⟨.ref b, rfl, b, rfl, ⟨_, bxs _ s2⟩, fun D hD => ?_⟩
      refine lc_sel walk_list (fun i => ((bs.map fun x => (bs.idxOf x : Int)).map V.int)[i]?) (by rw [List.length_map]; omega) hD (fun H3 z => bxs _ (s2.trans z)) ?_ ?_
      · rintro i x H3 H4 k kn hi z ⟨rfl, hx⟩ ky kk
        obtain ⟨m, hm, rfl⟩ := get_ints hx
        obtain ⟨i1, i2⟩ := idx_ints (List.mem_of_getElem? hm)
        have sq := bxs _ (s2.trans z)
        refine ⟨rfl, ?_⟩
        refine iteT (B := kn H4) ⟨.ref b, rfl, .inl ⟨rfl, _, sq⟩, .int m, rfl, b, _, .int m, bs.idxOf m, .int m, rfl, rfl, sq, rfl, flat_ints _, i1, (by show (m == m) = true; exact beq_self_eq_true m), i2, ky _ _ ?_ (Same.refl _)⟩
        rw [List.getElem?_map, List.getElem?_map, hm]
        rfl
      intro H3 z hD2
      have e : (bs.map V.int).length = ((bs.map fun x => (bs.idxOf x : Int)).map V.int).length := by simp
      rw [e, range_get] at hD2
      have s3 := s2.trans z
      refine ⟨D, _, rfl, .inl (.inl hD2), by rw [List.length_map]; omega, fun S c nS hc => ?_⟩
      rw [List.length_map] at hc
      refine ⟨S, _, c, rfl, upd_same, by omega, fun ns L hs hm hl nL => ?_⟩
      have s4 := s3.trans ((same_new (o := SetO w S (fun j => decide (j ∈ bs.map fun x => (bs.idxOf x : Int))) c) nS).trans (same_new (o := .lst (ns.map V.int)) nL))
      have hm2 : ∀ k, k ∈ ns ↔ k ∈ bs.map fun x => (bs.idxOf x : Int) := fun k => by rw [hm k, decide_eq_true_eq]
      -- the groups
      refine ⟨.ref L, rfl, L, rfl, ⟨_, .inl (.inl upd_same)⟩, fun G nG => ?_⟩
      refine lc_rel walk_list (fun i y H => ∃ r k, y = .ref r ∧ r ≠ G ∧ ns[i]? = some k ∧ H r = some (.lst ((own bs k).map V.int))) (by rw [List.length_map]; omega) nG (fun i y H H2 k r => ?_) (fun H5 z => .inl (.inl (z _ _ upd_same))) ?_ ?_
      · obtain ⟨a, k2, e, n, e2, z⟩ := r
        exact ⟨a, k2, e, n, e2, k a _ n z⟩
      · rintro i x H5 H6 kk hi s5 ⟨ys, hy⟩ ⟨rfl, hx⟩ kq
        obtain ⟨k, hk, rfl⟩ := get_ints hx
        have s45 := s4.trans s5
        have hk0 : ∃ x, x ∈ bs ∧ (bs.idxOf x : Int) = k := List.mem_map.mp ((hm2 k).mp (List.mem_of_getElem? hk))
        obtain ⟨x0, hx0, ek⟩ := hk0
        have hkl := List.idxOf_lt_length_of_mem hx0
        obtain ⟨bk, hbk⟩ : ∃ v, bs[k.toNat]? = some v := ⟨_, List.getElem?_eq_getElem (show k.toNat < bs.length by omega)⟩
        refine ⟨rfl, .ref b, rfl, b, _, rfl, bxs _ s45, fun E nE => ?_⟩
        have nEG : E ≠ G := fun z => by
          rw [z, hy] at nE
          cases nE
        refine lc_sel walk_enum (fun n => if bs[n]? = bs[k.toNat]? then some (V.int (n : Int)) else none) (by rw [List.length_map]; omega) nE (fun H7 z => bxs _ (s45.trans z)) ?_ ?_
        · rintro n x H7 H8 kf kn hn2 z2 ⟨U, v1, v2, rfl, nU, rfl, e1, e2⟩ ky kk2
          cases e1
          obtain ⟨o, ho, rfl⟩ := get_ints e2
          have s8 := (s45.trans z2).trans (same_new (o := .tup [.int (n : Nat), .int o]) nU)
          refine ⟨U, _, rfl, .inl (.inl upd_same), rfl, _, _, rfl, _, _, rfl, rfl, rfl, .int o, rfl, .ref b, rfl, .int k, rfl, b, _, k, .int bk, rfl, rfl, bxs _ s8, at_int2 (i := k.toNat) (by omega) hbk, rfl, _, rfl, ?_⟩
          by_cases c : o = bk
          · refine iteDT (congrArg V.int c) ⟨_, rfl, ky _ _ ?_ (same_new nU)⟩
            show (if bs[n]? = bs[k.toNat]? then _ else _) = _
            rw [ho, hbk, if_pos (congrArg some c)]
          · refine iteDF (fun z => c (V.int.inj z)) (kk2 _ ?_ (same_new nU))
            show (if bs[n]? = bs[k.toNat]? then _ else _) = _
            rw [ho, hbk, if_neg (fun z => c (Option.some.inj z))]
        · intro H7 z2 hE
          refine kq _ H7 z2 ⟨E, k, rfl, nEG, hk, ?_⟩
          rw [hE, own_map, List.length_map]
      · intro ys H5 hl2 hR s5 hy
        have s45 := s4.trans s5
        have hLL : LL H5 G (ns.map (own bs)) := by
          refine ⟨ys, hy, by rw [hl2, List.length_map, List.length_map], fun i y l e1 e2 => ?_⟩
          obtain ⟨r, k, ey, _, ek, er⟩ := hR i y e1
          rw [List.getElem?_map, ek] at e2
          refine ⟨r, ey, ?_⟩
          rw [← Option.some.inj e2]
          exact er
        refine ⟨.ref p, rfl, p, dx, _, rfl, s45 _ _ g1, rfl, p, num bs, rfl, hM.pt.same s45, fun G2 H6 M s6 hMm hmax hG2 => ?_⟩
        rw [grp_own hno hMm hmax hs hm2] at hG2
        refine ⟨.ref G, rfl, dLL _, dLL _, hG2.dp, (hLL.same s6).dp, shaped_ll _, shaped_ll _, _, rfl, ?_⟩
        have eT : PyData.eqv (dLL (ns.map (own bs))) (dLL (ns.map (own bs))) = true := eqv_ll _
        rw [eT]
        have s46 := s45.trans s6
        refine iteT ⟨.ref p, rfl, p, dx, _, rfl, s46 _ _ g1, p, dx, _, .ref tt, rfl, s46 _ _ g1, rfl, tt, _, rfl, .inr (.inl (.inl (s46 _ _ g2))), fun l nl => ?_⟩
        have s47 := s46.trans (same_new (o := .lst ((num bs).map V.int)) nl)
        refine ⟨.ref b, rfl, b, bs, rfl, s47 _ _ hM.bx, by omega, hno, fun l2 H8 s8 h9 => ?_⟩
        refine ⟨dI (num bs), dI (num bs), dp_ints (s8 _ _ upd_same), dp_ints h9, PySem.W.shaped_ints _, PySem.W.shaped_ints _, _, rfl, ?_⟩
        rw [eqv_ints, decide_eq_true rfl]
        have s48 := s47.trans s8
        refine iteT ⟨.ref p, rfl, p, dx, _, rfl, s48 _ _ g1, rfl, p, num bs, rfl, hM.pt.same s48, fun l3 H9 s9 h10 => ⟨le_line (by decide), fun l4 nl4 => ?_⟩⟩
        rw [members_gone hno] at h10
        refine ⟨dI [], dI [], dp_ints ((same_new nl4) _ _ h10), dp_ints upd_same, PySem.W.shaped_ints _, PySem.W.shaped_ints _, ?_⟩
        rw [eqv_ints, decide_eq_true rfl]
        exact q _ (s48.trans (s9.trans (same_new nl4)))
end
end Jc
namespace Jc
open PySem PySem.Spec L2
open PyProof.Rows hiding St
def tsOf (side : Int) (n : Nat) : List Int := (List.range n).map fun j : Nat => side + (j : Int)
def stays (side : Int) (lot : Nat) : List Int := (List.range (2 * lot)).filterMap fun i : Nat => if side ≤ (i : Int) ∧ (i : Int) < side + lot then none else some (i : Int)
theorem tsOf_succ (side : Int) (n : Nat) : tsOf side (n + 1) = tsOf side n ++ [side + (n : Int)] := by
  unfold tsOf
  rw [List.range_succ, List.map_append]
  rfl
theorem mem_tsOf {side : Int} {n : Nat} {k : Int} : k ∈ tsOf side n ↔ side ≤ k ∧ k < side + n := by
  unfold tsOf
  rw [List.mem_map]
  constructor
  · rintro ⟨j, hj, rfl⟩
    rw [List.mem_range] at hj
    omega
  · rintro ⟨h1, h2⟩
    exact ⟨(k - side).toNat, by rw [List.mem_range]; omega, by omega⟩
theorem mem_stays {side : Int} {lot : Nat} {k : Int} : k ∈ stays side lot ↔ (0 ≤ k ∧ k < 2 * lot) ∧ ¬ (side ≤ k ∧ k < side + lot) := by
  unfold stays
  rw [List.mem_filterMap]
  constructor
  · rintro ⟨i, hi, e⟩
    rw [List.mem_range] at hi
    split at e
    · cases e
    · cases e
      omega
  · rintro ⟨h1, h2⟩
    refine ⟨k.toNat, by rw [List.mem_range]; omega, ?_⟩
    have : ((k.toNat : Nat) : Int) = k := by omega
    rw [this, if_neg h2]
theorem stays_map (side : Int) (lot : Nat) : (stays side lot).map V.int = (List.range (2 * lot)).filterMap fun i : Nat => if side ≤ (i : Int) ∧ (i : Int) < side + lot then none else some (V.int (i : Int)) := by
  unfold stays
  rw [List.map_filterMap]
  congr 1
  funext i
  split <;> rfl
theorem alike1 {ms : List Int} {i : Nat} {a : Int} (ha : ms[i]? = some a) {k : Int} (hk : k = (i : Int)) : alikeB (num ms) [k] = decide (a ≠ -1) := by
  subst hk
  have e : pick (num ms) [(i : Int)] = [numOf (told ms) a] := by
    unfold pick
    simp only [List.map_cons, List.map_nil, Int.toNat_natCast, List.getD_eq_getElem?_getD, num_at ha, Option.getD_some]
  unfold alikeB
  rw [e]
  by_cases c : a = -1
  · have g : numOf (told ms) a = -1 := numOf_gone.mpr c
    rw [g]
    simp [c]
  · have g : ¬ numOf (told ms) a = -1 := fun z => c (numOf_gone.mp z)
    have g3 : ¬ ((-1 : Int) ∈ [numOf (told ms) a]) := by
      rw [List.mem_singleton]
      exact fun z => g z.symm
    rw [decide_eq_false g3]
    simp [c]
theorem alike2 {ms : List Int} {i j : Nat} {a b : Int} (ha : ms[i]? = some a) (hb : ms[j]? = some b) {k l : Int} (hk : k = (i : Int)) (hl : l = (j : Int)) : alikeB (num ms) [k, l] = (decide (a ≠ -1) && decide (a = b)) := by
  subst hk hl
  have e : pick (num ms) [(i : Int), (j : Int)] = [numOf (told ms) a, numOf (told ms) b] := by
    unfold pick
    simp only [List.map_cons, List.map_nil, Int.toNat_natCast, List.getD_eq_getElem?_getD, num_at ha, num_at hb, Option.getD_some]
  unfold alikeB
  rw [e]
  have g4 := numOf_inj (ms := ms) (List.mem_of_getElem? ha) (List.mem_of_getElem? hb)
  by_cases c : a = -1
  · have g : numOf (told ms) a = -1 := numOf_gone.mpr c
    rw [g]
    simp [c]
  · have g1 : ¬ numOf (told ms) a = -1 := fun z => c (numOf_gone.mp z)
    by_cases d : a = b
    · subst d
      have g3 : ¬ ((-1 : Int) ∈ [numOf (told ms) a, numOf (told ms) a]) := by
        simp only [List.mem_cons, List.not_mem_nil, or_false, or_self]
        exact fun z => g1 z.symm
      rw [decide_eq_false g3]
      simp [c]
    · have g5 : ¬ numOf (told ms) b = numOf (told ms) a := fun z => d (g4.mp z.symm)
      simp [d, g5]
/-- the holders that are gone when a side has ended -/
theorem members_side {bs : List Int} {lot : Nat} {side : Int} (hl : bs.length = 2 * lot) (hs : side = 0 ∨ side = lot) (hno : ∀ b ∈ bs, b ≠ -1) : members (num (marked bs (tsOf side lot) (-1))) (-1) = tsOf side lot := by
  have h0 : (tsOf side lot).Pairwise (· < ·) := by
    unfold tsOf
    rw [List.pairwise_map]
    exact List.pairwise_lt_range.imp fun h => by omega
  refine sorted_ext ?_ h0 fun k => ?_
  · unfold members
    rw [List.pairwise_filterMap]
    refine List.pairwise_lt_range.imp fun {a b} h x hx y hy => ?_
    split at hx
    · split at hy
      · cases hx
        cases hy
        omega
      · cases hy
    · cases hx
  · unfold members
    rw [List.mem_filterMap, mem_tsOf]
    constructor
    · rintro ⟨i, hi, e⟩
      split at e
      · rename_i c
        cases e
        obtain ⟨m, hm, e2⟩ := num_at' c
        obtain ⟨x, hx, e3⟩ := marked_at hm
        have e4 := numOf_gone.mp e2.symm
        rw [e4] at e3
        by_cases z : (i : Int) ∈ tsOf side lot
        · exact mem_tsOf.mp z
        · rw [if_neg z] at e3
          exact absurd e3.symm (hno x (List.mem_of_getElem? hx))
      · cases e
    · intro h
      have hk : k.toNat < bs.length := by omega
      refine ⟨k.toNat, by rw [List.mem_range, num_len, marked_len]; exact hk, ?_⟩
      have ek : ((k.toNat : Nat) : Int) = k := by omega
      have hm : (marked bs (tsOf side lot) (-1))[k.toNat]? = some (-1) := by
        rw [marked_get (List.getElem?_eq_getElem hk), ek, if_pos (mem_tsOf.mpr h)]
      rw [num_at hm, numOf_gone.mpr rfl, if_pos rfl, ek]
end Jc
namespace Jc
open PySem PySem.Spec L2
open PyProof.Rows hiding St
theorem rgV_ts (side : Int) (lot : Nat) : L2.rgV side (side + lot) = (tsOf side lot).map V.int := by
  unfold L2.rgV tsOf
  rw [List.map_map, show (side + (lot : Int) - side).toNat = lot by omega]
  rfl
def spEnd (C : Addr) : Sp := fun vs H Q _ => ∃ (b p : Addr) (lot : Nat) (bs : List Int) (side top : Int), vs = [.int (lot : Int), .ref b, .ref p, .int side] ∧ 1 ≤ lot ∧ lot ≤ 4 ∧ (side = 0 ∨ side = lot) ∧ Mv C H b p bs (2 * lot) top ∧ 0 ≤ top ∧ ∀ H2, Same H H2 → Q (.bl true) H2
section
variable {P : Program} {w : World} {K : PySem.W.Frag} {mg : Str → Option Value} {base : Heap} {f C : Addr} {fd : FuncData} {t1 : Tok}
abbrev s_endr : Stmt := topS 31
abbrev N_endr : List Str := ["_law_lot", "_law_boxes", "_law_made", "_law_side", "_law_left", "_law_k", "_law_stays", "_law_n"]
theorem sc_endr : FnScope N_endr ["_law_lot", "_law_boxes", "_law_made", "_law_side"] (defScope s_endr) := ⟨rfl, rfl, rfl, by decide +kernel, rfl, by decide +kernel, by decide +kernel⟩
theorem ok_endr (F : Fun K "_law_end_right" "_law_end_right" s_endr f fd) (B : Blt mg) (T : PCf K mg C)
    (m_alike : OwnM P w K mg base C "is_alike" 4 (spAlike C)) (m_fresh : OwnM P w K mg base C "fresh" 5 (spNew C gFresh)) (m_without : OwnM P w K mg base C "without" 5 (spNew C gWithout)) (m_gone : OwnM0 P w K mg base C "gone" 2 (spGone C)) :
    FnG P w K mg base 6 f fd ["_law_lot", "_law_boxes", "_law_made", "_law_side"] (spEnd C) := by
  refine fnG_of F sc_endr (fun vs H Q E h => ?_) (fun us hl => ?_) (fun cdv A outer s H vs Q hr hq h => ?_)
  · obtain ⟨b, p, lot, bs, side, top, rfl, _⟩ := h
    rfl
  · match us, hl with
    | [_, _, _, _], _ => rfl
  · obtain ⟨b, p, lot, bs, side, top, rfl, l1, l4, hsd, hM, ht, q⟩ := h
    have hu := hr.units
    refine ⟨_, (pss_cons (ps_set (i := 4) sc_endr.nd rfl (.inr rfl) (pv 2))
      (pss_cons (ps_for PassesOwn.never rfl (pi_range1 rfl B.range (pa_cons (pv 0) pa_nil)) (pg_name (i := 5) sc_endr.nd rfl (.inl rfl)) (pss_one (ps_set (i := 4) sc_endr.nd rfl (.inr rfl) (pe_om (pv 4) T.cl m_without hr (by decide) (pa_cons (pe_op op_add (pv 3) (pv 5)) pa_nil)))))
      (pss_cons (ps_setLc (i := 6) (own := [("_law_k", 5)]) (g := gName 5) rfl sc_endr.nd rfl rfl (sw_true rfl rfl rfl (by decide +kernel)) (pi_range1 rfl B.range (pa_cons (pe_op op_mul pe_int (pv 0)) pa_nil)) (blkOk_by (own := [("_law_k", 5)]) (N := N_endr) (sc := defScope s_endr) (by decide +kernel)) (fun _ _ _ _ _ => pg_name (i := 5) sc_endr.nd rfl (.inl rfl)) (fun _ _ _ _ _ => pts_one (pt_not (pt_chain op_le op_lt (pv 3) (pv 5) (pe_op op_add (pv 3) (pv 0))))) (fun _ _ _ _ _ => pv 5))
      (pss_cons (ps_if (PW.pt (pw_or (pt_cmpR (op_neD hu) (pe_om0 (pv 4) T.cl m_gone hr (by decide)) (L2.pe_listRg rfl rfl B.list (L2.prg_2 rfl B.range (pv 3) (pe_op op_add (pv 3) (pv 0)))) (nomark _)) (pw_or1 (pt_val (pe_callB (cr_any rfl) rfl B.any bo_any (pa_cons (pe_lc (own := [("_law_k", 5)]) (g := gName 5) rfl sc_endr.nd (pi_range1 rfl B.range (pa_cons (pv 0) pa_nil)) (blkOk_by (own := [("_law_k", 5)]) (N := N_endr) (sc := defScope s_endr) (by decide +kernel)) (fun _ _ _ _ _ => pg_name (i := 5) sc_endr.nd rfl (.inl rfl)) (fun _ _ _ _ _ => pts_nil) (fun _ _ _ _ _ => pe_om (pv 4) T.cl m_alike hr (by decide) (pa_cons (pe_op op_add (pv 3) (pv 5)) pa_nil))) pa_nil)))))) (pss_one (ps_ret pe_bl)) pss_nil)
      (pss_cons (ps_for PassesOwn.never rfl (pi_list (pv 6)) (pg_name (i := 5) sc_endr.nd rfl (.inl rfl)) (pss_one (ps_for PassesOwn.never rfl (pi_range1 rfl B.range (pa_cons (pe_op op_mul pe_int (pv 0)) pa_nil)) (pg_name (i := 7) sc_endr.nd rfl (.inl rfl)) (pss_one (ps_if (pt_cmpR op_ne (pe_om (pv 4) T.cl m_alike hr (by decide) (pa_cons (pv 5) (pa_cons (pv 7) pa_nil))) (pe_and (pe_cmpR op_in_seq (pv 7) (pv 6) rfl) (pe_one (pe_cmpR op_eq (pe_ix ix_list (pv 1) (pv 5) (fun _ _ => rfl)) (pe_ix ix_list (pv 1) (pv 7) (fun _ _ => rfl)) (nomark _)))) (nomark _)) (pss_one (ps_ret pe_bl)) pss_nil)))))
      (pss_one (ps_ret (pe_and (pe_om (pe_om (pv 4) T.cl m_fresh hr (by decide) (pa_cons (pv 3) pa_nil)) T.cl m_alike hr (by decide) (pa_cons (pv 3) pa_nil)) (pe_one (pe_not (pe_om (pe_om (pv 4) T.cl m_fresh hr (by decide) (pa_cons (pv 3) pa_nil)) T.cl m_alike hr (by decide) (pa_cons (pv 3) (pa_cons (pe_ix ix_list (pv 6) pe_int (fun _ _ => rfl)) pa_nil))))))))))))), ?_⟩
    have hno : ∀ x ∈ bs, x ≠ -1 := fun x hx => by have := hM.bd x hx; omega
    have hnt : top ∉ marked bs (tsOf side lot) (-1) := fun z => by
      obtain ⟨i, hi⟩ := List.getElem?_of_mem z
      obtain ⟨x, hx, e⟩ := marked_at hi
      have := hM.bd x (List.mem_of_getElem? hx)
      split at e <;> omega
    have msl : ∀ n, (num (marked bs (tsOf side n) (-1))).length = 2 * lot := fun n => by rw [num_lenM]; exact hM.ln
    have hl2 : (2 * (lot : Int)).toNat = 2 * lot := by omega
    have e0 : marked bs (tsOf side 0) (-1) = bs := by
      refine List.ext_getElem? fun i => ?_
      unfold marked
      rw [List.getElem?_mapIdx]
      cases bs[i]? with
      | none => rfl
      | some x => rfl
    refine ⟨.ref p, rfl, .int lot, rfl, lot, rfl, by omega, by omega, for_it walk_range (fun i σ H2 => ∃ y5 y6 y7 p2, σ = [some (.int lot), some (.ref b), some (.ref p), some (.int side), some (.ref p2), y5, y6, y7] ∧ Same H H2 ∧ PartAt C H2 p2 (num (marked bs (tsOf side i) (-1)))) ⟨_, _, _, _, rfl, Same.refl H, by rw [e0]; exact hM.pt⟩ (fun _ _ _ _ _ => trivial) ?_ ?_⟩
    · rintro i x σ H1 H2 hi ⟨y5, y6, y7, p2, rfl, s1, hp⟩ ⟨rfl, rfl⟩
      obtain ⟨⟨dx2, tt2, g1, g2⟩, _, _, _⟩ := id hp
      have hi2 : i < lot := by simpa using hi
      refine ⟨.ref p2, rfl, p2, dx2, _, rfl, g1, rfl, .int side, rfl, .int (0 + (i : Int)), rfl, _, _, rfl, rfl, p2, _, [side + (0 + (i : Int))], rfl, hp, by show (1 : Nat) ≤ 1000; decide, fun h hh => ?_, fun y H3 s3 hy => ⟨_, _, _, y, rfl, s1.trans s3, ?_⟩⟩
      · rw [List.mem_singleton.mp hh, msl]
        omega
      · unfold gWithout at hy
        rw [num_gone, marked_two, Int.zero_add, ← tsOf_succ] at hy
        exact hy
    · rintro σ H2 ⟨y5, y6, y7, p2, rfl, s2, hp⟩
      rw [Int.toNat_natCast] at hp
      obtain ⟨⟨dx2, tt2, g1, g2⟩, _, _, _⟩ := id hp
      have gat : ∀ (i : Nat) x, bs[i]? = some x → (marked bs (tsOf side lot) (-1))[i]? = some (if side ≤ (i : Int) ∧ (i : Int) < side + lot then -1 else x) := fun i x hx => by
        rw [marked_get hx]
        simp only [mem_tsOf]
      have mln : (num (marked bs (tsOf side lot) (-1))).length = 2 * lot := msl lot
      have bat : ∀ i : Nat, i < 2 * lot → ∃ x, bs[i]? = some x ∧ x ≠ -1 ∧ x < top := fun i hi => by
        obtain ⟨x, hx⟩ : ∃ x, bs[i]? = some x := ⟨_, List.getElem?_eq_getElem (show i < bs.length by rw [hM.ln]; exact hi)⟩
        have := hM.bd _ (List.mem_of_getElem? hx)
        exact ⟨_, hx, hno _ (List.mem_of_getElem? hx), this.2⟩
      -- those that stay
      refine ⟨.int lot, rfl, 2, lot, rfl, rfl, .inl ⟨by decide, by decide⟩, _, rfl, by omega, by omega, fun D hD => ?_⟩
      refine lc_sel walk_range (fun i => if side ≤ (i : Int) ∧ (i : Int) < side + lot then none else some (V.int (i : Int))) (by omega) hD (fun _ _ => trivial) ?_ ?_
      · rintro i x H3 H4 k kn hi z ⟨rfl, hx⟩ ky kk
        obtain rfl : x = .int (i : Int) := hx.trans (congrArg V.int (by omega))
        refine ⟨rfl, .int side, rfl, .int (i : Int), rfl, _, _, rfl, rfl, _, rfl, ?_⟩
        by_cases c1 : side ≤ (i : Int)
        · refine iteDT c1 ⟨.int side, rfl, .int lot, rfl, _, _, rfl, rfl, _, _, rfl, rfl, _, rfl, ?_⟩
          by_cases c2 : (i : Int) < side + lot
          · refine iteNS c2 (kk _ ?_ (Same.refl _))
            show (if side ≤ (i : Int) ∧ (i : Int) < side + lot then _ else _) = _
            rw [if_pos ⟨c1, c2⟩]
          · refine iteNT c2 ⟨.int (i : Int), rfl, ky _ _ ?_ (Same.refl _)⟩
            show (if side ≤ (i : Int) ∧ (i : Int) < side + lot then _ else _) = _
            rw [if_neg (fun y => c2 y.2)]
        · refine iteDF c1 ⟨_, rfl, ?_⟩
          refine iteT (B := kn H4) ⟨.int (i : Int), rfl, ky _ _ ?_ (Same.refl _)⟩
          show (if side ≤ (i : Int) ∧ (i : Int) < side + lot then _ else _) = _
          rw [if_neg (fun y => c1 y.1)]
      intro H3 z hD2
      rw [hl2, ← stays_map] at hD2
      have s3 := s2.trans z
      -- who is gone
      refine ⟨.ref p2, rfl, p2, dx2, _, rfl, z _ _ g1, rfl, p2, _, rfl, hp.same z, fun g H4 s4 hg => ?_⟩
      rw [members_side hM.ln hsd hno] at hg
      refine ⟨.int side, rfl, .int side, rfl, .int lot, rfl, _, _, rfl, rfl, _, _, rfl, rfl, RgOk.of_le (by omega) (by omega) (by omega) (by omega), fun r nr => ?_⟩
      rw [rgV_ts]
      refine ⟨dI (tsOf side lot), dI (tsOf side lot), dp_ints ((same_new nr) _ _ hg), dp_ints upd_same, PySem.W.shaped_ints _, PySem.W.shaped_ints _, _, rfl, ?_⟩
      rw [eqv_ints, decide_eq_true rfl]
      have sz5 : Same H2 (upd H4 r (.lst ((tsOf side lot).map V.int))) := z.trans (s4.trans (same_new nr))
      have hD5 : (upd H4 r (.lst ((tsOf side lot).map V.int))) D = some (.lst ((stays side lot).map V.int)) := (same_new nr) _ _ (s4 _ _ hD2)
      generalize upd H4 r (.lst ((tsOf side lot).map V.int)) = H5 at sz5 hD5
      have s5 := s2.trans sz5
      have p5 := hp.same sz5
      have b5 := sz5 _ _ g1
      refine iteF ?_
      refine ⟨.int lot, rfl, lot, rfl, by omega, by omega, fun E nE => ?_⟩
      refine lc_sel walk_range (fun i => ((List.replicate lot false).map V.bl)[i]?) (by omega) nE (fun _ _ => trivial) ?_ ?_
      · rintro i x H6 H7 k kn hi z6 ⟨rfl, rfl⟩ ky kk
        have hi2 : i < lot := by simpa using hi
        refine ⟨rfl, ?_⟩
        refine iteT (B := kn H7) ⟨.ref p2, rfl, p2, dx2, _, rfl, z6 _ _ b5, rfl, .int side, rfl, .int (0 + (i : Int)), rfl, _, _, rfl, rfl, p2, _, [side + (0 + (i : Int))], rfl, p5.same z6, by show (1 : Nat) ≤ 1000; decide, fun h hh => ?_, fun H8 s8 => ?_⟩
        · rw [List.mem_singleton.mp hh, mln]
          omega
        · obtain ⟨x, hx, _⟩ := bat (side + i).toNat (by omega)
          have ga := gat _ x hx
          rw [if_pos (by omega)] at ga
          rw [alike1 ga (by omega)]
          refine ky _ _ ?_ s8
          rw [List.map_replicate, List.getElem?_replicate, if_pos hi2]
          rfl
      intro H6 z6 hE
      have e7 : (lot : Int).toNat = ((List.replicate lot false).map V.bl).length := by simp
      rw [e7, range_get] at hE
      refine ⟨E, _, rfl, .inl (.inl hE), ?_⟩
      have e8 : (List.replicate lot false).any id = false := by
        rw [List.any_eq_false]
        intro x hx
        rw [(List.mem_replicate.mp hx).2]
        simp
      rw [e8]
      refine ⟨false, rfl, iteF ?_⟩
      have s6 := s5.trans z6
      have p6 := p5.same z6
      have b6 := z6 _ _ b5
      have hD6 := z6 _ _ hD5
      -- all pairs
      refine ⟨.ref D, rfl, D, rfl, ⟨_, .inl (.inl hD6)⟩, for_it walk_list (fun i σ H7 => ∃ y5 y7, σ = [some (.int lot), some (.ref b), some (.ref p), some (.int side), some (.ref p2), y5, some (.ref D), y7] ∧ Same H6 H7) ⟨_, _, rfl, Same.refl _⟩ (fun _ _ _ _ y => by obtain ⟨_, _, _, s7⟩ := y; exact .inl (.inl (s7 _ _ hD6))) ?_ ?_⟩
      · rintro i x σ H7 H8 hi ⟨y5, y7, rfl, s7⟩ ⟨rfl, hx⟩
        obtain ⟨k, hk, rfl⟩ := get_ints hx
        obtain ⟨hk1, hk2⟩ := mem_stays.mp (List.mem_of_getElem? hk)
        refine ⟨.int lot, rfl, 2, lot, rfl, rfl, .inl ⟨by decide, by decide⟩, _, rfl, by omega, by omega, for_it walk_range (fun j σ H9 => ∃ y7, σ = [some (.int lot), some (.ref b), some (.ref p), some (.int side), some (.ref p2), some (.int k), some (.ref D), y7] ∧ Same H6 H9) ⟨_, rfl, s7⟩ (fun _ _ _ _ _ => trivial) ?_ ?_⟩
        · rintro j x σ H9 H10 hj ⟨y7, rfl, s9⟩ ⟨rfl, hx⟩
          obtain rfl : x = .int (j : Int) := hx.trans (congrArg V.int (by omega))
          have hj2 : j < 2 * lot := by omega
          have s9' := s6.trans s9
          obtain ⟨bk, hbk, nbk, _⟩ := bat k.toNat (by omega)
          obtain ⟨bj, hbj, nbj, _⟩ := bat j hj2
          have ga := gat _ bk hbk
          rw [if_neg (by omega)] at ga
          have gb := gat _ bj hbj
          have sq : ∀ H', Same H10 H' → SqL K H' b (bs.map V.int) := fun H' y => .inl (.inl (y _ _ (s9' _ _ hM.bx)))
          refine ⟨.ref p2, rfl, p2, dx2, _, rfl, s9 _ _ b6, rfl, .int k, rfl, .int (j : Int), rfl, p2, _, [k, (j : Int)], rfl, p6.same s9, by show (2 : Nat) ≤ 1000; decide, fun h hh => ?_, fun H11 s11 => ?_⟩
          · simp only [List.mem_cons, List.not_mem_nil, or_false] at hh
            rw [mln]
            rcases hh with rfl | rfl <;> constructor <;> omega
          rw [alike2 ga gb (k := k) (l := (j : Int)) (by omega) rfl]
          refine ⟨.int (j : Int), rfl, .ref D, rfl, D, _, rfl, .inl (.inl (.inl (s11 _ _ (s9 _ _ hD6)))), rfl, flat_ints _, _, rfl, ?_⟩
          rw [if_neg (show ¬ (false = true) from Bool.false_ne_true), inV_ints]
          by_cases c3 : (j : Int) ∈ stays side lot
          · have c4 := (mem_stays.mp c3).2
            refine iteDT c3 ⟨.ref b, rfl, .int k, rfl, b, _, k, .int bk, rfl, rfl, sq _ s11, at_int2 (i := k.toNat) (by omega) hbk, .ref b, rfl, .int (j : Int), rfl, b, _, (j : Int), .int bj, rfl, rfl, sq _ s11, at_ints hbj, rfl, ?_⟩
            refine ⟨rfl, _, rfl, iteNS ?_ ⟨_, rfl, s9.trans s11⟩⟩
            rw [if_neg c4, decV, decide_eq_true nbk, Bool.true_and]
          · have c4 : side ≤ (j : Int) ∧ (j : Int) < side + lot := by
              by_cases y : side ≤ (j : Int) ∧ (j : Int) < side + lot
              · exact y
              · exact absurd (mem_stays.mpr ⟨⟨by omega, by omega⟩, y⟩) c3
            refine iteDF c3 ⟨rfl, _, rfl, iteNS ?_ ⟨_, rfl, s9.trans s11⟩⟩
            rw [if_pos c4, decide_eq_false (show ¬ (bk = -1) from nbk), Bool.and_false]
        · rintro σ H9 ⟨y7, rfl, s9⟩
          exact ⟨_, _, rfl, s9⟩
      · rintro σ H7 ⟨y5, y7, rfl, s7⟩
        have s7' := s6.trans s7
        have p7 := p6.same s7
        have b7 := s7 _ _ b6
        have hD7 := s7 _ _ hD6
        have hsl : side.toNat < 2 * lot := by omega
        have sd1 : ∀ h ∈ [side], 0 ≤ h ∧ h < ((num (marked bs (tsOf side lot) (-1))).length : Int) := fun h hh => by
          rw [List.mem_singleton.mp hh, mln]
          omega
        have hng : top ≠ -1 := by omega
        have hst : ((marked bs (tsOf side lot) (-1)).set side.toNat top)[side.toNat]? = some top := by
          rw [List.getElem?_set_self (by rw [marked_len, hM.ln]; exact hsl)]
        have fl : (num ((marked bs (tsOf side lot) (-1)).set side.toNat top)).length = 2 * lot := by rw [num_len, List.length_set, marked_len, hM.ln]
        refine ⟨.ref p2, rfl, p2, dx2, _, rfl, b7, rfl, .int side, rfl, p2, _, [side], rfl, p7, by show (1 : Nat) ≤ 1000; decide, sd1, fun y H8 s8 hy => ?_⟩
        rw [fresh_set hnt hng (marked_set1 (i := side.toNat) (by omega))] at hy
        obtain ⟨⟨dxy, tty, e1, e2⟩, _, _, _⟩ := id hy
        refine ⟨y, dxy, _, rfl, e1, rfl, .int side, rfl, y, _, [side], rfl, hy, by show (1 : Nat) ≤ 1000; decide, fun h hh => by rw [List.mem_singleton.mp hh, fl]; omega, fun H9 s9 => ?_⟩
        rw [alike1 hst (k := side) (by omega)]
        refine ⟨_, rfl, iteDT hng ?_⟩
        have s89 := s8.trans s9
        refine ⟨.ref p2, rfl, p2, dx2, _, rfl, s89 _ _ b7, rfl, .int side, rfl, p2, _, [side], rfl, p7.same s89, by show (1 : Nat) ≤ 1000; decide, sd1, fun y2 H10 s10 hy2 => ?_⟩
        rw [fresh_set hnt hng (marked_set1 (i := side.toNat) (by omega))] at hy2
        obtain ⟨⟨dxz, ttz, e3, e4⟩, _, _, _⟩ := id hy2
        obtain ⟨t0, ht0⟩ : ∃ t0, (stays side lot)[0]? = some t0 := by
          have hm : (if side = 0 then (lot : Int) else 0) ∈ stays side lot := by
            rw [mem_stays]
            split <;> omega
          exact ⟨_, List.getElem?_eq_getElem (List.length_pos_of_mem hm)⟩
        obtain ⟨k1, k2⟩ := mem_stays.mp (List.mem_of_getElem? ht0)
        obtain ⟨bt, hbt, _, ltt⟩ := bat t0.toNat (by omega)
        have gt := gat _ bt hbt
        rw [if_neg (by omega)] at gt
        have gt2 : ((marked bs (tsOf side lot) (-1)).set side.toNat top)[t0.toNat]? = some bt := by
          rw [List.getElem?_set_ne (by omega)]
          exact gt
        refine ⟨y2, dxz, _, rfl, e3, rfl, .int side, rfl, .ref D, rfl, D, _, 0, .int t0, rfl, rfl, .inl (.inl (s10 _ _ (s89 _ _ hD7))), at_ints (i := 0) ht0, y2, _, [side, t0], rfl, hy2, by show (2 : Nat) ≤ 1000; decide, fun h hh => ?_, fun H11 s11 => ?_⟩
        · simp only [List.mem_cons, List.not_mem_nil, or_false] at hh
          rw [fl]
          rcases hh with rfl | rfl <;> omega
        · rw [alike2 hst gt2 (k := side) (l := t0) (by omega) (by omega), decide_eq_false (show ¬ (top = bt) by omega), Bool.and_false]
          exact ⟨_, rfl, q H11 (s7'.trans (s89.trans (s10.trans s11)))⟩
end
end Jc
namespace Jc
open PySem PySem.Spec L2
open PyProof.Rows hiding St
theorem boxes0 (lot : Nat) (h1 : 1 ≤ lot) (h4 : lot ≤ 4) : ∃ bs : List Int, (List.replicate (2 : Int).toNat (rgV 0 (lot : Int))).flatten = bs.map V.int ∧ num bs = bs ∧ bs.length = 2 * lot ∧ ∀ x ∈ bs, 0 ≤ x ∧ x < 100 := by
  match lot, h1, h4 with
  | 1, _, _ => exact ⟨[0, 0], rfl, by decide, rfl, by decide⟩
  | 2, _, _ => exact ⟨[0, 1, 0, 1], rfl, by decide, rfl, by decide⟩
  | 3, _, _ => exact ⟨[0, 1, 2, 0, 1, 2], rfl, by decide, rfl, by decide⟩
  | 4, _, _ => exact ⟨[0, 1, 2, 3, 0, 1, 2, 3], rfl, by decide, rfl, by decide⟩
theorem mk_of' {K : PySem.W.Frag} {C : Addr} {H : Hp} {R : Addr → Hp → Prop} {a : Addr} {c : List Int} (ha : H a = some (.lst (c.map V.int))) (l1 : 1 ≤ c.length) (l8 : c.length ≤ 8) (hn : num c = c) (q : ∀ p H2, Same H H2 → H p = none → PartAt C H2 p c → R p H2) :
    ∀ x dx, H x = none → H dx = none → dx ≠ x → spInit K C [.ref x, .ref a] (upd (upd H dx (.own x)) x (.ins C dx [])) (fun v H2 => v = .non ∧ R x H2) E0 := by
  intro x dx nx nd hne
  have s0 : Same H (upd (upd H dx (.own x)) x (.ins C dx [])) := same_mut (same_new nd) nx
  refine ⟨x, dx, a, c, rfl, upd_same, s0 _ _ ha, l1, l8, hn, fun t H2 h1 h2 k => ⟨rfl, q x H2 (fun b o e => k b o (ne_of_none e nx) (s0 _ _ e)) nx ⟨⟨dx, t, h1, h2⟩, l1, l8, hn⟩⟩⟩
def spRight : Sp := fun vs H Q _ => ∃ a, vs = [.ref a] ∧ Pot H a ∧ ∀ H2, Same H H2 → Q (.bl true) H2
section
variable {P : Program} {w : World} {K : PySem.W.Frag} {mg : Str → Option Value} {base : Heap} {f C : Addr} {fd : FuncData} {t1 : Tok}
abbrev s_right : Stmt := topS 32
abbrev N_right : List Str := ["_law_pot_here", "_law_lot", "_law_boxes", "_law_made", "_law_turn", "_law_side"]
theorem sc_right : FnScope N_right ["_law_pot_here"] (defScope s_right) := ⟨rfl, rfl, rfl, by decide +kernel, rfl, by decide +kernel, by decide +kernel⟩
theorem ok_right (F : Fun K "_law_right" "_law_right" s_right f fd) (B : Blt mg) (T : PCf K mg C) (c_draw : Own P w K mg base "_law_draw" 1 ["_law_pot_here", "_law_lot"] spDraw)
    (c_moved : Own P w K mg base "_law_moved" 6 ["_law_pot_here", "_law_lot", "_law_boxes", "_law_made", "_law_top"] (spMoved C)) (c_shown : Own P w K mg base "_law_is_shown" 5 ["_law_boxes", "_law_made"] (spShown C))
    (c_endr : Own P w K mg base "_law_end_right" 6 ["_law_lot", "_law_boxes", "_law_made", "_law_side"] (spEnd C)) (M : OwnI P w K mg base C 3 (spInit K C)) : FnG P w K mg base 7 f fd ["_law_pot_here"] spRight := by
  refine fnG_of F sc_right (fun vs H Q E h => ?_) (fun us hl => ?_) (fun cdv A outer s H vs Q hr hq h => ?_)
  · obtain ⟨a, rfl, _⟩ := h
    rfl
  · match us, hl with
    | [_], _ => rfl
  · obtain ⟨a, rfl, ha, q⟩ := h
    refine ⟨_, (pss_cons (ps_set (i := 1) sc_right.nd rfl (.inr rfl) (pe_op op_add pe_int (pe_own c_draw hr hq (by decide) (pa_cons (pv 0) (pa_cons pe_int pa_nil)))))
      (pss_cons (ps_set (i := 2) sc_right.nd rfl (.inr rfl) (pe_op op_rep (pe_listRg rfl rfl B.list (prg_1 rfl B.range (pv 1))) pe_int))
      (pss_cons (ps_set (i := 3) sc_right.nd rfl (.inr rfl) (pe_oi M hr (by decide) T.mc (pa_cons (pv 2) pa_nil)))
      (pss_cons (ps_for PassesOwn.never rfl (pi_range1 rfl B.range (pa_cons pe_int pa_nil)) (pg_name (i := 4) sc_right.nd rfl (.inl rfl))
        (pss_cons (ps_asg (pe_own c_moved hr hq (by decide) (pa_cons (pv 0) (pa_cons (pv 1) (pa_cons (pv 2) (pa_cons (pv 3) (pa_cons (pe_op op_add pe_int (pe_op op_mul pe_int (pv 4))) pa_nil)))))) (pg_tup rfl (pgs_cons (pg_name (i := 2) sc_right.nd rfl (.inr rfl)) (pgs_cons (pg_name (i := 3) sc_right.nd rfl (.inr rfl)) pgs_nil))))
        (pss_one (ps_if (pt_not (pt_val (pe_own c_shown hr hq (by decide) (pa_cons (pv 2) (pa_cons (pv 3) pa_nil))))) (pss_one (ps_ret pe_bl)) pss_nil))))
      (pss_one (ps_ret (pe_callB (cr_all rfl) rfl B.all bo_all (pa_cons (pe_lc (own := [("_law_side", 5)]) (g := gName 5) rfl sc_right.nd (pi_tup (pe_tup (pa_cons pe_int (pa_cons (pv 1) pa_nil)))) (blkOk_by (own := [("_law_side", 5)]) (N := N_right) (sc := defScope s_right) (by decide +kernel)) (fun _ _ _ _ _ => pg_name (i := 5) sc_right.nd rfl (.inl rfl)) (fun _ _ _ _ _ => pts_nil) (fun _ _ _ _ _ => pe_own c_endr hr hq (by decide) (pa_cons (pv 1) (pa_cons (pv 2) (pa_cons (pv 3) (pa_cons (pv 5) pa_nil)))))) pa_nil)))))))), ?_⟩
    refine ⟨.ref a, rfl, a, 4, rfl, ha, by decide, by decide, fun d H1 d0 d1 s1 => ⟨_, _, rfl, rfl, ?_⟩⟩
    obtain ⟨lot, el⟩ : ∃ lot : Nat, 1 + d = (lot : Int) := ⟨(1 + d).toNat, by omega⟩
    have eS : (fun i j : Int => V.int (i + j)) 1 d = V.int (lot : Int) := congrArg V.int el
    rw [eS]
    have l1 : 1 ≤ lot := by omega
    have l4 : lot ≤ 4 := by omega
    obtain ⟨bs0, b1, b2, b3, b4⟩ := boxes0 lot l1 l4
    refine ⟨.int lot, rfl, lot, rfl, RgOk.of_le (by omega) (by omega) (by omega) (by omega), fun r nr => ?_⟩
    refine ⟨r, 2, _, rfl, rfl, upd_same, by decide, by decide, le_line (by rw [rgV_length]; show ((lot : Int) - 0).toNat * 2 ≤ 1000000; omega), fun b nb => ?_⟩
    rw [b1]
    have s2 : Same H (upd (upd H1 r (.lst (rgV 0 (lot : Int)))) b (.lst (bs0.map V.int))) := s1.trans ((same_new nr).trans (same_new nb))
    refine ⟨.ref b, rfl, ?_⟩
    have hb0 : (upd (upd H1 r (.lst (rgV 0 (lot : Int)))) b (.lst (bs0.map V.int))) b = some (.lst (bs0.map V.int)) := upd_same
    refine mk_of' (K := K) (C := C) hb0 (by omega) (by omega) b2 fun p H3 s3 np hp => ?_
    have h3 := s3 b _ upd_same
    have s3' := s2.trans s3
    refine ⟨30, rfl, by decide, by decide, for_it walk_range (fun i σ H4 => ∃ b p bs y4 y5, σ = [some (.ref a), some (.int lot), some (.ref b), some (.ref p), y4, y5] ∧ Same H H4 ∧ Mv C H4 b p bs (2 * lot) (100 + 2 * (i : Int))) ⟨b, p, bs0, _, _, rfl, s3', ⟨h3, by rw [b2]; exact hp, b3, fun x hx => by have := b4 x hx; omega⟩⟩ (fun _ _ _ _ _ => trivial) ?_ ?_⟩
    · rintro i x σ H4 H5 hi ⟨b, p, bs, y4, y5, rfl, s4, hM⟩ ⟨rfl, hx⟩
      obtain rfl : x = .int (i : Int) := hx.trans (congrArg V.int (by omega))
      refine ⟨.ref a, rfl, .int lot, rfl, .ref b, rfl, .ref p, rfl, .int (i : Int), rfl, _, _, rfl, rfl, .inl ⟨by decide, by decide⟩, _, _, rfl, rfl, a, b, p, lot, bs, _, rfl, s4 _ _ ha, l1, l4, hM, by omega, fun U b2 p2 bs2 H6 s6 hU hM2 => ?_⟩
      refine ⟨U, _, rfl, .inl (.inl hU), rfl, _, _, rfl, _, _, rfl, rfl, ?_⟩
      refine ⟨.ref b2, rfl, .ref p2, rfl, b2, p2, bs2, _, _, rfl, hM2, fun H7 s7 => ⟨true, rfl, iteF ⟨b2, p2, bs2, _, _, rfl, s4.trans (s6.trans s7), ?_⟩⟩⟩
      have e : 100 + 2 * ((i + 1 : Nat) : Int) = 100 + 2 * (i : Int) + 2 := by omega
      rw [e]
      exact hM2.same s7
    · rintro σ H4 ⟨b, p, bs, y4, y5, rfl, s4, hM⟩
      refine ⟨.int lot, rfl, two_le, fun U nU => ?_⟩
      refine ⟨U, rfl, ⟨_, .inl (.inl upd_same)⟩, fun D hD => ?_⟩
      have s5 := s4.trans (same_new (o := .tup [.int 0, .int (lot : Int)]) nU)
      have hM5 := hM.same (same_new (o := .tup [.int 0, .int (lot : Int)]) nU)
      refine lc_sel walk_tup (fun i => ([true, true].map V.bl)[i]?) (by show (2 : Nat) < 1000000; decide) hD (fun H6 z => .inl (.inl (z _ _ upd_same))) ?_ ?_
      · rintro i x H6 H7 k kn hi z ⟨rfl, hx⟩ ky kk
        have hf : ([true, true].map V.bl)[i]? = some (.bl true) := match i, hi with
          | 0, _ => rfl
          | 1, _ => rfl
        obtain ⟨sd, rfl, hsd⟩ : ∃ sd : Int, x = .int sd ∧ (sd = 0 ∨ sd = lot) := match i, hi, hx with
          | 0, _, e => ⟨0, (Option.some.inj e).symm, .inl rfl⟩
          | 1, _, e => ⟨lot, (Option.some.inj e).symm, .inr rfl⟩
        refine ⟨rfl, ?_⟩
        refine iteT (B := kn H7) ⟨.int lot, rfl, .ref b, rfl, .ref p, rfl, .int sd, rfl, b, p, lot, bs, sd, _, rfl, l1, l4, hsd, hM5.same z, by omega, fun H9 s9 => ky _ _ hf s9⟩
      · intro H6 z hD2
        refine ⟨D, [true, true], rfl, .inl (.inl hD2), ?_⟩
        exact q H6 (s5.trans z)
end
end Jc
namespace Jc
open PySem PySem.Spec L2
open PyProof.Rows hiding St
section
variable {P : Program} {w : World} {K : PySem.W.Frag} {mg : Str → Option Value} {base : Heap} {f : Addr} {fd : FuncData}
abbrev s_law : Stmt := topS 33
abbrev N_law : List Str := ["_law_script", "_law_k"]
theorem sc_law : FnScope N_law ["_law_script"] (defScope s_law) := ⟨rfl, rfl, rfl, by decide +kernel, rfl, by decide +kernel, by decide +kernel⟩
theorem ok_law (F : Fun K "law" "law" s_law f fd) (B : Blt mg) (c_right : Own P w K mg base "_law_right" 7 ["_law_pot_here"] spRight) (c_pot : Own P w K mg base "_law_pot" 1 ["_law_script", "_law_k"] (spPot K)) :
    FnG P w K mg base 8 f fd ["_law_script"] (spLaw K) := by
  refine fnG_of F sc_law (fun vs H Q E h => ?_) (fun us hl => ?_) (fun cdv A outer s H vs Q hr hq h => ?_)
  · obtain ⟨a, ns, rfl, _⟩ := h
    rfl
  · match us, hl with
    | [_], _ => rfl
  · obtain ⟨a, ns, rfl, hS, hl, q⟩ := h
    refine ⟨_, (pss_one (ps_ret (pe_callB (cr_all rfl) rfl B.all bo_all (pa_cons (pe_lc (own := [("_law_k", 1)]) (g := gName 1) rfl sc_law.nd (pi_range1 rfl B.range (pa_cons (pe_callB (call_max2 rfl) rfl B.max bo_max (pa_cons pe_int (pa_cons (pe_callB (call_min2 rfl) rfl B.min bo_min (pa_cons (pe_callB call_len_seq rfl B.len bo_len (pa_cons (pv 0) pa_nil)) (pa_cons pe_int pa_nil))) pa_nil))) pa_nil)) (blkOk_by (own := [("_law_k", 1)]) (N := N_law) (sc := defScope s_law) (by decide +kernel)) (fun _ _ _ _ _ => pg_name (i := 1) sc_law.nd rfl (.inl rfl)) (fun _ _ _ _ _ => pts_nil) (fun _ _ _ _ _ => (pe_own c_right hr hq (by decide) (pa_cons (pe_pot (pe_own c_pot hr hq (by decide) (pa_cons (pv 0) (pa_cons (pv 1) pa_nil)))) pa_nil)))) pa_nil)))), ?_⟩
    refine ⟨.ref a, rfl, a, _, rfl, .inl hS, _, _, rfl, _, _, rfl, ?_⟩
    generalize hm : (if (4 : Int) < ((ns.map V.int).length : Int) then (4 : Int) else ((ns.map V.int).length : Int)) = m
    generalize hn : (if m > 1 then m else 1) = n
    have hn4 : 1 ≤ n ∧ n ≤ 4 := by
      subst hn hm
      split <;> split at * <;> omega
    refine ⟨n, rfl, by omega, by omega, fun D hD => ?_⟩
    refine lc_flat walk_range (fun i y => y = .bl true) (by omega) hD (fun _ _ => trivial) ?_ ?_
    · rintro i y H2 H3 k hi s2 ⟨rfl, rfl⟩ kk
      refine ⟨rfl, .ref a, rfl, .int (0 + (i : Int)), rfl, a, ns, i, by rw [Int.zero_add], s2.seq hS, by omega, fun p x y np x0 y0 y1 => ⟨p, x, y, upd_same, x0, y0, y1, p, rfl, upd_same, fun H4 s4 => ?_⟩⟩
      exact kk _ _ ((same_mut (same_new np) np).trans s4) rfl
    · intro ys H2 hl2 hR s2 hy
      have e : ys = (List.replicate n.toNat true).map V.bl := by
        refine all_eq (by simp [hl2]) fun i a b e1 e2 => ?_
        rw [hR i a e1]
        simp [List.getElem?_replicate] at e2
        exact e2.2.symm ▸ rfl
      refine ⟨D, _, rfl, .inl (.inl (e ▸ hy)), ?_⟩
      have e2 : ((List.replicate n.toNat true).all id) = true := by
        rw [List.all_eq_true]
        intro x hx
        exact (List.mem_replicate.mp hx).2
      rw [e2]
      exact q H2
end
section
variable {P : Program} {w : World} {K : PySem.W.Frag} {mg : Str → Option Value} {base : Heap} {f : Addr} {fd : FuncData} {x : Str} {st : Stmt} {k : Nat} {ps : List Str} {sp : Sp}
theorem own_mk (F : Fun K x x st f fd) (hm : mg x = some (.ref f)) (G : FnG P w K mg base k f fd ps sp)
    (h1 : ∀ (kV doc pm : Value) (an : Option Addr) (cdv ct : Value) (us : List Value), us.length = ps.length → bindArgs (PySem.W.fnOf x x (defArgs st) (defBody st) (defScope st) .none kV doc pm an cdv ct) ⟨us, []⟩ = pure (ps.zip us))
    (h2 : ∀ (kV doc pm : Value) (an : Option Addr) (cdv ct : Value) (u : Value), ps.length = 1 → bindArgs (PySem.W.fnOf x x (defArgs st) (defBody st) (defScope st) .none kV doc pm an cdv ct) ⟨[], ps.zip [u]⟩ = pure (ps.zip [u])) : Own P w K mg base x k ps sp := by
  obtain ⟨oc, od, kV, doc, pm, an, cdv, ct, osl, rfl, lk, hcd⟩ := F.ex
  exact ⟨f, _, G, hm, F.kp, fun s us hl => .of_eq (h1 kV doc pm an cdv ct us hl), fun s u hl => .of_eq (h2 kV doc pm an cdv ct u hl)⟩
end
/-- a def of the top, found by k_is -/
structure At (K : PySem.W.Frag) (x : Str) (st : Stmt) : Prop where
  ex : ∃ (f : Addr) (oc : Value) (od an : Option Addr) (sl : Array (Option Value)) (kV dc pm cd ct : Value), PySem.W.nsIn K mainGlobals x = some (some (.ref f)) ∧
    K.lookup f = some ⟨oc, od, .func (PySem.W.fnOf x x (defArgs st) (defBody st) (defScope st) .none kV dc pm an cd ct), sl⟩ ∧ PySem.W.codeIn K cd x = true ∧ PySem.W.keepIn K (.ref f) = true
theorem at_mk {K : PySem.W.Frag} {x : Str} {st : Stmt} {f : Addr} {oc : Value} {od an : Option Addr} {sl : Array (Option Value)} {kV dc pm cd ct : Value} (a : PySem.W.nsIn K mainGlobals x = some (some (.ref f)))
    (l : K.lookup f = some ⟨oc, od, .func (PySem.W.fnOf x x (defArgs st) (defBody st) (defScope st) .none kV dc pm an cd ct), sl⟩) (c : PySem.W.codeIn K cd x = true) (k : PySem.W.keepIn K (.ref f) = true) : At K x st := ⟨f, oc, od, an, sl, kV, dc, pm, cd, ct, a, l, c, k⟩
theorem At.fn {K : PySem.W.Frag} {h : Heap} {mg : Str → Option Value} {x : Str} {st : Stmt} (A : At K x st) (X : K.In h) (G : h.Ns mainGlobals mg) : ∃ f fd, Fun K x x st f fd ∧ mg x = some (.ref f) := by
  obtain ⟨f, oc, od, an, sl, kV, dc, pm, cd, ct, a, l, c, k⟩ := A.ex
  exact ⟨f, _, fun_mk l c k, PySem.W.mg_of X G a⟩
end Jc
namespace Jc
open PySem PySem.Spec L2
open PyProof.Rows hiding St
/-- a method of the class, found by k_is -/
structure AtM (K : PySem.W.Frag) (C : Addr) (m qual : Str) (st : Stmt) : Prop where
  ex : ∃ (f : Addr) (oc : Value) (od an : Option Addr) (sl : Array (Option Value)) (kV dc pm cd ct : Value), PySem.W.findIn K (.ref C) m = some (some (.ref f)) ∧ PySem.W.isFn K (.ref f) = true ∧
    K.lookup f = some ⟨oc, od, .func (PySem.W.fnOf m qual (defArgs st) (defBody st) (defScope st) .none kV dc pm an cd ct), sl⟩ ∧ PySem.W.codeIn K cd qual = true ∧ PySem.W.keepIn K (.ref f) = true
theorem atm_mk {K : PySem.W.Frag} {C : Addr} {m qual : Str} {st : Stmt} {f : Addr} {oc : Value} {od an : Option Addr} {sl : Array (Option Value)} {kV dc pm cd ct : Value} (a : PySem.W.findIn K (.ref C) m = some (some (.ref f))) (i : PySem.W.isFn K (.ref f) = true)
    (l : K.lookup f = some ⟨oc, od, .func (PySem.W.fnOf m qual (defArgs st) (defBody st) (defScope st) .none kV dc pm an cd ct), sl⟩) (c : PySem.W.codeIn K cd qual = true) (k : PySem.W.keepIn K (.ref f) = true) : AtM K C m qual st := ⟨f, oc, od, an, sl, kV, dc, pm, cd, ct, a, i, l, c, k⟩
theorem AtM.fn {K : PySem.W.Frag} {C : Addr} {m qual : Str} {st : Stmt} (A : AtM K C m qual st) : ∃ f fd, Fun K m qual st f fd ∧ Meth K C m f := by
  obtain ⟨f, oc, od, an, sl, kV, dc, pm, cd, ct, a, i, l, c, k⟩ := A.ex
  exact ⟨f, _, fun_mk l c k, a, i, k⟩
structure AtP (K : PySem.W.Frag) (C : Addr) (m qual : Str) (st : Stmt) : Prop where
  ex : ∃ (p g : Addr) (fd : FuncData), PropOf K C m p g ∧ Fun K m qual st g fd
theorem atp_mk {K : PySem.W.Frag} {C : Addr} {m qual : Str} {st : Stmt} {p g : Addr} {rest : List Value} {oc : Value} {od an : Option Addr} {sl : Array (Option Value)} {kV dc pm cd ct : Value} (a : PySem.W.findIn K (.ref C) m = some (some (.ref p)))
    (s : PySem.W.specialIn K (.ref p) "__get__" = some (some (.builtin "property.__get__"))) (t : PySem.W.takesIn K (.ref p) = some true) (r : PySem.W.recIn K p "property" = some (.ref g :: rest))
    (l : K.lookup g = some ⟨oc, od, .func (PySem.W.fnOf m qual (defArgs st) (defBody st) (defScope st) .none kV dc pm an cd ct), sl⟩) (c : PySem.W.codeIn K cd qual = true) (k : PySem.W.keepIn K (.ref g) = true) : AtP K C m qual st := ⟨p, g, _, ⟨a, s, t, rest, r⟩, fun_mk l c k⟩
theorem raw0 {P : Program} {w : World} {K : PySem.W.Frag} {mg : Str → Option Value} {base : Heap} {k : Nat} {f : Addr} {fd : FuncData} {ps : List Str} {sp : Sp} (F : FnOk P w K mg base CX0 k f fd ps sp) (hb : Binds K fd ps []) : FnR P w K mg base CX0 k f sp :=
  (F.raw hb .nil).imp fun vs H Q E h => by
    rw [List.append_nil]
    exact h
theorem all_mk {l : PySem.W.OpenLaw} {w : World} {K : PySem.W.Frag} {h : Heap} {mg : Str → Option Value} {fa C : Addr} (X : K.In h) (G : h.Ns mainGlobals mg) (hfa : mg "law" = some (.ref fa))
    (mgC : PySem.W.nsIn K mainGlobals "Partition" = some (some (.ref C))) (pg : PySem.W.plainGet K C Str.empty = true) (hd : PySem.W.hasDictIn K C = true) (po : PySem.W.plainOver K C = true) (sa : PySem.W.findIn K (.ref C) "__setattr__" = some (some (.builtin "object.__setattr__")))
    (na : PySem.W.findIn K (.ref C) "_classes" = some none) (mk : PySem.W.makesIn K C = true) (kc : PySem.W.keepIn K (.ref C) = true) (rd : PySem.W.readsIn K C (.type "type") = true) (ga : PySem.W.specialIn K (.ref C) "__getattribute__" = some (some (.builtin "type.__getattribute__")))
    {t8 : Tok} (cv : PySem.W.findCls K (.ref C) (.type "type") "MOST_HOLDERS" = some (.val (.int 8 t8)))
    (M_init : AtM K C "__init__" "Partition.__init__" s_init)
    (M_alike : AtM K C "is_alike" "Partition.is_alike" s_alike)
    (M_groups : AtM K C "groups" "Partition.groups" s_groups)
    (M_gone : AtM K C "gone" "Partition.gone" s_gone)
    (M_copied : AtM K C "copied" "Partition.copied" s_copied)
    (M_fresh : AtM K C "fresh" "Partition.fresh" s_fresh)
    (M_without : AtM K C "without" "Partition.without" s_without)
    (P_classes : AtP K C "classes" "Partition.classes" s_classes)
    (A_is_integer : At K "is_integer" s_is_integer)
    (A_is_count : At K "is_count" s_is_count)
    (A_chold : At K "_check_holders" s_chold)
    (A_arecls : At K "are_classes" s_arecls)
    (A_numbered : At K "numbered" s_numbered)
    (A_members : At K "_members" s_members)
    (A_marked_ : At K "_marked" s_marked_)
    (A_pot : At K "_law_pot" s_pot)
    (A_draw : At K "_law_draw" s_draw)
    (A_numbers : At K "_law_numbers" s_numbers)
    (A_moved : At K "_law_moved" s_moved)
    (A_shown : At K "_law_is_shown" s_shown)
    (A_endr : At K "_law_end_right" s_endr)
    (A_right : At K "_law_right" s_right)
    (A_law : At K "law" s_law)
    {t_GONE : Tok} (k_GONE : PySem.W.nsIn K mainGlobals "GONE" = some (some (.int (-1) t_GONE)))
    (z_len : PySem.W.nsIn K mainGlobals "len" = some none) (z_abs : PySem.W.nsIn K mainGlobals "abs" = some none) (z_max : PySem.W.nsIn K mainGlobals "max" = some none) (z_min : PySem.W.nsIn K mainGlobals "min" = some none) (z_divmod : PySem.W.nsIn K mainGlobals "divmod" = some none) (z_repr : PySem.W.nsIn K mainGlobals "repr" = some none) (z_isinstance : PySem.W.nsIn K mainGlobals "isinstance" = some none) (z_all : PySem.W.nsIn K mainGlobals "all" = some none) (z_any : PySem.W.nsIn K mainGlobals "any" = some none) (z_sum : PySem.W.nsIn K mainGlobals "sum" = some none) (z_sorted : PySem.W.nsIn K mainGlobals "sorted" = some none) (z_int : PySem.W.nsIn K mainGlobals "int" = some none) (z_str : PySem.W.nsIn K mainGlobals "str" = some none) (z_bool : PySem.W.nsIn K mainGlobals "bool" = some none) (z_list : PySem.W.nsIn K mainGlobals "list" = some none) (z_tuple : PySem.W.nsIn K mainGlobals "tuple" = some none) (z_dict : PySem.W.nsIn K mainGlobals "dict" = some none) (z_set : PySem.W.nsIn K mainGlobals "set" = some none) (z_range : PySem.W.nsIn K mainGlobals "range" = some none) (z_enumerate : PySem.W.nsIn K mainGlobals "enumerate" = some none) (z_zip : PySem.W.nsIn K mainGlobals "zip" = some none) (z_reversed : PySem.W.nsIn K mainGlobals "reversed" = some none) :
    ∃ fd : FuncData, (∀ (s : Shared) (v : Value), BindsTo s fd ⟨[v], []⟩ [("_law_script", v)]) ∧ ∀ base : Heap, K.In base → base.Ns mainGlobals mg → FnG l.prog w K mg base 8 fa fd ["_law_script"] (spLaw K) := by
  have B : Blt mg := ⟨PySem.W.mg_none_of X G z_len, PySem.W.mg_none_of X G z_abs, PySem.W.mg_none_of X G z_max, PySem.W.mg_none_of X G z_min, PySem.W.mg_none_of X G z_divmod, PySem.W.mg_none_of X G z_repr, PySem.W.mg_none_of X G z_isinstance, PySem.W.mg_none_of X G z_all, PySem.W.mg_none_of X G z_any, PySem.W.mg_none_of X G z_sum, PySem.W.mg_none_of X G z_sorted, PySem.W.mg_none_of X G z_int, PySem.W.mg_none_of X G z_str, PySem.W.mg_none_of X G z_bool, PySem.W.mg_none_of X G z_list, PySem.W.mg_none_of X G z_tuple, PySem.W.mg_none_of X G z_dict, PySem.W.mg_none_of X G z_set, PySem.W.mg_none_of X G z_range, PySem.W.mg_none_of X G z_enumerate, PySem.W.mg_none_of X G z_zip, PySem.W.mg_none_of X G z_reversed⟩
  have G1 : TxP mg t_GONE := ⟨PySem.W.mg_of X G k_GONE⟩
  have T : PCf K mg C := ⟨⟨pg, hd, po, sa⟩, na, PySem.W.mg_of X G mgC, ⟨_, _, ⟨rd, ga⟩, ⟨cv, ⟨_, rfl⟩⟩⟩⟩
  obtain ⟨f_is_integer, d_is_integer, F_is_integer, m_is_integer⟩ := A_is_integer.fn X G
  obtain ⟨f_is_count, d_is_count, F_is_count, m_is_count⟩ := A_is_count.fn X G
  obtain ⟨f_chold, d_chold, F_chold, m_chold⟩ := A_chold.fn X G
  obtain ⟨f_arecls, d_arecls, F_arecls, m_arecls⟩ := A_arecls.fn X G
  obtain ⟨f_numbered, d_numbered, F_numbered, m_numbered⟩ := A_numbered.fn X G
  obtain ⟨f_members, d_members, F_members, m_members⟩ := A_members.fn X G
  obtain ⟨f_marked_, d_marked_, F_marked_, m_marked_⟩ := A_marked_.fn X G
  obtain ⟨f_pot, d_pot, F_pot, m_pot⟩ := A_pot.fn X G
  obtain ⟨f_draw, d_draw, F_draw, m_draw⟩ := A_draw.fn X G
  obtain ⟨f_numbers, d_numbers, F_numbers, m_numbers⟩ := A_numbers.fn X G
  obtain ⟨f_moved, d_moved, F_moved, m_moved⟩ := A_moved.fn X G
  obtain ⟨f_shown, d_shown, F_shown, m_shown⟩ := A_shown.fn X G
  obtain ⟨f_endr, d_endr, F_endr, m_endr⟩ := A_endr.fn X G
  obtain ⟨f_right, d_right, F_right, m_right⟩ := A_right.fn X G
  obtain ⟨g_init, e_init, F_init, h_init⟩ := M_init.fn
  obtain ⟨g_alike, e_alike, F_alike, h_alike⟩ := M_alike.fn
  obtain ⟨g_groups, e_groups, F_groups, h_groups⟩ := M_groups.fn
  obtain ⟨g_gone, e_gone, F_gone, h_gone⟩ := M_gone.fn
  obtain ⟨g_copied, e_copied, F_copied, h_copied⟩ := M_copied.fn
  obtain ⟨g_fresh, e_fresh, F_fresh, h_fresh⟩ := M_fresh.fn
  obtain ⟨g_without, e_without, F_without, h_without⟩ := M_without.fn
  obtain ⟨p_cls, g_cls, e_cls, h_cls, F_cls⟩ := P_classes.ex
  obtain ⟨f1, oc, od, an, sl, kV, dc, pm, cd, ct, a1, l1, c1, k1⟩ := A_law.ex
  have e := hfa.symm.trans (PySem.W.mg_of X G a1)
  cases e
  refine ⟨PySem.W.fnOf "law" "law" (defArgs s_law) (defBody s_law) (defScope s_law) .none kV dc pm an cd ct, fun s v => .of_eq rfl, fun base _ _ => ?_⟩
  have c_is_integer : OwnK l.prog w K mg base "is_integer" 1 ["value"] spInt := ⟨f_is_integer, d_is_integer, ok_is_integer F_is_integer B, m_is_integer, F_is_integer.kp, F_is_integer.binds (fun _ _ _ _ _ _ us hl => match us, hl with | [_], _ => rfl)⟩
  have c_is_count : OwnK l.prog w K mg base "is_count" 2 ["value"] spCnt := ⟨f_is_count, d_is_count, ok_is_count F_is_count c_is_integer, m_is_count, F_is_count.kp, F_is_count.binds (fun _ _ _ _ _ _ us hl => match us, hl with | [_], _ => rfl)⟩
  have c_chold : OwnK l.prog w K mg base "_check_holders" 3 ["classes", "holders"] (spHold K) := ⟨f_chold, d_chold, ok_chold F_chold B c_is_count, m_chold, F_chold.kp, F_chold.binds (fun _ _ _ _ _ _ us hl => match us, hl with | [_, _], _ => rfl)⟩
  have c_numbered : OwnK l.prog w K mg base "numbered" 1 ["marks"] (spNum K) := ⟨f_numbered, d_numbered, ok_numbered F_numbered B G1, m_numbered, F_numbered.kp, F_numbered.binds (fun _ _ _ _ _ _ us hl => match us, hl with | [_], _ => rfl)⟩
  have c_members : OwnK l.prog w K mg base "_members" 1 ["classes", "number"] (spMem K) := ⟨f_members, d_members, ok_members F_members B, m_members, F_members.kp, F_members.binds (fun _ _ _ _ _ _ us hl => match us, hl with | [_, _], _ => rfl)⟩
  have c_marked_ : OwnK l.prog w K mg base "_marked" 1 ["classes", "holders", "mark"] (spMark K) := ⟨f_marked_, d_marked_, ok_marked F_marked_ B, m_marked_, F_marked_.kp, F_marked_.binds (fun _ _ _ _ _ _ us hl => match us, hl with | [_, _, _], _ => rfl)⟩
  have c_arecls : OwnK l.prog w K mg base "are_classes" 2 ["value"] (spAre K) := ⟨f_arecls, d_arecls, ok_arecls F_arecls B T c_is_integer c_numbered, m_arecls, F_arecls.kp, F_arecls.binds (fun _ _ _ _ _ _ us hl => match us, hl with | [_], _ => rfl)⟩
  have M : OwnI l.prog w K mg base C 3 (spInit K C) := ⟨g_init, ⟨mk, h_init.at_, h_init.fn, kc⟩, raw0 (ok_init F_init B T c_arecls) (F_init.binds (fun _ _ _ _ _ _ us hl => match us, hl with | [_, _], _ => rfl))⟩
  have m_alike : OwnM l.prog w K mg base C "is_alike" 4 (spAlike C) := ⟨g_alike, h_alike, ok_alike F_alike B T G1 c_chold⟩
  have m_fresh : OwnM l.prog w K mg base C "fresh" 5 (spNew C gFresh) := ⟨g_fresh, h_fresh, ok_fresh F_fresh B T c_chold c_numbered c_marked_ M⟩
  have m_without : OwnM l.prog w K mg base C "without" 5 (spNew C gWithout) := ⟨g_without, h_without, ok_without F_without B T G1 c_chold c_numbered c_marked_ M⟩
  have m_copied : OwnM l.prog w K mg base C "copied" 5 (spCopied C) := ⟨g_copied, h_copied, raw0 (ok_copied F_copied T c_chold c_numbered c_marked_ M) (F_copied.binds (fun _ _ _ _ _ _ us hl => match us, hl with | [_, _, _], _ => rfl))⟩
  have m_gone : OwnM0 l.prog w K mg base C "gone" 2 (spGone C) := ⟨g_gone, e_gone, h_gone, ok_gone F_gone T G1 c_members, F_gone.binds (fun _ _ _ _ _ _ us hl => match us, hl with | [_], _ => rfl)⟩
  have m_groups : OwnM0 l.prog w K mg base C "groups" 2 (spGroups C) := ⟨g_groups, e_groups, h_groups, ok_groups F_groups B T c_members, F_groups.binds (fun _ _ _ _ _ _ us hl => match us, hl with | [_], _ => rfl)⟩
  have m_cls : OwnP l.prog w K mg base C "classes" 1 (getSp C "_classes") := ⟨p_cls, g_cls, e_cls, h_cls, ok_classes F_cls T, F_cls.binds (fun _ _ _ _ _ _ us hl => match us, hl with | [_], _ => rfl)⟩
  have c_pot : Own l.prog w K mg base "_law_pot" 1 ["_law_script", "_law_k"] (spPot K) := own_mk F_pot m_pot (ok_pot F_pot B) (fun _ _ _ _ _ _ us hl => match us, hl with | [_, _], _ => rfl) (fun _ _ _ _ _ _ _ z => nomatch z)
  have c_draw : Own l.prog w K mg base "_law_draw" 1 ["_law_pot_here", "_law_lot"] spDraw := own_mk F_draw m_draw (ok_draw F_draw B) (fun _ _ _ _ _ _ us hl => match us, hl with | [_, _], _ => rfl) (fun _ _ _ _ _ _ _ z => nomatch z)
  have c_numbers : Own l.prog w K mg base "_law_numbers" 1 ["_law_marks"] spNumbers := own_mk F_numbers m_numbers (ok_numbers F_numbers B) (fun _ _ _ _ _ _ us hl => match us, hl with | [_], _ => rfl) (fun _ _ _ _ _ _ _ _ => rfl)
  have c_moved : Own l.prog w K mg base "_law_moved" 6 ["_law_pot_here", "_law_lot", "_law_boxes", "_law_made", "_law_top"] (spMoved C) := own_mk F_moved m_moved (ok_moved F_moved B T c_draw m_fresh m_copied) (fun _ _ _ _ _ _ us hl => match us, hl with | [_, _, _, _, _], _ => rfl) (fun _ _ _ _ _ _ _ z => nomatch z)
  have c_shown : Own l.prog w K mg base "_law_is_shown" 5 ["_law_boxes", "_law_made"] (spShown C) := own_mk F_shown m_shown (ok_shown F_shown B T c_numbers m_alike m_groups m_gone m_cls) (fun _ _ _ _ _ _ us hl => match us, hl with | [_, _], _ => rfl) (fun _ _ _ _ _ _ _ z => nomatch z)
  have c_endr : Own l.prog w K mg base "_law_end_right" 6 ["_law_lot", "_law_boxes", "_law_made", "_law_side"] (spEnd C) := own_mk F_endr m_endr (ok_endr F_endr B T m_alike m_fresh m_without m_gone) (fun _ _ _ _ _ _ us hl => match us, hl with | [_, _, _, _], _ => rfl) (fun _ _ _ _ _ _ _ z => nomatch z)
  have c_right : Own l.prog w K mg base "_law_right" 7 ["_law_pot_here"] spRight := own_mk F_right m_right (ok_right F_right B T c_draw c_moved c_shown c_endr M) (fun _ _ _ _ _ _ us hl => match us, hl with | [_], _ => rfl) (fun _ _ _ _ _ _ _ _ => rfl)
  exact ok_law (fun_mk l1 c1 k1) B c_right c_pot
end Jc
open PySem PySem.W PyProof.Rows
set_option maxRecDepth 100000 in
set_option maxHeartbeats 0 in
theorem PySem.Challenge.cw_cutshows_k17_whole_boxes_of_two_sides_holds : PySem.Challenge.rw_cutshows_k17_whole_boxes_of_two_sides.Holds := by
  w_on; o_law; k_head; (case hw => w_witness2)
  k_fill
  refine Jc.walkG (l := PySem.Challenge.rw_cutshows_k17_whole_boxes_of_two_sides) (k := 8) rfl rfl ⟨rfl, by decide, by decide⟩ (fun w h Y => PySem.W.kIn_of Y) ?F
  case F =>
    intro w mg fa h KX G hmg
    refine' Jc.all_mk KX G hmg ?mgC ?pg ?hd ?po ?sa ?na ?mk ?kc ?rd ?ga ?cv (Jc.atm_mk ?ma_init ?mi_init ?ml_init ?mc_init ?mk_init) (Jc.atm_mk ?ma_alike ?mi_alike ?ml_alike ?mc_alike ?mk_alike) (Jc.atm_mk ?ma_groups ?mi_groups ?ml_groups ?mc_groups ?mk_groups) (Jc.atm_mk ?ma_gone ?mi_gone ?ml_gone ?mc_gone ?mk_gone) (Jc.atm_mk ?ma_copied ?mi_copied ?ml_copied ?mc_copied ?mk_copied) (Jc.atm_mk ?ma_fresh ?mi_fresh ?ml_fresh ?mc_fresh ?mk_fresh) (Jc.atm_mk ?ma_without ?mi_without ?ml_without ?mc_without ?mk_without) (Jc.atp_mk ?pa ?ps ?pt ?pr ?pl ?pc ?pk) (Jc.at_mk ?a_is_integer ?l_is_integer ?c_is_integer ?k_is_integer) (Jc.at_mk ?a_is_count ?l_is_count ?c_is_count ?k_is_count) (Jc.at_mk ?a_chold ?l_chold ?c_chold ?k_chold) (Jc.at_mk ?a_arecls ?l_arecls ?c_arecls ?k_arecls) (Jc.at_mk ?a_numbered ?l_numbered ?c_numbered ?k_numbered) (Jc.at_mk ?a_members ?l_members ?c_members ?k_members) (Jc.at_mk ?a_marked_ ?l_marked_ ?c_marked_ ?k_marked_) (Jc.at_mk ?a_pot ?l_pot ?c_pot ?k_pot) (Jc.at_mk ?a_draw ?l_draw ?c_draw ?k_draw) (Jc.at_mk ?a_numbers ?l_numbers ?c_numbers ?k_numbers) (Jc.at_mk ?a_moved ?l_moved ?c_moved ?k_moved) (Jc.at_mk ?a_shown ?l_shown ?c_shown ?k_shown) (Jc.at_mk ?a_endr ?l_endr ?c_endr ?k_endr) (Jc.at_mk ?a_right ?l_right ?c_right ?k_right) (Jc.at_mk ?a_law ?l_law ?c_law ?k_law) ?k_GONE ?z_len ?z_abs ?z_max ?z_min ?z_divmod ?z_repr ?z_isinstance ?z_all ?z_any ?z_sum ?z_sorted ?z_int ?z_str ?z_bool ?z_list ?z_tuple ?z_dict ?z_set ?z_range ?z_enumerate ?z_zip ?z_reversed
    (case mgC => k_is); (case pg => k_is); (case hd => k_is); (case po => k_is); (case sa => k_is); (case na => k_is); (case mk => k_is); (case kc => k_is); (case rd => k_is); (case ga => k_is); (case cv => k_is)
    (case ma_init => k_is); (case mi_init => k_is); (case ml_init => k_is); (case mc_init => k_is); (case mk_init => k_is)
    (case ma_alike => k_is); (case mi_alike => k_is); (case ml_alike => k_is); (case mc_alike => k_is); (case mk_alike => k_is)
    (case ma_groups => k_is); (case mi_groups => k_is); (case ml_groups => k_is); (case mc_groups => k_is); (case mk_groups => k_is)
    (case ma_gone => k_is); (case mi_gone => k_is); (case ml_gone => k_is); (case mc_gone => k_is); (case mk_gone => k_is)
    (case ma_copied => k_is); (case mi_copied => k_is); (case ml_copied => k_is); (case mc_copied => k_is); (case mk_copied => k_is)
    (case ma_fresh => k_is); (case mi_fresh => k_is); (case ml_fresh => k_is); (case mc_fresh => k_is); (case mk_fresh => k_is)
    (case ma_without => k_is); (case mi_without => k_is); (case ml_without => k_is); (case mc_without => k_is); (case mk_without => k_is)
    (case pa => k_is); (case ps => k_is); (case pt => k_is); (case pr => k_is); (case pl => k_is); (case pc => k_is); (case pk => k_is)
    (case a_is_integer => k_is); (case l_is_integer => k_is); (case c_is_integer => k_is); (case k_is_integer => k_is)
    (case a_is_count => k_is); (case l_is_count => k_is); (case c_is_count => k_is); (case k_is_count => k_is)
    (case a_chold => k_is); (case l_chold => k_is); (case c_chold => k_is); (case k_chold => k_is)
    (case a_arecls => k_is); (case l_arecls => k_is); (case c_arecls => k_is); (case k_arecls => k_is)
    (case a_numbered => k_is); (case l_numbered => k_is); (case c_numbered => k_is); (case k_numbered => k_is)
    (case a_members => k_is); (case l_members => k_is); (case c_members => k_is); (case k_members => k_is)
    (case a_marked_ => k_is); (case l_marked_ => k_is); (case c_marked_ => k_is); (case k_marked_ => k_is)
    (case a_pot => k_is); (case l_pot => k_is); (case c_pot => k_is); (case k_pot => k_is)
    (case a_draw => k_is); (case l_draw => k_is); (case c_draw => k_is); (case k_draw => k_is)
    (case a_numbers => k_is); (case l_numbers => k_is); (case c_numbers => k_is); (case k_numbers => k_is)
    (case a_moved => k_is); (case l_moved => k_is); (case c_moved => k_is); (case k_moved => k_is)
    (case a_shown => k_is); (case l_shown => k_is); (case c_shown => k_is); (case k_shown => k_is)
    (case a_endr => k_is); (case l_endr => k_is); (case c_endr => k_is); (case k_endr => k_is)
    (case a_right => k_is); (case l_right => k_is); (case c_right => k_is); (case k_right => k_is)
    (case a_law => k_is); (case l_law => k_is); (case c_law => k_is); (case k_law => k_is)
    (case k_GONE => k_is)
    (case z_len => k_is); (case z_abs => k_is); (case z_max => k_is); (case z_min => k_is); (case z_divmod => k_is); (case z_repr => k_is); (case z_isinstance => k_is); (case z_all => k_is); (case z_any => k_is); (case z_sum => k_is); (case z_sorted => k_is); (case z_int => k_is); (case z_str => k_is); (case z_bool => k_is); (case z_list => k_is); (case z_tuple => k_is); (case z_dict => k_is); (case z_set => k_is); (case z_range => k_is); (case z_enumerate => k_is); (case z_zip => k_is); (case z_reversed => k_is)
