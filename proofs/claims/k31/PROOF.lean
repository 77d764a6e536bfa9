import PyProof.Rows.All
import Wide.All
import OpenK.AllK
import Wide.FinOn
import HandS.ForMost
import HandS.IsInst
import HandS.Style
import HandS.WideBits
import HandS.RaiseMore
import PyProof.ReprRoads
import PyProof.Rows.ReprR
import HandS.Walk
import HandS.Evl
import HandS.More
import HandS.Star
import HandS.Property
import HandS.ClsMeth
import HandS.SetFor
import HandS.Strs
import KE.GoesEnum
import OpenK.KEqL
import KE.KEqDeep
import KE.KeyNested
import PyProof.DictRoadsH
import PyProof.DictFindH
import HandS.Dict
import HandS.DictComp
import HandS.Iter
import KE.KLam
import OpenK.KOps
import OpenK.KMore
import PyProof.ReprBulk
import HandS.Deep
import HandS.MakeKwOnly
import PySem.Challenge.RW_cutshows_k31_symbols_numbered
set_option Elab.async false
set_option linter.all false
set_option maxRecDepth 100000
set_option maxHeartbeats 8100000
namespace Jc
open PySem PySem.Spec L2
open PyProof.Rows hiding St

/-! ### the pot of a law: two ints in a list; hidden behind one word, so that a draw leaves the heap as it was -/
def potPhi (p : Addr) : Heap → Prop := fun h => ∃ (a b : Int) (t u : Tok) (n : Nat), 0 ≤ a ∧ 0 ≤ b ∧ b < 2147483587 ∧
  h.get? p = some { cls := .type "list", data := .seq #[.int a t, .int b u] n }
abbrev Pot (H : Hp) (p : Addr) : Prop := H p = some (.ext (potPhi p))
section
variable {X : Cx} {pins : List (Addr × Obj)} {σ : St} {H : Hp} {s : Shared} {p : Addr}
theorem two_le : 2 ≤ sizeLine := by rw [sizeLine_eq]; decide
theorem pot_open (I : Inv X pins σ H s) (h : Pot H p) : ∃ a b : Int, 0 ≤ a ∧ 0 ≤ b ∧ b < 2147483587 ∧ Inv X pins σ (upd H p (.lst [.int a, .int b])) s := by
  obtain ⟨⟨a, b, t, u, n, ha, hb, hb2, hg⟩, _, _⟩ := (show ObjOk X.prog X.w H s.heap p (.ext (potPhi p)) from I.hok p _ h)
  refine ⟨a, b, ha, hb, hb2, ?_⟩
  exact I.write (x := p) (e := p) (h' := s.heap) (t' := s.toks) (by rw [h]; trivial) (.inl rfl) (fun _ _ _ e => e) ⟨_, hg⟩
    ⟨two_le, [.int a t, .int b u], n, .cons ⟨_, rfl⟩ (.cons ⟨_, rfl⟩ .nil), hg⟩
theorem pot_shut (I : Inv X pins σ H s) {a b : Int} (h : H p = some (.lst [.int a, .int b])) (ha : 0 ≤ a) (hb : 0 ≤ b) (hb2 : b < 2147483587) : Inv X pins σ (upd H p (.ext (potPhi p))) s := by
  obtain ⟨_, its, n, r, hg⟩ := (show ObjOk X.prog X.w H s.heap p (.lst [.int a, .int b]) from I.hok p _ h)
  obtain ⟨u1, u2, e, ⟨t, r1⟩, ⟨u, r2⟩⟩ := vals2 r
  subst e r1 r2
  refine I.write (x := p) (e := p) (h' := s.heap) (t' := s.toks) (by rw [h]; trivial) (.inl rfl) (fun _ _ _ e => e) ⟨_, hg⟩ ⟨⟨a, b, t, u, n, ha, hb, hb2, hg⟩, ⟨_, hg⟩, ?_⟩
  rintro h1 h2 ⟨a', b', t', u', n', c1, c2, c3, c4⟩ k
  exact ⟨a', b', t', u', n', c1, c2, c3, k _ c4⟩
end
section
variable {X : Cx}
/-- a block, its pot laid open first -/
theorem pss_pot {body : List Stmt} {t : TS} (h : PSs X body t) : PSs X body (fun D σ H => ∃ p, Pot H p ∧ ∀ a b : Int, 0 ≤ a → 0 ≤ b → b < 2147483587 → t D σ (upd H p (.lst [.int a, .int b]))) := by
  refine ⟨fun pins s σ H D I ht => ?_⟩
  obtain ⟨p, hp, k⟩ := ht
  obtain ⟨a, b, ha, hb, hb2, I2⟩ := pot_open I hp
  exact h.run pins s σ _ D I2 (k a b ha hb hb2)
/-- behind an expression a list of two ints is hidden as a pot -/
theorem pe_pot {e : Expr} {t : TE} (h : PE X e t) : PE X e (fun σ H Q => t σ H fun v H1 => ∃ (p : Addr) (a b : Int), H1 p = some (.lst [.int a, .int b]) ∧ 0 ≤ a ∧ 0 ≤ b ∧ b < 2147483587 ∧ Q v (upd H1 p (.ext (potPhi p)))) := by
  refine ⟨fun pins s σ H Q I ht => ?_⟩
  refine thn (h.run pins s σ H _ I ht) fun u s1 ⟨v, H1, I1, r1, p, a, b, e1, ha, hb, hb2, q⟩ => ?_
  exact ⟨v, _, pot_shut I1 e1 ha hb hb2, r1, q⟩
end

/-! ### a def that is called where no repr is under way -/
structure FnG (P : Program) (w : World) (K : PySem.W.Frag) (mg : Str → Option Value) (base : Heap) (k : Nat) (f : Addr) (fd : FuncData) (ps : List Str) (sp : Sp) : Prop where
  lenG : ∀ vs H Q E, sp vs H Q E → vs.length = ps.length
  runG : ∀ (A : Around) (outer : List Env) (s : Shared) (H : Hp) (args : Args) (us : List Value) (vs : List V) (Q : VK), Room k A → A.guards = some [] →
    Env0 P w K mg base A outer s H → BindsTo s fd args (ps.zip us) → Vals vs us → sp vs H Q E0 → codeAny (model P w) A (.call (.ref f) args) (CR CX0 outer P w H s Q E0) s
section
variable {P : Program} {w : World} {K : PySem.W.Frag} {mg : Str → Option Value} {base : Heap}
theorem FnG.of {k : Nat} {f : Addr} {fd : FuncData} {ps : List Str} {sp : Sp} (F : FnOk P w K mg base CX0 k f fd ps sp) : FnG P w K mg base k f fd ps sp :=
  ⟨F.len, fun A outer s H args us vs Q hr _ e b r h => F.run A outer s H args us vs Q E0 hr e b r h⟩
theorem fnG_of {x qual : Str} {st : Stmt} {f : Addr} {fd : FuncData} {N ps : List Str} {k : Nat} {sp : Sp} (F : Fun K x qual st f fd) (S : FnScope N ps (defScope st)) (len : ∀ vs H Q E, sp vs H Q E → vs.length = ps.length)
    (hkind : ∀ us : List Value, us.length = ps.length → ((ps.zip us).all fun y => (defScope st).names.lookup y.1 == some .local || (defScope st).names.lookup y.1 == some .cell) = true)
    (body : ∀ (cdv : Value) (A : Around) (outer : List Env) (s : Shared) (H : Hp) (vs : List V) (Q : VK), Room k (A.deeper (envOfC qual (defScope st) s.heap.objs.size f cdv)) → A.guards = some [] → sp vs H Q E0 →
      ∃ t, PSs (cxOf CX0 P w K mg base N qual (defScope st) f cdv A outer s H E0).nox (defBody st) t ∧ t { nx := fun _ H' => Q .non H', rt := Q } (start N vs) H) :
    FnG P w K mg base (k + 1) f fd ps sp := by
  obtain ⟨oc, od, kV, doc, pm, an, cdv, ct, osl, rfl, lk, hcd⟩ := F.ex
  refine ⟨len, fun A outer s H args us vs Q hr hg e0 hb r h => ?_⟩
  have hl := len _ _ _ _ h
  have hlu : us.length = ps.length := r.length.symm.trans hl
  have KX : K.In s.heap := e0.mod.kin.keeps fun b o e => (e0.bs b o e).1
  have lim : s.heap.NoLimit := e0.mod.nolimit.keeps fun b o e => (e0.bs b o e).1
  obtain ⟨t, ht, q⟩ := body cdv A outer s H vs Q (hr.deeper _) hg h
  refine Att.call_fn KX lim lk hcd hr.depth hb (hkind us hlu) (fun s1 ic => ?_) S.co S.gen S.kind
  have I : Inv (cxOf CX0 P w K mg base N qual (defScope st) f cdv A outer s H E0) [] (start N vs) H s1 := inv_start S hr.hd e0 hl r ic
  refine wpAny_mono (ht.nox.run [] s1 (start N vs) H _ I q) (fun fl s2 z => ?_) fun _ _ z => z
  match fl, z with
  | .ret u, ⟨v, σ2, H2, J, rv, q2⟩ => exact ⟨v, H2, J.os, J.bare, J.base, J.hok, rv, q2⟩
  | .next, ⟨σ2, H2, J, q2⟩ => exact ⟨.non, H2, J.os, J.bare, J.base, J.hok, rfl, q2⟩
  | .brk, ⟨_, _, _, q2⟩ => exact q2.elim
  | .cont, ⟨_, _, _, q2⟩ => exact q2.elim
end

/-! ### a def of the module as its callers see it -/
structure Own (P : Program) (w : World) (K : PySem.W.Frag) (mg : Str → Option Value) (base : Heap) (x : Str) (k : Nat) (ps : List Str) (sp : Sp) : Prop where
  ex : ∃ (f : Addr) (fd : FuncData), FnG P w K mg base k f fd ps sp ∧ mg x = some (.ref f) ∧ PySem.W.keepIn K (.ref f) = true ∧
    (∀ (s : Shared) (us : List Value), us.length = ps.length → BindsTo s fd ⟨us, []⟩ (ps.zip us)) ∧
    (∀ (s : Shared) (u : Value), ps.length = 1 → BindsTo s fd ⟨[], ps.zip [u]⟩ (ps.zip [u]))
def tOwn (sp : Sp) (t : TA) : TE := fun σ H Q => t σ H fun vs H1 => sp vs H1 Q E0
section
variable {X : Cx} {k j : Nat} {x : Str} {ps : List Str} {sp : Sp} {p pos : Pos} {e : Expr} {es : List Expr} {t : TA} {kws : List Keyword}
theorem run_own {pins : List (Addr × Obj)} {σ : L2.St} {H : Hp} {s : Shared} {Q : VK} {f : Addr} {fd : FuncData} {args : Args} {us : List Value} {vs : List V} (G : FnG X.prog X.w X.K X.mg X.base k f fd ps sp) (hr : Room k X.A) (hq : X.A.guards = some [])
    (I : Inv X pins σ H s) (b : BindsTo s fd args (ps.zip us)) (r : Vals vs us) (h : sp vs H Q E0) : wpAny (model X.prog X.w) X.A (call (.ref f) args.pos args.kw) (EP X pins σ Q) X.xe s := by
  refine wpAny_call (codeAny_mono (G.runG X.A X.stack s H args us vs Q hr hq I.env0 b r h) fun rs s2 z => ?_)
  match rs, z with
  | .ok (.ret u), z => exact I.after z
  | .ok .next, z => exact z.elim
  | .ok .brk, z => exact z.elim
  | .ok .cont, z => exact z.elim
  | .error _, z => exact z.elim
theorem pe_own (c : Own X.prog X.w X.K X.mg X.base x k ps sp) (hr : Room j X.A) (hq : X.A.guards = some []) (hj : k ≤ j) (ha : PA X (e :: es) t) (hg : Gl X x := by rfl) (hdb : (x == ("__debug__" : Str)) = false := by decide)
    (he : starEach (e :: es) X.env = (false, eval e X.env) :: starEach es X.env := by rfl) (hpl : (backTo pos (starEach es X.env)).any (·.1) = false := by rfl) : PE X (.Call (.Name x p) (e :: es) [] pos) (tOwn sp t) := by
  obtain ⟨f, fd, G, hm, hk, hb, _⟩ := c.ex
  refine ⟨fun pins s σ H Q I h => wpAny_Call_Name_kw (ld_glob I hg hm ?_ hdb)⟩
  refine PySem.W.callWith_K (h₀ := X.base) I.ok.mod.kin hk (thn (ha.run pos pins s σ H _ I h) fun us s1 z => ?_) he hpl
  obtain ⟨vs, H1, I1, r, q⟩ := z
  exact ⟨I1.kIn, run_own (args := ⟨us, []⟩) G (hr.mono hj) hq I1 (hb s1 us (r.length.symm.trans (G.lenG _ _ _ _ q))) r q⟩
/-- f(a = e), the one parameter by its name -/
theorem pe_ownK {a : Str} {tk : TA} (c : Own X.prog X.w X.K X.mg X.base x k [a] sp) (hr : Room j X.A) (hq : X.A.guards = some []) (hj : k ≤ j) (hkw : PK X kws tk) (hg : Gl X x := by rfl) (hdb : (x == ("__debug__" : Str)) = false := by decide)
    (hall : (backToKw pos (keywordEach kws X.env)).all (·.1.isSome) = true := by rfl) (hks : (backToKw pos (keywordEach kws X.env)).filterMap (·.1) = [a] := by rfl)
    (hpl : ((backTo pos (starEach [] X.env)).any (·.1) || (backToKw pos (keywordEach kws X.env)).any (·.1.isNone)) = false := by rfl) : PE X (.Call (.Name x p) [] kws pos) (tOwn sp tk) := by
  obtain ⟨f, fd, G, hm, hk, _, hb⟩ := c.ex
  refine ⟨fun pins s σ H Q I h => wpAny_Call_Name_kw (ld_glob I hg hm ?_ hdb)⟩
  refine PySem.W.callWith_KW0 (h₀ := X.base) I.ok.mod.kin hk hall (thn (hkw.run pos pins s σ H _ I h) fun ws s1 z => ?_) hpl
  obtain ⟨vs, H1, I1, r, q⟩ := z
  refine ⟨I1.kIn, ?_⟩
  rw [hks]
  have l1 : vs.length = 1 := G.lenG _ _ _ _ q
  obtain ⟨u, rfl⟩ : ∃ u, ws = [u] := by
    have l2 : ws.length = 1 := r.length.symm.trans l1
    match ws, l2 with
    | [u], _ => exact ⟨u, rfl⟩
  exact run_own (args := ⟨[], [(a, u)]⟩) G (hr.mono hj) hq I1 (hb s1 u rfl) r q
end

/-! ### repr -/
def rRepr (K : PySem.W.Frag) : List V → Hp → VK → Prop := fun xs H Q => ∃ v d, xs = [v] ∧ Dp K H v d ∧ d.showable = true ∧ d.hasDict = false ∧ d.depth ≤ 60 ∧ d.shown.length ≤ sizeLine ∧ Q (.str d.shown) H
theorem call_repr {X : Cx} (hq : X.A.guards = some []) (hu : X.A.units + 64 < cLine) : CallR X (.builtin "repr") (rRepr X.K) := by
  intro pins s σ H xs us Q I r h
  obtain ⟨v, d, rfl, hd, hs, hn, hdep, hsz, q⟩ := h
  obtain ⟨u, rfl, rv⟩ := vals1 r
  have back : ∀ (h2 : Heap) (x : Tok) (tk : Nat), (∀ b o, s.heap.get? b = some o → h2.get? b = some o) → EP X pins σ Q (.str d.shown x) { s with heap := h2, toks := tk } := fun h2 x tk k => ⟨.str d.shown, H, I.kept k, ⟨_, rfl⟩, q⟩
  obtain ⟨as, rd⟩ := Dp.reads I d v u hd rv
  cases hd with
  | non => cases rv; exact P.repr_of_none (back _ _ _ fun _ _ e => e)
  | bl b =>
    cases rv
    have e : PyData.shown (.bool b) = (if b then ("True" : Str) else "False") := by cases b <;> rfl
    rw [e] at back
    exact P.repr_of_bool (by cases b <;> exact back _ _ _ fun _ _ e => e)
  | int i =>
    obtain ⟨t, rfl⟩ := rv
    exact P.repr_of_int (by simpa [PyData.showable] using hs) (back _ _ _ fun _ _ e => e)
  | str z =>
    obtain ⟨t, rfl⟩ := rv
    exact P.repr_of_str (back _ _ _ fun _ _ e => e) hsz
  | lst _ _ =>
    cases rv
    exact repr_of_reads' rd hs (PyData.noDict_hsm hn) hq (by omega) (fun _ _ e => e) (fun h2 x tk k => back h2 x tk k) hsz
  | tup _ _ =>
    cases rv
    exact repr_of_reads' rd hs (PyData.noDict_hsm hn) hq (by omega) (fun _ _ e => e) (fun h2 x tk k => back h2 x tk k) hsz

/-! ### the built-in names that the texts use -/
theorem bo_len : bootBuiltins "len" = some (.builtin "len") := by decide +kernel
theorem bo_abs : bootBuiltins "abs" = some (.builtin "abs") := by decide +kernel
theorem bo_max : bootBuiltins "max" = some (.builtin "max") := by decide +kernel
theorem bo_min : bootBuiltins "min" = some (.builtin "min") := by decide +kernel
theorem bo_divmod : bootBuiltins "divmod" = some (.builtin "divmod") := by decide +kernel
theorem bo_repr : bootBuiltins "repr" = some (.builtin "repr") := by decide +kernel
theorem bo_isinstance : bootBuiltins "isinstance" = some (.builtin "isinstance") := by decide +kernel
theorem bo_all : bootBuiltins "all" = some (.builtin "all") := by decide +kernel
theorem bo_any : bootBuiltins "any" = some (.builtin "any") := by decide +kernel
theorem bo_sum : bootBuiltins "sum" = some (.builtin "sum") := by decide +kernel
theorem bo_sorted : bootBuiltins "sorted" = some (.builtin "sorted") := by decide +kernel
theorem bo_int : bootBuiltins "int" = some (.type "int") := by decide +kernel
theorem bo_str : bootBuiltins "str" = some (.type "str") := by decide +kernel
theorem bo_bool : bootBuiltins "bool" = some (.type "bool") := by decide +kernel
theorem bo_list : bootBuiltins "list" = some (.type "list") := by decide +kernel
theorem bo_tuple : bootBuiltins "tuple" = some (.type "tuple") := by decide +kernel
theorem bo_dict : bootBuiltins "dict" = some (.type "dict") := by decide +kernel
theorem bo_set : bootBuiltins "set" = some (.type "set") := by decide +kernel
theorem bo_range : bootBuiltins "range" = some (.type "range") := by decide +kernel
theorem bo_enumerate : bootBuiltins "enumerate" = some (.type "enumerate") := by decide +kernel
theorem bo_zip : bootBuiltins "zip" = some (.type "zip") := by decide +kernel
theorem bo_reversed : bootBuiltins "reversed" = some (.type "reversed") := by decide +kernel
structure Blt (mg : Str → Option Value) : Prop where
  len : mg "len" = none
  abs : mg "abs" = none
  max : mg "max" = none
  min : mg "min" = none
  divmod : mg "divmod" = none
  repr : mg "repr" = none
  isinstance : mg "isinstance" = none
  all : mg "all" = none
  any : mg "any" = none
  sum : mg "sum" = none
  sorted : mg "sorted" = none
  int : mg "int" = none
  str : mg "str" = none
  bool : mg "bool" = none
  list : mg "list" = none
  tuple : mg "tuple" = none
  dict : mg "dict" = none
  set : mg "set" = none
  range : mg "range" = none
  enumerate : mg "enumerate" = none
  zip : mg "zip" = none
  reversed : mg "reversed" = none

/-! ### the law's own helpers: what they promise -/
def spDraw : Sp := fun vs H Q _ => ∃ (p : Addr) (n : Int), vs = [.ref p, .int n] ∧ Pot H p ∧ 0 < n ∧ n < 1073741824 ∧ ∀ (d : Int) (H2 : Hp), 0 ≤ d → d < n → Same H H2 → Q (.int d) H2
def spPick (K : PySem.W.Frag) : Sp := fun vs H Q _ => ∃ (p l : Addr) (xs : List V), vs = [.ref p, .ref l] ∧ Pot H p ∧ SqL K H l xs ∧ 0 < xs.length ∧ xs.length ≤ 1000 ∧ ∀ (i : Nat) (v : V) (H2 : Hp), xs[i]? = some v → Same H H2 → Q v H2
def spPot (K : PySem.W.Frag) : Sp := fun vs H Q _ => ∃ (a : Addr) (ns : List Int) (k : Nat), vs = [.ref a, .int (k : Int)] ∧ SqL K H a (ns.map V.int) ∧ k < 100 ∧
  ∀ (p : Addr) (x y : Int), H p = none → 0 ≤ x → 0 ≤ y → y < 2147483587 → Q (.ref p) (upd H p (.lst [.int x, .int y]))
theorem same_new {H : Hp} {p : Addr} {o : HO} (h : H p = none) : Same H (upd H p o) := fun b u e => by
  rw [upd_ne (ne_of_none e h)]
  exact e
theorem same_mut {H H2 : Hp} {p : Addr} {o : HO} (s : Same H H2) (h : H p = none) : Same H (upd H2 p o) := fun b u e => by
  rw [upd_ne (ne_of_none e h)]
  exact s b u e
theorem same_back {H H2 : Hp} {p : Addr} {o : HO} (h : H p = some o) (s : ∀ b u, b ≠ p → H b = some u → H2 b = some u) : Same H (upd H2 p o) := fun b u e => by
  by_cases hb : b = p
  · subst hb
    rw [h] at e
    rw [upd_same, ← e]
  · rw [upd_ne hb]
    exact s b u hb e
end Jc
namespace Jc
open PySem PySem.Spec L2
open PyProof.Rows hiding St
/-- what law promises: handed a list of at most 63 ints, it gives True -/
def spLaw (K : PySem.W.Frag) : Sp := fun vs H Q _ => ∃ (a : Addr) (ns : List Int), vs = [.ref a] ∧ SqL K H a (ns.map V.int) ∧ ns.length ≤ 63 ∧ ∀ H2, Q (.bl true) H2
/-- the script as it lies at the call: known to the object, or one of the module's own -/
structure Lies (K : PySem.W.Frag) (a : Addr) (ob : Obj) (ns : List Int) (H : Hp) : Prop where
  one : ∀ b, H b = none ∨ (b = a ∧ K.lookup a = none ∧ H b = some (.frz ob (.lst (ns.map V.int))))
  seq : SqL K H a (ns.map V.int)
theorem lies_of {K : PySem.W.Frag} {h : Heap} {a : Addr} {vs : List Value} {ns : List Int} (KX : K.In h) (ha : h.get? a = some { cls := .type "list", data := .seq vs.toArray }) (hi : IntsAre vs ns) (hl : ns.length ≤ 63) :
    ∃ H, Lies K a { cls := .type "list", data := .seq vs.toArray } ns H := by
  have r := vals_ints hi
  have hz : ns.length ≤ sizeLine := Nat.le_trans hl (by rw [sizeLine_eq]; decide)
  cases e : K.lookup a with
  | none =>
    refine ⟨fun b => if b = a then some (.frz { cls := .type "list", data := .seq vs.toArray } (.lst (ns.map V.int))) else none, fun b => ?_, .inl (.inr ⟨_, if_pos rfl⟩)⟩
    by_cases hb : b = a
    · exact .inr ⟨hb, e, if_pos hb⟩
    · exact .inl (if_neg hb)
  | some o =>
    have e2 := KX a o e
    rw [ha] at e2
    cases e2
    exact ⟨fun _ => none, fun _ => .inl rfl, .inr ⟨_, vs.toArray, _, e, rfl, rfl, rfl, by rw [List.size_toArray, hi.length]; exact hz, by simpa using r⟩⟩
section
variable {P : Program} {w : World} {K : PySem.W.Frag} {mg mb : Str → Option Value} {k : Nat} {fa a : Addr} {fd : FuncData} {s1 : Shared} {vs : List Value} {ns : List Int}
theorem lawG (KX : K.In s1.heap) (hns : s1.heap.Ns mainGlobals mg) (hb : s1.heap.Ns builtinsNs mb) (hbb : ∀ x : Str, x ≠ "__name__" → mb x = bootBuiltins x) (hlim : s1.heap.NoLimit) (hg : s1.gens = #[])
    (ha : s1.heap.get? a = some { cls := .type "list", data := .seq vs.toArray }) (hi : IntsAre vs ns) (hl : ns.length ≤ 63) (hr : Room k callerA)
    (F : ∀ base : Heap, K.In base → base.Ns mainGlobals mg → FnG P w K mg base k fa fd ["_law_script"] (spLaw K)) (hbind : ∀ (s : Shared) (u : Value), BindsTo s fd ⟨[u], []⟩ [("_law_script", u)]) :
    codeAny (model P w) callerA (.call (.ref fa) ⟨[.ref a], []⟩) (fun r s' => r = .ok (.ret (.bool true)) ∧ OldK s1.heap s'.heap ∧ s'.os = s1.os ∧ AllBare s'.gens) s1 := by
  obtain ⟨H, L⟩ := lies_of KX ha hi hl
  have r := vals_ints hi
  have hok : HOk P w H s1.heap := fun b u z => by
    rcases L.one b with n | ⟨rfl, _, n⟩
    · rw [n] at z; cases z
    · rw [n] at z; cases z
      exact ⟨ha, Nat.le_trans (by rw [List.length_map]; exact hl) (show 63 ≤ sizeLine by rw [sizeLine_eq]; decide), vs, _, r, ha⟩
  have dictFree : ∀ {b : Addr} {m : Str → Option Value}, s1.heap.Ns b m → H b = none := fun {b m} z => by
    rcases L.one b with n | ⟨rfl, _, _⟩
    · exact n
    · obtain ⟨o, es, ep, e1, e2, _⟩ := z
      rw [ha] at e1
      cases e1
      exact nomatch e2
  have nsB : ∀ {b : Addr} {m : Str → Option Value}, s1.heap.Ns b m → (hidT s1.heap H).Ns b m := fun z => by
    have n := dictFree z
    obtain ⟨o, es, ep, e1, e2⟩ := z
    exact ⟨o, es, ep, hidT_get e1 n, e2⟩
  have kB : K.In (hidT s1.heap H) := fun b o e => by
    rcases L.one b with n | ⟨rfl, n, _⟩
    · exact hidT_get (KX b o e) n
    · rw [n] at e; cases e
  have hM : Mod K mg (hidT s1.heap H) := by
    obtain ⟨mc, h1, h2⟩ := hlim
    exact ⟨kB, nsB hns, ⟨mb, nsB hb, hbb⟩, mc, nsB h1, h2⟩
  have e0 : Env0 P w K mg (hidT s1.heap H) callerA [] s1 H := ⟨rfl, hM, fun _ _ e => of_hidT e, Nat.le_of_eq (hidT_size _ _), trivial, fun b z => (List.not_mem_nil z).elim, hok, .of_eq hg⟩
  refine codeAny_mono ((F _ kB (nsB hns)).runG callerA [] s1 H ⟨[.ref a], []⟩ [.ref a] [.ref a] (fun v _ => v = .bl true) hr rfl e0 (hbind s1 (.ref a)) (.cons rfl .nil) ⟨a, ns, rfl, L.seq, hl, fun _ => rfl⟩) fun rs s2 z => ?_
  match rs, z with
  | .ok .next, z => exact z.elim
  | .ok .brk, z => exact z.elim
  | .ok .cont, z => exact z.elim
  | .error _, z => exact z.elim
  | .ok (.ret u), z =>
    obtain ⟨v, H2, os, bare, un, hok2, rv, (q : v = .bl true)⟩ := z
    subst q
    cases (show u = Value.bool true from rv)
    refine ⟨rfl, OldK.of_keep fun b o e => ?_, os, bare⟩
    rcases L.one b with n | ⟨_, _, n⟩
    · exact un.keep b o e n (fun z => (List.not_mem_nil z).elim) (fun z => (List.not_mem_nil z).elim)
    · have e1 := (hok b _ n).1
      rw [e] at e1
      cases e1
      exact (hok2 b _ (un.frzs b _ _ n)).1
end
theorem walkG {l : PySem.W.OpenLaw} {k : Nat} {q : Program} {loose : List Str} {XP : (Str → Option Value) → Heap → Prop} {YP : World → Heap → Prop} {d : DefRec} {K : Params → PySem.W.Frag}
    (hn : l.most = some 63) (hdf : d.params.defaults = []) (hr : Room k callerA) (hY : ∀ (w : World) (h : Heap), YP w h → (K w.params).In h)
    (F : ∀ (w : World) (mg : Str → Option Value) (fa : Addr) (h : Heap), (K w.params).In h → h.Ns mainGlobals mg → mg d.name = some (.ref fa) →
      ∃ fd : FuncData, (∀ (s : Shared) (u : Value), BindsTo s fd ⟨[u], []⟩ [("_law_script", u)]) ∧
        ∀ base : Heap, (K w.params).In base → base.Ns mainGlobals mg → FnG l.prog w (K w.params) mg base k fa fd ["_law_script"] (spLaw (K w.params))) :
    PySem.W.WalkO q loose XP YP l.row.toRowW d [] (fun f vs => PySem.call f vs) := by
  refine Att.attach_call hn hdf fun w _ s1 mg _ fa _ _ _ _ a vs ns G Y _ _ _ hmg hobj hints hlen hg => ?_
  obtain ⟨fd, b, hF⟩ := F w mg fa _ (hY w _ Y) G.T.g hmg
  exact lawG (hY w _ Y) G.T.g G.T.b G.T.builtins G.T.nolimit hg hobj hints hlen hr hF b
end Jc
namespace Jc
open PySem PySem.Spec L2
open PyProof.Rows hiding St
/-- a comprehension without a test, its elements flat values told by R -/
theorem lc_flat {J : It} {n : Nat} {G : Hp → Prop} {Y : Nat → Hp → V → Hp → Prop} (w : Walk J n G Y) {g : TG} {te : TE} {vs : List Nat} {σ : L2.St} {H1 : Hp} {D : Addr} {Qd : Hp → Prop} (R : Nat → V → Prop) (hn : n < 1000000) (hD : H1 D = none)
    (hG : ∀ H2, Same H1 H2 → G H2)
    (hs : ∀ i x H H2 (k : V → Hp → Prop), i < n → Same H1 H → Y i H x H2 → (∀ y H4, Same H H4 → R i y → k y H4) → g x (wipe σ vs) H2 fun σ2 H3 => wipe σ2 vs = wipe σ vs ∧ te σ2 H3 k)
    (hd : ∀ ys H2, ys.length = n → (∀ i y, ys[i]? = some y → R i y) → Same H1 H2 → H2 D = some (.lst ys) → Qd H2) :
    ∃ W : Nat → Nat → Hp → Prop, (∃ m, W 0 m (upd H1 D (.lst []))) ∧ ∀ i m H, W i m H →
      (J.stop i H ∧ Qd H) ∨ (J.go i H ∧ ∃ Nx : Hp → Prop, (∀ H', Nx H' → ∃ m', m' < m ∧ W (i + 1) m' H') ∧ ∀ x H', J.yld i H x H' → g x (wipe σ vs) H' fun σ2 H2 => wipe σ2 vs = wipe σ vs ∧ tYes σ2 H2 fun b H3 =>
        if b = true then te σ2 H3 fun y H4 => ∃ acc, H4 D = some (.lst acc) ∧ acc.length < sizeLine ∧ Nx (upd H4 D (.lst (acc ++ [y]))) else Nx H3) := by
  refine lc_it w (fun i H => Same H1 H ∧ ∃ ys : List V, ys.length = i ∧ (∀ j y, ys[j]? = some y → R j y) ∧ H D = some (.lst ys)) ⟨same_new hD, [], rfl, fun j y e => by simp at e, upd_same⟩ (fun i H _ p => hG H p.1) ?_ ?_
  · rintro i x H H2 hi ⟨s1, ys, hl, hR, hy⟩ y
    refine hs i x H H2 _ hi s1 y fun z H4 s4 r => ⟨ys, s4 _ _ hy, Nat.lt_of_lt_of_le (show ys.length < 1000000 by omega) (by rw [sizeLine_eq]; decide), same_mut (s1.trans s4) hD, ys ++ [z], by rw [List.length_append, hl]; rfl, fun j u e => ?_, upd_same⟩
    by_cases hj : j < ys.length
    · rw [List.getElem?_append_left hj] at e
      exact hR j u e
    · have hj2 : j = ys.length := by
        have := (List.getElem?_eq_some_iff.mp e).1
        rw [List.length_append] at this
        simp at this
        omega
      subst hj2
      rw [List.getElem?_append_right (Nat.le_refl _)] at e
      simp at e
      subst e
      rw [hl]
      exact r
  · rintro H ⟨s1, ys, hl, hR, hy⟩
    exact hd ys H hl hR s1 hy
theorem all_eq {α : Type} {xs ys : List α} (hl : xs.length = ys.length) (h : ∀ (i : Nat) x y, xs[i]? = some x → ys[i]? = some y → x = y) : xs = ys := by
  refine List.ext_getElem? fun i => ?_
  by_cases hi : i < xs.length
  · rw [List.getElem?_eq_getElem hi, List.getElem?_eq_getElem (hl ▸ hi)]
    exact congrArg some (h i _ _ (List.getElem?_eq_getElem hi) (List.getElem?_eq_getElem (hl ▸ hi)))
  · rw [List.getElem?_eq_none (by omega), List.getElem?_eq_none (by omega)]
end Jc
namespace Jc
open PySem PySem.Spec L2
open PyProof.Rows hiding St
/-! ### defs and methods as their callers see them, whatever is under way -/
structure OwnK (P : Program) (w : World) (K : PySem.W.Frag) (mg : Str → Option Value) (base : Heap) (x : Str) (k : Nat) (ps : List Str) (sp : Sp) : Prop where
  ex : ∃ (f : Addr) (fd : FuncData), FnOk P w K mg base CX0 k f fd ps sp ∧ mg x = some (.ref f) ∧ PySem.W.keepIn K (.ref f) = true ∧ Binds K fd ps []
structure OwnM (P : Program) (w : World) (K : PySem.W.Frag) (mg : Str → Option Value) (base : Heap) (C : Addr) (m : Str) (k : Nat) (sp : Sp) : Prop where
  ex : ∃ f : Addr, Meth K C m f ∧ FnR P w K mg base CX0 k f sp
structure OwnM0 (P : Program) (w : World) (K : PySem.W.Frag) (mg : Str → Option Value) (base : Heap) (C : Addr) (m : Str) (k : Nat) (sp : Sp) : Prop where
  ex : ∃ (f : Addr) (fd : FuncData), Meth K C m f ∧ FnOk P w K mg base CX0 k f fd ["self"] sp ∧ Binds K fd ["self"] []
structure OwnI (P : Program) (w : World) (K : PySem.W.Frag) (mg : Str → Option Value) (base : Heap) (C : Addr) (k : Nat) (sp : Sp) : Prop where
  ex : ∃ f : Addr, Mk K C f ∧ FnR P w K mg base CX0 k f sp
structure PC (K : PySem.W.Frag) (mg : Str → Option Value) (C : Addr) : Prop where
  cl : Cls K C
  na : NoAttr K C "_classes"
  mc : mg "Partition" = some (.ref C)
section
variable {X : Cx} {k j : Nat} {C : Addr} {x m : Str} {ps : List Str} {sp : Sp} {p pos apos : Pos} {e o : Expr} {es : List Expr} {t : TA} {ta : TE}
theorem pe_ownk (c : OwnK X.prog X.w X.K X.mg X.base x k ps sp) (hr : Room j X.A) (hj : k ≤ j) (ha : PA X (e :: es) t) (hg : Gl X x := by rfl) (hdb : (x == ("__debug__" : Str)) = false := by decide)
    (he : starEach (e :: es) X.env = (false, eval e X.env) :: starEach es X.env := by rfl) (hpl : (backTo pos (starEach es X.env)).any (·.1) = false := by rfl) : PE X (.Call (.Name x p) (e :: es) [] pos) (tOwn sp t) := by
  obtain ⟨f, fd, F, hm, hk, hb⟩ := c.ex
  have h := pe_call F (hr.mono hj) hg hm hk hb .nil (pass0 (X := X)) ha (p := p) (pos := pos) hdb he hpl
  refine ⟨fun pins s σ H Q I q => h.run pins s σ H Q I ?_⟩
  have e2 : (fun (vs : List V) (H1 : Hp) => sp (vs ++ []) H1 Q E0) = fun vs H1 => sp vs H1 Q E0 := by
    funext vs H1
    rw [List.append_nil]
  show t σ H (fun (vs : List V) (H1 : Hp) => sp (vs ++ []) H1 Q E0)
  rw [e2]
  exact q
theorem pe_om {pl : Sem Bool} (he : PE X o ta) (c : Cls X.K C) (h : OwnM X.prog X.w X.K X.mg X.base C m k sp) (hr : Room j X.A) (hj : k ≤ j) (ha : PA X (e :: es) t)
    (hst : starEach (e :: es) X.env = (false, eval e X.env) :: starEach es X.env := by rfl) (hpl : (backTo pos (starEach es X.env)).any (·.1) = false := by rfl)
    (ht : eval (.Call (.Attribute o m apos) (e :: es) [] pos) X.env =
      (eval o X.env >>= fun ov => standAt apos.atName >>= fun _ => holding [ov] (getMethod ov m pl) >>= fun r => callWith pos r.1 r.2 (backTo pos (starEach (e :: es) X.env)) (backToKw pos (keywordEach [] X.env))) := by rfl) :
    PE X (.Call (.Attribute o m apos) (e :: es) [] pos) (tMethR C m sp E0 ta t) := by
  obtain ⟨f, hm, F⟩ := h.ex
  exact pe_methR (pl := pl) he c hm F (hr.mono hj) pass0 ha hst hpl ht
theorem pe_om0 {pl : Sem Bool} (he : PE X o ta) (c : Cls X.K C) (h : OwnM0 X.prog X.w X.K X.mg X.base C m k sp) (hr : Room j X.A) (hj : k ≤ j)
    (ht : eval (.Call (.Attribute o m apos) [] [] pos) X.env =
      (eval o X.env >>= fun ov => standAt apos.atName >>= fun _ => holding [ov] (getMethod ov m pl) >>= fun r => callWith pos r.1 r.2 (backTo pos (starEach [] X.env)) (backToKw pos (keywordEach [] X.env))) := by rfl) :
    PE X (.Call (.Attribute o m apos) [] [] pos) (tMeth C m sp [] E0 ta tNil) := by
  obtain ⟨f, fd, hm, F, hb⟩ := h.ex
  exact pe_meth0 (pl := pl) he c hm F (hr.mono hj) hb .nil pass0 ht
theorem pe_oi (M : OwnI X.prog X.w X.K X.mg X.base C k sp) (hr : Room j X.A) (hj : k + 1 ≤ j) (hm : X.mg x = some (.ref C)) (ha : PA X (e :: es) t) (hg : Gl X x := by rfl) (hdb : (x == ("__debug__" : Str)) = false := by decide)
    (he : starEach (e :: es) X.env = (false, eval e X.env) :: starEach es X.env := by rfl) (hpl : (backTo pos (starEach es X.env)).any (·.1) = false := by rfl) : PE X (.Call (.Name x p) (e :: es) [] pos) (StX.tMakeR C sp E0 t) := by
  obtain ⟨f, hM, F⟩ := M.ex
  exact StX.pe_makeR hM F (hr.mono hj) hg hm pass0 ha hdb he hpl
end
end Jc
namespace Jc
/-! numbering marks by first holders; -1 is gone -/
def toldF (acc : List Int) (m : Int) : List Int := if m ≠ -1 ∧ m ∉ acc then acc ++ [m] else acc
def told (ms : List Int) : List Int := ms.foldl toldF []
def numOf (ts : List Int) (m : Int) : Int := if m = -1 then -1 else (ts.idxOf m : Int)
def num (ms : List Int) : List Int := ms.map (numOf (told ms))
/-- pairs of marks of which both sides tell the same -/
def Kern (ps : List (Int × Int)) : Prop := ∀ p ∈ ps, ∀ q ∈ ps, (p.1 = q.1 ↔ p.2 = q.2) ∧ (p.1 = -1 ↔ p.2 = -1)
def toldP (acc : List (Int × Int)) (p : Int × Int) : List (Int × Int) := if p.1 ≠ -1 ∧ p.1 ∉ acc.map (·.1) then acc ++ [p] else acc
theorem toldP_sub : ∀ (ps acc all : List (Int × Int)), (∀ p ∈ acc, p ∈ all) → (∀ p ∈ ps, p ∈ all) → ∀ p ∈ ps.foldl toldP acc, p ∈ all
  | [], acc, all, h, _ => h
  | p :: r, acc, all, h, h2 => by
    refine toldP_sub r (toldP acc p) all (fun q hq => ?_) fun q hq => h2 q (List.mem_cons_of_mem _ hq)
    unfold toldP at hq
    split at hq
    · rcases List.mem_append.mp hq with hq | hq
      · exact h q hq
      · rw [List.mem_singleton.mp hq]
        exact h2 p List.mem_cons_self
    · exact h q hq
theorem toldP_fst : ∀ (ps acc : List (Int × Int)), (ps.foldl toldP acc).map (·.1) = (ps.map (·.1)).foldl toldF (acc.map (·.1))
  | [], acc => rfl
  | p :: r, acc => by
    show (r.foldl toldP (toldP acc p)).map (·.1) = (r.map (·.1)).foldl toldF (toldF (acc.map (·.1)) p.1)
    rw [toldP_fst r]
    congr 1
    unfold toldP toldF
    split <;> simp
theorem toldP_snd {all : List (Int × Int)} (K : Kern all) : ∀ (ps acc : List (Int × Int)), (∀ p ∈ acc, p ∈ all) → (∀ p ∈ ps, p ∈ all) → (ps.foldl toldP acc).map (·.2) = (ps.map (·.2)).foldl toldF (acc.map (·.2))
  | [], acc, _, _ => rfl
  | p :: r, acc, h, h2 => by
    have hp := h2 p List.mem_cons_self
    have e : (toldP acc p).map (·.2) = toldF (acc.map (·.2)) p.2 := by
      have e1 : (p.1 ≠ -1 ∧ p.1 ∉ acc.map (·.1)) ↔ (p.2 ≠ -1 ∧ p.2 ∉ acc.map (·.2)) := by
        have a := (K p hp p hp).2
        have b : p.1 ∈ acc.map (·.1) ↔ p.2 ∈ acc.map (·.2) := by
          simp only [List.mem_map]
          constructor
          · rintro ⟨q, hq, e⟩
            exact ⟨q, hq, (K q (h q hq) p hp).1.mp e⟩
          · rintro ⟨q, hq, e⟩
            exact ⟨q, hq, (K q (h q hq) p hp).1.mpr e⟩
        rw [b]
        constructor
        · rintro ⟨x, y⟩
          exact ⟨fun z => x (a.mpr z), y⟩
        · rintro ⟨x, y⟩
          exact ⟨fun z => x (a.mp z), y⟩
      unfold toldP toldF
      by_cases c : p.1 ≠ -1 ∧ p.1 ∉ acc.map (·.1)
      · rw [if_pos c, if_pos (e1.mp c)]
        simp
      · rw [if_neg c, if_neg (fun z => c (e1.mpr z))]
    show (r.foldl toldP (toldP acc p)).map (·.2) = (r.map (·.2)).foldl toldF (toldF (acc.map (·.2)) p.2)
    rw [toldP_snd K r (toldP acc p) (fun q hq => ?_) fun q hq => h2 q (List.mem_cons_of_mem _ hq), e]
    exact toldP_sub [p] acc all h (fun x hx => by rw [List.mem_singleton.mp hx]; exact hp) q hq
theorem idx_kern {all : List (Int × Int)} (K : Kern all) {p : Int × Int} (hp : p ∈ all) : ∀ ts : List (Int × Int), (∀ q ∈ ts, q ∈ all) → (ts.map (·.1)).idxOf p.1 = (ts.map (·.2)).idxOf p.2
  | [], _ => rfl
  | q :: r, h => by
    have hq := h q List.mem_cons_self
    have ih := idx_kern K hp r fun x hx => h x (List.mem_cons_of_mem _ hx)
    simp only [List.map_cons, List.idxOf_cons]
    have e := (K q hq p hp).1
    by_cases c : q.1 = p.1
    · rw [show (q.1 == p.1) = true from beq_iff_eq.mpr c, show (q.2 == p.2) = true from beq_iff_eq.mpr (e.mp c)]
      rfl
    · rw [show (q.1 == p.1) = false from beq_eq_false_iff_ne.mpr c, show (q.2 == p.2) = false from beq_eq_false_iff_ne.mpr fun z => c (e.mpr z), ih]
theorem num_congr {ps : List (Int × Int)} (K : Kern ps) : num (ps.map (·.1)) = num (ps.map (·.2)) := by
  have s := toldP_sub ps [] ps (fun p h => (List.not_mem_nil h).elim) fun p h => h
  have e1 := toldP_fst ps []
  have e2 := toldP_snd K ps [] (fun p h => (List.not_mem_nil h).elim) fun p h => h
  unfold num
  rw [List.map_map, List.map_map]
  refine List.map_congr_left fun p hp => ?_
  show numOf (told (ps.map (·.1))) p.1 = numOf (told (ps.map (·.2))) p.2
  unfold told
  rw [show ((ps.map (·.1)).foldl toldF []) = (ps.foldl toldP []).map (·.1) from e1.symm, show ((ps.map (·.2)).foldl toldF []) = (ps.foldl toldP []).map (·.2) from e2.symm]
  unfold numOf
  have c := (K p hp p hp).2
  by_cases z : p.1 = -1
  · rw [if_pos z, if_pos (c.mp z)]
  · rw [if_neg z, if_neg fun y => z (c.mpr y), idx_kern K hp _ s]
theorem num_cong {xs ys : List Int} (hl : xs.length = ys.length) (h : ∀ (i j : Nat) (a b c d : Int), xs[i]? = some a → ys[i]? = some b → xs[j]? = some c → ys[j]? = some d → (a = c ↔ b = d) ∧ (a = -1 ↔ b = -1)) : num xs = num ys := by
  have K : Kern (xs.zip ys) := by
    intro p hp q hq
    obtain ⟨i, hi⟩ := List.getElem?_of_mem hp
    obtain ⟨j, hj⟩ := List.getElem?_of_mem hq
    rw [List.getElem?_zip_eq_some] at hi hj
    exact h i j p.1 p.2 q.1 q.2 hi.1 hi.2 hj.1 hj.2
  have := num_congr K
  rw [List.map_fst_zip (by omega), List.map_snd_zip (by omega)] at this
  exact this
/-! what is known of the numbers -/
theorem told_has : ∀ (ms acc : List Int) (m : Int), m ∈ ms.foldl toldF acc ↔ m ∈ acc ∨ (m ∈ ms ∧ m ≠ -1)
  | [], acc, m => by simp
  | x :: r, acc, m => by
    show m ∈ r.foldl toldF (toldF acc x) ↔ _
    rw [told_has r]
    unfold toldF
    split
    · rename_i c
      simp only [List.mem_append, List.mem_cons, List.mem_singleton, List.not_mem_nil, or_false]
      constructor
      · rintro ((h | h) | h)
        · exact .inl h
        · exact .inr ⟨.inl h, h ▸ c.1⟩
        · exact .inr ⟨.inr h.1, h.2⟩
      · rintro (h | ⟨h | h, n⟩)
        · exact .inl (.inl h)
        · exact .inl (.inr h)
        · exact .inr ⟨h, n⟩
    · rename_i c
      simp only [List.mem_cons]
      constructor
      · rintro (h | h)
        · exact .inl h
        · exact .inr ⟨.inr h.1, h.2⟩
      · rintro (h | ⟨h | h, n⟩)
        · exact .inl h
        · subst h
          by_cases z : m ∈ acc
          · exact .inl z
          · exact absurd ⟨n, z⟩ c
        · exact .inr ⟨h, n⟩
theorem told_mem {ms : List Int} {m : Int} : m ∈ told ms ↔ m ∈ ms ∧ m ≠ -1 := by
  unfold told
  rw [told_has]
  simp
theorem told_len : ∀ (ms acc : List Int), (ms.foldl toldF acc).length ≤ acc.length + ms.length
  | [], acc => by simp
  | x :: r, acc => by
    have h := told_len r (toldF acc x)
    have h2 : (toldF acc x).length ≤ acc.length + 1 := by
      unfold toldF
      split <;> simp
    show (r.foldl toldF (toldF acc x)).length ≤ acc.length + (r.length + 1)
    omega
theorem numOf_inj {ms : List Int} {a b : Int} (ha : a ∈ ms) (hb : b ∈ ms) : numOf (told ms) a = numOf (told ms) b ↔ a = b := by
  unfold numOf
  by_cases x : a = -1
  · by_cases y : b = -1
    · rw [if_pos x, if_pos y]
      exact ⟨fun _ => x.trans y.symm, fun _ => rfl⟩
    · rw [if_pos x, if_neg y]
      constructor
      · intro h
        omega
      · intro h
        exact absurd (h.symm.trans x) y
  · by_cases y : b = -1
    · rw [if_neg x, if_pos y]
      constructor
      · intro h
        omega
      · intro h
        exact absurd (h.trans y) x
    · rw [if_neg x, if_neg y]
      constructor
      · intro h
        have h2 : (told ms).idxOf a = (told ms).idxOf b := by omega
        have h3 := List.idxOf_lt_length_of_mem (told_mem.mpr ⟨ha, x⟩)
        have h4 := List.idxOf_lt_length_of_mem (told_mem.mpr ⟨hb, y⟩)
        have e1 : (told ms)[(told ms).idxOf a] = a := List.getElem_idxOf h3
        have e2 : (told ms)[(told ms).idxOf b] = b := List.getElem_idxOf h4
        rw [← e1, ← e2]
        congr 1
      · intro h
        rw [h]
theorem numOf_gone {ts : List Int} {a : Int} : numOf ts a = -1 ↔ a = -1 := by
  unfold numOf
  split
  · rename_i h
    exact ⟨fun _ => h, fun _ => rfl⟩
  · rename_i h
    constructor
    · intro z
      omega
    · intro z
      exact absurd z h
theorem numOf_range {ms : List Int} {a : Int} (ha : a ∈ ms) : -1 ≤ numOf (told ms) a ∧ numOf (told ms) a < (told ms).length := by
  unfold numOf
  split
  · constructor <;> omega
  · rename_i h
    have := List.idxOf_lt_length_of_mem (told_mem.mpr ⟨ha, h⟩)
    constructor <;> omega
theorem num_len (ms : List Int) : (num ms).length = ms.length := by unfold num; simp
theorem num_at {ms : List Int} {i : Nat} {a : Int} (h : ms[i]? = some a) : (num ms)[i]? = some (numOf (told ms) a) := by
  unfold num
  rw [List.getElem?_map, h]
  rfl
theorem num_at' {ms : List Int} {i : Nat} {c : Int} (h : (num ms)[i]? = some c) : ∃ a, ms[i]? = some a ∧ c = numOf (told ms) a := by
  unfold num at h
  rw [List.getElem?_map] at h
  cases e : ms[i]? with
  | none => rw [e] at h; cases h
  | some a =>
    rw [e] at h
    exact ⟨a, rfl, (Option.some.inj h).symm⟩
theorem num_num (ms : List Int) : num (num ms) = num ms := by
  refine num_cong (num_len ms) fun i j a b c d h1 h2 h3 h4 => ?_
  rw [num_at h2] at h1
  rw [num_at h4] at h3
  cases h1
  cases h3
  exact ⟨numOf_inj (List.mem_of_getElem? h2) (List.mem_of_getElem? h4), numOf_gone⟩
theorem num_small {ms : List Int} {c : Int} (h : c ∈ num ms) : -1 ≤ c ∧ c < ms.length := by
  obtain ⟨i, hi⟩ := List.getElem?_of_mem h
  obtain ⟨a, ha, rfl⟩ := num_at' hi
  have h1 := numOf_range (List.mem_of_getElem? ha)
  have h2 := told_len ms []
  have h3 : (told ms).length ≤ ms.length := by simpa [told] using h2
  omega
/-- marks with holders put to a mark -/
def marked (c : List Int) (ts : List Int) (m : Int) : List Int := c.mapIdx fun i x => if (i : Int) ∈ ts then m else x
theorem marked_len (c ts : List Int) (m : Int) : (marked c ts m).length = c.length := by unfold marked; simp
theorem marked_at {c ts : List Int} {m : Int} {i : Nat} {y : Int} (h : (marked c ts m)[i]? = some y) : ∃ x, c[i]? = some x ∧ y = if (i : Int) ∈ ts then m else x := by
  unfold marked at h
  rw [List.getElem?_mapIdx] at h
  cases e : c[i]? with
  | none => rw [e] at h; cases h
  | some a =>
    rw [e] at h
    exact ⟨a, rfl, (Option.some.inj h).symm⟩
/-- a mark that is new for one list and the other: the same numbers -/
theorem num_marked {bs ts : List Int} {m n : Int} (h : ∀ (i j : Nat) (b d : Int), bs[i]? = some b → bs[j]? = some d → (i : Int) ∈ ts → (j : Int) ∉ ts → (m = numOf (told bs) d ↔ n = d)) (hm : m = -1 ↔ n = -1) :
    num (marked (num bs) ts m) = num (marked bs ts n) := by
  refine num_cong (by rw [marked_len, marked_len, num_len]) fun i j a b c d h1 h2 h3 h4 => ?_
  obtain ⟨x1, e1, rfl⟩ := marked_at h1
  obtain ⟨x2, e2, rfl⟩ := marked_at h2
  obtain ⟨x3, e3, rfl⟩ := marked_at h3
  obtain ⟨x4, e4, rfl⟩ := marked_at h4
  rw [num_at e2] at e1
  rw [num_at e4] at e3
  cases e1
  cases e3
  have g2 := List.mem_of_getElem? e2
  have g4 := List.mem_of_getElem? e4
  by_cases p : (i : Int) ∈ ts
  · rw [if_pos p, if_pos p]
    by_cases q : (j : Int) ∈ ts
    · rw [if_pos q, if_pos q]
      exact ⟨⟨fun _ => rfl, fun _ => rfl⟩, hm⟩
    · rw [if_neg q, if_neg q]
      exact ⟨h i j x2 x4 e2 e4 p q, hm⟩
  · rw [if_neg p, if_neg p]
    by_cases q : (j : Int) ∈ ts
    · rw [if_pos q, if_pos q]
      refine ⟨?_, numOf_gone⟩
      have := h j i x4 x2 e4 e2 q p
      constructor
      · intro z
        exact (this.mp z.symm).symm
      · intro z
        exact (this.mpr z.symm).symm
    · rw [if_neg q, if_neg q]
      exact ⟨numOf_inj g2 g4, numOf_gone⟩
/-- a new mark -/
theorem num_fresh {bs ts : List Int} {n : Int} (hn : n ∉ bs) (hg : n ≠ -1) : num (marked (num bs) ts (bs.length : Int)) = num (marked bs ts n) := by
  refine num_marked (fun i j b d _ e _ _ => ?_) ⟨fun z => ?_, fun z => absurd z hg⟩
  · have g := List.mem_of_getElem? e
    have r := numOf_range g
    have l := told_len bs []
    have l2 : (told bs).length ≤ bs.length := by simpa [told] using l
    constructor
    · intro z
      omega
    · intro z
      exact absurd (z ▸ g) hn
  · have : (0 : Int) ≤ bs.length := Int.natCast_nonneg _
    omega
/-- gone ones -/
theorem num_gone {bs ts : List Int} : num (marked (num bs) ts (-1)) = num (marked bs ts (-1)) := by
  refine num_marked (fun i j b d _ e _ _ => ?_) ⟨fun _ => rfl, fun _ => rfl⟩
  constructor
  · intro z
    exact (numOf_gone.mp z.symm).symm
  · intro z
    exact (numOf_gone.mpr z.symm).symm
/-- a copy -/
theorem num_copied {bs ts : List Int} {k : Nat} {b : Int} (h : bs[k]? = some b) : num (marked (num bs) ts (numOf (told bs) b)) = num (marked bs ts b) := by
  refine num_marked (fun i j x d _ e _ _ => ?_) numOf_gone
  exact numOf_inj (List.mem_of_getElem? h) (List.mem_of_getElem? e)
end Jc
namespace Jc
open PySem PySem.Spec L2
open PyProof.Rows hiding St
/-! ### max of a tuple of ints -/
def rMaxT (K : PySem.W.Frag) : List V → Hp → VK → Prop := fun vs H Q => ∃ (a : Addr) (ns : List Int), vs = [V.ref a] ∧ SqT K H a (ns.map V.int) ∧ 0 < ns.length ∧ ∀ m, m ∈ ns → (∀ y, y ∈ ns → y ≤ m) → Q (.int m) H
section
variable {P : Program} {w : World} {A : Around} {E : Value → Shared → Prop} {s : Shared} {l : Addr}
theorem maxT_raw {its : List Value} {ns : List Int} {Q : Value → Shared → Prop} (hh : A.handled = none) (hl : s.heap.IsTuple l its.toArray) (hi : IntsAre its ns) (hne : 0 < ns.length)
    (h : ∀ h' tk M t', (∀ b o, s.heap.get? b = some o → h'.get? b = some o) → M ∈ ns → (∀ a, a ∈ ns → a ≤ M) → Q (.int M t') { s with heap := h', toks := tk }) : wpAny (model P w) A (call (.builtin "max") [.ref l]) Q E s := by
  obtain ⟨xs, e⟩ := hi.allInts.items
  have hn : numsOf (intItems xs).toList = ns := by rw [← e]; exact hi.numsOf
  rw [nums_intItems] at hn
  subst hn
  rw [e] at hl
  have h0 : 0 < xs.size := by simpa using hne
  have hlt : l < s.heap.objs.size := by
    obtain ⟨_, z, _⟩ := hl
    exact Heap.lt_size z
  refine call_max_walk (wpAny_pyIter_tuple hl ⟨s.heap.objs.size, [s.heap.objs.size, l], [s.heap.objs.size], (intItems xs).size, _, _, _, rfl, Walks.tuple (A := A.in1) hh _ l (Nat.ne_of_lt hlt) (intItems xs), ⟨⟨_, Heap.get?_push_size _ rfl, rfl, rfl⟩, hl.push _⟩, ?_, by simpa [intItems] using h0, CmpOf.ints_gt (numAt xs) (fun _ _ => intItems_at), fun v h' tk hP hk => ?_⟩)
  · intro b hb
    show b < (s.heap.push _).objs.size
    rw [Heap.size_push]
    simp only [List.mem_cons, List.not_mem_nil, or_false] at hb
    rcases hb with z | z
    · rw [z]; exact Nat.lt_succ_self _
    · rw [z]; exact Nat.lt_succ_of_lt hlt
  · have hv : (intItems xs)[argBest (fun i j => decide (numAt xs i > numAt xs j)) (xs.size - 1)]? = some v := by simpa [intItems] using hP
    obtain ⟨t, rfl⟩ := intItems_at hv
    obtain ⟨h1, h2⟩ := argBest_gt (numAt xs) (xs.size - 1)
    refine h h' tk _ t (fun b o z => hk b o (fun hm => ?_) (Heap.get?_push_of_some _ z)) ?_ fun a ha => ?_
    · rw [List.mem_singleton.mp hm] at z
      exact absurd (Heap.lt_size z) (Nat.lt_irrefl _)
    · rw [numAt_eq]
      exact PySem.getD_mem (by rw [List.length_map, Array.length_toList]; omega)
    · obtain ⟨j, hj, rfl⟩ := mem_getD ha
      rw [List.length_map, Array.length_toList] at hj
      rw [← numAt_eq]
      exact h2 j (by omega)
end
theorem cr_maxT {X : Cx} (hc : X.calm = true) : CallR X (.builtin "max") (rMaxT X.K) := by
  intro pins s σ H vs us Q I r h
  obtain ⟨a, ns, rfl, hs, hne, q⟩ := h
  obtain ⟨its, rv, hl, _⟩ := I.tuple hs
  rw [Vals.ref1 r]
  exact maxT_raw (I.ok.hd hc) (show s.heap.IsTuple a its.toArray from hl) rv.ints hne fun h' tk m t' hk h1 h2 => ⟨.int _, H, I.kept hk, ⟨_, rfl⟩, q m h1 h2⟩
/-! ### enumerate(tuple) -/
def Ent (K : PySem.W.Frag) (a : Addr) : It :=
  ⟨fun i H => ∃ xs x, SqT K H a xs ∧ xs[i]? = some x, fun i H v H' => ∃ T x, v = .ref T ∧ H T = none ∧ H' = upd H T (.tup [.int (i : Nat), x]) ∧ ∀ xs, SqT K H a xs → xs[i]? = some x, fun i H => ∃ xs, SqT K H a xs ∧ xs.length = i⟩
theorem turn_ent {P : Program} {w : World} {K : PySem.W.Frag} {elts : List Expr} {kk : Nat} {tpos : Pos} (a e it : Addr) (hai : a ≠ it) (hae : a ≠ e) :
    Turn P w K (.Tuple elts kk tpos) (Ent K a) [e, it] e (fun i h => (∃ old, IsEnum h e it ((i : Nat) : Int) old) ∧ h.IsTupleIter it a i ∧ e ≠ it) where
  mem := List.mem_cons_self
  obj := fun i h st b hb => by
    obtain ⟨⟨old, he⟩, ⟨o, ho, hc, hd⟩, _⟩ := st
    rcases List.mem_cons.mp hb with z | z
    · rw [z]; exact ⟨_, he, fun v q => nomatch q⟩
    · rw [List.mem_singleton.mp z]; exact ⟨o, ho, fun v q => by rw [hd] at q; cases q⟩
  keep := fun i h h' st k => by
    obtain ⟨⟨old, he⟩, hi, hne⟩ := st
    exact ⟨⟨old, k e List.mem_cons_self _ he⟩, hi.at fun o q => k it (by simp) o q, hne⟩
  item := by
    intro X hP hw hK hc i pins s σ H E I hf st hg
    subst hP hw hK
    obtain ⟨⟨old, he⟩, hit, hne⟩ := st
    obtain ⟨xs, x, hq, hx⟩ := hg
    obtain ⟨its, rv, p, hz⟩ := I.tuple hq
    obtain ⟨u, hu, ru⟩ := rv.get hx
    have hel : e < s.heap.objs.size := Heap.lt_size he
    have hil : it < s.heap.objs.size := by obtain ⟨_, q, _⟩ := hit; exact Heap.lt_size q
    have hd : X.A.in1.handled = none := I.ok.hd hc
    have hib : i < its.toArray.size := by
      have := (List.getElem?_eq_some_iff.mp hu).1
      simpa using this
    refine wpAny_pyNext_enum_itemD (Draws.tuple hd it a hai its.toArray) he ⟨hit, p⟩ hib hne (by simp [hne, Ne.symm hae]) fun v h' tk hv ho st' hT hsz hk => ?_
    have ev : v = u := by
      have z : its.toArray[i]? = some v := hv
      rw [List.getElem?_toArray, hu] at z
      exact (Option.some.inj z).symm
    subst ev
    refine ⟨_, rfl, wpAny_letOwnedTupleGo_enum (s := { s with heap := h', toks := tk + 1 }) ho fun h'' he' sb => ?_⟩
    have hT2 : h''.get? s.heap.objs.size = some { cls := .type "tuple", data := .seq #[.int i tk, v] } := (sb.2 _ (Nat.ne_of_gt hel)).trans hT
    have new : ObjOk X.prog X.w (upd H s.heap.objs.size (.tup [.int (i : Nat), x])) h'' s.heap.objs.size (.tup [.int (i : Nat), x]) := ⟨two_le, [.int i tk, v], .cons ⟨_, rfl⟩ (.cons ru .nil), ⟨_, hT2, rfl, _, rfl⟩⟩
    have I1 : Inv X pins σ (upd H s.heap.objs.size (.tup [.int (i : Nat), x])) { s with heap := h'', toks := tk + 1 } :=
      I.turnedNew (ch := [e, it]) (fun b ob hb q => by
        have n1 : b ≠ e := fun z => hb (by simp [z])
        have n2 : b ≠ it := fun z => hb (by simp [z])
        exact (sb.2 b n1).trans (hk b ob n1 n2 q)) hf (Nat.le_refl _) new
    refine ⟨.ref s.heap.objs.size, _, I1, rfl, ⟨_, x, rfl, I.hok.fresh (Nat.le_refl _), rfl, fun ys hy => by rw [I.tuple_inj hy hq]; exact hx⟩, ⟨⟨v, ?_⟩, st'.1.at fun o q => (sb.2 it (Ne.symm hne)).trans q, hne⟩, fun b hb => ?_⟩
    · have e1 : ((i + 1 : Nat) : Int) = (i : Int) + 1 := by omega
      rw [e1]
      exact he'
    · have hb' : b < s.heap.objs.size := by
        rcases List.mem_cons.mp hb with z | z
        · rw [z]; exact hel
        · rw [List.mem_singleton.mp z]; exact hil
      rw [upd_ne (Nat.ne_of_lt hb')]
      exact (hf b hb).1
  done := by
    intro X hP hw hK hc i pins s σ H E I hf st hg
    subst hP hw hK
    obtain ⟨⟨old, he⟩, hit, hne⟩ := st
    obtain ⟨xs, hq, hx⟩ := hg
    obtain ⟨its, rv, p, hz⟩ := I.tuple hq
    obtain ⟨f0, f1, f2, f3, f4, f5⟩ := hf it (by simp)
    have hl := rv.length
    have hd : X.A.in1.handled = none := I.ok.hd hc
    have hn : its.toArray.size = i := by rw [List.size_toArray]; omega
    refine wpAny_pyNext_enum_endD (Draws.tuple hd it a hai its.toArray) he ⟨by rw [hn]; exact hit, p⟩ fun h' eb => ⟨rfl, I.turned (t' := s.toks) (fun b o hb q => eb b o hb q) f0 f1 f3 f4 f5⟩
  self := fun A i s Q E st h => by
    obtain ⟨⟨_, he⟩, _⟩ := st
    exact wpAny_pyIter_enum he h
def iEnt (K : PySem.W.Frag) (ta : TA) : TI := fun σ H R => ta σ H fun vs H1 => ∃ a xs, vs = [.ref a] ∧ SqT K H1 a xs ∧ R (Ent K a) H1
set_option maxHeartbeats 8000000 in
theorem meets_enew {v : Value} {o : Obj} {G : Heap → Prop} (B : Begins v o G) : Meets (Builtin.«enumerate.__new__» ⟨[.type "enumerate", v], []⟩) (fun _ R s => G s.heap ∧
      R (.ok (.ret (.ref (s.heap.push o).objs.size))) { s with heap := (s.heap.push o).push { cls := .type "enumerate", data := .fields #[.none, .bool false, .ref s.heap.objs.size, rawInt 0, .none, .none] } }) :=
  .of_wp fun P w A R s h => by
    obtain ⟨hp, g, d, tk, os⟩ := s
    obtain ⟨h1, h⟩ := h
    have hsub := sub_enumerate
    have st : ∀ {A' : Around} {E : Value → Shared → Prop} {Q : Value → Shared → Prop}, Q (.ref hp.objs.size) ⟨hp.push o, g, d, tk, os⟩ → wpAny (model P w) A' (pyIter v) Q E ⟨hp, g, d, tk, os⟩ := fun q => B.iter P w _ _ _ _ h1 q
    wp_walk using st
    refine wpAny_stack_any fun z => wpAny_pure ?_
    split
    · rename_i c _ _ _ _ _
      cases (c == Value.type "enumerate") <;>
      · wp_walk using st
        exact ⟨_, rfl, h⟩
    · wp_walk using st
      exact ⟨_, rfl, h⟩
theorem pi_ent {X : Cx} {e : Expr} {ta : TA} {p pos tpos : Pos} {elts : List Expr} {kk : Nat} (hg : Gl X "enumerate") (hm : X.mg "enumerate" = none) (ha : PA X [e] ta) (hs : starEach [e] X.env = [(false, eval e X.env)] := by rfl) :
    PI X (.Tuple elts kk tpos) (.Call (.Name "enumerate" p) [e] [] pos) (iEnt X.K ta) := by
  refine ⟨fun pins s σ H R I h => ?_⟩
  refine Call_ (ld_blt I hg hm boot_enumerate (PyProof.Rows.callWith_type1 (thn (ha.run pos pins s σ H _ I h) fun us s1 ⟨vs, H1, I1, r1, q1⟩ => ?_) hs rfl))
  obtain ⟨a, xs, ex, hq, q⟩ := q1
  subst ex
  obtain ⟨its, rv, p', hz⟩ := I1.tuple hq
  rw [Vals.ref1 r1]
  have hlt : a < s1.heap.objs.size := by
    obtain ⟨_, z, _⟩ := (show s1.heap.IsTuple a its.toArray from p')
    exact Heap.lt_size z
  refine callType_new F.called_enumerate (by decide) (F.typeCall_enumerate_1 _) (F.newCall_enumerate_1 _) (fun obj => F.args_object_init_2 obj _) F.entry_enumerate_new (meets_enew (begins_tuple a its.toArray)) ⟨p', ?_⟩
  generalize ho : ({ cls := .type "tuple_iterator", data := .fields #[.ref a, .int 0 0] } : Obj) = o
  have hz1 : (s1.heap.push o).objs.size = s1.heap.objs.size + 1 := Heap.size_push ..
  show _ ∧ _
  have he : IsEnum ((s1.heap.push o).push { cls := .type "enumerate", data := .fields #[.none, .bool false, .ref s1.heap.objs.size, rawInt 0, .none, .none] }) (s1.heap.push o).objs.size s1.heap.objs.size 0 .none := Heap.get?_push_size _ rfl
  refine ⟨⟨_, he, rfl⟩, wpAny_pyIter_enum he ?_⟩
  refine ⟨(s1.heap.push o).objs.size, [(s1.heap.push o).objs.size, s1.heap.objs.size], _, _, H1, rfl, I1.kept (t' := s1.toks) fun b u z => Heap.get?_push_of_some _ (Heap.get?_push_of_some _ z), turn_ent a (s1.heap.push o).objs.size s1.heap.objs.size (Nat.ne_of_lt hlt) (by rw [hz1]; exact Nat.ne_of_lt (Nat.lt_succ_of_lt hlt)),
    ⟨⟨.none, he⟩, ⟨o, Heap.get?_push_of_some _ (Heap.get?_push_size _ (by subst ho; rfl)), by subst ho; rfl, by subst ho; rfl⟩, by rw [hz1]; exact Nat.succ_ne_self _⟩, fun b hb => ?_, q⟩
  have hle : s1.heap.objs.size ≤ b := by
    rcases List.mem_cons.mp hb with z | z
    · rw [z, hz1]; exact Nat.le_succ _
    · rw [List.mem_singleton.mp z]; exact Nat.le_refl _
  exact I1.fpOk hle (I1.hok.fresh hle)
section
variable {K : PySem.W.Frag} {a : Addr} {xs : List V}
theorem walk_ent : Walk (Ent K a) xs.length (fun H => SqT K H a xs) (YPair (fun i => some (.int (i : Nat))) (fun i => xs[i]?)) := by
  refine ⟨fun i _ hi q => ⟨xs, xs[i], q, by simp [hi]⟩, fun _ q => ⟨xs, q, rfl⟩, fun i H v H' _ q y => ?_⟩
  obtain ⟨T, x, h1, h2, h3, h4⟩ := y
  exact ⟨T, .int (i : Nat), x, h1, h2, h3, rfl, h4 xs q⟩
end
end Jc
namespace Jc
open PySem PySem.Spec L2
open PyProof.Rows hiding St
/-! ### set(list of ints) -/
abbrev empt (w : World) : Obj := { cls := .type "set", dict := none, data := .set #[] 0 (.fresh 0 0 (!w.params.followText "set-order")) }
section
variable {P : Program} {w : World} {A : Around} {E : Value → Shared → Prop} {s : Shared}
theorem set_list_raw {l : Addr} {items : Array Value} (ns : List Int) {Q : Value → Shared → Prop} (hh : A.handled = none) (hl : s.heap.IsList l items) (hit : IntsAre items.toList ns) (hb : ns.length + 1 < scanBound)
    (h : ∀ (h' : Heap) (tk c : Nat), SetR w h' s.heap.objs.size (fun j => decide (j ∈ ns)) c → c ≤ ns.length → (∀ b o, s.heap.get? b = some o → h'.get? b = some o) → Q (.ref s.heap.objs.size) { s with heap := h', toks := tk }) : wpAny (model P w) A (call (.type "set") [.ref l]) Q E s := by
  have sz : items.size = ns.length := by
    have z := hit.length
    rwa [Array.length_toList] at z
  obtain ⟨c, tl, m0⟩ := F.called_set.mro
  have m1 := F.called_set.made
  have m2 := F.called_set.sub
  refine wpAny_call (codeAny_of_tree ?_)
  show wpAny _ _ (callAny (.type "set") _) _ _ _
  refine wpAny_pure ⟨Code.quiet_builtin _ (by decide +kernel), codeAny_builtin F.entry_type_call ?_⟩
  rw [Around.under_plain (weight_type_call_type "set" [.ref l] []) rfl]
  have m3 := F.called_set.notType
  have m4 := F.called_set.canCreate
  have m5 := F.typeCall_set_1 (.ref l)
  repeat (any_goals (first | assumption | wp_step))

  refine codeAny_mono (code_set_led1 (.ref l) (E := E) (Q₁ := fun b t => b = .ref s.heap.objs.size ∧ t = { s with heap := s.heap.push (empt w) }) ⟨rfl, rfl⟩) fun r s1 hr => ?_
  match r, hr with
  | .error e, hr => exact hr
  | .ok .next, hr => exact hr.elim
  | .ok .brk, hr => exact hr.elim
  | .ok .cont, hr => exact hr.elim
  | .ok (.ret obj), hr =>
    obtain ⟨rfl, rfl⟩ := hr
    have g0 : (s.heap.push (empt w)).get? s.heap.objs.size = some (empt w) := Heap.get?_push_size _ rfl
    have g1 : Shared.TypeIs { s with heap := s.heap.push (empt w) } (.ref s.heap.objs.size) "set" := ⟨_, g0, rfl⟩
    have m6 := F.called_set.init.lookup
    have m7 := F.called_set.init.bind (.ref s.heap.objs.size)
    repeat (any_goals (first | assumption | wp_step))

    refine codeAny_mono (codeAny_call_builtin (R := wants (fun r t => r = .none ∧ ∃ h' tk c, t = { s with heap := h', toks := tk } ∧ SetR w h' s.heap.objs.size (fun j => decide (j ∈ ns)) c ∧ c ≤ ns.length ∧ (∀ b o, s.heap.get? b = some o → h'.get? b = some o)) E) F.called_set.init.plain F.entry_set_init (check_set_init_1 g1 ?_)) fun r2 s2 h2 => ?_
    · obtain ⟨⟨ocls, odict, odata, oslots⟩, hol, hcl, nl, hdl⟩ := hl
      replace hcl : ocls = .type "list" := hcl
      replace hdl : odata = .seq items nl := hdl
      subst hcl hdl
      have hol' : (s.heap.push (empt w)).get? l = some { cls := .type "list", dict := odict, data := .seq items nl, slots := oslots } := Heap.get?_push_of_some _ hol
      have m8 := F.sub_list_set
      have m9 := F.sub_list_frozenset
      have hne : (Value.type "list" == Value.type "dict") = false := by decide
      have hl1 : (s.heap.push (empt w)).IsList l items := ⟨_, hol', rfl, nl, rfl⟩
      unfold Builtin.«set.__init__» noKeywords Builtin.Frozenset.updateFrom
      generalize hPI : pyIter = PI
      wp_walk
      subst hPI

      refine wpAny_pyIter_list hl1 ?_
      refine wpAny_bind (wpAny_runValue ?_)
      have lS : l < s.heap.objs.size := Heap.lt_size hol
      have hq : A.in1.in1.in1.handled = none := by simp [hh]
      have z1 : (s.heap.push (empt w)).objs.size = s.heap.objs.size + 1 := Heap.size_push ..
      have nI : l ≠ (s.heap.push (empt w)).objs.size := by
        rw [z1]
        exact Nat.ne_of_lt (Nat.lt_succ_of_lt lS)
      have nS : s.heap.objs.size ∉ [(s.heap.push (empt w)).objs.size, l] := by
        rw [z1]
        intro hm
        rcases List.mem_cons.mp hm with y | y
        · exact absurd y (Nat.ne_of_lt (Nat.lt_succ_self _))
        · exact absurd (List.mem_singleton.mp y) (Nat.ne_of_gt lS)
      have val : ∀ (i : Nat) (v : Value), items[i]? = some v → ∃ k t, ns[i]? = some k ∧ v = .int k t := fun i v hv => by
        have hi : i < ns.length := sz ▸ (Array.getElem?_eq_some_iff.mp hv).1
        obtain ⟨t, e⟩ := hit.get i _ (List.getElem?_eq_getElem hi)
        rw [Array.getElem?_toList, hv] at e
        exact ⟨_, t, List.getElem?_eq_getElem hi, Option.some.inj e⟩
      refine set_update_ints ((Walks.list hq _ l nI items).toS) s.heap.objs.size nS ns sz hb val (items.size - 0) 0 _ (by omega) (Nat.zero_le _) ⟨⟨_, Heap.get?_push_size _ rfl, rfl, rfl⟩, (hl1.push _)⟩ ⟨0, Nat.le_refl 0, setR_new_at (Heap.get?_push_of_some _ g0)⟩ fun s' c' hm hc' hS' => ?_
      obtain ⟨h', g2, d', tk', os'⟩ := s'
      obtain rfl : g2 = s.gens := hm.gens
      obtain rfl : d' = s.drawn := hm.drawn
      obtain rfl : os' = s.os := hm.os
      refine wpAny_pure ?_
      show wpAny _ _ (ret Value.none) _ _ _
      refine wpAny_pure ⟨rfl, h', tk', c', rfl, hS', by omega, fun b o e => ?_⟩
      have b0 : b < s.heap.objs.size := Heap.lt_size e
      refine hm.heap b o (fun hx => ?_) (Heap.get?_push_of_some _ (Heap.get?_push_of_some _ e))
      rcases List.mem_cons.mp hx with y | y
      · exact absurd y (Nat.ne_of_lt b0)
      · have y2 := List.mem_singleton.mp y
        rw [z1] at y2
        exact absurd y2 (Nat.ne_of_lt (Nat.lt_succ_of_lt b0))

    · match r2, h2 with
      | .error e, h2 => exact h2
      | .ok .next, h2 => exact h2.elim
      | .ok .brk, h2 => exact h2.elim
      | .ok .cont, h2 => exact h2.elim
      | .ok (.ret r), h2 =>
        obtain ⟨rfl, h', tk, c', rfl, hS', hc', hk'⟩ := h2
        repeat (any_goals (first | assumption | wp_step))
        exact h _ _ _ hS' hc' hk'
end
def rSetL (w : World) (K : PySem.W.Frag) : List V → Hp → VK → Prop := fun xs H Q => ∃ (a : Addr) (ns : List Int), xs = [.ref a] ∧ SqL K H a (ns.map V.int) ∧ ns.length ≤ 1000 ∧ ∀ p c, H p = none → c ≤ ns.length → Q (.ref p) (upd H p (SetO w p (fun j => decide (j ∈ ns)) c))
theorem cr_setL {X : Cx} (hc : X.calm = true) : CallR X (.type "set") (rSetL X.w X.K) := by
  intro pins s σ H xs us Q I r h
  obtain ⟨a, ns, rfl, hs, hl, q⟩ := h
  obtain ⟨its, rv, pl, hz⟩ := I.list hs
  rw [Vals.ref1 r]
  refine set_list_raw (items := its.toArray) ns (I.ok.hd hc) pl.isList (by simpa using rv.ints) (by unfold scanBound; omega) fun h' tk c R hcn k => ?_
  exact ⟨.ref _, upd H s.heap.objs.size (SetO X.w s.heap.objs.size (fun j => decide (j ∈ ns)) c), I.laid (t' := tk) k (Nat.le_refl _) (setO_new R), rfl, q _ _ (I.hok.fresh (Nat.le_refl _)) hcn⟩
end Jc
namespace Jc
open PySem PySem.Spec L2
open PyProof.Rows hiding St
theorem range_get {α : Type} : ∀ xs : List α, (List.range xs.length).filterMap (fun i => xs[i]?) = xs := by
  intro xs
  have h : ∀ n, n ≤ xs.length → (List.range n).filterMap (fun i => xs[i]?) = xs.take n := by
    intro n
    induction n with
    | zero => intro _; simp
    | succ n ih =>
      intro hn
      rw [List.range_succ, List.filterMap_append, ih (by omega), List.take_add_one]
      congr 1
  have := h xs.length (Nat.le_refl _)
  rwa [List.take_length] at this
/-- a comprehension, its kept elements told by f -/
theorem lc_sel {J : It} {n : Nat} {G : Hp → Prop} {Y : Nat → Hp → V → Hp → Prop} (w : Walk J n G Y) {g : TG} {tt : TT} {te : TE} {vs : List Nat} {σ : L2.St} {H1 : Hp} {D : Addr} {Qd : Hp → Prop} (f : Nat → Option V) (hn : n < 1000000) (hD : H1 D = none)
    (hG : ∀ H2, Same H1 H2 → G H2)
    (hs : ∀ i x H H2 (k : V → Hp → Prop) (kn : Hp → Prop), i < n → Same H1 H → Y i H x H2 → (∀ y H4, f i = some y → Same H H4 → k y H4) → (∀ H3, f i = none → Same H H3 → kn H3) →
      g x (wipe σ vs) H2 fun σ2 H3 => wipe σ2 vs = wipe σ vs ∧ tt σ2 H3 fun b H4 => if b = true then te σ2 H4 k else kn H4)
    (hd : ∀ H2, Same H1 H2 → H2 D = some (.lst ((List.range n).filterMap f)) → Qd H2) :
    ∃ W : Nat → Nat → Hp → Prop, (∃ m, W 0 m (upd H1 D (.lst []))) ∧ ∀ i m H, W i m H →
      (J.stop i H ∧ Qd H) ∨ (J.go i H ∧ ∃ Nx : Hp → Prop, (∀ H', Nx H' → ∃ m', m' < m ∧ W (i + 1) m' H') ∧ ∀ x H', J.yld i H x H' → g x (wipe σ vs) H' fun σ2 H2 => wipe σ2 vs = wipe σ vs ∧ tt σ2 H2 fun b H3 =>
        if b = true then te σ2 H3 fun y H4 => ∃ acc, H4 D = some (.lst acc) ∧ acc.length < sizeLine ∧ Nx (upd H4 D (.lst (acc ++ [y]))) else Nx H3) := by
  have hz : ∀ i, ((List.range i).filterMap f).length ≤ i := fun i => by
    have := List.length_filterMap_le f (List.range i)
    rwa [List.length_range] at this
  refine lc_it w (fun i H => Same H1 H ∧ H D = some (.lst ((List.range i).filterMap f))) ⟨same_new hD, upd_same⟩ (fun i H _ p => hG H p.1) ?_ ?_
  · rintro i x H H' hi ⟨s1, hy⟩ y
    refine hs i x H H' _ _ hi s1 y (fun z H4 e s4 => ⟨_, s4 _ _ hy, Nat.lt_of_lt_of_le (show ((List.range i).filterMap f).length < 1000000 from Nat.lt_of_le_of_lt (hz i) (by omega)) (by rw [sizeLine_eq]; decide), same_mut (s1.trans s4) hD, ?_⟩) fun H3 e s3 => ⟨s1.trans s3, ?_⟩
    · rw [upd_same, List.range_succ, List.filterMap_append]
      simp [e]
    · rw [s3 _ _ hy, List.range_succ, List.filterMap_append]
      simp [e]
  · rintro H ⟨s1, hy⟩
    exact hd H s1 hy
theorem inV_ints {m : Int} : ∀ ts : List Int, inV (.int m) (ts.map V.int) = decide (m ∈ ts)
  | [] => by simp [inV]
  | t :: r => by
    have ih := inV_ints (m := m) r
    unfold inV at ih ⊢
    rw [List.map_cons, List.any_cons, ih]
    show ((t == m) || decide (m ∈ r)) = decide (m ∈ t :: r)
    by_cases h : t = m
    · subst h; simp
    · have h2 : m ≠ t := fun z => h z.symm
      simp [h, h2]
theorem flat_ints : ∀ ts : List Int, (ts.map V.int).all flatV = true := fun ts => by
  rw [List.all_eq_true]
  intro x hx
  obtain ⟨y, _, rfl⟩ := List.mem_map.mp hx
  rfl
theorem get_ints {ts : List Int} {i : Nat} {x : V} (h : (ts.map V.int)[i]? = some x) : ∃ k : Int, ts[i]? = some k ∧ x = .int k := by
  rw [List.getElem?_map] at h
  cases e : ts[i]? with
  | none => rw [e] at h; cases h
  | some k =>
    rw [e] at h
    exact ⟨k, rfl, (Option.some.inj h).symm⟩
/-- the place of an int in a list, as list.index tells it -/
theorem idx_ints {ts : List Int} {m : Int} (h : m ∈ ts) : (ts.map V.int)[ts.idxOf m]? = some (.int m) ∧ ∀ (j : Nat) (z : V), j < ts.idxOf m → (ts.map V.int)[j]? = some z → eqV z (.int m) = false := by
  have hl := List.idxOf_lt_length_of_mem h
  refine ⟨?_, fun j z hj e => ?_⟩
  · rw [List.getElem?_map, List.getElem?_eq_getElem hl, List.getElem_idxOf hl]
    rfl
  · obtain ⟨k, hk, rfl⟩ := get_ints e
    have h3 := List.not_of_lt_findIdx (p := (· == m)) hj
    obtain ⟨h1, h2⟩ := List.getElem?_eq_some_iff.mp hk
    rw [h2] at h3
    exact h3
end Jc
namespace Jc
open PySem PySem.Spec L2
open PyProof.Rows hiding St
/-! ### rules whose readings name the kept objects: for the blocks of comprehensions, whose Cx may not stand in a reading -/
section
variable {X : Cx} {K : PySem.W.Frag} {o e : Expr} {es : List Expr} {to ta : TE} {t : TA} {name fl : Str} {apos cpos pos : Pos} {T id : String} {r : V → List V → Hp → VK → Prop}
theorem ixl_K (h : X.K = K) : IxR X (rIxL K) := by subst h; exact ix_list
theorem ixt_K (h : X.K = K) : IxR X (rIxT K) := by subst h; exact ix_tup
theorem in_K (h : X.K = K) : OpR X (compareOp .In) (rIn K false) := by subst h; exact op_in_seq
theorem notin_K (h : X.K = K) : OpR X (compareOp .NotIn) (rIn K true) := by subst h; exact op_notIn_seq
theorem index_K (h : X.K = K) : MtR X "list.index" (rIndex K) := by subst h; exact mt_index
theorem isi_K (h : X.K = K) : CallR X (.builtin "isinstance") (rIsi K) := by subst h; exact call_isi
theorem pe_bmK (h : X.K = K) (pa : PlainAttrs T) (slot : Slot T name id) (hty : typeOf (.builtin id) = pure (.type "method_descriptor")) (hm : MtR X id r) (ho : PE X o to) (ha : PA X (e :: es) t)
    (hbase : attributeBase o name X.env (eval o X.env) = eval o X.env := by rfl)
    (hfew : ((backTo cpos (starEach (e :: es) X.env)).all (fun x => !x.1) && (backToKw cpos (keywordEach [] X.env)).all (fun x => x.1.isSome) && decide ((e :: es).length + ([] : List Keyword).length + (if ([] : List Keyword).isEmpty then 0 else 1) < 30)) = true := by rfl)
    (hline : (apos.endLine == cpos.line) = true := by rfl) (hs : starEach (e :: es) X.env = (false, eval e X.env) :: starEach es X.env := by rfl) (hplain : (backTo cpos (starEach es X.env)).any (·.1) = false := by rfl) :
    PE X (.Call (.Attribute o name apos) (e :: es) [] cpos) (tBM K T r to t) := by
  subst h
  exact pe_bm pa slot hty hm ho ha hbase hfew hline hs hplain
theorem pe_fldK (h : X.K = K) (he : PE X e ta) (hb : attributeBase e fl X.env (eval e X.env) = eval e X.env := by rfl) : PE X (.Attribute e fl pos) (tFld K ta fl) := by
  subst h
  exact pe_fld he hb
theorem pg_tupK {ts : List Expr} {k : Nat} {tt : TGs} {n : Nat} (hK : X.K = K) (hc : X.calm = true) (h : PGs X ts tt)
    (hn : (assignEach ts X.env).length = n := by rfl) (hst : (assignEach ts X.env).findIdx? (·.1) = none := by rfl) : PG X (.Tuple ts k pos) (gTup K n tt) := by
  subst hK
  exact pg_tup hc h hn hst
end
theorem le_line {n : Nat} (h : n ≤ 1000000) : n ≤ sizeLine := Nat.le_trans h (by rw [sizeLine_eq]; decide)
theorem iteNT {c A B : Prop} [Decidable c] (hc : ¬ c) (h : A) : if (!decide c) = true then A else B := by
  rw [decide_eq_false hc]
  exact iteT h
theorem iteDT {c A B : Prop} [Decidable c] (hc : c) (h : A) : if decide c = true then A else B := by
  rw [decide_eq_true hc]
  exact iteT h
theorem iteDF {c A B : Prop} [Decidable c] (hc : ¬ c) (h : B) : if decide c = true then A else B := by
  rw [decide_eq_false hc]
  exact iteF h
end Jc
namespace Jc
open PySem PySem.Spec L2
open PyProof.Rows hiding St
/-- a comprehension without a test, its elements told by R, which stands while the heap grows -/
theorem lc_rel {J : It} {n : Nat} {G : Hp → Prop} {Y : Nat → Hp → V → Hp → Prop} (w : Walk J n G Y) {g : TG} {te : TE} {vs : List Nat} {σ : L2.St} {H1 : Hp} {D : Addr} {Qd : Hp → Prop} (R : Nat → V → Hp → Prop) (hn : n < 1000000) (hD : H1 D = none)
    (hR : ∀ i y H H2, (∀ b o, b ≠ D → H b = some o → H2 b = some o) → R i y H → R i y H2) (hG : ∀ H2, Same H1 H2 → G H2)
    (hs : ∀ i x H H2 (k : V → Hp → Prop), i < n → Same H1 H → (∃ ys, H D = some (.lst ys)) → Y i H x H2 → (∀ y H4, Same H H4 → R i y H4 → k y H4) → g x (wipe σ vs) H2 fun σ2 H3 => wipe σ2 vs = wipe σ vs ∧ te σ2 H3 k)
    (hd : ∀ ys H2, ys.length = n → (∀ i y, ys[i]? = some y → R i y H2) → Same H1 H2 → H2 D = some (.lst ys) → Qd H2) :
    ∃ W : Nat → Nat → Hp → Prop, (∃ m, W 0 m (upd H1 D (.lst []))) ∧ ∀ i m H, W i m H →
      (J.stop i H ∧ Qd H) ∨ (J.go i H ∧ ∃ Nx : Hp → Prop, (∀ H', Nx H' → ∃ m', m' < m ∧ W (i + 1) m' H') ∧ ∀ x H', J.yld i H x H' → g x (wipe σ vs) H' fun σ2 H2 => wipe σ2 vs = wipe σ vs ∧ tYes σ2 H2 fun b H3 =>
        if b = true then te σ2 H3 fun y H4 => ∃ acc, H4 D = some (.lst acc) ∧ acc.length < sizeLine ∧ Nx (upd H4 D (.lst (acc ++ [y]))) else Nx H3) := by
  refine lc_it w (fun i H => Same H1 H ∧ ∃ ys : List V, ys.length = i ∧ (∀ j y, ys[j]? = some y → R j y H) ∧ H D = some (.lst ys)) ⟨same_new hD, [], rfl, fun j y e => by simp at e, upd_same⟩ (fun i H _ p => hG H p.1) ?_ ?_
  · rintro i x H H2 hi ⟨s1, ys, hl, hRs, hy⟩ y
    refine hs i x H H2 _ hi s1 ⟨_, hy⟩ y fun z H4 s4 r => ⟨ys, s4 _ _ hy, Nat.lt_of_lt_of_le (show ys.length < 1000000 by omega) (by rw [sizeLine_eq]; decide), same_mut (s1.trans s4) hD, ys ++ [z], by rw [List.length_append, hl]; rfl, fun j u e => ?_, upd_same⟩
    have kp : ∀ b o, b ≠ D → H4 b = some o → upd H4 D (.lst (ys ++ [z])) b = some o := fun b o hb e => by rw [upd_ne hb]; exact e
    refine hR j u H4 _ kp ?_
    by_cases hj : j < ys.length
    · rw [List.getElem?_append_left hj] at e
      exact hR j u H H4 (fun b o _ e => s4 b o e) (hRs j u e)
    · have hj2 : j = ys.length := by
        have := (List.getElem?_eq_some_iff.mp e).1
        rw [List.length_append] at this
        simp at this
        omega
      subst hj2
      rw [List.getElem?_append_right (Nat.le_refl _)] at e
      simp at e
      subst e
      rw [hl]
      exact r
  · rintro H ⟨s1, ys, hl, hRs, hy⟩
    exact hd ys H hl hRs s1 hy
/-! ### lists of lists of ints -/
structure LL (H : Hp) (q : Addr) (yss : List (List Int)) : Prop where
  ex : ∃ ys : List V, H q = some (.lst ys) ∧ ys.length = yss.length ∧ ∀ (i : Nat) y l, ys[i]? = some y → yss[i]? = some l → ∃ r, y = .ref r ∧ H r = some (.lst (l.map V.int))
theorem LL.same {H H2 : Hp} {q : Addr} {yss : List (List Int)} (s : Same H H2) (h : LL H q yss) : LL H2 q yss := by
  obtain ⟨ys, h1, h2, h3⟩ := h
  refine ⟨ys, s _ _ h1, h2, fun i y l e1 e2 => ?_⟩
  obtain ⟨r, e, e3⟩ := h3 i y l e1 e2
  exact ⟨r, e, s _ _ e3⟩
theorem dpAll_ll {K : PySem.W.Frag} {H : Hp} : ∀ (ys : List V) (yss : List (List Int)), ys.length = yss.length → (∀ (i : Nat) y l, ys[i]? = some y → yss[i]? = some l → ∃ r, y = .ref r ∧ H r = some (.lst (l.map V.int))) →
    DpAll K H ys (yss.map fun l => PyData.list (l.map PyData.int))
  | [], [], _, _ => .nil
  | y :: ys, l :: yss, hl, h => by
    obtain ⟨r, rfl, e⟩ := h 0 y l rfl rfl
    have all : ∀ ns : List Int, DpAll K H (ns.map V.int) (ns.map PyData.int) := fun ns => by
      induction ns with
      | nil => exact .nil
      | cons n r ih => exact .cons (.int n) ih
    exact .cons (.lst (.inl (.inl e)) (all l)) (dpAll_ll ys yss (by simpa using hl) fun i y' l' e1 e2 => h (i + 1) y' l' e1 e2)
  | [], _ :: _, hl, _ => nomatch hl
  | _ :: _, [], hl, _ => nomatch hl
abbrev dLL (yss : List (List Int)) : PyData := .list (yss.map fun l => PyData.list (l.map PyData.int))
theorem LL.dp {K : PySem.W.Frag} {H : Hp} {q : Addr} {yss : List (List Int)} (h : LL H q yss) : Dp K H (.ref q) (dLL yss) := by
  obtain ⟨ys, h1, h2, h3⟩ := h
  exact .lst (.inl (.inl h1)) (dpAll_ll ys yss h2 h3)
theorem eqv_ll : ∀ yss : List (List Int), PyData.eqvAll (yss.map fun l => PyData.list (l.map PyData.int)) (yss.map fun l => PyData.list (l.map PyData.int)) = true
  | [] => by simp [PyData.eqvAll]
  | l :: r => by
    have ih := eqv_ll r
    have h := PySem.W.ked_eqvAll l l
    rw [decide_eq_true rfl] at h
    simp only [List.map_cons, PyData.eqvAll, PyData.eqv, h, ih, Bool.and_self]
theorem shaped_ll (yss : List (List Int)) : SeqAt.shaped (dLL yss) = true := by
  have h1 : ∀ zss : List (List Int), PyData.canLayAll0 (zss.map fun l => PyData.list (l.map PyData.int)) = true := fun zss => by
    induction zss with
    | nil => simp [PyData.canLayAll0]
    | cons l r ih => simp [PyData.canLayAll0, PyData.canLay0, PySem.W.canLayAll0_ints, ih]
  have h2 : ∀ zss : List (List Int), PyData.depthAll (zss.map fun l => PyData.list (l.map PyData.int)) ≤ 2 := fun zss => by
    induction zss with
    | nil => simp [PyData.depthAll]
    | cons l r ih =>
      have h3 := PySem.W.depthAll_ints l
      simp only [List.map_cons, PyData.depthAll, PyData.depth]
      omega
  have h3 : PyData.depth (dLL yss) ≤ 64 := by
    have := h2 yss
    simp only [dLL, PyData.depth]
    omega
  show (PyData.canLay0 (dLL yss) && decide (PyData.depth (dLL yss) ≤ 64)) = true
  rw [Bool.and_eq_true]
  exact ⟨by simp only [dLL, PyData.canLay0]; exact h1 yss, decide_eq_true h3⟩
end Jc
namespace Jc
open PySem PySem.Spec L2
open PyProof.Rows hiding St
/-! ### dicts whose keys are questions: (text, tuple of ints and texts, tuple of ints) -/
structure Qn where
  title : Str
  place : List L2.Key
  reads : List Int
deriving DecidableEq
def nk : L2.Key → NestedKey
  | .inl i => .num i
  | .inr x => .text x
def Qn.key (q : Qn) : NestedKey := .tup [.text q.title, .tup (q.place.map nk), .tup (q.reads.map .num)]
theorem nk_inj : ∀ {a b : L2.Key}, nk a = nk b → a = b
  | .inl _, .inl _, h => by injection h with h; rw [h]
  | .inr _, .inr _, h => by injection h with h; rw [h]
  | .inl _, .inr _, h => nomatch h
  | .inr _, .inl _, h => nomatch h
theorem map_inj' {α β : Type} {f : α → β} (hf : ∀ {a b}, f a = f b → a = b) : ∀ {xs ys : List α}, xs.map f = ys.map f → xs = ys
  | [], [], _ => rfl
  | [], _ :: _, h => nomatch h
  | _ :: _, [], h => nomatch h
  | x :: xs, y :: ys, h => by
    rw [List.map_cons, List.map_cons] at h
    injection h with h1 h2
    rw [hf h1, map_inj' hf h2]
theorem Qn.key_inj {a b : Qn} (h : a.key = b.key) : a = b := by
  obtain ⟨t, p, r⟩ := a
  obtain ⟨t', p', r'⟩ := b
  simp only [Qn.key, NestedKey.tup.injEq, List.cons.injEq, NestedKey.text.injEq, and_true] at h
  obtain ⟨h1, h2, h3⟩ := h
  subst h1
  rw [map_inj' nk_inj h2, map_inj' (fun z => NestedKey.num.inj z) h3]
/-- the tuple at b is the question q -/
def KeyAt (K : PySem.W.Frag) (H : Hp) (b : Addr) (q : Qn) : Prop := ∃ u r, SqT K H b [.str q.title, .ref u, .ref r] ∧ SqT K H u (q.place.map kV) ∧ SqT K H r (q.reads.map V.int)
section
variable {X : Cx} {pins : List (Addr × Obj)} {σ : L2.St} {H : Hp} {s : Shared}
theorem nested_places {h : Heap} : ∀ {ks : List L2.Key} {us : List Value}, Vals (ks.map kV) us → NestedAll h (ks.map nk) us
  | [], _, r => by cases r; exact .nil
  | .inl i :: ks, _, r => by
    cases r with
    | cons a b =>
      obtain ⟨t, rfl⟩ := a
      exact .cons (.int i t) (nested_places b)
  | .inr x :: ks, _, r => by
    cases r with
    | cons a b =>
      obtain ⟨t, rfl⟩ := a
      exact .cons (.text x t) (nested_places b)
theorem nested_ints {h : Heap} : ∀ {ks : List Int} {us : List Value}, Vals (ks.map V.int) us → NestedAll h (ks.map .num) us
  | [], _, r => by cases r; exact .nil
  | i :: ks, _, r => by
    cases r with
    | cons a b =>
      obtain ⟨t, rfl⟩ := a
      exact .cons (.int i t) (nested_ints b)
theorem depth_places : ∀ ks : List L2.Key, NestedKey.depthAll (ks.map nk) ≤ 1
  | [] => by simp [NestedKey.depthAll]
  | .inl i :: ks => by have := depth_places ks; simp [NestedKey.depthAll, NestedKey.depth, nk]; omega
  | .inr i :: ks => by have := depth_places ks; simp [NestedKey.depthAll, NestedKey.depth, nk]; omega
theorem depth_ints : ∀ ks : List Int, NestedKey.depthAll (ks.map .num) ≤ 1
  | [] => by simp [NestedKey.depthAll]
  | i :: ks => by have := depth_ints ks; simp [NestedKey.depthAll, NestedKey.depth]; omega
theorem nested_tup (I : Inv X pins σ H s) {a : Addr} {xs : List V} {ks : List NestedKey} (h : SqT X.K H a xs) (f : ∀ us, Vals xs us → NestedAll s.heap ks us) : NestedIs s.heap (.tup ks) (.ref a) := by
  obtain ⟨its, r, ⟨o, e, c, n, d⟩, _⟩ := I.tuple h
  exact .tup e c d (by simpa using f its r)
theorem KeyAt.is (I : Inv X pins σ H s) {b : Addr} {q : Qn} (h : KeyAt X.K H b q) : (nestedKind X.prog X.w).is s.heap q.key b := by
  obtain ⟨u, r, h1, h2, h3⟩ := h
  refine ⟨nested_tup I h1 fun us rv => ?_, ?_⟩
  · cases rv with
    | cons a rv =>
    cases rv with
    | cons b rv =>
    cases rv with
    | cons c rv =>
      cases rv
      obtain ⟨t, rfl⟩ := a
      obtain rfl : _ = Value.ref u := b
      obtain rfl : _ = Value.ref r := c
      exact .cons (.text _ t) (.cons (nested_tup I h2 fun us rv => nested_places rv) (.cons (nested_tup I h3 fun us rv => nested_ints rv) .nil))
  · have h1 := depth_places q.place
    have h2 := depth_ints q.reads
    simp only [Qn.key, NestedKey.depth, NestedKey.depthAll]
    omega
end
theorem KeyAt.same {K : PySem.W.Frag} {H H2 : Hp} {b : Addr} {q : Qn} (f : ∀ a xs, SqT K H a xs → SqT K H2 a xs) (h : KeyAt K H b q) : KeyAt K H2 b q := by
  obtain ⟨u, r, h1, h2, h3⟩ := h
  exact ⟨u, r, f _ _ h1, f _ _ h2, f _ _ h3⟩

/-! ### the dict itself -/
abbrev Ent3 := Qn × Addr × Int
def Tie (p : Ent3) (q : NestedKey × Addr × Value) : Prop := q.1 = p.1.key ∧ q.2.1 = p.2.1 ∧ ∃ t, q.2.2 = .int p.2.2 t
def dnPhi (P : Program) (w : World) (d : Addr) (ks : List Ent3) : Heap → Prop := fun h => (d == sysModules) = false ∧ ks.length ≤ 1000 ∧ (ks.map (·.1)).Nodup ∧
  ∃ xs : List (NestedKey × Addr × Value), Paired Tie ks xs ∧ ∃ o es ep, h.get? d = some o ∧ o.ExactDict ∧ o.data = .dict es ep ∧ es.toList = xs.map (entryOfKey (nestedKind P w))
def DN (P : Program) (w : World) (d : Addr) (ks : List Ent3) : HO := .ext (dnPhi P w d ks)
theorem dn_ok {P : Program} {w : World} {H : Hp} {h : Heap} {d : Addr} {ks : List Ent3} (x : dnPhi P w d ks h) : ObjOk P w H h d (DN P w d ks) := by
  refine ⟨x, ?_, ?_⟩
  · obtain ⟨_, _, _, xs, _, o, es, ep, e, _⟩ := x
    exact ⟨o, e⟩
  · rintro h1 h2 ⟨a, b, c, xs, f, o, es, ep, e, r⟩ k
    exact ⟨a, b, c, xs, f, o, es, ep, k _ e, r⟩
theorem dn_at {P : Program} {w : World} {H : Hp} {h : Heap} {d : Addr} {ks : List Ent3} (ok : HOk P w H h) (e : Rd H d (DN P w d ks)) : dnPhi P w d ks h := by
  rcases e with e | ⟨o, e⟩
  · exact (show ObjOk P w H h d (.ext _) from ok d _ e).1
  · exact (show ObjOk P w H h d (.frz o (.ext _)) from ok d _ e).2.1
theorem tie_keys : ∀ {ks : List Ent3} {xs : List (NestedKey × Addr × Value)}, Paired Tie ks xs → xs.map (·.1) = (ks.map (·.1)).map Qn.key
  | _, _, .nil => rfl
  | _, _, .cons a b => by rw [List.map_cons, List.map_cons, List.map_cons, tie_keys b, a.1]
theorem nodup_key : ∀ {qs : List Qn}, qs.Nodup → (qs.map Qn.key).Nodup
  | [], _ => List.nodup_nil
  | q :: qs, h => by
    rw [List.nodup_cons] at h
    rw [List.map_cons, List.nodup_cons]
    refine ⟨fun z => ?_, nodup_key h.2⟩
    obtain ⟨y, hy, e⟩ := List.mem_map.mp z
    rw [Qn.key_inj e] at hy
    exact h.1 hy
theorem tie_in : ∀ {ks : List Ent3} {xs : List (NestedKey × Addr × Value)}, Paired Tie ks xs → ∀ x ∈ xs, ∃ p ∈ ks, Tie p x
  | _, _, .nil, x, h => nomatch h
  | _, _, .cons a b, x, h => by
    rcases List.mem_cons.mp h with e | h
    · subst e; exact ⟨_, List.mem_cons_self, a⟩
    · obtain ⟨p, hp, t⟩ := tie_in b x h
      exact ⟨p, List.mem_cons_of_mem _ hp, t⟩
theorem at_none : ∀ {ks : List Ent3} {xs : List (NestedKey × Addr × Value)} {q : Qn}, Paired Tie ks xs → q ∉ ks.map (·.1) → atKey xs q.key = none
  | _, _, _, .nil, _ => rfl
  | _, _, q, .cons (a := p) (b := x) (l₁ := ks) (l₂ := xs) a b, h => by
    rw [List.map_cons] at h
    have h1 : ¬ x.1 = q.key := fun z => h (by rw [Qn.key_inj (z.symm.trans a.1)]; exact List.mem_cons_self)
    have ih := at_none b (fun z => h (List.mem_cons_of_mem _ z))
    unfold atKey at ih ⊢
    rw [List.find?_cons_of_neg (by simpa using h1)]
    exact ih
theorem at_some : ∀ {ks : List Ent3} {xs : List (NestedKey × Addr × Value)} {q : Qn} {b : Addr} {n : Int}, Paired Tie ks xs → (ks.map (·.1)).Nodup → (q, b, n) ∈ ks → ∃ v t, atKey xs q.key = some (b, v) ∧ v = .int n t
  | _, _, _, _, _, .nil, _, h => nomatch h
  | _, _, q, b, n, .cons (a := p) (b := x) (l₁ := ks) (l₂ := xs) a r, hn, h => by
    rw [List.map_cons, List.nodup_cons] at hn
    rcases List.mem_cons.mp h with e | h
    · subst e
      obtain ⟨e1, e2, t, e3⟩ := a
      refine ⟨x.2.2, t, ?_, e3⟩
      unfold atKey
      rw [List.find?_cons_of_pos (by simpa using e1)]
      simp only [Option.map_some, Option.some.injEq]
      rw [← show x.2.1 = b from e2]
    · have h1 : ¬ x.1 = q.key := fun z => hn.1 (by
        rw [Qn.key_inj (a.1.symm.trans z)]
        exact List.mem_map.mpr ⟨_, h, rfl⟩)
      obtain ⟨v, t, e, ev⟩ := at_some r hn.2 h
      refine ⟨v, t, ?_, ev⟩
      unfold atKey at e ⊢
      rw [List.find?_cons_of_neg (by simpa using h1)]
      exact e
theorem pair_snoc {α β : Type} {R : α → β → Prop} : ∀ {xs : List α} {ys : List β} {x : α} {y : β}, Paired R xs ys → R x y → Paired R (xs ++ [x]) (ys ++ [y])
  | _, _, _, _, .nil, h => .cons h .nil
  | _, _, _, _, .cons a b, h => .cons a (pair_snoc b h)
section
variable {X : Cx} {pins : List (Addr × Obj)} {σ : L2.St} {H : Hp} {s : Shared} {d b : Addr} {ks : List Ent3} {q : Qn} {A : Around} {E : Value → Shared → Prop}
/-- its keys stand where it says -/
def Keyed (K : PySem.W.Frag) (H : Hp) (ks : List Ent3) : Prop := ∀ p ∈ ks, KeyAt K H p.2.1 p.1
theorem dn_dict (I : Inv X pins σ H s) (e : Rd H d (DN X.prog X.w d ks)) (k : Keyed X.K H ks) : (d == sysModules) = false ∧ ks.length ≤ 1000 ∧ (ks.map (·.1)).Nodup ∧ ∃ xs, Paired Tie ks xs ∧ s.heap.DictOfH (nestedKind X.prog X.w) d xs := by
  obtain ⟨h1, h2, h3, xs, t, o, es, ep, e1, e2, e3, e4⟩ := dn_at I.hok e
  refine ⟨h1, h2, h3, xs, t, o, es, ep, e1, e2, e3, e4, fun x hx => ?_, ?_⟩
  · obtain ⟨p, hp, a, c, _⟩ := tie_in t x hx
    rw [a, c]
    exact (k p hp).is I
  · rw [tie_keys t]
    exact nodup_key h3
def rInN (P : Program) (w : World) (K : PySem.W.Frag) (neg : Bool) : R2 := fun x y H Q => ∃ d b q ks, x = .ref b ∧ y = .ref d ∧ Rd H d (DN P w d ks) ∧ Keyed K H ks ∧ KeyAt K H b q ∧ Q (.bl (if neg then !decide (q ∈ ks.map (·.1)) else decide (q ∈ ks.map (·.1)))) H
theorem some_iff {xs : List (NestedKey × Addr × Value)} (t : Paired Tie ks xs) (hn : (ks.map (·.1)).Nodup) : (atKey xs q.key).isSome = decide (q ∈ ks.map (·.1)) := by
  by_cases h : q ∈ ks.map (·.1)
  · obtain ⟨⟨q', b', n⟩, hp, e⟩ := List.mem_map.mp h
    obtain rfl : q' = q := e
    obtain ⟨v, t', e2, _⟩ := at_some t hn hp
    rw [e2, decide_eq_true h]
    rfl
  · rw [at_none t h, decide_eq_false h]
    rfl
theorem op_inN (hu : X.A.units + 10 < cLine) : OpR X (compareOp .In) (rInN X.prog X.w X.K false) := by
  intro pins s σ H x y v u Q I rx ry h
  obtain ⟨d, b, q, ks, rfl, rfl, e, k, kb, hq⟩ := h
  cases rx
  cases ry
  obtain ⟨h1, h2, h3, xs, t, dd⟩ := dn_dict I e k
  refine wpAny_in_heap (knd := nestedKind X.prog X.w) (show X.A.in1.units + 8 < cLine by show X.A.units + 1 + 8 < cLine; omega) (kb.is I) h1 dd ?_
  rw [some_iff t h3]
  exact ⟨.bl (decide (q ∈ ks.map fun x : Ent3 => x.1)), H, I.tok _, rfl, hq⟩
theorem op_notInN (hu : X.A.units + 10 < cLine) : OpR X (compareOp .NotIn) (rInN X.prog X.w X.K true) := by
  intro pins s σ H x y v u Q I rx ry h
  obtain ⟨d, b, q, ks, rfl, rfl, e, k, kb, hq⟩ := h
  cases rx
  cases ry
  obtain ⟨h1, h2, h3, xs, t, dd⟩ := dn_dict I e k
  refine wpAny_notIn_heap (knd := nestedKind X.prog X.w) (show X.A.in1.units + 8 < cLine by show X.A.units + 1 + 8 < cLine; omega) (kb.is I) h1 dd ?_
  rw [some_iff t h3]
  exact ⟨.bl (!decide (q ∈ ks.map fun x : Ent3 => x.1)), H, I.tok _, rfl, hq⟩
def rIxN (P : Program) (w : World) (K : PySem.W.Frag) : R2 := fun x y H Q => ∃ d b q ks b' n, x = .ref d ∧ y = .ref b ∧ Rd H d (DN P w d ks) ∧ Keyed K H ks ∧ KeyAt K H b q ∧ (q, b', n) ∈ ks ∧ Q (.int n) H
theorem get_dn (hu : A.units + 10 < cLine) {Q : Value → Shared → Prop} {b' : Addr} {n : Int} (I : Inv X pins σ H s) (e : Rd H d (DN X.prog X.w d ks)) (k : Keyed X.K H ks) (kb : KeyAt X.K H b q) (hm : (q, b', n) ∈ ks)
    (h : ∀ t s', Inv X pins σ H s' → Q (.int n t) s') : wpAny (model X.prog X.w) A (getItem (.ref d) (.ref b)) Q E s := by
  obtain ⟨h1, h2, h3, xs, t, dd⟩ := dn_dict I e k
  obtain ⟨v, t', e2, rfl⟩ := at_some t h3 hm
  exact wpAny_getItem_heap (knd := nestedKind X.prog X.w) (show A.in1.units + 8 < cLine by show A.units + 1 + 8 < cLine; omega) (kb.is I) dd e2 (h t' _ (I.tok _))
/-- d[b] -/
theorem pe_dgetN {o i : Expr} {td ty : TE} {pos : Pos} (hu : X.A.units + 10 < cLine) (ho : PE X o td) (hi : PE X i ty) (hs : NoSl i) : PE X (.Subscript o i pos) (tOp (rIxN X.prog X.w X.K) td ty) := by
  refine ⟨fun pins s σ H Q I h => ?_⟩
  refine subD_of PySem.F.slot_dict_getitem.lookup hs (thn (ho.run pins s σ H _ I h) fun u s1 ⟨x, H1, I1, rx, q1⟩ => thn (hi.run pins s1 σ H1 _ I1 q1) fun iv s2 ⟨y, H2, I2, ry, q2⟩ => ?_)
  obtain ⟨d, b, q, ks, b', n, rfl, rfl, e, k, kb, hm, q3⟩ := q2
  cases rx
  cases ry
  refine ⟨?_, get_dn hu I2 e k kb hm fun t s3 I3 => ⟨.int n, H2, I3, ⟨t, rfl⟩, q3⟩⟩
  obtain ⟨h1, h2, h3, xs, t, dd⟩ := dn_dict I2 e k
  exact dd.typeIs
theorem store_phi {h' : Heap} {xs : List (NestedKey × Addr × Value)} {n : Int} {t : Tok} (h1 : (d == sysModules) = false) (h2 : ks.length < 1000) (h3 : (ks.map (·.1)).Nodup) (ti : Paired Tie ks xs) (hq : q ∉ ks.map (·.1))
    (dd : h'.DictOfH (nestedKind X.prog X.w) d (storedH xs q.key b (.int n t))) : dnPhi X.prog X.w d (ks ++ [(q, b, n)]) h' := by
  rw [storedH_new (at_none ti hq)] at dd
  obtain ⟨o, es, ep, e1, e2, e3, e4, _⟩ := dd
  refine ⟨h1, by rw [List.length_append, List.length_singleton]; omega, ?_, xs ++ [(q.key, b, .int n t)], pair_snoc ti ⟨rfl, rfl, t, rfl⟩, o, es, ep, e1, e2, e3, e4⟩
  rw [List.map_append, List.nodup_append]
  refine ⟨h3, by simp, fun a ha c hc => ?_⟩
  rintro rfl
  obtain rfl := List.mem_singleton.mp hc
  exact hq ha
/-- d[b] = n, b a new key -/
def rSetN (P : Program) (w : World) (K : PySem.W.Frag) (d b : Addr) (n : Int) (H : Hp) (Q : Hp → Prop) : Prop := ∃ q ks, H d = some (DN P w d ks) ∧ Keyed K H ks ∧ KeyAt K H b q ∧ q ∉ ks.map (·.1) ∧ ks.length < 1000 ∧ Q (upd H d (DN P w d (ks ++ [(q, b, n)])))
theorem set_dn (hu : A.units + 10 < cLine) {Q : Unit → Shared → Prop} {n : Int} {t : Tok} {R : Hp → Prop} (I : Inv X pins σ H s) (g : rSetN X.prog X.w X.K d b n H R)
    (h : ∀ H' s', Inv X pins σ H' s' → R H' → Q () s') : wpAny (model X.prog X.w) A (setItem (.ref d) (.ref b) (.int n t)) Q E s := by
  obtain ⟨q, ks, e, k, kb, hq, hl, r⟩ := g
  obtain ⟨h1, h2, h3, xs, ti, dd⟩ := dn_dict I (.inl e) k
  have hz : xs.length ≤ sizeLine := by
    rw [← Paired.length ti]
    exact le_line (by omega)
  refine wpAny_setItem_heap (knd := nestedKind X.prog X.w) (hsz := hz) (show A.in1.units + 8 < cLine by show A.units + 1 + 8 < cLine; omega) (kb.is I) dd fun h' dd' hs => h _ _ ?_ r
  · have ph := store_phi h1 hl h3 ti hq dd'
    have he : ∃ u, h'.get? d = some u := let ⟨u, _, _, hu, _⟩ := dd'; ⟨u, hu⟩
    exact d_write I (by rw [e]; exact True.intro) hs he (dn_ok ph)
def sDPutN (P : Program) (w : World) (K : PySem.W.Frag) (td ty tv : TE) : TS := fun D σ H => tv σ H fun v H1 => td σ H1 fun x H2 => ty σ H2 fun y H3 => ∃ d b n, v = .int n ∧ x = .ref d ∧ y = .ref b ∧ rSetN P w K d b n H3 fun H4 => D.nx σ H4
theorem ps_dputN {o i value : Expr} {td ty tv : TE} {pos pos' : Pos} (hu : X.A.units + 10 < cLine) (ho : PE X o td) (hi : PE X i ty) (hv : PE X value tv) (hs : swapsWith value (some (.Subscript o i pos')) pos.line X.env = pure false) :
    PS X (.Assign [.Subscript o i pos'] value pos) (sDPutN X.prog X.w X.K td ty tv) := by
  refine ⟨fun pins s σ H D I h => ?_⟩
  refine wpAny_Assign_Subscript (thn (hv.run pins s σ H _ I h) fun r s1 ⟨v, H1, I1, rv, q1⟩ => thn (ho.run pins s1 σ H1 _ I1 q1) fun u s2 ⟨x, H2, I2, rx, q2⟩ => thn (hi.run pins s2 σ H2 _ I2 q2) fun iv s3 ⟨y, H3, I3, ry, q3⟩ => ?_) hs
  obtain ⟨d, b, n, rfl, rfl, rfl, g⟩ := q3
  cases rx
  cases ry
  obtain ⟨t, rfl⟩ := rv
  exact set_dn hu I3 g fun H4 s4 I4 r => ⟨σ, H4, I4, r⟩
/-- {} -/
def tDNewN (P : Program) (w : World) : TE := fun _ H Q => ∀ p, H p = none → Q (.ref p) (upd H p (DN P w p []))
theorem dn_empty (P : Program) (w : World) (h : Heap) (hb : sysModules < h.objs.size) : dnPhi P w h.objs.size [] (h.push { cls := .type "dict", data := .dict #[] }) :=
  ⟨beq_eq_false_iff_ne.mpr (Ne.symm (Nat.ne_of_lt hb)), Nat.zero_le _, List.nodup_nil, [], .nil, _, #[], 0, Heap.get?_push_size _ rfl, ⟨rfl, rfl, rfl⟩, rfl, rfl⟩
theorem pe_dnewN {pos : Pos} : PE X (.Dict [] [] pos) (tDNewN X.prog X.w) := ⟨fun pins s σ H Q I h =>
  wpAny_Dict_empty ⟨.ref s.heap.objs.size, _, I.laid (t' := s.toks) (fun _ _ e => Heap.get?_push_of_some _ e) (Nat.le_refl _) (dn_ok (dn_empty X.prog X.w s.heap I.big)), rfl, h _ (I.hok.fresh (Nat.le_refl _))⟩⟩
end
end Jc
namespace Jc
open PySem PySem.Spec L2
open PyProof.Rows hiding St
/-! ### a walk of such a dict, which is locked -/
theorem paired_at {α β : Type} {R : α → β → Prop} : ∀ {xs : List α} {ys : List β} {i : Nat} {x : α}, Paired R xs ys → xs[i]? = some x → ∃ y, ys[i]? = some y ∧ R x y
  | _, _, _, _, .nil, e => by simp at e
  | _, _, 0, _, .cons a b, e => by
    simp only [List.getElem?_cons_zero, Option.some.injEq] at e
    exact ⟨_, rfl, e ▸ a⟩
  | _, _, i + 1, _, .cons a b, e => by
    simp only [List.getElem?_cons_succ] at e ⊢
    exact paired_at b e
section
variable {X : Cx} {pins : List (Addr × Obj)} {σ : L2.St} {H : Hp} {s : Shared} {d : Addr} {o : Obj} {ks : List Ent3}
theorem frzN (I : Inv X pins σ H s) (h : H d = some (.frz o (DN X.prog X.w d ks))) : (d == sysModules) = false ∧ s.heap.get? d = some o ∧ o.ExactDict ∧
    ∃ (es : Array DictEntry) (ep : Nat), o.data = .dict es ep ∧ es.size = ks.length ∧ ∀ (i : Nat) (p : Ent3), ks[i]? = some p → ∃ en : DictEntry, es[i]? = some en ∧ en.key = .ref p.2.1 := by
  obtain ⟨h1, h2, h3, xs, t, o', es, ep, e1, e2, e3, e4⟩ := dn_at I.hok (.inr ⟨o, h⟩)
  have hd := (show ObjOk X.prog X.w H s.heap d (.frz o (.ext _)) from I.hok d _ h).1
  rw [hd] at e1
  cases e1
  refine ⟨h1, hd, e2, es, ep, e3, ?_, fun i p e => ?_⟩
  · have l1 : es.size = xs.length := size_of_entries e4
    have l2 : ks.length = xs.length := Paired.length t
    omega
  · obtain ⟨x, hx, _, a, _⟩ := paired_at t e
    have q := entry_at e4 i
    rw [hx] at q
    exact ⟨_, q, by rw [← a]; rfl⟩
end
def Itn (P : Program) (w : World) (d : Addr) (o : Obj) (ks : List Ent3) : It :=
  ⟨fun i H => H d = some (.frz o (DN P w d ks)) ∧ i < ks.length, fun i H x H' => H' = H ∧ ∃ p : Ent3, ks[i]? = some p ∧ x = .ref p.2.1, fun i H => H d = some (.frz o (DN P w d ks)) ∧ ks.length ≤ i⟩
theorem turn_n {P : Program} {w : World} {K : PySem.W.Frag} {tg : Expr} {d : Addr} {o : Obj} {es : Array DictEntry} {ep : Nat} {ks : List Ent3} (it : Addr) (hod : o.data = .dict es ep) : Turn P w K tg (Itn P w d o ks) [it] it (fun i h => h.IsKeyIter it d i ks.length ep) where
  mem := List.mem_singleton.mpr rfl
  obj := fun i h st b hb => by
    obtain rfl := List.mem_singleton.mp hb
    obtain ⟨oi, e, c, dd⟩ := st
    exact ⟨oi, e, fun v z => nomatch dd.symm.trans z⟩
  keep := fun i h h' st k => st.at fun oi e => k it (List.mem_singleton.mpr rfl) oi e
  item := by
    intro X hP hw hK hc i pins s σ H E I hf st hg
    subst hP hw hK
    obtain ⟨hd, hi⟩ := hg
    obtain ⟨f0, f1, f2, f3, f4, f5⟩ := hf it (List.mem_singleton.mpr rfl)
    obtain ⟨hs, gd, hx, es', ep', dt, zs, ent⟩ := frzN I hd
    obtain ⟨rfl, rfl⟩ : es' = es ∧ ep' = ep := by
      rw [hod] at dt
      cases dt
      exact ⟨rfl, rfl⟩
    have hkv : ks[i]? = some ks[i] := List.getElem?_eq_getElem hi
    obtain ⟨en, hen, hkey⟩ := ent i _ hkv
    refine next_key_item st gd dt zs hen fun h' st' sb => ?_
    have I1 : Inv X pins σ H { s with heap := h' } := I.turned (t' := s.toks) (fun b ob hb z => (sb.2 b hb).trans z) f0 f1 f3 f4 f5
    obtain ⟨oi, e, c, dd⟩ := id st'
    exact ⟨_, rfl, go_of (s := { s with heap := h' }) e c dd (by decide) ⟨.ref ks[i].2.1, H, I1, hkey, ⟨rfl, _, hkv, rfl⟩, st', fun b hb => (hf b hb).1⟩⟩
  done := by
    intro X hP hw hK hc i pins s σ H E I hf st hg
    subst hP hw hK
    obtain ⟨hd, hi⟩ := hg
    obtain ⟨f0, f1, f2, f3, f4, f5⟩ := hf it (List.mem_singleton.mpr rfl)
    obtain ⟨hs, gd, hx, es', ep', dt, zs, ent⟩ := frzN I hd
    obtain ⟨rfl, rfl⟩ : es' = es ∧ ep' = ep := by
      rw [hod] at dt
      cases dt
      exact ⟨rfl, rfl⟩
    exact next_key_end (I.ok.hd hc) st gd dt zs hi fun h' eb => ⟨rfl, I.turned (t' := s.toks) (fun b ob hb z => eb b ob hb z) f0 f1 f3 f4 f5⟩
  self := fun A i s Q E st h => let ⟨_, _, z⟩ := st; wpAny_pyIter_keyiter st h
def iKeysN (P : Program) (w : World) (td : TE) : TI := fun σ H R => td σ H fun x H1 => ∃ d o ks, x = .ref d ∧ H1 d = some (.frz o (DN P w d ks)) ∧ R (Itn P w d o ks) H1
theorem pi_keysN {X : Cx} {tg e : Expr} {td : TE} (he : PE X e td) : PI X tg e (iKeysN X.prog X.w td) := by
  refine ⟨fun pins s σ H R I h => ?_⟩
  refine thn (he.run pins s σ H _ I h) fun u s1 ⟨x, H1, I1, rx, d, o, ks, ex, hd, q⟩ => ?_
  subst ex
  cases rx
  obtain ⟨hs, hgd, hx, es, ep, hdt, hsz, ent⟩ := frzN I1 hd
  refine iter_keys hs hgd hx hdt (pi_one (tk := s1.toks) I1 _ (turn_n _ hdt) ⟨_, Heap.get?_push_size _ rfl, rfl, ?_⟩ q)
  rw [hsz]
  rfl
theorem walk_keysN {P : Program} {w : World} {d : Addr} {o : Obj} {ks : List Ent3} : Walk (Itn P w d o ks) ks.length (fun H => H d = some (.frz o (DN P w d ks))) (fun i H x H' => H' = H ∧ ∃ p : Ent3, ks[i]? = some p ∧ x = .ref p.2.1) :=
  ⟨fun _ _ hi q => ⟨q, hi⟩, fun _ q => ⟨q, Nat.le_refl _⟩, fun _ _ _ _ _ _ y => y⟩

/-! ### a dict comprehension whose keys are questions -/
section
variable {X : Cx} {pins : List (Addr × Obj)} {σ : L2.St} {H : Hp} {s : Shared} {d b : Addr} {E : Value → Shared → Prop}
theorem put_dn (hu : X.A.units + 10 < cLine) {Q : Unit → Shared → Prop} {n : Int} {t : Tok} {R : Hp → Prop} (I : Inv X pins σ H s) (g : rSetN X.prog X.w X.K d b n H R)
    (h : ∀ H' s', Inv X pins σ H' s' → R H' → Q () s') : wpAny (model X.prog X.w) X.A (dictSet d (.ref b) (.int n t)) Q E s := by
  obtain ⟨q, ks, e, k, kb, hq, hl, r⟩ := g
  obtain ⟨h1, h2, h3, xs, ti, dd⟩ := dn_dict I (.inl e) k
  have hz : xs.length ≤ sizeLine := by
    rw [← Paired.length ti]
    exact le_line (by omega)
  refine wpAny_dictSet_heap (knd := nestedKind X.prog X.w) (hsz := hz) (show X.A.units + 8 < cLine by omega) (kb.is I) dd fun h' dd' hs => h _ _ ?_ r
  · have ph := store_phi h1 hl h3 ti hq dd'
    have he : ∃ u, h'.get? d = some u := let ⟨u, _, _, hu, _⟩ := dd'; ⟨u, hu⟩
    exact d_write I (by rw [e]; exact True.intro) hs he (dn_ok ph)
def tDcN (P : Program) (w : World) (K : PySem.W.Frag) (wi : TI) (g : TG) (tk tv : TE) (vs : List Nat) : TE := fun σ H Q => wi σ H fun J H1 => ∀ D, H1 D = none → ∃ W : Nat → Nat → Hp → Prop, (∃ m, W 0 m (upd H1 D (DN P w D []))) ∧ ∀ i m H, W i m H →
  (J.stop i H ∧ Q (.ref D) H) ∨ (J.go i H ∧ ∃ Nx : Hp → Prop, (∀ H', Nx H' → ∃ m', m' < m ∧ W (i + 1) m' H') ∧ ∀ x H', J.yld i H x H' → g x (wipe σ vs) H' fun σ2 H2 => wipe σ2 vs = wipe σ vs ∧
    tk σ2 H2 fun y H4 => tv σ2 H4 fun z H5 => ∃ b n, y = .ref b ∧ z = .int n ∧ rSetN P w K D b n H5 Nx)
end
theorem pe_dcN {X : Cx} {kx vx tg iter : Expr} {scope : Scope} {own : List (Str × Nat)} {pos : Pos} {wi : TI} {g : TG} {tk tv : TE} (hu : X.A.units + 10 < cLine) (hc : X.calm = true) (hN : X.N.Nodup) (hi : PI X tg iter wi) (ok : BlkOk X.N X.env.scope scope own)
    (hg : ∀ (s : Shared) (H : Hp) (C : Addr) (cl : List (Str × Addr)) (fp : List Addr), PG (X.blk s H scope (compEnvC scope cl C X.env) fp) tg g)
    (hk : ∀ (s : Shared) (H : Hp) (C : Addr) (cl : List (Str × Addr)) (fp : List Addr), PE (X.blk s H scope (compEnvC scope cl C X.env) fp) kx tk)
    (he : ∀ (s : Shared) (H : Hp) (C : Addr) (cl : List (Str × Addr)) (fp : List Addr), PE (X.blk s H scope (compEnvC scope cl C X.env) fp) vx tv) (hs : ∀ x, foldedSetIterable iter X.env x = pure x := by intro _; rfl) :
    PE X (.DictComp kx vx [⟨tg, iter, [], 0⟩] scope pos) (tDcN X.prog X.w X.K wi g tk tv (own.map (·.2))) := by
  refine ⟨fun pins s σ H Q I h => ?_⟩
  rw [arm_eval_DictComp]
  have hfree : ∀ y ∈ scope.names, y.2 = .free → ∃ c, X.env.cells.lookup y.1 = some c := fun y hy e => (ok.free y hy e).elim (fun k => I.ok.has _ (.inl k)) fun k => I.ok.has _ (.inr k)
  refine wpAny_comprehension_free rfl hs (closure_ok hfree) ok.kind (fun y hy e => by rw [ok.uniq y hy, e]) (thn (hi.run pins s σ H _ I h) fun xv s1 hx => thn hx fun itv tm2 h2 => ?_)
  obtain ⟨it, fp, tn, J, Hp2, rfl, Iv2, T, stp2, fo2, q⟩ := h2
  refine wpAny_newObj_type (newEnv_comp ?_)
  generalize eD : tm2.heap.objs.size = D
  have hDn : Hp2 D = none := Iv2.hok.fresh (Nat.le_of_eq eD)
  obtain ⟨W, ⟨m0, w0⟩, turns⟩ := q D hDn
  generalize e3 : ({ tm2 with heap := tm2.heap.push { cls := .type "dict", data := .dict #[] } } : Shared) = tm3
  have Iv3 : Inv X pins σ (upd Hp2 D (DN X.prog X.w D [])) tm3 := by
    subst e3 eD
    exact Iv2.laid (t' := tm2.toks) (fun b o e => Heap.get?_push_of_some _ e) (Nat.le_refl _) (dn_ok (dn_empty X.prog X.w tm2.heap Iv2.big))
  have h3 : tm3.heap = tm2.heap.push { cls := .type "dict", data := .dict #[] } := by rw [← e3]
  have sz : ∀ b ∈ fp, b < tm2.heap.objs.size := fun b hb => by
    obtain ⟨o, e, _⟩ := T.obj _ _ stp2 b hb
    exact Heap.lt_size e
  have fo3 : ∀ b ∈ fp, FpOk X pins (upd Hp2 D (DN X.prog X.w D [])) b ∧ b < tm3.heap.objs.size := fun b hb => by
    refine ⟨⟨?_, (fo2 b hb).2⟩, by rw [h3, Heap.size_push]; exact Nat.lt_succ_of_lt (sz b hb)⟩
    rw [upd_ne (by rw [← eD]; exact Nat.ne_of_lt (sz b hb))]
    exact (fo2 b hb).1
  have stp3 : tn 0 tm3.heap := T.keep _ _ _ stp2 fun b _ o e => by rw [h3]; exact Heap.get?_push_of_some _ e
  have Iv4 := block_start Iv3 ok hN fo3
  have pg := hg tm3 (upd Hp2 D (DN X.prog X.w D [])) tm3.heap.objs.size (cellsFrom (tm3.heap.objs.size + 1) scope.names (cloFrom X.env.cells scope.names [])) fp
  have pk := hk tm3 (upd Hp2 D (DN X.prog X.w D [])) tm3.heap.objs.size (cellsFrom (tm3.heap.objs.size + 1) scope.names (cloFrom X.env.cells scope.names [])) fp
  have pe := he tm3 (upd Hp2 D (DN X.prog X.w D [])) tm3.heap.objs.size (cellsFrom (tm3.heap.objs.size + 1) scope.names (cloFrom X.env.cells scope.names [])) fp
  have nfp : ∀ b ∈ fp, (upd Hp2 D (DN X.prog X.w D [])) b = none := fun b hb => (fo3 b hb).1.1
  generalize ec : compEnvC scope (cellsFrom (tm3.heap.objs.size + 1) scope.names (cloFrom X.env.cells scope.names [])) tm3.heap.objs.size X.env = ce at Iv4 pg pk pe
  have cL : ce.locals = tm3.heap.objs.size := by subst ec; rfl
  generalize hH3 : upd Hp2 D (DN X.prog X.w D []) = Hp3 at Iv3 Iv4 pg pk pe w0 nfp fo3
  generalize e4 : ({ tm3 with heap := pushCells (tm3.heap.push { cls := .type "dict", data := .dict #[] }) scope.names } : Shared) = tm4 at Iv4
  have stp4 : tn 0 tm4.heap := T.keep _ _ _ stp3 fun b _ o e => by rw [← e4]; exact pushCells_keeps _ _ _ _ (Heap.get?_push_of_some _ e)
  have stays : ∀ {σ' : L2.St} {H' : Hp} {s' : Shared}, Inv (X.blk tm3 Hp3 scope ce fp) [] σ' H' s' → (∀ b ∈ fp, H' b = none) → ∀ b ∈ fp, FpOk (X.blk tm3 Hp3 scope ce fp) [] H' b := fun {σ' H' s'} I' hn b hb =>
    ⟨hn b hb, (I'.ok.exf b hb).1, I'.ok.exfs b hb, .inl hb, fun x c e => (I'.ok.exf b hb).2 x c e, fun p hp => by simp at hp⟩
  have loop : codeAny (model X.prog X.w) X.A (.compLoop (.DictComp kx vx [⟨tg, iter, [], 0⟩] scope pos) 0 (.ref it) (.ref D) ce)
      (compPost (model X.prog X.w) X.A X.xe none (EP X pins σ Q) (.ref D) tm3.heap.objs.size) tm4 := by
    refine compLoop_anyD (fun n s' => ∃ i H', Inv (X.blk tm3 Hp3 scope ce fp) [] (wipe σ (own.map (·.2))) H' s' ∧ tn i s'.heap ∧ (∀ b ∈ fp, H' b = none) ∧ W i n H') ?_ m0 ⟨0, Hp3, Iv4, stp4, nfp, w0⟩
    rintro n tm5 ⟨i, Hp5, Iv5, stp5, nn5, w5⟩
    rcases turns i n Hp5 w5 with ⟨stop, qq⟩ | ⟨go, Nx, nxt, step⟩
    · refine thnF (T.done (X.blk tm3 Hp3 scope ce fp) rfl rfl rfl hc i [] tm5 _ Hp5 (fun _ _ => False) Iv5 (stays Iv5 nn5) stp5 stop) fun r tm6 ⟨hr, Iv6⟩ => ?_
      subst hr
      have Iv7 : Inv X pins σ Hp5 tm6 := Iv3.call' (ch := fp) Iv6.os Iv6.base Iv6.hok Iv6.bare fun b hb => ⟨(fo3 b hb).1.2.2.2.1, (fo3 b hb).1.2.1, (fo3 b hb).1.2.2.2.2.1, (fo3 b hb).1.2.2.2.2.2⟩
      have nC : Hp5 tm3.heap.objs.size = none := by
        have z : Hp5 ce.locals = none := Iv6.free
        rwa [cL] at z
      obtain ⟨m, hn, _⟩ := Iv6.loc
      have hn : tm6.heap.Ns ce.locals m := hn
      rw [cL] at hn
      have fo := Iv3.fpOk (Nat.le_refl _) nC
      refine ⟨m, hn, fun h'' sb => ?_⟩
      obtain ⟨f0, f1, fo2, fo3, fo4, fo5⟩ := fo
      exact ⟨.ref D, Hp5, Iv7.turned (t' := tm6.toks) (fun b o hb e => (sb.2 b hb).trans e) f0 f1 fo3 fo4 fo5, rfl, qq⟩
    · refine thnF (T.item (X.blk tm3 Hp3 scope ce fp) rfl rfl rfl hc i [] tm5 _ Hp5 (fun _ _ => False) Iv5 (stays Iv5 nn5) stp5 go) fun r tm6 ⟨u, hr, h6⟩ => ?_
      subst hr
      refine thnF h6 fun _ tm7 ⟨x, Hp7, Iv7, rl7, y7, stp7, nn7⟩ => ?_
      have Iv7' := Iv7.pinned (stays Iv7 nn7) (T.obj _ _ stp7)
      refine thnF (pg.run _ tm7 _ Hp7 x u _ Iv7' rl7 (step x Hp7 y7)) fun _ tm8 ⟨σ8, Hp8, Iv8, hw8, qq8⟩ => ?_
      have ends : ∀ {s' : Shared} {H' : Hp}, Inv (X.blk tm3 Hp3 scope ce fp) ([] ++ pinsAt fp tm7.heap) σ8 H' s' → Nx H' → ∃ m, m < n ∧ ∃ i H', Inv (X.blk tm3 Hp3 scope ce fp) [] (wipe σ (own.map (·.2))) H' s' ∧ tn i s'.heap ∧ (∀ b ∈ fp, H' b = none) ∧ W i m H' := fun {s' H'} I' nx => by
        obtain ⟨m', hm, w'⟩ := nxt H' nx
        have pin' : ∀ b ∈ fp, ∀ o, tm7.heap.get? b = some o → s'.heap.get? b = some o ∧ H' b = none := fun b hb o e =>
          let z := I'.pin (b, o) (List.mem_append_right _ (List.mem_append_right _ (mem_pinsAt hb e)))
          ⟨z.1, z.2.1⟩
        have hl : (wipe σ (own.map (·.2))).length = σ8.length := by rw [← hw8, wipe_length]
        refine ⟨m', hm, i + 1, H', (I'.unpinned (pins := [])).weak hl (fun j v e => (wipe_some (hw8 ▸ e)).1), T.keep _ _ _ stp7 fun b hb o e => (pin' b hb o e).1, fun b hb => ?_, w'⟩
        obtain ⟨o, e, _⟩ := T.obj _ _ stp7 b hb
        exact (pin' b hb o e).2
      refine wpAny_pure ?_
      simp only [if_true]
      refine thnF (pk.run _ tm8 σ8 Hp8 _ Iv8 qq8) fun z tm10 ⟨yk, Hp10, Iv10, rl10, qq10⟩ => ?_
      refine thnF (pe.run _ tm10 σ8 Hp10 _ Iv10 qq10) fun z2 tm11 ⟨yv, Hp11, Iv11, rl11, bk, n', e1, e2, g⟩ => ?_
      subst e1 e2
      cases rl10
      obtain ⟨t, rfl⟩ := rl11
      exact put_dn (X := X.blk tm3 Hp3 scope ce fp) hu Iv11 g fun Hp12 tm12 Iv12 nx => ends Iv12 nx
  subst ec e4
  exact codeAny_compStart_dict loop (T.self X.A 0 _ _ _ stp4 loop)
end Jc
namespace Jc
open PySem PySem.Spec L2
open PyProof.Rows hiding St
/-! ### len of an instance by its own def -/
section
variable {P : Program} {w : World} {A : Around} {E : Value → Shared → Prop} {s : Shared} {K : PySem.W.Frag} {x C f : Addr} {ox : Obj} {od : Option Obj}
theorem len_raw {Q : Value → Shared → Prop} (KX : K.In s.heap) (J : PySem.W.InstAt s.heap x ox C od) (hs : PySem.W.findIn K (.ref C) "__len__" = some (some (.ref f))) (hf : PySem.W.isFn K (.ref f) = true)
    (h : wpAny (model P w) A.in1 (call (.ref f) [.ref x]) (fun v t => ∃ (n : Nat) (u : Tok), v = .int n u ∧ n ≤ 1000000 ∧ ∀ u', Q (.int n u') { t with toks := t.toks + 1 }) E s) : wpAny (model P w) A (call (.builtin "len") [.ref x]) Q E s := by
  refine Calls.call_function_entry kind_len plain_len entry_len (args_len1 _) (?_ : wpAny _ _ (Builtin.«len» _) _ _ _)
  unfold Builtin.«len»
  refine wpAny_bind (m := oneArg "len" _) (wpAny_pure ?_)
  refine wpAny_bind (m := callSpecial? (.ref x) (Str.ofString "__len__")) (PySem.W.special_fn KX J hs (beq_iff_eq.mp hf) (wpAny_mono h (fun v t z => ?_) fun _ _ z => z))
  obtain ⟨n, u, rfl, hn, q⟩ := z
  refine wpAny_bind (wpAny_holding (wpAny_pure ?_))
  refine wpAny_bind (wpAny_letGo ?_)
  show wpAny _ _ (if (n : Int) < 0 then _ else _) _ _ _
  rw [if_neg (Int.not_lt.mpr (Int.natCast_nonneg n))]
  show wpAny _ _ (if (n : Int) ≥ 2 ^ 63 then _ else _) _ _ _
  rw [if_neg (by omega)]
  exact wpAny_bind (wpAny_mkInt (wpAny_pure ⟨_, rfl, q _⟩))
end
def rLenOwn (C : Addr) (sp : Sp) : List V → Hp → VK → Prop := fun xs H Q => ∃ a dx fs, xs = [.ref a] ∧ H a = some (.ins C dx fs) ∧ sp [.ref a] H (fun v H2 => ∃ n : Nat, v = .int n ∧ n ≤ 1000000 ∧ Q v H2) E0
theorem call_lenO {X : Cx} {C f : Addr} {k : Nat} {sp : Sp} (hs : PySem.W.findIn X.K (.ref C) "__len__" = some (some (.ref f))) (hf : PySem.W.isFn X.K (.ref f) = true) (F : FnR X.prog X.w X.K X.mg X.base CX0 k f sp) (hr : Room (k + 1) X.A) : CallR X (.builtin "len") (rLenOwn C sp) := by
  intro pins s σ H xs us Q I r h
  obtain ⟨a, dx, fs, rfl, ea, q⟩ := h
  rw [Vals.ref1 r]
  obtain ⟨mA, O, _, _, _, _⟩ := ins_get I.hok ea
  obtain ⟨od, J, _⟩ := O.look
  refine len_raw I.kIn J hs hf (wpAny_call (codeAny_mono (F X.A.in1 X.stack s H [.ref a] [.ref a] _ E0 hr.in1 I.env0.in1 (.cons rfl .nil) q) fun rs s2 z => ?_))
  match rs, z with
  | .ok .next, z => exact z.elim
  | .ok .brk, z => exact z.elim
  | .ok .cont, z => exact z.elim
  | .error _, z => exact z.elim
  | .ok (.ret u), z =>
    obtain ⟨v2, H2, I2, rv, ⟨n, e2, hn, q2⟩⟩ := I.after z
    subst e2
    obtain ⟨t, rfl⟩ := rv
    exact ⟨n, t, rfl, hn, fun u' => ⟨.int n, H2, I2.tok _, ⟨_, rfl⟩, q2⟩⟩
/-! ### o.m(a = e, ..): all parameters by their names, told from the last to the first -/
structure OwnMK (P : Program) (w : World) (K : PySem.W.Frag) (mg : Str → Option Value) (base : Heap) (C : Addr) (m : Str) (k : Nat) (ks ps : List Str) (sp : Sp) : Prop where
  ex : ∃ (f : Addr) (fd : FuncData), Meth K C m f ∧ FnOk P w K mg base CX0 k f fd ps sp ∧ ∀ (s : Shared) (u : Value) (us : List Value), us.length = ks.length → BindsTo s fd ⟨[u], ks.zip us⟩ (ps.zip (u :: us.reverse))
def tMethK (C : Addr) (m : Str) (n : Nat) (sp : Sp) (ta : TE) (tk : TA) : TE := fun σ H Q => ta σ H fun x H1 => ∃ a dx fs, x = .ref a ∧ H1 a = some (.ins C dx fs) ∧ fs.lookup m = none ∧ tk σ H1 fun zs H2 => zs.length = n ∧ sp (x :: zs.reverse) H2 Q E0
theorem vals_app {xs ys : List V} : ∀ {us ws : List Value}, Vals xs us → Vals ys ws → Vals (xs ++ ys) (us ++ ws) := by
  induction xs with
  | nil => intro us ws r1 r2; cases r1; exact r2
  | cons x xs ih =>
    intro us ws r1 r2
    cases r1 with
    | cons a b => exact .cons a (ih b r2)
theorem vals_rev : ∀ {xs : List V} {us : List Value}, Vals xs us → Vals xs.reverse us.reverse
  | [], _, r => by cases r; exact .nil
  | x :: xs, _, r => by
    cases r with
    | cons a b =>
      rw [List.reverse_cons, List.reverse_cons]
      exact vals_app (vals_rev b) (.cons a .nil)
section
variable {X : Cx} {k j : Nat} {C : Addr} {m : Str} {ks ps : List Str} {sp : Sp} {pos apos : Pos} {o : Expr} {kws : List Keyword} {ta : TE} {tk : TA}
theorem pe_omK {pl : Sem Bool} (he : PE X o ta) (c : Cls X.K C) (h : OwnMK X.prog X.w X.K X.mg X.base C m k ks ps sp) (hr : Room j X.A) (hj : k ≤ j) (hkw : PK X kws tk)
    (hall : (backToKw pos (keywordEach kws X.env)).all (·.1.isSome) = true := by rfl) (hks : (backToKw pos (keywordEach kws X.env)).filterMap (·.1) = ks := by rfl)
    (hpl : ((backTo pos (starEach [] X.env)).any (·.1) || (backToKw pos (keywordEach kws X.env)).any (·.1.isNone)) = false := by rfl)
    (ht : eval (.Call (.Attribute o m apos) [] kws pos) X.env = (eval o X.env >>= fun ov => standAt apos.atName >>= fun _ => holding [ov] (getMethod ov m pl) >>= fun r => callWith pos r.1 r.2 (backTo pos (starEach [] X.env)) (backToKw pos (keywordEach kws X.env))) := by rfl) :
    PE X (.Call (.Attribute o m apos) [] kws pos) (tMethK C m ks.length sp ta tk) := by
  obtain ⟨f, fd, hm, F, hb⟩ := h.ex
  refine ⟨fun pins s σ H Q I h => ?_⟩
  refine PySem.W.methodCall_KW (pl := pl) (thn (he.run pins s σ H _ I h) fun u s1 z => ?_) ht
  obtain ⟨x, H1, I1, rx, a, dx, fs, ex, ea, l, q⟩ := z
  subst ex
  cases rx
  refine getmeth_ok I1 ea c hm l (PySem.W.callWith_KW0 (first := [.ref a]) (h₀ := X.base) I1.ok.mod.kin hm.kp hall (thn (hkw.run pos pins s1 σ H1 _ I1 q) fun ws s2 z => ?_) hpl)
  obtain ⟨zs, H2, I2, r, l2, q2⟩ := z
  refine ⟨I2.kIn, ?_⟩
  rw [hks]
  refine wpAny_call (codeAny_mono (F.run X.A X.stack s2 H2 ⟨[.ref a], ks.zip ws⟩ (.ref a :: ws.reverse) (.ref a :: zs.reverse) Q E0 (hr.mono hj) I2.env0 (hb s2 (.ref a) ws (r.length.symm.trans l2)) (.cons rfl (vals_rev r)) q2) fun rs s3 z => ?_)
  match rs, z with
  | .ok (.ret u), z => exact I2.after z
  | .ok .next, z => exact z.elim
  | .ok .brk, z => exact z.elim
  | .ok .cont, z => exact z.elim
  | .error _, z => exact z.elim
end
/-! ### C(a = e) -/
structure OwnIK (P : Program) (w : World) (K : PySem.W.Frag) (mg : Str → Option Value) (base : Heap) (C : Addr) (k : Nat) (a : Str) (sp : Sp) : Prop where
  ex : ∃ (f : Addr) (fd : FuncData), Mk K C f ∧ FnOk P w K mg base CX0 k f fd ["self", a] sp ∧ ∀ (s : Shared) (u v : Value), BindsTo s fd ⟨[u], [(a, v)]⟩ [("self", u), (a, v)]
end Jc
namespace Jc
open PySem PySem.Spec L2
open PyProof.Rows hiding St
def topS (i : Nat) : Stmt := PySem.Challenge.pw_cutshows_k31_symbols_numbered.main.body.getD i (.Pass ⟨0, 0, 0, 0⟩)
section
variable {P : Program} {w : World} {K : PySem.W.Frag} {mg : Str → Option Value} {base : Heap} {f : Addr} {fd : FuncData}
abbrev s_draw : Stmt := topS 13
abbrev N_draw : List Str := ["_law_pot_here", "_law_size", "_law_digit"]
theorem sc_draw : FnScope N_draw ["_law_pot_here", "_law_size"] (defScope s_draw) := ⟨rfl, rfl, rfl, by decide +kernel, rfl, by decide +kernel, by decide +kernel⟩
theorem ok_draw (F : Fun K "_law_draw" "_law_draw" s_draw f fd) (B : Blt mg) : FnG P w K mg base 1 f fd ["_law_pot_here", "_law_size"] spDraw := by
  refine fnG_of F sc_draw (fun vs H Q E h => ?_) (fun us hl => ?_) (fun cdv A outer s H vs Q hr hq h => ?_)
  · obtain ⟨p, n, rfl, _⟩ := h
    rfl
  · match us, hl with
    | [_, _], _ => rfl
  · obtain ⟨p, n, rfl, hp, hn, hn2, q⟩ := h
    refine ⟨_, pss_pot (pss_cons (ps_if (pt_cmpR op_gt (pe_ix ix_list (pv 0) pe_int (fun _ _ => rfl)) pe_int (nomark _)) (pss_cons (ps_asg (pe_callB call_divmodW rfl B.divmod bo_divmod (pa_cons (pe_ix ix_list (pv 0) pe_int (fun _ _ => rfl)) (pa_cons (pv 1) pa_nil))) (pg_tup rfl (pgs_cons (pg_sub (pv 0) pe_int set_list) (pgs_cons (pg_name (i := 2) sc_draw.nd rfl (.inl rfl)) pgs_nil))))
      (pss_one (ps_ret (pe_pot (pv 2))))) pss_nil)
      (pss_cons (ps_asg (pe_op op_mod (pe_callTy call_int1 rfl B.int bo_int (pa_cons (pe_op op_add (pe_op op_mul (pe_ix ix_list (pv 0) pe_int (fun _ _ => rfl)) pe_int) pe_int) pa_nil)) pe_int) (pg_sub (pv 0) pe_int set_list))
      (pss_one (ps_ret (pe_pot (pe_op op_mod (pe_callTy call_int1 rfl B.int bo_int (pa_cons (pe_op op_fdiv (pe_op op_mod (pe_callTy call_int1 rfl B.int bo_int (pa_cons (pe_op op_mul (pe_ix ix_list (pv 0) pe_int (fun _ _ => rfl)) (pe_ix ix_list (pv 0) pe_int (fun _ _ => rfl))) pa_nil)) pe_int) pe_int) pa_nil)) (pv 1))))))), ?_⟩
    refine ⟨p, hp, fun a b ha hb hb2 => ?_⟩
    have S0 : SqL K (upd H p (.lst [.int a, .int b])) p [.int a, .int b] := .inl (.inl upd_same)
    have keep : ∀ b' u, b' ≠ p → H b' = some u → (upd H p (.lst [.int a, .int b])) b' = some u := fun b' u hb' e => by rw [upd_ne hb']; exact e
    refine ⟨.ref p, rfl, p, _, 0, .int a, rfl, rfl, S0, atI_nat (j := 0) rfl, _, _, rfl, rfl, _, rfl, ite2 (fun hc => ?_) (fun hc => ?_)⟩
    · have h0 : 0 < a := of_decide_eq_true hc
      refine ⟨.ref p, rfl, p, _, 0, .int a, rfl, rfl, S0, atI_nat (j := 0) rfl, .int n, rfl, a, n, rfl, ⟨hn, PyProof.noPylong_small (by omega)⟩, fun t nt => ?_⟩
      have npt : p ≠ t := fun e => by
        rw [e, upd_same] at nt
        cases nt
      -- pot[0], digit = ..
      refine ⟨t, _, rfl, .inl (.inl upd_same), rfl, _, _, rfl, ?_⟩
      refine ⟨.ref p, rfl, p, [.int a, .int b], 0, 0, rfl, rfl, by rw [upd_ne npt]; exact upd_same, rfl, _, _, rfl, rfl, ?_⟩
      refine ⟨.int (a % n), rfl, p, a / n, b, upd_same, Int.ediv_nonneg ha (by omega), hb, hb2, ?_⟩
      refine q (a % n) _ (Int.emod_nonneg a (by omega)) (Int.emod_lt_of_pos a hn) (same_back hp fun b' u hb' e => ?_)
      rw [upd_ne hb', upd_ne, upd_ne hb']
      · exact e
      · rintro rfl
        rw [upd_ne (Ne.symm npt)] at nt
        rw [e] at nt
        cases nt
    · refine ⟨.ref p, rfl, p, _, 1, .int b, rfl, rfl, S0, atI_nat (j := 1) rfl, b, 48271, rfl, rfl, .inr ⟨by decide, by decide⟩, _, _, rfl, rfl, .inl ⟨_, rfl, _, _, rfl, rfl, (by show (0 : Int) < 2147483587; decide), .ref p, rfl, p, [.int a, .int b], 1, 1, rfl, rfl, upd_same, rfl, ?_⟩⟩
      have c0 : 0 ≤ (b * 48271 + 12167) % 2147483587 := Int.emod_nonneg _ (by decide)
      have c1 : (b * 48271 + 12167) % 2147483587 < 2147483587 := Int.emod_lt_of_pos _ (by decide)
      have eS : ([V.int a, V.int b].set 1 (.int ((b * 48271 + 12167) % 2147483587))) = [.int a, .int ((b * 48271 + 12167) % 2147483587)] := rfl
      rw [eS]
      generalize (b * 48271 + 12167) % 2147483587 = c at c0 c1
      have S1 : SqL K (upd (upd H p (.lst [.int a, .int b])) p (.lst [.int a, .int c])) p [.int a, .int c] := .inl (.inl upd_same)
      refine ⟨.ref p, rfl, p, _, 1, .int c, rfl, rfl, S1, atI_nat (j := 1) rfl, .ref p, rfl, p, _, 1, .int c, rfl, rfl, S1, atI_nat (j := 1) rfl, c, c, rfl, rfl, .inl ⟨by omega, by omega⟩, .inl ⟨_, rfl, _, _, rfl, rfl, (by show (0 : Int) < 2147483549; decide), _, _, rfl, rfl, ⟨by decide, by decide⟩, .inl ⟨_, rfl, .int n, rfl, _, n, rfl, rfl, hn, ?_⟩⟩⟩
      refine ⟨p, a, c, upd_same, ha, c0, c1, ?_⟩
      refine q _ _ (Int.emod_nonneg _ (by omega)) (Int.emod_lt_of_pos _ hn) (same_back hp fun b' u hb' e => ?_)
      rw [upd_ne hb', upd_ne hb']
      exact e
abbrev s_pot : Stmt := topS 12
abbrev N_pot : List Str := ["_law_script", "_law_k", "_law_cell"]
theorem sc_pot : FnScope N_pot ["_law_script", "_law_k"] (defScope s_pot) := ⟨rfl, rfl, rfl, by decide +kernel, rfl, by decide +kernel, by decide +kernel⟩
theorem ok_pot (F : Fun K "_law_pot" "_law_pot" s_pot f fd) (B : Blt mg) : FnG P w K mg base 1 f fd ["_law_script", "_law_k"] (spPot K) := by
  refine fnG_of F sc_pot (fun vs H Q E h => ?_) (fun us hl => ?_) (fun cdv A outer s H vs Q hr hq h => ?_)
  · obtain ⟨a, ns, k, rfl, _⟩ := h
    rfl
  · match us, hl with
    | [_, _], _ => rfl
  · obtain ⟨a, ns, k, rfl, hS, hk, q⟩ := h
    refine ⟨_, (pss_cons (ps_set (i := 2) sc_pot.nd rfl (.inl rfl) (pe_op op_add (pe_op op_mul pe_int (pv 1)) pe_int))
      (Evl.pss_cut (ps_if (pt_cmpR op_lt (pv 1) (pe_callB call_len_seq rfl B.len bo_len (pa_cons (pv 0) pa_nil)) (nomark _)) (pss_one (ps_set (i := 2) sc_pot.nd rfl (.inl rfl) (pe_callB call_abs rfl B.abs bo_abs (pa_cons (pe_ix ix_list (pv 0) (pv 1) (fun _ _ => rfl)) pa_nil)))) pss_nil)
      (pss_one (ps_ret (pe_lst (pa_cons (pe_callB (call_max2 rfl) rfl B.max bo_max (pa_cons pe_int (pa_cons (pe_op op_sub (pv 2) (pe_op op_pow pe_int pe_int)) pa_nil))) (pa_cons (pe_op op_add (pe_op op_mod (pe_op op_mul (pe_callTy call_int1 rfl B.int bo_int (pa_cons (pe_op op_add (pe_op op_mod (pe_callTy call_int1 rfl B.int bo_int (pa_cons (pv 2) pa_nil)) pe_int) pe_int) pa_nil)) (pe_op op_pow (pe_op op_add (pe_op op_mul pe_int (pv 1)) pe_int) pe_int)) pe_int) pe_int) pa_nil))))))), ?_⟩
    refine ⟨.int k, rfl, _, _, rfl, rfl, .inl ⟨by decide, by decide⟩, _, _, rfl, rfl, ?_⟩
    refine ⟨fun σ H' => H' = H ∧ ∃ z : Int, σ = [some (.ref a), some (.int k), some (.int z)], ?_, ?_⟩
    · refine ⟨.int k, rfl, .ref a, rfl, a, _, rfl, .inl hS, _, _, rfl, rfl, _, rfl, ite2 (fun hc => ?_) (fun hc => ?_)⟩
      · have hc2 : (k : Int) < ((ns.map V.int).length : Int) := of_decide_eq_true hc
        have hlt : k < ns.length := by rw [List.length_map] at hc2; omega
        have g : (ns.map V.int)[k]? = some (.int ns[k]) := by rw [List.getElem?_map, List.getElem?_eq_getElem hlt]; rfl
        exact ⟨.ref a, rfl, .int k, rfl, a, _, _, _, rfl, rfl, hS, atI_nat g, _, rfl, rfl, _, rfl⟩
      · exact ⟨rfl, _, rfl⟩
    · rintro σ H' ⟨rfl, z, rfl⟩
      refine ⟨.int z, rfl, _, _, rfl, rfl, ⟨by decide, by decide, by decide⟩, _, _, rfl, rfl, _, _, rfl, ?_⟩
      refine ⟨.int z, rfl, .inl ⟨_, rfl, _, _, rfl, rfl, (by show (0 : Int) < 2147483549; decide), _, _, rfl, rfl, .inl ⟨_, rfl, ?_⟩⟩⟩
      refine ⟨.int k, rfl, _, _, rfl, rfl, .inl ⟨by decide, by decide⟩, _, _, rfl, rfl, _, _, rfl, rfl, ⟨by decide, by decide, by omega⟩, _, _, rfl, rfl, ?_, ?_⟩
      · have e0 := Int.emod_nonneg z (show (2147483549 : Int) ≠ 0 by decide)
        have e1 := Int.emod_lt_of_pos z (show (0 : Int) < 2147483549 by decide)
        exact .inl ⟨by omega, by omega⟩
      · refine ⟨_, _, rfl, rfl, (by show (0 : Int) < 2147483477; decide), _, _, rfl, rfl, two_le, fun p np => ?_⟩
        refine q p _ _ np ?_ ?_ ?_
        · split <;> omega
        · have := Int.emod_nonneg ((z % 2147483549 + 17) * (2 * (k : Int) + 3) ^ (3 : Int).toNat) (show (2147483477 : Int) ≠ 0 by decide)
          omega
        · have := Int.emod_lt_of_pos ((z % 2147483549 + 17) * (2 * (k : Int) + 3) ^ (3 : Int).toNat) (show (0 : Int) < 2147483477 by decide)
          omega
abbrev s_pick : Stmt := topS 14
abbrev N_pick : List Str := ["_law_pot_here", "_law_some"]
theorem sc_pick : FnScope N_pick ["_law_pot_here", "_law_some"] (defScope s_pick) := ⟨rfl, rfl, rfl, by decide +kernel, rfl, by decide +kernel, by decide +kernel⟩
theorem ok_pick (F : Fun K "_law_pick" "_law_pick" s_pick f fd) (B : Blt mg) (c_draw : Own P w K mg base "_law_draw" 1 ["_law_pot_here", "_law_size"] spDraw) : FnG P w K mg base 2 f fd ["_law_pot_here", "_law_some"] (spPick K) := by
  refine fnG_of F sc_pick (fun vs H Q E h => ?_) (fun us hl => ?_) (fun cdv A outer s H vs Q hr hq h => ?_)
  · obtain ⟨p, l, xs, rfl, _⟩ := h
    rfl
  · match us, hl with
    | [_, _], _ => rfl
  · obtain ⟨p, l, xs, rfl, hp, hl, h0, h1, q⟩ := h
    refine ⟨_, (pss_one (ps_ret (pe_ix ix_list (pv 1) (pe_own c_draw hr hq (by decide) (pa_cons (pv 0) (pa_cons (pe_callB call_len_seq rfl B.len bo_len (pa_cons (pv 1) pa_nil)) pa_nil))) (fun _ _ => rfl)))), ?_⟩
    refine ⟨.ref l, rfl, .ref p, rfl, .ref l, rfl, l, xs, rfl, .inl hl, p, _, rfl, hp, by omega, by omega, fun d H2 d0 d1 s2 => ?_⟩
    have hlt : d.toNat < xs.length := by omega
    have g : xs[d.toNat]? = some xs[d.toNat] := List.getElem?_eq_getElem hlt
    refine ⟨l, xs, d, _, rfl, rfl, s2.seq hl, at_of (j := d.toNat) (by omega) g, ?_⟩
    exact q d.toNat _ H2 g s2
end
def spInt : Sp := fun vs H Q _ => ∃ i : Int, vs = [.int i] ∧ Q (.bl true) H
def spCnt : Sp := fun vs H Q _ => ∃ i : Int, vs = [.int i] ∧ Q (.bl (decide (0 ≤ i))) H
section
variable {P : Program} {w : World} {K : PySem.W.Frag} {mg : Str → Option Value} {base : Heap} {f : Addr} {fd : FuncData}
abbrev s_is_integer : Stmt := topS 2
abbrev N_is_integer : List Str := ["value"]
theorem sc_is_integer : FnScope N_is_integer ["value"] (defScope s_is_integer) := ⟨rfl, rfl, rfl, by decide +kernel, rfl, by decide +kernel, by decide +kernel⟩
theorem ok_is_integer (F : Fun K "is_integer" "is_integer" s_is_integer f fd) (B : Blt mg) : FnOk P w K mg base CX0 1 f fd ["value"] spInt := by
  refine F.ok sc_is_integer (fun vs H Q E h => ?_) (fun cdv A outer s H vs Q E hr h => ?_)
  · obtain ⟨i, rfl, _⟩ := h
    rfl
  · obtain ⟨i, rfl, q⟩ := h
    refine ⟨_, (pss_one (ps_ret (pe_and (pe_callB call_isi rfl B.isinstance bo_isinstance (pa_cons (pv 0) (pa_cons (pe_bltn (v := .ty "int") rfl B.int bo_int rfl) pa_nil))) (pe_one (pe_not (pe_callB call_isi rfl B.isinstance bo_isinstance (pa_cons (pv 0) (pa_cons (pe_bltn (v := .ty "bool") rfl B.bool bo_bool rfl) pa_nil)))))))), ?_⟩
    exact ⟨.int i, rfl, .int i, _, _, _, _, rfl, .ty "int", .base (.int i), kit_ty (r := true) (by decide +kernel), _, rfl, .int i, rfl, .int i, _, _, _, _, rfl, .ty "bool", .base (.int i), kit_ty (r := false) (by decide +kernel), _, rfl, q⟩
abbrev s_is_count : Stmt := topS 3
abbrev N_is_count : List Str := ["value"]
theorem sc_is_count : FnScope N_is_count ["value"] (defScope s_is_count) := ⟨rfl, rfl, rfl, by decide +kernel, rfl, by decide +kernel, by decide +kernel⟩
theorem ok_is_count (F : Fun K "is_count" "is_count" s_is_count f fd) (c_is_integer : OwnK P w K mg base "is_integer" 1 ["value"] spInt) : FnOk P w K mg base CX0 2 f fd ["value"] spCnt := by
  refine F.ok sc_is_count (fun vs H Q E h => ?_) (fun cdv A outer s H vs Q E hr h => ?_)
  · obtain ⟨i, rfl, _⟩ := h
    rfl
  · obtain ⟨i, rfl, q⟩ := h
    refine ⟨_, (pss_one (ps_ret (pe_and (pe_ownk c_is_integer hr (by decide) (pa_cons (pv 0) pa_nil)) (pe_one (pe_cmpR op_ge (pv 0) pe_int (nomark _)))))), ?_⟩
    exact ⟨.int i, rfl, i, rfl, _, rfl, .int i, rfl, _, _, rfl, rfl, q⟩
end
end Jc
namespace Jc
open PySem PySem.Spec L2
open PyProof.Rows hiding St
abbrev Qs := List (Addr × Qn)
/-- the questions with their numbers -/
def ents : Nat → Qs → List Ent3
  | _, [] => []
  | n, p :: r => (p.2, p.1, (n : Int)) :: ents (n + 1) r
theorem ents_len : ∀ (n : Nat) (ks : Qs), (ents n ks).length = ks.length
  | _, [] => rfl
  | n, p :: r => by simp [ents, ents_len (n + 1) r]
theorem ents_fst : ∀ (n : Nat) (ks : Qs), (ents n ks).map (fun x : Ent3 => x.1) = ks.map (fun p => p.2)
  | _, [] => rfl
  | n, p :: r => by simp [ents, ents_fst (n + 1) r]
theorem ents_snoc : ∀ (n : Nat) (ks : Qs) (p : Addr × Qn), ents n (ks ++ [p]) = ents n ks ++ [(p.2, p.1, ((n + ks.length : Nat) : Int))]
  | n, [], p => by simp [ents]
  | n, q :: r, p => by
    rw [List.cons_append]
    simp only [ents, ents_snoc (n + 1) r p, List.cons_append, List.length_cons]
    congr 5
    omega
theorem ents_at : ∀ (n : Nat) (ks : Qs) (i : Nat) (p : Addr × Qn), ks[i]? = some p → (ents n ks)[i]? = some (p.2, p.1, ((n + i : Nat) : Int))
  | _, [], _, _, h => by simp at h
  | n, q :: r, 0, p, h => by
    simp only [List.getElem?_cons_zero, Option.some.injEq] at h
    subst h
    rfl
  | n, q :: r, i + 1, p, h => by
    simp only [List.getElem?_cons_succ] at h
    rw [ents, List.getElem?_cons_succ, ents_at (n + 1) r i p h, show n + 1 + i = n + (i + 1) by omega]
theorem ents_mem (n : Nat) (ks : Qs) (e : Ent3) (h : e ∈ ents n ks) : ∃ p ∈ ks, e.1 = p.2 ∧ e.2.1 = p.1 := by
  induction ks generalizing n with
  | nil => cases h
  | cons q r ih =>
    rcases List.mem_cons.mp h with z | z
    · subst z
      exact ⟨q, List.mem_cons_self, rfl, rfl⟩
    · obtain ⟨p, hp, a⟩ := ih (n + 1) z
      exact ⟨p, List.mem_cons_of_mem _ hp, a⟩
/-- a list of the first tuples (0,), (1,), .. and of questions -/
structure TellAt (K : PySem.W.Frag) (H : Hp) (a : Addr) (as : List Addr) (ks : Qs) : Prop where
  list : H a = some (.lst (as.map V.ref ++ ks.map fun p => V.ref p.1))
  ones : ∀ (i : Nat) b, as[i]? = some b → SqT K H b [.int (i : Nat)]
  keys : ∀ p ∈ ks, KeyAt K H p.1 p.2
structure SymAt (P : Program) (w : World) (K : PySem.W.Frag) (C : Addr) (H : Hp) (p dx t d : Addr) (as : List Addr) (ks : Qs) : Prop where
  obj : H p = some (.ins C dx [("_many", .int (as.length : Nat)), ("_told", .ref t), ("_found", .ref d)])
  told : TellAt K H t as ks
  dict : H d = some (DN P w d (ents as.length ks))
  nodup : (ks.map fun p => p.2).Nodup
  lo : 1 ≤ as.length
  hi : as.length ≤ 3
  few : ks.length ≤ 500
theorem refs_ex {R : Nat → Addr → Prop} : ∀ ys : List V, (∀ (i : Nat) y, ys[i]? = some y → ∃ b, y = .ref b ∧ R i b) → ∃ as : List Addr, ys = as.map V.ref ∧ as.length = ys.length ∧ ∀ (i : Nat) b, as[i]? = some b → R i b := by
  intro ys
  induction ys generalizing R with
  | nil => exact fun _ => ⟨[], rfl, rfl, fun i b e => by simp at e⟩
  | cons y r ih =>
    intro h
    obtain ⟨b, e, hb⟩ := h 0 y rfl
    obtain ⟨as, e1, e2, e3⟩ := ih (R := fun i => R (i + 1)) fun i y e => h (i + 1) y (by rw [List.getElem?_cons_succ]; exact e)
    refine ⟨b :: as, by rw [e, e1]; rfl, by rw [List.length_cons, List.length_cons, e2], fun i c hc => ?_⟩
    cases i with
    | zero =>
      simp only [List.getElem?_cons_zero, Option.some.injEq] at hc
      exact hc ▸ hb
    | succ i => exact e3 i c (by rw [List.getElem?_cons_succ] at hc; exact hc)
/-- what never changes stays -/
def Stays : HO → Prop
  | .lst _ => False
  | .ext _ => False
  | _ => True
def Keep (H H2 : Hp) : Prop := ∀ b o, Stays o → H b = some o → H2 b = some o
theorem keep_seqT {K : PySem.W.Frag} {H H2 : Hp} (k : Keep H H2) {a : Addr} {xs : List V} (h : SqT K H a xs) : SqT K H2 a xs := by
  rcases h with (h | ⟨o, h⟩) | h
  · exact .inl (.inl (k _ _ trivial h))
  · exact .inl (.inr ⟨o, k _ _ trivial h⟩)
  · exact .inr h
theorem Keep.key {K : PySem.W.Frag} {H H2 : Hp} (k : Keep H H2) {b : Addr} {q : Qn} (h : KeyAt K H b q) : KeyAt K H2 b q := h.same fun _ _ z => keep_seqT k z
theorem seqT' {K : PySem.W.Frag} {H H2 : Hp} {a : Addr} {xs : List V} (s : Same H H2) (h : SqT K H a xs) : SqT K H2 a xs := keep_seqT (fun b o _ e => s b o e) h
theorem keep_same {H H2 : Hp} (s : Same H H2) : Keep H H2 := fun b o _ e => s b o e
theorem Keep.trans {H H2 H3 : Hp} (a : Keep H H2) (b : Keep H2 H3) : Keep H H3 := fun x o s e => b x o s (a x o s e)
/-- all but the things at these places stay -/
def But (L : List Addr) (H H2 : Hp) : Prop := ∀ b o, b ∉ L → H b = some o → H2 b = some o
theorem But.keep {L : List Addr} {H H2 : Hp} (f : But L H H2) (h : ∀ b ∈ L, ∀ o, H b = some o → ¬ Stays o) : Keep H H2 := fun b o s e => f b o (fun z => h b z o e s) e
theorem TellAt.to {K : PySem.W.Frag} {H H2 : Hp} {a : Addr} {as : List Addr} {ks : Qs} (k : Keep H H2) (e : H a = H2 a) (h : TellAt K H a as ks) : TellAt K H2 a as ks :=
  ⟨e ▸ h.list, fun i b z => keep_seqT k (h.ones i b z), fun p hp => k.key (h.keys p hp)⟩
theorem TellAt.same {K : PySem.W.Frag} {H H2 : Hp} {a : Addr} {as : List Addr} {ks : Qs} (s : Same H H2) (h : TellAt K H a as ks) : TellAt K H2 a as ks := h.to (keep_same s) (by rw [h.list, s _ _ h.list])
theorem SymAt.to {P : Program} {w : World} {K : PySem.W.Frag} {C : Addr} {H H2 : Hp} {p dx t d : Addr} {as : List Addr} {ks : Qs} (k : Keep H H2) (e : H t = H2 t) (e2 : H d = H2 d) (h : SymAt P w K C H p dx t d as ks) : SymAt P w K C H2 p dx t d as ks :=
  ⟨k _ _ trivial h.obj, h.told.to k e, e2 ▸ h.dict, h.nodup, h.lo, h.hi, h.few⟩
theorem SymAt.same {P : Program} {w : World} {K : PySem.W.Frag} {C : Addr} {H H2 : Hp} {p dx t d : Addr} {as : List Addr} {ks : Qs} (s : Same H H2) (h : SymAt P w K C H p dx t d as ks) : SymAt P w K C H2 p dx t d as ks :=
  h.to (keep_same s) (by rw [h.told.list, s _ _ h.told.list]) (by rw [h.dict, s _ _ h.dict])
theorem SymAt.keyed {P : Program} {w : World} {K : PySem.W.Frag} {C : Addr} {H : Hp} {p dx t d : Addr} {as : List Addr} {ks : Qs} (h : SymAt P w K C H p dx t d as ks) : Keyed K H (ents as.length ks) := fun e he => by
  obtain ⟨q, hq, e1, e2⟩ := ents_mem _ _ e he
  rw [e1, e2]
  exact h.told.keys q hq
/-- the class -/
structure SC (K : PySem.W.Frag) (mg : Str → Option Value) (C : Addr) : Prop where
  cl : Cls K C
  n1 : NoAttr K C "_many"
  n2 : NoAttr K C "_told"
  n3 : NoAttr K C "_found"
  mc : mg "Symbols" = some (.ref C)
structure TxM (mg : Str → Option Value) (t1 : Tok) : Prop where
  MOST_BOXES : mg "MOST_BOXES" = some (.int 3 t1)
section
variable (P : Program) (w : World) (K : PySem.W.Frag) (C : Addr)
def spKnown : Sp := fun vs H Q _ => ∃ (p : Addr) (v : Int) (dx t d : Addr) (as : List Addr) (ks : Qs), vs = [.ref p, .int v] ∧ SymAt P w K C H p dx t d as ks ∧ 0 ≤ v ∧ v < (as.length + ks.length : Nat) ∧ Q (.bl true) H
def spLen : Sp := fun vs H Q _ => ∃ (p dx t d : Addr) (as : List Addr) (ks : Qs), vs = [.ref p] ∧ SymAt P w K C H p dx t d as ks ∧ Q (.int ((as.length + ks.length : Nat) : Int)) H
def spMany : Sp := fun vs H Q _ => ∃ (p dx t d : Addr) (as : List Addr) (ks : Qs), vs = [.ref p] ∧ SymAt P w K C H p dx t d as ks ∧ Q (.int (as.length : Nat)) H
def spSymbol : Sp := fun vs H Q _ => ∃ (p : Addr) (n : Nat) (dx t d : Addr) (as : List Addr) (ks : Qs), vs = [.ref p, .int (n : Nat)] ∧ SymAt P w K C H p dx t d as ks ∧ n < as.length + ks.length ∧
  ∀ b, (as ++ ks.map (fun p => p.1))[n]? = some b → Q (.ref b) H
def spInit31 : Sp := fun vs H Q _ => ∃ (x dx : Addr) (m : Nat), vs = [.ref x, .int (m : Nat)] ∧ H x = some (.ins C dx []) ∧ 1 ≤ m ∧ m ≤ 3 ∧
  ∀ (t d : Addr) (as : List Addr) (H2 : Hp), H t = none → H d = none → t ≠ d → as.length = m → (∀ b o, b ≠ x → H b = some o → H2 b = some o) → SymAt P w K C H2 x dx t d as [] → Q .non H2
end
section
variable {P : Program} {w : World} {K : PySem.W.Frag} {mg : Str → Option Value} {base : Heap} {f C : Addr} {fd : FuncData} {t1 : Tok}
abbrev s_known : Stmt := inClass (topS 10) 6
abbrev N_known : List Str := ["self", "value"]
theorem sc_known : FnScope N_known ["self", "value"] (defScope s_known) := ⟨rfl, rfl, rfl, by decide +kernel, rfl, by decide +kernel, by decide +kernel⟩
theorem ok_known (F : Fun K "_is_known" "Symbols._is_known" s_known f fd) (B : Blt mg) (T : SC K mg C) (c_is_count : OwnK P w K mg base "is_count" 2 ["value"] spCnt) : FnOk P w K mg base CX0 3 f fd ["self", "value"] (spKnown P w K C) := by
  refine F.ok sc_known (fun vs H Q E h => ?_) (fun cdv A outer s H vs Q E hr h => ?_)
  · obtain ⟨p, v, dx, t, d, as, ks, rfl, _⟩ := h
    rfl
  · obtain ⟨p, v, dx, t, d, as, ks, rfl, S, h0, h1, q⟩ := h
    refine ⟨_, (pss_one (ps_ret (pe_and (pe_ownk c_is_count hr (by decide) (pa_cons (pv 1) pa_nil)) (pe_one (pe_cmpR op_lt (pv 1) (pe_callB call_len_seq rfl B.len bo_len (pa_cons (pe_fld (pv 0) rfl) pa_nil)) (nomark _)))))), ?_⟩
    refine ⟨.int v, rfl, v, rfl, ?_⟩
    rw [decide_eq_true h0]
    refine ⟨_, rfl, .int v, rfl, .ref p, rfl, p, C, dx, _, .ref t, rfl, S.obj, T.cl, T.n2, rfl, t, _, rfl, .inl (.inl (.inl S.told.list)), _, _, rfl, rfl, ?_⟩
    have e : v < ((as.map V.ref ++ ks.map fun p => V.ref p.1).length : Int) := by
      rw [List.length_append, List.length_map, List.length_map]
      exact h1
    show Q (.bl (decide (v < ((as.map V.ref ++ ks.map fun p => V.ref p.1).length : Int)))) H
    rw [decide_eq_true e]
    exact q
abbrev s_len : Stmt := inClass (topS 10) 5
abbrev N_len : List Str := ["self"]
theorem sc_len : FnScope N_len ["self"] (defScope s_len) := ⟨rfl, rfl, rfl, by decide +kernel, rfl, by decide +kernel, by decide +kernel⟩
theorem ok_len (F : Fun K "__len__" "Symbols.__len__" s_len f fd) (B : Blt mg) (T : SC K mg C) : FnOk P w K mg base CX0 1 f fd ["self"] (spLen P w K C) := by
  refine F.ok sc_len (fun vs H Q E h => ?_) (fun cdv A outer s H vs Q E hr h => ?_)
  · obtain ⟨p, dx, t, d, as, ks, rfl, _⟩ := h
    rfl
  · obtain ⟨p, dx, t, d, as, ks, rfl, S, q⟩ := h
    refine ⟨_, (pss_one (ps_ret (pe_callB call_len_seq rfl B.len bo_len (pa_cons (pe_fld (pv 0) rfl) pa_nil)))), ?_⟩
    refine ⟨.ref p, rfl, p, C, dx, _, .ref t, rfl, S.obj, T.cl, T.n2, rfl, t, _, rfl, .inl (.inl (.inl S.told.list)), ?_⟩
    rw [List.length_append, List.length_map, List.length_map]
    exact q
abbrev s_many : Stmt := inClass (topS 10) 1
abbrev N_many : List Str := ["self"]
theorem sc_many : FnScope N_many ["self"] (defScope s_many) := ⟨rfl, rfl, rfl, by decide +kernel, rfl, by decide +kernel, by decide +kernel⟩
theorem ok_many (F : Fun K "many" "Symbols.many" s_many f fd) (T : SC K mg C) : FnOk P w K mg base CX0 1 f fd ["self"] (spMany P w K C) := by
  refine F.ok sc_many (fun vs H Q E h => ?_) (fun cdv A outer s H vs Q E hr h => ?_)
  · obtain ⟨p, dx, t, d, as, ks, rfl, _⟩ := h
    rfl
  · obtain ⟨p, dx, t, d, as, ks, rfl, S, q⟩ := h
    refine ⟨_, (pss_one (ps_ret (pe_fld (pv 0) rfl))), ?_⟩
    exact ⟨.ref p, rfl, p, C, dx, _, _, rfl, S.obj, T.cl, T.n1, rfl, q⟩
abbrev s_symbol : Stmt := inClass (topS 10) 3
abbrev N_symbol : List Str := ["self", "number"]
theorem sc_symbol : FnScope N_symbol ["self", "number"] (defScope s_symbol) := ⟨rfl, rfl, rfl, by decide +kernel, rfl, by decide +kernel, by decide +kernel⟩
theorem ok_symbol (F : Fun K "symbol" "Symbols.symbol" s_symbol f fd) (T : SC K mg C) (m_known : OwnM P w K mg base C "_is_known" 3 (spKnown P w K C)) : FnOk P w K mg base CX0 4 f fd ["self", "number"] (spSymbol P w K C) := by
  refine F.ok sc_symbol (fun vs H Q E h => ?_) (fun cdv A outer s H vs Q E hr h => ?_)
  · obtain ⟨p, n, dx, t, d, as, ks, rfl, _⟩ := h
    rfl
  · obtain ⟨p, n, dx, t, d, as, ks, rfl, S, hn, q⟩ := h
    refine ⟨_, (pss_cons (ps_if (pt_not (pt_val (pe_om (pl := _) (pv 0) T.cl m_known hr (by decide) (pa_cons (pv 1) pa_nil)))) (pss_one ps_never) pss_nil) (pss_one (ps_ret (pe_ix ix_list (pe_fld (pv 0) rfl) (pv 1) (fun _ _ => rfl))))), ?_⟩
    refine ⟨.ref p, rfl, p, dx, _, rfl, S.obj, rfl, .int n, rfl, p, n, dx, t, d, as, ks, rfl, S, by omega, by omega, _, rfl, ?_⟩
    have e : (as.map V.ref ++ ks.map fun p => V.ref p.1) = (as ++ ks.map (fun p => p.1)).map V.ref := by rw [List.map_append, List.map_map]; rfl
    have hl : n < (as ++ ks.map (fun p => p.1)).length := by rw [List.length_append, List.length_map]; exact hn
    refine ⟨.ref p, rfl, p, C, dx, _, .ref t, rfl, S.obj, T.cl, T.n2, rfl, .int n, rfl, t, _, n, _, rfl, rfl, .inl (.inl S.told.list), ?_, q _ (List.getElem?_eq_getElem hl)⟩
    rw [e]
    exact atI_nat (by rw [List.getElem?_map, List.getElem?_eq_getElem hl]; rfl)
abbrev s_init : Stmt := inClass (topS 10) 0
abbrev N_init : List Str := ["self", "many", "position"]
theorem sc_init : FnScope N_init ["self", "many"] (defScope s_init) := ⟨rfl, rfl, rfl, by decide +kernel, rfl, by decide +kernel, by decide +kernel⟩
theorem ok_init (F : Fun K "__init__" "Symbols.__init__" s_init f fd) (B : Blt mg) (T : SC K mg C) (G : TxM mg t1) (c_is_integer : OwnK P w K mg base "is_integer" 1 ["value"] spInt) : FnOk P w K mg base CX0 2 f fd ["self", "many"] (spInit31 P w K C) := by
  refine F.ok sc_init (fun vs H Q E h => ?_) (fun cdv A outer s H vs Q E hr h => ?_)
  · obtain ⟨x, dx, m, rfl, _⟩ := h
    rfl
  · obtain ⟨x, dx, m, rfl, hx, m1, m3, q⟩ := h
    refine ⟨_, (pss_cons (ps_if (PW.pt (pw_or (pt_not (pt_val (pe_ownk c_is_integer hr (by decide) (pa_cons (pv 1) pa_nil)))) (pw_or1 (pt_not (pt_chain op_le op_le pe_int (pv 1) (pe_glob (v := .int 3) rfl G.MOST_BOXES ⟨_, rfl⟩)))))) (pss_one ps_never) pss_nil)
      (pss_cons (ps_fld (pv 0) (pv 1) rfl)
      (pss_cons (ps_fld (pv 0) (pe_lc (own := [("position", 2)]) (g := gName 2) rfl sc_init.nd (pi_range1 rfl B.range (pa_cons (pv 1) pa_nil)) (blkOk_by (own := [("position", 2)]) (N := N_init) (sc := defScope s_init) (by decide +kernel)) (fun _ _ _ _ _ => pg_name (i := 2) sc_init.nd rfl (.inl rfl)) (fun _ _ _ _ _ => pts_nil) (fun _ _ _ _ _ => pe_tup (pa_cons (pv 2) pa_nil))) rfl)
      (pss_one (ps_fld (pv 0) pe_dnewN rfl))))), ?_⟩
    refine ⟨.int m, rfl, m, rfl, true, rfl, ?_⟩
    refine ⟨.int m, rfl, 1, m, rfl, rfl, true, ?_⟩
    refine ⟨congrArg V.bl (decide_eq_true (show (1 : Int) ≤ m by omega)), iteT ⟨m, 3, rfl, rfl, true, congrArg V.bl (decide_eq_true (show (m : Int) ≤ 3 by omega)), iteF ?_⟩⟩
    refine ⟨.int m, rfl, .ref x, rfl, x, C, dx, [], rfl, hx, T.cl, T.n1, by decide, ?_⟩
    refine ⟨.int m, rfl, ?_⟩
    refine ⟨m, rfl, by omega, by omega, fun D hD => ?_⟩
    have hDx : D ≠ x := fun e => by
      rw [e, upd_same] at hD
      cases hD
    refine lc_rel walk_range (fun i y H => ∃ b, b ≠ D ∧ y = .ref b ∧ H b = some (.tup [.int (i : Nat)])) (by omega) hD (fun i y H1 H2 g ⟨b, hb, e1, e2⟩ => ⟨b, hb, e1, g _ _ hb e2⟩) (fun _ _ => trivial) ?_ ?_
    · rintro i y H2 H3 k hi s2 ⟨zs, hz⟩ ⟨rfl, rfl⟩ kk
      refine ⟨rfl, .int (0 + (i : Int)), rfl, le_line (by show 1 ≤ 1000000; decide), fun b nb => kk _ _ (same_new nb) ⟨b, fun e => ?_, rfl, by rw [upd_same, Int.zero_add]⟩⟩
      rw [e, hz] at nb
      cases nb
    · intro ys H2 hl hR s2 hy
      refine ⟨.ref x, rfl, x, C, dx, _, rfl, s2 _ _ upd_same, T.cl, T.n2, (show (1 : Nat) < 1000 by decide), fun d nd => ?_⟩
      have hdx : d ≠ x := fun e => by
        rw [e, upd_same] at nd
        cases nd
      refine ⟨.ref x, rfl, x, C, dx, putF (Str.ofString "_told") (V.ref D) (putF (Str.ofString "_many") (V.int ↑m) []), rfl, by rw [upd_ne (Ne.symm hdx), upd_same], T.cl, T.n3, (show (2 : Nat) < 1000 by decide), ?_⟩
      rw [upd_ne hdx] at nd
      obtain ⟨as, e1, e2, e3⟩ := refs_ex (R := fun i b => b ≠ D ∧ H2 b = some (.tup [.int (i : Nat)])) ys fun i y e => by
        obtain ⟨b, a1, a2, a3⟩ := hR i y e
        exact ⟨b, a2, a1, a3⟩
      have hla : as.length = m := by rw [e2, hl]; simp
      have hdD : d ≠ D := fun e => by
        rw [e, hy] at nd
        cases nd
      have k0 : ∀ b o, b ≠ x → H b = some o → H2 b = some o := fun b o hb e => s2 b o (by rw [upd_ne hb]; exact e)
      have k1 : ∀ b o, b ≠ x → b ≠ d → H2 b = some o → (upd (upd (upd H2 x (HO.ins C dx (putF (Str.ofString "_told") (V.ref D) (putF (Str.ofString "_many") (V.int ↑m) [])))) d (DN P w d [])) x (HO.ins C dx (putF (Str.ofString "_found") (V.ref d) (putF (Str.ofString "_told") (V.ref D) (putF (Str.ofString "_many") (V.int ↑m) []))))) b = some o := fun b o h1 h2 e => by
        rw [upd_ne h1, upd_ne h2, upd_ne h1]
        exact e
      rw [upd_ne hDx] at hD
      have nd0 : H d = none := by
        cases e : H d with
        | none => rfl
        | some o => rw [k0 _ _ hdx e] at nd; cases nd
      refine q D d as _ hD nd0 (Ne.symm hdD) hla (fun b o hb e => k1 b o hb (fun z => by rw [z, nd0] at e; cases e) (k0 b o hb e)) ⟨?_, ⟨?_, fun i b e => ?_, fun p hp => nomatch hp⟩, ?_, List.nodup_nil, by omega, by omega, by show 0 ≤ 500; decide⟩
      · rw [upd_same, hla]
        rfl
      · refine (k1 D _ hDx (Ne.symm hdD) hy).trans ?_
        rw [e1]
        simp
      · obtain ⟨h1, h2⟩ := e3 i b e
        refine .inl (.inl (k1 b _ (fun z => ?_) (fun z => ?_) h2))
        · rw [z, s2 _ _ upd_same] at h2
          cases h2
        · rw [z, nd] at h2
          cases h2
      · rw [upd_ne hdx, upd_same]
        rfl
end
end Jc
namespace Jc
open PySem PySem.Spec L2
open PyProof.Rows hiding St
section
variable (P : Program) (w : World) (K : PySem.W.Frag) (C : Addr)
/-- number: a question that is there has its number; another one is put behind all -/
def spNumber : Sp := fun vs H Q _ => ∃ (p u r dx t d : Addr) (as : List Addr) (ks : Qs) (q : Qn), vs = [.ref p, .str q.title, .ref u, .ref r] ∧ SymAt P w K C H p dx t d as ks ∧ SqT K H u (q.place.map kV) ∧
  (H r = some (.lst (q.reads.map V.int)) ∨ H r = some (.tup (q.reads.map V.int))) ∧ q.reads.length ≤ 100 ∧ (∀ v ∈ q.reads, 0 ≤ v ∧ v < (as.length + ks.length : Nat)) ∧
  (∀ (i : Nat) b, ks[i]? = some (b, q) → ∀ H2, Same H H2 → Q (.int ((as.length + i : Nat) : Int)) H2) ∧
  (q ∉ ks.map (fun p => p.2) → ks.length < 500 ∧ ∀ b H2, But [t, d] H H2 → SymAt P w K C H2 p dx t d as (ks ++ [(b, q)]) → Q (.int ((as.length + ks.length : Nat) : Int)) H2)
/-- copy -/
def spCopy : Sp := fun vs H Q _ => ∃ (p dx t d : Addr) (as : List Addr) (ks : Qs), vs = [.ref p] ∧ SymAt P w K C H p dx t d as ks ∧
  ∀ (p' dx' t' d' : Addr) (H2 : Hp), Same H H2 → H p' = none → H t' = none → H d' = none → SymAt P w K C H2 p' dx' t' d' as ks → Q (.ref p') H2
end
/-- one more question: what lies there then -/
theorem new_sym {P : Program} {w : World} {K : PySem.W.Frag} {C : Addr} {H : Hp} {p dx t d b : Addr} {as : List Addr} {ks : Qs} {q : Qn} (S : SymAt P w K C H p dx t d as ks) (kb : KeyAt K H b q) (hn : q ∉ ks.map (fun p => p.2)) (hl : ks.length < 500) :
    (upd H d (DN P w d (ents as.length ks ++ [(q, b, ((as.length + ks.length : Nat) : Int))]))) p = some (.ins C dx [("_many", .int (as.length : Nat)), ("_told", .ref t), ("_found", .ref d)]) ∧
    (upd H d (DN P w d (ents as.length ks ++ [(q, b, ((as.length + ks.length : Nat) : Int))]))) t = some (.lst (as.map V.ref ++ ks.map fun p => V.ref p.1)) ∧
    SymAt P w K C (upd (upd H d (DN P w d (ents as.length ks ++ [(q, b, ((as.length + ks.length : Nat) : Int))]))) t (.lst ((as.map V.ref ++ ks.map fun p => V.ref p.1) ++ [V.ref b]))) p dx t d as (ks ++ [(b, q)]) ∧
    But [t, d] H (upd (upd H d (DN P w d (ents as.length ks ++ [(q, b, ((as.length + ks.length : Nat) : Int))]))) t (.lst ((as.map V.ref ++ ks.map fun p => V.ref p.1) ++ [V.ref b]))) := by
  have hpd : p ≠ d := fun e => by have := S.obj; rw [e, S.dict] at this; cases this
  have htd : t ≠ d := fun e => by have := S.told.list; rw [e, S.dict] at this; cases this
  have hpt : p ≠ t := fun e => by have := S.obj; rw [e, S.told.list] at this; cases this
  have bt : But [t, d] H (upd (upd H d (DN P w d (ents as.length ks ++ [(q, b, ((as.length + ks.length : Nat) : Int))]))) t (.lst ((as.map V.ref ++ ks.map fun p => V.ref p.1) ++ [V.ref b]))) := fun x o hx e => by
    simp only [List.mem_cons, List.not_mem_nil, or_false, not_or] at hx
    rw [upd_ne hx.1, upd_ne hx.2]
    exact e
  have kp := bt.keep fun x hx o e => by
    simp only [List.mem_cons, List.not_mem_nil, or_false] at hx
    rcases hx with rfl | rfl
    · rw [S.told.list] at e; cases e; exact fun z => z
    · rw [S.dict] at e; cases e; exact fun z => z
  refine ⟨by rw [upd_ne hpd]; exact S.obj, by rw [upd_ne htd]; exact S.told.list, ⟨by rw [upd_ne hpt, upd_ne hpd]; exact S.obj, ⟨?_, fun i c e => keep_seqT kp (S.told.ones i c e), fun x hx => ?_⟩, ?_, ?_, S.lo, S.hi, by rw [List.length_append, List.length_singleton]; omega⟩, bt⟩
  · rw [upd_same, List.map_append, List.append_assoc]
    rfl
  · rcases List.mem_append.mp hx with z | z
    · exact kp.key (S.told.keys x z)
    · obtain rfl := List.mem_singleton.mp z
      exact kp.key kb
  · rw [upd_ne (Ne.symm htd), upd_same, ents_snoc]
  · rw [List.map_append, List.nodup_append]
    refine ⟨S.nodup, by simp, fun a ha c hc => ?_⟩
    rintro rfl
    obtain rfl := List.mem_singleton.mp hc
    exact hn ha
section
variable {P : Program} {w : World} {K : PySem.W.Frag} {mg : Str → Option Value} {base : Heap} {f C : Addr} {fd : FuncData} {t1 : Tok}
abbrev s_number : Stmt := inClass (topS 10) 2
abbrev N_number : List Str := ["self", "label", "where", "reads", "value", "question"]
theorem sc_number : FnScope N_number ["self", "label", "where", "reads"] (defScope s_number) := ⟨rfl, rfl, rfl, by decide +kernel, rfl, by decide +kernel, by decide +kernel⟩
theorem ok_number (F : Fun K "number" "Symbols.number" s_number f fd) (B : Blt mg) (T : SC K mg C) (m_known : OwnM P w K mg base C "_is_known" 3 (spKnown P w K C)) : FnOk P w K mg base CX0 4 f fd ["self", "label", "where", "reads"] (spNumber P w K C) := by
  refine F.ok sc_number (fun vs H Q E h => ?_) (fun cdv A outer s H vs Q E hr h => ?_)
  · obtain ⟨p, u, r, dx, t, d, as, ks, q, rfl, _⟩ := h
    rfl
  · obtain ⟨p, u, r, dx, t, d, as, ks, q, rfl, S, hu, hq, hl, hv, k1, k2⟩ := h
    have hU : (A.deeper (envOfC (Str.ofString "Symbols.number") (defScope s_number) s.heap.objs.size f cdv)).units + 10 < cLine := by have := hr.un; omega
    rcases hq with hq | hq
    · refine ⟨_, (pss_cons (ps_for PassesOwn.never rfl (pi_list (pv 3)) (pg_name (i := 4) sc_number.nd rfl (.inl rfl)) (pss_one (ps_if (pt_not (pt_val (pe_om (pl := _) (pv 0) T.cl m_known hr (by decide) (pa_cons (pv 4) pa_nil)))) (pss_one ps_never) pss_nil)))
        (pss_cons (ps_set (i := 5) sc_number.nd rfl (.inl rfl) (pe_tup (pa_cons (pv 1) (pa_cons (pv 2) (pa_cons (pe_callTy call_tuple_of rfl B.tuple bo_tuple (pa_cons (pv 3) pa_nil)) pa_nil)))))
        (pss_cons (ps_if (pt_cmpR (op_notInN hU) (pv 5) (pe_fld (pv 0) rfl) rfl)
          (pss_cons (ps_dputN hU (pe_fld (pv 0) rfl) (pv 5) (pe_callB call_len_seq rfl B.len bo_len (pa_cons (pe_fld (pv 0) rfl) pa_nil)) rfl)
          (pss_one (ps_expr (pe_bm PySem.F.plainAttrs_list PySem.F.slot_list_append PySem.F.type_list_append mt_append (pe_fld (pv 0) rfl) (pa_cons (pv 5) pa_nil))))) pss_nil)
        (pss_one (ps_ret (pe_dgetN hU (pe_fld (pv 0) rfl) (pv 5) (fun _ _ => rfl))))))), ?_⟩
      refine ⟨_, rfl, r, rfl, ⟨_, .inl (.inl hq)⟩, for_it walk_list (fun i σ H2 => H2 = H ∧ ∃ y, σ = [some (.ref p), some (.str q.title), some (.ref u), some (.ref r), y, none]) ⟨rfl, _, rfl⟩ (fun _ _ _ _ z => by rw [z.1]; exact .inl (.inl hq)) ?_ ?_⟩
      · rintro i x σ H1 H2 hi ⟨rfl, y, rfl⟩ ⟨rfl, hx⟩
        obtain ⟨v, hv1, rfl⟩ := get_ints hx
        obtain ⟨v0, v1⟩ := hv v (List.mem_of_getElem? hv1)
        exact ⟨.ref p, rfl, p, dx, _, rfl, S.obj, rfl, .int v, rfl, p, v, dx, t, d, as, ks, rfl, S, v0, v1, _, rfl, rfl, _, rfl⟩
      · rintro σ H2 ⟨rfl, y, rfl⟩
        refine ⟨.str q.title, rfl, .ref u, rfl, .ref r, rfl, r, _, rfl, .inl ⟨.inl (.inl hq), fun rt nrt => ⟨le_line (by show 3 ≤ 1000000; decide), fun b nb => ?_⟩⟩⟩
        have s1 : Same H2 (upd H2 rt (.tup (q.reads.map V.int))) := same_new nrt
        have hrt : SqT K (upd H2 rt (.tup (q.reads.map V.int))) rt (q.reads.map V.int) := .inl (.inl upd_same)
        generalize upd H2 rt (.tup (q.reads.map V.int)) = H3 at s1 hrt nb
        have s2 : Same H2 (upd H3 b (.tup [.str q.title, .ref u, .ref rt])) := s1.trans (same_new nb)
        have S2 := S.same s2
        have kb : KeyAt K (upd H3 b (.tup [.str q.title, .ref u, .ref rt])) b q := ⟨u, rt, .inl (.inl upd_same), seqT' s2 hu, seqT' (same_new nb) hrt⟩
        refine ⟨.ref b, rfl, .ref p, rfl, p, C, dx, _, .ref d, rfl, S2.obj, T.cl, T.n3, rfl, d, b, q, _, rfl, rfl, .inl S2.dict, S2.keyed, kb, _, rfl, ite2 (fun hc => ?_) (fun hc => ?_)⟩
        · generalize upd H3 b (.tup [.str q.title, .ref u, .ref rt]) = H4 at s2 S2 kb
          have hn : q ∉ ks.map (fun p => p.2) := by
            rw [if_pos (rfl : true = true), ents_fst] at hc
            simpa using hc
          obtain ⟨h5, k3⟩ := k2 hn
          have hcn : ¬ q ∈ (ents as.length ks).map fun x : Ent3 => x.1 := by rw [ents_fst]; exact hn
          refine ⟨.ref p, rfl, p, C, dx, _, .ref t, rfl, S2.obj, T.cl, T.n2, rfl, t, _, rfl, .inl (.inl (.inl S2.told.list)), .ref p, rfl, p, C, dx, _, .ref d, rfl, S2.obj, T.cl, T.n3, rfl, .ref b, rfl, d, b, _, rfl, rfl, rfl, q, _, S2.dict, S2.keyed, kb, hcn, by rw [ents_len]; omega, ?_⟩
          have N := new_sym S2 kb hn h5
          rw [show (as.map V.ref ++ ks.map fun p => V.ref p.1).length = as.length + ks.length by rw [List.length_append, List.length_map, List.length_map]]
          refine ⟨.ref p, rfl, p, C, dx, _, .ref t, rfl, N.1, T.cl, T.n2, rfl, .inl ⟨rfl, _, .inl (.inl N.2.1)⟩, .ref b, rfl, t, _, _, rfl, rfl, N.2.1, ?_, ?_⟩
          · have := S.hi
            rw [List.length_append, List.length_map, List.length_map]
            exact Nat.lt_of_lt_of_le (show _ < 1000000 by omega) (le_line (Nat.le_refl _))
          · have N2 := N.2.2
            refine ⟨.ref p, rfl, p, C, dx, _, .ref d, rfl, N2.1.obj, T.cl, T.n3, rfl, .ref b, rfl, d, b, q, _, b, _, rfl, rfl, .inl N2.1.dict, N2.1.keyed, N2.1.told.keys (b, q) (by simp), ?_, k3 b _ (fun x o hx e => N2.2 x o hx (s2 x o e)) N2.1⟩
            rw [ents_snoc]
            simp
        · generalize upd H3 b (.tup [.str q.title, .ref u, .ref rt]) = H4 at s2 S2 kb
          have hn : q ∈ ks.map (fun p => p.2) := by
            rw [if_pos (rfl : true = true), ents_fst] at hc
            simpa using hc
          obtain ⟨⟨b0, q0⟩, hm, e0⟩ := List.mem_map.mp hn
          obtain rfl : q0 = q := e0
          obtain ⟨i, hi⟩ := List.mem_iff_getElem?.mp hm
          exact ⟨.ref p, rfl, p, C, dx, _, .ref d, rfl, S2.obj, T.cl, T.n3, rfl, .ref b, rfl, d, b, q0, _, b0, _, rfl, rfl, .inl S2.dict, S2.keyed, kb, List.mem_of_getElem? (ents_at as.length ks i _ hi), k1 i b0 hi H4 s2⟩
    · refine ⟨_, (pss_cons (ps_for PassesOwn.never rfl (pi_tup (pv 3)) (pg_name (i := 4) sc_number.nd rfl (.inl rfl)) (pss_one (ps_if (pt_not (pt_val (pe_om (pl := _) (pv 0) T.cl m_known hr (by decide) (pa_cons (pv 4) pa_nil)))) (pss_one ps_never) pss_nil)))
        (pss_cons (ps_set (i := 5) sc_number.nd rfl (.inl rfl) (pe_tup (pa_cons (pv 1) (pa_cons (pv 2) (pa_cons (pe_callTy call_tuple_of rfl B.tuple bo_tuple (pa_cons (pv 3) pa_nil)) pa_nil)))))
        (pss_cons (ps_if (pt_cmpR (op_notInN hU) (pv 5) (pe_fld (pv 0) rfl) rfl)
          (pss_cons (ps_dputN hU (pe_fld (pv 0) rfl) (pv 5) (pe_callB call_len_seq rfl B.len bo_len (pa_cons (pe_fld (pv 0) rfl) pa_nil)) rfl)
          (pss_one (ps_expr (pe_bm PySem.F.plainAttrs_list PySem.F.slot_list_append PySem.F.type_list_append mt_append (pe_fld (pv 0) rfl) (pa_cons (pv 5) pa_nil))))) pss_nil)
        (pss_one (ps_ret (pe_dgetN hU (pe_fld (pv 0) rfl) (pv 5) (fun _ _ => rfl))))))), ?_⟩
      refine ⟨_, rfl, r, rfl, ⟨_, .inl (.inl hq)⟩, for_it walk_tup (fun i σ H2 => H2 = H ∧ ∃ y, σ = [some (.ref p), some (.str q.title), some (.ref u), some (.ref r), y, none]) ⟨rfl, _, rfl⟩ (fun _ _ _ _ z => by rw [z.1]; exact .inl (.inl hq)) ?_ ?_⟩
      · rintro i x σ H1 H2 hi ⟨rfl, y, rfl⟩ ⟨rfl, hx⟩
        obtain ⟨v, hv1, rfl⟩ := get_ints hx
        obtain ⟨v0, v1⟩ := hv v (List.mem_of_getElem? hv1)
        exact ⟨.ref p, rfl, p, dx, _, rfl, S.obj, rfl, .int v, rfl, p, v, dx, t, d, as, ks, rfl, S, v0, v1, _, rfl, rfl, _, rfl⟩
      · rintro σ H2 ⟨rfl, y, rfl⟩
        refine ⟨.str q.title, rfl, .ref u, rfl, .ref r, rfl, r, _, rfl, .inr ⟨.inl (.inl hq), le_line (by show 3 ≤ 1000000; decide), fun b nb => ?_⟩⟩
        have s1 : Same H2 H2 := Same.refl H2
        have hrt : SqT K H2 r (q.reads.map V.int) := .inl (.inl hq)
        have s2 : Same H2 (upd H2 b (.tup [.str q.title, .ref u, .ref r])) := s1.trans (same_new nb)
        have S2 := S.same s2
        have kb : KeyAt K (upd H2 b (.tup [.str q.title, .ref u, .ref r])) b q := ⟨u, r, .inl (.inl upd_same), seqT' s2 hu, seqT' (same_new nb) hrt⟩
        refine ⟨.ref b, rfl, .ref p, rfl, p, C, dx, _, .ref d, rfl, S2.obj, T.cl, T.n3, rfl, d, b, q, _, rfl, rfl, .inl S2.dict, S2.keyed, kb, _, rfl, ite2 (fun hc => ?_) (fun hc => ?_)⟩
        · generalize upd H2 b (.tup [.str q.title, .ref u, .ref r]) = H4 at s2 S2 kb
          have hn : q ∉ ks.map (fun p => p.2) := by
            rw [if_pos (rfl : true = true), ents_fst] at hc
            simpa using hc
          obtain ⟨h5, k3⟩ := k2 hn
          have hcn : ¬ q ∈ (ents as.length ks).map fun x : Ent3 => x.1 := by rw [ents_fst]; exact hn
          refine ⟨.ref p, rfl, p, C, dx, _, .ref t, rfl, S2.obj, T.cl, T.n2, rfl, t, _, rfl, .inl (.inl (.inl S2.told.list)), .ref p, rfl, p, C, dx, _, .ref d, rfl, S2.obj, T.cl, T.n3, rfl, .ref b, rfl, d, b, _, rfl, rfl, rfl, q, _, S2.dict, S2.keyed, kb, hcn, by rw [ents_len]; omega, ?_⟩
          have N := new_sym S2 kb hn h5
          rw [show (as.map V.ref ++ ks.map fun p => V.ref p.1).length = as.length + ks.length by rw [List.length_append, List.length_map, List.length_map]]
          refine ⟨.ref p, rfl, p, C, dx, _, .ref t, rfl, N.1, T.cl, T.n2, rfl, .inl ⟨rfl, _, .inl (.inl N.2.1)⟩, .ref b, rfl, t, _, _, rfl, rfl, N.2.1, ?_, ?_⟩
          · have := S.hi
            rw [List.length_append, List.length_map, List.length_map]
            exact Nat.lt_of_lt_of_le (show _ < 1000000 by omega) (le_line (Nat.le_refl _))
          · have N2 := N.2.2
            refine ⟨.ref p, rfl, p, C, dx, _, .ref d, rfl, N2.1.obj, T.cl, T.n3, rfl, .ref b, rfl, d, b, q, _, b, _, rfl, rfl, .inl N2.1.dict, N2.1.keyed, N2.1.told.keys (b, q) (by simp), ?_, k3 b _ (fun x o hx e => N2.2 x o hx (s2 x o e)) N2.1⟩
            rw [ents_snoc]
            simp
        · generalize upd H2 b (.tup [.str q.title, .ref u, .ref r]) = H4 at s2 S2 kb
          have hn : q ∈ ks.map (fun p => p.2) := by
            rw [if_pos (rfl : true = true), ents_fst] at hc
            simpa using hc
          obtain ⟨⟨b0, q0⟩, hm, e0⟩ := List.mem_map.mp hn
          obtain rfl : q0 = q := e0
          obtain ⟨i, hi⟩ := List.mem_iff_getElem?.mp hm
          exact ⟨.ref p, rfl, p, C, dx, _, .ref d, rfl, S2.obj, T.cl, T.n3, rfl, .ref b, rfl, d, b, q0, _, b0, _, rfl, rfl, .inl S2.dict, S2.keyed, kb, List.mem_of_getElem? (ents_at as.length ks i _ hi), k1 i b0 hi H4 s2⟩
end
end Jc
namespace Jc
open PySem PySem.Spec L2
open PyProof.Rows hiding St
/-- d[b] within a block -/
theorem pe_dgetNK {X : Cx} {P : Program} {w : World} {K : PySem.W.Frag} {o i : Expr} {td ty : TE} {pos : Pos} (h1 : X.prog = P) (h2 : X.w = w) (h3 : X.K = K) (hu : X.A.units + 10 < cLine) (ho : PE X o td) (hi : PE X i ty) (hs : NoSl i) : PE X (.Subscript o i pos) (tOp (rIxN P w K) td ty) := by
  subst h1 h2 h3
  exact pe_dgetN hu ho hi hs
section
variable {P : Program} {w : World} {K : PySem.W.Frag} {mg : Str → Option Value} {base : Heap} {f C : Addr} {fd : FuncData} {t1 : Tok}
/-- a new object of the class -/
theorem made31 {H : Hp} {R : Addr → Hp → Prop} {m : Nat} (m1 : 1 ≤ m) (m3 : m ≤ 3) (q : ∀ p dx t d as H2, Same H H2 → H p = none → H t = none → H d = none → H2 p = some (.ins C dx [("_many", .int (as.length : Nat)), ("_told", .ref t), ("_found", .ref d)]) → as.length = m → SymAt P w K C H2 p dx t d as [] → R p H2) :
    ∀ x dx, H x = none → H dx = none → dx ≠ x → spInit31 P w K C [.ref x, .int (m : Nat)] (upd (upd H dx (.own x)) x (.ins C dx [])) (fun v H2 => v = .non ∧ R x H2) E0 := by
  intro x dx nx nd hne
  have s0 : Same H (upd (upd H dx (.own x)) x (.ins C dx [])) := same_mut (same_new nd) nx
  have old : ∀ b, (upd (upd H dx (.own x)) x (.ins C dx [])) b = none → H b = none := fun b e => by
    cases z : H b with
    | none => rfl
    | some o => rw [s0 _ _ z] at e; cases e
  exact ⟨x, dx, m, rfl, upd_same, m1, m3, fun t d as H2 nt nd' htd hl k S => ⟨rfl, q x dx t d as H2 (fun b o e => k b o (ne_of_none e nx) (s0 _ _ e)) nx (old t nt) (old d nd') S.obj hl S⟩⟩
/-- a dict comprehension, told by what stands at each turn -/
theorem dcN_it {J : It} {n : Nat} {G : Hp → Prop} {Y : Nat → Hp → V → Hp → Prop} (wk : Walk J n G Y) {g : TG} {tk tv : TE} {vs : List Nat} {σ : L2.St} {H1 : Hp} {D : Addr} {Qd : Hp → Prop} (Pv : Nat → Hp → Prop) (h0 : Pv 0 (upd H1 D (DN P w D []))) (hG : ∀ i H, i ≤ n → Pv i H → G H)
    (hs : ∀ i x H H', i < n → Pv i H → Y i H x H' → g x (wipe σ vs) H' fun σ2 H2 => wipe σ2 vs = wipe σ vs ∧ tk σ2 H2 fun y H4 => tv σ2 H4 fun z H5 => ∃ b k, y = .ref b ∧ z = .int k ∧ rSetN P w K D b k H5 (Pv (i + 1))) (hd : ∀ H, Pv n H → Qd H) :
    ∃ W : Nat → Nat → Hp → Prop, (∃ m, W 0 m (upd H1 D (DN P w D []))) ∧ ∀ i m H, W i m H → (J.stop i H ∧ Qd H) ∨ (J.go i H ∧ ∃ Nx : Hp → Prop, (∀ H', Nx H' → ∃ m', m' < m ∧ W (i + 1) m' H') ∧
      ∀ x H', J.yld i H x H' → g x (wipe σ vs) H' fun σ2 H2 => wipe σ2 vs = wipe σ vs ∧ tk σ2 H2 fun y H4 => tv σ2 H4 fun z H5 => ∃ b k, y = .ref b ∧ z = .int k ∧ rSetN P w K D b k H5 Nx) := by
  refine ⟨fun i m H => m = n - i ∧ i ≤ n ∧ Pv i H, ⟨n, (Nat.sub_zero n).symm, Nat.zero_le n, h0⟩, ?_⟩
  rintro i m H ⟨rfl, hi, pv⟩
  by_cases hlt : i < n
  · exact .inr ⟨wk.goes i H hlt (hG i H hi pv), Pv (i + 1), fun H' z => ⟨n - (i + 1), by omega, rfl, hlt, z⟩, fun x H' y => hs i x H H' hlt pv (wk.yields i H x H' hlt (hG i H hi pv) y)⟩
  · obtain rfl : i = n := by omega
    exact .inl ⟨wk.stops H (hG i H hi pv), hd H pv⟩
theorem ents_key {ks : Qs} {i n : Nat} {e : Ent3} (nd : (ks.map fun p => p.2).Nodup) (h : (ents n ks)[i]? = some e) : e.1 ∉ ((ents n ks).take i).map fun x : Ent3 => x.1 := by
  intro hm
  have nd2 : ((ents n ks).map fun x : Ent3 => x.1).Nodup := by rw [ents_fst]; exact nd
  obtain ⟨x, hx, ex⟩ := List.mem_map.mp hm
  obtain ⟨j, hj⟩ := List.mem_iff_getElem?.mp hx
  rw [List.getElem?_take] at hj
  split at hj
  · rename_i hji
    have h1 : ((ents n ks).map fun x : Ent3 => x.1)[j]? = some e.1 := by rw [List.getElem?_map, hj, Option.map_some, ex]
    have h2 : ((ents n ks).map fun x : Ent3 => x.1)[i]? = some e.1 := by rw [List.getElem?_map, h]; rfl
    obtain ⟨lj, e1⟩ := List.getElem?_eq_some_iff.mp h1
    obtain ⟨li, e2⟩ := List.getElem?_eq_some_iff.mp h2
    exact List.pairwise_iff_getElem.mp nd2 j i lj li hji (e1.trans e2.symm)
  · cases hj
abbrev s_copy : Stmt := inClass (topS 10) 4
abbrev N_copy : List Str := ["self", "twin", "question"]
theorem sc_copy : FnScope N_copy ["self"] (defScope s_copy) := ⟨rfl, rfl, rfl, by decide +kernel, rfl, by decide +kernel, by decide +kernel⟩
theorem ok_copy (F : Fun K "copy" "Symbols.copy" s_copy f fd) (B : Blt mg) (T : SC K mg C) (M : OwnI P w K mg base C 2 (spInit31 P w K C)) : FnOk P w K mg base CX0 4 f fd ["self"] (spCopy P w K C) := by
  refine F.ok sc_copy (fun vs H Q E h => ?_) (fun cdv A outer s H vs Q E hr h => ?_)
  · obtain ⟨p, dx, t, d, as, ks, rfl, _⟩ := h
    rfl
  · obtain ⟨p, dx, t, d, as, ks, rfl, S, q⟩ := h
    have hU : (A.deeper (envOfC (Str.ofString "Symbols.copy") (defScope s_copy) s.heap.objs.size f cdv)).units + 10 < cLine := by have := hr.un; omega
    refine ⟨_, (pss_cons (ps_set (i := 1) sc_copy.nd rfl (.inl rfl) (pe_oi M hr (by decide) T.mc (pa_cons (pe_fld (pv 0) rfl) pa_nil)))
      (pss_cons (ps_fld (pv 1) (pe_callTy call_list_of rfl B.list bo_list (pa_cons (pe_fld (pv 0) rfl) pa_nil)) rfl)
      (pss_cons (ps_fld (pv 1) (pe_lock (pe_dcN (own := [("question", 2)]) (g := gName 2) hU rfl sc_copy.nd (pi_keysN (pe_fld (pv 0) rfl)) (blkOk_by (own := [("question", 2)]) (N := N_copy) (sc := defScope s_copy) (by decide +kernel)) (fun _ _ _ _ _ => pg_name (i := 2) sc_copy.nd rfl (.inl rfl)) (fun _ _ _ _ _ => pv 2)
        (fun _ _ _ _ _ => pe_dgetNK (P := P) (w := w) (K := K) rfl rfl rfl hU (pe_fldK (K := K) rfl (pv 0) rfl) (pv 2) (fun _ _ => rfl)))) rfl)
      (pss_one (ps_ret (pv 1)))))), ?_⟩
    refine ⟨.ref p, rfl, p, C, dx, _, _, rfl, S.obj, T.cl, T.n1, rfl, ?_⟩
    refine made31 S.lo S.hi fun p' dx' t' d' as' H2 s2 np nt nd ob hl S2 => ?_
    have S3 := S.same s2
    have hlt : ∀ b o, H2 b = some o → b ≠ t' → b ≠ d' → b ≠ p' → True := fun _ _ _ _ _ _ => trivial
    refine ⟨.ref p, rfl, p, C, dx, _, .ref t, rfl, S3.obj, T.cl, T.n2, rfl, t, _, rfl, .inl (.inl (.inl S3.told.list)), fun l nl => ?_⟩
    have ne_l : ∀ {b o}, H2 b = some o → b ≠ l := fun e z => by rw [z, nl] at e; cases e
    have hpp : ∀ {b o}, H b = some o → b ≠ p' := fun e z => by rw [z, np] at e; cases e
    refine ⟨.ref p', rfl, p', C, dx', [(Str.ofString "_many", V.int ↑as'.length), (Str.ofString "_told", V.ref t'), (Str.ofString "_found", V.ref d')], rfl, by rw [upd_ne (ne_l ob)]; exact ob, T.cl, T.n2, (show (3 : Nat) < 1000 by decide), ?_⟩
    generalize hF : putF (Str.ofString "_told") (V.ref l) [(Str.ofString "_many", V.int ↑as'.length), (Str.ofString "_told", V.ref t'), (Str.ofString "_found", V.ref d')] = F1
    have old3 : ∀ b o, H b = some o → (upd (upd H2 l (.lst (as.map V.ref ++ ks.map fun p => V.ref p.1))) p' (.ins C dx' F1)) b = some o := fun b o e => by
      rw [upd_ne (hpp e), upd_ne (ne_l (s2 _ _ e))]
      exact s2 _ _ e
    have hl3 : (upd (upd H2 l (.lst (as.map V.ref ++ ks.map fun p => V.ref p.1))) p' (.ins C dx' F1)) l = some (.lst (as.map V.ref ++ ks.map fun p => V.ref p.1)) := by rw [upd_ne (Ne.symm (ne_l ob)), upd_same]
    have hp3 : (upd (upd H2 l (.lst (as.map V.ref ++ ks.map fun p => V.ref p.1))) p' (.ins C dx' F1)) p' = some (.ins C dx' F1) := upd_same
    generalize upd (upd H2 l (.lst (as.map V.ref ++ ks.map fun p => V.ref p.1))) p' (.ins C dx' F1) = H3 at old3 hl3 hp3
    have S4 := S.same old3
    refine ⟨d, _, S4.dict, trivial, fun od => ?_⟩
    have ne_d : ∀ {b o}, H3 b = some o → (∀ φ, o ≠ .ext φ) → b ≠ d := fun e h z => by rw [z, S4.dict] at e; cases e; exact h _ rfl
    have hpd : p ≠ d := ne_d S4.obj (fun φ z => nomatch z)
    refine ⟨.ref p, rfl, p, C, dx, _, .ref d, rfl, by rw [upd_ne hpd]; exact S4.obj, T.cl, T.n3, rfl, d, od, _, rfl, upd_same, fun D nD => ?_⟩
    have kD : ∀ {b o}, (upd H3 d (.frz od (DN P w d (ents as.length ks)))) b = some o → b ≠ D := fun e z => by rw [z, nD] at e; cases e
    have hdD : d ≠ D := kD upd_same
    refine dcN_it (K := K) walk_keysN (fun i H6 => Same (upd H3 d (.frz od (DN P w d (ents as.length ks)))) H6 ∧ H6 D = some (DN P w D ((ents as.length ks).take i))) ⟨same_new nD, upd_same⟩ (fun i H6 _ z => z.1 _ _ upd_same) ?_ ?_
    · rintro i x H6 H7 hi ⟨s6, hD6⟩ ⟨rfl, e, he, rfl⟩
      have kp : Keep H3 H7 := fun b o st z => s6 _ _ (by rw [upd_ne (ne_d z (fun φ h => by subst h; exact st))]; exact z)
      have ky : Keyed K H7 (ents as.length ks) := fun y hy => kp.key (S4.keyed y hy)
      have hm := List.mem_of_getElem? he
      refine ⟨rfl, .ref e.2.1, rfl, .ref p, rfl, p, C, dx, _, .ref d, rfl, kp _ _ trivial S4.obj, T.cl, T.n3, rfl, .ref e.2.1, rfl, d, e.2.1, e.1, _, e.2.1, e.2.2, rfl, rfl, .inr ⟨od, s6 _ _ upd_same⟩, ky, ky e hm, hm, e.2.1, e.2.2, rfl, rfl, e.1, _, hD6, fun y hy => ky y (List.mem_of_mem_take hy), ky e hm, ents_key S.nodup he, ?_, same_mut s6 nD, ?_⟩
      · have h1 := List.length_take_le i (ents as.length ks)
        have h2 := S.few
        rw [ents_len] at hi
        omega
      · rw [upd_same, List.take_add_one, he]
        rfl
    · rintro H6 ⟨s6, hD6⟩
      rw [List.take_length] at hD6
      have hpd' : p' ≠ d := ne_d hp3 (fun φ z => nomatch z)
      have hld : l ≠ d := ne_d hl3 (fun φ z => nomatch z)
      have old6 : ∀ b o, b ≠ d → H3 b = some o → H6 b = some o := fun b o h e => s6 _ _ (by rw [upd_ne h]; exact e)
      refine ⟨s6 _ _ upd_same, .ref p', rfl, p', C, dx', _, rfl, by rw [upd_ne hpd']; exact old6 _ _ hpd' hp3, T.cl, T.n3, by subst hF; exact (show (3 : Nat) < 1000 by decide), .ref p', rfl, ?_⟩
      have hpl : l ≠ p' := Ne.symm (ne_l ob)
      have hDp : D ≠ p' := fun z => by rw [z] at hD6; rw [old6 _ _ hpd' hp3] at hD6; cases hD6
      have all : ∀ b o, b ≠ p' → H3 b = some o → (upd (upd H6 d (DN P w d (ents as.length ks))) p' (.ins C dx' (putF (Str.ofString "_found") (V.ref D) F1))) b = some o := fun b o h e => by
        rw [upd_ne h]
        by_cases hb : b = d
        · subst hb
          rw [upd_same, ← S4.dict, e]
        · rw [upd_ne hb]
          exact old6 _ _ hb e
      have fresh : ∀ b, H3 b = none → H b = none := fun b e => by
        cases z : H b with
        | none => rfl
        | some o => rw [old3 _ _ z] at e; cases e
      have nl0 : H l = none := by
        cases z : H l with
        | none => rfl
        | some o => exact absurd rfl (ne_l (s2 _ _ z))
      have nD3 : H3 D = none := by
        rw [upd_ne (Ne.symm hdD)] at nD
        exact nD
      have sm : Same H (upd (upd H6 d (DN P w d (ents as.length ks))) p' (.ins C dx' (putF (Str.ofString "_found") (V.ref D) F1))) := fun b o e => all b o (hpp e) (old3 _ _ e)
      refine q p' dx' l D _ sm np nl0 (fresh _ nD3) ⟨?_, ⟨all _ _ hpl hl3, fun i b e => seqT' sm (S.told.ones i b e), fun y hy => (keep_same sm).key (S.told.keys y hy)⟩, ?_, S.nodup, S.lo, S.hi, S.few⟩
      · subst hF
        rw [upd_same, ← hl]
        rfl
      · rw [upd_ne hDp, upd_ne (Ne.symm hdD)]
        exact hD6
end
end Jc
namespace Jc
open PySem PySem.Spec L2
open PyProof.Rows hiding St
/-- the wheres and questions that are drawn -/
def PlOk (pl : List L2.Key) : Prop := pl.length ≤ 3 ∧ ∀ k ∈ pl, (∃ i : Int, k = .inl i ∧ 0 ≤ i ∧ i ≤ 600) ∨ k = .inr "c"
structure QOk (q : Qn) (n : Nat) : Prop where
  title : q.title = "s" ∨ q.title = "t" ∨ q.title = "loop"
  place : PlOk q.place
  len : q.reads.length ≤ 3
  reads : ∀ v ∈ q.reads, 0 ≤ v ∧ v < (n : Int)
theorem plok_nil : PlOk [] := ⟨by decide, fun _ h => nomatch h⟩
theorem plok_int {i : Int} {pl : List L2.Key} (h0 : 0 ≤ i) (h1 : i ≤ 600) (hl : pl.length ≤ 2) (h : PlOk pl) : PlOk (.inl i :: pl) := ⟨by rw [List.length_cons]; omega, fun k hk => by
  rcases List.mem_cons.mp hk with z | z
  · exact .inl ⟨i, z, h0, h1⟩
  · exact h.2 k z⟩
theorem plok_c {pl : List L2.Key} (hl : pl.length ≤ 2) (h : PlOk pl) : PlOk (.inr "c" :: pl) := ⟨by rw [List.length_cons]; omega, fun k hk => by
  rcases List.mem_cons.mp hk with z | z
  · exact .inr z
  · exact h.2 k z⟩
def spWhere (K : PySem.W.Frag) : Sp := fun vs H Q _ => ∃ pot : Addr, vs = [.ref pot] ∧ Pot H pot ∧ ∀ (u : Addr) (pl : List L2.Key) (H2 : Hp), Same H H2 → PlOk pl → SqT K H2 u (pl.map kV) → Q (.ref u) H2
section
variable {P : Program} {w : World} {K : PySem.W.Frag} {mg : Str → Option Value} {base : Heap} {f C : Addr} {fd : FuncData} {t1 : Tok}
abbrev s_where : Stmt := topS 15
abbrev N_where : List Str := ["_law_pot_here", "_law_passes"]
theorem sc_where : FnScope N_where ["_law_pot_here"] (defScope s_where) := ⟨rfl, rfl, rfl, by decide +kernel, rfl, by decide +kernel, by decide +kernel⟩
theorem ok_where (F : Fun K "_law_where_drawn" "_law_where_drawn" s_where f fd) (B : Blt mg) (c_draw : Own P w K mg base "_law_draw" 1 ["_law_pot_here", "_law_size"] spDraw) (c_pick : Own P w K mg base "_law_pick" 2 ["_law_pot_here", "_law_some"] (spPick K)) :
    FnG P w K mg base 3 f fd ["_law_pot_here"] (spWhere K) := by
  refine fnG_of F sc_where (fun vs H Q E h => ?_) (fun us hl => ?_) (fun cdv A outer s H vs Q hr hq h => ?_)
  · obtain ⟨p, rfl, _⟩ := h
    rfl
  · match us, hl with
    | [_], _ => rfl
  · obtain ⟨pot, rfl, hp, q⟩ := h
    refine ⟨_, (pss_cons (ps_set (i := 1) sc_where.nd rfl (.inl rfl) (pe_lst (pa_cons pe_int (pa_cons pe_int (pa_cons (pe_op op_add pe_int (pe_own c_draw hr hq (by decide) (pa_cons (pv 0) (pa_cons pe_int pa_nil)))) pa_nil)))))
      (pss_one (ps_ret (pe_own c_pick hr hq (by decide) (pa_cons (pv 0) (pa_cons (pe_lst (pa_cons (pe_tup pa_nil) (pa_cons (pe_tup (pa_cons pe_int pa_nil)) (pa_cons (pe_tup (pa_cons pe_int pa_nil)) (pa_cons (pe_tup (pa_cons pe_str (pa_cons pe_int pa_nil))) (pa_cons (pe_tup (pa_cons pe_int (pa_cons pe_str pa_nil))) (pa_cons (pe_tup (pa_cons pe_int (pa_cons pe_int pa_nil))) (pa_cons (pe_tup (pa_cons pe_int pa_nil)) (pa_cons (pe_callTy call_tuple_of rfl B.tuple bo_tuple (pa_cons (pv 1) pa_nil)) (pa_cons (pe_tup (pa_cons pe_str pa_nil)) pa_nil)))))))))) pa_nil)))))), ?_⟩
    refine ⟨.ref pot, rfl, pot, 500, rfl, hp, by decide, by decide, fun d H0 d0 d1 s0 => ?_⟩
    refine ⟨_, _, rfl, rfl, le_line (by show 3 ≤ 1000000; decide), fun l nl => ?_⟩
    have f0 : Same H0 (upd H0 l (.lst [.int 1, .int 2, .int (1 + d)])) := same_new nl
    have hl : (upd H0 l (.lst [.int 1, .int 2, .int (1 + d)])) l = some (.lst [.int 1, .int 2, .int (1 + d)]) := upd_same
    refine ⟨.ref pot, rfl, ?_⟩
    generalize upd H0 l (.lst [.int 1, .int 2, .int (1 + d)]) = G0 at f0 hl
    refine ⟨le_line (by show 0 ≤ 1000000; decide), fun a0 n0 => ?_⟩
    have f1 : Same G0 (upd G0 a0 (.tup [])) := same_new n0
    have t0 : SqT K (upd G0 a0 (.tup [])) a0 (([] : List L2.Key).map kV) := .inl (.inl upd_same)
    generalize upd G0 a0 (.tup []) = G1 at f1 t0
    refine ⟨le_line (by show 1 ≤ 1000000; decide), fun a1 n1 => ?_⟩
    have f2 : Same G1 (upd G1 a1 (.tup [.int 1])) := same_new n1
    have t1 : SqT K (upd G1 a1 (.tup [.int 1])) a1 (([.inl 1] : List L2.Key).map kV) := .inl (.inl upd_same)
    generalize upd G1 a1 (.tup [.int 1]) = G2 at f2 t1
    refine ⟨le_line (by show 1 ≤ 1000000; decide), fun a2 n2 => ?_⟩
    have f3 : Same G2 (upd G2 a2 (.tup [.int 2])) := same_new n2
    have t2 : SqT K (upd G2 a2 (.tup [.int 2])) a2 (([.inl 2] : List L2.Key).map kV) := .inl (.inl upd_same)
    generalize upd G2 a2 (.tup [.int 2]) = G3 at f3 t2
    refine ⟨le_line (by show 2 ≤ 1000000; decide), fun a3 n3 => ?_⟩
    have f4 : Same G3 (upd G3 a3 (.tup [.str "c", .int 1])) := same_new n3
    have t3 : SqT K (upd G3 a3 (.tup [.str "c", .int 1])) a3 (([.inr "c", .inl 1] : List L2.Key).map kV) := .inl (.inl upd_same)
    generalize upd G3 a3 (.tup [.str "c", .int 1]) = G4 at f4 t3
    refine ⟨le_line (by show 2 ≤ 1000000; decide), fun a4 n4 => ?_⟩
    have f5 : Same G4 (upd G4 a4 (.tup [.int 1, .str "c"])) := same_new n4
    have t4 : SqT K (upd G4 a4 (.tup [.int 1, .str "c"])) a4 (([.inl 1, .inr "c"] : List L2.Key).map kV) := .inl (.inl upd_same)
    generalize upd G4 a4 (.tup [.int 1, .str "c"]) = G5 at f5 t4
    refine ⟨le_line (by show 2 ≤ 1000000; decide), fun a5 n5 => ?_⟩
    have f6 : Same G5 (upd G5 a5 (.tup [.int 1, .int 1])) := same_new n5
    have t5 : SqT K (upd G5 a5 (.tup [.int 1, .int 1])) a5 (([.inl 1, .inl 1] : List L2.Key).map kV) := .inl (.inl upd_same)
    generalize upd G5 a5 (.tup [.int 1, .int 1]) = G6 at f6 t5
    refine ⟨le_line (by show 1 ≤ 1000000; decide), fun a6 n6 => ?_⟩
    have f7 : Same G6 (upd G6 a6 (.tup [.int 11])) := same_new n6
    have t6 : SqT K (upd G6 a6 (.tup [.int 11])) a6 (([.inl 11] : List L2.Key).map kV) := .inl (.inl upd_same)
    generalize upd G6 a6 (.tup [.int 11]) = G7 at f7 t6
    have keep_hl : G7 l = some (.lst [.int 1, .int 2, .int (1 + d)]) := f7 _ _ (f6 _ _ (f5 _ _ (f4 _ _ (f3 _ _ (f2 _ _ (f1 _ _ hl))))))
    refine ⟨.ref l, rfl, l, _, rfl, .inl ⟨.inl (.inl (keep_hl)), fun a7 n7 => ?_⟩⟩
    have f8 : Same G7 (upd G7 a7 (.tup [.int 1, .int 2, .int (1 + d)])) := same_new n7
    have t7 : SqT K (upd G7 a7 (.tup [.int 1, .int 2, .int (1 + d)])) a7 (([.inl 1, .inl 2, .inl (1 + d)] : List L2.Key).map kV) := .inl (.inl upd_same)
    generalize upd G7 a7 (.tup [.int 1, .int 2, .int (1 + d)]) = G8 at f8 t7
    refine ⟨le_line (by show 1 ≤ 1000000; decide), fun a8 n8 => ?_⟩
    have f9 : Same G8 (upd G8 a8 (.tup [.str "c"])) := same_new n8
    have t8 : SqT K (upd G8 a8 (.tup [.str "c"])) a8 (([.inr "c"] : List L2.Key).map kV) := .inl (.inl upd_same)
    generalize upd G8 a8 (.tup [.str "c"]) = G9 at f9 t8
    refine ⟨le_line (by show 9 ≤ 1000000; decide), fun m nm => ?_⟩
    have g0 : Same H G9 := s0.trans (f0.trans ((f1).trans ((f2).trans ((f3).trans ((f4).trans ((f5).trans ((f6).trans ((f7).trans ((f8).trans (f9))))))))))
    have g1 : Same H (upd G9 m (.lst [.ref a0, .ref a1, .ref a2, .ref a3, .ref a4, .ref a5, .ref a6, .ref a7, .ref a8])) := g0.trans (same_new nm)
    refine ⟨pot, m, _, rfl, g1 _ _ hp, .inl (.inl upd_same), by show 0 < 9; decide, by show 9 ≤ 1000; decide, fun i v H2 e s2 => ?_⟩
    have g2 : Same G9 H2 := (same_new nm).trans s2
    have ex : ∃ u pl, v = .ref u ∧ PlOk pl ∧ SqT K H2 u (pl.map kV) := by
      have hv := List.mem_of_getElem? e
      simp only [List.mem_cons, List.not_mem_nil, or_false] at hv
      rcases hv with rfl | rfl | rfl | rfl | rfl | rfl | rfl | rfl | rfl
      · exact ⟨a0, [], rfl, plok_nil, seqT' (((f2).trans ((f3).trans ((f4).trans ((f5).trans ((f6).trans ((f7).trans ((f8).trans (f9)))))))).trans g2) t0⟩
      · exact ⟨a1, [.inl 1], rfl, plok_int (by decide) (by decide) (by decide) plok_nil, seqT' (((f3).trans ((f4).trans ((f5).trans ((f6).trans ((f7).trans ((f8).trans (f9))))))).trans g2) t1⟩
      · exact ⟨a2, [.inl 2], rfl, plok_int (by decide) (by decide) (by decide) plok_nil, seqT' (((f4).trans ((f5).trans ((f6).trans ((f7).trans ((f8).trans (f9)))))).trans g2) t2⟩
      · exact ⟨a3, [.inr "c", .inl 1], rfl, plok_c (by decide) (plok_int (by decide) (by decide) (by decide) plok_nil), seqT' (((f5).trans ((f6).trans ((f7).trans ((f8).trans (f9))))).trans g2) t3⟩
      · exact ⟨a4, [.inl 1, .inr "c"], rfl, plok_int (by decide) (by decide) (by decide) (plok_c (by decide) plok_nil), seqT' (((f6).trans ((f7).trans ((f8).trans (f9)))).trans g2) t4⟩
      · exact ⟨a5, [.inl 1, .inl 1], rfl, plok_int (by decide) (by decide) (by decide) (plok_int (by decide) (by decide) (by decide) plok_nil), seqT' (((f7).trans ((f8).trans (f9))).trans g2) t5⟩
      · exact ⟨a6, [.inl 11], rfl, plok_int (by decide) (by decide) (by decide) plok_nil, seqT' (((f8).trans (f9)).trans g2) t6⟩
      · exact ⟨a7, [.inl 1, .inl 2, .inl (1 + d)], rfl, plok_int (by decide) (by decide) (by show 2 ≤ 2; decide) (plok_int (by decide) (by decide) (by show 1 ≤ 2; decide) (plok_int (by omega) (by omega) (by decide) plok_nil)), seqT' ((f9).trans g2) t7⟩
      · exact ⟨a8, [.inr "c"], rfl, plok_c (by decide) plok_nil, seqT' ((Same.refl G9).trans g2) t8⟩
    obtain ⟨u, pl, rfl, ok, hu⟩ := ex
    exact q u pl H2 (g1.trans s2) ok hu
end
end Jc
namespace Jc
open PySem PySem.Spec L2
open PyProof.Rows hiding St
def spQuest (K : PySem.W.Frag) : Sp := fun vs H Q _ => ∃ (pot so : Addr) (xs : List V), vs = [.ref pot, .ref so] ∧ Pot H pot ∧ SqL K H so xs ∧ 0 < xs.length ∧ xs.length ≤ 600 ∧
  ∀ (T u r : Addr) (q : Qn) (H2 : Hp), Same H H2 → QOk q xs.length → H2 T = some (.tup [.str q.title, .ref u, .ref r]) → SqT K H2 u (q.place.map kV) → H2 r = some (.lst (q.reads.map V.int)) → Q (.ref T) H2
section
variable {P : Program} {w : World} {K : PySem.W.Frag} {mg : Str → Option Value} {base : Heap} {f C : Addr} {fd : FuncData} {t1 : Tok}
theorem ints_ex {R : Int → Prop} : ∀ ys : List V, (∀ (i : Nat) y, ys[i]? = some y → ∃ k : Int, y = .int k ∧ R k) → ∃ ns : List Int, ys = ns.map V.int ∧ ∀ k ∈ ns, R k
  | [], _ => ⟨[], rfl, fun _ h => nomatch h⟩
  | y :: r, h => by
    obtain ⟨k, e, hk⟩ := h 0 y rfl
    obtain ⟨ns, e1, e2⟩ := ints_ex r fun i z e => h (i + 1) z (by rw [List.getElem?_cons_succ]; exact e)
    refine ⟨k :: ns, by rw [e, e1]; rfl, fun j hj => ?_⟩
    rcases List.mem_cons.mp hj with z | z
    · rw [z]; exact hk
    · exact e2 j z
abbrev s_quest : Stmt := topS 16
abbrev N_quest : List Str := ["_law_pot_here", "_law_some", "_law_size", "_law_seen", "_law_turn"]
theorem sc_quest : FnScope N_quest ["_law_pot_here", "_law_some"] (defScope s_quest) := ⟨rfl, rfl, rfl, by decide +kernel, rfl, by decide +kernel, by decide +kernel⟩
theorem ok_quest (F : Fun K "_law_question" "_law_question" s_quest f fd) (B : Blt mg) (c_draw : Own P w K mg base "_law_draw" 1 ["_law_pot_here", "_law_size"] spDraw) (c_pick : Own P w K mg base "_law_pick" 2 ["_law_pot_here", "_law_some"] (spPick K))
    (c_where : Own P w K mg base "_law_where_drawn" 3 ["_law_pot_here"] (spWhere K)) : FnG P w K mg base 4 f fd ["_law_pot_here", "_law_some"] (spQuest K) := by
  refine fnG_of F sc_quest (fun vs H Q E h => ?_) (fun us hl => ?_) (fun cdv A outer s H vs Q hr hq h => ?_)
  · obtain ⟨p, so, xs, rfl, _⟩ := h
    rfl
  · match us, hl with
    | [_, _], _ => rfl
  · obtain ⟨pot, so, xs, rfl, hp, hs, h0, h6, q⟩ := h
    refine ⟨_, (pss_cons (ps_set (i := 2) sc_quest.nd rfl (.inr rfl) (pe_callB call_len_seq rfl B.len bo_len (pa_cons (pv 1) pa_nil)))
      (pss_cons (ps_setLc (i := 3) (own := [("_law_turn", 4)]) (g := gName 4) rfl sc_quest.nd rfl rfl (sw_true rfl rfl rfl (by decide +kernel)) (pi_range1 rfl B.range (pa_cons (pe_own c_draw hr hq (by decide) (pa_cons (pv 0) (pa_cons pe_int pa_nil))) pa_nil)) (blkOk_by (own := [("_law_turn", 4)]) (N := N_quest) (sc := defScope s_quest) (by decide +kernel)) (fun _ _ _ _ _ => pg_name (i := 4) sc_quest.nd rfl (.inl rfl)) (fun _ _ _ _ _ => pts_nil) (fun _ _ _ _ _ => (pe_own c_pick hr hq (by decide) (pa_cons (pv 0) (pa_cons (pe_lst (pa_cons pe_int (pa_cons (pe_op op_sub (pv 2) pe_int) (pa_cons (pe_own c_draw hr hq (by decide) (pa_cons (pv 0) (pa_cons (pv 2) pa_nil))) pa_nil)))) pa_nil)))))
      (pss_one (ps_ret (pe_tup (pa_cons (pe_own c_pick hr hq (by decide) (pa_cons (pv 0) (pa_cons (pe_lst (pa_cons pe_str (pa_cons pe_str (pa_cons pe_str pa_nil)))) pa_nil))) (pa_cons (pe_own c_where hr hq (by decide) (pa_cons (pv 0) pa_nil)) (pa_cons (pv 3) pa_nil)))))))), ?_⟩
    refine ⟨.ref so, rfl, so, xs, rfl, .inl hs, ?_⟩
    refine ⟨.ref pot, rfl, pot, 4, rfl, hp, by decide, by decide, fun n H0 n0 n1 s0 => ⟨n, rfl, by omega, by omega, fun D hD => ?_⟩⟩
    refine lc_flat walk_range (fun i y => ∃ k : Int, y = .int k ∧ 0 ≤ k ∧ k < (xs.length : Int)) (by omega) hD (fun _ _ => trivial) ?_ ?_
    · rintro i y H2 H3 k hi s2 ⟨rfl, rfl⟩ kk
      refine ⟨rfl, .ref pot, rfl, .int xs.length, rfl, _, _, rfl, rfl, .ref pot, rfl, .int xs.length, rfl, pot, xs.length, rfl, s2 _ _ (s0 _ _ hp), by omega, by omega, fun d H4 d0 d1 s4 => ?_⟩
      refine ⟨le_line (by show 3 ≤ 1000000; decide), fun m nm => ⟨pot, m, _, rfl, (same_new nm) _ _ (s4 _ _ (s2 _ _ (s0 _ _ hp))), .inl (.inl upd_same), by show 0 < 3; decide, by show 3 ≤ 1000; decide, fun j v H5 e s5 => kk v H5 (s4.trans ((same_new nm).trans s5)) ?_⟩⟩
      have hv := List.mem_of_getElem? e
      simp only [List.mem_cons, List.not_mem_nil, or_false] at hv
      rcases hv with rfl | rfl | rfl
      · exact ⟨0, rfl, by omega, by omega⟩
      · exact ⟨_, rfl, by omega, by omega⟩
      · exact ⟨d, rfl, d0, d1⟩
    · intro ys H2 hl hR s2 hy
      obtain ⟨ns, rfl, hns⟩ := ints_ex (R := fun k => 0 ≤ k ∧ k < (xs.length : Int)) ys hR
      have p2 : Pot H2 pot := s2 _ _ (s0 _ _ hp)
      refine ⟨.ref pot, rfl, le_line (by show 3 ≤ 1000000; decide), fun m nm => ⟨pot, m, _, rfl, (same_new nm) _ _ p2, .inl (.inl upd_same), by show 0 < 3; decide, by show 3 ≤ 1000; decide, fun j v H5 e s5 => ?_⟩⟩
      have t5 : Same H2 H5 := (same_new nm).trans s5
      have ev : ∃ z : Str, v = .str z ∧ (z = "s" ∨ z = "t" ∨ z = "loop") := by
        have hv := List.mem_of_getElem? e
        simp only [List.mem_cons, List.not_mem_nil, or_false] at hv
        rcases hv with rfl | rfl | rfl
        · exact ⟨_, rfl, .inl rfl⟩
        · exact ⟨_, rfl, .inr (.inl rfl)⟩
        · exact ⟨_, rfl, .inr (.inr rfl)⟩
      obtain ⟨z, rfl, hz⟩ := ev
      refine ⟨.ref pot, rfl, pot, rfl, t5 _ _ p2, fun u pl H6 s6 ok hu => ⟨.ref D, rfl, le_line (by show 3 ≤ 1000000; decide), fun T nT => ?_⟩⟩
      have t6 : Same H2 (upd H6 T (.tup [.str z, .ref u, .ref D])) := t5.trans (s6.trans (same_new nT))
      refine q T u D ⟨z, pl, ns⟩ _ (s0.trans (s2.trans t6)) ⟨hz, ok, ?_, hns⟩ upd_same (seqT' (same_new nT) hu) (t6 _ _ hy)
      rw [List.length_map] at hl
      show ns.length ≤ 3
      omega
end
end Jc
namespace Jc
open PySem PySem.Spec L2
open PyProof.Rows hiding St
/-! ### the questions as data -/
def dK : L2.Key → PyData
  | .inl i => .int i
  | .inr x => .str x
def dQ (q : Qn) : PyData := .tuple [.str q.title, .tuple (q.place.map dK), .tuple (q.reads.map .int)]
def dOne (i : Nat) : PyData := .tuple [.int (i : Nat)]
def dsTell (m : Nat) (qs : List Qn) : List PyData := (List.range m).map dOne ++ qs.map dQ
theorem eqvAll_map {α : Type} [DecidableEq α] {d : α → PyData} (h : ∀ a b, PyData.eqv (d a) (d b) = decide (a = b)) : ∀ xs ys : List α, PyData.eqvAll (xs.map d) (ys.map d) = decide (xs = ys)
  | [], [] => by simp [PyData.eqvAll]
  | [], _ :: _ => by simp [PyData.eqvAll]
  | _ :: _, [] => by simp [PyData.eqvAll]
  | x :: xs, y :: ys => by
    simp only [List.map_cons, PyData.eqvAll, h, eqvAll_map h xs ys]
    by_cases e : x = y <;> by_cases e2 : xs = ys <;> simp [e, e2]
theorem eqv_k (a b : L2.Key) : PyData.eqv (dK a) (dK b) = decide (a = b) := by
  cases a <;> cases b
  · rename_i x y
    show (x == y) = _
    by_cases e : x = y <;> simp [e]
  · rfl
  · rfl
  · rename_i x y
    show (x == y) = _
    by_cases e : x = y <;> simp [e]
theorem eqv_i (a b : Int) : PyData.eqv (.int a) (.int b) = decide (a = b) := by
  show (a == b) = _
  by_cases e : a = b <;> simp [e]
theorem eqv_q (a b : Qn) : PyData.eqv (dQ a) (dQ b) = decide (a = b) := by
  obtain ⟨t, p, r⟩ := a
  obtain ⟨t', p', r'⟩ := b
  simp only [dQ, PyData.eqv, PyData.eqvAll, eqvAll_map eqv_k, eqvAll_map (d := PyData.int) eqv_i]
  by_cases e1 : t = t' <;> by_cases e2 : p = p' <;> by_cases e3 : r = r' <;> simp [e1, e2, e3]
theorem eqv_oq (i : Nat) (q : Qn) : PyData.eqv (dOne i) (dQ q) = false := by simp [dOne, dQ, PyData.eqv, PyData.eqvAll]
theorem any_tell (m : Nat) (qs : List Qn) (q : Qn) : ((dsTell m qs).any fun z => PyData.eqv z (dQ q)) = decide (q ∈ qs) := by
  rw [dsTell, List.any_append]
  have h1 : (((List.range m).map dOne).any fun z => PyData.eqv z (dQ q)) = false := by
    rw [List.any_eq_false]
    intro z hz
    obtain ⟨i, _, rfl⟩ := List.mem_map.mp hz
    rw [eqv_oq]
    decide
  rw [h1, Bool.false_or]
  by_cases h : q ∈ qs
  · rw [decide_eq_true h, List.any_eq_true]
    exact ⟨dQ q, List.mem_map.mpr ⟨q, h, rfl⟩, by rw [eqv_q]; simp⟩
  · rw [decide_eq_false h, List.any_eq_false]
    intro z hz
    obtain ⟨q', h', rfl⟩ := List.mem_map.mp hz
    rw [eqv_q]
    have : ¬ q' = q := fun e => h (e ▸ h')
    simp [this]
/-! laid in the heap -/
section
variable {K : PySem.W.Frag} {H : Hp}
theorem dpAll_places : ∀ pl : List L2.Key, DpAll K H (pl.map kV) (pl.map dK)
  | [] => .nil
  | .inl i :: r => .cons (.int i) (dpAll_places r)
  | .inr x :: r => .cons (.str x) (dpAll_places r)
theorem dpAll_ints : ∀ ns : List Int, DpAll K H (ns.map V.int) (ns.map PyData.int)
  | [] => .nil
  | i :: r => .cons (.int i) (dpAll_ints r)
theorem dp_q {b : Addr} {q : Qn} (h : KeyAt K H b q) : Dp K H (.ref b) (dQ q) := by
  obtain ⟨u, r, h1, h2, h3⟩ := h
  exact .tup h1 (.cons (.str _) (.cons (.tup h2 (dpAll_places _)) (.cons (.tup h3 (dpAll_ints _)) .nil)))
theorem dpAll_app {xs ys : List V} {ds es : List PyData} (h2 : DpAll K H ys es) : DpAll K H xs ds → DpAll K H (xs ++ ys) (ds ++ es) := by
  intro h
  induction xs generalizing ds with
  | nil => cases h; exact h2
  | cons x xs ih =>
    cases h with
    | cons a b => exact .cons a (ih b)
theorem dpAll_ones : ∀ (as : List Addr) (k : Nat), (∀ (i : Nat) b, as[i]? = some b → SqT K H b [.int ((k + i : Nat) : Int)]) → DpAll K H (as.map V.ref) ((List.range' k as.length).map dOne)
  | [], _, _ => .nil
  | b :: r, k, h => by
    rw [List.map_cons, List.length_cons, List.range'_succ, List.map_cons]
    refine .cons (.tup (h 0 b rfl) (.cons (.int _) .nil)) (dpAll_ones r (k + 1) fun i c e => ?_)
    have := h (i + 1) c (by rw [List.getElem?_cons_succ]; exact e)
    rwa [show k + (i + 1) = k + 1 + i by omega] at this
theorem dpAll_qs : ∀ ks : Qs, (∀ p ∈ ks, KeyAt K H p.1 p.2) → DpAll K H (ks.map fun p => V.ref p.1) ((ks.map fun p => p.2).map dQ)
  | [], _ => .nil
  | p :: r, h => .cons (dp_q (h p List.mem_cons_self)) (dpAll_qs r fun x hx => h x (List.mem_cons_of_mem _ hx))
theorem TellAt.dp {a : Addr} {as : List Addr} {ks : Qs} (h : TellAt K H a as ks) : Dp K H (.ref a) (.list (dsTell as.length (ks.map fun p => p.2))) := by
  refine .lst (.inl (.inl h.list)) (dpAll_app (dpAll_qs ks h.keys) ?_)
  rw [List.range_eq_range']
  refine dpAll_ones as 0 fun i b e => ?_
  rw [Nat.zero_add]
  exact h.ones i b e
end
/-! small -/
theorem short_int : ∀ i : Fin 1001, (PyData.shown (.int (i.val : Int))).length ≤ 8 := by decide +kernel
theorem short_nat {i : Int} (h0 : 0 ≤ i) (h1 : i ≤ 1000) : (PyData.shown (.int i)).length ≤ 8 := by
  have := short_int ⟨i.toNat, by omega⟩
  rwa [show ((⟨i.toNat, by omega⟩ : Fin 1001).val : Int) = i by show (i.toNat : Int) = i; omega] at this
/-- what is asked of small data -/
structure Sml (d : PyData) (n : Nat) : Prop where
  lay : d.canLay0 = true
  sho : d.showable = true
  sh : d.leavesShort 8 = true
  dep : d.depth ≤ 3
  bk : d.bulk ≤ n
structure SmlA (ds : List PyData) (n k : Nat) : Prop where
  lay : PyData.canLayAll0 ds = true
  sho : PyData.showableAll ds = true
  sh : PyData.leavesShortAll 8 ds = true
  dep : PyData.depthAll ds ≤ k
  bk : PyData.bulkAll ds ≤ n
theorem SmlA.app {ds es : List PyData} {n m k : Nat} (a : SmlA ds n k) (b : SmlA es m k) : SmlA (ds ++ es) (n + m) k := by
  induction ds generalizing n with
  | nil => exact ⟨b.lay, b.sho, b.sh, b.dep, Nat.le_trans b.bk (by omega)⟩
  | cons d ds ih =>
    obtain ⟨h1, h2, h3, h4, h5⟩ := a
    simp only [PyData.canLayAll0, PyData.showableAll, PyData.leavesShortAll, PyData.depthAll, PyData.bulkAll, Bool.and_eq_true] at h1 h2 h3 h4 h5
    have i := ih (n := PyData.bulkAll ds) ⟨h1.2, h2.2, h3.2, by omega, Nat.le_refl _⟩
    have := i.bk
    have := i.dep
    refine ⟨?_, ?_, ?_, ?_, ?_⟩ <;> simp only [List.cons_append, PyData.canLayAll0, PyData.showableAll, PyData.leavesShortAll, PyData.depthAll, PyData.bulkAll, Bool.and_eq_true]
    · exact ⟨h1.1, i.lay⟩
    · exact ⟨h2.1, i.sho⟩
    · exact ⟨h3.1, i.sh⟩
    · omega
    · omega
theorem smlA_of {α : Type} {d : α → PyData} {n k : Nat} : ∀ xs : List α, (∀ x ∈ xs, (d x).canLay0 = true ∧ (d x).showable = true ∧ (d x).leavesShort 8 = true ∧ (d x).depth ≤ k ∧ (d x).bulk ≤ n) → SmlA (xs.map d) ((n + 1) * xs.length) k
  | [], _ => ⟨rfl, rfl, rfl, Nat.zero_le _, Nat.zero_le _⟩
  | x :: xs, h => by
    obtain ⟨h1, h2, h3, h4, h5⟩ := h x List.mem_cons_self
    have i := smlA_of (n := n) (k := k) xs fun y hy => h y (List.mem_cons_of_mem _ hy)
    have a := i.dep
    have b := i.bk
    refine ⟨?_, ?_, ?_, ?_, ?_⟩ <;> simp only [List.map_cons, PyData.canLayAll0, PyData.showableAll, PyData.leavesShortAll, PyData.depthAll, PyData.bulkAll, Bool.and_eq_true, List.length_cons, Nat.mul_succ]
    · exact ⟨h1, i.lay⟩
    · exact ⟨h2, i.sho⟩
    · exact ⟨h3, i.sh⟩
    · omega
    · omega
theorem shn_int {i : Int} (h0 : 0 ≤ i) (h1 : i ≤ 1000) : (PyData.int i).showable = true := by
  show decide (i.natAbs.log2 < 1920) = true
  rw [decide_eq_true_eq]
  have : i.natAbs < 2 ^ 1920 := Nat.lt_of_le_of_lt (show i.natAbs ≤ 1000 by omega) (Nat.lt_of_lt_of_le (show 1000 < 2 ^ 10 by decide) (Nat.pow_le_pow_right (by decide) (by decide)))
  by_cases h : i.natAbs = 0
  · rw [h]; decide
  · exact (Nat.log2_lt h).mpr this
theorem sml_places {pl : List L2.Key} (h : PlOk pl) : SmlA (pl.map dK) 6 0 := by
  have a := smlA_of (d := dK) (n := 1) (k := 0) pl fun k hk => by
    rcases h.2 k hk with ⟨i, rfl, h0, h1⟩ | rfl
    · exact ⟨rfl, shn_int h0 (by omega), decide_eq_true (short_nat h0 (by omega)), Nat.le_refl _, Nat.zero_le _⟩
    · exact ⟨by decide +kernel, rfl, by decide +kernel, Nat.le_refl _, by decide +kernel⟩
  have := h.1
  exact ⟨a.lay, a.sho, a.sh, a.dep, Nat.le_trans a.bk (by omega)⟩
theorem sml_reads {r : List Int} (hl : r.length ≤ 3) (h : ∀ v ∈ r, 0 ≤ v ∧ v < (600 : Int)) : SmlA (r.map PyData.int) 3 0 := by
  have a := smlA_of (d := PyData.int) (n := 0) (k := 0) r fun v hv => by
    obtain ⟨h0, h1⟩ := h v hv
    exact ⟨rfl, shn_int h0 (by omega), decide_eq_true (short_nat h0 (by omega)), Nat.le_refl _, Nat.zero_le _⟩
  exact ⟨a.lay, a.sho, a.sh, a.dep, Nat.le_trans a.bk (by omega)⟩
theorem sml_q {q : Qn} {n : Nat} (hn : n ≤ 600) (h : QOk q n) : (dQ q).canLay0 = true ∧ (dQ q).showable = true ∧ (dQ q).leavesShort 8 = true ∧ (dQ q).depth ≤ 2 ∧ (dQ q).bulk ≤ 20 := by
  have a := sml_places h.place
  have b := sml_reads h.len fun v hv => ⟨(h.reads v hv).1, by have := (h.reads v hv).2; omega⟩
  have t : (PyData.str q.title).canLay0 = true ∧ (PyData.str q.title).leavesShort 8 = true ∧ q.title.cps.size ≤ 4 := by
    rcases h.title with e | e | e <;> rw [e] <;> decide +kernel
  have a4 := a.dep
  have a5 := a.bk
  have b4 := b.dep
  have b5 := b.bk
  obtain ⟨t1, t2, t3⟩ := t
  refine ⟨?_, ?_, ?_, ?_, ?_⟩
  · simp only [PyData.canLay0] at t1
    simp only [dQ, PyData.canLay0, PyData.canLayAll0, a.lay, b.lay, t1, Bool.and_self]
  · simp only [dQ, PyData.showable, PyData.showableAll, a.sho, b.sho, Bool.and_self]
  · simp only [PyData.leavesShort] at t2
    simp only [dQ, PyData.leavesShort, PyData.leavesShortAll, a.sh, b.sh, t2, Bool.and_self]
  · simp only [dQ, PyData.depth, PyData.depthAll]
    omega
  · simp only [dQ, PyData.bulk, PyData.bulkAll]
    omega
theorem sml_one {i : Nat} (h : i ≤ 600) : (dOne i).canLay0 = true ∧ (dOne i).showable = true ∧ (dOne i).leavesShort 8 = true ∧ (dOne i).depth ≤ 2 ∧ (dOne i).bulk ≤ 20 := by
  have s := shn_int (i := (i : Int)) (by omega) (by omega)
  have l := short_nat (i := (i : Int)) (by omega) (by omega)
  refine ⟨rfl, ?_, ?_, ?_, ?_⟩
  · simp only [dOne, PyData.showable, PyData.showableAll, Bool.and_true]
    exact s
  · simp only [dOne, PyData.leavesShort, PyData.leavesShortAll, Bool.and_true]
    exact decide_eq_true l
  · simp [dOne, PyData.depth, PyData.depthAll]
  · simp [dOne, PyData.bulk, PyData.bulkAll]
theorem sml_tell {m n : Nat} {qs : List Qn} (hm : m ≤ 3) (hn : n ≤ 600) (hq : ∀ q ∈ qs, QOk q n) (hl : qs.length ≤ 500) : SmlA (dsTell m qs) 20000 2 := by
  have a := smlA_of (d := dOne) (n := 20) (k := 2) (List.range m) fun i hi => sml_one (by have := List.mem_range.mp hi; omega)
  have b := smlA_of (d := dQ) (n := 20) (k := 2) qs fun q h => sml_q hn (hq q h)
  have c := a.app b
  rw [List.length_range] at c
  exact ⟨c.lay, c.sho, c.sh, c.dep, Nat.le_trans c.bk (by omega)⟩
theorem shaped_of {d : PyData} (h1 : d.canLay0 = true) (h2 : d.depth ≤ 64) : SeqAt.shaped d = true := by
  show (PyData.canLay0 d && decide (PyData.depth d ≤ 64)) = true
  rw [h1, decide_eq_true h2]
  rfl
theorem shaped_q {q : Qn} {n : Nat} (hn : n ≤ 600) (h : QOk q n) : SeqAt.shaped (dQ q) = true := by
  obtain ⟨a, _, _, b, _⟩ := sml_q hn h
  exact shaped_of a (by omega)
theorem shaped_tell {m n : Nat} {qs : List Qn} (hm : m ≤ 3) (hn : n ≤ 600) (hq : ∀ q ∈ qs, QOk q n) (hl : qs.length ≤ 500) : SeqAt.shaped (.list (dsTell m qs)) = true := by
  have a := sml_tell hm hn hq hl
  have := a.dep
  refine shaped_of (by simp only [PyData.canLay0]; exact a.lay) ?_
  simp only [PyData.depth]
  omega
/-- what repr asks of the whole list -/
theorem repr_tell {m n : Nat} {qs : List Qn} (hm : m ≤ 3) (hn : n ≤ 600) (hq : ∀ q ∈ qs, QOk q n) (hl : qs.length ≤ 500) : (PyData.list (dsTell m qs)).showable = true ∧ (PyData.list (dsTell m qs)).hasDict = false ∧ (PyData.list (dsTell m qs)).depth ≤ 60 ∧ (PyData.list (dsTell m qs)).shown.length ≤ sizeLine := by
  have a := sml_tell hm hn hq hl
  have := a.dep
  have := a.bk
  refine ⟨by simp only [PyData.showable]; exact a.sho, PyData.hasDict_of_canLay _ (by simp only [PyData.canLay0]; exact a.lay), by simp only [PyData.depth]; omega, PyData.shown_fits_bulk (B := 8) (by decide) (by decide) (by simp only [PyData.leavesShort]; exact a.sh) ?_⟩
  simp only [PyData.bulk]
  omega
end Jc
namespace Jc
open PySem PySem.Spec L2
open PyProof.Rows hiding St
/-- a property of the class -/
structure OwnP (P : Program) (w : World) (K : PySem.W.Frag) (mg : Str → Option Value) (base : Heap) (C : Addr) (m : Str) (k : Nat) (sp : Sp) : Prop where
  ex : ∃ (p g : Addr) (fd : FuncData), PropOf K C m p g ∧ FnOk P w K mg base CX0 k g fd ["self"] sp ∧ Binds K fd ["self"] []
section
variable {X : Cx} {k j : Nat} {C : Addr} {m : Str} {sp : Sp} {pos : Pos} {o : Expr} {ta : TE}
theorem pe_opr (he : PE X o ta) (c : Cls X.K C) (h : OwnP X.prog X.w X.K X.mg X.base C m k sp) (hr : Room j X.A) (hj : k + 1 ≤ j) (hab : attributeBase o m X.env (eval o X.env) = eval o X.env := by rfl) : PE X (.Attribute o m pos) (tProp C sp [] E0 ta) := by
  obtain ⟨p, g, fd, hp, F, hb⟩ := h.ex
  exact pe_prop he c hp F (hr.mono hj) hb .nil pass0 hab
theorem call_lenM (h : OwnM X.prog X.w X.K X.mg X.base C "__len__" k sp) (hr : Room j X.A) (hj : k + 1 ≤ j) : CallR X (.builtin "len") (rLenOwn C sp) := by
  obtain ⟨f, hm, F⟩ := h.ex
  exact call_lenO hm.at_ hm.fn F (hr.mono hj)
end
theorem op_eqD' {X : Cx} {K : PySem.W.Frag} (h : X.K = K) : X.K = K := h
section
variable (P : Program) (w : World) (K : PySem.W.Frag) (C : Addr)
def spTells : Sp := fun vs H Q _ => ∃ (p so dx t d : Addr) (as as' : List Addr) (ks ks' : Qs), vs = [.ref p, .ref so, .int (as.length : Nat)] ∧ SymAt P w K C H p dx t d as ks ∧ TellAt K H so as' ks' ∧ as'.length = as.length ∧
  ks'.map (fun p => p.2) = ks.map (fun p => p.2) ∧ (∀ q ∈ ks.map (fun p => p.2), QOk q (as.length + ks.length)) ∧ ∀ H2, Same H H2 → Q (.bl true) H2
end
section
variable {P : Program} {w : World} {K : PySem.W.Frag} {mg : Str → Option Value} {base : Heap} {f C : Addr} {fd : FuncData} {t1 : Tok}
theorem cut_tail (xs ys : List V) : cutV (xs ++ ys) (some (xs.length : Nat)) none = ys := by
  have h : ¬ ((xs.length : Int) < 0) := by omega
  unfold cutV HT.sIx
  simp [h]
abbrev s_tells : Stmt := topS 17
abbrev N_tells : List Str := ["_law_made", "_law_some", "_law_size", "_law_told", "_law_k", "_law_one"]
theorem sc_tells : FnScope N_tells ["_law_made", "_law_some", "_law_size"] (defScope s_tells) := ⟨rfl, rfl, rfl, by decide +kernel, rfl, by decide +kernel, by decide +kernel⟩
theorem ok_tells (F : Fun K "_law_tells" "_law_tells" s_tells f fd) (B : Blt mg) (T : SC K mg C) (m_len : OwnM P w K mg base C "__len__" 1 (spLen P w K C)) (p_many : OwnP P w K mg base C "many" 1 (spMany P w K C)) (m_symbol : OwnM P w K mg base C "symbol" 4 (spSymbol P w K C))
    (k_symbol : OwnMK P w K mg base C "symbol" 4 ["number"] ["self", "number"] (spSymbol P w K C)) (m_number : OwnM P w K mg base C "number" 4 (spNumber P w K C)) :
    FnG P w K mg base 6 f fd ["_law_made", "_law_some", "_law_size"] (spTells P w K C) := by
  refine fnG_of F sc_tells (fun vs H Q E h => ?_) (fun us hl => ?_) (fun cdv A outer s H vs Q hr hq h => ?_)
  · obtain ⟨p, so, dx, t, d, as, as', ks, ks', rfl, _⟩ := h
    rfl
  · match us, hl with
    | [_, _, _], _ => rfl
  · obtain ⟨p, so, dx, t, d, as, as', ks, ks', rfl, S, L, e1, e2, ok, q⟩ := h
    have hu := hr.units
    refine ⟨_, (pss_cons (ps_if (PW.pt (pw_or (pt_cmpR op_ne (pe_callB (call_lenM m_len hr (by decide)) rfl B.len bo_len (pa_cons (pv 0) pa_nil)) (pe_callB call_len_seq rfl B.len bo_len (pa_cons (pv 1) pa_nil)) (nomark _)) (pw_or1 (pt_cmpR op_ne (pe_opr (pv 0) T.cl p_many hr (by decide)) (pv 2) (nomark _))))) (pss_one (ps_ret pe_bl)) pss_nil)
      (pss_cons (ps_setLc (i := 3) (own := [("_law_k", 4)]) (g := gName 4) rfl sc_tells.nd rfl rfl (sw_true rfl rfl rfl (by decide +kernel)) (pi_range1 rfl B.range (pa_cons (pe_callB call_len_seq rfl B.len bo_len (pa_cons (pv 1) pa_nil)) pa_nil)) (blkOk_by (own := [("_law_k", 4)]) (N := N_tells) (sc := defScope s_tells) (by decide +kernel)) (fun _ _ _ _ _ => pg_name (i := 4) sc_tells.nd rfl (.inl rfl)) (fun _ _ _ _ _ => pts_nil) (fun _ _ _ _ _ => pe_om (pl := _) (pv 0) T.cl m_symbol hr (by decide) (pa_cons (pv 4) pa_nil)))
      (pss_cons (ps_if (PW.pt (pw_or (pt_cmpR op_ne (pe_callB (call_repr hq hu) rfl B.repr bo_repr (pa_cons (pv 3) pa_nil)) (pe_callB (call_repr hq hu) rfl B.repr bo_repr (pa_cons (pv 1) pa_nil)) (nomark _)) (pw_or1 (pt_cmpR (op_neD hr.units) (pe_omK (pl := _) (pv 0) T.cl k_symbol hr (by decide) (pk_cons pe_int pk_nil)) (pe_tup (pa_cons pe_int pa_nil)) (nomark _))))) (pss_one (ps_ret pe_bl)) pss_nil)
      (pss_cons (ps_for PassesOwn.never rfl (pi_enum rfl B.enumerate (pa_cons (pe_slice sl_list (pv 1) (po_some (pv 2)) po_none) pa_nil)) (pg_tup rfl (pgs_cons (pg_name (i := 4) sc_tells.nd rfl (.inl rfl)) (pgs_cons (pg_name (i := 5) sc_tells.nd rfl (.inl rfl)) pgs_nil)))
        (pss_one (ps_if (pt_cmpR op_ne (pe_om (pl := _) (pv 0) T.cl m_number hr (by decide) (pa_cons (pe_ix ix_tup (pv 5) pe_int (fun _ _ => rfl)) (pa_cons (pe_ix ix_tup (pv 5) pe_int (fun _ _ => rfl)) (pa_cons (pe_callTy call_list_of rfl B.list bo_list (pa_cons (pe_ix ix_tup (pv 5) pe_int (fun _ _ => rfl)) pa_nil)) pa_nil)))) (pe_op op_add (pv 2) (pv 4)) (nomark _)) (pss_one (ps_ret pe_bl)) pss_nil)))
      (pss_one (ps_ret (pe_cmpR op_eq (pe_callB (call_lenM m_len hr (by decide)) rfl B.len bo_len (pa_cons (pv 0) pa_nil)) (pe_callB call_len_seq rfl B.len bo_len (pa_cons (pv 1) pa_nil)) (nomark _)))))))), ?_⟩
    have hlen : (as.map V.ref ++ ks.map fun p => V.ref p.1).length = as.length + ks.length := by rw [List.length_append, List.length_map, List.length_map]
    have kl : ks'.length = ks.length := by have := congrArg List.length e2; rwa [List.length_map, List.length_map] at this
    have hlen' : (as'.map V.ref ++ ks'.map fun p => V.ref p.1).length = as.length + ks.length := by rw [List.length_append, List.length_map, List.length_map, e1, kl]
    have h3 := S.hi
    have h5 := S.few
    refine ⟨.ref p, rfl, p, dx, _, rfl, S.obj, p, dx, t, d, as, ks, rfl, S, as.length + ks.length, rfl, by omega, ?_⟩
    refine ⟨.ref so, rfl, so, _, rfl, .inl (.inl (.inl L.list)), ?_⟩
    rw [hlen']
    refine ⟨rfl, _, rfl, iteNS rfl ?_⟩
    refine ⟨.ref p, rfl, p, dx, _, rfl, S.obj, p, dx, t, d, as, ks, rfl, S, .int as.length, rfl, rfl, _, rfl, iteNS rfl ?_⟩
    refine ⟨.ref so, rfl, so, _, rfl, .inl (.inl (.inl L.list)), _, rfl, by omega, by rw [hlen']; omega, fun D hD => ?_⟩
    rw [hlen']
    refine lc_flat walk_range (fun i y => ∃ b, y = .ref b ∧ (as ++ ks.map (fun p => p.1))[i]? = some b) (by omega) hD (fun _ _ => trivial) ?_ ?_
    · rintro i y H2 H3 k hi s2 ⟨rfl, rfl⟩ kk
      have S2 := S.same s2
      refine ⟨rfl, .ref p, rfl, p, dx, _, rfl, S2.obj, rfl, .int (0 + (i : Int)), rfl, p, i, dx, t, d, as, ks, by rw [Int.zero_add], S2, by omega, fun b hb => kk _ _ (Same.refl _) ⟨b, rfl, hb⟩⟩
    · intro ys H2 hl hR s2 hy
      have ey : ys = as.map V.ref ++ ks.map fun p => V.ref p.1 := by
        have e : (as.map V.ref ++ ks.map fun p => V.ref p.1) = (as ++ ks.map (fun p => p.1)).map V.ref := by rw [List.map_append, List.map_map]; rfl
        rw [e]
        refine all_eq (by rw [hl, List.length_map, List.length_append, List.length_map]; omega) fun i a b ha hb => ?_
        obtain ⟨c, rfl, hc⟩ := hR i a ha
        rw [List.getElem?_map, hc] at hb
        exact Option.some.inj hb
      have S2 := S.same s2
      have L2 := L.same s2
      have D2 : TellAt K H2 D as ks := ⟨by rw [hy, ey], S2.told.ones, S2.told.keys⟩
      have dpD := D2.dp
      have dpS := L2.dp
      rw [e1, e2] at dpS
      obtain ⟨r1, r2, r3, r4⟩ := repr_tell (m := as.length) (n := as.length + ks.length) h3 (by omega) ok (by rw [List.length_map]; exact h5)
      refine ⟨.ref D, rfl, _, _, rfl, dpD, r1, r2, r3, r4, .ref so, rfl, _, _, rfl, dpS, r1, r2, r3, r4, rfl, _, rfl, iteNS rfl ?_⟩
      refine ⟨.ref p, rfl, p, dx, _, rfl, S2.obj, rfl, rfl, p, 0, dx, t, d, as, ks, rfl, S2, by have := S.lo; omega, fun b hb => ⟨le_line (by show 1 ≤ 1000000; decide), fun z nz => ?_⟩⟩
      have hb0 : SqT K H2 b [.int 0] := by
        refine S2.told.ones 0 b ?_
        rw [List.getElem?_append_left (by have := S.lo; omega)] at hb
        exact hb
      have s3 : Same H2 (upd H2 z (.tup [.int 0])) := same_new nz
      refine ⟨.tuple [.int 0], .tuple [.int 0], .tup (seqT' s3 hb0) (.cons (.int 0) .nil), .tup (.inl (.inl upd_same)) (.cons (.int 0) .nil), by decide, by decide, _, rfl, iteF ?_⟩
      have S3 := S2.same s3
      have L3 := L2.same s3
      generalize upd H2 z (.tup [.int 0]) = H3 at s3 S3 L3
      refine ⟨.ref so, rfl, .int as.length, rfl, as.length, rfl, so, _, rfl, .inl (.inl L3.list), fun cl ncl => ⟨cl, _, rfl, .inl (.inl upd_same), ?_⟩⟩
      have ec : cutV (as'.map V.ref ++ ks'.map fun p => V.ref p.1) (some ((as.length : Nat) : Int)) none = ks'.map fun p => V.ref p.1 := by
        rw [← e1, ← List.length_map (f := V.ref) (as := as')]
        exact cut_tail _ _
      rw [ec]
      have hcl : (upd H3 cl (.lst (ks'.map fun p => V.ref p.1))) cl = some (.lst (ks'.map fun p => V.ref p.1)) := upd_same
      have s4 : Same H3 (upd H3 cl (.lst (ks'.map fun p => V.ref p.1))) := same_new ncl
      generalize upd H3 cl (.lst (ks'.map fun p => V.ref p.1)) = H4 at hcl s4
      have S4 := S3.same s4
      have L4 := L3.same s4
      refine for_it walk_enum (fun i σ H5 => Same H4 H5 ∧ ∃ y z, σ = [some (.ref p), some (.ref so), some (.int as.length), some (.ref D), y, z]) ⟨Same.refl _, _, _, rfl⟩ (fun _ _ _ _ z => .inl (.inl (z.1 _ _ hcl))) ?_ ?_
      · rintro i x σ H5 H6 hi ⟨s5, y, z, rfl⟩ ⟨T', a, b, rfl, nT, rfl, ha, hb⟩
        refine ⟨T', _, rfl, .inl (.inl upd_same), rfl, ?_⟩
        have ha' : some (V.int ((i : Nat) : Int)) = some a := ha
        cases ha'
        have hb' : (ks'.map fun p => V.ref p.1)[i]? = some b := hb
        rw [List.getElem?_map] at hb'
        obtain ⟨⟨bq, qn⟩, hpr, eb⟩ := Option.map_eq_some_iff.mp hb'
        cases eb
        have s6 : Same H4 (upd H5 T' (.tup [.int (i : Nat), .ref bq])) := s5.trans (same_new nT)
        have S6 := S4.same s6
        have L6 := L4.same s6
        have hq6 := L6.keys _ (List.mem_of_getElem? hpr)
        have hqi : (ks.map fun p => p.2)[i]? = some qn := by rw [← e2, List.getElem?_map, hpr]; rfl
        have okq := ok qn (List.mem_of_getElem? hqi)
        obtain ⟨u, r, g1, g2, g3⟩ := hq6
        generalize upd H5 T' (.tup [.int (i : Nat), .ref bq]) = H6 at s6 S6 L6 g1 g2 g3
        refine ⟨_, _, rfl, _, _, rfl, rfl, .ref p, rfl, p, dx, _, rfl, S6.obj, rfl, .ref bq, rfl, bq, _, 0, _, rfl, rfl, g1, rfl, .ref bq, rfl, bq, _, 1, _, rfl, rfl, g1, rfl, .ref bq, rfl, bq, _, 2, _, rfl, rfl, g1, rfl, r, _, rfl, .inr g3, fun l nl => ?_⟩
        have s7 : Same H6 (upd H6 l (.lst (qn.reads.map V.int))) := same_new nl
        refine ⟨p, u, l, dx, t, d, as, ks, qn, rfl, S6.same s7, seqT' s7 g2, .inl upd_same, by have := okq.len; omega, fun v hv => ?_, fun i' b' hi' H8 s8 => ?_, fun hn => absurd (List.mem_of_getElem? hqi) hn⟩
        · have := okq.reads v hv
          omega
        · have ei : i' = i := by
            have h1 : (ks.map fun p => p.2)[i']? = some qn := by rw [List.getElem?_map, hi']; rfl
            obtain ⟨l1, x1⟩ := List.getElem?_eq_some_iff.mp h1
            obtain ⟨l2, x2⟩ := List.getElem?_eq_some_iff.mp hqi
            rcases Nat.lt_trichotomy i' i with z | z | z
            · exact absurd (x1.trans x2.symm) (List.pairwise_iff_getElem.mp S.nodup i' i l1 l2 z)
            · exact z
            · exact absurd (x2.trans x1.symm) (List.pairwise_iff_getElem.mp S.nodup i i' l2 l1 z)
          subst ei
          refine ⟨.int as.length, rfl, .int i', rfl, _, _, rfl, rfl, ?_⟩
          exact ⟨rfl, _, rfl, iteNS (congrArg V.int (by omega)) ⟨s6.trans (s7.trans s8), _, _, rfl⟩⟩
      · rintro σ H5 ⟨s5, y, z, rfl⟩
        have S5 := S4.same s5
        have L5 := L4.same s5
        refine ⟨.ref p, rfl, p, dx, _, rfl, S5.obj, p, dx, t, d, as, ks, rfl, S5, as.length + ks.length, rfl, by omega, ?_⟩
        refine ⟨.ref so, rfl, so, _, rfl, .inl (.inl (.inl L5.list)), ?_⟩
        rw [hlen']
        refine ⟨rfl, ?_⟩
        rw [decide_eq_true rfl]
        exact q H5 (s2.trans (s3.trans (s4.trans s5)))
end
end Jc
namespace Jc
open PySem PySem.Spec L2
open PyProof.Rows hiding St
theorem idx_at {qs : List Qn} {q : Qn} {i : Nat} (nd : qs.Nodup) (h : qs[i]? = some q) : qs.idxOf q = i := by
  obtain ⟨l1, x1⟩ := List.getElem?_eq_some_iff.mp h
  have hm : q ∈ qs := List.mem_of_getElem? h
  have l2 := List.idxOf_lt_length_of_mem hm
  have x2 := List.getElem_idxOf l2
  rcases Nat.lt_trichotomy (qs.idxOf q) i with z | z | z
  · exact absurd (x2.trans x1.symm) (List.pairwise_iff_getElem.mp nd _ i l2 l1 z)
  · exact z
  · exact absurd (x1.trans x2.symm) (List.pairwise_iff_getElem.mp nd i _ l1 l2 z)
theorem idx_none {qs : List Qn} {q : Qn} (h : q ∉ qs) : qs.idxOf q = qs.length := List.idxOf_eq_length h
theorem tell_at {m : Nat} {qs : List Qn} {q : Qn} (h : q ∈ qs) : (dsTell m qs)[m + qs.idxOf q]? = some (dQ q) := by
  have hl := List.idxOf_lt_length_of_mem h
  rw [dsTell, List.getElem?_append_right (by rw [List.length_map, List.length_range]; omega), List.length_map, List.length_range, Nat.add_sub_cancel_left, List.getElem?_map, List.getElem?_eq_getElem hl, List.getElem_idxOf hl]
  rfl
theorem tell_no {m k : Nat} {qs : List Qn} {q : Qn} {z : PyData} (hk : k < m + qs.idxOf q) (h : (dsTell m qs)[k]? = some z) : PyData.eqv z (dQ q) = false := by
  rw [dsTell] at h
  by_cases hm : k < m
  · rw [List.getElem?_append_left (by rw [List.length_map, List.length_range]; exact hm), List.getElem?_map] at h
    obtain ⟨i, _, rfl⟩ := Option.map_eq_some_iff.mp h
    exact eqv_oq _ _
  · rw [List.getElem?_append_right (by rw [List.length_map, List.length_range]; omega), List.length_map, List.length_range, List.getElem?_map] at h
    obtain ⟨x, hx, rfl⟩ := Option.map_eq_some_iff.mp h
    rw [eqv_q]
    refine decide_eq_false fun e => ?_
    subst e
    have h3 := List.not_of_lt_findIdx (p := (· == x)) (xs := qs) (i := k - m) (show k - m < qs.idxOf x by omega)
    obtain ⟨h1, h2⟩ := List.getElem?_eq_some_iff.mp hx
    rw [h2] at h3
    simp at h3
/-- the questions behind one more -/
def addQ (ks : Qs) (b : Addr) (q : Qn) : Qs := if q ∈ ks.map (fun p => p.2) then ks else ks ++ [(b, q)]
theorem addQ_in {ks : Qs} {b : Addr} {q : Qn} (h : q ∈ ks.map (fun p => p.2)) : addQ ks b q = ks := if_pos h
theorem addQ_new {ks : Qs} {b : Addr} {q : Qn} (h : q ∉ ks.map (fun p => p.2)) : addQ ks b q = ks ++ [(b, q)] := if_neg h
theorem addQ_len (ks : Qs) (b : Addr) (q : Qn) : ks.length ≤ (addQ ks b q).length ∧ (addQ ks b q).length ≤ ks.length + 1 := by
  unfold addQ
  split
  · omega
  · rw [List.length_append, List.length_singleton]; omega
theorem addQ_snd {ks ks' : Qs} {b b' : Addr} {q : Qn} (h : ks'.map (fun p => p.2) = ks.map (fun p => p.2)) : (addQ ks' b' q).map (fun p => p.2) = (addQ ks b q).map (fun p => p.2) := by
  by_cases c : q ∈ ks.map (fun p => p.2)
  · rw [addQ_in c, addQ_in (by rw [h]; exact c), h]
  · rw [addQ_new c, addQ_new (by rw [h]; exact c), List.map_append, List.map_append, h]
    rfl
theorem addQ_mem {ks : Qs} {b : Addr} {q x : Qn} (h : x ∈ (addQ ks b q).map (fun p => p.2)) : x ∈ ks.map (fun p => p.2) ∨ x = q := by
  by_cases c : q ∈ ks.map (fun p => p.2)
  · rw [addQ_in c] at h
    exact .inl h
  · rw [addQ_new c, List.map_append] at h
    rcases List.mem_append.mp h with z | z
    · exact .inl z
    · exact .inr (List.mem_singleton.mp z)
theorem addQ_idx {ks : Qs} {b : Addr} {q : Qn} : ((addQ ks b q).map (fun p => p.2))[(ks.map (fun p => p.2)).idxOf q]? = some q := by
  by_cases c : q ∈ ks.map (fun p => p.2)
  · rw [addQ_in c]
    have hl := List.idxOf_lt_length_of_mem c
    rw [List.getElem?_eq_getElem hl, List.getElem_idxOf hl]
  · rw [addQ_new c, idx_none c, List.map_append, List.getElem?_append_right (Nat.le_refl _), Nat.sub_self]
    rfl
theorem QOk.mono {q : Qn} {n m : Nat} (h : QOk q n) (hl : n ≤ m) : QOk q m := ⟨h.title, h.place, h.len, fun v hv => ⟨(h.reads v hv).1, by have := (h.reads v hv).2; omega⟩⟩
section
variable (P : Program) (w : World) (K : PySem.W.Frag) (C : Addr)
def spAsked : Sp := fun vs H Q _ => ∃ (pot p so dx t d : Addr) (as as' : List Addr) (ks ks' : Qs), vs = [.ref pot, .ref p, .ref so] ∧ Pot H pot ∧ SymAt P w K C H p dx t d as ks ∧ TellAt K H so as' ks' ∧ as'.length = as.length ∧
  ks'.map (fun p => p.2) = ks.map (fun p => p.2) ∧ so ≠ t ∧ ks.length < 400 ∧ (∀ q ∈ ks.map (fun p => p.2), QOk q (as.length + ks.length)) ∧
  ∀ H2 ks2 ks2', But [t, d, so] H H2 → SymAt P w K C H2 p dx t d as ks2 → TellAt K H2 so as' ks2' → ks2'.map (fun p => p.2) = ks2.map (fun p => p.2) → (∀ q ∈ ks2.map (fun p => p.2), QOk q (as.length + ks2.length)) → ks2.length ≤ ks.length + 1 → Q (.bl true) H2
end
section
variable {P : Program} {w : World} {K : PySem.W.Frag} {mg : Str → Option Value} {base : Heap} {f C : Addr} {fd : FuncData} {t1 : Tok}
/-- number, whatever the list or tuple of numbers is -/
theorem ask_number {P : Program} {w : World} {K : PySem.W.Frag} {C : Addr} {H : Hp} {Q : VK} {p u rr dx t d : Addr} {as : List Addr} {ks : Qs} {qn : Qn} (S : SymAt P w K C H p dx t d as ks) (hu : SqT K H u (qn.place.map kV))
    (hr : H rr = some (.lst (qn.reads.map V.int)) ∨ H rr = some (.tup (qn.reads.map V.int))) (okq : QOk qn (as.length + ks.length)) (hl : ks.length < 400)
    (k : ∀ b' H2, But [t, d] H H2 → SymAt P w K C H2 p dx t d as (addQ ks b' qn) → Q (.int ((as.length + (ks.map fun p => p.2).idxOf qn : Nat) : Int)) H2) :
    spNumber P w K C [.ref p, .str qn.title, .ref u, .ref rr] H Q E0 := by
  refine ⟨p, u, rr, dx, t, d, as, ks, qn, rfl, S, hu, hr, by have := okq.len; omega, okq.reads, fun i b hi H2 s2 => ?_, fun hn => ⟨by omega, fun b H2 bt S2 => ?_⟩⟩
  · have hi2 : (ks.map fun p => p.2)[i]? = some qn := by rw [List.getElem?_map, hi]; rfl
    have := k b H2 (fun x o _ e => s2 x o e) (by rw [addQ_in (List.mem_of_getElem? hi2)]; exact S.same s2)
    rwa [idx_at S.nodup hi2] at this
  · have := k b H2 bt (by rw [addQ_new hn]; exact S2)
    rwa [idx_none hn, List.length_map] at this
abbrev s_asked : Stmt := topS 18
abbrev N_asked : List Str := ["_law_pot_here", "_law_made", "_law_some", "_law_title", "_law_place", "_law_seen", "_law_key", "_law_due", "_law_way", "_law_passed_on", "_law_told"]
theorem sc_asked : FnScope N_asked ["_law_pot_here", "_law_made", "_law_some"] (defScope s_asked) := ⟨rfl, rfl, rfl, by decide +kernel, rfl, by decide +kernel, by decide +kernel⟩
theorem ok_asked (F : Fun K "_law_asked_right" "_law_asked_right" s_asked f fd) (B : Blt mg) (T : SC K mg C) (m_len : OwnM P w K mg base C "__len__" 1 (spLen P w K C)) (m_symbol : OwnM P w K mg base C "symbol" 4 (spSymbol P w K C))
    (k_number : OwnMK P w K mg base C "number" 4 ["reads", "where", "label"] ["self", "label", "where", "reads"] (spNumber P w K C)) (m_number : OwnM P w K mg base C "number" 4 (spNumber P w K C))
    (c_draw : Own P w K mg base "_law_draw" 1 ["_law_pot_here", "_law_size"] spDraw) (c_quest : Own P w K mg base "_law_question" 4 ["_law_pot_here", "_law_some"] (spQuest K)) :
    FnG P w K mg base 6 f fd ["_law_pot_here", "_law_made", "_law_some"] (spAsked P w K C) := by
  refine fnG_of F sc_asked (fun vs H Q E h => ?_) (fun us hl => ?_) (fun cdv A outer s H vs Q hr hq h => ?_)
  · obtain ⟨pot, p, so, dx, t, d, as, as', ks, ks', rfl, _⟩ := h
    rfl
  · match us, hl with
    | [_, _, _], _ => rfl
  · obtain ⟨pot, p, so, dx, t, d, as, as', ks, ks', rfl, hp, S, L, e1, e2, hst, hlk, ok, q⟩ := h
    have hu := hr.units
    have hU : (A.deeper (envOfC (Str.ofString "_law_asked_right") (defScope s_asked) s.heap.objs.size f cdv)).units + 65 < cLine := by have := hr.un; omega
    refine ⟨_, (pss_cons (ps_asg (pe_own c_quest hr hq (by decide) (pa_cons (pv 0) (pa_cons (pv 2) pa_nil))) (pg_tup rfl (pgs_cons (pg_name (i := 3) sc_asked.nd rfl (.inl rfl)) (pgs_cons (pg_name (i := 4) sc_asked.nd rfl (.inl rfl)) (pgs_cons (pg_name (i := 5) sc_asked.nd rfl (.inl rfl)) pgs_nil)))))
      (pss_cons (ps_set (i := 6) sc_asked.nd rfl (.inl rfl) (pe_tup (pa_cons (pv 3) (pa_cons (pv 4) (pa_cons (pe_callTy call_tuple_of rfl B.tuple bo_tuple (pa_cons (pv 5) pa_nil)) pa_nil)))))
      (Evl.pss_cut (ps_set (i := 7) sc_asked.nd rfl (.inl rfl) (pe_ifExp (pt_cmpR (op_inD hU) (pv 6) (pv 2) rfl) (pe_bm PySem.F.plainAttrs_list PySem.F.slot_list_index PySem.F.type_list_index (mt_indexD hU) (pv 2) (pa_cons (pv 6) pa_nil)) (pe_callB call_len_seq rfl B.len bo_len (pa_cons (pv 2) pa_nil))))
      (Evl.pss_cut (ps_if (pt_cmpR (op_notInD hU) (pv 6) (pv 2) rfl) (pss_one (ps_expr (pe_bm PySem.F.plainAttrs_list PySem.F.slot_list_append PySem.F.type_list_append mt_append (pv 2) (pa_cons (pv 6) pa_nil)))) pss_nil)
      (pss_cons (ps_par (i := 8) (j := 9) rfl sc_asked.nd rfl rfl (by decide) rfl rfl (pa_cons (pe_own c_draw hr hq (by decide) (pa_cons (pv 0) (pa_cons pe_int pa_nil))) (pa_cons (pe_callTy call_list_of rfl B.list bo_list (pa_cons (pv 5) pa_nil)) pa_nil)) rfl)
      (Evl.pss_cut (ps_if (pt_cmpR op_eq (pv 8) pe_int (nomark _)) (pss_one (ps_set (i := 10) sc_asked.nd rfl (.inl rfl) (pe_om (pl := _) (pv 1) T.cl m_number hr (by decide) (pa_cons (pv 3) (pa_cons (pv 4) (pa_cons (pv 9) pa_nil))))))
        (pss_one (ps_set (i := 10) sc_asked.nd rfl (.inl rfl) (pe_ifExp (pt_cmpR op_eq (pv 8) pe_int (nomark _)) (pe_om (pl := _) (pv 1) T.cl m_number hr (by decide) (pa_cons (pv 3) (pa_cons (pv 4) (pa_cons (pe_callTy call_tuple_of rfl B.tuple bo_tuple (pa_cons (pv 5) pa_nil)) pa_nil)))) (pe_omK (pl := _) (pv 1) T.cl k_number hr (by decide) (pk_cons (pv 5) (pk_cons (pv 4) (pk_cons (pv 3) pk_nil))))))))
      (pss_cons (ps_expr (pe_bm PySem.F.plainAttrs_list PySem.F.slot_list_append PySem.F.type_list_append mt_append (pv 9) (pa_cons pe_int pa_nil)))
      (pss_cons (ps_expr (pe_bm0 PySem.F.plainAttrs_list PySem.F.slot_list_reverse PySem.F.type_list_reverse mt_reverse (pv 9)))
      (pss_one (ps_ret (pe_and (pe_cmpR op_eq (pe_callB (call_repr hq hu) rfl B.repr bo_repr (pa_cons (pv 10) pa_nil)) (pe_callB (call_repr hq hu) rfl B.repr bo_repr (pa_cons (pv 7) pa_nil)) (nomark _)) (pe_and (pe_cmpR (op_eqD hr.units) (pe_om (pl := _) (pv 1) T.cl m_symbol hr (by decide) (pa_cons (pv 7) pa_nil)) (pv 6) (nomark _)) (pe_one (pe_cmpR op_eq (pe_callB (call_lenM m_len hr (by decide)) rfl B.len bo_len (pa_cons (pv 1) pa_nil)) (pe_callB call_len_seq rfl B.len bo_len (pa_cons (pv 2) pa_nil)) (nomark _))))))))))))))), ?_⟩
    have h3 := S.hi
    have h1 := S.lo
    have kl : ks'.length = ks.length := by have := congrArg List.length e2; rwa [List.length_map, List.length_map] at this
    have hlen' : (as'.map V.ref ++ ks'.map fun p => V.ref p.1).length = as.length + ks.length := by rw [List.length_append, List.length_map, List.length_map, e1, kl]
    refine ⟨.ref pot, rfl, .ref so, rfl, pot, so, _, rfl, hp, .inl (.inl L.list), by omega, by omega, fun TT u r qn H1 s1 okq hT hu1 hr1 => ?_⟩
    rw [hlen'] at okq
    refine ⟨TT, _, rfl, .inl (.inl hT), rfl, _, _, rfl, _, _, rfl, _, _, rfl, rfl, ?_⟩
    refine ⟨.str qn.title, rfl, .ref u, rfl, .ref r, rfl, r, _, rfl, .inl ⟨.inl (.inl hr1), fun rt nrt => ⟨le_line (by show 3 ≤ 1000000; decide), fun b nb => ?_⟩⟩⟩
    have s2 : Same H1 (upd (upd H1 rt (.tup (qn.reads.map V.int))) b (.tup [.str qn.title, .ref u, .ref rt])) := (same_new nrt).trans (same_new nb)
    have kb : KeyAt K (upd (upd H1 rt (.tup (qn.reads.map V.int))) b (.tup [.str qn.title, .ref u, .ref rt])) b qn := ⟨u, rt, .inl (.inl upd_same), seqT' s2 hu1, seqT' (same_new nb) (.inl (.inl upd_same))⟩
    generalize upd (upd H1 rt (.tup (qn.reads.map V.int))) b (.tup [.str qn.title, .ref u, .ref rt]) = H3 at s2 kb
    have S3 := S.same (s1.trans s2)
    have L3 := L.same (s1.trans s2)
    have dpL := L3.dp
    rw [e1, e2] at dpL
    have hn6 : as.length + ks.length ≤ 600 := by omega
    have shQ := shaped_q hn6 okq
    have shL := shaped_tell (m := as.length) h3 hn6 ok (by rw [List.length_map]; omega)
    refine ⟨fun σ H4 => H4 = H3 ∧ σ = [some (.ref pot), some (.ref p), some (.ref so), some (.str qn.title), some (.ref u), some (.ref r), some (.ref b), some (.int ((as.length + (ks.map fun p => p.2).idxOf qn : Nat) : Int)), none, none, none], ?_, ?_⟩
    · refine ⟨.ref b, rfl, .ref so, rfl, dQ qn, _, dp_q kb, dpL, shQ, shL, _, rfl, ite2 (fun hc => ?_) (fun hc => ?_)⟩
      · rw [any_tell] at hc
        have hm := of_decide_eq_true hc
        exact ⟨.ref so, rfl, .inl ⟨rfl, _, .inl (.inl L3.list)⟩, .ref b, rfl, so, .ref b, dQ qn, _, _, dQ qn, rfl, rfl, dpL, dp_q kb, shL, shQ, tell_at hm, by rw [eqv_q]; exact decide_eq_true rfl, fun k z hk hz => tell_no hk hz, rfl, rfl⟩
      · rw [any_tell] at hc
        have hm : qn ∉ ks.map fun p => p.2 := by simpa using hc
        refine ⟨.ref so, rfl, so, _, rfl, .inl (.inl (.inl L3.list)), rfl, ?_⟩
        rw [hlen', idx_none hm, List.length_map]
        rfl
    · rintro σ H4 ⟨rfl, rfl⟩
      refine ⟨fun σ H5 => σ = [some (.ref pot), some (.ref p), some (.ref so), some (.str qn.title), some (.ref u), some (.ref r), some (.ref b), some (.int ((as.length + (ks.map fun p => p.2).idxOf qn : Nat) : Int)), none, none, none] ∧ But [so] H4 H5 ∧ TellAt K H5 so as' (addQ ks' b qn), ?_, ?_⟩
      · refine ⟨.ref b, rfl, .ref so, rfl, dQ qn, _, dp_q kb, dpL, shQ, shL, _, rfl, ite2 (fun hc => ?_) (fun hc => ?_)⟩
        · rw [any_tell] at hc
          have hm : qn ∉ ks.map fun p => p.2 := by simpa using hc
          refine ⟨.ref so, rfl, .inl ⟨rfl, _, .inl (.inl L3.list)⟩, .ref b, rfl, so, _, .ref b, rfl, rfl, L3.list, ?_, rfl, fun x o hx e => ?_, ?_⟩
          · rw [hlen']
            exact Nat.lt_of_lt_of_le (show _ < 1000000 by omega) (le_line (Nat.le_refl _))
          · rw [upd_ne (fun z => hx (by rw [z]; exact List.mem_singleton.mpr rfl))]
            exact e
          · have kp : Keep H4 (upd H4 so (.lst ((as'.map V.ref ++ ks'.map fun p => V.ref p.1) ++ [V.ref b]))) := fun x o st e => by
              rw [upd_ne (fun z => by rw [z, L3.list] at e; cases e; exact st)]
              exact e
            rw [addQ_new (by rw [e2]; exact hm)]
            refine ⟨?_, fun i c e => keep_seqT kp (L3.ones i c e), fun x hx => ?_⟩
            · rw [upd_same, List.map_append, List.append_assoc]
              rfl
            · rcases List.mem_append.mp hx with z | z
              · exact kp.key (L3.keys x z)
              · obtain rfl := List.mem_singleton.mp z
                exact kp.key kb
        · rw [any_tell] at hc
          have hm : qn ∈ ks.map fun p => p.2 := by simpa using hc
          exact ⟨rfl, fun x o _ e => e, by rw [addQ_in (by rw [e2]; exact hm)]; exact L3⟩
      · rintro σ H5 ⟨rfl, b5, L5⟩
        have kp5 : Keep H4 H5 := b5.keep fun x hx o e => by
          obtain rfl := List.mem_singleton.mp hx
          rw [L3.list] at e; cases e; exact fun z => z
        have hds : d ≠ so := fun z => by have := S3.dict; rw [z, L3.list] at this; cases this
        have in5 : ∀ {x o}, x ≠ so → H4 x = some o → H5 x = some o := fun h e => b5 _ _ (fun z => h (List.mem_singleton.mp z)) e
        have S5 := S3.to kp5 (by rw [S3.told.list, in5 (Ne.symm hst) S3.told.list]) (by rw [S3.dict, in5 hds S3.dict])
        have hr4 : H4 r = some (.lst (qn.reads.map V.int)) := s2 _ _ hr1
        have hps : pot ≠ so := fun z => by
          have h : H pot = some (.ext (potPhi pot)) := hp
          rw [z, L.list] at h
          cases h
        have hp5 : Pot H5 pot := in5 hps (s2 _ _ (s1 _ _ hp))
        have hr5 : H5 r = some (.lst (qn.reads.map V.int)) := by
          by_cases z : r = so
          · exfalso
            have h := L3.list
            rw [← z, hr4] at h
            have h' : qn.reads.map V.int = as'.map V.ref ++ ks'.map fun p => V.ref p.1 := by injection h with h; injection h
            cases as' with
            | nil => simp at e1; omega
            | cons a rest =>
              cases hrd : qn.reads with
              | nil => rw [hrd] at h'; cases h'
              | cons v vs => rw [hrd] at h'; cases h'
          · exact in5 z hr4
        have hrs : SqL K H5 r (qn.reads.map V.int) := .inl (.inl hr5)
        refine ⟨.ref pot, rfl, pot, 3, rfl, hp5, by decide, by decide, fun dd H6 d0 d1 s6 => ?_⟩
        refine ⟨.ref r, rfl, r, _, rfl, .inl (s6.seq hrs), fun l nl => ⟨_, _, rfl, ?_⟩⟩
        have S6 := S5.same s6
        have L6 := L5.same s6
        have kb6 := kp5.key kb |>.same fun _ _ z => seqT' s6 z
        have hu6 : SqT K H6 u (qn.place.map kV) := seqT' s6 (keep_seqT kp5 (seqT' s2 hu1))
        have s7 : Same H6 (upd H6 l (.lst (qn.reads.map V.int))) := same_new nl
        have hl7 : (upd H6 l (.lst (qn.reads.map V.int))) l = some (.lst (qn.reads.map V.int)) := upd_same
        have hrs7 := s7.seq (s6.seq hrs)
        have hr7 := s7 _ _ (s6 _ _ hr5)
        generalize upd H6 l (.lst (qn.reads.map V.int)) = H7 at s7 hl7 hrs7 hr7
        have S7 := S6.same s7
        have L7 := L6.same s7
        have hu7 := seqT' s7 hu6
        have kb7 := kb6.same fun _ _ z => seqT' s7 z
        have hlt : l ≠ t := fun z => by rw [z, S6.told.list] at nl; cases nl
        have hld : l ≠ d := fun z => by rw [z, S6.dict] at nl; cases nl
        refine ⟨fun σ H8 => σ = [some (.ref pot), some (.ref p), some (.ref so), some (.str qn.title), some (.ref u), some (.ref r), some (.ref b), some (.int ((as.length + (ks.map fun p => p.2).idxOf qn : Nat) : Int)), some (.int dd), some (.ref l), some (.int ((as.length + (ks.map fun p => p.2).idxOf qn : Nat) : Int))] ∧
          But [t, d] H7 H8 ∧ ∃ b', SymAt P w K C H8 p dx t d as (addQ ks b' qn), ?_, ?_⟩
        · refine ⟨.int dd, rfl, rfl, _, rfl, ite2 (fun hc => ?_) (fun hc => ?_)⟩
          · refine ⟨.ref p, rfl, p, dx, _, rfl, S7.obj, rfl, .str qn.title, rfl, .ref u, rfl, .ref l, rfl, ?_⟩
            dsimp only [tNil, List.reverse_cons, List.reverse_nil, List.nil_append, List.cons_append]
            exact ask_number S7 hu7 (.inl hl7) okq hlk fun b' H8 b8 S8 => ⟨rfl, b8, b', S8⟩
          · refine ⟨.int dd, rfl, rfl, _, rfl, ite2 (fun hc => ?_) (fun hc => ?_)⟩
            · refine ⟨.ref p, rfl, p, dx, _, rfl, S7.obj, rfl, .str qn.title, rfl, .ref u, rfl, .ref r, rfl, r, _, rfl, .inl ⟨hrs7, fun rt2 nr2 => ?_⟩⟩
              have s8 : Same H7 (upd H7 rt2 (.tup (qn.reads.map V.int))) := same_new nr2
              dsimp only [tNil, List.reverse_cons, List.reverse_nil, List.nil_append, List.cons_append]
              refine ask_number (S7.same s8) (seqT' s8 hu7) (.inr upd_same) okq hlk fun b' H8 b8 S8 => ⟨rfl, fun x o hx e => b8 x o hx (s8 x o e), b', S8⟩
            · refine ⟨.ref p, rfl, p, dx, _, rfl, S7.obj, rfl, .ref r, rfl, .ref u, rfl, .str qn.title, rfl, rfl, ?_⟩
              dsimp only [tNil, List.reverse_cons, List.reverse_nil, List.nil_append, List.cons_append]
              exact ask_number S7 hu7 (.inl hr7) okq hlk fun b' H8 b8 S8 => ⟨rfl, b8, b', S8⟩
        · rintro σ H8 ⟨rfl, b8, b', S8⟩
          have hl8 : H8 l = some (.lst (qn.reads.map V.int)) := b8 _ _ (by simp [hlt, hld]) hl7
          have hrl : qn.reads.length ≤ 3 := okq.len
          refine ⟨.ref l, rfl, .inl ⟨rfl, _, .inl (.inl hl8)⟩, l, _, _, rfl, rfl, hl8, ?_, ?_⟩
          · rw [List.length_map]
            exact Nat.lt_of_lt_of_le (show _ < 1000000 by omega) (le_line (Nat.le_refl _))
          refine ⟨.ref l, rfl, .inl ⟨rfl, _, .inl (.inl upd_same)⟩, l, _, rfl, rfl, upd_same, ?_⟩
          have all9 : ∀ x o, x ≠ l → H8 x = some o → (upd (upd H8 l (.lst (qn.reads.map V.int ++ [V.int 0]))) l (.lst (qn.reads.map V.int ++ [V.int 0]).reverse)) x = some o := fun x o h e => by
            rw [upd_ne h, upd_ne h]
            exact e
          have kp9 : Keep H8 (upd (upd H8 l (.lst (qn.reads.map V.int ++ [V.int 0]))) l (.lst (qn.reads.map V.int ++ [V.int 0]).reverse)) := fun x o st e => all9 x o (fun z => by rw [z, hl8] at e; cases e; exact st) e
          generalize upd (upd H8 l (.lst (qn.reads.map V.int ++ [V.int 0]))) l (.lst (qn.reads.map V.int ++ [V.int 0]).reverse) = H9 at all9 kp9
          have S9 := S8.to kp9 (by rw [S8.told.list, all9 _ _ (Ne.symm hlt) S8.told.list]) (by rw [S8.dict, all9 _ _ (Ne.symm hld) S8.dict])
          have kp8 : Keep H7 H8 := b8.keep fun x hx o e => by
            simp only [List.mem_cons, List.not_mem_nil, or_false] at hx
            rcases hx with rfl | rfl
            · rw [S7.told.list] at e; cases e; exact fun z => z
            · rw [S7.dict] at e; cases e; exact fun z => z
          have hls : l ≠ so := fun z => by rw [z, L6.list] at nl; cases nl
          have es8 : H7 so = H8 so := by rw [L7.list, b8 _ _ (by simp [hst, Ne.symm hds]) L7.list]
          have L8 := L7.to kp8 es8
          have L9 := L8.to kp9 (by rw [L8.list, all9 _ _ (Ne.symm hls) L8.list])
          have kb9 := kp9.key (kp8.key kb7)
          have esn := addQ_snd (b := b') (b' := b) (q := qn) e2
          have okn : ∀ x ∈ (addQ ks b' qn).map (fun p => p.2), QOk x (as.length + (addQ ks b' qn).length) := fun x hx => by
            have := (addQ_len ks b' qn).1
            rcases addQ_mem hx with z | z
            · exact (ok x z).mono (by omega)
            · rw [z]; exact okq.mono (by omega)
          have hq := q H9 (addQ ks b' qn) (addQ ks' b qn) (fun x o hx e => by
            simp only [List.mem_cons, List.not_mem_nil, or_false, not_or] at hx
            have e6 := s6 _ _ (in5 hx.2.2 (s2 _ _ (s1 _ _ e)))
            refine all9 x o (fun z => by rw [z, nl] at e6; cases e6) (b8 x o (by simp [hx.1, hx.2.1]) (s7 _ _ e6))) S9 L9 esn okn (addQ_len ks b' qn).2
          have ix := addQ_idx (ks := ks) (b := b') (q := qn)
          generalize hidx : (ks.map fun p => p.2).idxOf qn = idx at ix
          rw [List.getElem?_map] at ix
          obtain ⟨⟨b2, q2⟩, hb2, eq2⟩ := Option.map_eq_some_iff.mp ix
          obtain rfl : q2 = qn := eq2
          have hi2 := (List.getElem?_eq_some_iff.mp hb2).1
          have hf2 := S9.few
          have i0 : (0 : Int) ≤ ((as.length + idx : Nat) : Int) := by omega
          have i1 : ((as.length + idx : Nat) : Int) ≤ 1000 := by omega
          have sh := Nat.le_trans (short_nat i0 i1) (le_line (show 8 ≤ 1000000 by decide))
          refine ⟨_, rfl, _, _, rfl, .int _, shn_int i0 i1, rfl, Nat.zero_le _, sh, _, rfl, _, _, rfl, .int _, shn_int i0 i1, rfl, Nat.zero_le _, sh, rfl, ?_⟩
          rw [decide_eq_true rfl]
          refine ⟨_, rfl, .ref p, rfl, p, dx, _, rfl, S9.obj, rfl, .int _, rfl, p, as.length + idx, dx, t, d, as, _, rfl, S9, by omega, fun b3 hb3 => ?_⟩
          have hb3' : (addQ ks b' q2)[idx]? = some (b3, q2) := by
            rw [List.getElem?_append_right (by omega), Nat.add_sub_cancel_left, List.getElem?_map, hb2] at hb3
            cases hb3
            exact hb2
          refine ⟨.ref b, rfl, dQ q2, dQ q2, dp_q (S9.told.keys _ (List.mem_of_getElem? hb3')), dp_q kb9, shQ, shQ, ?_⟩
          rw [show PyData.eqv (dQ q2) (dQ q2) = true by rw [eqv_q]; exact decide_eq_true rfl]
          have hl9 : (as'.map V.ref ++ (addQ ks' b q2).map fun p => V.ref p.1).length = as.length + (addQ ks b' q2).length := by
            have := congrArg List.length esn
            rw [List.length_map, List.length_map] at this
            rw [List.length_append, List.length_map, List.length_map, e1, this]
          refine ⟨_, rfl, .ref p, rfl, p, dx, _, rfl, S9.obj, p, dx, t, d, as, _, rfl, S9, as.length + (addQ ks b' q2).length, rfl, by omega, .ref so, rfl, so, _, rfl, .inl (.inl (.inl L9.list)), ?_⟩
          rw [hl9]
          refine ⟨rfl, ?_⟩
          rw [decide_eq_true rfl]
          exact hq
end
end Jc
namespace Jc
open PySem PySem.Spec L2
open PyProof.Rows hiding St
structure OwnMkK (P : Program) (w : World) (K : PySem.W.Frag) (mg : Str → Option Value) (base : Heap) (C : Addr) (k : Nat) (a : Str) (sp : Sp) : Prop where
  ex : ∃ (f : Addr) (fd : FuncData), Mk K C f ∧ FnOk P w K mg base CX0 k f fd ["self", a] sp ∧ KBn K fd ["self", a] 1 [a] (fun us ws => us ++ ws) (fun vs zs => vs ++ zs)
theorem pe_oiK {X : Cx} {k j : Nat} {C : Addr} {x a : Str} {sp : Sp} {p pos : Pos} {kws : List Keyword} {tk : TA} (M : OwnMkK X.prog X.w X.K X.mg X.base C k a sp) (hr : Room j X.A) (hj : k + 1 ≤ j) (hm : X.mg x = some (.ref C)) (hkw : PK X kws tk) (hg : Gl X x := by rfl)
    (hall : (backToKw pos (keywordEach kws X.env)).all (·.1.isSome) = true := by rfl) (hks : (backToKw pos (keywordEach kws X.env)).filterMap (·.1) = [a] := by rfl) (hdb : (x == ("__debug__" : Str)) = false := by decide)
    (hpl : ((backTo pos (starEach [] X.env)).any (·.1) || (backToKw pos (keywordEach kws X.env)).any (·.1.isNone)) = false := by rfl) :
    PE X (.Call (.Name x p) [] kws pos) (tMakeK C 0 [a].length sp (fun vs zs => vs ++ zs) E0 tNil tk) := by
  obtain ⟨f, fd, hM, F, hb⟩ := M.ex
  exact pe_makeK0 hM F (hr.mono hj) hg hm hb pass0 hkw hall hks hdb hpl
/-- the symbols of an object and the law's own list of them -/
structure Both (P : Program) (w : World) (K : PySem.W.Frag) (C : Addr) (H : Hp) (p dx t d so : Addr) (as as' : List Addr) (ks ks' : Qs) : Prop where
  sym : SymAt P w K C H p dx t d as ks
  tell : TellAt K H so as' ks'
  len : as'.length = as.length
  eq : ks'.map (fun p => p.2) = ks.map (fun p => p.2)
  ok : ∀ q ∈ ks.map (fun p => p.2), QOk q (as.length + ks.length)
  ne : so ≠ t
section
variable {P : Program} {w : World} {K : PySem.W.Frag} {C : Addr} {H H2 : Hp} {p dx t d so : Addr} {as as' : List Addr} {ks ks' : Qs}
theorem Both.to (b : Both P w K C H p dx t d so as as' ks ks') (k : Keep H H2) (e1 : H t = H2 t) (e2 : H d = H2 d) (e3 : H so = H2 so) : Both P w K C H2 p dx t d so as as' ks ks' :=
  ⟨b.sym.to k e1 e2, b.tell.to k e3, b.len, b.eq, b.ok, b.ne⟩
theorem Both.same (b : Both P w K C H p dx t d so as as' ks ks') (s : Same H H2) : Both P w K C H2 p dx t d so as as' ks ks' := ⟨b.sym.same s, b.tell.same s, b.len, b.eq, b.ok, b.ne⟩
/-- what changes there changes nothing that stays -/
theorem Both.keep (b : Both P w K C H p dx t d so as as' ks ks') (f : But [t, d, so] H H2) : Keep H H2 := f.keep fun x hx o e => by
  simp only [List.mem_cons, List.not_mem_nil, or_false] at hx
  rcases hx with rfl | rfl | rfl
  · rw [b.sym.told.list] at e; cases e; exact fun z => z
  · rw [b.sym.dict] at e; cases e; exact fun z => z
  · rw [b.tell.list] at e; cases e; exact fun z => z
theorem Both.out (b : Both P w K C H p dx t d so as as' ks ks') {p2 dx2 t2 d2 so2 : Addr} {bs bs' : List Addr} {kz kz' : Qs} (c : Both P w K C H p2 dx2 t2 d2 so2 bs bs' kz kz') (f : But [t, d, so] H H2) (h1 : t2 ≠ t) (h2 : t2 ≠ so) (h3 : d2 ≠ d) (h4 : so2 ≠ t) (h5 : so2 ≠ so) : Both P w K C H2 p2 dx2 t2 d2 so2 bs bs' kz kz' := by
  have k := b.keep f
  have td : t2 ≠ d := fun z => by have := c.sym.told.list; rw [z, b.sym.dict] at this; cases this
  have sd : so2 ≠ d := fun z => by have := c.tell.list; rw [z, b.sym.dict] at this; cases this
  have dt : d2 ≠ t := fun z => by have := c.sym.dict; rw [z, b.sym.told.list] at this; cases this
  have ds : d2 ≠ so := fun z => by have := c.sym.dict; rw [z, b.tell.list] at this; cases this
  exact c.to k (by rw [c.sym.told.list, f _ _ (by simp [h1, td, h2]) c.sym.told.list]) (by rw [c.sym.dict, f _ _ (by simp [dt, h3, ds]) c.sym.dict]) (by rw [c.tell.list, f _ _ (by simp [h4, sd, h5]) c.tell.list])
theorem both_tells {Q : VK} (b : Both P w K C H p dx t d so as as' ks ks') (q : ∀ H2, Same H H2 → Q (.bl true) H2) : spTells P w K C [.ref p, .ref so, .int (as.length : Nat)] H Q E0 :=
  ⟨p, so, dx, t, d, as, as', ks, ks', rfl, b.sym, b.tell, b.len, b.eq, b.ok, q⟩
theorem both_asked {Q : VK} {pot : Addr} (hp : Pot H pot) (b : Both P w K C H p dx t d so as as' ks ks') (hl : ks.length < 400) (q : ∀ H2 ks2 ks2', But [t, d, so] H H2 → Both P w K C H2 p dx t d so as as' ks2 ks2' → ks2.length ≤ ks.length + 1 → Q (.bl true) H2) :
    spAsked P w K C [.ref pot, .ref p, .ref so] H Q E0 :=
  ⟨pot, p, so, dx, t, d, as, as', ks, ks', rfl, hp, b.sym, b.tell, b.len, b.eq, b.ne, hl, b.ok, fun H2 ks2 ks2' f S L e o l => q H2 ks2 ks2' f ⟨S, L, b.len, e, o, b.ne⟩ l⟩
end
def spRight : Sp := fun vs H Q _ => ∃ a, vs = [.ref a] ∧ Pot H a ∧ ∀ H2, Same H H2 → Q (.bl true) H2
section
variable {P : Program} {w : World} {K : PySem.W.Frag} {mg : Str → Option Value} {base : Heap} {f C : Addr} {fd : FuncData} {t1 : Tok}
abbrev s_right : Stmt := topS 19
abbrev N_right : List Str := ["_law_pot_here", "_law_size", "_law_made", "_law_some", "_law_k", "_law_turn", "_law_other", "_law_more", "_law_one", "_law_own"]
theorem sc_right : FnScope N_right ["_law_pot_here"] (defScope s_right) := ⟨rfl, rfl, rfl, by decide +kernel, rfl, by decide +kernel, by decide +kernel⟩
theorem ok_right (F : Fun K "_law_right" "_law_right" s_right f fd) (B : Blt mg) (T : SC K mg C) (c_draw : Own P w K mg base "_law_draw" 1 ["_law_pot_here", "_law_size"] spDraw) (c_tells : Own P w K mg base "_law_tells" 6 ["_law_made", "_law_some", "_law_size"] (spTells P w K C))
    (c_asked : Own P w K mg base "_law_asked_right" 6 ["_law_pot_here", "_law_made", "_law_some"] (spAsked P w K C)) (m_len : OwnM P w K mg base C "__len__" 1 (spLen P w K C)) (m_copy : OwnM0 P w K mg base C "copy" 4 (spCopy P w K C))
    (M : OwnI P w K mg base C 2 (spInit31 P w K C)) (Mk : OwnMkK P w K mg base C 2 "many" (spInit31 P w K C)) : FnG P w K mg base 7 f fd ["_law_pot_here"] spRight := by
  refine fnG_of F sc_right (fun vs H Q E h => ?_) (fun us hl => ?_) (fun cdv A outer s H vs Q hr hq h => ?_)
  · obtain ⟨p, rfl, _⟩ := h
    rfl
  · match us, hl with
    | [_], _ => rfl
  · obtain ⟨pot, rfl, hp, q⟩ := h
    refine ⟨_, (pss_cons (ps_set (i := 1) sc_right.nd rfl (.inl rfl) (pe_op op_add pe_int (pe_own c_draw hr hq (by decide) (pa_cons (pv 0) (pa_cons pe_int pa_nil)))))
      (pss_cons (ps_par (i := 2) (j := 3) rfl sc_right.nd rfl rfl (by decide) rfl rfl (pa_cons (pe_oi M hr (by decide) T.mc (pa_cons (pv 1) pa_nil)) (pa_cons (pe_lc (own := [("_law_k", 4)]) (g := gName 4) rfl sc_right.nd (pi_range1 rfl B.range (pa_cons (pv 1) pa_nil)) (blkOk_by (own := [("_law_k", 4)]) (N := N_right) (sc := defScope s_right) (by decide +kernel)) (fun _ _ _ _ _ => pg_name (i := 4) sc_right.nd rfl (.inl rfl)) (fun _ _ _ _ _ => pts_nil) (fun _ _ _ _ _ => pe_tup (pa_cons (pv 4) pa_nil))) pa_nil)) rfl)
      (pss_cons (ps_if (PW.pt (pw_or (pt_not (pt_val (pe_own c_tells hr hq (by decide) (pa_cons (pv 2) (pa_cons (pv 3) (pa_cons (pv 1) pa_nil)))))) (pw_or1 (pt_cmpR op_ne (pe_callB (call_lenM m_len hr (by decide)) rfl B.len bo_len (pa_cons (pe_oiK Mk hr (by decide) T.mc (pk_cons (pv 1) pk_nil)) pa_nil)) (pv 1) (nomark _))))) (pss_one (ps_ret pe_bl)) pss_nil)
      (pss_cons (ps_for PassesOwn.never rfl (pi_range1 rfl B.range (pa_cons (pe_op op_add pe_int (pe_own c_draw hr hq (by decide) (pa_cons (pv 0) (pa_cons pe_int pa_nil)))) pa_nil)) (pg_name (i := 5) sc_right.nd rfl (.inl rfl)) (pss_one (ps_if (pt_not (pt_val (pe_own c_asked hr hq (by decide) (pa_cons (pv 0) (pa_cons (pv 2) (pa_cons (pv 3) pa_nil)))))) (pss_one (ps_ret pe_bl)) pss_nil)))
      (pss_cons (ps_par (i := 6) (j := 7) rfl sc_right.nd rfl rfl (by decide) rfl rfl (pa_cons (pe_om0 (pl := _) (pv 2) T.cl m_copy hr (by decide)) (pa_cons (pe_callTy call_list_of rfl B.list bo_list (pa_cons (pv 3) pa_nil)) pa_nil)) rfl)
      (pss_cons (ps_for PassesOwn.never rfl (pi_range1 rfl B.range (pa_cons pe_int pa_nil)) (pg_name (i := 5) sc_right.nd rfl (.inl rfl)) (pss_cons (ps_asg (pe_ifExp (pt_cmpR op_eq (pe_own c_draw hr hq (by decide) (pa_cons (pv 0) (pa_cons pe_int pa_nil))) pe_int (nomark _)) (pe_tup (pa_cons (pv 2) (pa_cons (pv 3) pa_nil))) (pe_tup (pa_cons (pv 6) (pa_cons (pv 7) pa_nil)))) (pg_tup rfl (pgs_cons (pg_name (i := 8) sc_right.nd rfl (.inl rfl)) (pgs_cons (pg_name (i := 9) sc_right.nd rfl (.inl rfl)) pgs_nil))))
        (pss_one (ps_if (pt_not (pt_val (pe_own c_asked hr hq (by decide) (pa_cons (pv 0) (pa_cons (pv 8) (pa_cons (pv 9) pa_nil)))))) (pss_one (ps_ret pe_bl)) pss_nil))))
      (pss_one (ps_ret (pe_and (pe_own c_tells hr hq (by decide) (pa_cons (pv 2) (pa_cons (pv 3) (pa_cons (pv 1) pa_nil)))) (pe_one (pe_own c_tells hr hq (by decide) (pa_cons (pv 6) (pa_cons (pv 7) (pa_cons (pv 1) pa_nil)))))))))))))), ?_⟩
    refine ⟨.ref pot, rfl, pot, 3, rfl, hp, by decide, by decide, fun dd H0 d0 d1 s0 => ⟨_, _, rfl, rfl, ?_⟩⟩
    obtain ⟨m, em⟩ : ∃ m : Nat, 1 + dd = (m : Int) := ⟨(1 + dd).toNat, by omega⟩
    have eS : (fun i j : Int => V.int (i + j)) 1 dd = V.int (m : Int) := congrArg V.int em
    rw [eS]
    have m1 : 1 ≤ m := by omega
    have m3 : m ≤ 3 := by omega
    have hp0 : Pot H0 pot := s0 _ _ hp
    refine ⟨.int m, rfl, ?_⟩
    refine made31 m1 m3 fun p dx t d as H1 s1 np nt nd ob hlen S => ?_
    refine ⟨.int m, rfl, m, rfl, by omega, by omega, fun so nso => ?_⟩
    refine lc_rel walk_range (fun i y H => ∃ b, b ≠ so ∧ y = .ref b ∧ H b = some (.tup [.int (i : Nat)])) (by omega) nso (fun i y G1 G2 g ⟨b, hb, e1, e2⟩ => ⟨b, hb, e1, g _ _ hb e2⟩) (fun _ _ => trivial) ?_ ?_
    · rintro i y H2 H3 k hi s2 ⟨zs, hz⟩ ⟨rfl, rfl⟩ kk
      refine ⟨rfl, .int (0 + (i : Int)), rfl, le_line (by show 1 ≤ 1000000; decide), fun b nb => kk _ _ (same_new nb) ⟨b, fun e => ?_, rfl, by rw [upd_same, Int.zero_add]⟩⟩
      rw [e, hz] at nb
      cases nb
    · intro ys H2 hl hR s2 hy
      obtain ⟨as', ey, el, e3⟩ := refs_ex (R := fun i b => b ≠ so ∧ H2 b = some (.tup [.int (i : Nat)])) ys fun i y e => by
        obtain ⟨b, a1, a2, a3⟩ := hR i y e
        exact ⟨b, a2, a1, a3⟩
      have L : TellAt K H2 so as' [] := ⟨by rw [hy, ey]; simp, fun i b e => .inl (.inl (e3 i b e).2), fun x hx => nomatch hx⟩
      have hlas : as'.length = as.length := by rw [el, hl, hlen]; simp
      have sot : so ≠ t := fun z => by rw [z, S.told.list] at nso; cases nso
      have B0 : Both P w K C H2 p dx t d so as as' [] [] := ⟨S.same s2, L, hlas, rfl, (fun x hx => nomatch hx), sot⟩
      have nso0 : H0 so = none := by
        cases z : H0 so with
        | none => rfl
        | some o => rw [s1 _ _ z] at nso; cases nso
      have s02 := s1.trans s2
      refine ⟨_, _, rfl, ?_⟩
      subst hlen
      refine ⟨.ref p, rfl, .ref so, rfl, .int as.length, rfl, ?_⟩
      dsimp only [tNil]
      refine both_tells B0 fun H3 s3 => ⟨_, rfl, ?_⟩
      refine ⟨.int as.length, rfl, rfl, rfl, made31 m1 m3 fun p2 dx2 t2 d2 as2 H4 s4 np2 nt2 nd2 ob2 hl2 S2 => ⟨p2, dx2, _, rfl, ob2, p2, dx2, t2, d2, as2, [], rfl, S2, as2.length, rfl, by omega, .int as.length, rfl, rfl, _, rfl, iteNS (congrArg V.int (by rw [hl2]; rfl)) ?_⟩⟩
      have B4 := (B0.same s3).same s4
      have s04 := s02.trans (s3.trans s4)
      have hp4 : Pot H4 pot := s04 _ _ hp0
      have np0 : H0 p = none := np
      refine ⟨.ref pot, rfl, pot, 15, rfl, hp4, by decide, by decide, fun g2 H5 e0 e1 s5 => ⟨_, _, rfl, rfl, 2 + g2, rfl, by omega, by omega, ?_⟩⟩
      have B5 := B4.same s5
      have hp5 : Pot H5 pot := s5 _ _ hp4
      have pt : ∀ {b}, H0 b = none → pot ≠ b := fun h z => by
        have z2 : H0 pot = some (.ext (potPhi pot)) := hp0
        rw [z, h] at z2
        cases z2
      have pot3 : pot ∉ [t, d, so] := by simp [pt nt, pt nd, pt nso0]
      refine for_it walk_range (fun i σ H6 => ∃ y ks ks', σ = [some (.ref pot), some (.int as.length), some (.ref p), some (.ref so), none, y, none, none, none, none] ∧ But [t, d, so] H5 H6 ∧ Both P w K C H6 p dx t d so as as' ks ks' ∧ ks.length ≤ i) ⟨_, _, _, rfl, fun b o _ e => e, B5, Nat.le_refl _⟩ (fun _ _ _ _ _ => trivial) ?_ ?_
      · rintro i x σ H6 H7 hi ⟨y, ks, ks', rfl, f6, B6, l6⟩ ⟨rfl, hx⟩
        refine ⟨.ref pot, rfl, .ref p, rfl, .ref so, rfl, ?_⟩
        dsimp only [tNil]
        refine both_asked (f6 _ _ pot3 hp5) B6 (by omega) fun H8 ks2 ks2' f8 B8 l8 => ⟨_, rfl, ?_⟩
        exact ⟨_, _, _, rfl, fun b o h e => f8 b o h (f6 b o h e), B8, by omega⟩
      · rintro σ H6 ⟨y, ks, ks', rfl, f6, B6, l6⟩
        have l6' : ks.length ≤ 16 := by omega
        have old6 : ∀ b o, H0 b = some o → H6 b = some o := fun b o e => f6 b o (by
          simp only [List.mem_cons, List.not_mem_nil, or_false, not_or]
          exact ⟨fun z => (by rw [z, nt] at e; cases e), fun z => (by rw [z, nd] at e; cases e), fun z => (by rw [z, nso0] at e; cases e)⟩) (s5 _ _ (s04 _ _ e))
        refine ⟨.ref p, rfl, p, dx, _, rfl, B6.sym.obj, rfl, p, dx, t, d, as, ks, rfl, B6.sym, fun p' dx' t' d' H7 s7 np' nt' nd' S7 => ?_⟩
        have B7 := B6.same s7
        refine ⟨.ref so, rfl, so, _, rfl, .inl (.inl (.inl B7.tell.list)), fun mo nmo => ⟨_, _, rfl, ?_⟩⟩
        have s8 : Same H7 (upd H7 mo (.lst (as'.map V.ref ++ ks'.map fun p => V.ref p.1))) := same_new nmo
        have hmo : (upd H7 mo (.lst (as'.map V.ref ++ ks'.map fun p => V.ref p.1))) mo = some (.lst (as'.map V.ref ++ ks'.map fun p => V.ref p.1)) := upd_same
        generalize upd H7 mo (.lst (as'.map V.ref ++ ks'.map fun p => V.ref p.1)) = H8 at s8 hmo
        have B8 := B7.same s8
        have n7 : ∀ {b o}, H7 b = some o → mo ≠ b := fun e z => by rw [z] at nmo; rw [e] at nmo; cases nmo
        have n6 : ∀ {b c o}, H6 b = none → H6 c = some o → b ≠ c := fun e e2 z => by rw [z, e2] at e; cases e
        have C8 : Both P w K C H8 p' dx' t' d' mo as as' ks ks' := ⟨S7.same s8, ⟨hmo, B8.tell.ones, B8.tell.keys⟩, B8.len, B8.eq, B8.ok, n7 S7.told.list⟩
        have x1 : t' ≠ t := n6 nt' B6.sym.told.list
        have x2 : t' ≠ so := n6 nt' B6.tell.list
        have x3 : d' ≠ d := n6 nd' B6.sym.dict
        have x4 : mo ≠ t := n7 B7.sym.told.list
        have x5 : mo ≠ so := n7 B7.tell.list
        have hp6 : H6 pot = some (.ext (potPhi pot)) := old6 _ _ hp0
        have hp8 : Pot H8 pot := s8 _ _ (s7 _ _ hp6)
        have pot6 : pot ∉ [t, d, so, t', d', mo] := by
          simp only [List.mem_cons, List.not_mem_nil, or_false, not_or]
          exact ⟨pt nt, pt nd, pt nso0, Ne.symm (n6 nt' hp6), Ne.symm (n6 nd' hp6), Ne.symm (n7 (s7 _ _ hp6))⟩
        refine ⟨4, rfl, by decide, by decide, for_it walk_range (fun i σ H9 => ∃ y v8 v9 ks ks' kz kz', σ = [some (.ref pot), some (.int as.length), some (.ref p), some (.ref so), none, y, some (.ref p'), some (.ref mo), v8, v9] ∧ But [t, d, so, t', d', mo] H8 H9 ∧
          Both P w K C H9 p dx t d so as as' ks ks' ∧ Both P w K C H9 p' dx' t' d' mo as as' kz kz' ∧ ks.length ≤ 20 + i ∧ kz.length ≤ 20 + i) ⟨_, _, _, _, _, _, _, rfl, fun b o _ e => e, B8, C8, by omega, by omega⟩ (fun _ _ _ _ _ => trivial) ?_ ?_⟩
        · rintro i x σ H9 H10 hi ⟨y, v8, v9, ks, ks', kz, kz', rfl, f9, B9, C9, l9, m9⟩ ⟨rfl, hx⟩
          have hi4 : i < 4 := hi
          have hp9 : Pot H10 pot := f9 _ _ pot6 hp8
          refine ⟨.ref pot, rfl, pot, 2, rfl, hp9, by decide, by decide, fun gg H11 e0 e1 s11 => ⟨rfl, _, rfl, ite2 (fun hc => ?_) (fun hc => ?_)⟩⟩
          · refine ⟨.ref p, rfl, .ref so, rfl, le_line (by show 2 ≤ 1000000; decide), fun T' nT => ⟨T', _, rfl, .inl (.inl upd_same), rfl, _, _, rfl, _, _, rfl, rfl, ?_⟩⟩
            have s12 : Same H10 (upd H11 T' (.tup [.ref p, .ref so])) := s11.trans (same_new nT)
            refine ⟨.ref pot, rfl, .ref p, rfl, .ref so, rfl, ?_⟩
            dsimp only [tNil]
            refine both_asked (s12 _ _ hp9) (B9.same s12) (by omega) fun H13 ks2 ks2' f13 B13 l13 => ⟨_, rfl, ?_⟩
            have C13 := (B9.same s12).out (C9.same s12) f13 x1 x2 x3 x4 x5
            exact ⟨_, _, _, _, _, _, _, rfl, fun b o h e => f13 b o (fun z => h (List.mem_append_left [t', d', mo] z)) (s12 _ _ (f9 b o h e)), B13, C13, by omega, by omega⟩
          · refine ⟨.ref p', rfl, .ref mo, rfl, le_line (by show 2 ≤ 1000000; decide), fun T' nT => ⟨T', _, rfl, .inl (.inl upd_same), rfl, _, _, rfl, _, _, rfl, rfl, ?_⟩⟩
            have s12 : Same H10 (upd H11 T' (.tup [.ref p', .ref mo])) := s11.trans (same_new nT)
            refine ⟨.ref pot, rfl, .ref p', rfl, .ref mo, rfl, ?_⟩
            dsimp only [tNil]
            refine both_asked (s12 _ _ hp9) (C9.same s12) (by omega) fun H13 ks2 ks2' f13 B13 l13 => ⟨_, rfl, ?_⟩
            have C13 := (C9.same s12).out (B9.same s12) f13 (Ne.symm x1) (Ne.symm x4) (Ne.symm x3) (Ne.symm x2) (Ne.symm x5)
            exact ⟨_, _, _, _, _, _, _, rfl, fun b o h e => f13 b o (fun z => h (List.mem_append_right [t, d, so] z)) (s12 _ _ (f9 b o h e)), C13, B13, by omega, by omega⟩
        · rintro σ H9 ⟨y, v8, v9, ks, ks', kz, kz', rfl, f9, B9, C9, l9, m9⟩
          refine ⟨.ref p, rfl, .ref so, rfl, .int as.length, rfl, ?_⟩
          dsimp only [tNil]
          refine both_tells B9 fun H10 s10 => ⟨_, rfl, .ref p', rfl, .ref mo, rfl, .int as.length, rfl, ?_⟩
          dsimp only [tNil]
          refine both_tells (C9.same s10) fun H11 s11 => q H11 fun b o e => ?_
          have e6 := old6 _ _ (s0 _ _ e)
          refine s11 _ _ (s10 _ _ (f9 b o ?_ (s8 _ _ (s7 _ _ e6))))
          simp only [List.mem_cons, List.not_mem_nil, or_false, not_or]
          have h0 := s0 _ _ e
          exact ⟨fun z => (by rw [z, nt] at h0; cases h0), fun z => (by rw [z, nd] at h0; cases h0), fun z => (by rw [z, nso0] at h0; cases h0), Ne.symm (n6 nt' e6), Ne.symm (n6 nd' e6), Ne.symm (n7 (s7 _ _ e6))⟩
end
end Jc
namespace Jc
open PySem PySem.Spec L2
open PyProof.Rows hiding St
section
variable {P : Program} {w : World} {K : PySem.W.Frag} {mg : Str → Option Value} {base : Heap} {f : Addr} {fd : FuncData}
abbrev s_law : Stmt := topS 20
abbrev N_law : List Str := ["_law_script", "_law_k"]
theorem sc_law : FnScope N_law ["_law_script"] (defScope s_law) := ⟨rfl, rfl, rfl, by decide +kernel, rfl, by decide +kernel, by decide +kernel⟩
theorem ok_law (F : Fun K "law" "law" s_law f fd) (B : Blt mg) (c_right : Own P w K mg base "_law_right" 7 ["_law_pot_here"] spRight) (c_pot : Own P w K mg base "_law_pot" 1 ["_law_script", "_law_k"] (spPot K)) :
    FnG P w K mg base 8 f fd ["_law_script"] (spLaw K) := by
  refine fnG_of F sc_law (fun vs H Q E h => ?_) (fun us hl => ?_) (fun cdv A outer s H vs Q hr hq h => ?_)
  · obtain ⟨a, ns, rfl, _⟩ := h
    rfl
  · match us, hl with
    | [_], _ => rfl
  · obtain ⟨a, ns, rfl, hS, hl, q⟩ := h
    refine ⟨_, (pss_one (ps_ret (pe_callB (cr_all rfl) rfl B.all bo_all (pa_cons (pe_lc (own := [("_law_k", 1)]) (g := gName 1) rfl sc_law.nd (pi_range1 rfl B.range (pa_cons (pe_callB (call_max2 rfl) rfl B.max bo_max (pa_cons pe_int (pa_cons (pe_callB (call_min2 rfl) rfl B.min bo_min (pa_cons pe_int (pa_cons (pe_callB call_len_seq rfl B.len bo_len (pa_cons (pv 0) pa_nil)) pa_nil))) pa_nil))) pa_nil)) (blkOk_by (own := [("_law_k", 1)]) (N := N_law) (sc := defScope s_law) (by decide +kernel)) (fun _ _ _ _ _ => pg_name (i := 1) sc_law.nd rfl (.inl rfl)) (fun _ _ _ _ _ => pts_nil) (fun _ _ _ _ _ => (pe_own c_right hr hq (by decide) (pa_cons (pe_pot (pe_own c_pot hr hq (by decide) (pa_cons (pv 0) (pa_cons (pv 1) pa_nil)))) pa_nil)))) pa_nil)))), ?_⟩
    refine ⟨.ref a, rfl, a, _, rfl, .inl hS, _, _, rfl, _, _, rfl, ?_⟩

    generalize hm : (if ((ns.map V.int).length : Int) < 4 then ((ns.map V.int).length : Int) else 4) = m
    generalize hn : (if m > 1 then m else 1) = n
    have hn4 : 1 ≤ n ∧ n ≤ 4 := by
      subst hn hm
      split <;> split at * <;> omega
    refine ⟨n, rfl, by omega, by omega, fun D hD => ?_⟩
    refine lc_flat walk_range (fun i y => y = .bl true) (by omega) hD (fun _ _ => trivial) ?_ ?_
    · rintro i y H2 H3 k hi s2 ⟨rfl, rfl⟩ kk
      refine ⟨rfl, .ref a, rfl, .int (0 + (i : Int)), rfl, a, ns, i, by rw [Int.zero_add], s2.seq hS, by omega, fun p x y np x0 y0 y1 => ⟨p, x, y, upd_same, x0, y0, y1, p, rfl, upd_same, fun H4 s4 => ?_⟩⟩
      exact kk _ _ ((same_mut (same_new np) np).trans s4) rfl
    · intro ys H2 hl2 hR s2 hy
      have e : ys = (List.replicate n.toNat true).map V.bl := by
        refine all_eq (by simp [hl2]) fun i a b e1 e2 => ?_
        rw [hR i a e1]
        simp [List.getElem?_replicate] at e2
        exact e2.2.symm ▸ rfl
      refine ⟨D, _, rfl, .inl (.inl (e ▸ hy)), ?_⟩
      have e2 : ((List.replicate n.toNat true).all id) = true := by
        rw [List.all_eq_true]
        intro x hx
        exact (List.mem_replicate.mp hx).2
      rw [e2]
      exact q H2
end
section
variable {P : Program} {w : World} {K : PySem.W.Frag} {mg : Str → Option Value} {base : Heap} {f : Addr} {fd : FuncData} {x : Str} {st : Stmt} {k : Nat} {ps : List Str} {sp : Sp}
theorem own_mk (F : Fun K x x st f fd) (hm : mg x = some (.ref f)) (G : FnG P w K mg base k f fd ps sp)
    (h1 : ∀ (kV doc pm : Value) (an : Option Addr) (cdv ct : Value) (us : List Value), us.length = ps.length → bindArgs (PySem.W.fnOf x x (defArgs st) (defBody st) (defScope st) .none kV doc pm an cdv ct) ⟨us, []⟩ = pure (ps.zip us))
    (h2 : ∀ (kV doc pm : Value) (an : Option Addr) (cdv ct : Value) (u : Value), ps.length = 1 → bindArgs (PySem.W.fnOf x x (defArgs st) (defBody st) (defScope st) .none kV doc pm an cdv ct) ⟨[], ps.zip [u]⟩ = pure (ps.zip [u])) : Own P w K mg base x k ps sp := by
  obtain ⟨oc, od, kV, doc, pm, an, cdv, ct, osl, rfl, lk, hcd⟩ := F.ex
  exact ⟨f, _, G, hm, F.kp, fun s us hl => .of_eq (h1 kV doc pm an cdv ct us hl), fun s u hl => .of_eq (h2 kV doc pm an cdv ct u hl)⟩
end
/-- a def of the top, found by k_is -/
structure At (K : PySem.W.Frag) (x : Str) (st : Stmt) : Prop where
  ex : ∃ (f : Addr) (oc : Value) (od an : Option Addr) (sl : Array (Option Value)) (kV dc pm cd ct : Value), PySem.W.nsIn K mainGlobals x = some (some (.ref f)) ∧
    K.lookup f = some ⟨oc, od, .func (PySem.W.fnOf x x (defArgs st) (defBody st) (defScope st) .none kV dc pm an cd ct), sl⟩ ∧ PySem.W.codeIn K cd x = true ∧ PySem.W.keepIn K (.ref f) = true
theorem at_mk {K : PySem.W.Frag} {x : Str} {st : Stmt} {f : Addr} {oc : Value} {od an : Option Addr} {sl : Array (Option Value)} {kV dc pm cd ct : Value} (a : PySem.W.nsIn K mainGlobals x = some (some (.ref f)))
    (l : K.lookup f = some ⟨oc, od, .func (PySem.W.fnOf x x (defArgs st) (defBody st) (defScope st) .none kV dc pm an cd ct), sl⟩) (c : PySem.W.codeIn K cd x = true) (k : PySem.W.keepIn K (.ref f) = true) : At K x st := ⟨f, oc, od, an, sl, kV, dc, pm, cd, ct, a, l, c, k⟩
theorem At.fn {K : PySem.W.Frag} {h : Heap} {mg : Str → Option Value} {x : Str} {st : Stmt} (A : At K x st) (X : K.In h) (G : h.Ns mainGlobals mg) : ∃ f fd, Fun K x x st f fd ∧ mg x = some (.ref f) := by
  obtain ⟨f, oc, od, an, sl, kV, dc, pm, cd, ct, a, l, c, k⟩ := A.ex
  exact ⟨f, _, fun_mk l c k, PySem.W.mg_of X G a⟩
end Jc
namespace Jc
open PySem PySem.Spec L2
open PyProof.Rows hiding St
/-- a method of the class, found by k_is -/
structure AtM (K : PySem.W.Frag) (C : Addr) (m qual : Str) (st : Stmt) : Prop where
  ex : ∃ (f : Addr) (oc : Value) (od an : Option Addr) (sl : Array (Option Value)) (kV dc pm cd ct : Value), PySem.W.findIn K (.ref C) m = some (some (.ref f)) ∧ PySem.W.isFn K (.ref f) = true ∧
    K.lookup f = some ⟨oc, od, .func (PySem.W.fnOf m qual (defArgs st) (defBody st) (defScope st) .none kV dc pm an cd ct), sl⟩ ∧ PySem.W.codeIn K cd qual = true ∧ PySem.W.keepIn K (.ref f) = true
theorem atm_mk {K : PySem.W.Frag} {C : Addr} {m qual : Str} {st : Stmt} {f : Addr} {oc : Value} {od an : Option Addr} {sl : Array (Option Value)} {kV dc pm cd ct : Value} (a : PySem.W.findIn K (.ref C) m = some (some (.ref f))) (i : PySem.W.isFn K (.ref f) = true)
    (l : K.lookup f = some ⟨oc, od, .func (PySem.W.fnOf m qual (defArgs st) (defBody st) (defScope st) .none kV dc pm an cd ct), sl⟩) (c : PySem.W.codeIn K cd qual = true) (k : PySem.W.keepIn K (.ref f) = true) : AtM K C m qual st := ⟨f, oc, od, an, sl, kV, dc, pm, cd, ct, a, i, l, c, k⟩
theorem AtM.fn {K : PySem.W.Frag} {C : Addr} {m qual : Str} {st : Stmt} (A : AtM K C m qual st) : ∃ f fd, Fun K m qual st f fd ∧ Meth K C m f := by
  obtain ⟨f, oc, od, an, sl, kV, dc, pm, cd, ct, a, i, l, c, k⟩ := A.ex
  exact ⟨f, _, fun_mk l c k, a, i, k⟩
structure AtP (K : PySem.W.Frag) (C : Addr) (m qual : Str) (st : Stmt) : Prop where
  ex : ∃ (p g : Addr) (fd : FuncData), PropOf K C m p g ∧ Fun K m qual st g fd
theorem atp_mk {K : PySem.W.Frag} {C : Addr} {m qual : Str} {st : Stmt} {p g : Addr} {rest : List Value} {oc : Value} {od an : Option Addr} {sl : Array (Option Value)} {kV dc pm cd ct : Value} (a : PySem.W.findIn K (.ref C) m = some (some (.ref p)))
    (s : PySem.W.specialIn K (.ref p) "__get__" = some (some (.builtin "property.__get__"))) (t : PySem.W.takesIn K (.ref p) = some true) (r : PySem.W.recIn K p "property" = some (.ref g :: rest))
    (l : K.lookup g = some ⟨oc, od, .func (PySem.W.fnOf m qual (defArgs st) (defBody st) (defScope st) .none kV dc pm an cd ct), sl⟩) (c : PySem.W.codeIn K cd qual = true) (k : PySem.W.keepIn K (.ref g) = true) : AtP K C m qual st := ⟨p, g, _, ⟨a, s, t, rest, r⟩, fun_mk l c k⟩
theorem raw0 {P : Program} {w : World} {K : PySem.W.Frag} {mg : Str → Option Value} {base : Heap} {k : Nat} {f : Addr} {fd : FuncData} {ps : List Str} {sp : Sp} (F : FnOk P w K mg base CX0 k f fd ps sp) (hb : Binds K fd ps []) : FnR P w K mg base CX0 k f sp :=
  (F.raw hb .nil).imp fun vs H Q E h => by
    rw [List.append_nil]
    exact h
theorem kbn1 {K : PySem.W.Frag} {m qual a : Str} {st : Stmt} {f : Addr} {fd : FuncData} (F : Fun K m qual st f fd)
    (h : ∀ (kV doc pm : Value) (an : Option Addr) (cdv ct u v : Value), bindArgs (PySem.W.fnOf m qual (defArgs st) (defBody st) (defScope st) .none kV doc pm an cdv ct) ⟨[u], [(a, v)]⟩ = pure [(("self" : Str), u), (a, v)]) :
    KBn K fd ["self", a] 1 [a] (fun us ws => us ++ ws) (fun vs zs => vs ++ zs) := by
  obtain ⟨oc, od, kV, doc, pm, an, cdv, ct, osl, rfl, lk, hcd⟩ := F.ex
  refine ⟨fun s us ws _ l1 l2 => ?_, fun r1 r2 => vals_app r1 r2⟩
  match us, l1, ws, l2 with
  | [u], _, [v], _ => exact .of_eq (h kV doc pm an cdv ct u v)
theorem kws_of {K : PySem.W.Frag} {m qual : Str} {st : Stmt} {f : Addr} {fd : FuncData} {ks ps : List Str} (F : Fun K m qual st f fd)
    (h : ∀ (kV doc pm : Value) (an : Option Addr) (cdv ct u : Value) (us : List Value), us.length = ks.length → bindArgs (PySem.W.fnOf m qual (defArgs st) (defBody st) (defScope st) .none kV doc pm an cdv ct) ⟨[u], ks.zip us⟩ = pure (ps.zip (u :: us.reverse))) :
    ∀ (s : Shared) (u : Value) (us : List Value), us.length = ks.length → BindsTo s fd ⟨[u], ks.zip us⟩ (ps.zip (u :: us.reverse)) := by
  obtain ⟨oc, od, kV, doc, pm, an, cdv, ct, osl, rfl, lk, hcd⟩ := F.ex
  exact fun s u us hl => .of_eq (h kV doc pm an cdv ct u us hl)
theorem all_mk {l : PySem.W.OpenLaw} {w : World} {K : PySem.W.Frag} {h : Heap} {mg : Str → Option Value} {fa C : Addr} (X : K.In h) (G : h.Ns mainGlobals mg) (hfa : mg "law" = some (.ref fa))
    (mgC : PySem.W.nsIn K mainGlobals "Symbols" = some (some (.ref C))) (pg : PySem.W.plainGet K C Str.empty = true) (hd : PySem.W.hasDictIn K C = true) (po : PySem.W.plainOver K C = true) (sa : PySem.W.findIn K (.ref C) "__setattr__" = some (some (.builtin "object.__setattr__")))
    (na1 : PySem.W.findIn K (.ref C) "_many" = some none) (na2 : PySem.W.findIn K (.ref C) "_told" = some none) (na3 : PySem.W.findIn K (.ref C) "_found" = some none) (mk : PySem.W.makesIn K C = true) (kc : PySem.W.keepIn K (.ref C) = true)
    (M_init : AtM K C "__init__" "Symbols.__init__" s_init)
    (M_number : AtM K C "number" "Symbols.number" s_number)
    (M_symbol : AtM K C "symbol" "Symbols.symbol" s_symbol)
    (M_copy : AtM K C "copy" "Symbols.copy" s_copy)
    (M_len : AtM K C "__len__" "Symbols.__len__" s_len)
    (M_known : AtM K C "_is_known" "Symbols._is_known" s_known)
    (P_many : AtP K C "many" "Symbols.many" s_many)
    (A_is_integer : At K "is_integer" s_is_integer)
    (A_is_count : At K "is_count" s_is_count)
    (A_pot : At K "_law_pot" s_pot)
    (A_draw : At K "_law_draw" s_draw)
    (A_pick : At K "_law_pick" s_pick)
    (A_where : At K "_law_where_drawn" s_where)
    (A_quest : At K "_law_question" s_quest)
    (A_tells : At K "_law_tells" s_tells)
    (A_asked : At K "_law_asked_right" s_asked)
    (A_right : At K "_law_right" s_right)
    (A_law : At K "law" s_law)
    {t_MB : Tok} (k_MB : PySem.W.nsIn K mainGlobals "MOST_BOXES" = some (some (.int 3 t_MB)))
    (z_len : PySem.W.nsIn K mainGlobals "len" = some none) (z_abs : PySem.W.nsIn K mainGlobals "abs" = some none) (z_max : PySem.W.nsIn K mainGlobals "max" = some none) (z_min : PySem.W.nsIn K mainGlobals "min" = some none) (z_divmod : PySem.W.nsIn K mainGlobals "divmod" = some none) (z_repr : PySem.W.nsIn K mainGlobals "repr" = some none) (z_isinstance : PySem.W.nsIn K mainGlobals "isinstance" = some none) (z_all : PySem.W.nsIn K mainGlobals "all" = some none) (z_any : PySem.W.nsIn K mainGlobals "any" = some none) (z_sum : PySem.W.nsIn K mainGlobals "sum" = some none) (z_sorted : PySem.W.nsIn K mainGlobals "sorted" = some none) (z_int : PySem.W.nsIn K mainGlobals "int" = some none) (z_str : PySem.W.nsIn K mainGlobals "str" = some none) (z_bool : PySem.W.nsIn K mainGlobals "bool" = some none) (z_list : PySem.W.nsIn K mainGlobals "list" = some none) (z_tuple : PySem.W.nsIn K mainGlobals "tuple" = some none) (z_dict : PySem.W.nsIn K mainGlobals "dict" = some none) (z_set : PySem.W.nsIn K mainGlobals "set" = some none) (z_range : PySem.W.nsIn K mainGlobals "range" = some none) (z_enumerate : PySem.W.nsIn K mainGlobals "enumerate" = some none) (z_zip : PySem.W.nsIn K mainGlobals "zip" = some none) (z_reversed : PySem.W.nsIn K mainGlobals "reversed" = some none) :
    ∃ fd : FuncData, (∀ (s : Shared) (v : Value), BindsTo s fd ⟨[v], []⟩ [("_law_script", v)]) ∧ ∀ base : Heap, K.In base → base.Ns mainGlobals mg → FnG l.prog w K mg base 8 fa fd ["_law_script"] (spLaw K) := by
  have B : Blt mg := ⟨PySem.W.mg_none_of X G z_len, PySem.W.mg_none_of X G z_abs, PySem.W.mg_none_of X G z_max, PySem.W.mg_none_of X G z_min, PySem.W.mg_none_of X G z_divmod, PySem.W.mg_none_of X G z_repr, PySem.W.mg_none_of X G z_isinstance, PySem.W.mg_none_of X G z_all, PySem.W.mg_none_of X G z_any, PySem.W.mg_none_of X G z_sum, PySem.W.mg_none_of X G z_sorted, PySem.W.mg_none_of X G z_int, PySem.W.mg_none_of X G z_str, PySem.W.mg_none_of X G z_bool, PySem.W.mg_none_of X G z_list, PySem.W.mg_none_of X G z_tuple, PySem.W.mg_none_of X G z_dict, PySem.W.mg_none_of X G z_set, PySem.W.mg_none_of X G z_range, PySem.W.mg_none_of X G z_enumerate, PySem.W.mg_none_of X G z_zip, PySem.W.mg_none_of X G z_reversed⟩
  have G1 : TxM mg t_MB := ⟨PySem.W.mg_of X G k_MB⟩
  have T : SC K mg C := ⟨⟨pg, hd, po, sa⟩, na1, na2, na3, PySem.W.mg_of X G mgC⟩
  obtain ⟨f_is_integer, d_is_integer, F_is_integer, m_is_integer⟩ := A_is_integer.fn X G
  obtain ⟨f_is_count, d_is_count, F_is_count, m_is_count⟩ := A_is_count.fn X G
  obtain ⟨f_pot, d_pot, F_pot, m_pot⟩ := A_pot.fn X G
  obtain ⟨f_draw, d_draw, F_draw, m_draw⟩ := A_draw.fn X G
  obtain ⟨f_pick, d_pick, F_pick, m_pick⟩ := A_pick.fn X G
  obtain ⟨f_where, d_where, F_where, m_where⟩ := A_where.fn X G
  obtain ⟨f_quest, d_quest, F_quest, m_quest⟩ := A_quest.fn X G
  obtain ⟨f_tells, d_tells, F_tells, m_tells⟩ := A_tells.fn X G
  obtain ⟨f_asked, d_asked, F_asked, m_asked⟩ := A_asked.fn X G
  obtain ⟨f_right, d_right, F_right, m_right⟩ := A_right.fn X G
  obtain ⟨g_init, e_init, F_init, h_init⟩ := M_init.fn
  obtain ⟨g_number, e_number, F_number, h_number⟩ := M_number.fn
  obtain ⟨g_symbol, e_symbol, F_symbol, h_symbol⟩ := M_symbol.fn
  obtain ⟨g_copy, e_copy, F_copy, h_copy⟩ := M_copy.fn
  obtain ⟨g_len, e_len, F_len, h_len⟩ := M_len.fn
  obtain ⟨g_known, e_known, F_known, h_known⟩ := M_known.fn
  obtain ⟨p_many, g_many, e_many, h_many, F_many⟩ := P_many.ex
  obtain ⟨f1, oc, od, an, sl, kV, dc, pm, cd, ct, a1, l1, c1, k1⟩ := A_law.ex
  have e := hfa.symm.trans (PySem.W.mg_of X G a1)
  cases e
  refine ⟨PySem.W.fnOf "law" "law" (defArgs s_law) (defBody s_law) (defScope s_law) .none kV dc pm an cd ct, fun s v => .of_eq rfl, fun base _ _ => ?_⟩
  have c_is_integer : OwnK l.prog w K mg base "is_integer" 1 ["value"] spInt := ⟨f_is_integer, d_is_integer, ok_is_integer F_is_integer B, m_is_integer, F_is_integer.kp, F_is_integer.binds (fun _ _ _ _ _ _ us hl => match us, hl with | [_], _ => rfl)⟩
  have c_is_count : OwnK l.prog w K mg base "is_count" 2 ["value"] spCnt := ⟨f_is_count, d_is_count, ok_is_count F_is_count c_is_integer, m_is_count, F_is_count.kp, F_is_count.binds (fun _ _ _ _ _ _ us hl => match us, hl with | [_], _ => rfl)⟩
  have n_init := ok_init (P := l.prog) (w := w) (base := base) F_init B T G1 c_is_integer
  have M : OwnI l.prog w K mg base C 2 (spInit31 l.prog w K C) := ⟨g_init, ⟨mk, h_init.at_, h_init.fn, kc⟩, raw0 n_init (F_init.binds (fun _ _ _ _ _ _ us hl => match us, hl with | [_, _], _ => rfl))⟩
  have Mk : OwnMkK l.prog w K mg base C 2 "many" (spInit31 l.prog w K C) := ⟨g_init, e_init, ⟨mk, h_init.at_, h_init.fn, kc⟩, n_init, kbn1 F_init (fun _ _ _ _ _ _ u v => rfl)⟩
  have m_known : OwnM l.prog w K mg base C "_is_known" 3 (spKnown l.prog w K C) := ⟨g_known, h_known, raw0 (ok_known F_known B T c_is_count) (F_known.binds (fun _ _ _ _ _ _ us hl => match us, hl with | [_, _], _ => rfl))⟩
  have m_len : OwnM l.prog w K mg base C "__len__" 1 (spLen l.prog w K C) := ⟨g_len, h_len, raw0 (ok_len F_len B T) (F_len.binds (fun _ _ _ _ _ _ us hl => match us, hl with | [_], _ => rfl))⟩
  have p_many2 : OwnP l.prog w K mg base C "many" 1 (spMany l.prog w K C) := ⟨p_many, g_many, e_many, h_many, ok_many F_many T, F_many.binds (fun _ _ _ _ _ _ us hl => match us, hl with | [_], _ => rfl)⟩
  have n_symbol := ok_symbol (P := l.prog) (w := w) (base := base) F_symbol T m_known
  have m_symbol : OwnM l.prog w K mg base C "symbol" 4 (spSymbol l.prog w K C) := ⟨g_symbol, h_symbol, raw0 n_symbol (F_symbol.binds (fun _ _ _ _ _ _ us hl => match us, hl with | [_, _], _ => rfl))⟩
  have k_symbol : OwnMK l.prog w K mg base C "symbol" 4 ["number"] ["self", "number"] (spSymbol l.prog w K C) := ⟨g_symbol, e_symbol, h_symbol, n_symbol, kws_of F_symbol (fun _ _ _ _ _ _ u us hl => match us, hl with | [_], _ => rfl)⟩
  have n_number := ok_number (P := l.prog) (w := w) (base := base) F_number B T m_known
  have m_number : OwnM l.prog w K mg base C "number" 4 (spNumber l.prog w K C) := ⟨g_number, h_number, raw0 n_number (F_number.binds (fun _ _ _ _ _ _ us hl => match us, hl with | [_, _, _, _], _ => rfl))⟩
  have k_number : OwnMK l.prog w K mg base C "number" 4 ["reads", "where", "label"] ["self", "label", "where", "reads"] (spNumber l.prog w K C) := ⟨g_number, e_number, h_number, n_number, kws_of F_number (fun _ _ _ _ _ _ u us hl => match us, hl with | [_, _, _], _ => rfl)⟩
  have m_copy : OwnM0 l.prog w K mg base C "copy" 4 (spCopy l.prog w K C) := ⟨g_copy, e_copy, h_copy, ok_copy F_copy B T M, F_copy.binds (fun _ _ _ _ _ _ us hl => match us, hl with | [_], _ => rfl)⟩
  have c_pot : Own l.prog w K mg base "_law_pot" 1 ["_law_script", "_law_k"] (spPot K) := own_mk F_pot m_pot (ok_pot F_pot B) (fun _ _ _ _ _ _ us hl => match us, hl with | [_, _], _ => rfl) (fun _ _ _ _ _ _ _ z => nomatch z)
  have c_draw : Own l.prog w K mg base "_law_draw" 1 ["_law_pot_here", "_law_size"] spDraw := own_mk F_draw m_draw (ok_draw F_draw B) (fun _ _ _ _ _ _ us hl => match us, hl with | [_, _], _ => rfl) (fun _ _ _ _ _ _ _ z => nomatch z)
  have c_pick : Own l.prog w K mg base "_law_pick" 2 ["_law_pot_here", "_law_some"] (spPick K) := own_mk F_pick m_pick (ok_pick F_pick B c_draw) (fun _ _ _ _ _ _ us hl => match us, hl with | [_, _], _ => rfl) (fun _ _ _ _ _ _ _ z => nomatch z)
  have c_where : Own l.prog w K mg base "_law_where_drawn" 3 ["_law_pot_here"] (spWhere K) := own_mk F_where m_where (ok_where F_where B c_draw c_pick) (fun _ _ _ _ _ _ us hl => match us, hl with | [_], _ => rfl) (fun _ _ _ _ _ _ _ _ => rfl)
  have c_quest : Own l.prog w K mg base "_law_question" 4 ["_law_pot_here", "_law_some"] (spQuest K) := own_mk F_quest m_quest (ok_quest F_quest B c_draw c_pick c_where) (fun _ _ _ _ _ _ us hl => match us, hl with | [_, _], _ => rfl) (fun _ _ _ _ _ _ _ z => nomatch z)
  have c_tells : Own l.prog w K mg base "_law_tells" 6 ["_law_made", "_law_some", "_law_size"] (spTells l.prog w K C) := own_mk F_tells m_tells (ok_tells F_tells B T m_len p_many2 m_symbol k_symbol m_number) (fun _ _ _ _ _ _ us hl => match us, hl with | [_, _, _], _ => rfl) (fun _ _ _ _ _ _ _ z => nomatch z)
  have c_asked : Own l.prog w K mg base "_law_asked_right" 6 ["_law_pot_here", "_law_made", "_law_some"] (spAsked l.prog w K C) := own_mk F_asked m_asked (ok_asked F_asked B T m_len m_symbol k_number m_number c_draw c_quest) (fun _ _ _ _ _ _ us hl => match us, hl with | [_, _, _], _ => rfl) (fun _ _ _ _ _ _ _ z => nomatch z)
  have c_right : Own l.prog w K mg base "_law_right" 7 ["_law_pot_here"] spRight := own_mk F_right m_right (ok_right F_right B T c_draw c_tells c_asked m_len m_copy M Mk) (fun _ _ _ _ _ _ us hl => match us, hl with | [_], _ => rfl) (fun _ _ _ _ _ _ _ _ => rfl)
  exact ok_law (fun_mk l1 c1 k1) B c_right c_pot
end Jc
open PySem PySem.W PyProof.Rows
set_option maxRecDepth 100000 in
set_option maxHeartbeats 0 in
theorem PySem.Challenge.cw_cutshows_k31_symbols_numbered_holds : PySem.Challenge.rw_cutshows_k31_symbols_numbered.Holds := by
  w_on; o_law; k_head; (case hw => w_witness2)
  k_fill
  refine Jc.walkG (l := PySem.Challenge.rw_cutshows_k31_symbols_numbered) (k := 8) rfl rfl ⟨rfl, by decide, by decide⟩ (fun w h Y => PySem.W.kIn_of Y) ?F
  case F =>
    intro w mg fa h KX G hmg
    refine' Jc.all_mk KX G hmg ?mgC ?pg ?hd ?po ?sa ?na1 ?na2 ?na3 ?mk ?kc (Jc.atm_mk ?ma_init ?mi_init ?ml_init ?mc_init ?mk_init) (Jc.atm_mk ?ma_number ?mi_number ?ml_number ?mc_number ?mk_number) (Jc.atm_mk ?ma_symbol ?mi_symbol ?ml_symbol ?mc_symbol ?mk_symbol) (Jc.atm_mk ?ma_copy ?mi_copy ?ml_copy ?mc_copy ?mk_copy) (Jc.atm_mk ?ma_len ?mi_len ?ml_len ?mc_len ?mk_len) (Jc.atm_mk ?ma_known ?mi_known ?ml_known ?mc_known ?mk_known) (Jc.atp_mk ?pa ?ps ?pt ?pr ?pl ?pc ?pk) (Jc.at_mk ?a_is_integer ?l_is_integer ?c_is_integer ?k_is_integer) (Jc.at_mk ?a_is_count ?l_is_count ?c_is_count ?k_is_count) (Jc.at_mk ?a_pot ?l_pot ?c_pot ?k_pot) (Jc.at_mk ?a_draw ?l_draw ?c_draw ?k_draw) (Jc.at_mk ?a_pick ?l_pick ?c_pick ?k_pick) (Jc.at_mk ?a_where ?l_where ?c_where ?k_where) (Jc.at_mk ?a_quest ?l_quest ?c_quest ?k_quest) (Jc.at_mk ?a_tells ?l_tells ?c_tells ?k_tells) (Jc.at_mk ?a_asked ?l_asked ?c_asked ?k_asked) (Jc.at_mk ?a_right ?l_right ?c_right ?k_right) (Jc.at_mk ?a_law ?l_law ?c_law ?k_law) ?k_MB ?z_len ?z_abs ?z_max ?z_min ?z_divmod ?z_repr ?z_isinstance ?z_all ?z_any ?z_sum ?z_sorted ?z_int ?z_str ?z_bool ?z_list ?z_tuple ?z_dict ?z_set ?z_range ?z_enumerate ?z_zip ?z_reversed
    (case mgC => k_is); (case pg => k_is); (case hd => k_is); (case po => k_is); (case sa => k_is); (case na1 => k_is); (case na2 => k_is); (case na3 => k_is); (case mk => k_is); (case kc => k_is)
    (case ma_init => k_is); (case mi_init => k_is); (case ml_init => k_is); (case mc_init => k_is); (case mk_init => k_is)
    (case ma_number => k_is); (case mi_number => k_is); (case ml_number => k_is); (case mc_number => k_is); (case mk_number => k_is)
    (case ma_symbol => k_is); (case mi_symbol => k_is); (case ml_symbol => k_is); (case mc_symbol => k_is); (case mk_symbol => k_is)
    (case ma_copy => k_is); (case mi_copy => k_is); (case ml_copy => k_is); (case mc_copy => k_is); (case mk_copy => k_is)
    (case ma_len => k_is); (case mi_len => k_is); (case ml_len => k_is); (case mc_len => k_is); (case mk_len => k_is)
    (case ma_known => k_is); (case mi_known => k_is); (case ml_known => k_is); (case mc_known => k_is); (case mk_known => k_is)
    (case pa => k_is); (case ps => k_is); (case pt => k_is); (case pr => k_is); (case pl => k_is); (case pc => k_is); (case pk => k_is)
    (case a_is_integer => k_is); (case l_is_integer => k_is); (case c_is_integer => k_is); (case k_is_integer => k_is)
    (case a_is_count => k_is); (case l_is_count => k_is); (case c_is_count => k_is); (case k_is_count => k_is)
    (case a_pot => k_is); (case l_pot => k_is); (case c_pot => k_is); (case k_pot => k_is)
    (case a_draw => k_is); (case l_draw => k_is); (case c_draw => k_is); (case k_draw => k_is)
    (case a_pick => k_is); (case l_pick => k_is); (case c_pick => k_is); (case k_pick => k_is)
    (case a_where => k_is); (case l_where => k_is); (case c_where => k_is); (case k_where => k_is)
    (case a_quest => k_is); (case l_quest => k_is); (case c_quest => k_is); (case k_quest => k_is)
    (case a_tells => k_is); (case l_tells => k_is); (case c_tells => k_is); (case k_tells => k_is)
    (case a_asked => k_is); (case l_asked => k_is); (case c_asked => k_is); (case k_asked => k_is)
    (case a_right => k_is); (case l_right => k_is); (case c_right => k_is); (case k_right => k_is)
    (case a_law => k_is); (case l_law => k_is); (case c_law => k_is); (case k_law => k_is)
    (case k_MB => k_is)
    (case z_len => k_is); (case z_abs => k_is); (case z_max => k_is); (case z_min => k_is); (case z_divmod => k_is); (case z_repr => k_is); (case z_isinstance => k_is); (case z_all => k_is); (case z_any => k_is); (case z_sum => k_is); (case z_sorted => k_is); (case z_int => k_is); (case z_str => k_is); (case z_bool => k_is); (case z_list => k_is); (case z_tuple => k_is); (case z_dict => k_is); (case z_set => k_is); (case z_range => k_is); (case z_enumerate => k_is); (case z_zip => k_is); (case z_reversed => k_is)
