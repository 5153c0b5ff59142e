import PyProof.Rows.All
import Wide.All
import OpenK.AllK
import Wide.FinOn
import HandS.ForExc
import HandS.Comp
import HandS.Wide
import KE.KStateDown
import HandS.Ends
import HandS.More
import HandS.Defaults
import HandS.Head0
import HandS.Head1
import HandS.Head2
import HandS.HeadEnd
import HandS.HeadHook1
import HandS.HeadHook2
import KE.KExcSuper
import HandS.Nested
import HandS.ExcInit
import KE.KIsAll
import KE.KExcIs
import KE.KTryMore
import HandS.Base
import HandS.Call
import HandS.Exc
import HandS.ExcIs
import HandS.ExcField
import HandS.ExcOwn
import HandS.FStr
import HandS.CallLocal
import HandS.WideBits
import HandS.Text
import HandS.IsInst
import HandS.Dict
import HandS.Steps
import HandS.Walk
import HandS.Deep
import PyProof.CallFns
import PyProof.ReprBulk
import HandS.MakeKw
import HandS.Strs
import PyProof.Rows.SetFrom
import PyProof.SetKind
import PyProof.WalksS
import HandS.OwnEq
import PyProof.FactsAll.object_2
import PyProof.FactsAll.NoneType_1
import PyProof.FactsAll.str_1
import PyProof.FactsAll.str_2
import PyProof.FactsAll.int_1
import PyProof.FactsAll.int_3
import PyProof.FactsAll.list_1
import PyProof.FactsAll.list_2
import PyProof.FactsAll.tuple_1
import PyProof.FactsAll.tuple_2
import HandS.Star
import HandS.Zip
import HandS.List
import HandS.SetFor
import HandS.Set
import HandS.SetKeys
import HandS.DictComp
import HandS.Keys
import HandS.DictTup
import KE.KDictList
import HandS.Codes
import HandS.Rev
import HandS.WordsDict
import KE.DataMinMax
import HandS.DeepEq
import PyProof.NeKinds
import PySem.Challenge.RW_loafshares_k73_trees
set_option Elab.async false
set_option linter.all false
set_option maxRecDepth 100000
set_option maxHeartbeats 4000000
/-! Defs that show data by repr: the promise FnG holds where nothing is being shown (no guard stands), as it is behind a law's call. -/
namespace Lf
open PySem PySem.Spec PyProof.Rows L2
/-- a def's promise where no guard stands -/
structure FnG (P : Program) (w : World) (K : PySem.W.Frag) (mg : Str → Option Value) (base : Heap) (CX : CXT) (k : Nat) (f : Addr) (fd : FuncData) (ps : List Str) (sp : Sp) : Prop where
  size : ∀ vs H Q E, sp vs H Q E → vs.length = ps.length
  goes : ∀ (B : Around) (out : List Env) (s : Shared) (H : Hp) (ar : Args) (us : List Value) (vs : List V) (Q : VK) (E : XK),
    Room k B → B.guards = some [] → Env0 P w K mg base B out s H → BindsTo s fd ar (ps.zip us) → Vals vs us → sp vs H Q E →
      codeAny (model P w) B (.call (.ref f) ar) (CR CX out P w H s Q E) s
section
variable {P : Program} {w : World} {K : PySem.W.Frag} {mg : Str → Option Value} {base : Heap} {CX : CXT} {k : Nat} {f : Addr} {fd : FuncData} {ps : List Str} {sp : Sp}
theorem FnG.mono {j : Nat} (F : FnG P w K mg base CX j f fd ps sp) (h : j ≤ k) : FnG P w K mg base CX k f fd ps sp :=
  ⟨F.size, fun B out s H ar us vs Q E r => F.goes B out s H ar us vs Q E (r.mono h)⟩
theorem FnG.of (F : FnOk P w K mg base CX k f fd ps sp) : FnG P w K mg base CX k f fd ps sp :=
  ⟨F.len, fun B out s H ar us vs Q E r _ => F.run B out s H ar us vs Q E r⟩
/-- by its body: behind the entry no guard stands either -/
theorem GfunX {x qual : Str} {st : Stmt} {N : List Str} (F : Fun K x qual st f fd) (S : FnScope N ps (defScope st)) (size : ∀ vs H Q E, sp vs H Q E → vs.length = ps.length)
    (body : ∀ (cdv : Value) (B : Around) (out : List Env) (s : Shared) (H : Hp) (vs : List V) (Q : VK) (E : XK), B.guards = some [] →
      Room k (B.deeper (envOfC qual (defScope st) s.heap.objs.size f cdv)) → sp vs H Q E →
      ∃ t, PSs (cxOf CX P w K mg base N qual (defScope st) f cdv B out s H E) (defBody st) t ∧
        t { nx := fun _ H' => Q .non H', rt := Q } (start N vs) H) : FnG P w K mg base CX (k + 1) f fd ps sp := by
  obtain ⟨oc, od, kV, doc, pm, an, cdv, ct, osl, rfl, lk, hcd⟩ := F.ex
  refine ⟨size, fun B out s H ar us vs Q E hr hg e0 hb r hs => ?_⟩
  have old : ∀ b o, base.get? b = some o → s.heap.get? b = some o := fun b o e => (e0.bs b o e).1
  have kin : K.In s.heap := e0.mod.kin.keeps old
  refine codeAny_call_function hr.depth (kin _ _ lk) rfl S.co S.gen rfl (PySem.W.codeRec_of kin hcd) (hb _ _ _ _ ?_)
  refine wpAny_newFunctionEnv_cells S.kind (fun ⟨n, v⟩ hy => ?_) fun env he s1 x => ?_
  · rcases S.par n (List.of_mem_zip hy).1 with q | q
    · exact Or.inl q
    · exact Or.inr ⟨q, PySem.W.cellsFrom_some _ _ _ (Or.inl q)⟩
  · subst he
    refine ⟨(e0.mod.nolimit.keeps old).keeps x.toInCall.keep, codeAny_func ?_⟩
    obtain ⟨t, ht, hq⟩ := body cdv B out s H vs Q E hg (hr.deeper _) hs
    have I := inv_start (CX := CX) (N := N) (qual := qual) (cd := cdv) (E := E) S hr.hd e0 (size _ _ _ _ hs) r x
    refine wpAny_mono (ht.run [] s1 (start N vs) H _ I hq) (fun fl s' hs' => ?_) fun e s' z => z
    cases fl with
    | ret u =>
      obtain ⟨v, σ', H', J, rv, q⟩ := hs'
      exact ⟨v, H', J.os, J.bare, J.base, J.hok, rv, q⟩
    | next =>
      obtain ⟨σ', H', J, q⟩ := hs'
      exact ⟨V.non, H', J.os, J.bare, J.base, J.hok, rfl, q⟩
    | brk =>
      obtain ⟨_, _, _, q⟩ := hs'
      exact q.elim
    | cont =>
      obtain ⟨_, _, _, q⟩ := hs'
      exact q.elim
theorem Gfun {x qual : Str} {st : Stmt} {N : List Str} (F : Fun K x qual st f fd) (S : FnScope N ps (defScope st)) (size : ∀ vs H Q E, sp vs H Q E → vs.length = ps.length)
    (body : ∀ (cdv : Value) (B : Around) (out : List Env) (s : Shared) (H : Hp) (vs : List V) (Q : VK) (E : XK), B.guards = some [] →
      Room k (B.deeper (envOfC qual (defScope st) s.heap.objs.size f cdv)) → sp vs H Q E →
      ∃ t, PSs (cxOf CX0 P w K mg base N qual (defScope st) f cdv B out s H E).nox (defBody st) t ∧
        t { nx := fun _ H' => Q .non H', rt := Q } (start N vs) H) : FnG P w K mg base CX0 (k + 1) f fd ps sp :=
  GfunX F S size fun cdv B out s H vs Q E hg hr hs => by
    obtain ⟨t, ht, hq⟩ := body cdv B out s H vs Q E hg hr hs
    exact ⟨t, ht.nox, hq⟩
end
/-- the names that are called by their arguments' names -/
def kwNamesA : List Str := ["aims", "book_text", "by_shares", "changed", "cost", "dough_for", "feel", "fraction", "fraction_text", "is_fraction", "is_less", "is_name", "left", "loaves", "measured", "minus", "moves", "opened"]
def kwNamesB : List Str := ["over", "pan_for", "paper", "parting", "plus", "read_book", "rejoined", "rounded", "row_shares", "scaled", "shares", "sheet", "shows", "times", "tree", "weighed", "worst_of"]
def kwNames : List Str := kwNamesA ++ kwNamesB
def kwN (x : Str) : Bool := kwNames.any fun y => y == x
/-- a def of the module's name x that keeps sp, by level k -/
structure Cal (P : Program) (w : World) (K : PySem.W.Frag) (mg : Str → Option Value) (base : Heap) (CX : CXT) (k : Nat) (x : Str) (ps : List Str) (sp : Sp) : Prop where
  ex : ∃ (f : Addr) (fd : FuncData), FnG P w K mg base CX k f fd ps sp ∧ (∀ (s : Shared) (us : List Value), us.length = ps.length → BindsTo s fd ⟨us, []⟩ (ps.zip us)) ∧
    (kwN x = true → ∀ (s : Shared) (us : List Value), us.length = ps.length → BindsTo s fd ⟨[], ps.zip us⟩ (ps.zip us)) ∧
    (kwN x = true → ∀ (s : Shared) (us : List Value), us.length = ps.length → BindsTo s fd ⟨[], ps.reverse.zip us⟩ (ps.zip us.reverse)) ∧ mg x = some (.ref f) ∧ PySem.W.keepIn K (.ref f) = true
theorem paired_rev {α β : Type} {R : α → β → Prop} : ∀ {xs : List α} {ys : List β}, Paired R xs ys → Paired R xs.reverse ys.reverse := by
  have app : ∀ {xs : List α} {ys : List β} {x : α} {y : β}, Paired R xs ys → R x y → Paired R (xs ++ [x]) (ys ++ [y]) := by
    intro xs ys x y h r
    induction h with
    | nil => exact .cons r .nil
    | cons q _ ih => exact .cons q ih
  intro xs ys h
  induction h with
  | nil => exact .nil
  | cons r _ ih =>
    rw [List.reverse_cons, List.reverse_cons]
    exact app ih r
section
variable {X : Cx} {CX : CXT} {k i : Nat} {f : Addr} {fd : FuncData} {ps : List Str} {sp : Sp} {x : Str} {p pos : Pos} {e : Expr} {es : List Expr} {kws : List Keyword} {t : TA}
/-- what is raised is wished for at the caller's slots -/
theorem run_g {pins : List (Addr × Obj)} {σ : L2.St} {H : Hp} {s : Shared} {Q : VK} {us : List Value} {vs : List V} {ar : Args} {E : XK} (F : FnG X.prog X.w X.K X.mg X.base CX k f fd ps sp) (hr : Room k X.A) (hG : X.A.guards = some [])
    (hx : PassesAt CX X σ E) (I : Inv X pins σ H s) (hb : BindsTo s fd ar (ps.zip us)) (r : Vals vs us) (h : sp vs H Q E) : wpAny (model X.prog X.w) X.A (call (.ref f) ar.pos ar.kw) (EP X pins σ Q) X.xe s := by
  refine wpAny_call (codeAny_mono (F.goes X.A X.stack s H ar us vs Q E hr hG I.env0 hb r h) fun z s' hq => ?_)
  cases z with
  | error e => exact hx pins H s e s' I hq
  | ok fl =>
    cases fl with
    | ret u => exact I.after hq
    | next => exact False.elim hq
    | brk => exact False.elim hq
    | cont => exact False.elim hq
/-- f(e, ..); E: what is wished of an exception at the slots -/
def tG (sp : Sp) (E : L2.St → XK) (t : TA) : TE := fun σ H Q => t σ H fun vs H1 => sp vs H1 Q (E σ)
theorem pe_gS {E : L2.St → XK} (C : Cal X.prog X.w X.K X.mg X.base CX k x ps sp) (hr : Room k X.A) (hG : X.A.guards = some []) (hx : ∀ σ, PassesAt CX X σ (E σ)) (ha : PA X (e :: es) t) (hg : Gl X x := by rfl)
    (hdb : (x == ("__debug__" : Str)) = false := by decide) (he : starEach (e :: es) X.env = (false, eval e X.env) :: starEach es X.env := by rfl)
    (hpl : (backTo pos (starEach es X.env)).any (·.1) = false := by rfl) : PE X (.Call (.Name x p) (e :: es) [] pos) (tG sp E t) := by
  obtain ⟨f, fd, F, hb, _, _, hm, hk⟩ := C.ex
  refine ⟨fun pins s σ H Q I h => wpAny_Call_Name_kw (ld_glob I hg hm (PySem.W.callWith_K (h₀ := X.base) I.ok.mod.kin hk
    (thn (ha.run pos pins s σ H _ I h) fun us s1 ⟨vs, H1, I1, r, q⟩ => ⟨I1.kIn, ?_⟩) he hpl) hdb)⟩
  exact run_g (ar := ⟨us, []⟩) F hr hG (hx σ) I1 (hb s1 us (r.length.symm.trans (F.size _ _ _ _ q))) r q
theorem pass_no {σ : L2.St} : PassesAt CX0 X σ E0 := fun _ _ _ _ _ _ z => z.elim
theorem pe_g (C : Cal X.prog X.w X.K X.mg X.base CX0 k x ps sp) (hr : Room k X.A) (hG : X.A.guards = some []) (ha : PA X (e :: es) t) (hg : Gl X x := by rfl)
    (hdb : (x == ("__debug__" : Str)) = false := by decide) (he : starEach (e :: es) X.env = (false, eval e X.env) :: starEach es X.env := by rfl)
    (hpl : (backTo pos (starEach es X.env)).any (·.1) = false := by rfl) : PE X (.Call (.Name x p) (e :: es) [] pos) (tG sp (fun _ => E0) t) :=
  pe_gS C hr hG (fun _ => pass_no) ha hg hdb he hpl
/-- f(a = e, ..): all by names, in the parameters' order -/
theorem pe_gk (C : Cal X.prog X.w X.K X.mg X.base CX0 k x ps sp) (hr : Room k X.A) (hG : X.A.guards = some []) (ha : PK X kws t) (hks : (backToKw pos (keywordEach kws X.env)).filterMap (·.1) = ps := by rfl) (hg : Gl X x := by rfl)
    (hall : (backToKw pos (keywordEach kws X.env)).all (·.1.isSome) = true := by rfl) (hdb : (x == ("__debug__" : Str)) = false := by decide)
    (hpl : ((backTo pos (starEach [] X.env)).any (·.1) || (backToKw pos (keywordEach kws X.env)).any (·.1.isNone)) = false := by rfl) (hkw : kwN x = true := by decide +kernel) : PE X (.Call (.Name x p) [] kws pos) (tG sp (fun _ => E0) t) := by
  obtain ⟨f, fd, F, _, hb, _, hm, hk⟩ := C.ex
  refine ⟨fun pins s σ H Q I h => wpAny_Call_Name_kw (ld_glob I hg hm (PySem.W.callWith_KW0 (h₀ := X.base) I.ok.mod.kin hk hall (thn (ha.run pos pins s σ H _ I h) fun us s1 ⟨vs, H1, I1, r, q⟩ => ⟨I1.kIn, ?_⟩) hpl) hdb)⟩
  rw [hks]
  exact run_g (ar := ⟨[], ps.zip us⟩) F hr hG pass_no I1 (hb hkw s1 us (r.length.symm.trans (F.size _ _ _ _ q))) r q
/-- f(b = e, a = ..): all by names, from the last parameter to the first -/
def tGr (sp : Sp) (t : TA) : TE := fun σ H Q => t σ H fun vs H1 => sp vs.reverse H1 Q E0
theorem pe_gr (C : Cal X.prog X.w X.K X.mg X.base CX0 k x ps sp) (hr : Room k X.A) (hG : X.A.guards = some []) (ha : PK X kws t) (hks : (backToKw pos (keywordEach kws X.env)).filterMap (·.1) = ps.reverse := by rfl) (hg : Gl X x := by rfl)
    (hall : (backToKw pos (keywordEach kws X.env)).all (·.1.isSome) = true := by rfl) (hdb : (x == ("__debug__" : Str)) = false := by decide)
    (hpl : ((backTo pos (starEach [] X.env)).any (·.1) || (backToKw pos (keywordEach kws X.env)).any (·.1.isNone)) = false := by rfl) (hkw : kwN x = true := by decide +kernel) : PE X (.Call (.Name x p) [] kws pos) (tGr sp t) := by
  obtain ⟨f, fd, F, _, _, hb, hm, hk⟩ := C.ex
  refine ⟨fun pins s σ H Q I h => wpAny_Call_Name_kw (ld_glob I hg hm (PySem.W.callWith_KW0 (h₀ := X.base) I.ok.mod.kin hk hall (thn (ha.run pos pins s σ H _ I h) fun us s1 ⟨vs, H1, I1, r, q⟩ => ⟨I1.kIn, ?_⟩) hpl) hdb)⟩
  rw [hks]
  have hl : us.length = ps.length := r.length.symm.trans ((List.length_reverse (as := vs)).symm.trans (F.size _ _ _ _ q))
  exact run_g (ar := ⟨[], ps.reverse.zip us⟩) (us := us.reverse) (vs := vs.reverse) F hr hG pass_no I1 (hb hkw s1 us hl) (paired_rev r) q
/-- d(e, ..) where the i-th slot holds the def of the module's name y -/
def tGl (i : Nat) (mg : Str → Option Value) (y : Str) (sp : Sp) (E : L2.St → XK) (t : TA) : TE := fun σ H Q => ∃ f, mg y = some (.ref f) ∧ σ[i]? = some (some (.ref f)) ∧ t σ H fun vs H1 => sp vs H1 Q (E σ)
theorem pe_gl {E : L2.St → XK} {y : Str} (C : Cal X.prog X.w X.K X.mg X.base CX k y ps sp) (hr : Room k X.A) (hG : X.A.guards = some []) (hx : ∀ σ, PassesAt CX X σ (E σ)) (ha : PA X (e :: es) t) (hN : X.N[i]? = some x := by rfl)
    (hv : Vis X.env.scope x := by first | exact Or.inl rfl | exact Or.inr (Or.inl rfl) | exact Or.inr (Or.inr rfl))
    (hdb : (x == ("__debug__" : Str)) = false := by decide) (hcd : (x == ("__classdict__" : Str)) = false := by decide) (he : starEach (e :: es) X.env = (false, eval e X.env) :: starEach es X.env := by rfl)
    (hpl : (backTo pos (starEach es X.env)).any (·.1) = false := by rfl) : PE X (.Call (.Name x p) (e :: es) [] pos) (tGl i X.mg y sp E t) := by
  obtain ⟨f, fd, F, hb, _, _, hm, hk⟩ := C.ex
  refine ⟨fun pins s σ H Q I h => ?_⟩
  obtain ⟨f', hf', hs, ht⟩ := h
  obtain rfl : f' = f := by
    rw [hm] at hf'
    cases hf'
    rfl
  refine wpAny_Call_Name_kw (thn ((pe_var (pos := p) hN hv hdb hcd).run pins s σ H (fun v H1 => v = .ref f' ∧ H1 = H) I ⟨.ref f', hs, rfl, rfl⟩) fun u s1 ⟨v, H1, I1, r1, q1⟩ => ?_)
  obtain ⟨rfl, rfl⟩ := q1
  cases r1
  refine PySem.W.callWith_K (h₀ := X.base) I.ok.mod.kin hk (thn (ha.run pos pins s1 σ _ _ I1 ht) fun us s2 ⟨vs, H2, I2, r, q⟩ => ⟨I2.kIn, ?_⟩) he hpl
  exact run_g (ar := ⟨us, []⟩) F hr hG (hx σ) I2 (hb s2 us (r.length.symm.trans (F.size _ _ _ _ q))) r q
end
/-! ### repr of data -/
section
variable {X : Cx}
def rShow (K : PySem.W.Frag) : List V → Hp → VK → Prop := fun xs H Q => ∃ (a : Addr) (d : PyData), xs = [.ref a] ∧ Dp K H (.ref a) d ∧
  d.showable = true ∧ d.hasDict = false ∧ d.depth ≤ 30 ∧ d.shown.length ≤ sizeLine ∧ Q (.str d.shown) H
theorem call_show (hG : X.A.guards = some []) {k : Nat} (hr : Room k X.A) : CallR X (.builtin "repr") (rShow X.K) := by
  intro pins s σ H xs us Q I r h
  obtain ⟨a, d, rfl, hd, hs, hn, h30, hz, q⟩ := h
  cases r with
  | cons r1 r2 =>
    cases r2
    obtain ⟨as, rd⟩ := Dp.reads I d _ _ hd r1
    cases r1
    have hu := hr.units
    exact repr_of_reads' rd hs (PyData.noDict_hsm hn) hG (by omega) (fun _ _ z => z) (fun h' u tk hk => ⟨.str d.shown, H, I.kept hk, ⟨u, rfl⟩, q⟩) hz
/-- // by any divisor but 0 -/
def CDivN (_ j : Int) : Prop := j ≠ 0 ∧ j.natAbs.log2 < 9000
theorem op_fdivN : OpR X (binaryOp .FloorDiv) (rI CDivN fun i j => .int (i.fdiv j)) := opI fun i j _ _ _ _ _ hc q =>
  floordiv_int hc.1 q (.inl (PyProof.noPylong_of_log2 hc.2))
end
/-! ### the end of a law's row -/
theorem at_caller {P : Program} {w : World} {K : PySem.W.Frag} {mg mb : Str → Option Value} {k : Nat} {fa a : Addr} {fd : FuncData} {x : Str} {sp : Sp} {s : Shared} {us : List Value} {ns : List Int}
    (KX : K.In s.heap) (hns : s.heap.Ns mainGlobals mg) (hb : s.heap.Ns builtinsNs mb) (hbb : ∀ x : Str, x ≠ "__name__" → mb x = bootBuiltins x) (hlim : s.heap.NoLimit) (hgen : s.gens = #[])
    (ha : s.heap.get? a = some { cls := .type "list", data := .seq us.toArray }) (hi : IntsAre us ns) (hl : ns.length ≤ sizeLine) (hr : Room k callerA)
    (F : ∀ base : Heap, K.In base → base.Ns mainGlobals mg → FnG P w K mg base CX0 k fa fd [x] sp) (hbind : ∀ (s : Shared) (u : Value), BindsTo s fd ⟨[u], []⟩ [(x, u)])
    (hsp : ∀ H : Hp, Only H → SqL K H a (ns.map V.int) → sp [.ref a] H (fun v _ => v = .bl true) E0) :
    codeAny (model P w) callerA (.call (.ref fa) ⟨[.ref a], []⟩) (fun r s' => r = .ok (.ret (.bool true)) ∧ OldK s.heap s'.heap ∧ s'.os = s.os ∧ AllBare s'.gens) s := by
  -- from a heap that tracks at most the script
  have go : ∀ H : Hp, Only H → SqL K H a (ns.map V.int) → HOk P w H s.heap → (∀ b, H b ≠ none → b = a) → (H a ≠ none → K.lookup a = none) →
      codeAny (model P w) callerA (.call (.ref fa) ⟨[.ref a], []⟩) (fun r s' => r = .ok (.ret (.bool true)) ∧ OldK s.heap s'.heap ∧ s'.os = s.os ∧ AllBare s'.gens) s := by
    intro H only sq hok one key
    have keep : ∀ {b : Addr} {o : Obj}, s.heap.get? b = some o → (∀ vs n, o.data ≠ .seq vs n) → (hidT s.heap H).get? b = some o := by
      intro b o e hd
      refine hidT_get e ?_
      cases q : H b with
      | none => rfl
      | some u =>
        obtain rfl : b = a := one b (by rw [q]; exact fun z => nomatch z)
        rw [ha] at e
        cases e
        exact absurd rfl (hd _ _)
    have names : ∀ {b : Addr} {m : Str → Option Value}, s.heap.Ns b m → (hidT s.heap H).Ns b m := by
      rintro b m ⟨o, es, ep, e, d, r⟩
      exact ⟨o, es, ep, keep e (fun vs n z => by rw [d] at z; cases z), d, r⟩
    have kin : K.In (hidT s.heap H) := by
      intro b o e
      refine hidT_get (KX b o e) ?_
      cases q : H b with
      | none => rfl
      | some u =>
        have nn : H b ≠ none := by rw [q]; exact fun z => nomatch z
        obtain rfl : b = a := one b nn
        rw [key nn] at e
        cases e
    have md : Mod K mg (hidT s.heap H) := ⟨kin, names hns, ⟨mb, names hb, hbb⟩, by obtain ⟨mc, h1, h2⟩ := hlim; exact ⟨mc, names h1, h2⟩⟩
    have none_in : ∀ b : Addr, b ∉ frs [] := fun b z => absurd (show b ∈ ([] : List Addr) from z) (by simp)
    have e0 : Env0 P w K mg (hidT s.heap H) callerA [] s H := { frames := rfl, mod := md, bs := fun b o e => of_hidT e, bsz := Nat.le_of_eq (hidT_size _ _), funs := trivial, frf := fun b z => absurd z (none_in b), hok := hok, bare := .of_eq hgen }
    refine codeAny_mono ((F _ kin (names hns)).goes callerA [] s H ⟨[.ref a], []⟩ [.ref a] [.ref a] _ _ hr rfl e0 (hbind s (.ref a)) (.cons rfl .nil) (hsp H only sq)) fun r s' h => ?_
    cases r with
    | error e => exact False.elim h
    | ok fl =>
      cases fl with
      | next => exact False.elim h
      | brk => exact False.elim h
      | cont => exact False.elim h
      | ret u =>
        obtain ⟨v, H', os, bare, un, hok', rv, q⟩ := h
        obtain rfl : v = .bl true := q
        obtain rfl : u = Value.bool true := rv
        refine ⟨rfl, OldK.of_keep fun b o e => ?_, os, bare⟩
        cases q : H b with
        | none => exact un.keep b o e q (none_in b) (by simp)
        | some y =>
          rcases only b with z | ⟨ob, xs, z⟩
          · rw [q] at z
            cases z
          · obtain ⟨e1, _⟩ := hok b _ z
            obtain ⟨e2, _⟩ := hok' b _ (un.frzs b ob _ z)
            rw [e] at e1
            cases e1
            exact e2
  have rv := vals_ints hi
  cases hk : K.lookup a with
  | some o =>
    have e := KX a o hk
    rw [ha] at e
    cases e
    exact go (fun _ => none) (fun _ => Or.inl rfl) (Or.inr ⟨_, us.toArray, _, hk, rfl, rfl, rfl, by rw [List.size_toArray, hi.length]; exact hl, by simpa using rv⟩)
      (fun b u z => by cases (show (none : Option HO) = some u from z)) (fun b z => absurd rfl z) (fun z => absurd rfl z)
  | none =>
    refine go (fun b => if b = a then some (.frz { cls := .type "list", data := .seq us.toArray } (.lst (ns.map V.int))) else none) ?_ (Or.inl (Or.inr ⟨_, if_pos rfl⟩)) ?_ ?_ (fun _ => hk)
    · intro b
      by_cases h : b = a
      · exact Or.inr ⟨_, _, if_pos h⟩
      · exact Or.inl (if_neg h)
    · intro b u z
      by_cases h : b = a
      · cases (if_pos h).symm.trans z
        subst h
        exact ⟨ha, by rw [List.length_map]; exact hl, us, _, rv, ha⟩
      · cases (if_neg h).symm.trans z
    · intro b z
      by_cases h : b = a
      · exact h
      · exact absurd (if_neg h) z
theorem walkG {l : PySem.W.OpenLaw} {n k : Nat} {q : Program} {loose : List Str} {XP : (Str → Option Value) → Heap → Prop} {YP : World → Heap → Prop} {d : DefRec} {K : Params → PySem.W.Frag} {sp : PySem.W.Frag → Sp} {x : Str}
    (hn : l.most = some n) (hn2 : n ≤ sizeLine) (hdf : d.params.defaults = []) (hr : Room k callerA) (hY : ∀ (w : World) (h : Heap), YP w h → (K w.params).In h)
    (F : ∀ (w : World) (mg : Str → Option Value) (fa : Addr) (h : Heap), (K w.params).In h → h.Ns mainGlobals mg → mg d.name = some (.ref fa) →
      ∃ fd : FuncData, (∀ (s : Shared) (u : Value), BindsTo s fd ⟨[u], []⟩ [(x, u)]) ∧ ∀ base : Heap, (K w.params).In base → base.Ns mainGlobals mg → FnG l.prog w (K w.params) mg base CX0 k fa fd [x] (sp (K w.params)))
    (hsp : ∀ (K : PySem.W.Frag) (H : Hp) (a : Addr) (ns : List Int), ns.length ≤ n → Only H → SqL K H a (ns.map V.int) → sp K [.ref a] H (fun v _ => v = .bl true) E0) :
    PySem.W.WalkO q loose XP YP l.row.toRowW d [] (fun f vs => PySem.call f vs) := by
  refine Att.attach_call hn hdf fun w s0 s mg mb fa o pm cd doc a us ns G Y ho hd hcd hmg hobj hints hlen hg => ?_
  obtain ⟨fd, hb, hF⟩ := F w mg fa _ (hY w _ Y) G.T.g hmg
  exact at_caller (hY w _ Y) G.T.g G.T.b G.T.builtins G.T.nolimit hg hobj hints (Nat.le_trans hlen hn2) hr hF hb fun H hO hS => hsp _ H a ns hlen hO hS
end Lf

set_option Elab.async false
set_option linter.all false
set_option maxRecDepth 100000
set_option maxHeartbeats 4000000
/-! The head by one kernel run, with facts of any form: a fact is a Bool of the part of the heap that the module's names reach. -/
namespace Lf
open PySem PySem.Spec PyProof.Rows L2
abbrev Fct : Type := PySem.W.Frag → Bool
def obsX (fa : List Fct) (fn : List He.DefD) (K : PySem.W.Frag) : He.AlD := ((fa.all fun f => f K) && fn.all fun d => d.ok K, fn.map fun d => He.fnW K d.at_)
def SaysX (fa : List Fct) (fn : List He.DefD) (K : PySem.W.Frag) : Prop := obsX fa fn K = He.valD fn
def obsXG (n : Nat) (fa : List Fct) (fn : List He.DefD) (g : Addr → Option Obj) : He.AlD := obsX fa fn (He.frG g (He.asD g n))
def hookX (n : Nat) (fa : List Fct) (fn : List He.DefD) : PySem.W.Hook where
  α := He.AlD
  obs := fun s => obsXG n fa fn s.heap.get?
  val := fun _ => He.valD fn
  says := fun _ h => ∃ K : PySem.W.Frag, K.In h ∧ SaysX fa fn K
  of := fun _ _ e => ⟨_, He.frG_in, e⟩
  keeps := fun _ _ _ ⟨K, hK, c⟩ k => ⟨K, PySem.W.Frag.In.keeps hK k, c⟩
theorem obsXG_eq {n : Nat} {fa : List Fct} {fn : List He.DefD} {g : Addr → Option Obj} {s : Shared} (h : ∀ a, g a = s.heap.get? a) : obsXG n fa fn g = (hookX n fa fn).obs s := by
  have e : g = s.heap.get? := funext h
  rw [e] <;> rfl
section
variable {fa : List Fct} {fn : List He.DefD} {K : PySem.W.Frag}
theorem SaysX.all (c : SaysX fa fn K) : (fa.all fun f => f K) = true := (He.ba (show ((fa.all fun f => f K) && fn.all fun d => d.ok K) = true from congrArg (fun z : He.AlD => z.1) c)).1
theorem SaysX.fact (c : SaysX fa fn K) (i : Nat) {f : Fct} (h : fa[i]? = some f := by rfl) : f K = true := List.all_eq_true.mp c.all f (List.mem_of_getElem? h)
theorem SaysX.def_ (c : SaysX fa fn K) (i : Nat) {d : He.DefD} (h : fn[i]? = some d := by rfl) : ∃ fd, FunD K d.name d.qual d.params d.body d.scope (d.dvs K) (d.kws K) (He.fAd K d.at_) fd := by
  have c2 := (He.ba (show ((fa.all fun f => f K) && fn.all fun d => d.ok K) = true from congrArg (fun z : He.AlD => z.1) c)).2
  have e : fn.map (fun d => He.fnW K d.at_) = fn.map He.DefD.val := congrArg (fun z : He.AlD => z.2) c
  have e2 : (fn.map fun d => He.fnW K d.at_)[i]? = (fn.map He.DefD.val)[i]? := by rw [e]
  rw [List.getElem?_map, List.getElem?_map, h] at e2
  exact He.DefD.funD (Option.some.inj e2) (List.all_eq_true.mp c2 d (List.mem_of_getElem? h))
end
/-- a def without defaults as the machine has it -/
theorem fun_of {K : PySem.W.Frag} {x qual : Str} {st : Stmt} {f : Addr} {fd : FuncData} (F : FunD K x qual (defArgs st) (defBody st) (defScope st) [] [] f fd) :
    ∃ (kV doc pm : Value) (an : Option Addr) (cdv ct : Value), fd = PySem.W.fnOf x qual (defArgs st) (defBody st) (defScope st) .none kV doc pm an cdv ct ∧ Fun K x qual st f fd := by
  obtain ⟨oc, od, dV, kV, doc, pm, an, cdv, ct, osl, rfl, lk, hcd, dv, _⟩ := F.ex
  obtain rfl : dV = .none := (dv.resolve_right fun z => z.1 rfl).2
  exact ⟨kV, doc, pm, an, cdv, ct, rfl, fun_mk lk hcd F.kp⟩
/-- a def as the top left it, and how its arguments come to it -/
structure Df (K : PySem.W.Frag) (mg : Str → Option Value) (x : Str) (st : Stmt) (ps : List Str) (f : Addr) (fd : FuncData) : Prop where
  fn : Fun K x x st f fd
  g : mg x = some (.ref f)
  b1 : ∀ (s : Shared) (us : List Value), us.length = ps.length → BindsTo s fd ⟨us, []⟩ (ps.zip us)
  b2 : kwN x = true → ∀ (s : Shared) (us : List Value), us.length = ps.length → BindsTo s fd ⟨[], ps.zip us⟩ (ps.zip us)
  b3 : kwN x = true → ∀ (s : Shared) (us : List Value), us.length = ps.length → BindsTo s fd ⟨[], ps.reverse.zip us⟩ (ps.zip us.reverse)
theorem Df.cal {P : Program} {w : World} {K : PySem.W.Frag} {mg : Str → Option Value} {base : Heap} {CX : CXT} {k : Nat} {x : Str} {st : Stmt} {ps : List Str} {f : Addr} {fd : FuncData} {sp : Sp} (D : Df K mg x st ps f fd) (F : FnG P w K mg base CX k f fd ps sp) : Cal P w K mg base CX k x ps sp :=
  ⟨f, fd, F, D.b1, D.b2, D.b3, D.g, D.fn.kp⟩
/-- nothing keeps the promise of nothing -/
theorem FnG.no {P : Program} {w : World} {K : PySem.W.Frag} {mg : Str → Option Value} {base : Heap} {CX : CXT} {k : Nat} {f : Addr} {fd : FuncData} {ps : List Str} : FnG P w K mg base CX k f fd ps (fun _ _ _ _ => False) :=
  ⟨fun _ _ _ _ h => h.elim, fun _ _ _ _ _ _ _ _ _ _ _ _ _ _ h => h.elim⟩
/-- how plain arguments are bound: by the names alone -/
def plainA (as : List Arg) : Arguments := { posonlyargs := [], args := as, vararg := none, kwonlyargs := [], kw_defaults := [], kwarg := none, defaults := [] }
theorem no_kw {x : Str} {p : Prop} (h : kwN x = false) : kwN x = true → p := fun z => by
  rw [h] at z
  cases z
/-- the law's walk, the module's part given with it -/
theorem walkX {l : PySem.W.OpenLaw} {n k : Nat} {q : Program} {loose : List Str} {XP : (Str → Option Value) → Heap → Prop} {YP : World → Heap → Prop} {d : DefRec} {sp : PySem.W.Frag → Sp} {x : Str}
    (hn : l.most = some n) (hn2 : n ≤ sizeLine) (hdf : d.params.defaults = []) (hr : Room k callerA)
    (F : ∀ (w : World) (mg : Str → Option Value) (fa : Addr) (h : Heap), YP w h → h.Ns mainGlobals mg → mg d.name = some (.ref fa) →
      ∃ K : PySem.W.Frag, K.In h ∧ ∃ fd : FuncData, (∀ (s : Shared) (u : Value), BindsTo s fd ⟨[u], []⟩ [(x, u)]) ∧ ∀ base : Heap, K.In base → base.Ns mainGlobals mg → FnG l.prog w K mg base CX0 k fa fd [x] (sp K))
    (hsp : ∀ (K : PySem.W.Frag) (H : Hp) (a : Addr) (ns : List Int), ns.length ≤ n → Only H → SqL K H a (ns.map V.int) → sp K [.ref a] H (fun v _ => v = .bl true) E0) :
    PySem.W.WalkO q loose XP YP l.row.toRowW d [] (fun f vs => PySem.call f vs) := by
  refine Att.attach_call hn hdf fun w s0 s mg mb fa o pm cd doc a us ns G Y ho hd hcd hmg hobj hints hlen hg => ?_
  obtain ⟨K, KX, fd, hb, hF⟩ := F w mg fa _ Y G.T.g hmg
  exact at_caller KX G.T.g G.T.b G.T.builtins G.T.nolimit hg hobj hints (Nat.le_trans hlen hn2) hr hF hb fun H hO hS => hsp _ H a ns hlen hO hS
end Lf

set_option Elab.async false
set_option linter.all false
set_option maxRecDepth 100000
set_option maxHeartbeats 4000000
/-! An own exception over ValueError whose __init__ begins by super().__init__(..): its body's rule, and its promise FnOk. -/
namespace Lf
open PySem PySem.Spec PyProof.Rows L2 NdefX
/-- what the written part says of a class D whose __init__ at f says super().__init__ : the cell, the code -/
structure SupC (P : Program) (K : PySem.W.Frag) (D f cc cda : Addr) (fd : FuncData) : Prop where
  fn : ∃ (oc : Value) (od : Option Addr) (osl : Array (Option Value)), K.lookup f = some ⟨oc, od, .func fd, osl⟩
  code : ∃ (ccl : Value) (cdd : Option Addr) (vs : Array Value) (ccs : Array (Option Value)) (file : Str) (tf : Tok), K.lookup cda = some ⟨ccl, cdd, .fields vs, ccs⟩ ∧ vs[2]? = some (.str file tf) ∧ ((P.main.file : Str) == file) = true
  cell : ∃ (cl : Value) (cld : Option Addr) (csl : Array (Option Value)), K.lookup cc = some ⟨cl, cld, .cell (some (.ref D)), csl⟩
  sup : PySem.W.ks_superIn K D D "__init__" = some (some (.builtin "ValueError.__init__"))
  sub : PySem.W.mroIn K D (.ref D) = some true
  ve : PySem.W.subIn K (.ref D) (.type "ValueError") = some true
  stat : PySem.W.nsIn K cStatics "thirdparty.any" = some none
  top : (P.main.scope.names.lookup ("super" : Str)).isSome = false
/-- what a body that begins by super().__init__(..) asks: the self is the exception that is being made -/
def tSup (K : PySem.W.Frag) (D : Addr) (ta : TA) (t : TS) : TS := fun E σ H => ∃ a, σ[0]? = some (some (.ref a)) ∧ H a = some (exo a D none) ∧ ta σ H fun vs H1 => vs.length ≤ 1000 ∧ H1 a = some (exo a D none) ∧ t E σ H1
section
variable {X : Cx} {D f cc cda : Addr} {fd : FuncData} {ar : Arg} {e : Expr} {es : List Expr} {rest body : List Stmt} {ta : TA} {t : TS} {p0 p1 p2 p3 pos : Pos} {x0 : Str}
theorem call_sup {pins : List (Addr × Obj)} {σ : L2.St} {H : Hp} {s : Shared} {a u : Addr} {us : List Value} {Q : Value → Shared → Prop} {E : Value → Shared → Prop} {A : Around} (T : OexC X.K D) (I : Inv X pins σ H s) (ea : H a = some (exo a D none))
    (hu : s.heap.get? u = some (PySem.W.kxs_mw "ValueError.__init__" a)) (hl : us.length ≤ sizeLine) (h : ∀ s', Inv X pins σ H s' → Q .none s') : wpAny (model X.prog X.w) A (call (.ref u) us) Q E s := by
  obtain ⟨nm, q, N, bs, bm, sn, sub, ab, col, dd, k0, k1, k2, k3, k5, hC, hbm⟩ := T.cls
  obtain ⟨t1, ho⟩ := exo_at I.hok ea
  obtain ⟨hp, g, d, tk, os⟩ := s
  refine wpAny_call (codeAny_of_tree ?_)
  show wpAny _ A.in1 (callAny (.ref u) ⟨us, []⟩) _ _ _
  simp only [callAny]
  refine wpAny_bind (wpAny_load hu ?_)
  simp only [PySem.W.kxs_mw, show (Value.type "method-wrapper" == Value.type "method" || Value.type "method-wrapper" == Value.type "builtin_function_or_method" || Value.type "method-wrapper" == Value.type "method-wrapper") = true by decide, if_true]
  refine PySem.W.KFB.if_so (by decide) ?_
  refine wpAny_bind (PySem.W.check_bound_init F.excBase_ValueError.toExcCallFacts (I.kIn _ _ hC) ho rfl ?_)
  refine wpAny_bind (wpAny_pure (wpAny_pure ?_))
  refine ⟨plainId_quiet F.excBase_ValueError.init.plain _, codeAny_builtin F.excBase_ValueError.initEntry ?_⟩
  refine PySem.W.exc_init_tree (cls := .ref D) (t0 := t1) (dv := none) (c2 := .none) (c3 := .none) (b4 := .bool false) ho hl fun h' k e' _ => ?_
  have J := I.write (t' := tk) (x := a) (e := a) (o := exo a D none) (by rw [ea]; exact True.intro) (.inl rfl) k ⟨_, e'⟩ (exo_ok e')
  have eu : upd H a (exo a D none) = H := by
    funext b
    by_cases hb : b = a
    · rw [hb, upd_same, ea]
    · rw [upd_ne hb]
  rw [eu] at J
  exact h _ J
/-- the body's rule -/
theorem body_sup {pins : List (Addr × Obj)} {σ : L2.St} {H : Hp} {s : Shared} {E : Ends} (S : SupC X.prog X.K D f cc cda fd) (T : OexC X.K D) (hm : X.mg "super" = none) (hA : PA X (e :: es) ta) (hR : PSs X rest t) (I : Inv X pins σ H s) (h : tSup X.K D ta t E σ H)
    (hp : (fd.params.posonlyargs ++ fd.params.args).head? = some ar) (hN : X.N[0]? = some ar.arg) (hka : X.env.kindOf ar.arg = some .local) (hvis : Vis X.env.scope ar.arg)
    (hks : X.env.kindOf "super" = some .globalImplicit) (hkc : X.env.kindOf "__class__" = some .free) (hfu : X.env.func = some f) (hco : X.env.code = .ref cda) (hcl : X.env.cells.lookup ("__class__" : Str) = some cc)
    (hc : ∀ pl : Unit, ∃ pl : Sem Bool, eval (.Call (.Attribute (.Call (.Name "super" p0) [] [] p1) "__init__" p2) (e :: es) [] pos) X.env = (do
      let ov ← attributeBase (.Call (.Name "super" p0) [] [] p1) "__init__" X.env (eval (.Call (.Name "super" p0) [] [] p1) X.env)
      standAt p2.atName
      let (f, first) ← holding [ov] (getMethod ov "__init__" pl)
      callWith pos f first (backTo pos (starEach (e :: es) X.env)) []))
    (hs : swapsWith (.Call (.Attribute (.Call (.Name "super" p0) [] [] p1) "__init__" p2) (e :: es) [] pos) none p3.line X.env = pure false)
    (he : starEach (e :: es) X.env = (false, eval e X.env) :: starEach es X.env) (hpl : (backTo pos (starEach es X.env)).any (·.1) = false) :
    PySem.wpAt (model X.prog X.w) X.A (.func body X.env) (execs (.Expr (.Call (.Attribute (.Call (.Name "super" p0) [] [] p1) "__init__" p2) (e :: es) [] pos) p3 :: rest) X.env) (SP X pins E) X.xe s := by
  obtain ⟨pl, hc⟩ := hc ()
  refine ks_wpAt_execs_cons (ks_wpAt_Expr_any (ks_wpAt_MethodCall (pl := pl) ?_ hc) I.quiet hs)
  have KX := I.kIn
  obtain ⟨oc, od, osl, hf⟩ := S.fn
  obtain ⟨ccl, cdd, vs, ccs, file, tf, hcode, hvs, hfile⟩ := S.code
  obtain ⟨cl, cld, csl, hcell⟩ := S.cell
  obtain ⟨a, hs0, ea, hta⟩ := h
  obtain ⟨t1, ho⟩ := exo_at I.hok ea
  obtain ⟨nm, qn, Nn, bs, bm, sn, sub, ab, col, dd, k0, k1, k2, k3, k5, hC, hbm⟩ := T.cls
  have hcls : PySem.W.clsIn X.K D = some { name := nm, bases := bs, mro := .ref D :: bm, ns := Nn, qualname := qn, hasDict := true, slotNames := sn, subclasses := sub, abstract := ab, collection := col, hasDel := false } := by unfold PySem.W.clsIn; rw [hC] <;> rfl
  have hat : (("__init__" : Str) == ("__class__" : Str)) = false := by decide
  refine ks_wpAt_super_base (env := X.env) hks hkc hat hfu (KX _ _ hf) rfl hp hco (KX _ _ hcode) rfl hvs hfile S.top ?_
  obtain ⟨mb, b1, b2⟩ := I.mod.blt
  refine PySem.W.ks_loadName_global I.ok.kind hks (Calls.loadGlobal_builtin (by rw [I.ok.glob]; exact I.mod.glob.keeps I.bk) hm (by rw [I.ok.blt]; exact b1.keeps I.bk) ((b2 _ (by decide)).trans (PyProof.Rows.Boot.«super»)) ⟨rfl, ?_⟩)
  refine wpAny_loadName_free I.ok.kind hkc hcl ⟨_, KX _ _ hcell, rfl⟩ ?_
  obtain ⟨m, hns, hsl⟩ := I.loc
  obtain ⟨u0, ru0, lk⟩ := hsl 0 ar.arg (.ref a) hN hs0 hvis
  cases ru0
  have hm0 : m ar.arg = some (.ref a) := by
    rcases lk with ⟨_, e⟩ | ⟨e | e, _⟩
    · exact e
    · rw [hka] at e; cases e
    · rw [hka] at e; cases e
  refine wpAny_loadName_local I.ok.kind hka hns hm0 ?_
  refine ks_wpAny_isType_cls (KX _ _ hC) rfl ⟨rfl, ?_⟩
  have II : PySem.W.InstAt s.heap a { cls := .ref D, dict := none, data := .fields #[.ref t1, .none, .none, .none, .bool false, .none] } D none := ⟨ho, rfl, rfl, trivial⟩
  obtain ⟨hp', g, d, tk, os⟩ := s
  refine ks_wpAny_call_super (KX _ _ hC) rfl ho rfl (fun c e => by cases e) (PySem.W.looks_mroIn KX S.sub) (fun h1 e1 kk1 => ?_)
  have I1 : Inv X pins σ H ⟨h1, g, d, tk, os⟩ := I.kept (t' := tk) kk1
  have KX1 := I1.kIn
  have II1 : PySem.W.InstAt h1 a { cls := .ref D, dict := none, data := .fields #[.ref t1, .none, .none, .none, .bool false, .none] } D none := ⟨kk1 _ _ ho, rfl, rfl, trivial⟩
  have sup := S.sup
  unfold PySem.W.ks_superIn at sup
  rw [hcls] at sup
  refine PySem.W.kxs_getMethod PySem.W.kxs_ValueError e1 (PySem.W.looks_opaque KX1 S.stat) (l₀ := .ref D :: bm) (fun A Q E s k q => wpAny_bind ((PySem.W.looks_clsIn KX1 hcls) A _ E s k (wpAny_pure q))) rfl KX1 sup (II1.type.andThen (PySem.W.looks_subIn KX1 S.ve)) (PySem.W.ks_ne KX1 II1 hcls) hat ?_
  show wpAny _ _ (callWith pos (.ref h1.objs.size) [] (backTo pos (starEach (e :: es) X.env)) []) _ _ _
  have kk2 : ∀ b o, h1.get? b = some o → (h1.push (PySem.W.kxs_mw "ValueError.__init__" a)).get? b = some o := fun b o e => Heap.get?_push_of_some _ e
  have I2 : Inv X pins σ H ⟨h1.push (PySem.W.kxs_mw "ValueError.__init__" a), g, d, tk + 1, os⟩ := I1.kept (t' := tk + 1) kk2
  have eu : (h1.push (PySem.W.kxs_mw "ValueError.__init__" a)).get? h1.objs.size = some (PySem.W.kxs_mw "ValueError.__init__" a) := Heap.get?_push_at rfl rfl
  have hnu : H h1.objs.size = none := I1.hok.fresh (Nat.le_refl _)
  have I3 : Inv X ((h1.objs.size, PySem.W.kxs_mw "ValueError.__init__" a) :: pins) σ H ⟨h1.push (PySem.W.kxs_mw "ValueError.__init__" a), g, d, tk + 1, os⟩ := by
    refine I2.pins_of fun p hp => ?_
    rcases List.mem_cons.mp hp with rfl | hp
    · exact ⟨eu, hnu, Ne.symm (Nat.ne_of_lt I1.lt), I1.nofs (Nat.le_refl _), fun v z => by cases z⟩
    · exact I2.pin p (List.mem_append_right _ hp)
  have key := thn (Q' := fun us s4 => PySem.W.KxsAt "ValueError.__init__" h1.objs.size a s4.heap ∧ wpAny (model X.prog X.w) X.A (call (.ref h1.objs.size) ([] ++ us) []) (fun _ s' => PySem.wpAt (model X.prog X.w) X.A (.func body X.env) (execs rest X.env) (SP X pins E) X.xe s') X.xe s4)
      (hA.run pos _ _ σ H _ I3 hta) fun us s4 ⟨vs4, H4, I4, r4, hz, ea4, q4⟩ => by
    have hu4 := (I4.pin _ (List.mem_append_right _ (List.mem_cons_self ..))).1
    have I5 : Inv X pins σ H4 s4 := I4.pins_of fun p hp => I4.pin p (List.mem_append_right _ (List.mem_cons_of_mem _ hp))
    refine ⟨hu4, ?_⟩
    exact call_sup T I5 ea4 hu4 (by rw [List.nil_append, ← Paired.length r4, sizeLine_eq]; omega) fun s' J => wpAt_of_wpAny (hR.run pins s' σ H4 E J q4)
  rw [he] at key ⊢
  refine PySem.W.kxs_callWith (i := "ValueError.__init__") (x := a) (by show (false || (backTo pos (starEach es X.env)).any (·.1)) = false; rw [hpl]; rfl) ?_
  exact PySem.Calls.evalArgs_plain key
end
/-- an own exception's __init__ as it stands behind the top -/
structure XFun (P : Program) (K : PySem.W.Frag) (qual : Str) (st : Stmt) (D f : Addr) (fd : FuncData) (cc cda : Addr) : Prop where
  ex : ∃ (dV kV doc pm : Value) (an : Option Addr) (ct : Value), fd = PySem.W.fnX "__init__" qual (defArgs st) (defBody st) (defScope st) [("__class__", cc)] dV kV doc pm an (.ref cda) ct
  sup : SupC P K D f cc cda fd
  code : PySem.W.codeIn K (.ref cda) qual = true
/-- the context of its body -/
abbrev xcx (CX : CXT) (P : Program) (w : World) (K : PySem.W.Frag) (mg : Str → Option Value) (base : Heap) (N : List Str) (qual : Str) (st : Stmt) (f cc cda : Addr) (A : Around) (outer : List Env) (s : Shared) (H : Hp) (E : XK) : Cx :=
  ncx CX P w K mg base N ⟨"__init__", qual, defArgs st, defBody st, defScope st, [("__class__", cc)], cda⟩ f A outer s H E
section
variable {CX : CXT} {P : Program} {w : World} {K : PySem.W.Frag} {mg : Str → Option Value} {base : Heap} {qual : Str} {st : Stmt} {D f cc cda : Addr} {fd : FuncData} {N ps : List Str} {k : Nat} {sp : Sp} {ar : Arg} {p0 p1 p2 p3 pos : Pos} {e : Expr} {es : List Expr} {rest : List Stmt}
theorem xok (F : XFun P K qual st D f fd cc cda) (T : OexC K D) (hm : mg "super" = none) (S : NScope N ps ["__class__"] (defScope st)) (len : ∀ vs H Q E, sp vs H Q E → vs.length = ps.length)
    (hb : defBody st = .Expr (.Call (.Attribute (.Call (.Name "super" p0) [] [] p1) "__init__" p2) (e :: es) [] pos) p3 :: rest)
    (hp : ((defArgs st).posonlyargs ++ (defArgs st).args).head? = some ar) (hN : N[0]? = some ar.arg) (hka : (defScope st).names.lookup ar.arg = some .local)
    (hks : (defScope st).names.lookup ("super" : Str) = some .globalImplicit)
    (hc : ∀ L : Addr, ∃ pl : Sem Bool, eval (.Call (.Attribute (.Call (.Name "super" p0) [] [] p1) "__init__" p2) (e :: es) [] pos) (PySem.W.envX qual (defScope st) L f (.ref cda) [("__class__", cc)]) = (do
      let ov ← attributeBase (.Call (.Name "super" p0) [] [] p1) "__init__" (PySem.W.envX qual (defScope st) L f (.ref cda) [("__class__", cc)]) (eval (.Call (.Name "super" p0) [] [] p1) (PySem.W.envX qual (defScope st) L f (.ref cda) [("__class__", cc)]))
      standAt p2.atName
      let (g, first) ← holding [ov] (getMethod ov "__init__" pl)
      callWith pos g first (backTo pos (starEach (e :: es) (PySem.W.envX qual (defScope st) L f (.ref cda) [("__class__", cc)]))) []))
    (hs : ∀ L : Addr, swapsWith (.Call (.Attribute (.Call (.Name "super" p0) [] [] p1) "__init__" p2) (e :: es) [] pos) none p3.line (PySem.W.envX qual (defScope st) L f (.ref cda) [("__class__", cc)]) = pure false)
    (he : ∀ L : Addr, starEach (e :: es) (PySem.W.envX qual (defScope st) L f (.ref cda) [("__class__", cc)]) = (false, eval e (PySem.W.envX qual (defScope st) L f (.ref cda) [("__class__", cc)])) :: starEach es (PySem.W.envX qual (defScope st) L f (.ref cda) [("__class__", cc)]))
    (hpl : ∀ L : Addr, (backTo pos (starEach es (PySem.W.envX qual (defScope st) L f (.ref cda) [("__class__", cc)]))).any (·.1) = false)
    (body : ∀ (A : Around) (outer : List Env) (s : Shared) (H : Hp) (vs : List V) (Q : VK) (E : XK), Room k (A.deeper (PySem.W.envX qual (defScope st) s.heap.objs.size f (.ref cda) [("__class__", cc)])) → sp vs H Q E →
      ∃ ta t, PA (xcx CX P w K mg base N qual st f cc cda A outer s H E) (e :: es) ta ∧ PSs (xcx CX P w K mg base N qual st f cc cda A outer s H E) rest t ∧
        tSup K D ta t { nx := fun _ H' => Q .non H', rt := Q } (startF N vs [none]) H) : FnOk P w K mg base CX (k + 1) f fd ps sp := by
  obtain ⟨dV, kV, doc, pm, an, ct, rfl⟩ := F.ex
  obtain ⟨oc, od, osl, hf⟩ := F.sup.fn
  obtain ⟨cl, cld, csl, hcell⟩ := F.sup.cell
  refine ⟨len, fun A outer s H ar' us vs Q E hr e0 hbi r hsp => ?_⟩
  have hl := len _ _ _ _ hsp
  have old : ∀ b o, base.get? b = some o → s.heap.get? b = some o := fun b o e => (e0.bs b o e).1
  have kin : K.In s.heap := e0.mod.kin.keeps old
  have hcc : H cc = none := (e0.bs _ _ (e0.mod.kin _ _ hcell)).2
  refine codeAny_call_function hr.depth (kin _ _ hf) rfl S.co S.gen rfl (PySem.W.codeRec_of kin F.code) (hbi _ _ _ _ ?_)
  refine wpAny_newFunctionEnv S.nocell (fun ⟨n, _⟩ hy => S.par n (List.of_mem_zip hy).1) (fun h₁ hns hsb => ⟨(e0.mod.nolimit.keeps old).fresh _ hsb, ?_⟩) S.kind
  have kp : ∀ b o, s.heap.get? b = some o → h₁.get? b = some o := fun b o e => hsb.extBut b o (Nat.ne_of_lt (Heap.lt_size e)) (Heap.get?_push_of_some _ e)
  obtain ⟨ta, t, hA, hR, hq⟩ := body A outer s H vs Q E (hr.deeper _) hsp
  have C : CellsAt [("__class__", cc)] ["__class__"] [none] s.heap H := by
    have lk : ∀ {y : Str} {c : Addr}, ([(("__class__" : Str), cc)] : List (Str × Addr)).lookup y = some c → y = "__class__" ∧ c = cc := by
      intro y c e
      rw [List.lookup_cons] at e
      cases hy : (y == ("__class__" : Str)) with
      | true =>
        rw [hy] at e
        exact ⟨by simpa using hy, (Option.some.inj e).symm⟩
      | false =>
        rw [hy] at e
        cases e
    refine ⟨rfl, fun y c e => ?_, fun x y c e1 e2 => ?_, fun i y e => ?_⟩
    · obtain ⟨_, rfl⟩ := lk e
      exact ⟨hcc, _, _, kin _ _ hcell, rfl⟩
    · rw [(lk e1).1, (lk e2).1]
    · match i, e with
      | 0, e =>
        cases e
        exact ⟨cc, by simp [List.lookup], fun v z => by cases z⟩
  have I : Inv (xcx CX P w K mg base N qual st f cc cda A outer s H E) [] (startF N vs [none]) H { s with heap := h₁, toks := s.toks + (ps.zip us).length } :=
    inv_startN (F := ⟨"__init__", qual, defArgs st, defBody st, defScope st, [("__class__", cc)], cda⟩) S hr.hd e0 hl r C hns kp
  show codeAny _ _ (.func (defBody st) (PySem.W.envX qual (defScope st) s.heap.objs.size f (.ref cda) [("__class__", cc)])) _ _
  refine ks_codeAny_funcAt ?_
  have B := body_sup (X := xcx CX P w K mg base N qual st f cc cda A outer s H E) (body := defBody st) (cc := cc) (cda := cda) (p3 := p3) F.sup T hm hA hR I hq hp hN hka (.inl hka) hks (S.frk _ (List.mem_cons_self ..)) rfl rfl (show ([(("__class__" : Str), cc)] : List (Str × Addr)).lookup ("__class__" : Str) = some cc by simp [List.lookup]) (fun _ => hc _) (hs _) (he _) (hpl _)
  rw [← hb] at B
  refine ks_wpAt_mono B (fun fl s' hs' => ?_) fun e s' z => z
  have fin : ∀ {σ' : L2.St} {H' : Hp} {v : V} {u : Value}, Inv (xcx CX P w K mg base N qual st f cc cda A outer s H E) [] σ' H' s' → L2.RelV v u → Q v H' → CE outer P w H s Q u s' :=
    fun {σ' H' v u} J rv q => ⟨v, H', J.os, J.bare, J.base, J.hok, rv, q⟩
  cases fl with
  | ret u =>
    obtain ⟨v, σ', H', J, rv, q⟩ := hs'
    exact fin J rv q
  | next =>
    obtain ⟨σ', H', J, q⟩ := hs'
    exact fin (v := V.non) (u := Value.none) J rfl q
  | brk =>
    obtain ⟨_, _, _, q⟩ := hs'
    exact False.elim q
  | cont =>
    obtain ⟨_, _, _, q⟩ := hs'
    exact False.elim q
end
end Lf

set_option Elab.async false
set_option linter.all false
set_option maxRecDepth 100000
set_option maxHeartbeats 4000000
/-! isinstance of a caught error that has fields of its own, in the suite that caught it. -/
namespace Lf
open PySem PySem.Spec PySem.Calls PyProof.Rows PySem.W
/-- the library's fact of an own error, asked of the facts that L2.ExcC holds: with or without a dict of its own -/
theorem kit_own {K : Frag} {x D : Addr} {ox : Obj} {od : Option Obj} (T : L2.ExcC K D) : KitX K (.ref x) (.ref D) (fun h => InstAt h x ox D od) :=
  kitx_exc (gt := none) (match any_some T.hd with | ⟨_, hc, _⟩ => by rw [hc]; rfl) T.hg T.hk T.hs T.ha T.hn T.ht T.hm
end Lf
namespace Lf
open PySem PySem.Spec PyProof.Rows L2
/-- isinstance(e, c), e what the suite caught: its class is D, its fields stand -/
def rIsX (K : PySem.W.Frag) (D a : Addr) (cls : Value) (d : Option Addr) : List V → Hp → VK → Prop := fun xs H Q => cls = .ref D ∧ (d = none ∨ ∃ (dd : Addr) (fs : List (Str × V)), d = some dd ∧ H dd = some (.xd fs)) ∧
  ∃ (c : V) (cv : Value) (b : Bool), xs = [.ref a, c] ∧ (∀ u, RelV c u → u = cv) ∧ PySem.W.kitOne K (.ref D) cv = some b ∧ Q (.bl b) H
theorem call_isX {X : Cx} {a D : Addr} {oe : Obj} {cls : Value} {d : Option Addr} {pn : List (Addr × Obj)} (C : ExcC X.K D) (hz : Zc cls d oe) (hf : ∃ vs, oe.data = .fields vs) : CallR (X.suite a ((a, oe) :: pn)) (.builtin "isinstance") (rIsX X.K D a cls d) := by
  intro pins s σ H xs us Q I r h
  obtain ⟨ec, hd, c, cv, b, rfl, hcv, e, q⟩ := h
  cases r with
  | cons rx rr =>
    cases rr with
    | cons rt rr =>
      cases rr
      cases rx
      have ecv := hcv _ rt
      subst ecv
      obtain ⟨hget, _⟩ := I.pin (a, oe) (List.mem_append.mpr (.inl List.mem_cons_self))
      obtain ⟨vs, hv⟩ := hf
      have J : ∃ od, PySem.W.InstAt s.heap a oe D od := by
        rcases hd with hd | ⟨dd, fs, hd, hH⟩
        · exact ⟨none, hget, by rw [hz.1, ec], by unfold PySem.W.notCls; rw [hv] <;> rfl, by rw [hz.2, hd]; trivial⟩
        · have hx : ObjOk X.prog X.w H s.heap dd (.xd fs) := I.hok dd _ hH
          obtain ⟨o, ho⟩ := objOk_get hx
          exact ⟨some o, hget, by rw [hz.1, ec], by unfold PySem.W.notCls; rw [hv] <;> rfl, by rw [hz.2, hd]; exact ho⟩
      obtain ⟨od, J⟩ := J
      exact PySem.W.kia_one (kit_own (od := od) C) I.kIn J e (fun z => nomatch z) fun tk => ⟨.bl b, H, I.kept (t' := tk) fun _ _ z => z, rfl, q⟩
end Lf

set_option Elab.async false
set_option linter.all false
set_option maxRecDepth 100000
set_option maxHeartbeats 4000000
/-! The head by kernel runs, with the __init__ of own exceptions (a def that holds its class in a cell) among the defs, and the facts of such exceptions. -/
namespace Lf
open PySem PySem.Spec PyProof.Rows L2
abbrev FnV : Type := Option (Str × Str × Arguments × FuncBody × Scope × Addr × List Str × Addr)
def fnV (K : PySem.W.Frag) (p : Str × Option Str) : FnV := match K.lookup (He.fAd K p) with
  | some ⟨_, _, .func fd, _⟩ => some (fd.name, fd.qualname, fd.params, fd.body, fd.scope, fd.globals, fd.closure.map (·.1), fd.builtins)
  | _ => none
/-- a def, and the names that it holds in cells -/
structure DefY where
  d : He.DefD
  cl : List Str := []
def DefY.val (y : DefY) : FnV := some (y.d.name, y.d.qual, y.d.params, .stmts y.d.body, y.d.scope, mainGlobals, y.cl, builtinsNs)
abbrev AlY : Type := Bool × List FnV
def obsY (fa : List Fct) (fn : List DefY) (K : PySem.W.Frag) : AlY := ((fa.all fun f => f K) && fn.all fun y => y.d.ok K, fn.map fun y => fnV K y.d.at_)
def valY (fn : List DefY) : AlY := (true, fn.map DefY.val)
def SaysY (fa : List Fct) (fn : List DefY) (K : PySem.W.Frag) : Prop := obsY fa fn K = valY fn
def obsYG (n : Nat) (fa : List Fct) (fn : List DefY) (g : Addr → Option Obj) : AlY := obsY fa fn (He.frG g (He.asD g n ++ [cStatics]))
def hookY (n : Nat) (fa : List Fct) (fn : List DefY) : PySem.W.Hook where
  α := AlY
  obs := fun s => obsYG n fa fn s.heap.get?
  val := fun _ => valY fn
  says := fun _ h => ∃ K : PySem.W.Frag, K.In h ∧ SaysY fa fn K
  of := fun _ _ e => ⟨_, He.frG_in, e⟩
  keeps := fun _ _ _ ⟨K, hK, c⟩ k => ⟨K, PySem.W.Frag.In.keeps hK k, c⟩
theorem obsYG_eq {n : Nat} {fa : List Fct} {fn : List DefY} {g : Addr → Option Obj} {s : Shared} (h : ∀ a, g a = s.heap.get? a) : obsYG n fa fn g = (hookY n fa fn).obs s := by
  have e : g = s.heap.get? := funext h
  rw [e] <;> rfl
section
variable {fa : List Fct} {fn : List DefY} {K : PySem.W.Frag}
theorem SaysY.fact (c : SaysY fa fn K) (i : Nat) {f : Fct} (h : fa[i]? = some f := by rfl) : f K = true :=
  List.all_eq_true.mp (He.ba (show ((fa.all fun f => f K) && fn.all fun y => y.d.ok K) = true from congrArg (fun z : AlY => z.1) c)).1 f (List.mem_of_getElem? h)
theorem SaysY.at_ (c : SaysY fa fn K) (i : Nat) {y : DefY} (h : fn[i]? = some y) : fnV K y.d.at_ = y.val ∧ y.d.ok K = true := by
  have c2 := (He.ba (show ((fa.all fun f => f K) && fn.all fun y => y.d.ok K) = true from congrArg (fun z : AlY => z.1) c)).2
  have e : fn.map (fun y => fnV K y.d.at_) = fn.map DefY.val := congrArg (fun z : AlY => z.2) c
  have e2 : (fn.map fun y => fnV K y.d.at_)[i]? = (fn.map DefY.val)[i]? := by rw [e]
  rw [List.getElem?_map, List.getElem?_map, h] at e2
  exact ⟨Option.some.inj e2, List.all_eq_true.mp c2 y (List.mem_of_getElem? h)⟩
/-- the def itself, as the part has it -/
theorem DefY.here {y : DefY} (e : fnV K y.d.at_ = y.val) (c : y.d.ok K = true) : ∃ (oc : Value) (od : Option Addr) (cl : List (Str × Addr)) (dV kV doc pm : Value) (an : Option Addr) (cdv ct : Value) (osl : Array (Option Value)),
    K.lookup (He.fAd K y.d.at_) = some ⟨oc, od, .func (PySem.W.fnX y.d.name y.d.qual y.d.params y.d.body y.d.scope cl dV kV doc pm an cdv ct), osl⟩ ∧ cl.map (·.1) = y.cl ∧ PySem.W.codeIn K cdv y.d.qual = true ∧ PySem.W.keepIn K (.ref (He.fAd K y.d.at_)) = true ∧ He.dflB K dV (y.d.dvs K) = true := by
  obtain ⟨kp, c2⟩ := He.ba c
  unfold fnV at e
  cases q : K.lookup (He.fAd K y.d.at_) with
  | none =>
    rw [q] at c2
    cases c2
  | some o =>
    obtain ⟨oc, od, dt, osl⟩ := o
    rw [q] at c2 e
    cases dt with
    | func fd =>
      obtain ⟨n1, n2, n3, n4, n5, n6, n7, n8, n9, n10, n11, n12, n13, n14, n15⟩ := fd
      have e2 : (some (n1, n2, n3, n4, n5, n6, n7.map (·.1), n15) : FnV) = some (y.d.name, y.d.qual, y.d.params, .stmts y.d.body, y.d.scope, mainGlobals, y.cl, builtinsNs) := e
      simp only [Option.some.injEq, Prod.mk.injEq] at e2
      obtain ⟨h1, h2, h3, h4, h5, h6, h7, h8⟩ := e2
      subst h1 h2 h3 h4 h5 h6 h8
      have c3 : (PySem.W.codeIn K n13 y.d.qual && (He.dflB K n8 (y.d.dvs K) && He.kwdB K n9 (y.d.kws K))) = true := c2
      exact ⟨oc, od, n7, n8, n9, n10, n11, n12, n13, n14, osl, rfl, h7, (He.ba c3).1, kp, (He.ba (He.ba c3).2).1⟩
    | _ => cases c2
theorem SaysY.def_ (c : SaysY fa fn K) (i : Nat) {y : DefY} (h : fn[i]? = some y := by rfl) (hc : y.cl = [] := by rfl) : ∃ fd, FunD K y.d.name y.d.qual y.d.params y.d.body y.d.scope (y.d.dvs K) (y.d.kws K) (He.fAd K y.d.at_) fd := by
  obtain ⟨e, ok⟩ := c.at_ i h
  refine He.DefD.funD ?_ ok
  obtain ⟨oc, od, cl, dV, kV, doc, pm, an, cdv, ct, osl, lk, ec, _⟩ := DefY.here e ok
  rw [hc] at ec
  cases cl with
  | nil =>
    show He.fnW K y.d.at_ = _
    unfold He.fnW
    rw [lk]
    rfl
  | cons a b => cases ec
end
/-! ### several runs -/
section
open PySem.W HandSHeadRun
theorem obsY_app {fa fb : List Fct} {fn gn : List DefY} {K : PySem.W.Frag} (h : obsY fa fn K = valY fn) (k : obsY fb gn K = valY gn) : obsY (fa ++ fb) (fn ++ gn) K = valY (fn ++ gn) := by
  have a := He.ba (show ((fa.all fun f => f K) && fn.all fun y => y.d.ok K) = true from congrArg (fun z : AlY => z.1) h)
  have b := He.ba (show ((fb.all fun f => f K) && gn.all fun y => y.d.ok K) = true from congrArg (fun z : AlY => z.1) k)
  have h2 : fn.map (fun y => fnV K y.d.at_) = fn.map DefY.val := congrArg (fun z : AlY => z.2) h
  have k2 : gn.map (fun y => fnV K y.d.at_) = gn.map DefY.val := congrArg (fun z : AlY => z.2) k
  show (((fa ++ fb).all fun f => f K) && (fn ++ gn).all fun y => y.d.ok K, (fn ++ gn).map fun y => fnV K y.d.at_) = (true, (fn ++ gn).map DefY.val)
  rw [List.all_append, List.all_append, a.1, a.2, b.1, b.2, List.map_append, List.map_append, h2, k2]
  rfl
def RunPartY (r : OpenRow) (n M : Nat) (fa : List Fct) (fn : List DefY) (w : World) : Prop := ∀ os : OsState, (endF (stepQ (denQ tabQ) r.prog w) M r.prog w os).map (fun s => obsYG n fa fn (getT s)) = some (valY fn)
def RunLooksY (r : OpenRow) (q : Program) (M : Nat) (loose : List PySem.Str) (w : World) : Prop := ∀ os : OsState, (endF (stepQ (denQ tabQ) r.prog w) M r.prog w os).map (fun s => (looksF r.prog (boot_heap w.params) s.abs, seenQ q loose (importedModules r.prog.main.body) (fun s => xlAt q [] s && recOk r.toRowW.records s) s.abs)) = some (true, openGood q loose)
theorem RunPartY.app {r : OpenRow} {n M : Nat} {fa fb : List Fct} {fn gn : List DefY} {w : World} (h : RunPartY r n M fa fn w) (k : RunPartY r n M fb gn w) : RunPartY r n M (fa ++ fb) (fn ++ gn) w := fun os => by
  have h' := h os
  have k' := k os
  cases e : endF (stepQ (denQ tabQ) r.prog w) M r.prog w os with
  | none =>
    rw [e] at h'
    cases h'
  | some s =>
    rw [e] at h' k'
    exact congrArg some (obsY_app (Option.some.inj h') (Option.some.inj k'))
theorem runY_of {r : OpenRow} {q : Program} {n M : Nat} {loose : List PySem.Str} {fa : List Fct} {fn : List DefY} {w : World} (h : RunLooksY r q M loose w) (k : RunPartY r n M fa fn w) : RunEq r q (hookY n fa fn) (fun s => obsYG n fa fn (getT s)) M loose w := fun os => by
  have h' := h os
  have k' := k os
  cases e : endF (stepQ (denQ tabQ) r.prog w) M r.prog w os with
  | none =>
    rw [e] at h'
    cases h'
  | some s =>
    rw [e] at h' k'
    have h1 := Option.some.inj h'
    have k1 : obsYG n fa fn (getT s) = valY fn := Option.some.inj k'
    refine congrArg some ?_
    show (looksF r.prog (boot_heap w.params) s.abs, seenQ q loose (importedModules r.prog.main.body) (fun s => xlAt q [] s && recOk r.toRowW.records s) s.abs, obsYG n fa fn (getT s)) = (true, openGood q loose, valY fn)
    rw [k1, (Prod.mk.inj h1).1, (Prod.mk.inj h1).2]
end
/-! ### own exceptions -/
/-- an own exception with fields, under its name: ps are the parameters of its __init__, st the def -/
structure XTn (P : Program) (K : PySem.W.Frag) (mg : Str → Option Value) (x qual : Str) (ps : List Str) (st : Stmt) (D fI : Addr) (fdI : FuncData) (cc cda : Addr) : Prop where
  g : mg x = some (.ref D)
  T : OexC K D
  iC : PySem.W.findIn K (.ref D) "__init__" = some (some (.ref fI))
  tI : PySem.W.typeIn K (.ref fI) = some (.type "function")
  F : XFun P K qual st D fI fdI cc cda
  b : Binds K fdI (("self" : Str) :: ps) []
  sup : mg "super" = none
  no : ∀ f ∈ ps, PySem.W.findIn K (.ref D) f = some none
  E : ExcC K D
  X : XfC K D
section
variable {K : PySem.W.Frag} {D : Addr}
def oexB (K : PySem.W.Frag) (D : Addr) : Bool := match K.lookup D with
  | some ⟨.type t, _, .cls cd, sl⟩ => t == "type" && (cd.hasDict && (!cd.hasDel && (match cd.mro, sl.toList with
    | .ref C' :: bm, [_, _, _, _, some (.builtin n), _] => C' == D && (n == "ValueError.__new__" && PySem.HandSPX.refsVE bm)
    | _, _ => false)))
  | _ => false
theorem oexB_ok (hz : oexB K D = true) : ∃ nm q N bs bm sn sub ab col dd k0 k1 k2 k3 k5, K.lookup D = some (excClassObj nm q D N bs bm true sn sub ab col dd k0 k1 k2 k3 k5 "ValueError.__new__") ∧ PySem.HandSPX.refsVE bm = true := by
  unfold oexB at hz
  split at hz
  · rename_i t dd cd sl hl
    obtain ⟨h1, ha⟩ := He.ba hz
    obtain ⟨h2, hb⟩ := He.ba ha
    obtain ⟨h3, hc⟩ := He.ba hb
    clear ha hb hz
    obtain ⟨nm, bs, mro, N, q, hdct, sn, sub, ab, col, hdel⟩ := cd
    obtain ⟨sl⟩ := sl
    have e2 : hdct = true := h2
    have e3 : hdel = false := by
      cases hdel with
      | false => rfl
      | true => cases h3
    subst e2 e3
    have e1 : t = "type" := by simpa using h1
    subst e1
    split at hc
    · rename_i C' bm k0 k1 k2 k3 n k5 hm hs
      obtain ⟨h4, hd⟩ := He.ba hc
      obtain ⟨h5, h6⟩ := He.ba hd
      have e4 : C' = D := by simpa using h4
      have e5 : n = "ValueError.__new__" := by simpa using h5
      subst e4 e5
      have hm : mro = .ref C' :: bm := hm
      have hs : sl = [k0, k1, k2, k3, some (.builtin "ValueError.__new__"), k5] := hs
      subst hm hs
      exact ⟨nm, q, N, bs, bm, sn, sub, ab, col, dd, k0, k1, k2, k3, k5, hl, h6⟩
    · cases hc
  · cases hz
/-- the facts of an own exception over ValueError, with or without an __init__ of its own -/
def excB (K : PySem.W.Frag) (D : Addr) : Bool := decide (PySem.W.findIn K (.ref D) "__getattribute__" = some (some (.builtin "BaseException.__getattribute__"))) && (decide (PySem.W.findIn K (.ref D) "__getattr__" = some none) && (decide (PySem.W.subIn K (.ref D) (.type "BaseException") = some true) && (PySem.W.hasDictIn K D &&
  (decide (PySem.W.findIn K (.ref D) "__class__" = some (some (.builtin "object.__class__"))) && (decide (PySem.W.specialIn K (.builtin "object.__class__") "__get__" = some (some (.builtin "getset_descriptor.__get__"))) && (decide (PySem.W.takesIn K (.builtin "object.__class__") = some true) && decide (PySem.W.mroIn K D (.type "object") = some true)))))))
theorem excB_ok (h : excB K D = true) : ExcC K D ∧ XfC K D := by
  obtain ⟨h1, h⟩ := He.ba h
  obtain ⟨h2, h⟩ := He.ba h
  obtain ⟨h3, h⟩ := He.ba h
  obtain ⟨h4, h⟩ := He.ba h
  obtain ⟨h5, h⟩ := He.ba h
  obtain ⟨h6, h⟩ := He.ba h
  obtain ⟨h7, h8⟩ := He.ba h
  exact ⟨⟨of_decide_eq_true h1, of_decide_eq_true h2, of_decide_eq_true h3, h4, of_decide_eq_true h5, of_decide_eq_true h6, of_decide_eq_true h7, of_decide_eq_true h8⟩, ⟨of_decide_eq_true h1, of_decide_eq_true h2, of_decide_eq_true h3, h4⟩⟩
/-- the cell's place, the code's place, of a def that holds its class -/
def ccOf (K : PySem.W.Frag) (f : Addr) : Addr := match K.lookup f with
  | some ⟨_, _, .func fd, _⟩ => (match fd.closure with | [(_, a)] => a | _ => 0)
  | _ => 0
def cdOf (K : PySem.W.Frag) (f : Addr) : Addr := match K.lookup f with
  | some ⟨_, _, .func fd, _⟩ => (match fd.code with | .ref a => a | _ => 0)
  | _ => 0
def codeB (K : PySem.W.Frag) (file : Str) (c : Addr) : Bool := match K.lookup c with
  | some ⟨_, _, .fields vs, _⟩ => (match (vs[2]? : Option Value) with | some (.str z _) => file == z | _ => false)
  | _ => false
def cellB (K : PySem.W.Frag) (c D : Addr) : Bool := match K.lookup c with
  | some ⟨_, _, .cell (some (.ref a)), _⟩ => a == D
  | _ => false
def xtB (file x : Str) (ps : List Str) (K : PySem.W.Frag) : Bool := oexB K (He.ga K x) && (excB K (He.ga K x) && (codeB K file (cdOf K (He.ma K (He.ga K x) "__init__")) && (cellB K (ccOf K (He.ma K (He.ga K x) "__init__")) (He.ga K x) &&
  (decide (PySem.W.findIn K (.ref (He.ga K x)) "__setattr__" = some (some (.builtin "object.__setattr__"))) && (decide (PySem.W.typeIn K (.ref (He.ga K x)) = some (.type "type")) && (PySem.W.keepIn K (.ref (He.ga K x)) &&
  (decide (PySem.W.findIn K (.ref (He.ga K x)) "__init__" = some (some (.ref (He.ma K (He.ga K x) "__init__")))) && (decide (PySem.W.typeIn K (.ref (He.ma K (He.ga K x) "__init__")) = some (.type "function")) &&
  (decide (PySem.W.ks_superIn K (He.ga K x) (He.ga K x) "__init__" = some (some (.builtin "ValueError.__init__"))) && (decide (PySem.W.mroIn K (He.ga K x) (.ref (He.ga K x)) = some true) && (decide (PySem.W.subIn K (.ref (He.ga K x)) (.type "ValueError") = some true) &&
  (decide (PySem.W.nsIn K cStatics "thirdparty.any" = some none) && (ps.all fun f => decide (PySem.W.findIn K (.ref (He.ga K x)) f = some none))))))))))))))
theorem xtB_ok {P : Program} {mg : Str → Option Value} {x : Str} {ps : List Str} {st : Stmt} {qual file : Str} (hf : P.main.file = file) (htop : (P.main.scope.names.lookup ("super" : Str)).isSome = false) (g : mg x = some (.ref (He.ga K x))) (sup : mg "super" = none) (h : xtB file x ps K = true)
    {y : DefY} (e : fnV K y.d.at_ = y.val) (c : y.d.ok K = true) (ey : y = ⟨⟨(x, some "__init__"), "__init__", qual, defArgs st, defBody st, defScope st, [], []⟩, ["__class__"]⟩)
    (hb : ∀ (cc : Addr) (kV doc pm : Value) (an : Option Addr) (cdv ct : Value) (us : List Value), us.length = (("self" : Str) :: ps).length → bindArgs (PySem.W.fnX "__init__" qual (defArgs st) (defBody st) (defScope st) [("__class__", cc)] .none kV doc pm an cdv ct) ⟨us, []⟩ = pure ((("self" : Str) :: ps).zip us)) :
    ∃ fd, XTn P K mg x qual ps st (He.ga K x) (He.ma K (He.ga K x) "__init__") fd (ccOf K (He.ma K (He.ga K x) "__init__")) (cdOf K (He.ma K (He.ga K x) "__init__")) := by
  subst ey
  obtain ⟨h1, h⟩ := He.ba h
  obtain ⟨h2, h⟩ := He.ba h
  obtain ⟨h3, h⟩ := He.ba h
  obtain ⟨h4, h⟩ := He.ba h
  obtain ⟨h5, h⟩ := He.ba h
  obtain ⟨h6, h⟩ := He.ba h
  obtain ⟨h7, h⟩ := He.ba h
  obtain ⟨h8, h⟩ := He.ba h
  obtain ⟨h9, h⟩ := He.ba h
  obtain ⟨h10, h⟩ := He.ba h
  obtain ⟨h11, h⟩ := He.ba h
  obtain ⟨h12, h⟩ := He.ba h
  obtain ⟨h13, h14⟩ := He.ba h
  obtain ⟨E, Xf⟩ := excB_ok h2
  obtain ⟨oc, od, cl, dV, kV, doc, pm, an, cdv, ct, osl, lk, ec, hcd, kp, dfl⟩ := DefY.here e c
  obtain rfl : dV = .none := ((He.dflB_ok dfl).resolve_right fun z => z.1 rfl).2
  have lk : K.lookup (He.ma K (He.ga K x) "__init__") = some ⟨oc, od, .func (PySem.W.fnX "__init__" qual (defArgs st) (defBody st) (defScope st) cl .none kV doc pm an cdv ct), osl⟩ := lk
  obtain ⟨cc, rfl⟩ : ∃ cc, cl = [(("__class__" : Str), cc)] := by
    match cl, ec with
    | [(a, b)], ec =>
      have : a = ("__class__" : Str) := (List.cons.inj ec).1
      exact ⟨b, by rw [this]⟩
  have ecc : ccOf K (He.ma K (He.ga K x) "__init__") = cc := by
    unfold ccOf
    rw [lk]
  have hcd : PySem.W.codeIn K cdv qual = true := hcd
  obtain ⟨cda, rfl⟩ : ∃ cda, cdv = .ref cda := by
    unfold PySem.W.codeIn at hcd
    split at hcd
    · exact ⟨_, rfl⟩
    · cases hcd
  have ecd : cdOf K (He.ma K (He.ga K x) "__init__") = cda := by
    unfold cdOf
    rw [lk]
  rw [ecd] at h3 ⊢
  rw [ecc] at h4 ⊢
  refine ⟨_, g, ⟨oexB_ok h1, of_decide_eq_true h5, E.hs, of_decide_eq_true h6, h7⟩, of_decide_eq_true h8, of_decide_eq_true h9, ⟨⟨.none, kV, doc, pm, an, ct, rfl⟩, ⟨⟨oc, od, osl, lk⟩, ?_, ?_, of_decide_eq_true h10, of_decide_eq_true h11, of_decide_eq_true h12, of_decide_eq_true h13, htop⟩, hcd⟩, .all fun us hl => hb _ _ _ _ _ _ _ us hl, sup, fun f hf => of_decide_eq_true (List.all_eq_true.mp h14 f hf), E, Xf⟩
  · unfold codeB at h3
    split at h3
    · rename_i a1 a2 vs a3 hl
      split at h3
      · rename_i z tz hz
        exact ⟨a1, a2, vs, a3, z, tz, hl, hz, by rw [hf]; exact h3⟩
      · cases h3
    · cases h3
  · unfold cellB at h4
    split at h4
    · rename_i a1 a2 a a3 hl
      have : a = He.ga K x := by simpa using h4
      subst this
      exact ⟨a1, a2, a3, hl⟩
    · cases h4
end
end Lf

set_option Elab.async false
set_option linter.all false
set_option maxRecDepth 100000
set_option maxHeartbeats 4000000
/-! The head by kernel runs, at less cost: what is seen is kept as bits of a number, so that no list is compared with itself; and the wanted list is no `List.map`, so that the kernel never compares the two mapped functions. -/
namespace Lf
open PySem PySem.Spec PyProof.Rows L2
open PySem.W HandSHeadRun
def seenB (m a : Nat) : Bool := Nat.beq (Nat.land (Nat.shiftRight m a) 1) 1
def freshB : List Addr → Nat → List Addr
  | [], _ => []
  | a :: r, m => match seenB m a with
    | true => freshB r m
    | false => a :: freshB r (Nat.lor m (Nat.shiftLeft 1 a))
def addB : List Addr → Nat → Nat
  | [], m => m
  | a :: r, m => addB r (Nat.lor m (Nat.shiftLeft 1 a))
def refsB (g : Addr → Option Obj) : List Addr → List Addr
  | [] => []
  | a :: r => (match g a with
    | some o => He.refsD o
    | none => []) ++ refsB g r
/-- level by level: m the bits of what is seen, fr the newest level -/
def walkB (g : Addr → Option Obj) : Nat → Nat → List Addr → List Addr
  | 0, _, fr => fr
  | n + 1, m, fr => fr ++ walkB g n (addB (freshB (refsB g fr) m) m) (freshB (refsB g fr) m)
def asB (g : Addr → Option Obj) (n : Nat) : List Addr := walkB g n (addB [mainGlobals] 0) [mainGlobals]
def obsB (n : Nat) (fa : List Fct) (fn : List DefY) (g : Addr → Option Obj) : AlY := obsY fa fn (He.frG g (asB g n ++ [cStatics]))
def hookB (n : Nat) (fa : List Fct) (fn : List DefY) : PySem.W.Hook where
  α := AlY
  obs := fun s => obsB n fa fn s.heap.get?
  val := fun _ => valY fn
  says := fun _ h => ∃ K : PySem.W.Frag, K.In h ∧ SaysY fa fn K
  of := fun _ _ e => ⟨_, He.frG_in, e⟩
  keeps := fun _ _ _ ⟨K, hK, c⟩ k => ⟨K, PySem.W.Frag.In.keeps hK k, c⟩
theorem obsB_eq {n : Nat} {fa : List Fct} {fn : List DefY} {g : Addr → Option Obj} {s : Shared} (h : ∀ a, g a = s.heap.get? a) : obsB n fa fn g = (hookB n fa fn).obs s := by
  have e : g = s.heap.get? := funext h
  rw [e] <;> rfl
def DefY.vals : List DefY → List FnV
  | [] => []
  | y :: ys => y.val :: DefY.vals ys
theorem DefY.vals_eq : ∀ fn : List DefY, DefY.vals fn = fn.map DefY.val
  | [] => rfl
  | y :: ys => by rw [DefY.vals, DefY.vals_eq ys, List.map_cons]
def RunPartZ (r : OpenRow) (n M : Nat) (fa : List Fct) (fn : List DefY) (w : World) : Prop := ∀ os : OsState, (endF (stepQ (denQ tabQ) r.prog w) M r.prog w os).map (fun s => obsB n fa fn (getT s)) = some (true, DefY.vals fn)
def RunPartB (r : OpenRow) (n M : Nat) (fa : List Fct) (fn : List DefY) (w : World) : Prop := ∀ os : OsState, (endF (stepQ (denQ tabQ) r.prog w) M r.prog w os).map (fun s => obsB n fa fn (getT s)) = some (valY fn)
theorem RunPartZ.b {r : OpenRow} {n M : Nat} {fa : List Fct} {fn : List DefY} {w : World} (h : RunPartZ r n M fa fn w) : RunPartB r n M fa fn w := fun os => by
  rw [h os, DefY.vals_eq]
  rfl
theorem RunPartB.app {r : OpenRow} {n M : Nat} {fa fb : List Fct} {fn gn : List DefY} {w : World} (h : RunPartB r n M fa fn w) (k : RunPartB r n M fb gn w) : RunPartB r n M (fa ++ fb) (fn ++ gn) w := fun os => by
  have h' := h os
  have k' := k os
  cases e : endF (stepQ (denQ tabQ) r.prog w) M r.prog w os with
  | none =>
    rw [e] at h'
    cases h'
  | some s =>
    rw [e] at h' k'
    exact congrArg some (obsY_app (Option.some.inj h') (Option.some.inj k'))
theorem runB_of {r : OpenRow} {q : Program} {n M : Nat} {loose : List PySem.Str} {fa : List Fct} {fn : List DefY} {w : World} (h : RunLooksY r q M loose w) (k : RunPartB r n M fa fn w) : RunEq r q (hookB n fa fn) (fun s => obsB n fa fn (getT s)) M loose w := fun os => by
  have h' := h os
  have k' := k os
  cases e : endF (stepQ (denQ tabQ) r.prog w) M r.prog w os with
  | none =>
    rw [e] at h'
    cases h'
  | some s =>
    rw [e] at h' k'
    have h1 := Option.some.inj h'
    have k1 : obsB n fa fn (getT s) = valY fn := Option.some.inj k'
    refine congrArg some ?_
    show (looksF r.prog (boot_heap w.params) s.abs, seenQ q loose (importedModules r.prog.main.body) (fun s => xlAt q [] s && recOk r.toRowW.records s) s.abs, obsB n fa fn (getT s)) = (true, openGood q loose, valY fn)
    rw [k1, (Prod.mk.inj h1).1, (Prod.mk.inj h1).2]
end Lf

set_option linter.all false
/-! Lowest terms: plain arithmetic. -/
namespace Lf
/-- the fraction of two whole numbers, d not 0 -/
def low (n d : Int) : Int × Int := ((n * d.sign) / (Nat.gcd n.natAbs d.natAbs : Nat), (d.natAbs : Int) / (Nat.gcd n.natAbs d.natAbs : Nat))
def IsLow (t b : Int) : Prop := 0 < b ∧ Nat.Coprime t.natAbs b.natAbs
theorem gcd_pos {n d : Int} (h : d ≠ 0) : 0 < Nat.gcd n.natAbs d.natAbs := Nat.gcd_pos_of_pos_right _ (by omega)
theorem low_parts {n d : Int} (h : d ≠ 0) : ∃ (u : Int) (v : Nat), n * d.sign = u * (Nat.gcd n.natAbs d.natAbs : Nat) ∧ d.natAbs = v * Nat.gcd n.natAbs d.natAbs ∧ low n d = (u, (v : Int)) ∧ 0 < v ∧ Nat.Coprime u.natAbs v := by
  have hg := gcd_pos (n := n) h
  obtain ⟨v, hv⟩ := Nat.gcd_dvd_right n.natAbs d.natAbs
  obtain ⟨u, hu⟩ : ∃ u : Int, n * d.sign = (Nat.gcd n.natAbs d.natAbs : Nat) * u := by
    obtain ⟨x, hx⟩ := Nat.gcd_dvd_left n.natAbs d.natAbs
    rcases Int.natAbs_eq n with e | e
    · exact ⟨x * d.sign, by rw [← Int.mul_assoc, ← Int.natCast_mul, ← hx, ← e]⟩
    · exact ⟨-(x : Int) * d.sign, by rw [← Int.mul_assoc, Int.mul_neg, ← Int.natCast_mul, ← hx, ← e]⟩
  have hn : n.natAbs = Nat.gcd n.natAbs d.natAbs * u.natAbs := by
    have := congrArg Int.natAbs hu
    rw [Int.natAbs_mul, Int.natAbs_mul, Int.natAbs_sign_of_ne_zero h, Nat.mul_one, Int.natAbs_natCast] at this
    exact this
  have hvp : 0 < v := by
    rcases Nat.eq_zero_or_pos v with e | e
    · rw [e, Nat.mul_zero] at hv
      omega
    · exact e
  have hgi : ((Nat.gcd n.natAbs d.natAbs : Nat) : Int) ≠ 0 := by omega
  refine ⟨u, v, by rw [hu, Int.mul_comm], by rw [Nat.mul_comm]; exact hv, ?_, hvp, ?_⟩
  · unfold low
    rw [hu, Int.mul_ediv_cancel_left _ hgi]
    have : (d.natAbs : Int) = (Nat.gcd n.natAbs d.natAbs : Nat) * (v : Int) := by rw [← Int.natCast_mul, ← hv]
    rw [this, Int.mul_ediv_cancel_left _ hgi]
  · have e : Nat.gcd n.natAbs d.natAbs = Nat.gcd n.natAbs d.natAbs * Nat.gcd u.natAbs v := by
      rw [← Nat.gcd_mul_left, ← hn, ← hv]
    have e' : Nat.gcd n.natAbs d.natAbs * 1 = Nat.gcd n.natAbs d.natAbs * Nat.gcd u.natAbs v := by rw [Nat.mul_one]; exact e
    exact (Nat.eq_of_mul_eq_mul_left hg e').symm
theorem sign_mul_natAbs' (d : Int) : d.sign * (d.natAbs : Int) = d := Int.sign_mul_natAbs d
theorem low_is {n d : Int} (h : d ≠ 0) : IsLow (low n d).1 (low n d).2 := by
  obtain ⟨u, v, _, _, e, hv, hc⟩ := low_parts (n := n) h
  rw [e]
  exact ⟨by show (0 : Int) < v; omega, hc⟩
theorem low_cross {n d : Int} (h : d ≠ 0) : (low n d).1 * d = n * (low n d).2 := by
  obtain ⟨u, v, h1, h2, e, hv, hc⟩ := low_parts (n := n) h
  rw [e]
  show u * d = n * v
  have hg := gcd_pos (n := n) h
  have hgi : ((Nat.gcd n.natAbs d.natAbs : Nat) : Int) ≠ 0 := by omega
  have hs : d.sign * d.sign = 1 := by
    rcases Int.lt_or_gt_of_ne h with q | q
    · rw [Int.sign_eq_neg_one_of_neg q]
      rfl
    · rw [Int.sign_eq_one_of_pos q]
      rfl
  have ed : d = d.sign * ((v : Int) * (Nat.gcd n.natAbs d.natAbs : Nat)) := by
    rw [← Int.natCast_mul, ← h2]
    exact (sign_mul_natAbs' d).symm
  have : (u * d) * ((Nat.gcd n.natAbs d.natAbs : Nat) : Int) = (n * v) * (Nat.gcd n.natAbs d.natAbs : Nat) := by
    have e1 : (u * d) * ((Nat.gcd n.natAbs d.natAbs : Nat) : Int) = (u * (Nat.gcd n.natAbs d.natAbs : Nat)) * d := by
      rw [Int.mul_assoc, Int.mul_assoc, Int.mul_comm d]
    rw [e1, ← h1]
    generalize hG : ((Nat.gcd n.natAbs d.natAbs : Nat) : Int) = G at *
    calc n * d.sign * d = n * d.sign * (d.sign * (v * G)) := by rw [← ed]
      _ = n * (d.sign * d.sign) * (v * G) := by simp only [Int.mul_assoc]
      _ = n * v * G := by rw [hs]; simp only [Int.mul_one, Int.mul_assoc]
  exact Int.eq_of_mul_eq_mul_right hgi this
theorem low_uniq {t b t' b' : Int} (h : IsLow t b) (h' : IsLow t' b') (e : t * b' = t' * b) : t = t' ∧ b = b' := by
  obtain ⟨hb, hc⟩ := h
  obtain ⟨hb', hc'⟩ := h'
  have e1 : t.natAbs * b'.natAbs = t'.natAbs * b.natAbs := by
    have := congrArg Int.natAbs e
    rwa [Int.natAbs_mul, Int.natAbs_mul] at this
  have d1 : b.natAbs ∣ b'.natAbs := by
    have q : b.natAbs ∣ t.natAbs * b'.natAbs := by
      rw [e1]
      exact Nat.dvd_mul_left _ _
    exact Nat.Coprime.dvd_of_dvd_mul_left hc.symm q
  have d2 : b'.natAbs ∣ b.natAbs := by
    have q : b'.natAbs ∣ t'.natAbs * b.natAbs := by
      rw [← e1]
      exact Nat.dvd_mul_left _ _
    exact Nat.Coprime.dvd_of_dvd_mul_left hc'.symm q
  have eb : b.natAbs = b'.natAbs := Nat.dvd_antisymm d1 d2
  have eb' : b = b' := by omega
  subst eb'
  exact ⟨Int.eq_of_mul_eq_mul_right (by omega) e, rfl⟩
/-- the fraction is the one in lowest terms -/
theorem low_eq {n d t b : Int} (h : d ≠ 0) (hl : IsLow t b) (e : t * d = n * b) : low n d = (t, b) := by
  have hi := low_is (n := n) h
  have hx := low_cross (n := n) h
  have key : (low n d).1 * b = t * (low n d).2 := by
    have q : ((low n d).1 * b) * d = (t * (low n d).2) * d := by
      calc ((low n d).1 * b) * d = ((low n d).1 * d) * b := by rw [Int.mul_assoc, Int.mul_comm b d, Int.mul_assoc]
        _ = (n * (low n d).2) * b := by rw [hx]
        _ = (n * b) * (low n d).2 := by rw [Int.mul_assoc, Int.mul_comm _ b, Int.mul_assoc]
        _ = (t * d) * (low n d).2 := by rw [e]
        _ = (t * (low n d).2) * d := by rw [Int.mul_assoc, Int.mul_comm d, Int.mul_assoc]
    exact Int.eq_of_mul_eq_mul_right h q
  obtain ⟨e1, e2⟩ := low_uniq hi hl key
  exact Prod.ext e1 e2
theorem low_self {t b : Int} (h : IsLow t b) : low t b = (t, b) := low_eq (by have := h.1; omega) h rfl
/-- bounds -/
theorem low_top_le {n d : Int} (h : d ≠ 0) : (low n d).1.natAbs ≤ n.natAbs := by
  obtain ⟨u, v, h1, h2, e, hv, hc⟩ := low_parts (n := n) h
  rw [e]
  show u.natAbs ≤ n.natAbs
  have hg := gcd_pos (n := n) h
  have := congrArg Int.natAbs h1
  rw [Int.natAbs_mul, Int.natAbs_mul, Int.natAbs_sign_of_ne_zero h, Nat.mul_one, Int.natAbs_natCast] at this
  rw [this]
  exact Nat.le_mul_of_pos_right _ hg
theorem low_bottom_le {n d : Int} (h : d ≠ 0) : (low n d).2.natAbs ≤ d.natAbs := by
  obtain ⟨u, v, h1, h2, e, hv, hc⟩ := low_parts (n := n) h
  rw [e]
  show (v : Int).natAbs ≤ d.natAbs
  have hg := gcd_pos (n := n) h
  rw [h2, Int.natAbs_natCast]
  exact Nat.le_mul_of_pos_right _ hg
/-- the program's way: over a bottom above 0 -/
theorem low_pos {n d : Int} (h : 0 < d) : low n d = (n / (Nat.gcd n.natAbs d.natAbs : Nat), d / (Nat.gcd n.natAbs d.natAbs : Nat)) := by
  unfold low
  rw [Int.sign_eq_one_of_pos h, Int.mul_one, show (d.natAbs : Int) = d by omega]
theorem low_neg (n d : Int) : low (-n) (-d) = low n d := by
  unfold low
  rw [Int.sign_neg, Int.natAbs_neg, Int.natAbs_neg, Int.neg_mul_neg]
/-- the law's way: by the greatest common one, below 0 where the bottom is -/
theorem low_fdiv_pos {n d : Int} (h : 0 < d) : (n.fdiv (Nat.gcd n.natAbs d.natAbs : Nat), d.fdiv (Nat.gcd n.natAbs d.natAbs : Nat)) = low n d := by
  rw [low_pos h, Int.fdiv_eq_ediv_of_nonneg _ (by omega), Int.fdiv_eq_ediv_of_nonneg _ (by omega)]
theorem low_fdiv_neg {n d : Int} (h : d < 0) : (n.fdiv (-(Nat.gcd n.natAbs d.natAbs : Nat)), d.fdiv (-(Nat.gcd n.natAbs d.natAbs : Nat))) = low n d := by
  have q := low_fdiv_pos (n := -n) (d := -d) (by omega)
  rw [Int.natAbs_neg, Int.natAbs_neg, low_neg] at q
  rw [← q, ← Int.neg_fdiv_neg, ← Int.neg_fdiv_neg d, Int.neg_neg]
/-- the sum less the other one is the one -/
theorem low_back {a b c d : Int} (hl : IsLow a b) (hd : 0 < d) :
    low ((low (a * d + c * b) (b * d)).1 * d - c * (low (a * d + c * b) (b * d)).2) ((low (a * d + c * b) (b * d)).2 * d) = (a, b) := by
  have hb := hl.1
  have h0 : b * d ≠ 0 := Int.ne_of_gt (Int.mul_pos hb hd)
  have hi := low_is (n := a * d + c * b) h0
  have hx := low_cross (n := a * d + c * b) h0
  generalize (low (a * d + c * b) (b * d)).1 = x at *
  generalize (low (a * d + c * b) (b * d)).2 = y at *
  refine low_eq (Int.ne_of_gt (Int.mul_pos hi.1 hd)) hl ?_
  have : x * (b * d) = x * d * b := by rw [Int.mul_comm b d, Int.mul_assoc]
  rw [this] at hx
  rw [Int.sub_mul, hx, Int.add_mul]
  have e1 : c * y * b = c * b * y := by rw [Int.mul_assoc, Int.mul_comm y b, Int.mul_assoc]
  have e2 : a * (y * d) = a * d * y := by rw [Int.mul_comm y d, Int.mul_assoc]
  rw [e1, e2]
  omega
/-- Euclid's steps keep the greatest common one -/
theorem gcd_step (a b : Int) (hb : 0 < b) (ha : 0 ≤ a) : Nat.gcd b.natAbs (a % b).natAbs = Nat.gcd a.natAbs b.natAbs := by
  have e : (a % b).natAbs = a.natAbs % b.natAbs := by
    rw [Int.natAbs_emod_of_nonneg ha]
  rw [e, Nat.gcd_comm b.natAbs, ← Nat.gcd_rec, Nat.gcd_comm]
end Lf

set_option Elab.async false
set_option linter.all false
set_option maxRecDepth 100000
set_option maxHeartbeats 4000000
set_option exponentiation.threshold 3000
/-! What repr shows of data, and that it fits. -/
namespace Lf
open PySem PySem.Spec PyProof.Rows L2
/-- below 2 ^ 900 -/
def Sm (n : Int) : Prop := n.natAbs < 2 ^ 900
theorem Sm.log {n : Int} (h : Sm n) : n.natAbs.log2 < 900 := PySem.Flt.log2_lt_of (by decide) h
theorem Sm.text {n : Int} (h : Sm n) : (Str.ofString (toString n)).length ≤ 901 := by
  rw [PySem.ofString_length]
  exact int_text_length_le (by decide) h.log
/-- data that can be shown: its weight, its depth -/
structure Ft (w k : Nat) (d : PyData) : Prop where
  sh : d.showable = true
  nd : d.hasDict = false
  dp : d.depth ≤ k
  lv : d.leavesShort 1000 = true
  wt : d.weight ≤ w
structure FtA (w k : Nat) (ds : List PyData) : Prop where
  sh : PyData.showableAll ds = true
  nd : PyData.hasDictAll ds = false
  dp : PyData.depthAll ds ≤ k
  lv : PyData.leavesShortAll 1000 ds = true
  wt : PyData.weightAll ds ≤ w
theorem Ft.int {n : Int} (h : Sm n) : Ft 900 0 (.int n) := by
  have hl := h.log
  refine ⟨?_, ?_, ?_, ?_, ?_⟩
  · simp only [PyData.showable, decide_eq_true_eq]
    omega
  · simp only [PyData.hasDict]
  · simp only [PyData.depth, Nat.le_refl]
  · simp only [PyData.leavesShort, decide_eq_true_eq, PyData.shown]
    exact decide_eq_true (Nat.le_trans h.text (show 901 ≤ 1000 by decide))
  · simp only [PyData.weight]
    split <;> omega
theorem Ft.bool (b : Bool) : Ft 0 0 (.bool b) := ⟨by simp only [PyData.showable], by simp only [PyData.hasDict], by simp only [PyData.depth, Nat.le_refl], by simp only [PyData.leavesShort], by simp only [PyData.weight, Nat.le_refl]⟩
theorem Ft.none : Ft 0 0 .none := ⟨by simp only [PyData.showable], by simp only [PyData.hasDict], by simp only [PyData.depth, Nat.le_refl], by simp only [PyData.leavesShort], by simp only [PyData.weight, Nat.le_refl]⟩
/-- a text whose signs are signs -/
def Sg (x : Str) : Prop := ∀ c ∈ x.cps.toList, c < 16 ^ 8
theorem Sg.of (s : String) : Sg (Str.ofString s) := by
  intro c hc
  rw [Str.ofString_eq_toList] at hc
  obtain ⟨ch, _, rfl⟩ := List.mem_map.mp (show c ∈ s.toList.map Char.toNat from hc)
  exact ch.val.toNat_lt
theorem Sg.app {x y : Str} (h : Sg x) (k : Sg y) : Sg (x ++ y) := by
  intro c hc
  have e : (x ++ y).cps.toList = x.cps.toList ++ y.cps.toList := by
    rw [show (x ++ y).cps = x.cps ++ y.cps from rfl, Array.toList_append]
  rw [e] at hc
  rcases List.mem_append.mp hc with q | q
  · exact h c q
  · exact k c q
theorem Ft.str {w : Nat} {x : Str} (h : Sg x) (hw : x.length ≤ w) : Ft w 0 (.str x) := ⟨by simp only [PyData.showable], by simp only [PyData.hasDict], by simp only [PyData.depth, Nat.le_refl],
  by simp only [PyData.leavesShort, List.all_eq_true, decide_eq_true_eq]; exact h, by simp only [PyData.weight]; exact hw⟩
theorem FtA.nil : FtA 0 0 [] := ⟨by simp only [PyData.showableAll], by simp only [PyData.hasDictAll], by simp only [PyData.depthAll, Nat.le_refl], by simp only [PyData.leavesShortAll], by simp only [PyData.weightAll, Nat.le_refl]⟩
theorem FtA.cons {w k w' k' : Nat} {d : PyData} {ds : List PyData} (h : Ft w k d) (r : FtA w' k' ds) : FtA (w + 1 + w') (max k k') (d :: ds) := by
  refine ⟨?_, ?_, ?_, ?_, ?_⟩
  · simp only [PyData.showableAll, h.sh, r.sh, Bool.and_self]
  · simp only [PyData.hasDictAll, h.nd, r.nd, Bool.or_self]
  · simp only [PyData.depthAll]
    have := h.dp
    have := r.dp
    omega
  · simp only [PyData.leavesShortAll, h.lv, r.lv, Bool.and_self]
  · simp only [PyData.weightAll]
    have := h.wt
    have := r.wt
    omega
theorem Ft.list {w k : Nat} {ds : List PyData} (r : FtA w k ds) : Ft w (k + 1) (.list ds) :=
  ⟨by simp only [PyData.showable]; exact r.sh, by simp only [PyData.hasDict]; exact r.nd, by simp only [PyData.depth]; exact Nat.succ_le_succ r.dp, by simp only [PyData.leavesShort]; exact r.lv, by simp only [PyData.weight]; exact r.wt⟩
theorem Ft.tuple {w k : Nat} {ds : List PyData} (r : FtA w k ds) : Ft w (k + 1) (.tuple ds) :=
  ⟨by simp only [PyData.showable]; exact r.sh, by simp only [PyData.hasDict]; exact r.nd, by simp only [PyData.depth]; exact Nat.succ_le_succ r.dp, by simp only [PyData.leavesShort]; exact r.lv, by simp only [PyData.weight]; exact r.wt⟩
/-- what repr asks -/
structure Showy (d : PyData) : Prop where
  sh : d.showable = true
  nd : d.hasDict = false
  dp : d.depth ≤ 30
  ln : d.shown.length ≤ sizeLine
theorem Ft.showy {w k : Nat} {d : PyData} (h : Ft w k d) (hk : k ≤ 30 := by decide) (hw : w ≤ 16000 := by decide) : Showy d := by
  refine ⟨h.sh, h.nd, Nat.le_trans h.dp hk, ?_⟩
  have e := PyData.shown_le 1000 (by decide) d h.lv
  have e2 := h.wt
  have e3 : (1000 + 2) * d.weight ≤ 1002 * 16000 := Nat.mul_le_mul (Nat.le_refl _) (Nat.le_trans e2 hw)
  have e4 := sizeLine_eq
  omega
/-- a fraction -/
def tD (t : Int × Int) : PyData := .tuple [.int t.1, .int t.2]
theorem Ft.two {t : Int × Int} (h : Sm t.1) (k : Sm t.2) : Ft 1802 1 (tD t) := Ft.tuple (.cons (.int h) (.cons (.int k) .nil))
theorem dp2 {K : PySem.W.Frag} {H : Hp} {p : Addr} {x y : Int} (h : SqT K H p [.int x, .int y]) : Dp K H (.ref p) (tD (x, y)) := .tup h (.cons (.int x) (.cons (.int y) .nil))
theorem dp2' {K : PySem.W.Frag} {H : Hp} {p : Addr} {t : Int × Int} (h : H p = some (.tup [.int t.1, .int t.2])) : Dp K H (.ref p) (tD t) := .tup (.inl (.inl h)) (.cons (.int _) (.cons (.int _) .nil))
mutual
theorem Dp.same {K : PySem.W.Frag} {H H' : Hp} (s : Same H H') : ∀ (d : PyData) (v : V), Dp K H v d → Dp K H' v d
  | .none, _, h => by cases h; exact .non
  | .bool b, _, h => by cases h; exact .bl b
  | .int i, _, h => by cases h; exact .int i
  | .str x, _, h => by cases h; exact .str x
  | .list ds, _, h => by
    cases h with
    | lst h1 h2 => exact .lst (s.seq h1) (DpAll.same s ds _ h2)
  | .tuple ds, _, h => by
    cases h with
    | tup h1 h2 =>
      refine .tup ?_ (DpAll.same s ds _ h2)
      rcases h1 with (h | ⟨o, h⟩) | h
      · exact .inl (.inl (s _ _ h))
      · exact .inl (.inr ⟨o, s _ _ h⟩)
      · exact .inr h
  | .dict _, _, h => by cases h
theorem DpAll.same {K : PySem.W.Frag} {H H' : Hp} (s : Same H H') : ∀ (ds : List PyData) (vs : List V), DpAll K H vs ds → DpAll K H' vs ds
  | [], _, h => by cases h; exact .nil
  | d :: ds, _, h => by
    cases h with
    | cons h1 h2 => exact .cons (Dp.same s d _ h1) (DpAll.same s ds _ h2)
end
end Lf

set_option Elab.async false
set_option linter.all false
set_option maxRecDepth 100000
set_option maxHeartbeats 4000000
namespace Lf
open PySem PySem.Spec PyProof.Rows L2
theorem same_new {H : Hp} {p : Addr} {o : HO} (h : H p = none) : Same H (upd H p o) := fun b x e => by
  rw [upd_ne (ne_of_none e h)]
  exact e
theorem same_rfl {H : Hp} : Same H H := fun _ _ e => e
theorem bt_abs : bootBuiltins "abs" = some (.builtin "abs") := by decide +kernel
theorem bt_len : bootBuiltins "len" = some (.builtin "len") := by decide +kernel
theorem bt_max : bootBuiltins "max" = some (.builtin "max") := by decide +kernel
theorem bt_min : bootBuiltins "min" = some (.builtin "min") := by decide +kernel
theorem bt_divmod : bootBuiltins "divmod" = some (.builtin "divmod") := by decide +kernel
theorem bt_repr : bootBuiltins "repr" = some (.builtin "repr") := by decide +kernel
theorem bt_all : bootBuiltins "all" = some (.builtin "all") := by decide +kernel
theorem bt_int : bootBuiltins "int" = some (.type "int") := by decide +kernel
theorem bt_str : bootBuiltins "str" = some (.type "str") := by decide +kernel
/-- the built-in names that nothing of the text hides -/
structure Blt (mg : Str → Option Value) : Prop where
  abs : mg "abs" = none
  len : mg "len" = none
  max : mg "max" = none
  min : mg "min" = none
  divmod : mg "divmod" = none
  repr : mg "repr" = none
  all : mg "all" = none
  int : mg "int" = none
  str : mg "str" = none
  range : mg "range" = none
/-- an own class under ValueError -/
structure ExT (K : PySem.W.Frag) (mg : Str → Option Value) (x : Str) (C : Addr) : Prop where
  g : mg x = some (.ref C)
  x : PySem.W.excIn K C [.type "ValueError", .type "Exception", .type "BaseException", .type "object"] "ValueError.__new__" = true
  k : PySem.W.keepIn K (.ref C) = true
  b : PySem.W.subIn K (.ref C) (.type "BaseException") = some true
  t : PySem.W.typeIn K (.ref C) = some (.type "type")
  m : PySem.W.exmOne K (.ref C) (.ref C) = some true
section
variable {K : PySem.W.Frag} {H : Hp} {p : Addr} {x y : V} {Q : VK}
theorem ixT0 (h : SqT K H p [x, y]) (q : Q x H) : rIxT K (.ref p) (.int 0) H Q := ⟨p, _, 0, _, rfl, rfl, h, rfl, q⟩
theorem ixT1 (h : SqT K H p [x, y]) (q : Q y H) : rIxT K (.ref p) (.int 1) H Q := ⟨p, _, 1, _, rfl, rfl, h, rfl, q⟩
theorem ixL0 (h : SqL K H p [x, y]) (q : Q x H) : rIxL K (.ref p) (.int 0) H Q := ⟨p, _, 0, _, rfl, rfl, h, rfl, q⟩
theorem ixL1 (h : SqL K H p [x, y]) (q : Q y H) : rIxL K (.ref p) (.int 1) H Q := ⟨p, _, 1, _, rfl, rfl, h, rfl, q⟩
theorem tup2 {a b : V} (q : ∀ p, H p = none → Q (.ref p) (upd H p (.tup [a, b]))) : [a, b].length ≤ sizeLine ∧ ∀ p, H p = none → Q (.ref p) (upd H p (.tup [a, b])) := ⟨by show 2 ≤ sizeLine; decide, q⟩
theorem lst2 {a b : V} (q : ∀ p, H p = none → Q (.ref p) (upd H p (.lst [a, b]))) : [a, b].length ≤ sizeLine ∧ ∀ p, H p = none → Q (.ref p) (upd H p (.lst [a, b])) := ⟨by show 2 ≤ sizeLine; decide, q⟩
end
theorem sm_t {K : PySem.W.Frag} {H H' : Hp} {a : Addr} {xs : List V} (s : Same H H') (h : SqT K H a xs) : SqT K H' a xs := by
  rcases h with (h | ⟨o, h⟩) | h
  · exact .inl (.inl (s _ _ h))
  · exact .inl (.inr ⟨o, s _ _ h⟩)
  · exact .inr h
def topS (i : Nat) : Stmt := PySem.Challenge.pw_loafshares_k73_trees.main.body.getD i (.Pass ⟨0, 0, 0, 0⟩)
section
variable {P : Program} {w : World} {K : PySem.W.Frag} {mg : Str → Option Value} {base : Heap}
/-! ### common -/
abbrev sCom : Stmt := topS 16
theorem scCom : FnScope ["one", "other"] ["one", "other"] (defScope sCom) := ⟨rfl, rfl, rfl, by decide +kernel, rfl, by decide +kernel, by decide +kernel⟩
def spCom : Sp := fun vs H Q _ => ∃ (a b : Int), vs = [.int a, .int b] ∧ 0 ≤ a ∧ 0 ≤ b ∧ Q (.int (Nat.gcd a.natAbs b.natAbs : Nat)) H
theorem ok_com {f : Addr} {fd : FuncData} (F : Fun K "common" "common" sCom f fd) : FnG P w K mg base CX0 1 f fd ["one", "other"] spCom := by
  refine Gfun F scCom (fun vs H Q E h => ?_) (fun cdv A outer s H vs Q E hg hr h => ?_)
  · obtain ⟨a, b, rfl, _⟩ := h
    rfl
  · obtain ⟨a, b, rfl, ha, hb, q⟩ := h
    refine ⟨_, pss_cons (ps_while PassesOwn.never (pt_cmpR op_ne (pv 1) pe_int (nomark _))
        (pss_one (ps_par (i := 0) (j := 1) rfl scCom.nd rfl rfl (by decide) rfl rfl (pa_cons (pv 1) (pa_cons (pe_op op_mod (pv 0) (pv 1)) pa_nil)) (by rfl))))
      (pss_one (ps_ret (pv 0))), ?_⟩
    refine while_by (fun σ H' => ∃ x y : Int, σ = [some (.int x), some (.int y)] ∧ 0 ≤ x ∧ 0 ≤ y ∧ Nat.gcd x.natAbs y.natAbs = Nat.gcd a.natAbs b.natAbs ∧ H' = H)
      (fun σ _ => match σ with | [_, some (.int y)] => y.toNat | _ => 0) ⟨a, b, rfl, ha, hb, rfl, rfl⟩ ?_ ?_
    · rintro σ H1 ⟨x, y, rfl, hx, hy, hg, rfl⟩
      refine ⟨_, rfl, rfl, _, rfl, ite2 (fun e => ?_) (fun e => ?_)⟩
      · have hy0 : y ≠ 0 := fun z => by
          rw [z] at e
          exact absurd e (by decide)
        have hyp : 0 < y := by omega
        refine ⟨_, rfl, _, rfl, _, rfl, x, y, rfl, rfl, hyp, _, _, rfl, ⟨y, x % y, rfl, hy, Int.emod_nonneg _ hy0, (gcd_step x y hyp hx).trans hg, rfl⟩, ?_⟩
        show (x % y).toNat < y.toNat
        have := Int.emod_lt_of_pos x hyp
        omega
      · have hy0 : y = 0 := by
          by_cases z : y = 0
          · exact z
          · exact absurd (by rw [decide_eq_false (fun q => z (V.int.inj q))]; rfl) e
        subst hy0
        refine ⟨_, rfl, ?_⟩
        rw [← hg, Int.natAbs_zero, Nat.gcd_zero_right] at q
        rw [show (x.natAbs : Int) = x by omega] at q
        exact q
    · rintro σ H1 Q1 Q2 hq ⟨u, hu, h1, h2, h3, h4⟩
      exact ⟨u, hu, h1, h2, h3, hq _ _ h4⟩
/-! ### fraction -/
abbrev sFrac : Stmt := topS 17
theorem scFrac : FnScope ["top", "bottom", "shared"] ["top", "bottom"] (defScope sFrac) := ⟨rfl, rfl, rfl, by decide +kernel, rfl, by decide +kernel, by decide +kernel⟩
/-- below 2 ^ 2000 -/
def Mid (n : Int) : Prop := n.natAbs < 2 ^ 2000
theorem Mid.log {n : Int} (h : Mid n) : n.natAbs.log2 < 9000 := Nat.lt_of_lt_of_le (PySem.Flt.log2_lt_of (by decide) h) (by decide)
/-- a new tuple of two ints -/
def Two (H : Hp) (Q : VK) (t : Int × Int) : Prop := ∀ H' p, Same H H' → H' p = some (.tup [.int t.1, .int t.2]) → Q (.ref p) H'
def spFrac (neg : Bool) : Sp := fun vs H Q _ => ∃ (n d : Int), vs = [.int n, .int d] ∧ d ≠ 0 ∧ (neg = false → 0 < d) ∧ Mid n ∧ Mid d ∧ Two H Q (low n d)
theorem gcd_mid {n d : Int} (h : d ≠ 0) (hd : Mid d) : Mid ((Nat.gcd n.natAbs d.natAbs : Nat) : Int) := by
  unfold Mid at hd ⊢
  rw [Int.natAbs_natCast]
  exact Nat.lt_of_le_of_lt (Nat.le_of_dvd (by omega) (Nat.gcd_dvd_right _ _)) hd
theorem abs_is (n : Int) : (if n < 0 then -n else n) = (n.natAbs : Int) := by
  split <;> omega
theorem ok_frac {j : Nat} {f : Addr} {fd : FuncData} {C : Addr} (neg : Bool) (R : Sp) (hR : ∀ n d H Q, d < 0 → spFrac neg [.int n, .int d] H Q E0 → R [.int (-n), .int (-d)] H Q E0) (M : Blt mg) (X : ExT K mg "NoFraction" C) (F : Fun K "fraction" "fraction" sFrac f fd)
    (C_common : Cal P w K mg base CX0 1 "common" ["one", "other"] spCom) (C_fraction : Cal P w K mg base CX0 (j + 1) "fraction" ["top", "bottom"] R) : FnG P w K mg base CX0 (j + 2) f fd ["top", "bottom"] (spFrac neg) := by
  refine Gfun F scFrac (fun vs H Q E h => ?_) (fun cdv A outer s H vs Q E hg hr h => ?_)
  · obtain ⟨a, b, rfl, _⟩ := h
    rfl
  · obtain ⟨n, d, rfl, hd, hneg, hn2, hd2, q⟩ := h
    refine ⟨_, pss_cons (ps_if (pt_cmpR op_eq (pv 1) pe_int (nomark _)) (pss_one (ps_raise rfl takes0 (pmk_own PySem.F.excBase_ValueError X.x X.g X.k (raises_own X.b X.t) rfl))) pss_nil)
      (pss_cons (ps_if (pt_cmpR op_lt (pv 1) pe_int (nomark _)) (pss_one (ps_ret (pe_g C_fraction (hr.mono (by omega)) hg (pa_cons (pe_un un_neg (pv 0)) (pa_cons (pe_un un_neg (pv 1)) pa_nil))))) pss_nil)
      (pss_cons (ps_set (i := 2) scFrac.nd rfl (.inl rfl) (pe_g C_common (hr.mono (by omega)) hg (pa_cons (pe_callB call_abs rfl M.abs bt_abs (pa_cons (pv 0) pa_nil)) (pa_cons (pv 1) pa_nil))))
      (pss_one (ps_ret (pe_tup (pa_cons (pe_op op_fdivN (pv 0) (pv 2)) (pa_cons (pe_op op_fdivN (pv 1) (pv 2)) pa_nil))))))), ?_⟩
    refine ⟨_, rfl, rfl, _, rfl, ite2 (fun e => ?_) (fun _ => ?_)⟩
    · exact absurd (V.int.inj (of_decide_eq_true e)) hd
    refine ⟨_, rfl, _, _, rfl, rfl, _, rfl, ite2 (fun e => ?_) (fun e => ?_)⟩
    · have e' : d < 0 := of_decide_eq_true e
      refine ⟨_, rfl, _, rfl, _, rfl, _, rfl, ?_⟩
      exact hR n d H Q e' ⟨n, d, rfl, hd, hneg, hn2, hd2, q⟩
    · have e' : 0 < d := by
        have : ¬ d < 0 := fun z => e (decide_eq_true z)
        omega
      refine ⟨_, rfl, _, rfl, _, rfl, _, d, rfl, ?_, Int.le_of_lt e', ?_⟩
      · rw [abs_is]
        omega
      · rw [abs_is, Int.natAbs_natCast]
        have hgz : ((Nat.gcd n.natAbs d.natAbs : Nat) : Int) ≠ 0 := by
          have := gcd_pos (n := n) hd
          omega
        have hm : CDivN n ((Nat.gcd n.natAbs d.natAbs : Nat) : Int) := ⟨hgz, (gcd_mid hd hd2).log⟩
        refine ⟨_, rfl, _, rfl, n, _, rfl, rfl, hm, _, rfl, _, rfl, d, _, rfl, rfl, hm, tup2 fun p hp => ?_⟩
        refine q _ p (same_new hp) ?_
        have := low_fdiv_pos (n := n) (d := d) e'
        rw [← this]
        exact upd_same
end
end Lf

set_option Elab.async false
set_option linter.all false
set_option maxRecDepth 100000
set_option maxHeartbeats 0
namespace Lf
open PySem PySem.Spec PyProof.Rows L2
def inCls (st : Stmt) (j : Nat) : Stmt := match st with
  | .ClassDef (body := b) .. => b.getD j (.Pass ⟨0, 0, 0, 0⟩)
  | _ => .Pass ⟨0, 0, 0, 0⟩
abbrev s_plus : Stmt := topS 18
abbrev s_over : Stmt := topS 19
abbrev s_is_less : Stmt := topS 21
abbrev s_fraction_text : Stmt := topS 24
abbrev s_is_whole : Stmt := topS 15
abbrev s_is_fraction : Stmt := topS 22
abbrev s_is_name : Stmt := topS 25
abbrev s__law_cell : Stmt := topS 54
abbrev s__law_pot : Stmt := topS 55
abbrev s__law_draw : Stmt := topS 56
abbrev s__law_low : Stmt := topS 57
abbrev s_together : Stmt := topS 20
abbrev s__law_sum : Stmt := topS 58
abbrev s__law_total : Stmt := topS 59
abbrev s__law_name : Stmt := topS 60
abbrev s_is_above_0 : Stmt := topS 23
abbrev s_is_row : Stmt := topS 49
abbrev s_are_rows : Stmt := topS 50
abbrev s_is_lead : Stmt := topS 51
abbrev s_dinit : Stmt := inCls (topS 52) 0
abbrev s_dname : Stmt := inCls (topS 52) 4
abbrev s_dlead : Stmt := inCls (topS 52) 6
abbrev s_drows : Stmt := inCls (topS 52) 5
abbrev s_dlen : Stmt := inCls (topS 52) 2
abbrev s_dtotal : Stmt := inCls (topS 52) 7
abbrev s_deq : Stmt := inCls (topS 52) 1
abbrev s_drepr : Stmt := inCls (topS 52) 3
abbrev s_measure_or_none_of_it : Stmt := topS 32
abbrev s_is_measure : Stmt := topS 33
abbrev s_are_too_much : Stmt := topS 34
abbrev s_first_wrong : Stmt := topS 35
abbrev s_sinit : Stmt := inCls (topS 36) 0
abbrev s_sname : Stmt := inCls (topS 36) 3
abbrev s_refuse_twice : Stmt := topS 38
abbrev s_refuse_unknown : Stmt := topS 39
abbrev s_inner_doughs : Stmt := topS 40
abbrev s_next_made : Stmt := topS 41
abbrev s_making_order : Stmt := topS 42
abbrev s_all_within : Stmt := topS 44
abbrev s_refuse_rings : Stmt := topS 43
abbrev s_is_one_of : Stmt := topS 26
abbrev s_binit : Stmt := inCls (topS 45) 0
abbrev s_bdough : Stmt := inCls (topS 45) 6
abbrev s_bput : Stmt := inCls (topS 45) 9
abbrev s__law_names : Stmt := topS 61
abbrev s__law_some : Stmt := topS 62
abbrev s__law_turned : Stmt := topS 66
abbrev s__law_stuff_made : Stmt := topS 67
abbrev s__law_made : Stmt := topS 68
abbrev s__law_stuff : Stmt := topS 63
abbrev s__law_rows : Stmt := topS 64
abbrev s__law_model : Stmt := topS 65
abbrev s_bstuffs : Stmt := inCls (topS 45) 3
abbrev s_bdoughs : Stmt := inCls (topS 45) 4
abbrev sx_NoName : Stmt := inCls (topS 7) 0
abbrev s_add_lines : Stmt := topS 28
abbrev s_tree : Stmt := topS 29
abbrev s__law_lines : Stmt := topS 69
abbrev s__law_due : Stmt := topS 70
abbrev s__law_are_right : Stmt := topS 71
abbrev s__law_is_refused : Stmt := topS 72
abbrev s__law_right : Stmt := topS 73
abbrev s_law : Stmt := topS 74
def FILE : Str := "/claim/cut.py"
def hdFa_0 : List Fct := [fun K => (He.Fa.free "isinstance").ok K,
  fun K => (He.Fa.free "bool").ok K,
  fun K => (He.Fa.free "tuple").ok K,
  fun K => decide (PySem.W.specialIn K (.builtin "object.__class__") "__get__" = some (some (.builtin "getset_descriptor.__get__"))),
  fun K => decide (PySem.W.takesIn K (.builtin "object.__class__") = some true),
  fun K => (He.Fa.glo "NONE_OF_IT").ok K,
  fun K => He.tupB K "NONE_OF_IT" [.int 0, .int 1],
  fun K => (He.Fa.glo "ALL_OF_IT").ok K,
  fun K => He.tupB K "ALL_OF_IT" [.int 1, .int 1],
  fun K => (He.Fa.glo "WORDS").ok K,
  fun K => He.tupB K "WORDS" [.str "flour", .str "water", .str "salt", .str "thirst", .str "price"],
  fun K => (He.Fa.mkr "Dough").ok K,
  fun K => (He.Fa.cls "Dough").ok K,
  fun K => (He.Fa.noat "Dough" "own_name").ok K,
  fun K => (He.Fa.noat "Dough" "own_rows").ok K,
  fun K => (He.Fa.noat "Dough" "own_lead").ok K,
  fun K => decide (PySem.W.findIn K (.ref (He.ga K "Dough")) "__class__" = some (some (.builtin "object.__class__"))),
  fun K => decide (PySem.W.mroIn K (He.ga K "Dough") (.type "object") = some true),
  fun K => (He.Fa.glo "Dough").ok K,
  fun K => (He.Fa.meth "Dough" "name").ok K,
  fun K => (He.Fa.meth "Dough" "rows").ok K,
  fun K => (He.Fa.meth "Dough" "lead").ok K,
  fun K => (He.Fa.meth "Dough" "total").ok K,
  fun K => (He.Fa.mkr "Stuff").ok K,
  fun K => (He.Fa.cls "Stuff").ok K,
  fun K => (He.Fa.noat "Stuff" "own_name").ok K,
  fun K => (He.Fa.noat "Stuff" "measures").ok K,
  fun K => decide (PySem.W.findIn K (.ref (He.ga K "Stuff")) "__class__" = some (some (.builtin "object.__class__"))),
  fun K => decide (PySem.W.mroIn K (He.ga K "Stuff") (.type "object") = some true),
  fun K => (He.Fa.glo "Stuff").ok K,
  fun K => (He.Fa.meth "Stuff" "name").ok K,
  fun K => (He.Fa.mkr "Book").ok K,
  fun K => (He.Fa.cls "Book").ok K,
  fun K => (He.Fa.noat "Book" "own_stuffs").ok K,
  fun K => (He.Fa.noat "Book" "own_doughs").ok K,
  fun K => (He.Fa.noat "Book" "inner").ok K,
  fun K => decide (PySem.W.findIn K (.ref (He.ga K "Book")) "__class__" = some (some (.builtin "object.__class__"))),
  fun K => decide (PySem.W.mroIn K (He.ga K "Book") (.type "object") = some true),
  fun K => (He.Fa.glo "Book").ok K,
  fun K => (He.Fa.meth "Book" "dough").ok K,
  fun K => (He.Fa.meth "Book" "put").ok K,
  fun K => (He.Fa.meth "Book" "stuffs").ok K,
  fun K => (He.Fa.meth "Book" "doughs").ok K,
  fun K => (He.Fa.free "list").ok K,
  fun K => (He.Fa.free "set").ok K,
  fun K => (He.Fa.free "dict").ok K,
  fun K => (He.Fa.free "sorted").ok K,
  fun K => (He.Fa.free "reversed").ok K,
  fun K => (He.Fa.free "zip").ok K,
  fun K => decide (PySem.W.kitOne K (.ref (He.ga K "Dough")) (.ref (He.ga K "Stuff")) = some false),
  fun K => (He.Fa.glo "LoafError").ok K,
  fun K => (He.Fa.free "ValueError").ok K,
  xtB FILE "NoName" ["who"],
  fun K => (He.Fa.glo "NoName").ok K,
  fun K => (He.Fa.free "super").ok K,
  fun K => (He.Fa.exm "NoName" "LoafError" true).ok K,
  fun K => decide (PySem.W.kitOne K (.ref (He.ga K "NoName")) (.type "ValueError") = some true),
  fun K => (He.Fa.free "abs").ok K,
  fun K => (He.Fa.free "len").ok K,
  fun K => (He.Fa.free "max").ok K,
  fun K => (He.Fa.free "min").ok K,
  fun K => (He.Fa.free "divmod").ok K]
def hdFa_1 : List Fct := [fun K => (He.Fa.free "repr").ok K,
  fun K => (He.Fa.free "all").ok K,
  fun K => (He.Fa.free "int").ok K,
  fun K => (He.Fa.free "str").ok K,
  fun K => (He.Fa.free "range").ok K,
  fun K => (He.Fa.exc "NoFraction").ok K,
  fun K => (He.Fa.exm "NoFraction" "NoFraction" true).ok K,
  fun K => (He.Fa.glo "NoFraction").ok K,
  fun K => (He.Fa.str "LETTERS" (Str.ofString "abcdefghijklmnopqrstuvwxyz")).ok K,
  fun K => (He.Fa.int "LONGEST_NAME" 10).ok K,
  fun K => (He.Fa.int "MOST_ROWS" 8).ok K,
  fun K => (He.Fa.int "LONGEST_LEAD" 99).ok K,
  fun K => (He.Fa.glo "is_whole").ok K,
  fun K => (He.Fa.glo "common").ok K,
  fun K => (He.Fa.glo "fraction").ok K,
  fun K => (He.Fa.glo "plus").ok K,
  fun K => (He.Fa.glo "over").ok K,
  fun K => (He.Fa.glo "together").ok K,
  fun K => (He.Fa.glo "is_less").ok K,
  fun K => (He.Fa.glo "is_fraction").ok K,
  fun K => (He.Fa.glo "is_above_0").ok K,
  fun K => (He.Fa.glo "fraction_text").ok K,
  fun K => (He.Fa.glo "is_name").ok K,
  fun K => (He.Fa.glo "is_one_of").ok K,
  fun K => (He.Fa.glo "add_lines").ok K,
  fun K => (He.Fa.glo "tree").ok K,
  fun K => (He.Fa.glo "measure_or_none_of_it").ok K,
  fun K => (He.Fa.glo "is_measure").ok K,
  fun K => (He.Fa.glo "are_too_much").ok K,
  fun K => (He.Fa.glo "first_wrong").ok K,
  fun K => (He.Fa.glo "refuse_twice").ok K,
  fun K => (He.Fa.glo "refuse_unknown").ok K,
  fun K => (He.Fa.glo "inner_doughs").ok K,
  fun K => (He.Fa.glo "next_made").ok K,
  fun K => (He.Fa.glo "making_order").ok K,
  fun K => (He.Fa.glo "refuse_rings").ok K,
  fun K => (He.Fa.glo "all_within").ok K,
  fun K => (He.Fa.glo "is_row").ok K,
  fun K => (He.Fa.glo "are_rows").ok K,
  fun K => (He.Fa.glo "is_lead").ok K,
  fun K => (He.Fa.glo "_law_cell").ok K,
  fun K => (He.Fa.glo "_law_pot").ok K,
  fun K => (He.Fa.glo "_law_draw").ok K,
  fun K => (He.Fa.glo "_law_low").ok K,
  fun K => (He.Fa.glo "_law_sum").ok K,
  fun K => (He.Fa.glo "_law_total").ok K,
  fun K => (He.Fa.glo "_law_name").ok K,
  fun K => (He.Fa.glo "_law_names").ok K,
  fun K => (He.Fa.glo "_law_some").ok K,
  fun K => (He.Fa.glo "_law_stuff").ok K,
  fun K => (He.Fa.glo "_law_rows").ok K,
  fun K => (He.Fa.glo "_law_model").ok K,
  fun K => (He.Fa.glo "_law_turned").ok K,
  fun K => (He.Fa.glo "_law_stuff_made").ok K,
  fun K => (He.Fa.glo "_law_made").ok K,
  fun K => (He.Fa.glo "_law_lines").ok K,
  fun K => (He.Fa.glo "_law_due").ok K,
  fun K => (He.Fa.glo "_law_are_right").ok K,
  fun K => (He.Fa.glo "_law_is_refused").ok K,
  fun K => (He.Fa.glo "_law_right").ok K,
  fun K => (He.Fa.glo "law").ok K]
def hdFa : List Fct := hdFa_0 ++ hdFa_1
def hdFn_0 : List DefY := [⟨⟨("Dough", some "__init__"), "__init__", "Dough.__init__", defArgs s_dinit, defBody s_dinit, defScope s_dinit, [.int 0], []⟩, []⟩,
  ⟨⟨("Dough", some "name"), "name", "Dough.name", defArgs s_dname, defBody s_dname, defScope s_dname, [], []⟩, []⟩,
  ⟨⟨("Dough", some "rows"), "rows", "Dough.rows", defArgs s_drows, defBody s_drows, defScope s_drows, [], []⟩, []⟩,
  ⟨⟨("Dough", some "lead"), "lead", "Dough.lead", defArgs s_dlead, defBody s_dlead, defScope s_dlead, [], []⟩, []⟩,
  ⟨⟨("Dough", some "total"), "total", "Dough.total", defArgs s_dtotal, defBody s_dtotal, defScope s_dtotal, [], []⟩, []⟩,
  ⟨⟨("Stuff", some "__init__"), "__init__", "Stuff.__init__", defArgs s_sinit, defBody s_sinit, defScope s_sinit, [.non, .non, .non, .non, .non], []⟩, []⟩,
  ⟨⟨("Stuff", some "name"), "name", "Stuff.name", defArgs s_sname, defBody s_sname, defScope s_sname, [], []⟩, []⟩,
  ⟨⟨("Book", some "__init__"), "__init__", "Book.__init__", defArgs s_binit, defBody s_binit, defScope s_binit, [], []⟩, []⟩,
  ⟨⟨("Book", some "dough"), "dough", "Book.dough", defArgs s_bdough, defBody s_bdough, defScope s_bdough, [], []⟩, []⟩,
  ⟨⟨("Book", some "put"), "put", "Book.put", defArgs s_bput, defBody s_bput, defScope s_bput, [], []⟩, []⟩,
  ⟨⟨("Book", some "stuffs"), "stuffs", "Book.stuffs", defArgs s_bstuffs, defBody s_bstuffs, defScope s_bstuffs, [], []⟩, []⟩,
  ⟨⟨("Book", some "doughs"), "doughs", "Book.doughs", defArgs s_bdoughs, defBody s_bdoughs, defScope s_bdoughs, [], []⟩, []⟩,
  ⟨⟨("NoName", some "__init__"), "__init__", "NoName.__init__", defArgs sx_NoName, defBody sx_NoName, defScope sx_NoName, [], []⟩, ["__class__"]⟩,
  ⟨⟨("is_whole", none), "is_whole", "is_whole", defArgs s_is_whole, defBody s_is_whole, defScope s_is_whole, [], []⟩, []⟩,
  ⟨⟨("common", none), "common", "common", defArgs sCom, defBody sCom, defScope sCom, [], []⟩, []⟩,
  ⟨⟨("fraction", none), "fraction", "fraction", defArgs sFrac, defBody sFrac, defScope sFrac, [], []⟩, []⟩,
  ⟨⟨("plus", none), "plus", "plus", defArgs s_plus, defBody s_plus, defScope s_plus, [], []⟩, []⟩,
  ⟨⟨("over", none), "over", "over", defArgs s_over, defBody s_over, defScope s_over, [], []⟩, []⟩,
  ⟨⟨("together", none), "together", "together", defArgs s_together, defBody s_together, defScope s_together, [], []⟩, []⟩,
  ⟨⟨("is_less", none), "is_less", "is_less", defArgs s_is_less, defBody s_is_less, defScope s_is_less, [], []⟩, []⟩,
  ⟨⟨("is_fraction", none), "is_fraction", "is_fraction", defArgs s_is_fraction, defBody s_is_fraction, defScope s_is_fraction, [], []⟩, []⟩,
  ⟨⟨("is_above_0", none), "is_above_0", "is_above_0", defArgs s_is_above_0, defBody s_is_above_0, defScope s_is_above_0, [], []⟩, []⟩,
  ⟨⟨("fraction_text", none), "fraction_text", "fraction_text", defArgs s_fraction_text, defBody s_fraction_text, defScope s_fraction_text, [], []⟩, []⟩,
  ⟨⟨("is_name", none), "is_name", "is_name", defArgs s_is_name, defBody s_is_name, defScope s_is_name, [], []⟩, []⟩,
  ⟨⟨("is_one_of", none), "is_one_of", "is_one_of", defArgs s_is_one_of, defBody s_is_one_of, defScope s_is_one_of, [], []⟩, []⟩,
  ⟨⟨("add_lines", none), "add_lines", "add_lines", defArgs s_add_lines, defBody s_add_lines, defScope s_add_lines, [], []⟩, []⟩,
  ⟨⟨("tree", none), "tree", "tree", defArgs s_tree, defBody s_tree, defScope s_tree, [], []⟩, []⟩,
  ⟨⟨("measure_or_none_of_it", none), "measure_or_none_of_it", "measure_or_none_of_it", defArgs s_measure_or_none_of_it, defBody s_measure_or_none_of_it, defScope s_measure_or_none_of_it, [], []⟩, []⟩,
  ⟨⟨("is_measure", none), "is_measure", "is_measure", defArgs s_is_measure, defBody s_is_measure, defScope s_is_measure, [], []⟩, []⟩,
  ⟨⟨("are_too_much", none), "are_too_much", "are_too_much", defArgs s_are_too_much, defBody s_are_too_much, defScope s_are_too_much, [], []⟩, []⟩,
  ⟨⟨("first_wrong", none), "first_wrong", "first_wrong", defArgs s_first_wrong, defBody s_first_wrong, defScope s_first_wrong, [], []⟩, []⟩]
def hdFn_1 : List DefY := [⟨⟨("refuse_twice", none), "refuse_twice", "refuse_twice", defArgs s_refuse_twice, defBody s_refuse_twice, defScope s_refuse_twice, [], []⟩, []⟩,
  ⟨⟨("refuse_unknown", none), "refuse_unknown", "refuse_unknown", defArgs s_refuse_unknown, defBody s_refuse_unknown, defScope s_refuse_unknown, [], []⟩, []⟩,
  ⟨⟨("inner_doughs", none), "inner_doughs", "inner_doughs", defArgs s_inner_doughs, defBody s_inner_doughs, defScope s_inner_doughs, [], []⟩, []⟩,
  ⟨⟨("next_made", none), "next_made", "next_made", defArgs s_next_made, defBody s_next_made, defScope s_next_made, [], []⟩, []⟩,
  ⟨⟨("making_order", none), "making_order", "making_order", defArgs s_making_order, defBody s_making_order, defScope s_making_order, [], []⟩, []⟩,
  ⟨⟨("refuse_rings", none), "refuse_rings", "refuse_rings", defArgs s_refuse_rings, defBody s_refuse_rings, defScope s_refuse_rings, [], []⟩, []⟩,
  ⟨⟨("all_within", none), "all_within", "all_within", defArgs s_all_within, defBody s_all_within, defScope s_all_within, [], []⟩, []⟩,
  ⟨⟨("is_row", none), "is_row", "is_row", defArgs s_is_row, defBody s_is_row, defScope s_is_row, [], []⟩, []⟩,
  ⟨⟨("are_rows", none), "are_rows", "are_rows", defArgs s_are_rows, defBody s_are_rows, defScope s_are_rows, [], []⟩, []⟩,
  ⟨⟨("is_lead", none), "is_lead", "is_lead", defArgs s_is_lead, defBody s_is_lead, defScope s_is_lead, [], []⟩, []⟩,
  ⟨⟨("_law_cell", none), "_law_cell", "_law_cell", defArgs s__law_cell, defBody s__law_cell, defScope s__law_cell, [], []⟩, []⟩,
  ⟨⟨("_law_pot", none), "_law_pot", "_law_pot", defArgs s__law_pot, defBody s__law_pot, defScope s__law_pot, [], []⟩, []⟩,
  ⟨⟨("_law_draw", none), "_law_draw", "_law_draw", defArgs s__law_draw, defBody s__law_draw, defScope s__law_draw, [], []⟩, []⟩,
  ⟨⟨("_law_low", none), "_law_low", "_law_low", defArgs s__law_low, defBody s__law_low, defScope s__law_low, [], []⟩, []⟩,
  ⟨⟨("_law_sum", none), "_law_sum", "_law_sum", defArgs s__law_sum, defBody s__law_sum, defScope s__law_sum, [], []⟩, []⟩,
  ⟨⟨("_law_total", none), "_law_total", "_law_total", defArgs s__law_total, defBody s__law_total, defScope s__law_total, [], []⟩, []⟩,
  ⟨⟨("_law_name", none), "_law_name", "_law_name", defArgs s__law_name, defBody s__law_name, defScope s__law_name, [], []⟩, []⟩,
  ⟨⟨("_law_names", none), "_law_names", "_law_names", defArgs s__law_names, defBody s__law_names, defScope s__law_names, [], []⟩, []⟩,
  ⟨⟨("_law_some", none), "_law_some", "_law_some", defArgs s__law_some, defBody s__law_some, defScope s__law_some, [], []⟩, []⟩,
  ⟨⟨("_law_stuff", none), "_law_stuff", "_law_stuff", defArgs s__law_stuff, defBody s__law_stuff, defScope s__law_stuff, [], []⟩, []⟩,
  ⟨⟨("_law_rows", none), "_law_rows", "_law_rows", defArgs s__law_rows, defBody s__law_rows, defScope s__law_rows, [], []⟩, []⟩,
  ⟨⟨("_law_model", none), "_law_model", "_law_model", defArgs s__law_model, defBody s__law_model, defScope s__law_model, [], []⟩, []⟩,
  ⟨⟨("_law_turned", none), "_law_turned", "_law_turned", defArgs s__law_turned, defBody s__law_turned, defScope s__law_turned, [], []⟩, []⟩,
  ⟨⟨("_law_stuff_made", none), "_law_stuff_made", "_law_stuff_made", defArgs s__law_stuff_made, defBody s__law_stuff_made, defScope s__law_stuff_made, [], []⟩, []⟩,
  ⟨⟨("_law_made", none), "_law_made", "_law_made", defArgs s__law_made, defBody s__law_made, defScope s__law_made, [], []⟩, []⟩,
  ⟨⟨("_law_lines", none), "_law_lines", "_law_lines", defArgs s__law_lines, defBody s__law_lines, defScope s__law_lines, [], []⟩, []⟩,
  ⟨⟨("_law_due", none), "_law_due", "_law_due", defArgs s__law_due, defBody s__law_due, defScope s__law_due, [], []⟩, []⟩,
  ⟨⟨("_law_are_right", none), "_law_are_right", "_law_are_right", defArgs s__law_are_right, defBody s__law_are_right, defScope s__law_are_right, [], []⟩, []⟩,
  ⟨⟨("_law_is_refused", none), "_law_is_refused", "_law_is_refused", defArgs s__law_is_refused, defBody s__law_is_refused, defScope s__law_is_refused, [], []⟩, []⟩,
  ⟨⟨("_law_right", none), "_law_right", "_law_right", defArgs s__law_right, defBody s__law_right, defScope s__law_right, [], []⟩, []⟩,
  ⟨⟨("law", none), "law", "law", defArgs s_law, defBody s_law, defScope s_law, [], []⟩, []⟩]
def hdFn : List DefY := hdFn_0 ++ hdFn_1
def hdLoose_0 : List Str := ["_wall",
  "LoafError",
  "NoFraction",
  "NoStuff",
  "NoDough",
  "Twice",
  "NoName",
  "Unknown",
  "Ring",
  "NONE_OF_IT",
  "ALL_OF_IT",
  "LETTERS",
  "LONGEST_NAME",
  "is_whole",
  "common",
  "fraction",
  "plus",
  "over",
  "together",
  "is_less",
  "is_fraction",
  "is_above_0",
  "fraction_text",
  "is_name",
  "is_one_of",
  "add_lines",
  "tree",
  "WORDS",
  "measure_or_none_of_it",
  "is_measure"]
def hdLoose_1 : List Str := ["are_too_much",
  "first_wrong",
  "Stuff",
  "refuse_twice",
  "refuse_unknown",
  "inner_doughs",
  "next_made",
  "making_order",
  "refuse_rings",
  "all_within",
  "Book",
  "MOST_ROWS",
  "LONGEST_LEAD",
  "is_row",
  "are_rows",
  "is_lead",
  "Dough",
  "_law_cell",
  "_law_pot",
  "_law_draw",
  "_law_low",
  "_law_sum",
  "_law_total",
  "_law_name",
  "_law_names",
  "_law_some",
  "_law_stuff",
  "_law_rows",
  "_law_model",
  "_law_turned"]
def hdLoose_2 : List Str := ["_law_stuff_made",
  "_law_made",
  "_law_lines",
  "_law_due",
  "_law_are_right",
  "_law_is_refused",
  "_law_right"]
def hdLoose : List Str := hdLoose_0 ++ hdLoose_1 ++ hdLoose_2
abbrev hdR : PySem.W.OpenRow := PySem.W.OpenLaw.row PySem.Challenge.rw_loafshares_k73_trees
abbrev hdK : PySem.W.Hook := hookB 5 hdFa hdFn
def hdOb (s : PySem.W.SharedT) : AlY := obsB 5 hdFa hdFn (HandSHeadRun.getT s)
theorem hdOb_eq (s : PySem.W.SharedT) : hdOb s = hdK.obs s.abs := obsB_eq (HandSHeadRun.getT_eq s)
theorem hdLooks (w : World) : RunLooksY hdR (PySem.W.view hdR.prog [74]) 14000 hdLoose w := by
  intro os
  kernel_rfl
theorem hdPart_0 (w : World) : RunPartZ hdR 5 14000 hdFa_0 hdFn_0 w := by
  intro os
  kernel_rfl
theorem hdPart_1 (w : World) : RunPartZ hdR 5 14000 hdFa_1 hdFn_1 w := by
  intro os
  kernel_rfl
theorem hdRun (w : World) : HandSHeadRun.RunEq hdR (PySem.W.view hdR.prog [74]) hdK hdOb 14000 hdLoose w := runB_of (hdLooks w) (((hdPart_0 w).b).app (hdPart_1 w).b)
end Lf

set_option Elab.async false
set_option linter.all false
set_option maxRecDepth 100000
set_option maxHeartbeats 4000000
set_option exponentiation.threshold 3000
namespace Lf
open PySem PySem.Spec PyProof.Rows L2
theorem Sm.mid {n : Int} (h : Sm n) : Mid n := Nat.lt_of_lt_of_le h (Nat.pow_le_pow_right (by decide) (by decide))
theorem Sm.mulW {a b : Int} (ha : Sm a) (hb : Sm b) : CMulW a b := by
  have := ha.log
  have := hb.log
  unfold CMulW
  omega
theorem Sm.prod {a b : Int} (ha : Sm a) (hb : Sm b) : (a * b).natAbs < 2 ^ 1800 := by
  rw [Int.natAbs_mul, show (2 : Nat) ^ 1800 = 2 ^ 900 * 2 ^ 900 by rw [← Nat.pow_add]]
  exact Nat.mul_lt_mul'' ha hb
theorem Sm.mul {a b : Int} (ha : Sm a) (hb : Sm b) : Mid (a * b) := Nat.lt_of_lt_of_le (Sm.prod ha hb) (Nat.pow_le_pow_right (by decide) (by decide))
theorem two_pow : (2 : Nat) ^ 1800 + 2 ^ 1800 = 2 ^ 1801 := (Nat.two_pow_succ 1800).symm
theorem Sm.add {a b c d : Int} (ha : Sm a) (hb : Sm b) (hc : Sm c) (hd : Sm d) : Mid (a * b + c * d) := by
  have h1 := Sm.prod ha hb
  have h2 := Sm.prod hc hd
  have h3 := Int.natAbs_add_le (a * b) (c * d)
  have h4 : (2 : Nat) ^ 1801 ≤ 2 ^ 2000 := Nat.pow_le_pow_right (by decide) (by decide)
  have h5 := two_pow
  unfold Mid
  omega
theorem Sm.sub {a b c d : Int} (ha : Sm a) (hb : Sm b) (hc : Sm c) (hd : Sm d) : Mid (a * b - c * d) := by
  have h1 := Sm.prod ha hb
  have h2 := Sm.prod hc hd
  have h3 := Int.natAbs_sub_le (a * b) (c * d)
  have h4 : (2 : Nat) ^ 1801 ≤ 2 ^ 2000 := Nat.pow_le_pow_right (by decide) (by decide)
  have h5 := two_pow
  unfold Mid
  omega
/-- two handed fractions -/
structure Pr (K : PySem.W.Frag) (H : Hp) (vs : List V) (a b c d : Int) : Prop where
  ex : ∃ p q, vs = [.ref p, .ref q] ∧ SqT K H p [.int a, .int b] ∧ SqT K H q [.int c, .int d]
  hb : b ≠ 0
  hd : d ≠ 0
  a1 : Sm a
  b1 : Sm b
  c1 : Sm c
  d1 : Sm d
theorem mul_ne {a b : Int} (ha : a ≠ 0) (hb : b ≠ 0) : a * b ≠ 0 := Int.mul_ne_zero ha hb
section
variable {P : Program} {w : World} {K : PySem.W.Frag} {mg : Str → Option Value} {base : Heap}
/-! ### fraction of a bottom 0 -/
def spFrac0 (C : Addr) : Sp := fun vs H Q E => ∃ n : Int, vs = [.int n, .int 0] ∧ E (.ref C) none H
theorem ok_frac0 {f : Addr} {fd : FuncData} {C : Addr} {R : Sp} (M : Blt mg) (X : ExT K mg "NoFraction" C) (F : Fun K "fraction" "fraction" sFrac f fd)
    (C_common : Cal P w K mg base CX0 1 "common" ["one", "other"] spCom) (C_fraction : Cal P w K mg base CX0 2 "fraction" ["top", "bottom"] R) : FnG P w K mg base (L2.CX P w) 3 f fd ["top", "bottom"] (spFrac0 C) := by
  refine GfunX F scFrac (fun vs H Q E h => ?_) (fun cdv A outer s H vs Q E hg hr h => ?_)
  · obtain ⟨n, rfl, _⟩ := h
    rfl
  · obtain ⟨n, rfl, q⟩ := h
    refine ⟨_, pss_cons (ps_if (pt_cmpR op_eq (pv 1) pe_int (nomark _)) (pss_one (ps_raise rfl (takes_of rfl rfl rfl rfl) (pmk_own PySem.F.excBase_ValueError X.x X.g X.k (raises_own X.b X.t) rfl))) pss_nil)
      (pss_cons (ps_if (pt_cmpR op_lt (pv 1) pe_int (nomark _)) (pss_one (ps_ret (pe_g C_fraction (hr.mono (by decide)) hg (pa_cons (pe_un un_neg (pv 0)) (pa_cons (pe_un un_neg (pv 1)) pa_nil))))) pss_nil)
      (pss_cons (ps_set (i := 2) scFrac.nd rfl (.inl rfl) (pe_g C_common (hr.mono (by decide)) hg (pa_cons (pe_callB call_abs rfl M.abs bt_abs (pa_cons (pv 0) pa_nil)) (pa_cons (pv 1) pa_nil))))
      (pss_one (ps_ret (pe_tup (pa_cons (pe_op op_fdivN (pv 0) (pv 2)) (pa_cons (pe_op op_fdivN (pv 1) (pv 2)) pa_nil))))))), ?_⟩
    exact ⟨_, rfl, rfl, _, rfl, iteT q⟩

/-! ### plus -/
theorem sc_plus : FnScope ["one", "other"] ["one", "other"] (defScope s_plus) := ⟨rfl, rfl, rfl, by decide +kernel, rfl, by decide +kernel, by decide +kernel⟩
def sp_plus (K : PySem.W.Frag) : Sp := fun vs H Q _ => ∃ a b c d : Int, Pr K H vs a b c d ∧ Two H Q (low (a * d + c * b) (b * d))
theorem ok_plus {f : Addr} {fd : FuncData} (F : Fun K "plus" "plus" s_plus f fd) (C_fraction : Cal P w K mg base CX0 4 "fraction" ["top", "bottom"] (spFrac true)) : FnG P w K mg base CX0 5 f fd ["one", "other"] (sp_plus K) := by
  refine Gfun F sc_plus (fun vs H Q E h => ?_) (fun cdv A outer s H vs Q E hg hr h => ?_)
  · obtain ⟨a, b, c, d, h, _⟩ := h
    obtain ⟨p, q, rfl, _⟩ := h.ex
    rfl
  · obtain ⟨a, b, c, d, h, k⟩ := h
    obtain ⟨p, q, rfl, hp, hq⟩ := h.ex
    refine ⟨_, (pss_one (ps_ret (pe_g C_fraction (hr.mono (by decide)) hg (pa_cons (pe_op op_add (pe_op op_mulW (pe_ix ix_tup (pv 0) pe_int (fun _ _ => rfl)) (pe_ix ix_tup (pv 1) pe_int (fun _ _ => rfl))) (pe_op op_mulW (pe_ix ix_tup (pv 1) pe_int (fun _ _ => rfl)) (pe_ix ix_tup (pv 0) pe_int (fun _ _ => rfl)))) (pa_cons (pe_op op_mulW (pe_ix ix_tup (pv 0) pe_int (fun _ _ => rfl)) (pe_ix ix_tup (pv 1) pe_int (fun _ _ => rfl))) pa_nil))))), ?_⟩
    refine ⟨_, rfl, p, _, _, _, rfl, rfl, hp, rfl, _, rfl, q, _, _, _, rfl, rfl, hq, rfl, _, _, rfl, rfl, Sm.mulW h.a1 h.d1, ?_⟩
    refine ⟨_, rfl, q, _, _, _, rfl, rfl, hq, rfl, _, rfl, p, _, _, _, rfl, rfl, hp, rfl, _, _, rfl, rfl, Sm.mulW h.c1 h.b1, ?_⟩
    refine ⟨_, _, rfl, rfl, ?_⟩
    refine ⟨_, rfl, p, _, _, _, rfl, rfl, hp, rfl, _, rfl, q, _, _, _, rfl, rfl, hq, rfl, _, _, rfl, rfl, Sm.mulW h.b1 h.d1, ?_⟩
    exact ⟨_, _, rfl, mul_ne h.hb h.hd, (fun z => Bool.noConfusion z), Sm.add h.a1 h.d1 h.c1 h.b1, Sm.mul h.b1 h.d1, k⟩

/-! ### over -/
theorem sc_over : FnScope ["one", "other"] ["one", "other"] (defScope s_over) := ⟨rfl, rfl, rfl, by decide +kernel, rfl, by decide +kernel, by decide +kernel⟩
def sp_over (K : PySem.W.Frag) : Sp := fun vs H Q _ => ∃ a b c d : Int, Pr K H vs a b c d ∧ c ≠ 0 ∧ Two H Q (low (a * d) (b * c))
theorem ok_over {f : Addr} {fd : FuncData} (F : Fun K "over" "over" s_over f fd) (C_fraction : Cal P w K mg base CX0 4 "fraction" ["top", "bottom"] (spFrac true)) : FnG P w K mg base CX0 5 f fd ["one", "other"] (sp_over K) := by
  refine Gfun F sc_over (fun vs H Q E h => ?_) (fun cdv A outer s H vs Q E hg hr h => ?_)
  · obtain ⟨a, b, c, d, h, _⟩ := h
    obtain ⟨p, q, rfl, _⟩ := h.ex
    rfl
  · obtain ⟨a, b, c, d, h, hc, k⟩ := h
    obtain ⟨p, q, rfl, hp, hq⟩ := h.ex
    refine ⟨_, (pss_one (ps_ret (pe_g C_fraction (hr.mono (by decide)) hg (pa_cons (pe_op op_mulW (pe_ix ix_tup (pv 0) pe_int (fun _ _ => rfl)) (pe_ix ix_tup (pv 1) pe_int (fun _ _ => rfl))) (pa_cons (pe_op op_mulW (pe_ix ix_tup (pv 0) pe_int (fun _ _ => rfl)) (pe_ix ix_tup (pv 1) pe_int (fun _ _ => rfl))) pa_nil))))), ?_⟩
    refine ⟨_, rfl, p, _, _, _, rfl, rfl, hp, rfl, _, rfl, q, _, _, _, rfl, rfl, hq, rfl, _, _, rfl, rfl, Sm.mulW h.a1 h.d1, ?_⟩
    refine ⟨_, rfl, p, _, _, _, rfl, rfl, hp, rfl, _, rfl, q, _, _, _, rfl, rfl, hq, rfl, _, _, rfl, rfl, Sm.mulW h.b1 h.c1, ?_⟩
    exact ⟨_, _, rfl, mul_ne h.hb hc, (fun z => Bool.noConfusion z), Sm.mul h.a1 h.d1, Sm.mul h.b1 h.c1, k⟩

/-! ### over 0 -/
def sp_over0 (K : PySem.W.Frag) (C : Addr) : Sp := fun vs H Q E => ∃ a b d : Int, Pr K H vs a b 0 d ∧ E (.ref C) none H
theorem ok_over0 {f : Addr} {fd : FuncData} {C : Addr} (F : Fun K "over" "over" s_over f fd) (C_fraction : Cal P w K mg base (L2.CX P w) 3 "fraction" ["top", "bottom"] (spFrac0 C)) : FnG P w K mg base (L2.CX P w) 5 f fd ["one", "other"] (sp_over0 K C) := by
  refine GfunX F sc_over (fun vs H Q E h => ?_) (fun cdv A outer s H vs Q E hg hr h => ?_)
  · obtain ⟨a, b, d, h, _⟩ := h
    obtain ⟨p, q, rfl, _⟩ := h.ex
    rfl
  · obtain ⟨a, b, d, h, k⟩ := h
    obtain ⟨p, q, rfl, hp, hq⟩ := h.ex
    refine ⟨_, (pss_one (ps_ret (pe_gS C_fraction (hr.mono (by decide)) hg (fun σ => passAt (takes_of rfl rfl rfl rfl) σ) (pa_cons (pe_op op_mulW (pe_ix ix_tup (pv 0) pe_int (fun _ _ => rfl)) (pe_ix ix_tup (pv 1) pe_int (fun _ _ => rfl))) (pa_cons (pe_op op_mulW (pe_ix ix_tup (pv 0) pe_int (fun _ _ => rfl)) (pe_ix ix_tup (pv 1) pe_int (fun _ _ => rfl))) pa_nil))))), ?_⟩
    refine ⟨_, rfl, p, _, _, _, rfl, rfl, hp, rfl, _, rfl, q, _, _, _, rfl, rfl, hq, rfl, _, _, rfl, rfl, Sm.mulW h.a1 h.d1, ?_⟩
    refine ⟨_, rfl, p, _, _, _, rfl, rfl, hp, rfl, _, rfl, q, _, _, _, rfl, rfl, hq, rfl, _, _, rfl, rfl, Sm.mulW h.b1 h.c1, ?_⟩
    exact ⟨a * d, by show [V.int (a * d), V.int (b * 0)] = _; rw [Int.mul_zero], k⟩

/-! ### is_less -/
theorem sc_is_less : FnScope ["one", "other"] ["one", "other"] (defScope s_is_less) := ⟨rfl, rfl, rfl, by decide +kernel, rfl, by decide +kernel, by decide +kernel⟩
def sp_is_less (K : PySem.W.Frag) : Sp := fun vs H Q _ => ∃ a b c d : Int, Pr K H vs a b c d ∧ Q (.bl (decide (a * d < c * b))) H
theorem ok_is_less {f : Addr} {fd : FuncData} (F : Fun K "is_less" "is_less" s_is_less f fd) : FnG P w K mg base CX0 1 f fd ["one", "other"] (sp_is_less K) := by
  refine Gfun F sc_is_less (fun vs H Q E h => ?_) (fun cdv A outer s H vs Q E hg hr h => ?_)
  · obtain ⟨a, b, c, d, h, _⟩ := h
    obtain ⟨p, q, rfl, _⟩ := h.ex
    rfl
  · obtain ⟨a, b, c, d, h, k⟩ := h
    obtain ⟨p, q, rfl, hp, hq⟩ := h.ex
    refine ⟨_, (pss_one (ps_ret (pe_cmpR op_lt (pe_op op_mulW (pe_ix ix_tup (pv 0) pe_int (fun _ _ => rfl)) (pe_ix ix_tup (pv 1) pe_int (fun _ _ => rfl))) (pe_op op_mulW (pe_ix ix_tup (pv 1) pe_int (fun _ _ => rfl)) (pe_ix ix_tup (pv 0) pe_int (fun _ _ => rfl))) (nomark _)))), ?_⟩
    refine ⟨_, rfl, p, _, _, _, rfl, rfl, hp, rfl, _, rfl, q, _, _, _, rfl, rfl, hq, rfl, _, _, rfl, rfl, Sm.mulW h.a1 h.d1, ?_⟩
    refine ⟨_, rfl, q, _, _, _, rfl, rfl, hq, rfl, _, rfl, p, _, _, _, rfl, rfl, hp, rfl, _, _, rfl, rfl, Sm.mulW h.c1 h.b1, ?_⟩
    exact ⟨_, _, rfl, rfl, k⟩

/-! ### fraction_text -/
theorem sc_fraction_text : FnScope ["one", "top", "bottom"] ["one"] (defScope s_fraction_text) := ⟨rfl, rfl, rfl, by decide +kernel, rfl, by decide +kernel, by decide +kernel⟩
/-- a fraction's text -/
def ftext (a b : Int) : Str := if b = 1 then toString a else toString a ++ "/" ++ toString b
def sp_fraction_text (K : PySem.W.Frag) : Sp := fun vs H Q _ => ∃ (p : Addr) (a b : Int), vs = [.ref p] ∧ SqT K H p [.int a, .int b] ∧ Sm a ∧ Sm b ∧ Q (.str (ftext a b)) H
theorem ok_fraction_text {f : Addr} {fd : FuncData} (F : Fun K "fraction_text" "fraction_text" s_fraction_text f fd) : FnG P w K mg base CX0 1 f fd ["one"] (sp_fraction_text K) := by
  refine Gfun F sc_fraction_text (fun vs H Q E h => ?_) (fun cdv A outer s H vs Q E hg hr h => ?_)
  · obtain ⟨p, a, b, rfl, _⟩ := h
    rfl
  · obtain ⟨p, a, b, rfl, hp, ha, hb, k⟩ := h
    refine ⟨_, (pss_cons (ps_asg (pv 0) (pg_tup rfl (pgs_cons (pg_name (i := 1) sc_fraction_text.nd rfl (.inl rfl)) (pgs_cons (pg_name (i := 2) sc_fraction_text.nd rfl (.inl rfl)) pgs_nil))))
      (pss_cons (ps_if (pt_cmpR op_eq (pv 2) pe_int (nomark _))
      (pss_one (ps_ret (pe_joined1 (pe_fmt (pv 1)))))
      pss_nil)
      (pss_one (ps_ret (pe_joined (PJ.cons (pe_fmt (pv 1)) (PJ.cons pe_str (PJ.cons (pe_fmt (pv 2)) PJ.nil)))))))), ?_⟩
    refine ⟨_, rfl, p, _, rfl, hp, rfl, _, _, rfl, _, _, rfl, rfl, ?_⟩
    refine ⟨_, rfl, rfl, _, rfl, ite2 (fun e => ?_) (fun e => ?_)⟩
    · have eb : b = 1 := V.int.inj (of_decide_eq_true e)
      refine ⟨_, rfl, .inr ⟨a, rfl, Nat.lt_of_lt_of_le ha.log (by decide), ?_⟩⟩
      have ef : ftext a b = (toString a : String) := if_pos eb
      rw [ef] at k
      exact k
    · have eb : b ≠ 1 := fun z => e (by rw [z]; rfl)
      have la := ha.text
      have lb := hb.text
      have ls : (Str.ofString "/").length = 1 := by rw [PySem.ofString_length]; rfl
      have z := sizeLine_eq
      refine ⟨_, rfl, .inr ⟨a, rfl, Nat.lt_of_lt_of_le ha.log (by decide), _, rfl, ?_, ?_⟩⟩
      · rw [Str.empty_append]
        omega
      refine ⟨_, rfl, ?_, ?_⟩
      · rw [Str.empty_append, strLen_append]
        omega
      refine ⟨_, rfl, .inr ⟨b, rfl, Nat.lt_of_lt_of_le hb.log (by decide), _, rfl, ?_, ?_⟩⟩
      · rw [Str.empty_append, strLen_append, strLen_append]
        omega
      have ef : ftext a b = Str.empty ++ Str.ofString (toString a) ++ "/" ++ Str.ofString (toString b) := by
        unfold ftext
        rw [if_neg eb, Str.empty_append]
      rw [ef] at k
      exact k

end
end Lf

set_option Elab.async false
set_option linter.all false
set_option maxRecDepth 100000
set_option maxHeartbeats 4000000
set_option exponentiation.threshold 3000
/-! Things of any kind: data without dicts, and dicts of plain things. -/
namespace Lf
open PySem PySem.Spec PyProof.Rows L2
def kD : Key → PyData
  | .inl i => .int i
  | .inr x => .str x
inductive Sc : V → PyData → Prop
  | non : Sc .non .none
  | bl (b : Bool) : Sc (.bl b) (.bool b)
  | int (i : Int) : Sc (.int i) (.int i)
  | str (x : Str) : Sc (.str x) (.str x)
/-- a thing: data, or a dict of plain things -/
inductive Dq (K : PySem.W.Frag) (H : Hp) : V → PyData → Prop
  | dp {v : V} {d : PyData} (h : Dp K H v d) (n : d.hasDict = false) : Dq K H v d
  | dic {a : Addr} {kvs : List (Key × V)} {ds : List (PyData × PyData)} (h : H a = some (.dK kvs)) (p : Paired (fun (kv : Key × V) (d : PyData × PyData) => d.1 = kD kv.1 ∧ Sc kv.2 d.2) kvs ds) : Dq K H (.ref a) (.dict ds)
theorem Dq.same {K : PySem.W.Frag} {H H' : Hp} {v : V} {d : PyData} (s : Same H H') (h : Dq K H v d) : Dq K H' v d := by
  cases h with
  | dp h n => exact .dp (Dp.same s _ _ h) n
  | dic h p => exact .dic (s _ _ h) p
section
variable {X : Cx} {pins : List (Addr × Obj)} {σ : L2.St} {H : Hp} {s : Shared}
theorem Sc.reads {v : V} {d : PyData} {u : Value} {h : Heap} (k : Sc v d) (r : RelV v u) : Reads h u d [] := by
  cases k with
  | non => cases r; exact .none
  | bl b => cases r; exact .bool b
  | int i => obtain ⟨t, rfl⟩ := r; exact .int i t
  | str x => obtain ⟨t, rfl⟩ := r; exact .str x t
theorem dic_reads {P : Program} {w : World} {h : Heap} : ∀ {es : List DictEntry} {vs : List (Key × Value)} {kvs : List (Key × V)} {ds : List (PyData × PyData)}, Pairs (mixKind P w) es vs → KV kvs vs →
    Paired (fun (kv : Key × V) (d : PyData × PyData) => d.1 = kD kv.1 ∧ Sc kv.2 d.2) kvs ds → ReadsAll h (es.map (·.key)) (ds.map (·.1)) [] ∧ ReadsAll h (es.map (·.val)) (ds.map (·.2)) []
  | _, _, _, _, .nil, kv, p => by
    cases kv
    cases p
    exact ⟨.nil, .nil⟩
  | _, _, _, _, .cons (e := e) hk hv r, kv, p => by
    cases kv with
    | cons q kv =>
      cases p with
      | cons z p =>
        obtain ⟨i1, i2⟩ := dic_reads r kv p
        obtain ⟨q1, q2⟩ := q
        obtain ⟨z1, z2⟩ := z
        refine ⟨?_, ?_⟩
        · rw [List.map_cons, List.map_cons]
          refine ReadsAll.cons (as := []) (bs := []) ?_ i1
          rw [z1, q1]
          rcases keyIs_shape (show keyIs _ e.key = true from hk) with ⟨i, t, e1, e2⟩ | ⟨x, t, e1, e2⟩
          · rw [e1, e2]
            exact .int i t
          · rw [e1, e2]
            exact .str x t
        · rw [List.map_cons, List.map_cons]
          refine ReadsAll.cons (as := []) (bs := []) ?_ i2
          rw [hv]
          exact z2.reads q2
theorem Dq.reads (I : Inv X pins σ H s) {v : V} {d : PyData} {u : Value} (h : Dq X.K H v d) (r : RelV v u) : ∃ as, Reads s.heap u d as ∧ (d.hasDict = true → sysModules ∉ as) := by
  cases h with
  | dp h n =>
    obtain ⟨as, q⟩ := Dp.reads I d v u h r
    exact ⟨as, q, fun z => by rw [n] at z; cases z⟩
  | @dic a kvs ds h p =>
    cases r
    obtain ⟨hz, hs, vs, kv, o, es, ep, h1, h2, h3, h4, h5, h6⟩ := (show ObjOk X.prog X.w H s.heap a (.dK kvs) from I.hok a _ h)
    obtain ⟨i1, i2⟩ := dic_reads (h := s.heap) h5 kv p
    refine ⟨_, Reads.dict h1 h2.1 h3 i1 i2, fun _ hm => ?_⟩
    have : sysModules = a := by simpa using hm
    rw [this] at hs
    simp at hs
/-- the built-in type of a thing -/
def tyN : PyData → String
  | .none => "NoneType"
  | .bool _ => "bool"
  | .int _ => "int"
  | .str _ => "str"
  | .list _ => "list"
  | .tuple _ => "tuple"
  | .dict _ => "dict"
theorem Dp.ty {K : PySem.W.Frag} {v : V} {d : PyData} (h : Dp K H v d) : TyX K H v (.type (tyN d)) := by
  cases h with
  | non => exact .base .non
  | bl b => exact .base (.bl b)
  | int i => exact .base (.int i)
  | str x => exact .base (.str x)
  | lst h1 _ =>
    rcases h1 with (h | ⟨o, h⟩) | ⟨o, arr, n, hk, hc, _⟩
    · exact .base (.lst h)
    · exact .base (.frz h)
    · exact .kList hk hc
  | tup h1 _ =>
    rcases h1 with (h | ⟨o, h⟩) | ⟨o, arr, n, hk, hc, _⟩
    · exact .base (.tup h)
    · exact .fTuple h
    · exact .kTuple hk hc
theorem Dq.ty {K : PySem.W.Frag} {v : V} {d : PyData} (h : Dq K H v d) : TyX K H v (.type (tyN d)) := by
  cases h with
  | dp h _ => exact Lf.Dp.ty h
  | dic h _ => exact .base (.dK h)
/-! ### repr of a list of things -/
inductive DqAll (K : PySem.W.Frag) (H : Hp) : List V → List PyData → Prop
  | nil : DqAll K H [] []
  | cons {v : V} {vs : List V} {d : PyData} {ds : List PyData} : Dq K H v d → DqAll K H vs ds → DqAll K H (v :: vs) (d :: ds)
theorem DqAll.same {K : PySem.W.Frag} {H H' : Hp} (s : Same H H') : ∀ {vs : List V} {ds : List PyData}, DqAll K H vs ds → DqAll K H' vs ds
  | _, _, .nil => .nil
  | _, _, .cons a r => .cons (a.same s) (DqAll.same s r)
theorem DqAll.get {K : PySem.W.Frag} {H : Hp} : ∀ {vs : List V} {ds : List PyData} {i : Nat} {v : V}, DqAll K H vs ds → vs[i]? = some v → ∃ d, ds[i]? = some d ∧ Dq K H v d
  | _, _, _, _, .nil, e => by simp at e
  | _, _, 0, _, .cons a _, e => by
    simp at e
    subst e
    exact ⟨_, rfl, a⟩
  | _, _, i + 1, v, .cons _ r, e => by
    obtain ⟨d, h1, h2⟩ := DqAll.get (i := i) (v := v) r (by simpa using e)
    exact ⟨d, by simpa using h1, h2⟩
theorem DqAll.app {K : PySem.W.Frag} {H : Hp} : ∀ {vs us : List V} {ds es : List PyData}, DqAll K H vs ds → DqAll K H us es → DqAll K H (vs ++ us) (ds ++ es)
  | _, _, _, _, .nil, h => h
  | _, _, _, _, .cons a r, h => .cons a (DqAll.app r h)
theorem DqAll.length {K : PySem.W.Frag} {H : Hp} : ∀ {vs : List V} {ds : List PyData}, DqAll K H vs ds → vs.length = ds.length
  | _, _, .nil => rfl
  | _, _, .cons _ r => congrArg Nat.succ (DqAll.length r)
theorem dq_repr (I : Inv X pins σ H s) : ∀ {vs : List V} {ds : List PyData} {us : List Value}, DqAll X.K H vs ds → Vals vs us → PyData.showableAll ds = true → (∀ t ∈ PyData.shownAll ds, t.length ≤ sizeLine) →
    ∃ bs as, ReadAtMost s.heap (PyData.depthAll ds) bs ∧ ReprAllK X.prog X.w bs s.heap (PyData.depthAll ds) us (PyData.shownAll ds) ∧ ReadsAll s.heap us ds as
  | _, _, _, .nil, r, _, _ => by
    cases r
    exact ⟨[], [], (fun _ h => nomatch h), by simp only [PyData.shownAll]; exact .nil, .nil⟩
  | _, _, _, .cons (d := d) (ds := ds) a q, r, hs, hz => by
    cases r with
    | cons r1 r2 =>
      have hs' : d.showable = true ∧ PyData.showableAll ds = true := by simpa [PyData.showableAll] using hs
      have hz' : d.shown.length ≤ sizeLine ∧ ∀ t ∈ PyData.shownAll ds, t.length ≤ sizeLine := by
        simp only [PyData.shownAll] at hz
        exact ⟨hz _ List.mem_cons_self, fun t ht => hz t (List.mem_cons_of_mem _ ht)⟩
      obtain ⟨as1, rd, hsm⟩ := a.reads I r1
      obtain ⟨b1, m1, k1⟩ := ReprK.of_reads (prog := X.prog) (w := X.w) rd hs'.1 hsm hz'.1
      obtain ⟨b2, as2, m2, k2, rd2⟩ := dq_repr I q r2 hs'.2 hz'.2
      have l1 : d.depth ≤ PyData.depthAll (d :: ds) := by simp only [PyData.depthAll]; omega
      have l2 : PyData.depthAll ds ≤ PyData.depthAll (d :: ds) := by simp only [PyData.depthAll]; omega
      refine ⟨b1 ++ b2, as1 ++ as2, ?_, ?_, .cons rd rd2⟩
      · intro b hb
        rcases List.mem_append.mp hb with z | z
        · obtain ⟨d', as', r', e'⟩ := m1 b z
          exact ⟨d', as', r', Nat.le_trans e' l1⟩
        · obtain ⟨d', as', r', e'⟩ := m2 b z
          exact ⟨d', as', r', Nat.le_trans e' l2⟩
      · simp only [PyData.shownAll]
        exact .cons ((k1.more (fun b hb => List.mem_append_left _ hb)).level_le l1) (k2.more_le (fun b hb => List.mem_append_right _ hb) l2)
def rShowQ (K : PySem.W.Frag) : List V → Hp → VK → Prop := fun xs H Q => ∃ (a : Addr) (v : V) (vs : List V) (ds : List PyData), xs = [.ref a] ∧ SqL K H a (v :: vs) ∧ DqAll K H (v :: vs) ds ∧
  PyData.showableAll ds = true ∧ PyData.depthAll ds ≤ 29 ∧ (PyData.shown (.list ds)).length ≤ sizeLine ∧ Q (.str (PyData.shown (.list ds))) H
theorem call_showQ (hG : X.A.guards = some []) {k : Nat} (hr : Room k X.A) : CallR X (.builtin "repr") (rShowQ X.K) := by
  intro pins s σ H xs us Q I r h
  obtain ⟨a, v, vs, ds, rfl, hS, hd, hs, h30, hz, q⟩ := h
  cases r with
  | cons r1 r2 =>
    cases r2
    cases r1
    have hu := hr.units
    obtain ⟨its, rv, ⟨o, n, ho, hc, _, hdt⟩, _⟩ := I.list hS
    have hz' : (listText (PyData.shownAll ds)).length ≤ sizeLine := by simpa only [PyData.shown] using hz
    obtain ⟨bs, as, m, k, rd⟩ := dq_repr I hd rv hs (fun t ht => Nat.le_trans (listText_mem_le ht) hz')
    have rl : Reads s.heap (.ref a) (.list ds) (a :: as) := Reads.list ho hc hdt rd
    have hna : a ∉ bs := not_mem_of_deeper rl (by simp only [PyData.depth]; omega) m
    cases its with
    | nil => cases rv
    | cons u us' =>
      refine call_repr_slot (T := "list") (by omega) ⟨o, ho, hc⟩ F.slot_list_repr.toG ?_
      refine call_list_reprK ho hc hdt hna (by simpa using k.length_eq) (fun i y e => k.item i y (by simpa using e)) hG (fun b _ => Clear.nil b) (by show X.A.units + 1 + (PyData.depthAll ds + 1) < cLine; omega) (fun _ _ z => z) (fun h' u tk hk => ?_) hz'
      refine ⟨_, _, rfl, ⟨.str (PyData.shown (.list ds)), H, I.kept hk, ⟨u, ?_⟩, q⟩⟩
      simp only [PyData.shown]
end
/-- a statement and the rest, what follows shown once from what holds between them -/
def tMid (t u : TS) : TS := fun D σ H => ∃ Md : L2.St → Hp → Prop, t { D with nx := Md } σ H ∧ ∀ σ' H', Md σ' H' → u D σ' H'
theorem pss_mid {X : Cx} {st : Stmt} {more : List Stmt} {t u : TS} (h1 : PS X st t) (h2 : PSs X more u) : PSs X (st :: more) (tMid t u) := by
  refine ⟨fun pins s σ H D I ⟨Md, hm, hu⟩ => wpAny_execs_cons (thn (h1.run pins s σ H { D with nx := Md } I hm) fun f s1 q => ?_)⟩
  cases f with
  | next =>
    obtain ⟨σ', H', I', q⟩ := q
    exact h2.run pins s1 σ' H' D I' (hu σ' H' q)
  | ret v => exact q
  | brk => exact q
  | cont => exact q
/-- what repr asks of a list of things -/
structure ShowA (ds : List PyData) : Prop where
  sh : PyData.showableAll ds = true
  dp : PyData.depthAll ds ≤ 29
  ln : (PyData.shown (.list ds)).length ≤ sizeLine
end Lf

set_option Elab.async false
set_option linter.all false
set_option maxRecDepth 100000
set_option maxHeartbeats 4000000
set_option exponentiation.threshold 3000
namespace Lf
open PySem PySem.Spec PyProof.Rows L2
theorem bt_isinstance : bootBuiltins "isinstance" = some (.builtin "isinstance") := by decide +kernel
theorem bt_bool : bootBuiltins "bool" = some (.type "bool") := by decide +kernel
theorem bt_tuple : bootBuiltins "tuple" = some (.type "tuple") := by decide +kernel
structure Bltx (mg : Str → Option Value) : Prop where
  isinstance : mg "isinstance" = none
  bool : mg "bool" = none
  tuple : mg "tuple" = none
theorem len_show {n : Nat} (h : n ≤ 1000) : n ≤ sizeLine := by
  rw [sizeLine_eq]
  omega
theorem u65 {k : Nat} {A : Around} (r : Room k A) : A.units + 65 < cLine := by
  have := r.un
  omega
theorem iteN {c A B : Prop} [Decidable c] (hc : ¬ c) (h : A) : if (!decide c) = true then A else B := by
  rw [decide_eq_false hc]
  exact iteT h
def isI : PyData → Bool
  | .int _ => true
  | .bool _ => true
  | _ => false
def isB : PyData → Bool
  | .bool _ => true
  | _ => false
def isT : PyData → Bool
  | .tuple _ => true
  | _ => false
def isS : PyData → Bool
  | .str _ => true
  | _ => false
def isW : PyData → Bool
  | .int _ => true
  | _ => false
theorem ki_none : kitB "NoneType" "int" = some false := by decide +kernel
theorem ki_bool : kitB "bool" "int" = some true := by decide +kernel
theorem ki_int : kitB "int" "int" = some true := by decide +kernel
theorem ki_str : kitB "str" "int" = some false := by decide +kernel
theorem ki_list : kitB "list" "int" = some false := by decide +kernel
theorem ki_tuple : kitB "tuple" "int" = some false := by decide +kernel
theorem ki_dict : kitB "dict" "int" = some false := by decide +kernel
theorem ki (d : PyData) : kitB (tyN d) "int" = some (isI d) :=
  match d with
  | .none => ki_none
  | .bool _ => ki_bool
  | .int _ => ki_int
  | .str _ => ki_str
  | .list _ => ki_list
  | .tuple _ => ki_tuple
  | .dict _ => ki_dict
theorem kb_none : kitB "NoneType" "bool" = some false := by decide +kernel
theorem kb_bool : kitB "bool" "bool" = some true := by decide +kernel
theorem kb_int : kitB "int" "bool" = some false := by decide +kernel
theorem kb_str : kitB "str" "bool" = some false := by decide +kernel
theorem kb_list : kitB "list" "bool" = some false := by decide +kernel
theorem kb_tuple : kitB "tuple" "bool" = some false := by decide +kernel
theorem kb_dict : kitB "dict" "bool" = some false := by decide +kernel
theorem kb (d : PyData) : kitB (tyN d) "bool" = some (isB d) :=
  match d with
  | .none => kb_none
  | .bool _ => kb_bool
  | .int _ => kb_int
  | .str _ => kb_str
  | .list _ => kb_list
  | .tuple _ => kb_tuple
  | .dict _ => kb_dict
theorem kt_none : kitB "NoneType" "tuple" = some false := by decide +kernel
theorem kt_bool : kitB "bool" "tuple" = some false := by decide +kernel
theorem kt_int : kitB "int" "tuple" = some false := by decide +kernel
theorem kt_str : kitB "str" "tuple" = some false := by decide +kernel
theorem kt_list : kitB "list" "tuple" = some false := by decide +kernel
theorem kt_tuple : kitB "tuple" "tuple" = some true := by decide +kernel
theorem kt_dict : kitB "dict" "tuple" = some false := by decide +kernel
theorem kt (d : PyData) : kitB (tyN d) "tuple" = some (isT d) :=
  match d with
  | .none => kt_none
  | .bool _ => kt_bool
  | .int _ => kt_int
  | .str _ => kt_str
  | .list _ => kt_list
  | .tuple _ => kt_tuple
  | .dict _ => kt_dict
theorem ks_none : kitB "NoneType" "str" = some false := by decide +kernel
theorem ks_bool : kitB "bool" "str" = some false := by decide +kernel
theorem ks_int : kitB "int" "str" = some false := by decide +kernel
theorem ks_str : kitB "str" "str" = some true := by decide +kernel
theorem ks_list : kitB "list" "str" = some false := by decide +kernel
theorem ks_tuple : kitB "tuple" "str" = some false := by decide +kernel
theorem ks_dict : kitB "dict" "str" = some false := by decide +kernel
theorem ks (d : PyData) : kitB (tyN d) "str" = some (isS d) :=
  match d with
  | .none => ks_none
  | .bool _ => ks_bool
  | .int _ => ks_int
  | .str _ => ks_str
  | .list _ => ks_list
  | .tuple _ => ks_tuple
  | .dict _ => ks_dict
def fr2 : PyData → PyData → Bool
  | .int a, .int b => decide (0 < b) && decide (Nat.gcd a.natAbs b.natAbs = 1)
  | _, _ => false
def frL : List PyData → Bool
  | [x, y] => fr2 x y
  | _ => false
def isFr : PyData → Bool
  | .tuple ds => frL ds
  | _ => false
def lets : Str := Str.ofString "abcdefghijklmnopqrstuvwxyz"
def inL (c : Nat) : Bool := decide (c ∈ lets.cps.toList)
def isNm : PyData → Bool
  | .str z => decide (1 ≤ z.length) && decide (z.length ≤ 10) && z.cps.toList.all inL
  | _ => false
section
variable {P : Program} {w : World} {K : PySem.W.Frag} {mg : Str → Option Value} {base : Heap}
theorem Dq.tup {H : Hp} {v : V} {d : PyData} (h : Dq K H v d) (e : isT d = true) : ∃ (a : Addr) (xs : List V) (ds : List PyData), v = .ref a ∧ d = .tuple ds ∧ SqT K H a xs ∧ DpAll K H xs ds ∧ PyData.hasDictAll ds = false := by
  cases h with
  | dp h n =>
    cases h with
    | tup h1 h2 => exact ⟨_, _, _, rfl, rfl, h1, h2, by simpa [PyData.hasDict] using n⟩
    | non => cases e
    | bl _ => cases e
    | int _ => cases e
    | str _ => cases e
    | lst _ _ => cases e
  | dic _ _ => cases e
theorem Dq.txt {H : Hp} {v : V} {d : PyData} (h : Dq K H v d) (e : isS d = true) : ∃ z, v = .str z ∧ d = .str z := by
  cases h with
  | dp h n =>
    cases h with
    | str z => exact ⟨z, rfl, rfl⟩
    | non => cases e
    | bl _ => cases e
    | int _ => cases e
    | tup _ _ => cases e
    | lst _ _ => cases e
  | dic _ _ => cases e
theorem Dq.whole {H : Hp} {v : V} {d : PyData} (h : Dq K H v d) (e : isW d = true) : ∃ i, v = .int i ∧ d = .int i := by
  cases h with
  | dp h n =>
    cases h with
    | int i => exact ⟨i, rfl, rfl⟩
    | non => cases e
    | bl _ => cases e
    | str _ => cases e
    | tup _ _ => cases e
    | lst _ _ => cases e
  | dic _ _ => cases e

def sp_whole (K : PySem.W.Frag) : Sp := fun vs H Q _ => ∃ (v : V) (d : PyData), vs = [v] ∧ Dq K H v d ∧ Q (.bl (isW d)) H
/-! ### is_whole -/
theorem sc_is_whole : FnScope ["thing"] ["thing"] (defScope s_is_whole) := ⟨rfl, rfl, rfl, by decide +kernel, rfl, by decide +kernel, by decide +kernel⟩
theorem ok_whole {f : Addr} {fd : FuncData} (M : Blt mg) (Mx : Bltx mg) (F : Fun K "is_whole" "is_whole" s_is_whole f fd) : FnG P w K mg base CX0 1 f fd ["thing"] (sp_whole K) := by
  refine Gfun F sc_is_whole (fun vs H Q E h => ?_) (fun cdv A outer s H vs Q E hg hr h => ?_)
  · obtain ⟨v, d, rfl, _⟩ := h
    rfl
  · obtain ⟨v, d, rfl, hq, k⟩ := h
    refine ⟨_, (pss_one (ps_ret (pe_and (pe_callB call_isi rfl Mx.isinstance bt_isinstance (pa_cons (pv 0) (pa_cons (pe_bltn (v := .ty "int") rfl M.int bt_int rfl) pa_nil))) (pe_one (pe_not (pe_callB call_isi rfl Mx.isinstance bt_isinstance (pa_cons (pv 0) (pa_cons (pe_bltn (v := .ty "bool") rfl Mx.bool bt_bool rfl) pa_nil)))))))), ?_⟩
    refine ⟨_, rfl, _, _, _, _, _, rfl, .ty "int", hq.ty, kit_ty (ki d), _, rfl, ite2 (fun e => ?_) (fun e => ?_)⟩
    · refine ⟨_, rfl, _, _, _, _, _, rfl, .ty "bool", hq.ty, kit_ty (kb d), _, rfl, ?_⟩
      have : isW d = !isB d := by cases d <;> first | rfl | (cases e)
      rw [← this]
      exact k
    · have : isW d = false := by cases d <;> first | rfl | (exact absurd rfl e)
      rw [this] at k
      exact k

/-! ### is_fraction -/
theorem sc_is_fraction : FnScope ["thing", "top", "bottom"] ["thing"] (defScope s_is_fraction) := ⟨rfl, rfl, rfl, by decide +kernel, rfl, by decide +kernel, by decide +kernel⟩
def sp_isfr (K : PySem.W.Frag) : Sp := fun vs H Q _ => ∃ (v : V) (d : PyData), vs = [v] ∧ Dq K H v d ∧ Q (.bl (isFr d)) H
theorem isFr_len {ds : List PyData} (h : ds.length ≠ 2) : isFr (.tuple ds) = false := by
  match ds, h with
  | [], _ => rfl
  | [_], _ => rfl
  | [_, _], h => exact absurd rfl h
  | _ :: _ :: _ :: _, _ => rfl
theorem isFr_no {d e : PyData} (h : isW d = false ∨ isW e = false) : isFr (.tuple [d, e]) = false := by
  cases d <;> cases e <;> first | rfl | (rcases h with h | h <;> cases h)
theorem isFr_two {a b : Int} : isFr (.tuple [.int a, .int b]) = (decide (0 < b) && decide (Nat.gcd a.natAbs b.natAbs = 1)) := rfl
theorem DpAll.len {H : Hp} : ∀ {vs : List V} {ds : List PyData}, DpAll K H vs ds → vs.length = ds.length
  | _, _, .nil => rfl
  | _, _, .cons _ r => congrArg Nat.succ (DpAll.len r)
theorem two_of {H : Hp} {xs : List V} {ds : List PyData} (h : DpAll K H xs ds) (hl : xs.length = 2) : ∃ x y d1 d2, xs = [x, y] ∧ ds = [d1, d2] ∧ Dp K H x d1 ∧ Dp K H y d2 := by
  match xs, ds, h, hl with
  | _, _, .cons h1 (.cons h2 .nil), _ => exact ⟨_, _, _, _, rfl, rfl, h1, h2⟩
  | _, _, .nil, e => cases e
  | _, _, .cons _ .nil, e => cases e
  | _, _, .cons _ (.cons _ (.cons _ _)), e => simp at e
theorem ok_isfr {f : Addr} {fd : FuncData} (M : Blt mg) (Mx : Bltx mg) (F : Fun K "is_fraction" "is_fraction" s_is_fraction f fd) (C_is_whole : Cal P w K mg base CX0 1 "is_whole" ["thing"] (sp_whole K)) (C_common : Cal P w K mg base CX0 1 "common" ["one", "other"] spCom) :
    FnG P w K mg base CX0 2 f fd ["thing"] (sp_isfr K) := by
  refine Gfun F sc_is_fraction (fun vs H Q E h => ?_) (fun cdv A outer s H vs Q E hg hr h => ?_)
  · obtain ⟨v, d, rfl, _⟩ := h
    rfl
  · obtain ⟨v, d, rfl, hq, k⟩ := h
    refine ⟨_, (pss_cons (ps_if (PW.pt (pw_or (pt_not (pt_val (pe_callB call_isi rfl Mx.isinstance bt_isinstance (pa_cons (pv 0) (pa_cons (pe_bltn (v := .ty "tuple") rfl Mx.tuple bt_tuple rfl) pa_nil))))) (pw_or1 (pt_cmpR op_ne (pe_callB call_len_seq rfl M.len bt_len (pa_cons (pv 0) pa_nil)) pe_int (nomark _)))))
      (pss_one (ps_ret pe_bl))
      pss_nil)
      (pss_cons (ps_asg (pv 0) (pg_tup rfl (pgs_cons (pg_name (i := 1) sc_is_fraction.nd rfl (.inl rfl)) (pgs_cons (pg_name (i := 2) sc_is_fraction.nd rfl (.inl rfl)) pgs_nil))))
      (pss_cons (ps_if (PW.pt (pw_or (pt_not (pt_val (pe_g C_is_whole (hr.mono (by decide)) hg (pa_cons (pv 1) pa_nil)))) (pw_or1 (pt_not (pt_val (pe_g C_is_whole (hr.mono (by decide)) hg (pa_cons (pv 2) pa_nil)))))))
      (pss_one (ps_ret pe_bl))
      pss_nil)
      (pss_one (ps_ret (pe_and (pe_cmpR op_gt (pv 2) pe_int (nomark _)) (pe_one (pe_cmpR op_eq (pe_g C_common (hr.mono (by decide)) hg (pa_cons (pe_callB call_abs rfl M.abs bt_abs (pa_cons (pv 1) pa_nil)) (pa_cons (pv 2) pa_nil))) pe_int (nomark _))))))))), ?_⟩
    refine ⟨_, rfl, _, _, _, _, _, rfl, .ty "tuple", hq.ty, kit_ty (kt d), _, rfl, ?_⟩
    by_cases ht : isT d = true
    · rw [ht]
      refine iteF ?_
      obtain ⟨a, xs, ds, rfl, rfl, hS, hA, hn⟩ := hq.tup ht
      refine ⟨_, rfl, a, xs, rfl, .inr hS, rfl, _, rfl, ?_⟩
      by_cases hl : xs.length = 2
      · refine iteNS (show V.int (xs.length : Int) = V.int 2 by rw [hl]; rfl) ?_
        obtain ⟨x, y, d1, d2, rfl, rfl, h1, h2⟩ := two_of hA hl
        refine ⟨_, rfl, a, _, rfl, hS, rfl, _, _, rfl, _, _, rfl, rfl, ?_⟩
        have hn' : d1.hasDict = false ∧ d2.hasDict = false := by simpa [PyData.hasDictAll] using hn
        have q1 : Dq K H x d1 := .dp h1 hn'.1
        have q2 : Dq K H y d2 := .dp h2 hn'.2
        refine ⟨_, rfl, x, d1, rfl, q1, _, rfl, ?_⟩
        by_cases w1 : isW d1 = true
        · rw [w1]
          refine iteF ?_
          refine ⟨_, rfl, y, d2, rfl, q2, _, rfl, ?_⟩
          by_cases w2 : isW d2 = true
          · rw [w2]
            refine iteF ?_
            obtain ⟨p, rfl, rfl⟩ := q1.whole w1
            obtain ⟨b, rfl, rfl⟩ := q2.whole w2
            rw [isFr_two] at k
            refine ⟨_, rfl, _, _, rfl, rfl, _, rfl, ite2 (fun e => ?_) (fun e => ?_)⟩
            · have hb : 0 < b := of_decide_eq_true e
              refine ⟨_, rfl, _, rfl, _, rfl, _, b, rfl, ?_, Int.le_of_lt hb, rfl, ?_⟩
              · rw [abs_is]
                omega
              · rw [abs_is, Int.natAbs_natCast]
                rw [decide_eq_true hb, Bool.true_and] at k
                have e2 : decide (V.int ((Nat.gcd p.natAbs b.natAbs : Nat) : Int) = V.int 1) = decide (Nat.gcd p.natAbs b.natAbs = 1) := by
                  by_cases z : Nat.gcd p.natAbs b.natAbs = 1
                  · rw [decide_eq_true z, z]
                    rfl
                  · rw [decide_eq_false z]
                    exact decide_eq_false fun q => z (by have := V.int.inj q; omega)
                rw [e2]
                exact k
            · rw [show decide (0 < b) = false from Bool.eq_false_iff.mpr e, Bool.false_and] at k
              exact k
          · have w2' : isW d2 = false := by cases h : isW d2 <;> first | rfl | exact absurd h w2
            rw [w2']
            refine iteT ?_
            rw [isFr_no (.inr w2')] at k
            exact k
        · have w1' : isW d1 = false := by cases h : isW d1 <;> first | rfl | exact absurd h w1
          rw [w1']
          refine iteT ?_
          rw [isFr_no (.inl w1')] at k
          exact k
      · refine iteN (fun z => hl (by have := V.int.inj z; omega)) ?_
        have hl2 : ds.length ≠ 2 := by rw [← DpAll.len hA]; exact hl
        rw [isFr_len hl2] at k
        exact k
    · have ht' : isT d = false := by cases h : isT d <;> first | rfl | exact absurd h ht
      rw [ht']
      refine iteT ?_
      have : isFr d = false := by
        cases d <;> first | rfl | exact absurd rfl ht
      rw [this] at k
      exact k

/-! ### is_name -/
theorem sc_is_name : FnScope ["thing", "sign"] ["thing"] (defScope s_is_name) := ⟨rfl, rfl, rfl, by decide +kernel, rfl, by decide +kernel, by decide +kernel⟩
def sp_isnm (K : PySem.W.Frag) : Sp := fun vs H Q _ => ∃ (v : V) (d : PyData), vs = [v] ∧ Dq K H v d ∧ (∀ z, d = .str z → z.length ≤ 1000) ∧ ∀ H', Same H H' → Q (.bl (isNm d)) H'
theorem isNm_no {d : PyData} (h : isS d = false) : isNm d = false := by cases d <;> first | rfl | cases h
theorem ok_isnm {f : Addr} {fd : FuncData} {tl tn : Tok} (M : Blt mg) (Mx : Bltx mg) (G_LETTERS : mg "LETTERS" = some (.str lets tl)) (G_LONGEST_NAME : mg "LONGEST_NAME" = some (.int 10 tn)) (F : Fun K "is_name" "is_name" s_is_name f fd) :
    FnG P w K mg base CX0 2 f fd ["thing"] (sp_isnm K) := by
  refine Gfun F sc_is_name (fun vs H Q E h => ?_) (fun cdv A outer s H vs Q E hg hr h => ?_)
  · obtain ⟨v, d, rfl, _⟩ := h
    rfl
  · obtain ⟨v, d, rfl, hq, hz, k⟩ := h
    refine ⟨_, (pss_cons (ps_if (PW.pt (pw_or (pt_not (pt_val (pe_callB call_isi rfl Mx.isinstance bt_isinstance (pa_cons (pv 0) (pa_cons (pe_bltn (v := .ty "str") rfl M.str bt_str rfl) pa_nil))))) (pw_or1 (pt_not (pt_chain op_le op_le pe_int (pe_callB call_len_str rfl M.len bt_len (pa_cons (pv 0) pa_nil)) (pe_glob (v := .int 10) rfl G_LONGEST_NAME ⟨_, rfl⟩))))))
      (pss_one (ps_ret pe_bl))
      pss_nil)
      (pss_one (ps_ret (pe_callB (cr_all rfl) rfl M.all bt_all (pa_cons (pe_lc (own := [("sign", 1)]) (g := gName 1) (tt := tYes) rfl sc_is_name.nd (pi_str (pv 0)) (blkOk_by (N := ["thing", "sign"]) (sc := defScope s_is_name) (by decide +kernel)) (fun _ _ _ _ _ => pg_name (i := 1) sc_is_name.nd rfl (Or.inl rfl)) (fun _ _ _ _ _ => pts_nil) (fun _ _ _ _ _ => (pe_cmpR op_inS (pv 1) (pe_glob (v := .str lets) rfl G_LETTERS ⟨_, rfl⟩) rfl))) pa_nil))))), ?_⟩
    refine ⟨_, rfl, _, _, _, _, _, rfl, .ty "str", hq.ty, kit_ty (ks d), _, rfl, ?_⟩
    by_cases ht : isS d = true
    · rw [ht]
      refine iteF ?_
      obtain ⟨z, rfl, rfl⟩ := hq.txt ht
      have hzl := hz z rfl
      have hnm : isNm (.str z) = (decide (1 ≤ z.length) && decide (z.length ≤ 10) && z.cps.toList.all inL) := rfl
      have fin : ∀ b : Bool, isNm (.str z) = b → ∀ H', Same H H' → Q (.bl b) H' := fun b e H' s => e ▸ k H' s
      refine ⟨_, rfl, z, rfl, len_show hzl, _, _, rfl, rfl, _, rfl, ?_⟩
      by_cases h1 : (1 : Int) ≤ (z.length : Int)
      · rw [decide_eq_true h1]
        refine iteT ⟨_, _, rfl, rfl, _, rfl, ?_⟩
        by_cases h2 : (z.length : Int) ≤ 10
        · rw [decide_eq_true h2]
          refine iteF ?_
          refine ⟨_, rfl, z, rfl, fun D hD => lc_it walk_str (fun i H' => H' D = some (.lst ((z.cps.toList.take i).map fun c => .bl (inL c))) ∧ Same H H') ⟨upd_same, same_new hD⟩ (fun _ _ _ _ => trivial) ?_ ?_⟩
          · rintro i x H1 H2 hi ⟨eD, sm⟩ ⟨rfl, c, hc, rfl⟩
            have hsz : z.cps.size ≤ 1000 := hzl
            refine ⟨rfl, _, rfl, c, lets, rfl, rfl, _, eD, ?_, ?_, fun b o e => ?_⟩
            · rw [List.length_map, List.length_take, sizeLine_eq]
              omega
            · rw [upd_same, List.take_add_one, Array.getElem?_toList, hc, List.map_append]
              rfl
            · rw [upd_ne (ne_of_none e hD)]
              exact sm _ _ e
          · rintro H1 ⟨eD, sm⟩
            rw [show z.cps.size = z.cps.toList.length from Array.length_toList.symm, List.take_length] at eD
            refine ⟨D, z.cps.toList.map inL, rfl, .inl (.inl ?_), ?_⟩
            · rw [eD, List.map_map]
              rfl
            · refine fin _ ?_ H1 sm
              rw [hnm, decide_eq_true (show 1 ≤ z.length by omega), decide_eq_true (show z.length ≤ 10 by omega), List.all_map]
              rfl
        · rw [decide_eq_false h2]
          refine iteT (fin false ?_ H same_rfl)
          rw [hnm, show decide (z.length ≤ 10) = false from decide_eq_false (by omega), Bool.and_false, Bool.false_and]
      · rw [decide_eq_false h1]
        refine iteF ⟨_, rfl, iteT (fin false ?_ H same_rfl)⟩
        rw [hnm, show decide (1 ≤ z.length) = false from decide_eq_false (by omega), Bool.false_and, Bool.false_and]
    · have ht' : isS d = false := by cases h : isS d <;> first | rfl | exact absurd h ht
      rw [ht']
      refine iteT ?_
      have := k H same_rfl
      rw [isNm_no ht'] at this
      exact this

end
end Lf

set_option Elab.async false
set_option linter.all false
set_option maxRecDepth 100000
set_option maxHeartbeats 4000000
set_option exponentiation.threshold 3000
namespace Lf
open PySem PySem.Spec PyProof.Rows L2
theorem sm_l {K : PySem.W.Frag} {H H' : Hp} {a : Addr} {xs : List V} (s : Same H H') (h : SqL K H a xs) : SqL K H' a xs := s.seq h
theorem small30 {n : Int} (h : 0 ≤ n) (h2 : n < 2147483648) : Sm n := Nat.lt_of_lt_of_le (show n.natAbs < 2 ^ 31 by omega) (Nat.pow_le_pow_right (by decide) (by decide))
section
variable {P : Program} {w : World} {K : PySem.W.Frag} {mg : Str → Option Value} {base : Heap}

/-! ### _law_cell -/
theorem sc__law_cell : FnScope ["_law_script", "_law_k"] ["_law_script", "_law_k"] (defScope s__law_cell) := ⟨rfl, rfl, rfl, by decide +kernel, rfl, by decide +kernel, by decide +kernel⟩
def sp_cell (K : PySem.W.Frag) : Sp := fun vs H Q _ => ∃ (a : Addr) (ns : List Int) (k : Nat), vs = [.ref a, .int k] ∧ SqL K H a (ns.map V.int) ∧ k < 2 ^ 62 ∧ ∀ n : Int, Q (.int n) H
theorem ok_cell {f : Addr} {fd : FuncData} (M : Blt mg) (F : Fun K "_law_cell" "_law_cell" s__law_cell f fd) : FnG P w K mg base CX0 1 f fd ["_law_script", "_law_k"] (sp_cell K) := by
  refine Gfun F sc__law_cell (fun vs H Q E h => ?_) (fun cdv A outer s H vs Q E hg hr h => ?_)
  · obtain ⟨a, ns, k, rfl, _⟩ := h
    rfl
  · obtain ⟨a, ns, k, rfl, hS, hk, q⟩ := h
    refine ⟨_, (pss_one (ps_ret (pe_ifExp (pt_cmpR op_lt (pv 1) (pe_callB call_len_seq rfl M.len bt_len (pa_cons (pv 0) pa_nil)) (nomark _)) (pe_ix ix_list (pv 0) (pv 1) (fun _ _ => rfl)) pe_int))), ?_⟩
    refine ⟨_, rfl, _, rfl, a, _, rfl, .inl hS, _, _, rfl, rfl, _, rfl, ite2 (fun e => ?_) (fun e => ?_)⟩
    · have e' : (k : Int) < (((ns.map V.int).length : Nat) : Int) := of_decide_eq_true e
      rw [List.length_map] at e'
      have hlt : k < ns.length := by omega
      refine ⟨_, rfl, _, rfl, a, _, _, .int ns[k], rfl, rfl, hS, atI_nat ?_, q _⟩
      rw [List.getElem?_map, List.getElem?_eq_getElem hlt]
      rfl
    · exact q 0

/-! ### _law_pot -/
theorem sc__law_pot : FnScope ["_law_cell_here"] ["_law_cell_here"] (defScope s__law_pot) := ⟨rfl, rfl, rfl, by decide +kernel, rfl, by decide +kernel, by decide +kernel⟩
def sp_pot : Sp := fun vs H Q _ => ∃ n : Int, vs = [.int n] ∧ ∀ (x y : Int) (p : Addr), 0 ≤ y → y < 2147483648 → H p = none → Q (.ref p) (upd H p (.lst [.int x, .int y]))
theorem ok_pot {f : Addr} {fd : FuncData} (M : Blt mg) (F : Fun K "_law_pot" "_law_pot" s__law_pot f fd) : FnG P w K mg base CX0 1 f fd ["_law_cell_here"] sp_pot := by
  refine Gfun F sc__law_pot (fun vs H Q E h => ?_) (fun cdv A outer s H vs Q E hg hr h => ?_)
  · obtain ⟨n, rfl, _⟩ := h
    rfl
  · obtain ⟨n, rfl, q⟩ := h
    refine ⟨_, (pss_one (ps_ret (pe_lst (pa_cons (pe_callB (call_max2 rfl) rfl M.max bt_max (pa_cons pe_int (pa_cons (pe_op op_sub (pv 0) (pe_op op_pow pe_int pe_int)) pa_nil))) (pa_cons (pe_op op_mod (pe_op op_add (pe_op op_mulW (pe_op op_mod (pv 0) pe_int) pe_int) pe_int) pe_int) pa_nil))))), ?_⟩
    refine ⟨_, rfl, 10, 18, rfl, rfl, ⟨by decide, by decide, by decide⟩, _, _, rfl, rfl, _, _, rfl, ?_⟩
    have h1 := Int.emod_nonneg n (show (2147483629 : Int) ≠ 0 by decide)
    have h2 := Int.emod_lt_of_pos n (show (0 : Int) < 2147483629 by decide)
    refine ⟨_, rfl, _, _, rfl, rfl, (by show (0 : Int) < 2147483629; decide), _, _, rfl, rfl, Sm.mulW (small30 h1 (by omega)) (small30 (by decide) (by decide)), _, _, rfl, rfl, _, _, rfl, rfl, (by show (0 : Int) < 2147483647; decide), lst2 fun p hp => ?_⟩
    have h3 := Int.emod_nonneg (n % 2147483629 * 48271 + 7919) (show (2147483647 : Int) ≠ 0 by decide)
    have h4 := Int.emod_lt_of_pos (n % 2147483629 * 48271 + 7919) (show (0 : Int) < 2147483647 by decide)
    exact q _ _ p h3 (by omega) hp

/-! ### _law_draw -/
theorem sc__law_draw : FnScope ["_law_pot_here", "_law_many", "_law_digit"] ["_law_pot_here", "_law_many"] (defScope s__law_draw) := ⟨rfl, rfl, rfl, by decide +kernel, rfl, by decide +kernel, by decide +kernel⟩
/-- all but the pot at q stands as before -/
def But (q : Addr) (H H' : Hp) : Prop := ∀ b o, b ≠ q → H b = some o → H' b = some o
theorem But.rfl {q : Addr} {H : Hp} : But q H H := fun _ _ _ e => e
theorem But.trans {q : Addr} {H H1 H2 : Hp} (h : But q H H1) (k : But q H1 H2) : But q H H2 := fun b o n e => k b o n (h b o n e)
theorem But.same {q : Addr} {H H1 H2 : Hp} (h : But q H H1) (k : Same H1 H2) : But q H H2 := fun b o n e => k b o (h b o n e)
/-- a pot of draws at q -/
def Pot (H : Hp) (q : Addr) : Prop := ∃ x y : Int, 0 ≤ y ∧ y < 2147483648 ∧ H q = some (.lst [.int x, .int y])
def Drawn (H : Hp) (q : Addr) (Q : VK) (m : Int) : Prop := ∀ (r : Int) (H' : Hp), 0 ≤ r → r < m → Pot H' q → But q H H' → Q (.int r) H'
def sp_draw : Sp := fun vs H Q _ => ∃ (q : Addr) (m : Int), vs = [.ref q, .int m] ∧ 0 < m ∧ m.natAbs < 2 ^ 900 ∧ Pot H q ∧ Drawn H q Q m
theorem ok_draw {f : Addr} {fd : FuncData} (M : Blt mg) (F : Fun K "_law_draw" "_law_draw" s__law_draw f fd) : FnG P w K mg base CX0 1 f fd ["_law_pot_here", "_law_many"] sp_draw := by
  refine Gfun F sc__law_draw (fun vs H Q E h => ?_) (fun cdv A outer s H vs Q E hg hr h => ?_)
  · obtain ⟨q, m, rfl, _⟩ := h
    rfl
  · obtain ⟨q, m, rfl, hm, hm2, ⟨x, y, hy0, hy1, hP⟩, k⟩ := h
    refine ⟨_, (pss_cons (ps_if (pt_cmpR op_gt (pe_ix ix_list (pv 0) pe_int (fun _ _ => rfl)) pe_int (nomark _))
      (pss_cons (ps_asg (pe_callB call_divmodW rfl M.divmod bt_divmod (pa_cons (pe_ix ix_list (pv 0) pe_int (fun _ _ => rfl)) (pa_cons (pv 1) pa_nil))) (pg_tup rfl (pgs_cons (pg_sub (pv 0) pe_int set_list) (pgs_cons (pg_name (i := 2) sc__law_draw.nd rfl (.inl rfl)) pgs_nil))))
      (pss_one (ps_ret (pv 2))))
      pss_nil)
      (pss_cons (ps_asg (pe_op op_mod (pe_op op_add (pe_op op_mulW (pe_ix ix_list (pv 0) pe_int (fun _ _ => rfl)) pe_int) pe_int) pe_int) (pg_sub (pv 0) pe_int set_list))
      (pss_one (ps_ret (pe_op op_mod (pe_op op_fdivN (pe_op op_mod (pe_op op_mulW (pe_ix ix_list (pv 0) pe_int (fun _ _ => rfl)) (pe_ix ix_list (pv 0) pe_int (fun _ _ => rfl))) pe_int) pe_int) (pv 1)))))), ?_⟩
    refine ⟨_, rfl, q, _, _, _, rfl, rfl, .inl (.inl hP), rfl, _, _, rfl, rfl, _, rfl, ite2 (fun e => ?_) (fun e => ?_)⟩
    · refine ⟨_, rfl, q, _, _, _, rfl, rfl, .inl (.inl hP), rfl, _, rfl, x, m, rfl, ⟨hm, PyProof.noPylong_of_log2 (Nat.lt_of_lt_of_le (PySem.Flt.log2_lt_of (by decide) hm2) (by decide))⟩, fun p hp => ?_⟩
      have nq : q ≠ p := ne_of_none hP hp
      have hP2 : upd H p (.tup [.int (x / m), .int (x % m)]) q = some (.lst [.int x, .int y]) := by
        rw [upd_ne nq]
        exact hP
      refine ⟨p, _, rfl, .inl (.inl upd_same), rfl, _, _, rfl, ?_⟩
      refine ⟨_, rfl, q, _, _, _, rfl, rfl, hP2, rfl, ?_⟩
      refine ⟨_, _, rfl, rfl, ?_⟩
      refine ⟨_, rfl, k (x % m) _ (Int.emod_nonneg _ (by omega)) (Int.emod_lt_of_pos _ hm) ⟨x / m, y, hy0, hy1, upd_same⟩ fun b o nb eb => ?_⟩
      rw [upd_ne nb, upd_ne (ne_of_none eb hp)]
      exact eb
    · refine ⟨_, rfl, q, _, _, _, rfl, rfl, .inl (.inl hP), rfl, _, _, rfl, rfl, Sm.mulW (small30 hy0 hy1) (small30 (by decide) (by decide)), _, _, rfl, rfl, _, _, rfl, rfl, (by show (0 : Int) < 2147483587; decide), ?_⟩
      refine ⟨_, rfl, q, _, _, _, rfl, rfl, hP, rfl, ?_⟩
      have h3 := Int.emod_nonneg (y * 39373 + 8191) (show (2147483587 : Int) ≠ 0 by decide)
      have h4 := Int.emod_lt_of_pos (y * 39373 + 8191) (show (0 : Int) < 2147483587 by decide)
      have sz : Sm ((y * 39373 + 8191) % 2147483587) := small30 h3 (by omega)
      refine ⟨_, rfl, q, _, _, _, rfl, rfl, .inl (.inl upd_same), rfl, _, rfl, q, _, _, _, rfl, rfl, .inl (.inl upd_same), rfl, _, _, rfl, rfl, Sm.mulW sz sz, _, _, rfl, rfl, (by show (0 : Int) < 2147483543; decide), ?_⟩
      refine ⟨_, _, rfl, rfl, ⟨by decide, by decide⟩, _, rfl, _, _, rfl, rfl, hm, ?_⟩
      refine k _ _ (Int.emod_nonneg _ (by omega)) (Int.emod_lt_of_pos _ hm) ⟨x, _, h3, by omega, upd_same⟩ fun b o nb eb => ?_
      rw [upd_ne nb]
      exact eb

/-! ### _law_low -/
theorem sc__law_low : FnScope ["_law_top", "_law_bottom", "_law_one", "_law_other"] ["_law_top", "_law_bottom"] (defScope s__law_low) := ⟨rfl, rfl, rfl, by decide +kernel, rfl, by decide +kernel, by decide +kernel⟩
def sp_low : Sp := fun vs H Q _ => ∃ (n d : Int), vs = [.int n, .int d] ∧ d ≠ 0 ∧ Mid d ∧ Two H Q (low n d)
theorem ok_low {f : Addr} {fd : FuncData} (M : Blt mg) (F : Fun K "_law_low" "_law_low" s__law_low f fd) : FnG P w K mg base CX0 1 f fd ["_law_top", "_law_bottom"] sp_low := by
  refine Gfun F sc__law_low (fun vs H Q E h => ?_) (fun cdv A outer s H vs Q E hg hr h => ?_)
  · obtain ⟨n, d, rfl, _⟩ := h
    rfl
  · obtain ⟨n, d, rfl, hd, hd2, q⟩ := h
    refine ⟨_, (pss_cons (ps_par (i := 2) (j := 3) rfl sc__law_low.nd rfl rfl (by decide) rfl rfl (pa_cons (pe_callB call_abs rfl M.abs bt_abs (pa_cons (pv 0) pa_nil)) (pa_cons (pe_callB call_abs rfl M.abs bt_abs (pa_cons (pv 1) pa_nil)) pa_nil)) (by rfl))
      (pss_cons (ps_while PassesOwn.never (pt_cmpR op_gt (pv 3) pe_int (nomark _))
      (pss_one (ps_par (i := 2) (j := 3) rfl sc__law_low.nd rfl rfl (by decide) rfl rfl (pa_cons (pv 3) (pa_cons (pe_op op_mod (pv 2) (pv 3)) pa_nil)) (by rfl))))
      (pss_cons (ps_if (pt_cmpR op_lt (pv 1) pe_int (nomark _))
      (pss_one (ps_set (i := 2) sc__law_low.nd rfl (.inl rfl) (pe_un un_neg (pv 2))))
      pss_nil)
      (pss_one (ps_ret (pe_tup (pa_cons (pe_op op_fdivN (pv 0) (pv 2)) (pa_cons (pe_op op_fdivN (pv 1) (pv 2)) pa_nil)))))))), ?_⟩
    refine ⟨_, rfl, _, rfl, _, rfl, _, rfl, _, _, rfl, ?_⟩
    refine while_by (fun σ H' => ∃ x y : Int, σ = [some (.int n), some (.int d), some (.int x), some (.int y)] ∧ 0 ≤ x ∧ 0 ≤ y ∧ Nat.gcd x.natAbs y.natAbs = Nat.gcd n.natAbs d.natAbs ∧ H' = H)
      (fun σ _ => match σ with | [_, _, _, some (.int y)] => y.toNat | _ => 0) ⟨_, _, rfl, ?_, ?_, ?_, rfl⟩ ?_ ?_
    · rw [abs_is]
      omega
    · rw [abs_is]
      omega
    · rw [abs_is, abs_is, Int.natAbs_natCast, Int.natAbs_natCast]
    · rintro σ H1 ⟨x, y, rfl, hx, hy, hgc, rfl⟩
      refine ⟨_, rfl, _, _, rfl, rfl, _, rfl, ite2 (fun e => ?_) (fun e => ?_)⟩
      · have hyp : 0 < y := of_decide_eq_true e
        refine ⟨_, rfl, _, rfl, _, rfl, x, y, rfl, rfl, hyp, _, _, rfl, ⟨y, x % y, rfl, hy, Int.emod_nonneg _ (by omega), (gcd_step x y hyp hx).trans hgc, rfl⟩, ?_⟩
        show (x % y).toNat < y.toNat
        have := Int.emod_lt_of_pos x hyp
        omega
      · have hy0 : y = 0 := by
          have : ¬ 0 < y := fun z => e (decide_eq_true z)
          omega
        subst hy0
        rw [Int.natAbs_zero, Nat.gcd_zero_right] at hgc
        have ex : x = ((Nat.gcd n.natAbs d.natAbs : Nat) : Int) := by omega
        subst ex
        have hgz : ((Nat.gcd n.natAbs d.natAbs : Nat) : Int) ≠ 0 := by
          have := gcd_pos (n := n) hd
          omega
        have hlg := (gcd_mid (n := n) hd hd2).log
        refine ⟨_, rfl, _, _, rfl, rfl, _, rfl, ite2 (fun e => ?_) (fun e => ?_)⟩
        · have e' : d < 0 := of_decide_eq_true e
          have hm : ∀ i, CDivN i (-((Nat.gcd n.natAbs d.natAbs : Nat) : Int)) := fun i => ⟨by omega, by rw [Int.natAbs_neg]; exact hlg⟩
          refine ⟨_, rfl, _, rfl, _, rfl, _, rfl, n, _, rfl, rfl, hm n, _, rfl, _, rfl, d, _, rfl, rfl, hm d, (by show 2 ≤ sizeLine; decide), fun p hp => ?_⟩
          refine q _ p (same_new hp) ?_
          rw [← low_fdiv_neg (n := n) e']
          exact upd_same
        · have e' : 0 < d := by
            have : ¬ d < 0 := fun z => e (decide_eq_true z)
            omega
          have hm : ∀ i, CDivN i ((Nat.gcd n.natAbs d.natAbs : Nat) : Int) := fun i => ⟨hgz, hlg⟩
          refine ⟨_, rfl, _, rfl, n, _, rfl, rfl, hm n, _, rfl, _, rfl, d, _, rfl, rfl, hm d, (by show 2 ≤ sizeLine; decide), fun p hp => ?_⟩
          refine q _ p (same_new hp) ?_
          rw [← low_fdiv_pos (n := n) e']
          exact upd_same
    · rintro σ H1 Q1 Q2 hq ⟨u, hu, i, j, h1, h2, k, h3, h4⟩
      exact ⟨u, hu, i, j, h1, h2, k, h3, hq _ _ h4⟩

end
end Lf

set_option linter.all false
/-! Sums and products of fractions in any order, by rational numbers. -/
namespace Lf
def rv (f : Int × Int) : Rat := Rat.divInt f.1 f.2
def IsF (f : Int × Int) : Prop := IsLow f.1 f.2
theorem IsF.ne {f : Int × Int} (h : IsF f) : f.2 ≠ 0 := by
  have : 0 < f.2 := h.1
  omega
theorem rv_inj {f g : Int × Int} (hf : IsF f) (hg : IsF g) (e : rv f = rv g) : f = g := by
  have q := (Rat.divInt_eq_divInt_iff hf.ne hg.ne).mp e
  obtain ⟨e1, e2⟩ := low_uniq hf hg q
  exact Prod.ext e1 e2
theorem low_f {n d : Int} (h : d ≠ 0) : IsF (low n d) := low_is h
theorem rv_low {n d : Int} (h : d ≠ 0) : rv (low n d) = Rat.divInt n d :=
  (Rat.divInt_eq_divInt_iff (low_f (n := n) h).ne h).mpr (low_cross h)
def fadd (f g : Int × Int) : Int × Int := low (f.1 * g.2 + g.1 * f.2) (f.2 * g.2)
def fsub (f g : Int × Int) : Int × Int := low (f.1 * g.2 - g.1 * f.2) (f.2 * g.2)
def fmul (f g : Int × Int) : Int × Int := low (f.1 * g.1) (f.2 * g.2)
def fdiv (f g : Int × Int) : Int × Int := low (f.1 * g.2) (f.2 * g.1)
section
variable {f g : Int × Int}
theorem fadd_f (hf : IsF f) (hg : IsF g) : IsF (fadd f g) := low_f (Int.mul_ne_zero hf.ne hg.ne)
theorem fsub_f (hf : IsF f) (hg : IsF g) : IsF (fsub f g) := low_f (Int.mul_ne_zero hf.ne hg.ne)
theorem fmul_f (hf : IsF f) (hg : IsF g) : IsF (fmul f g) := low_f (Int.mul_ne_zero hf.ne hg.ne)
theorem fdiv_f (hf : IsF f) (h0 : g.1 ≠ 0) : IsF (fdiv f g) := low_f (Int.mul_ne_zero hf.ne h0)
theorem rv_add (hf : IsF f) (hg : IsF g) : rv (fadd f g) = rv f + rv g := by
  unfold fadd
  rw [rv_low (Int.mul_ne_zero hf.ne hg.ne)]
  exact (Rat.divInt_add_divInt _ _ hf.ne hg.ne).symm
theorem rv_sub (hf : IsF f) (hg : IsF g) : rv (fsub f g) = rv f - rv g := by
  unfold fsub
  rw [rv_low (Int.mul_ne_zero hf.ne hg.ne)]
  exact (Rat.divInt_sub_divInt _ _ hf.ne hg.ne).symm
theorem rv_mul (hf : IsF f) (hg : IsF g) : rv (fmul f g) = rv f * rv g := by
  unfold fmul
  rw [rv_low (Int.mul_ne_zero hf.ne hg.ne)]
  exact (Rat.divInt_mul_divInt _ _).symm
theorem rv_div (hf : IsF f) (h0 : g.1 ≠ 0) : rv (fdiv f g) = rv f * (rv g)⁻¹ := by
  unfold fdiv
  rw [rv_low (Int.mul_ne_zero hf.ne h0)]
  unfold rv
  rw [Rat.inv_divInt, Rat.divInt_mul_divInt]
end
def f0 : Int × Int := (0, 1)
def f1 : Int × Int := (1, 1)
theorem f0_f : IsF f0 := ⟨by decide, by decide⟩
theorem f1_f : IsF f1 := ⟨by decide, by decide⟩
theorem rv0 : rv f0 = 0 := Rat.zero_divInt 1
theorem rv1 : rv f1 = 1 := Rat.divInt_self' (by decide)
theorem rv_zero {f : Int × Int} (h : IsF f) : rv f = 0 ↔ f.1 = 0 := by
  constructor
  · intro e
    have := rv_inj h f0_f (e.trans rv0.symm)
    rw [this]
    rfl
  · intro e
    unfold rv
    rw [e, Rat.zero_divInt]
theorem is0 {f : Int × Int} (h : IsF f) : f.1 = 0 ↔ f = f0 := by
  constructor
  · intro e
    exact rv_inj h f0_f (((rv_zero h).mpr e).trans rv0.symm)
  · intro e
    rw [e]
    rfl
def rsum : List (Int × Int) → Rat
  | [] => 0
  | f :: r => rv f + rsum r
def rprod : List (Int × Int) → Rat
  | [] => 1
  | f :: r => rv f * rprod r
theorem rsum_perm {l m : List (Int × Int)} (p : l.Perm m) : rsum l = rsum m := by
  induction p with
  | nil => rfl
  | cons x _ ih => exact congrArg (rv x + ·) ih
  | swap x y l =>
    show rv y + (rv x + rsum l) = rv x + (rv y + rsum l)
    rw [← Rat.add_assoc, ← Rat.add_assoc, Rat.add_comm (rv y)]
  | trans _ _ h1 h2 => exact h1.trans h2
theorem rprod_perm {l m : List (Int × Int)} (p : l.Perm m) : rprod l = rprod m := by
  induction p with
  | nil => rfl
  | cons x _ ih => exact congrArg (rv x * ·) ih
  | swap x y l =>
    show rv y * (rv x * rprod l) = rv x * (rv y * rprod l)
    rw [← Rat.mul_assoc, ← Rat.mul_assoc, Rat.mul_comm (rv y)]
  | trans _ _ h1 h2 => exact h1.trans h2
def AllF (l : List (Int × Int)) : Prop := ∀ f ∈ l, IsF f
theorem AllF.tl {f : Int × Int} {l : List (Int × Int)} (h : AllF (f :: l)) : AllF l := fun g hg => h g (List.mem_cons_of_mem _ hg)
theorem AllF.hd {f : Int × Int} {l : List (Int × Int)} (h : AllF (f :: l)) : IsF f := h f List.mem_cons_self
theorem sum_fold : ∀ (l : List (Int × Int)) (a : Int × Int), IsF a → AllF l → IsF (l.foldl fadd a) ∧ rv (l.foldl fadd a) = rv a + rsum l
  | [], a, ha, _ => ⟨ha, (Rat.add_zero _).symm⟩
  | f :: l, a, ha, h => by
    obtain ⟨h1, h2⟩ := sum_fold l (fadd a f) (fadd_f ha h.hd) h.tl
    refine ⟨h1, ?_⟩
    show rv (l.foldl fadd (fadd a f)) = rv a + (rv f + rsum l)
    rw [h2, rv_add ha h.hd, Rat.add_assoc]
theorem mul_fold : ∀ (l : List (Int × Int)) (a : Int × Int), IsF a → AllF l → IsF (l.foldl fmul a) ∧ rv (l.foldl fmul a) = rv a * rprod l
  | [], a, ha, _ => ⟨ha, (Rat.mul_one _).symm⟩
  | f :: l, a, ha, h => by
    obtain ⟨h1, h2⟩ := mul_fold l (fmul a f) (fmul_f ha h.hd) h.tl
    refine ⟨h1, ?_⟩
    show rv (l.foldl fmul (fmul a f)) = rv a * (rv f * rprod l)
    rw [h2, rv_mul ha h.hd, Rat.mul_assoc]
theorem sub_fold : ∀ (l : List (Int × Int)) (a : Int × Int), IsF a → AllF l → IsF (l.foldl fsub a) ∧ rv (l.foldl fsub a) = rv a - rsum l
  | [], a, ha, _ => ⟨ha, by show rv a = rv a - 0; rw [Rat.sub_eq_add_neg, show -(0 : Rat) = 0 from rfl, Rat.add_zero]⟩
  | f :: l, a, ha, h => by
    obtain ⟨h1, h2⟩ := sub_fold l (fsub a f) (fsub_f ha h.hd) h.tl
    refine ⟨h1, ?_⟩
    show rv (l.foldl fsub (fsub a f)) = rv a - (rv f + rsum l)
    rw [h2, rv_sub ha h.hd, Rat.sub_eq_add_neg, Rat.sub_eq_add_neg, Rat.sub_eq_add_neg, Rat.neg_add, Rat.add_assoc]
/-- one division, where it is one -/
def ddiv (a f : Int × Int) : Int × Int := if f.1 ≠ 0 ∧ a.1 ≠ 0 then fdiv a f else a
theorem ddiv_f {a f : Int × Int} (ha : IsF a) (hf : IsF f) : IsF (ddiv a f) := by
  unfold ddiv
  split
  · exact fdiv_f ha (by rename_i h; exact h.1)
  · exact ha
theorem div_fold0 : ∀ (l : List (Int × Int)) (a : Int × Int), a.1 = 0 → l.foldl ddiv a = a
  | [], _, _ => rfl
  | f :: l, a, h => by
    show l.foldl ddiv (ddiv a f) = a
    have e : ddiv a f = a := if_neg fun z => z.2 h
    rw [e]
    exact div_fold0 l a h
theorem div_fold : ∀ (l : List (Int × Int)) (a : Int × Int), IsF a → AllF l → (∀ f ∈ l, f.1 ≠ 0) → a.1 ≠ 0 → IsF (l.foldl ddiv a) ∧ rv (l.foldl ddiv a) * rprod l = rv a
  | [], a, ha, _, _, _ => ⟨ha, Rat.mul_one _⟩
  | f :: l, a, ha, h, h0, ha0 => by
    have hf0 : f.1 ≠ 0 := h0 f List.mem_cons_self
    have e : ddiv a f = fdiv a f := if_pos ⟨hf0, ha0⟩
    have hq := fdiv_f (g := f) ha hf0
    have rq := rv_div (g := f) ha hf0
    have rf0 : rv f ≠ 0 := fun z => hf0 ((rv_zero h.hd).mp z)
    have hb : rv (fdiv a f) * rv f = rv a := by rw [rq, Rat.mul_assoc, Rat.inv_mul_cancel _ rf0, Rat.mul_one]
    have hq0 : (fdiv a f).1 ≠ 0 := fun z => by
      have := (rv_zero hq).mpr z
      rw [this, Rat.zero_mul] at hb
      exact ha0 ((rv_zero ha).mp hb.symm)
    obtain ⟨h1, h2⟩ := div_fold l (fdiv a f) hq h.tl (fun g hg => h0 g (List.mem_cons_of_mem _ hg)) hq0
    show IsF (l.foldl ddiv (ddiv a f)) ∧ rv (l.foldl ddiv (ddiv a f)) * (rv f * rprod l) = rv a
    rw [e]
    refine ⟨h1, ?_⟩
    rw [Rat.mul_comm (rv f), ← Rat.mul_assoc, h2, hb]
theorem rprod0 : ∀ {l : List (Int × Int)}, AllF l → (rprod l = 0 ↔ ∃ f ∈ l, f.1 = 0)
  | [], _ => ⟨fun e => absurd e (by decide), fun ⟨_, h, _⟩ => nomatch h⟩
  | f :: l, h => by
    show rv f * rprod l = 0 ↔ _
    rw [Rat.mul_eq_zero, rv_zero h.hd, rprod0 h.tl]
    constructor
    · rintro (e | ⟨g, hg, e⟩)
      · exact ⟨f, List.mem_cons_self, e⟩
      · exact ⟨g, List.mem_cons_of_mem _ hg, e⟩
    · rintro ⟨g, hg, e⟩
      rcases List.mem_cons.mp hg with z | z
      · exact Or.inl (z ▸ e)
      · exact Or.inr ⟨g, z, e⟩
/-- told in two orders the same -/
theorem sum_same {l m : List (Int × Int)} (p : l.Perm m) (h : AllF l) : l.foldl fadd f0 = m.foldl fadd f0 := by
  have hm : AllF m := fun f hf => h f (p.mem_iff.mpr hf)
  obtain ⟨a1, a2⟩ := sum_fold l f0 f0_f h
  obtain ⟨b1, b2⟩ := sum_fold m f0 f0_f hm
  exact rv_inj a1 b1 (by rw [a2, b2, rsum_perm p])
theorem mul_same {l m : List (Int × Int)} (p : l.Perm m) (h : AllF l) : l.foldl fmul f1 = m.foldl fmul f1 := by
  have hm : AllF m := fun f hf => h f (p.mem_iff.mpr hf)
  obtain ⟨a1, a2⟩ := mul_fold l f1 f1_f h
  obtain ⟨b1, b2⟩ := mul_fold m f1 f1_f hm
  exact rv_inj a1 b1 (by rw [a2, b2, rprod_perm p])
theorem sub_none {l m : List (Int × Int)} (p : l.Perm m) (h : AllF l) : m.foldl fsub (l.foldl fadd f0) = f0 := by
  have hm : AllF m := fun f hf => h f (p.mem_iff.mpr hf)
  obtain ⟨a1, a2⟩ := sum_fold l f0 f0_f h
  obtain ⟨b1, b2⟩ := sub_fold m _ a1 hm
  exact rv_inj b1 f0_f (by rw [b2, a2, rv0, Rat.zero_add, rsum_perm p, Rat.sub_self])
theorem div_none {l m : List (Int × Int)} (p : l.Perm m) (h : AllF l) : m.foldl ddiv (l.foldl fmul f1) = if f0 ∈ l then f0 else f1 := by
  have hm : AllF m := fun f hf => h f (p.mem_iff.mpr hf)
  obtain ⟨a1, a2⟩ := mul_fold l f1 f1_f h
  rw [rv1, Rat.one_mul] at a2
  by_cases hz : f0 ∈ l
  · rw [if_pos hz]
    have z : rprod l = 0 := (rprod0 h).mpr ⟨f0, hz, rfl⟩
    have z1 : (l.foldl fmul f1).1 = 0 := (rv_zero a1).mp (a2.trans z)
    rw [div_fold0 _ _ z1]
    exact (is0 a1).mp z1
  · rw [if_neg hz]
    have nz : ∀ f ∈ l, f.1 ≠ 0 := fun f hf e => hz ((is0 (h f hf)).mp e ▸ hf)
    have np : rprod l ≠ 0 := fun e => by
      obtain ⟨f, hf, e'⟩ := (rprod0 h).mp e
      exact nz f hf e'
    have n1 : (l.foldl fmul f1).1 ≠ 0 := fun e => np (a2.symm.trans ((rv_zero a1).mpr e))
    obtain ⟨b1, b2⟩ := div_fold m _ a1 hm (fun f hf => nz f (p.mem_iff.mpr hf)) n1
    refine rv_inj b1 f1_f ?_
    rw [a2, rprod_perm p] at b2
    have np' : rprod m ≠ 0 := by rw [← rprod_perm p]; exact np
    have : rv (m.foldl ddiv (l.foldl fmul f1)) * rprod m * (rprod m)⁻¹ = rprod m * (rprod m)⁻¹ := by rw [b2]
    rw [Rat.mul_assoc, Rat.mul_inv_cancel _ np', Rat.mul_one] at this
    rw [this, rv1]
/-- one fraction times a sum is the sum of its products -/
theorem spread_fold (x : Int × Int) (hx : IsF x) : ∀ (l : List (Int × Int)) (a : Int × Int), IsF a → AllF l → IsF (l.foldl (fun a f => fadd a (fmul x f)) a) ∧ rv (l.foldl (fun a f => fadd a (fmul x f)) a) = rv a + rv x * rsum l
  | [], a, ha, _ => ⟨ha, by show rv a = rv a + rv x * 0; rw [Rat.mul_zero, Rat.add_zero]⟩
  | f :: l, a, ha, h => by
    obtain ⟨h1, h2⟩ := spread_fold x hx l (fadd a (fmul x f)) (fadd_f ha (fmul_f hx h.hd)) h.tl
    refine ⟨h1, ?_⟩
    show rv (l.foldl (fun a f => fadd a (fmul x f)) (fadd a (fmul x f))) = rv a + rv x * (rv f + rsum l)
    rw [h2, rv_add ha (fmul_f hx h.hd), rv_mul hx h.hd, Rat.mul_add, Rat.add_assoc]
theorem spread_same {x : Int × Int} {l : List (Int × Int)} (hx : IsF x) (h : AllF l) : l.foldl (fun a f => fadd a (fmul x f)) f0 = fmul (fmul f1 x) (l.foldl fadd f0) := by
  obtain ⟨a1, a2⟩ := spread_fold x hx l f0 f0_f h
  obtain ⟨b1, b2⟩ := sum_fold l f0 f0_f h
  have c := fmul_f f1_f hx
  refine rv_inj a1 (fmul_f c b1) ?_
  rw [a2, rv_mul c b1, rv_mul f1_f hx, b2, rv0, rv1, Rat.one_mul, Rat.zero_add, Rat.zero_add]
/-! sizes -/
def Bt (k : Nat) (f : Int × Int) : Prop := f.1.natAbs < 2 ^ k ∧ f.2.natAbs < 2 ^ k
theorem Bt.mono {j k : Nat} {f : Int × Int} (h : Bt j f) (hk : j ≤ k) : Bt k f :=
  ⟨Nat.lt_of_lt_of_le h.1 (Nat.pow_le_pow_right (by decide) hk), Nat.lt_of_lt_of_le h.2 (Nat.pow_le_pow_right (by decide) hk)⟩
theorem mul_lt {a b : Int} {j k : Nat} (ha : a.natAbs < 2 ^ j) (hb : b.natAbs < 2 ^ k) : (a * b).natAbs < 2 ^ (j + k) := by
  rw [Int.natAbs_mul, Nat.pow_add]
  exact Nat.mul_lt_mul'' ha hb
theorem low_bt {n d : Int} {k : Nat} (h : d ≠ 0) (hn : n.natAbs < 2 ^ k) (hd : d.natAbs < 2 ^ k) : Bt k (low n d) :=
  ⟨Nat.lt_of_le_of_lt (low_top_le h) hn, Nat.lt_of_le_of_lt (low_bottom_le h) hd⟩
section
variable {f g : Int × Int} {j k : Nat}
theorem fadd_bt (hf : IsF f) (hg : IsF g) (a : Bt k f) (b : Bt j g) : Bt (k + j + 1) (fadd f g) := by
  have h1 := mul_lt a.1 b.2
  have h2 := mul_lt a.2 b.1
  have h3 := mul_lt a.2 b.2
  have h4 := Int.natAbs_add_le (f.1 * g.2) (g.1 * f.2)
  rw [Int.mul_comm g.1] at h4
  have h5 : (2 : Nat) ^ (k + j + 1) = 2 ^ (k + j) + 2 ^ (k + j) := Nat.two_pow_succ _
  refine low_bt (Int.mul_ne_zero hf.ne hg.ne) ?_ (by omega)
  rw [Int.mul_comm g.1]
  omega
theorem fsub_bt (hf : IsF f) (hg : IsF g) (a : Bt k f) (b : Bt j g) : Bt (k + j + 1) (fsub f g) := by
  have h1 := mul_lt a.1 b.2
  have h2 := mul_lt a.2 b.1
  have h3 := mul_lt a.2 b.2
  have h4 := Int.natAbs_sub_le (f.1 * g.2) (g.1 * f.2)
  rw [Int.mul_comm g.1] at h4
  have h5 : (2 : Nat) ^ (k + j + 1) = 2 ^ (k + j) + 2 ^ (k + j) := Nat.two_pow_succ _
  refine low_bt (Int.mul_ne_zero hf.ne hg.ne) ?_ (by omega)
  rw [Int.mul_comm g.1]
  omega
theorem fmul_bt (hf : IsF f) (hg : IsF g) (a : Bt k f) (b : Bt j g) : Bt (k + j) (fmul f g) :=
  low_bt (Int.mul_ne_zero hf.ne hg.ne) (mul_lt a.1 b.1) (mul_lt a.2 b.2)
theorem fdiv_bt (hf : IsF f) (h0 : g.1 ≠ 0) (a : Bt k f) (b : Bt j g) : Bt (k + j) (fdiv f g) :=
  low_bt (Int.mul_ne_zero hf.ne h0) (mul_lt a.1 b.2) (mul_lt a.2 b.1)
theorem ddiv_bt (hf : IsF f) (a : Bt k f) (b : Bt j g) : Bt (k + j) (ddiv f g) := by
  unfold ddiv
  split
  · rename_i h
    exact fdiv_bt hf h.1 a b
  · exact a.mono (Nat.le_add_right _ _)
end
end Lf

set_option Elab.async false
set_option linter.all false
set_option maxRecDepth 100000
set_option maxHeartbeats 4000000
set_option exponentiation.threshold 3000
/-! Fractions that stand in the heap or among the module's constants, and rows of them. -/
namespace Lf
open PySem PySem.Spec PyProof.Rows L2
/-- a fraction stands at v -/
def AtK (K : PySem.W.Frag) (H : Hp) (v : V) (f : Int × Int) : Prop := ∃ p, v = .ref p ∧ SqT K H p [.int f.1, .int f.2]
theorem AtK.same {K : PySem.W.Frag} {H H' : Hp} {v : V} {f : Int × Int} (s : Same H H') (h : AtK K H v f) : AtK K H' v f := by
  obtain ⟨p, e, h⟩ := h
  refine ⟨p, e, ?_⟩
  rcases h with (h | ⟨o, h⟩) | h
  · exact .inl (.inl (s _ _ h))
  · exact .inl (.inr ⟨o, s _ _ h⟩)
  · exact .inr h
theorem AtK.of {K : PySem.W.Frag} {H : Hp} {p : Addr} {f : Int × Int} (h : H p = some (.tup [.int f.1, .int f.2])) : AtK K H (.ref p) f := ⟨p, rfl, .inl (.inl h)⟩
/-- fractions stand at vs -/
def AtKs (K : PySem.W.Frag) (H : Hp) (vs : List V) (fs : List (Int × Int)) : Prop := Paired (AtK K H) vs fs
theorem AtKs.map {K : PySem.W.Frag} {H H' : Hp} (s : ∀ v f, AtK K H v f → AtK K H' v f) : ∀ {vs : List V} {fs : List (Int × Int)}, AtKs K H vs fs → AtKs K H' vs fs
  | _, _, .nil => .nil
  | _, _, .cons a r => .cons (s _ _ a) (AtKs.map s r)
theorem AtKs.same {K : PySem.W.Frag} {H H' : Hp} (s : Same H H') {vs : List V} {fs : List (Int × Int)} (h : AtKs K H vs fs) : AtKs K H' vs fs := h.map fun _ _ => AtK.same s
theorem AtKs.get {K : PySem.W.Frag} {H : Hp} : ∀ {vs : List V} {fs : List (Int × Int)} {i : Nat} {v : V}, AtKs K H vs fs → vs[i]? = some v → ∃ f, fs[i]? = some f ∧ AtK K H v f
  | _, _, _, _, .nil, e => by simp at e
  | _, _, 0, _, .cons a _, e => by
    simp at e
    subst e
    exact ⟨_, rfl, a⟩
  | _, _, i + 1, v, .cons _ r, e => by
    obtain ⟨f, h1, h2⟩ := AtKs.get (i := i) (v := v) r (by simpa using e)
    exact ⟨f, by simpa using h1, h2⟩
theorem AtKs.getF {K : PySem.W.Frag} {H : Hp} : ∀ {vs : List V} {fs : List (Int × Int)} {i : Nat} {f : Int × Int}, AtKs K H vs fs → fs[i]? = some f → ∃ v, vs[i]? = some v ∧ AtK K H v f
  | _, _, _, _, .nil, e => by simp at e
  | _, _, 0, _, .cons a _, e => by
    simp at e
    subst e
    exact ⟨_, rfl, a⟩
  | _, _, i + 1, f, .cons _ r, e => by
    obtain ⟨v, h1, h2⟩ := AtKs.getF (i := i) (f := f) r (by simpa using e)
    exact ⟨v, by simpa using h1, h2⟩
theorem AtKs.length {K : PySem.W.Frag} {H : Hp} {vs : List V} {fs : List (Int × Int)} (h : AtKs K H vs fs) : vs.length = fs.length := Paired.length h
theorem AtKs.app {K : PySem.W.Frag} {H : Hp} : ∀ {vs us : List V} {fs gs : List (Int × Int)}, AtKs K H vs fs → AtKs K H us gs → AtKs K H (vs ++ us) (fs ++ gs)
  | _, _, _, _, .nil, h => h
  | _, _, _, _, .cons a r, h => .cons a (AtKs.app r h)
theorem fold_take {α β : Type} (g : β → α → β) (a : β) {l : List α} {i : Nat} {x : α} (h : l[i]? = some x) : (l.take (i + 1)).foldl g a = g ((l.take i).foldl g a) x := by
  rw [List.take_add_one, h, List.foldl_append]
  rfl
theorem take_all {l : List (Int × Int)} (h : AllF l) (i : Nat) : AllF (l.take i) := fun f hf => h f (List.mem_of_mem_take hf)
def AllB (b : Nat) (l : List (Int × Int)) : Prop := ∀ f ∈ l, Bt b f
theorem add_bt {b : Nat} : ∀ (l : List (Int × Int)) (k : Nat) (a : Int × Int), IsF a → AllF l → Bt k a → AllB b l → Bt (k + (b + 1) * l.length) (l.foldl fadd a)
  | [], _, _, _, _, h, _ => h
  | f :: l, k, a, ha, h, hk, hb => by
    have := add_bt l (k + b + 1) (fadd a f) (fadd_f ha h.hd) h.tl (fadd_bt ha h.hd hk (hb f List.mem_cons_self)) (fun g hg => hb g (List.mem_cons_of_mem _ hg))
    refine this.mono ?_
    rw [List.length_cons, Nat.mul_succ]
    omega
theorem bt01 : Bt 1 f0 ∧ Bt 1 f1 := ⟨⟨by decide, by decide⟩, ⟨by decide, by decide⟩⟩
theorem fadd_0 {f : Int × Int} (h : IsF f) : fadd f0 f = f := by
  refine rv_inj (fadd_f f0_f h) h ?_
  rw [rv_add f0_f h, rv0]
  exact Rat.zero_add _
/-- what holds by two promises holds by either -/
theorem FnG.or {P : Program} {w : World} {K : PySem.W.Frag} {mg : Str → Option Value} {base : Heap} {CX : CXT} {k : Nat} {f : Addr} {fd : FuncData} {ps : List Str} {sp sq : Sp} (F : FnG P w K mg base CX k f fd ps sp) (G : FnG P w K mg base CX k f fd ps sq) :
    FnG P w K mg base CX k f fd ps (fun vs H Q E => sp vs H Q E ∨ sq vs H Q E) :=
  ⟨fun vs H Q E h => h.elim (F.size vs H Q E) (G.size vs H Q E), fun B out s H ar us vs Q E r hg e0 hb hv h => h.elim (F.goes B out s H ar us vs Q E r hg e0 hb hv) (G.goes B out s H ar us vs Q E r hg e0 hb hv)⟩
end Lf

set_option Elab.async false
set_option linter.all false
set_option maxRecDepth 100000
set_option maxHeartbeats 4000000
set_option exponentiation.threshold 3000
/-! repr of data with dicts at any depth: of what stands for d in a heap, and what repr tells of it. -/
namespace Lf
open PySem PySem.Spec PyProof.Rows L2
section
variable {P : Program} {w : World} {h : Heap}
/-- a row's texts can be told, none of them within one of the row's own objects -/
def RowSays (P : Program) (w : World) (h : Heap) (us : List Value) (ds : List PyData) : Prop :=
  PyData.showableAll ds = true → (∀ t ∈ PyData.shownAll ds, t.length ≤ sizeLine) → ∃ bs, ReadAtMost h (PyData.depthAll ds) bs ∧ ReprAllK P w bs h (PyData.depthAll ds) us (PyData.shownAll ds)
structure Row (P : Program) (w : World) (h : Heap) (us : List Value) (ds : List PyData) : Prop where
  rd : ∃ as, ReadsAll h us ds as
  say : RowSays P w h us ds
/-- u stands for d: it is read so, told so within another one, and, where it is an object, by its type's own repr -/
structure One (P : Program) (w : World) (h : Heap) (u : Value) (d : PyData) : Prop where
  rd : ∃ as, Reads h u d as
  say : d.showable = true → d.shown.length ≤ sizeLine → ∃ bs, ReadAtMost h d.depth bs ∧ ReprK P w bs h d.depth u d.shown
  top : d.showable = true → d.shown.length ≤ sizeLine → ∀ a, u = .ref a → ∃ T idr, ShowsBy P w h a d T idr
theorem One.plain {u : Value} {d : PyData} {as : List Addr} (r : Reads h u d as) (n : d.hasDict = false) : One P w h u d :=
  ⟨⟨as, r⟩, fun a b => ReprK.of_reads r a (PyData.noDict_hsm n) b, fun a b c e => showsBy_of_reads (e ▸ r) a (PyData.noDict_hsm n) b⟩
theorem Row.nil : Row P w h [] [] := ⟨⟨[], .nil⟩, fun _ _ => ⟨[], fun b hb => absurd hb List.not_mem_nil, by unfold PyData.shownAll; exact .nil⟩⟩
theorem Row.cons {u : Value} {us : List Value} {d : PyData} {ds : List PyData} (a : One P w h u d) (r : Row P w h us ds) : Row P w h (u :: us) (d :: ds) where
  rd := a.rd.elim fun _ ra => r.rd.elim fun _ rr => ⟨_, .cons ra rr⟩
  say := fun hs hz => by
    unfold PyData.showableAll at hs
    unfold PyData.shownAll at hz
    have both := Bool.and_eq_true_iff.mp hs
    obtain ⟨b1, m1, k1⟩ := a.say both.1 (hz d.shown (List.Mem.head _))
    obtain ⟨b2, m2, k2⟩ := r.say both.2 fun t ht => hz t (List.Mem.tail _ ht)
    have e : PyData.depthAll (d :: ds) = max d.depth (PyData.depthAll ds) := by rw [PyData.depthAll]
    refine ⟨b1 ++ b2, ?_, ?_⟩
    · rw [e]
      exact (m1.mono (Nat.le_max_left ..)).append (m2.mono (Nat.le_max_right ..))
    · rw [e]
      unfold PyData.shownAll
      refine .cons (ReprK.level_le (k1.more fun b hb => List.mem_append.mpr (.inl hb)) (Nat.le_max_left ..)) ?_
      exact ReprAllK.more_le (fun b hb => List.mem_append.mpr (.inr hb)) (Nat.le_max_right ..) k2
section
variable {a : Addr} {o : Obj} {n : Nat} {us : List Value} {ds : List PyData} {kvs : List (PyData × PyData)} {es : Array DictEntry}
/-- what a list's and a tuple's parts have to be -/
theorem parts_fit {f : List Str → Str} (hf : ∀ ts t, t ∈ ts → t.length ≤ (f ts).length) (hz : (f (PyData.shownAll ds)).length ≤ sizeLine) : ∀ t ∈ PyData.shownAll ds, t.length ≤ sizeLine := fun t ht => Nat.le_trans (hf _ _ ht) hz
theorem One.lst (ho : h.get? a = some o) (hc : o.cls = .type "list") (hd : o.data = .seq us.toArray n) (r : Row P w h us ds) : One P w h (.ref a) (.list ds) := by
  obtain ⟨as, ra⟩ := r.rd
  have ro : Reads h (.ref a) (.list ds) (a :: as) := .list ho hc hd ra
  have e1 : PyData.depth (.list ds) = PyData.depthAll ds + 1 := by unfold PyData.depth; rfl
  have e2 : PyData.shown (.list ds) = listText (PyData.shownAll ds) := by unfold PyData.shown; rfl
  have e3 : PyData.showable (.list ds) = PyData.showableAll ds := by unfold PyData.showable; rfl
  have in_ : PyData.showable (.list ds) = true → (PyData.shown (.list ds)).length ≤ sizeLine → ∃ bs, ReadAtMost h (PyData.depthAll ds) bs ∧ ReprAllK P w bs h (PyData.depthAll ds) us (PyData.shownAll ds) := fun hs hz => by
    rw [e3] at hs
    rw [e2] at hz
    exact r.say hs (parts_fit (fun _ _ => listText_mem_le) hz)
  have out : ∀ bs, ReadAtMost h (PyData.depthAll ds) bs → a ∉ bs := fun bs hb => not_mem_of_deeper ro (by rw [e1]; exact Nat.lt_succ_self _) hb
  cases us with
  | nil =>
    have e4 : ds = [] := by cases ra; rfl
    subst e4
    have e5 : PyData.hasDict (.list []) = false := by unfold PyData.hasDict PyData.hasDictAll; rfl
    exact One.plain ro e5
  | cons u us =>
    refine ⟨⟨_, ro⟩, fun hs hz => ?_, fun hs hz c ec => ?_⟩
    · obtain ⟨bs, hb, hk⟩ := in_ hs hz
      refine ⟨a :: bs, ReadAtMost.cons ro (by rw [e1]; exact Nat.le_succ _) hb, ?_⟩
      rw [e1, e2]
      exact ReprK.list ho hc hd (out bs hb) (by rw [List.size_toArray]; exact hk.length_eq) fun i y q => hk.item i y (by rw [List.getElem?_toArray] at q; exact q)
    · cases ec
      obtain ⟨bs, hb, hk⟩ := in_ hs hz
      rw [e2] at hz
      refine ⟨"list", "list.__repr__", ⟨F.slot_list_repr.toG, F.slot_list_str, F.slot_list_format, fun s k0 => ⟨o, k0 _ _ ho, hc⟩, fun A E s Q hg hu k0 q => ?_⟩⟩
      rw [e1] at hu
      rw [e2] at q
      exact call_list_reprK ho hc hd (out bs hb) (by rw [List.size_toArray]; exact hk.length_eq) (fun i y q => hk.item i y (by rw [List.getElem?_toArray] at q; exact q)) hg (fun b _ => Clear.nil b) hu k0 q hz
theorem One.tup (ho : h.get? a = some o) (hc : o.cls = .type "tuple") (hd : o.data = .seq us.toArray n) (r : Row P w h us ds) : One P w h (.ref a) (.tuple ds) := by
  obtain ⟨as, ra⟩ := r.rd
  have ro : Reads h (.ref a) (.tuple ds) as := .tuple ho hc hd ra
  have e1 : PyData.depth (.tuple ds) = PyData.depthAll ds + 1 := by unfold PyData.depth; rfl
  have e2 : PyData.shown (.tuple ds) = tupleText (PyData.shownAll ds) := by unfold PyData.shown; rfl
  have e3 : PyData.showable (.tuple ds) = PyData.showableAll ds := by unfold PyData.showable; rfl
  have in_ : PyData.showable (.tuple ds) = true → (PyData.shown (.tuple ds)).length ≤ sizeLine → ∃ bs, a ∉ bs ∧ ReadAtMost h (PyData.depthAll ds) bs ∧ ReprAllK P w bs h (PyData.depthAll ds) us (PyData.shownAll ds) := fun hs hz => by
    rw [e3] at hs
    rw [e2] at hz
    obtain ⟨bs, hb, hk⟩ := r.say hs (parts_fit (fun _ _ => tupleText_mem_le) hz)
    exact ⟨bs, not_mem_of_deeper ro (by rw [e1]; exact Nat.lt_succ_self _) hb, hb, hk⟩
  refine ⟨⟨_, ro⟩, fun hs hz => ?_, fun hs hz c ec => ?_⟩
  · obtain ⟨bs, na, hb, hk⟩ := in_ hs hz
    refine ⟨a :: bs, ReadAtMost.cons ro (by rw [e1]; exact Nat.le_succ _) hb, ?_⟩
    rw [e1, e2]
    exact ReprK.tuple ho hc hd na hk
  · cases ec
    obtain ⟨bs, na, hb, hk⟩ := in_ hs hz
    rw [e2] at hz
    refine ⟨"tuple", "tuple.__repr__", ⟨F.slot_tuple_repr, F.slot_tuple_str, F.slot_tuple_format, fun s k0 => ⟨o, k0 _ _ ho, hc⟩, fun A E s Q hg hu k0 q => ?_⟩⟩
    rw [e1] at hu
    rw [e2] at q
    exact call_tuple_reprK ho hc hd na hk hg (fun b _ => Clear.nil b) hu k0 q hz
theorem One.dic (ho : h.get? a = some o) (hc : o.cls = .type "dict") (hd : o.data = .dict es n) (sys : (a == sysModules) = false) (rk : Row P w h (es.toList.map (·.key)) (kvs.map (·.1))) (rv : Row P w h (es.toList.map (·.val)) (kvs.map (·.2))) : One P w h (.ref a) (.dict kvs) := by
  obtain ⟨as, ra⟩ := rk.rd
  obtain ⟨cs, rc⟩ := rv.rd
  have ro : Reads h (.ref a) (.dict kvs) (a :: as ++ cs) := .dict ho hc hd ra rc
  have e1 : PyData.depth (.dict kvs) = PyData.depthKv kvs + 1 := by unfold PyData.depth; rfl
  have e2 : PyData.shown (.dict kvs) = dictText (PyData.shownKv kvs) := by unfold PyData.shown; rfl
  have e3 : PyData.showable (.dict kvs) = PyData.showableKv kvs := by unfold PyData.showable; rfl
  have in_ : PyData.showable (.dict kvs) = true → (PyData.shown (.dict kvs)).length ≤ sizeLine → ∃ bs, a ∉ bs ∧ ReadAtMost h (PyData.depthKv kvs) bs ∧ ReprEntriesK P w bs h (PyData.depthKv kvs) es.toList (PyData.shownKv kvs) := fun hs hz => by
    rw [e3] at hs
    rw [e2] at hz
    have two := PyData.showableKv_split kvs hs
    have fits : ∀ t p : Str, p ∈ PyData.shownKv kvs → t.length ≤ p.length → t.length ≤ sizeLine := fun t p hp hl => Nat.le_trans hl (Nat.le_trans (dictText_mem_le hp) hz)
    obtain ⟨b1, m1, k1⟩ := rk.say two.1 fun t ht => by
      obtain ⟨p, hp, hl⟩ := PyData.shownKv_key_le kvs t ht
      exact fits t p hp hl
    obtain ⟨b2, m2, k2⟩ := rv.say two.2 fun t ht => by
      obtain ⟨p, hp, hl⟩ := PyData.shownKv_val_le kvs t ht
      exact fits t p hp hl
    have hb := (m1.mono (PyData.depthAll_keys_le kvs)).append (m2.mono (PyData.depthAll_vals_le kvs))
    refine ⟨b1 ++ b2, not_mem_of_deeper ro (by rw [e1]; exact Nat.lt_succ_self _) hb, hb, ?_⟩
    rw [PyData.shownKv_eq]
    refine ReprEntriesK.of_two _ _ _ (ReprAllK.more_le ?_ (PyData.depthAll_keys_le kvs) k1) (ReprAllK.more_le ?_ (PyData.depthAll_vals_le kvs) k2)
    · exact fun b hb => List.mem_append.mpr (.inl hb)
    · exact fun b hb => List.mem_append.mpr (.inr hb)
  refine ⟨⟨_, ro⟩, fun hs hz => ?_, fun hs hz c ec => ?_⟩
  · obtain ⟨bs, na, hb, hk⟩ := in_ hs hz
    refine ⟨a :: bs, ReadAtMost.cons ro (by rw [e1]; exact Nat.le_succ _) hb, ?_⟩
    rw [e1, e2]
    exact ReprK.dict ho hc hd sys na hk
  · cases ec
    obtain ⟨bs, na, hb, hk⟩ := in_ hs hz
    rw [e2] at hz
    refine ⟨"dict", "dict.__repr__", ⟨F.slot_dict_repr, F.slot_dict_str, F.slot_dict_format, fun s k0 => ⟨o, k0 _ _ ho, hc⟩, fun A E s Q hg hu k0 q => ?_⟩⟩
    rw [e1] at hu
    rw [e2] at q
    exact call_dict_reprK ho hc hd sys na hk hg (fun b _ => Clear.nil b) hu k0 q hz
end
end
/-! ### data of the abstract heap, dicts among them -/
mutual
inductive Dg (K : PySem.W.Frag) (H : Hp) : V → PyData → Prop
  | non : Dg K H .non .none
  | bl (b : Bool) : Dg K H (.bl b) (.bool b)
  | int (i : Int) : Dg K H (.int i) (.int i)
  | str (x : Str) : Dg K H (.str x) (.str x)
  | lst {a : Addr} {xs : List V} {ds : List PyData} : SqL K H a xs → DgAll K H xs ds → Dg K H (.ref a) (.list ds)
  | tup {a : Addr} {xs : List V} {ds : List PyData} : SqT K H a xs → DgAll K H xs ds → Dg K H (.ref a) (.tuple ds)
  | dk {a : Addr} {kvs : List (Key × V)} {ds : List (PyData × PyData)} : H a = some (.dK kvs) → DgKv K H kvs ds → Dg K H (.ref a) (.dict ds)
  | dt {a : Addr} {kvs : List (List Key × V)} {ds : List (PyData × PyData)} : H a = some (.dT kvs) → DgKt K H kvs ds → Dg K H (.ref a) (.dict ds)
inductive DgAll (K : PySem.W.Frag) (H : Hp) : List V → List PyData → Prop
  | nil : DgAll K H [] []
  | cons {v : V} {vs : List V} {d : PyData} {ds : List PyData} : Dg K H v d → DgAll K H vs ds → DgAll K H (v :: vs) (d :: ds)
inductive DgKv (K : PySem.W.Frag) (H : Hp) : List (Key × V) → List (PyData × PyData) → Prop
  | nil : DgKv K H [] []
  | cons {k : Key} {v : V} {vs : List (Key × V)} {d : PyData} {ds : List (PyData × PyData)} : Dg K H v d → DgKv K H vs ds → DgKv K H ((k, v) :: vs) ((kD k, d) :: ds)
inductive DgKt (K : PySem.W.Frag) (H : Hp) : List (List Key × V) → List (PyData × PyData) → Prop
  | nil : DgKt K H [] []
  | cons {k : List Key} {v : V} {vs : List (List Key × V)} {d : PyData} {ds : List (PyData × PyData)} : Dg K H v d → DgKt K H vs ds → DgKt K H ((k, v) :: vs) ((.tuple (k.map kD), d) :: ds)
end
mutual
theorem Dg.of {K : PySem.W.Frag} {H : Hp} : ∀ {d : PyData} {v : V}, Dp K H v d → Dg K H v d
  | _, _, .non => .non
  | _, _, .bl b => .bl b
  | _, _, .int i => .int i
  | _, _, .str x => .str x
  | _, _, .lst h r => .lst h (DgAll.of r)
  | _, _, .tup h r => .tup h (DgAll.of r)
theorem DgAll.of {K : PySem.W.Frag} {H : Hp} : ∀ {ds : List PyData} {vs : List V}, DpAll K H vs ds → DgAll K H vs ds
  | _, _, .nil => .nil
  | _, _, .cons a r => .cons (Dg.of a) (DgAll.of r)
end
theorem sqT_same {K : PySem.W.Frag} {H H' : Hp} (s : Same H H') {a : Addr} {xs : List V} (h : SqT K H a xs) : SqT K H' a xs := by
  rcases h with (h | ⟨o, h⟩) | h
  · exact .inl (.inl (s _ _ h))
  · exact .inl (.inr ⟨o, s _ _ h⟩)
  · exact .inr h
mutual
theorem Dg.same {K : PySem.W.Frag} {H H' : Hp} (s : Same H H') : ∀ {d : PyData} {v : V}, Dg K H v d → Dg K H' v d
  | _, _, .non => .non
  | _, _, .bl b => .bl b
  | _, _, .int i => .int i
  | _, _, .str x => .str x
  | _, _, .lst h r => .lst (s.seq h) (DgAll.same s r)
  | _, _, .tup h r => .tup (sqT_same s h) (DgAll.same s r)
  | _, _, .dk h r => .dk (s _ _ h) (DgKv.same s r)
  | _, _, .dt h r => .dt (s _ _ h) (DgKt.same s r)
theorem DgAll.same {K : PySem.W.Frag} {H H' : Hp} (s : Same H H') : ∀ {ds : List PyData} {vs : List V}, DgAll K H vs ds → DgAll K H' vs ds
  | _, _, .nil => .nil
  | _, _, .cons a r => .cons (Dg.same s a) (DgAll.same s r)
theorem DgKv.same {K : PySem.W.Frag} {H H' : Hp} (s : Same H H') : ∀ {ds : List (PyData × PyData)} {vs : List (Key × V)}, DgKv K H vs ds → DgKv K H' vs ds
  | _, _, .nil => .nil
  | _, _, .cons a r => .cons (Dg.same s a) (DgKv.same s r)
theorem DgKt.same {K : PySem.W.Frag} {H H' : Hp} (s : Same H H') : ∀ {ds : List (PyData × PyData)} {vs : List (List Key × V)}, DgKt K H vs ds → DgKt K H' vs ds
  | _, _, .nil => .nil
  | _, _, .cons a r => .cons (Dg.same s a) (DgKt.same s r)
end
section
variable {X : Cx} {pins : List (Addr × Obj)} {σ : L2.St} {H : Hp} {s : Shared}
theorem key_one {P : Program} {w : World} {h : Heap} {k : Key} {u : Value} (hk : keyIs k u = true) : One P w h u (kD k) := by
  rcases keyIs_shape hk with ⟨i, t, e1, e2⟩ | ⟨x, t, e1, e2⟩
  · rw [e1, e2]
    exact .plain (.int i t) (by unfold kD PyData.hasDict; rfl)
  · rw [e1, e2]
    exact .plain (.str x t) (by unfold kD PyData.hasDict; rfl)
theorem key_row {P : Program} {w : World} {h : Heap} : ∀ (ks : List Key) (us : List Value), Vals (ks.map kV) us → Row P w h us (ks.map kD)
  | [], _, r => by
    cases r
    exact .nil
  | .inl i :: ks, _, r => by
    cases r with
    | cons r1 r2 =>
      obtain ⟨t, rfl⟩ := r1
      exact .cons (.plain (.int i t) (by unfold kD PyData.hasDict; rfl)) (key_row ks _ r2)
  | .inr x :: ks, _, r => by
    cases r with
    | cons r1 r2 =>
      obtain ⟨t, rfl⟩ := r1
      exact .cons (.plain (.str x t) (by unfold kD PyData.hasDict; rfl)) (key_row ks _ r2)
mutual
theorem Dg.one (I : Inv X pins σ H s) : ∀ {d : PyData} {v : V} {u : Value}, Dg X.K H v d → RelV v u → One X.prog X.w s.heap u d
  | _, _, _, .non, r => by cases r; exact .plain .none (by unfold PyData.hasDict; rfl)
  | _, _, _, .bl b, r => by cases r; exact .plain (.bool b) (by unfold PyData.hasDict; rfl)
  | _, _, _, .int i, r => by obtain ⟨t, rfl⟩ := r; exact .plain (.int i t) (by unfold PyData.hasDict; rfl)
  | _, _, _, .str x, r => by obtain ⟨t, rfl⟩ := r; exact .plain (.str x t) (by unfold PyData.hasDict; rfl)
  | _, _, _, .lst h q, r => by
    cases r
    obtain ⟨its, rv, ⟨o, n, ho, hc, _, hd⟩, _⟩ := I.list h
    exact .lst ho hc hd (DgAll.row I q rv)
  | _, _, _, .tup h q, r => by
    cases r
    obtain ⟨its, rv, ⟨o, ho, hc, n, hd⟩, _⟩ := I.tuple h
    exact .tup ho hc hd (DgAll.row I q rv)
  | _, _, _, .dk (a := a) (kvs := kvs) h q, r => by
    cases r
    obtain ⟨_, sys, vs, kv, o, es, ep, h1, h2, h3, h4, h5, h6⟩ := (show ObjOk X.prog X.w H s.heap a (.dK kvs) from I.hok a _ h)
    obtain ⟨i1, i2⟩ := DgKv.rows I h5 kv q
    exact .dic h1 h2.1 h3 sys i1 i2
  | _, _, _, .dt (a := a) (kvs := kvs) h q, r => by
    cases r
    obtain ⟨_, sys, xs, hp, o, es, ep, h1, h2, h3, h4, h5⟩ := (show ObjOk X.prog X.w H s.heap a (.dT kvs) from I.hok a _ h)
    obtain ⟨i1, i2⟩ := DgKt.rows I q hp
    refine .dic h1 h2.1 h3 sys ?_ ?_
    · rw [h4, List.map_map]
      exact i1
    · rw [h4, List.map_map]
      exact i2
theorem DgAll.row (I : Inv X pins σ H s) : ∀ {ds : List PyData} {vs : List V} {us : List Value}, DgAll X.K H vs ds → Vals vs us → Row X.prog X.w s.heap us ds
  | _, _, _, .nil, r => by cases r; exact .nil
  | _, _, _, .cons a q, r => by
    cases r with
    | cons r1 r2 => exact .cons (Dg.one I a r1) (DgAll.row I q r2)
theorem DgKv.rows (I : Inv X pins σ H s) : ∀ {ds : List (PyData × PyData)} {kvs : List (Key × V)} {es : List DictEntry} {vs : List (Key × Value)}, Pairs (mixKind X.prog X.w) es vs → KV kvs vs → DgKv X.K H kvs ds →
    Row X.prog X.w s.heap (es.map (·.key)) (ds.map (·.1)) ∧ Row X.prog X.w s.heap (es.map (·.val)) (ds.map (·.2))
  | _, _, _, _, p, kv, .nil => by
    cases kv
    cases p
    exact ⟨.nil, .nil⟩
  | _, _, _, _, p, kv, .cons a q => by
    cases kv with
    | cons z kv =>
      cases p with
      | cons hk hv p =>
        obtain ⟨i1, i2⟩ := DgKv.rows I p kv q
        obtain ⟨z1, z2⟩ := z
        refine ⟨.cons ?_ i1, .cons ?_ i2⟩
        · simp only at z1
          rw [z1]
          exact key_one hk
        · show One _ _ _ (DictEntry.val _) _
          rw [hv]
          exact Dg.one I a z2
theorem DgKt.rows (I : Inv X pins σ H s) : ∀ {ds : List (PyData × PyData)} {kvs : List (List Key × V)} {xs : List (List Key × Addr × Value)}, DgKt X.K H kvs ds → Paired (fun (p : List Key × V) (q : List Key × Addr × Value) => p.1 = q.1 ∧ H q.2.1 = some (.tup (p.1.map kV)) ∧ RelV p.2 q.2.2) kvs xs →
    Row X.prog X.w s.heap (xs.map ((·.key) ∘ entryOfKey (tupleKind (mixKind X.prog X.w)))) (ds.map (·.1)) ∧ Row X.prog X.w s.heap (xs.map ((·.val) ∘ entryOfKey (tupleKind (mixKind X.prog X.w)))) (ds.map (·.2))
  | _, _, _, .nil, p => by
    cases p
    exact ⟨.nil, .nil⟩
  | _, _, _, .cons (k := k) a q, p => by
    cases p with
    | cons z p =>
      obtain ⟨i1, i2⟩ := DgKt.rows I q p
      obtain ⟨z1, z2, z3⟩ := z
      refine ⟨.cons ?_ i1, .cons (Dg.one I a z3) i2⟩
      have hk : ∀ {c : Addr}, H c = some (.tup (k.map kV)) → One X.prog X.w s.heap (.ref c) (.tuple (k.map kD)) := fun {c} e => by
        obtain ⟨its, rv, ⟨o, ho, hc, n, hd⟩, _⟩ := I.tuple (.inl (.inl e))
        exact .tup ho hc hd (key_row k its rv)
      exact hk z2
end
def rShowG (K : PySem.W.Frag) : List V → Hp → VK → Prop := fun xs H Q => ∃ (v : V) (d : PyData), xs = [v] ∧ Dg K H v d ∧
  d.showable = true ∧ d.depth ≤ 30 ∧ d.shown.length ≤ sizeLine ∧ Q (.str d.shown) H
/-- repr of data, dicts let -/
theorem call_showG (hG : X.A.guards = some []) {k : Nat} (hr : Room k X.A) : CallR X (.builtin "repr") (rShowG X.K) := by
  intro pins s σ H xs us Q I r h
  obtain ⟨v, d, rfl, hd, hs, h30, hz, q⟩ := h
  obtain ⟨u, rfl, r1⟩ := vals1 r
  have on := hd.one I r1
  have hu := hr.units
  have obj : ∀ a, u = .ref a → wpAny (model X.prog X.w) X.A (call (.builtin "repr") [u]) (EP X pins σ Q) X.xe s := fun a e => by
    subst e
    obtain ⟨T, idr, S⟩ := on.top hs hz a rfl
    refine call_repr_slot (by omega) (S.typeIs s fun _ _ z => z) S.slotRepr (S.call X.A.in1 _ s _ hG ?_ (fun _ _ z => z) fun h' u tk hk => ⟨_, _, rfl, ⟨.str _, H, I.kept hk, ⟨u, rfl⟩, q⟩⟩)
    show X.A.units + 1 + _ < cLine
    omega
  cases hd with
  | non =>
    cases r1
    unfold PyData.shown at q
    exact PySem.P.repr_of_none ⟨.str _, H, I.tok _, ⟨_, rfl⟩, q⟩
  | bl b =>
    cases r1
    unfold PyData.shown at q
    exact PySem.P.repr_of_bool ⟨.str _, H, I.tok _, ⟨_, rfl⟩, q⟩
  | int i =>
    obtain ⟨t, rfl⟩ := r1
    unfold PyData.shown at q
    unfold PyData.showable at hs
    exact PySem.P.repr_of_int (of_decide_eq_true hs) ⟨.str _, H, I.tok _, ⟨_, rfl⟩, q⟩
  | str x =>
    obtain ⟨t, rfl⟩ := r1
    unfold PyData.shown at q hz
    exact PySem.P.repr_of_str ⟨.str _, H, I.tok _, ⟨_, rfl⟩, q⟩ hz
  | lst _ _ => exact obj _ r1
  | tup _ _ => exact obj _ r1
  | dk _ _ => exact obj _ r1
  | dt _ _ => exact obj _ r1
/-- the same, the module's part given -/
theorem call_showK {K : PySem.W.Frag} (hG : X.A.guards = some []) {k : Nat} (hr : Room k X.A) (hK : X.K = K := by rfl) : CallR X (.builtin "repr") (rShowG K) := by
  subst hK
  exact call_showG hG hr
end
/-- what repr asks of a thing, dicts let -/
structure ShowG (d : PyData) : Prop where
  sh : d.showable = true
  dp : d.depth ≤ 30
  ln : d.shown.length ≤ sizeLine
theorem Ft.g {w k : Nat} {d : PyData} (h : Ft w k d) (hk : k ≤ 30 := by decide) (hw : w ≤ 16000 := by decide) : ShowG d := by
  have := h.showy hk hw
  exact ⟨this.sh, this.dp, this.ln⟩
/-- data that fits, dicts let -/
structure Fg (w k : Nat) (d : PyData) : Prop where
  sh : d.showable = true
  dp : d.depth ≤ k
  lv : d.leavesShort 1000 = true
  wt : d.weight ≤ w
structure FgA (w k : Nat) (ds : List PyData) : Prop where
  sh : PyData.showableAll ds = true
  dp : PyData.depthAll ds ≤ k
  lv : PyData.leavesShortAll 1000 ds = true
  wt : PyData.weightAll ds ≤ w
structure FgK (w k : Nat) (ds : List (PyData × PyData)) : Prop where
  sh : PyData.showableKv ds = true
  dp : PyData.depthKv ds ≤ k
  lv : PyData.leavesShortKv 1000 ds = true
  wt : PyData.weightKv ds ≤ w
theorem Ft.fg {w k : Nat} {d : PyData} (h : Ft w k d) : Fg w k d := ⟨h.sh, h.dp, h.lv, h.wt⟩
theorem FtA.fg {w k : Nat} {ds : List PyData} (h : FtA w k ds) : FgA w k ds := ⟨h.sh, h.dp, h.lv, h.wt⟩
theorem Fg.le {w k w' k' : Nat} {d : PyData} (h : Fg w k d) (hw : w ≤ w') (hk : k ≤ k') : Fg w' k' d := ⟨h.sh, Nat.le_trans h.dp hk, h.lv, Nat.le_trans h.wt hw⟩
theorem FgA.le {w k w' k' : Nat} {ds : List PyData} (h : FgA w k ds) (hw : w ≤ w') (hk : k ≤ k') : FgA w' k' ds := ⟨h.sh, Nat.le_trans h.dp hk, h.lv, Nat.le_trans h.wt hw⟩
theorem FgA.nil : FgA 0 0 [] := FtA.nil.fg
theorem FgA.cons {w k w' k' : Nat} {d : PyData} {ds : List PyData} (h : Fg w k d) (r : FgA w' k' ds) : FgA (w + 1 + w') (max k k') (d :: ds) := by
  refine ⟨?_, ?_, ?_, ?_⟩
  · simp only [PyData.showableAll, h.sh, r.sh, Bool.and_self]
  · simp only [PyData.depthAll]
    have := h.dp
    have := r.dp
    omega
  · simp only [PyData.leavesShortAll, h.lv, r.lv, Bool.and_self]
  · simp only [PyData.weightAll]
    have := h.wt
    have := r.wt
    omega
theorem FgA.all {w k : Nat} : ∀ {ds : List PyData}, (∀ d ∈ ds, Fg w k d) → FgA ((w + 1) * ds.length) k ds
  | [], _ => FgA.nil.le (Nat.zero_le _) (Nat.zero_le _)
  | d :: ds, h => by
    have r := FgA.cons (h d List.mem_cons_self) (FgA.all fun x hx => h x (List.mem_cons_of_mem _ hx))
    refine r.le ?_ (by omega)
    rw [List.length_cons, Nat.mul_succ]
    omega
theorem Fg.list {w k : Nat} {ds : List PyData} (r : FgA w k ds) : Fg w (k + 1) (.list ds) :=
  ⟨by simp only [PyData.showable]; exact r.sh, by simp only [PyData.depth]; exact Nat.succ_le_succ r.dp, by simp only [PyData.leavesShort]; exact r.lv, by simp only [PyData.weight]; exact r.wt⟩
theorem Fg.tuple {w k : Nat} {ds : List PyData} (r : FgA w k ds) : Fg w (k + 1) (.tuple ds) :=
  ⟨by simp only [PyData.showable]; exact r.sh, by simp only [PyData.depth]; exact Nat.succ_le_succ r.dp, by simp only [PyData.leavesShort]; exact r.lv, by simp only [PyData.weight]; exact r.wt⟩
theorem FgK.nil : FgK 0 0 [] := ⟨by simp only [PyData.showableKv], by simp only [PyData.depthKv, Nat.le_refl], by simp only [PyData.leavesShortKv], by simp only [PyData.weightKv, Nat.le_refl]⟩
theorem FgK.cons {w k w1 k1 w' k' : Nat} {d e : PyData} {ds : List (PyData × PyData)} (h : Fg w k d) (h1 : Fg w1 k1 e) (r : FgK w' k' ds) : FgK (w + w1 + 2 + w') (max (max k k1) k') ((d, e) :: ds) := by
  refine ⟨?_, ?_, ?_, ?_⟩
  · simp only [PyData.showableKv, h.sh, h1.sh, r.sh, Bool.and_self]
  · simp only [PyData.depthKv]
    have := h.dp
    have := h1.dp
    have := r.dp
    omega
  · simp only [PyData.leavesShortKv, h.lv, h1.lv, r.lv, Bool.and_self]
  · simp only [PyData.weightKv]
    have := h.wt
    have := h1.wt
    have := r.wt
    omega
theorem Fg.dict {w k : Nat} {ds : List (PyData × PyData)} (r : FgK w k ds) : Fg w (k + 1) (.dict ds) :=
  ⟨by simp only [PyData.showable]; exact r.sh, by simp only [PyData.depth]; exact Nat.succ_le_succ r.dp, by simp only [PyData.leavesShort]; exact r.lv, by simp only [PyData.weight]; exact r.wt⟩
theorem Fg.g {w k : Nat} {d : PyData} (h : Fg w k d) (hk : k ≤ 30 := by decide) (hw : w ≤ 16000 := by decide) : ShowG d := by
  refine ⟨h.sh, Nat.le_trans h.dp hk, ?_⟩
  have e := PyData.shown_le 1000 (by decide) d h.lv
  have e2 := h.wt
  have e3 : (1000 + 2) * d.weight ≤ 1002 * 16000 := Nat.mul_le_mul (Nat.le_refl _) (Nat.le_trans e2 hw)
  have e4 := sizeLine_eq
  omega
end Lf

set_option Elab.async false
set_option linter.all false
set_option maxRecDepth 100000
set_option maxHeartbeats 4000000
set_option exponentiation.threshold 3000
/-! Weights, steps, how often a step goes into weights, aims. -/
namespace Lf
theorem low_b {n d : Int} (hd : 0 < d) : 0 < (low n d).2 := (low_is (n := n) (by omega)).1
theorem low_top_pos {n d : Int} (hd : 0 < d) (hn : 0 < n) : 0 < (low n d).1 := by
  have h := low_cross (n := n) (d := d) (by omega)
  have hb := low_b (n := n) hd
  have : 0 < (low n d).1 * d := by rw [h]; exact Int.mul_pos hn hb
  exact Int.pos_of_mul_pos_left this hd
theorem low_top_nn {n d : Int} (hd : 0 < d) (hn : 0 ≤ n) : 0 ≤ (low n d).1 := by
  have h := low_cross (n := n) (d := d) (by omega)
  have hb := low_b (n := n) hd
  have h2 : 0 ≤ (low n d).1 * d := by rw [h]; exact Int.mul_nonneg hn (Int.le_of_lt hb)
  exact Int.nonneg_of_mul_nonneg_left h2 hd
theorem fdiv_pos_eq {a b : Int} (h : 0 < b) : a.fdiv b = a / b := Int.fdiv_eq_ediv_of_nonneg a (Int.le_of_lt h)
theorem low_fl {n d : Int} (hd : 0 < d) : (low n d).1.fdiv (low n d).2 = n.fdiv d := by
  have h := low_cross (n := n) (d := d) (by omega)
  have hb := low_b (n := n) hd
  rw [fdiv_pos_eq hb, fdiv_pos_eq hd]
  have e1 : d * (low n d).1 / (d * (low n d).2) = (low n d).1 / (low n d).2 := Int.mul_ediv_mul_of_pos _ _ hd
  have e2 : (low n d).2 * n / ((low n d).2 * d) = n / d := Int.mul_ediv_mul_of_pos _ _ hb
  rw [← e1, ← e2, Int.mul_comm d (low n d).1, h, Int.mul_comm n, Int.mul_comm d]
/-- at most c -/
def Vb (c : Int) (f : Int × Int) : Prop := f.1 ≤ c * f.2
theorem vb_low {n d c : Int} (hd : 0 < d) (h : n ≤ c * d) : Vb c (low n d) := by
  have hc := low_cross (n := n) (d := d) (by omega)
  have hb := low_b (n := n) hd
  unfold Vb
  have h1 : (low n d).1 * d ≤ (c * (low n d).2) * d := by
    rw [hc]
    have := Int.mul_le_mul_of_nonneg_right h (Int.le_of_lt hb)
    have e : c * d * (low n d).2 = c * (low n d).2 * d := by grind
    omega
  exact Int.le_of_mul_le_mul_right h1 hd
theorem vb_add {f g : Int × Int} {c e : Int} (hf : IsF f) (hg : IsF g) (h : Vb c f) (k : Vb e g) : Vb (c + e) (fadd f g) := by
  have h2 : 0 < f.2 := hf.1
  have k2 : 0 < g.2 := hg.1
  refine vb_low (Int.mul_pos h2 k2) ?_
  have a := Int.mul_le_mul_of_nonneg_right h (Int.le_of_lt k2)
  have b := Int.mul_le_mul_of_nonneg_right k (Int.le_of_lt h2)
  have e1 : c * f.2 * g.2 + e * g.2 * f.2 = (c + e) * (f.2 * g.2) := by grind
  omega
theorem vb_fold {C : Int} : ∀ (l : List (Int × Int)) (c : Int) (a : Int × Int), IsF a → AllF l → Vb c a → (∀ f ∈ l, Vb C f) → Vb (c + C * l.length) (l.foldl fadd a)
  | [], c, a, _, _, h, _ => by simpa using h
  | f :: l, c, a, ha, h, hk, hb => by
    have := vb_fold l (c + C) (fadd a f) (fadd_f ha h.hd) h.tl (vb_add ha h.hd hk (hb f List.mem_cons_self)) (fun g hg => hb g (List.mem_cons_of_mem _ hg))
    rw [List.length_cons]
    have e : c + C + C * (l.length : Int) = c + C * ((l.length + 1 : Nat) : Int) := by
      rw [Int.natCast_add, Int.mul_add]
      omega
    rw [← e]
    exact this
/-- a weight -/
structure Wt (f : Int × Int) : Prop where
  lo : IsF f
  po : 0 < f.1
  bt : Bt 41 f
theorem Wt.vb {f : Int × Int} (h : Wt f) : Vb (2 ^ 41) f := by
  unfold Vb
  have h1 := h.bt.1
  have h2 : 0 < f.2 := h.lo.1
  have h3 : f.1 < 2 ^ 41 := by
    have := h.po
    omega
  have : (2 : Int) ^ 41 * 1 ≤ 2 ^ 41 * f.2 := Int.mul_le_mul_of_nonneg_left (by omega) (by decide)
  omega
/-- weights -/
structure Wts (fs : List (Int × Int)) : Prop where
  all : ∀ f ∈ fs, Wt f
  one : 1 ≤ fs.length
  few : fs.length ≤ 12
theorem Wts.f {fs : List (Int × Int)} (h : Wts fs) : AllF fs := fun f hf => (h.all f hf).lo
theorem Wts.b {fs : List (Int × Int)} (h : Wts fs) : AllB 41 fs := fun f hf => (h.all f hf).bt
def tot (fs : List (Int × Int)) : Int × Int := fs.foldl fadd f0
theorem tot_f {fs : List (Int × Int)} (h : AllF fs) : IsF (tot fs) := (sum_fold fs f0 f0_f h).1
theorem tot_bt {fs : List (Int × Int)} (h : Wts fs) : Bt 505 (tot fs) := by
  have := add_bt (b := 41) fs 1 f0 f0_f h.f bt01.1 h.b
  refine this.mono ?_
  have := h.few
  omega
theorem fold_pos : ∀ (l : List (Int × Int)) (a : Int × Int), IsF a → AllF l → (∀ f ∈ l, 0 < f.1) → 0 ≤ a.1 → (l ≠ [] ∨ 0 < a.1) → 0 < (l.foldl fadd a).1
  | [], a, _, _, _, _, h => h.elim (fun z => absurd rfl z) id
  | f :: l, a, ha, hF, hp, h0, _ => by
    have h2 : 0 < a.2 := ha.1
    have k2 : 0 < f.2 := hF.hd.1
    have hpos : 0 < (fadd a f).1 := by
      refine low_top_pos (Int.mul_pos h2 k2) ?_
      have a1 := Int.mul_nonneg h0 (Int.le_of_lt k2)
      have a2 := Int.mul_pos (hp f List.mem_cons_self) h2
      omega
    exact fold_pos l (fadd a f) (fadd_f ha hF.hd) hF.tl (fun g hg => hp g (List.mem_cons_of_mem _ hg)) (Int.le_of_lt hpos) (.inr hpos)
theorem tot_pos {fs : List (Int × Int)} (h : Wts fs) : 0 < (tot fs).1 := by
  refine fold_pos fs f0 f0_f h.f (fun f hf => (h.all f hf).po) (by decide) (.inl fun z => ?_)
  have := h.one
  rw [z] at this
  cases this
theorem tot_vb {fs : List (Int × Int)} (h : Wts fs) : Vb (2 ^ 45) (tot fs) := by
  have v := vb_fold (C := 2 ^ 41) fs 0 f0 f0_f h.f (by unfold Vb; decide) (fun f hf => (h.all f hf).vb)
  unfold Vb at v ⊢
  have hb : 0 < (tot fs).2 := (tot_f h.f).1
  have h12 : (0 : Int) + 2 ^ 41 * (fs.length : Int) ≤ 2 ^ 45 := by
    have := h.few
    omega
  have := Int.mul_le_mul_of_nonneg_right h12 (Int.le_of_lt hb)
  show (tot fs).1 ≤ _
  have v' : (tot fs).1 ≤ (0 + 2 ^ 41 * (fs.length : Int)) * (tot fs).2 := v
  omega
/-- how often the step goes into the weights -/
def many (fs : List (Int × Int)) (st : Int × Int) : Int := ((tot fs).1 * st.2).fdiv ((tot fs).2 * st.1)
theorem many_nn {fs : List (Int × Int)} {st : Int × Int} (h : Wts fs) (hs : Wt st) : 0 ≤ many fs st := by
  have hb : 0 < (tot fs).2 := (tot_f h.f).1
  have hd := Int.mul_pos hb hs.po
  unfold many
  rw [fdiv_pos_eq hd]
  exact Int.ediv_nonneg (Int.mul_nonneg (Int.le_of_lt (tot_pos h)) (Int.le_of_lt hs.lo.1)) (Int.le_of_lt hd)
theorem many_lt {fs : List (Int × Int)} {st : Int × Int} (h : Wts fs) (hs : Wt st) : (many fs st).natAbs < 2 ^ 90 := by
  have hb : 0 < (tot fs).2 := (tot_f h.f).1
  have hd := Int.mul_pos hb hs.po
  have h0 := many_nn h hs
  have hv : (tot fs).1 ≤ 2 ^ 45 * (tot fs).2 := tot_vb h
  have s2 : 0 < st.2 := hs.lo.1
  have s1 := hs.po
  have key : many fs st ≤ 2 ^ 45 * st.2 := by
    unfold many
    rw [fdiv_pos_eq hd]
    refine Int.ediv_le_of_le_mul hd ?_
    have a := Int.mul_le_mul_of_nonneg_right hv (Int.le_of_lt s2)
    have b : 2 ^ 45 * (tot fs).2 * st.2 * 1 ≤ 2 ^ 45 * (tot fs).2 * st.2 * st.1 := Int.mul_le_mul_of_nonneg_left (by omega) (Int.mul_nonneg (Int.mul_nonneg (by decide) (Int.le_of_lt hb)) (Int.le_of_lt s2))
    have e : 2 ^ 45 * (tot fs).2 * st.2 * st.1 = 2 ^ 45 * st.2 * ((tot fs).2 * st.1) := by grind
    omega
  have hb2 := hs.bt.2
  omega
theorem many_is {fs : List (Int × Int)} {st : Int × Int} (h : Wts fs) (hs : Wt st) : (fdiv (tot fs) st).1.fdiv (fdiv (tot fs) st).2 = many fs st := low_fl (Int.mul_pos (tot_f h.f).1 hs.po)
/-- all weights by how many steps -/
def factor (fs : List (Int × Int)) (st : Int × Int) : Int × Int := fdiv (many fs st, 1) (tot fs)
theorem m1_f (m : Int) : IsF (m, 1) := ⟨by show (0 : Int) < 1; decide, by show Nat.Coprime m.natAbs 1; exact Nat.coprime_one_right _⟩
theorem factor_f {fs : List (Int × Int)} {st : Int × Int} (h : Wts fs) : IsF (factor fs st) := fdiv_f (m1_f _) (by have := tot_pos h; omega)
theorem many_bt {fs : List (Int × Int)} {st : Int × Int} (h : Wts fs) (hs : Wt st) : Bt 90 (many fs st, 1) := ⟨many_lt h hs, by show (1 : Int).natAbs < 2 ^ 90; decide⟩
theorem factor_bt {fs : List (Int × Int)} {st : Int × Int} (h : Wts fs) (hs : Wt st) : Bt 595 (factor fs st) := fdiv_bt (m1_f _) (by have := tot_pos h; omega) (many_bt h hs) (tot_bt h)
def aim (fs : List (Int × Int)) (st f : Int × Int) : Int × Int := fmul f (factor fs st)
theorem aim_f {fs : List (Int × Int)} {st f : Int × Int} (h : Wts fs) (hf : Wt f) : IsF (aim fs st f) := fmul_f hf.lo (factor_f h)
theorem aim_bt {fs : List (Int × Int)} {st f : Int × Int} (h : Wts fs) (hs : Wt st) (hf : Wt f) : Bt 636 (aim fs st f) := fmul_bt hf.lo (factor_f h) hf.bt (factor_bt h hs)
/-- the aim as the law reckons it -/
theorem aim_low {fs : List (Int × Int)} {st f : Int × Int} (h : Wts fs) (hf : Wt f) : aim fs st f = low (f.1 * (tot fs).2 * many fs st) (f.2 * (tot fs).1) := by
  have t1 : (tot fs).1 ≠ 0 := by have := tot_pos h; omega
  have hd : f.2 * (tot fs).1 ≠ 0 := Int.mul_ne_zero hf.lo.ne t1
  refine rv_inj (aim_f h hf) (low_f hd) ?_
  have e : rv (aim fs st f) = rv f * rv (factor fs st) := rv_mul hf.lo (factor_f (st := st) h)
  have e2 : rv (factor fs st) = rv (many fs st, 1) * (rv (tot fs))⁻¹ := rv_div (m1_f _) t1
  rw [e, e2, rv_low hd]
  unfold rv
  rw [Rat.inv_divInt, Rat.divInt_mul_divInt, Rat.divInt_mul_divInt]
  congr 1 <;> grind
end Lf

set_option Elab.async false
set_option linter.all false
/-! The order of fractions as that of rationals. -/
namespace Lf
theorem rv_le {f g : Int × Int} (hf : IsF f) (hg : IsF g) : rv f ≤ rv g ↔ f.1 * g.2 ≤ g.1 * f.2 := by
  have h1 : 0 < f.2 := hf.1
  have h2 : 0 < g.2 := hg.1
  rw [Rat.le_iff_sub_nonneg, ← rv_sub hg hf]
  unfold fsub
  rw [rv_low (Int.mul_ne_zero hg.ne hf.ne), Rat.divInt_nonneg_iff_of_pos_right (Int.mul_pos h2 h1)]
  omega
theorem rv_lt {f g : Int × Int} (hf : IsF f) (hg : IsF g) : rv f < rv g ↔ f.1 * g.2 < g.1 * f.2 := by
  rw [← Rat.not_le, rv_le hg hf]
  omega
theorem rv_nn {f : Int × Int} (hf : IsF f) : 0 ≤ rv f ↔ 0 ≤ f.1 := by
  have h1 : 0 < f.2 := hf.1
  unfold rv
  rw [Rat.divInt_nonneg_iff_of_pos_right h1]
theorem rv_le1 {f : Int × Int} (hf : IsF f) : rv f ≤ 1 ↔ f.1 ≤ f.2 := by
  rw [← rv1, rv_le hf f1_f]
  show f.1 * 1 ≤ 1 * f.2 ↔ _
  omega
/-- half of it -/
def half (f : Int × Int) : Int × Int := low f.1 (2 * f.2)
theorem half_f {f : Int × Int} (hf : IsF f) : IsF (half f) := low_f (by have := hf.ne; omega)
theorem half_cross {f : Int × Int} (hf : IsF f) : (half f).1 * (2 * f.2) = f.1 * (half f).2 := low_cross (by have := hf.ne; omega)
theorem half_nn {f : Int × Int} (hf : IsF f) (h : 0 ≤ f.1) : 0 ≤ (half f).1 := low_top_nn (by have := hf.1; omega) h
theorem half_le {f : Int × Int} (hf : IsF f) (h : 0 ≤ f.1) : rv (half f) ≤ rv f := by
  rw [rv_le (half_f hf) hf, ← half_cross hf]
  have h1 : 0 ≤ (half f).1 * f.2 := Int.mul_nonneg (half_nn hf h) (Int.le_of_lt hf.1)
  have e : (half f).1 * (2 * f.2) = 2 * ((half f).1 * f.2) := by rw [Int.mul_left_comm]
  omega
theorem half_ne {f : Int × Int} (hf : IsF f) (h : f.1 ≠ 0) : half f ≠ f := by
  intro e
  have c := half_cross hf
  rw [e] at c
  have e2 : f.1 * (2 * f.2) = 2 * (f.1 * f.2) := by rw [Int.mul_left_comm]
  have : f.1 * f.2 ≠ 0 := Int.mul_ne_zero h hf.ne
  omega
end Lf

set_option Elab.async false
set_option linter.all false
set_option maxRecDepth 100000
set_option maxHeartbeats 4000000
set_option exponentiation.threshold 3000
/-! Data by its bulk; fractions of one bottom. -/
namespace Lf
open PySem PySem.Spec PyProof.Rows L2
structure Fb (w k : Nat) (d : PyData) : Prop where
  sh : d.showable = true
  dp : d.depth ≤ k
  lv : d.leavesShort 1000 = true
  bk : d.bulk ≤ w
structure FbA (w k : Nat) (ds : List PyData) : Prop where
  sh : PyData.showableAll ds = true
  dp : PyData.depthAll ds ≤ k
  lv : PyData.leavesShortAll 1000 ds = true
  bk : PyData.bulkAll ds ≤ w
structure FbK (w k : Nat) (ds : List (PyData × PyData)) : Prop where
  sh : PyData.showableKv ds = true
  dp : PyData.depthKv ds ≤ k
  lv : PyData.leavesShortKv 1000 ds = true
  bk : PyData.bulkKv ds ≤ w
theorem Fb.le {w k w' k' : Nat} {d : PyData} (h : Fb w k d) (hw : w ≤ w') (hk : k ≤ k') : Fb w' k' d := ⟨h.sh, Nat.le_trans h.dp hk, h.lv, Nat.le_trans h.bk hw⟩
theorem FbA.le {w k w' k' : Nat} {ds : List PyData} (h : FbA w k ds) (hw : w ≤ w') (hk : k ≤ k') : FbA w' k' ds := ⟨h.sh, Nat.le_trans h.dp hk, h.lv, Nat.le_trans h.bk hw⟩
theorem FbK.le {w k w' k' : Nat} {ds : List (PyData × PyData)} (h : FbK w k ds) (hw : w ≤ w') (hk : k ≤ k') : FbK w' k' ds := ⟨h.sh, Nat.le_trans h.dp hk, h.lv, Nat.le_trans h.bk hw⟩
theorem Fb.int {n : Int} (h : Sm n) : Fb 0 0 (.int n) := ⟨(Ft.int h).sh, (Ft.int h).dp, (Ft.int h).lv, by simp only [PyData.bulk, Nat.le_refl]⟩
theorem Fb.bool (b : Bool) : Fb 0 0 (.bool b) := ⟨(Ft.bool b).sh, (Ft.bool b).dp, (Ft.bool b).lv, by simp only [PyData.bulk, Nat.le_refl]⟩
theorem Fb.none : Fb 0 0 .none := ⟨Ft.none.sh, Ft.none.dp, Ft.none.lv, by simp only [PyData.bulk, Nat.le_refl]⟩
theorem Fb.str {w : Nat} {x : Str} (h : Sg x) (hw : x.length ≤ w) : Fb w 0 (.str x) := ⟨(Ft.str h hw).sh, (Ft.str h hw).dp, (Ft.str h hw).lv, by simp only [PyData.bulk]; exact hw⟩
theorem FbA.nil : FbA 0 0 [] := ⟨by simp only [PyData.showableAll], by simp only [PyData.depthAll, Nat.le_refl], by simp only [PyData.leavesShortAll], by simp only [PyData.bulkAll, Nat.le_refl]⟩
theorem FbA.cons {w k w' k' : Nat} {d : PyData} {ds : List PyData} (h : Fb w k d) (r : FbA w' k' ds) : FbA (w + 1 + w') (max k k') (d :: ds) := by
  refine ⟨?_, ?_, ?_, ?_⟩
  · simp only [PyData.showableAll, h.sh, r.sh, Bool.and_self]
  · simp only [PyData.depthAll]
    have := h.dp
    have := r.dp
    omega
  · simp only [PyData.leavesShortAll, h.lv, r.lv, Bool.and_self]
  · simp only [PyData.bulkAll]
    have := h.bk
    have := r.bk
    omega
theorem FbA.all {w k : Nat} : ∀ {ds : List PyData}, (∀ d ∈ ds, Fb w k d) → FbA ((w + 1) * ds.length) k ds
  | [], _ => FbA.nil.le (Nat.zero_le _) (Nat.zero_le _)
  | d :: ds, h => by
    have r := FbA.cons (h d List.mem_cons_self) (FbA.all fun x hx => h x (List.mem_cons_of_mem _ hx))
    refine r.le ?_ (by omega)
    rw [List.length_cons, Nat.mul_succ]
    omega
theorem Fb.list {w k : Nat} {ds : List PyData} (r : FbA w k ds) : Fb w (k + 1) (.list ds) :=
  ⟨by simp only [PyData.showable]; exact r.sh, by simp only [PyData.depth]; exact Nat.succ_le_succ r.dp, by simp only [PyData.leavesShort]; exact r.lv, by simp only [PyData.bulk]; exact r.bk⟩
theorem Fb.tuple {w k : Nat} {ds : List PyData} (r : FbA w k ds) : Fb w (k + 1) (.tuple ds) :=
  ⟨by simp only [PyData.showable]; exact r.sh, by simp only [PyData.depth]; exact Nat.succ_le_succ r.dp, by simp only [PyData.leavesShort]; exact r.lv, by simp only [PyData.bulk]; exact r.bk⟩
theorem FbK.nil : FbK 0 0 [] := ⟨by simp only [PyData.showableKv], by simp only [PyData.depthKv, Nat.le_refl], by simp only [PyData.leavesShortKv], by simp only [PyData.bulkKv, Nat.le_refl]⟩
theorem FbK.cons {w k w1 k1 w' k' : Nat} {d e : PyData} {ds : List (PyData × PyData)} (h : Fb w k d) (h1 : Fb w1 k1 e) (r : FbK w' k' ds) : FbK (w + w1 + 2 + w') (max (max k k1) k') ((d, e) :: ds) := by
  refine ⟨?_, ?_, ?_, ?_⟩
  · simp only [PyData.showableKv, h.sh, h1.sh, r.sh, Bool.and_self]
  · simp only [PyData.depthKv]
    have := h.dp
    have := h1.dp
    have := r.dp
    omega
  · simp only [PyData.leavesShortKv, h.lv, h1.lv, r.lv, Bool.and_self]
  · simp only [PyData.bulkKv]
    have := h.bk
    have := h1.bk
    have := r.bk
    omega
theorem Fb.dict {w k : Nat} {ds : List (PyData × PyData)} (r : FbK w k ds) : Fb w (k + 1) (.dict ds) :=
  ⟨by simp only [PyData.showable]; exact r.sh, by simp only [PyData.depth]; exact Nat.succ_le_succ r.dp, by simp only [PyData.leavesShort]; exact r.lv, by simp only [PyData.bulk]; exact r.bk⟩
theorem Fb.len {w k : Nat} {d : PyData} (h : Fb w k d) : d.shown.length ≤ 1002 * w + 1000 := by
  have e := PyData.shown_le_bulk 1000 (by decide) d h.lv
  have e2 : (1000 + 2) * d.bulk ≤ 1002 * w := Nat.mul_le_mul (Nat.le_refl _) h.bk
  omega
theorem Fb.g {w k : Nat} {d : PyData} (h : Fb w k d) (hk : k ≤ 30 := by decide) (hw : w ≤ 16000 := by decide) : ShowG d := by
  refine ⟨h.sh, Nat.le_trans h.dp hk, ?_⟩
  have e := h.len
  have e3 : 1002 * w ≤ 1002 * 16000 := Nat.mul_le_mul (Nat.le_refl _) hw
  have e4 := sizeLine_eq
  omega
theorem Fb.two {t : Int × Int} (h : Sm t.1) (k : Sm t.2) : Fb 2 1 (tD t) := Fb.tuple (.cons (.int h) (.cons (.int k) .nil))
/-! ### fractions of one bottom -/
/-- a fraction from 0 to c whose bottom goes into N -/
structure Qn (N c : Nat) (f : Int × Int) : Prop where
  lo : IsF f
  nn : 0 ≤ f.1
  dn : f.2 ∣ (N : Int)
  vb : f.1 ≤ c * f.2
theorem dn_of {f : Int × Int} {a M : Int} (hf : IsF f) (h : f.1 * M = a * f.2) : f.2 ∣ M := by
  have e1 : f.1.natAbs * M.natAbs = a.natAbs * f.2.natAbs := by
    have := congrArg Int.natAbs h
    rwa [Int.natAbs_mul, Int.natAbs_mul] at this
  have q : f.2.natAbs ∣ f.1.natAbs * M.natAbs := by
    rw [e1]
    exact Nat.dvd_mul_left _ _
  exact Int.natAbs_dvd_natAbs.mp (Nat.Coprime.dvd_of_dvd_mul_left hf.2.symm q)
theorem low_dn {n d a M : Int} (hd : d ≠ 0) (h : n * M = a * d) : (low n d).2 ∣ M := by
  refine dn_of (a := a) (low_f hd) ?_
  have c := low_cross (n := n) hd
  refine Int.eq_of_mul_eq_mul_right hd ?_
  grind
/-- the bottom of what is a by M -/
theorem rv_dn {f : Int × Int} {a M : Int} (hf : IsF f) (hM : M ≠ 0) (h : rv f = Rat.divInt a M) : f.2 ∣ M := dn_of hf ((Rat.divInt_eq_divInt_iff hf.ne hM).mp h)
theorem Qn.mono {N N' c c' : Nat} {f : Int × Int} (h : Qn N c f) (hN : N ∣ N') (hc : c ≤ c') : Qn N' c' f := by
  have p : 0 < f.2 := h.lo.1
  refine ⟨h.lo, h.nn, Int.dvd_trans h.dn (Int.natCast_dvd_natCast.mpr hN), Int.le_trans h.vb ?_⟩
  exact Int.mul_le_mul_of_nonneg_right (by omega) (Int.le_of_lt p)
theorem Qn.le_N {N c : Nat} {f : Int × Int} (h : Qn N c f) (hN : 0 < N) : f.2 ≤ N := Int.le_of_dvd (by omega) h.dn
theorem Qn.bt {N c k : Nat} {f : Int × Int} (h : Qn N c f) (hN : 0 < N) (h1 : c * N < 2 ^ k) (h2 : N < 2 ^ k) : Bt k f := by
  have p : 0 < f.2 := h.lo.1
  have l := h.le_N hN
  have v := h.vb
  have n0 := h.nn
  have m : (c : Int) * f.2 ≤ c * N := Int.mul_le_mul_of_nonneg_left l (by omega)
  have e : ((c * N : Nat) : Int) = (c : Int) * N := Int.natCast_mul ..
  constructor
  · omega
  · omega
theorem Qn.add {N c e : Nat} {f g : Int × Int} (h : Qn N c f) (k : Qn N e g) : Qn N (c + e) (fadd f g) := by
  have h2 : 0 < f.2 := h.lo.1
  have k2 : 0 < g.2 := k.lo.1
  have p := Int.mul_pos h2 k2
  refine ⟨fadd_f h.lo k.lo, ?_, ?_, ?_⟩
  · refine low_top_nn p ?_
    have a := Int.mul_nonneg h.nn (Int.le_of_lt k2)
    have b := Int.mul_nonneg k.nn (Int.le_of_lt h2)
    omega
  · obtain ⟨s, hs⟩ := h.dn
    obtain ⟨t, ht⟩ := k.dn
    refine low_dn (a := f.1 * s + g.1 * t) (by omega) ?_
    grind
  · have := vb_add (c := c) (e := e) h.lo k.lo h.vb k.vb
    exact this
theorem Qn.mul {N M c e : Nat} {f g : Int × Int} (h : Qn N c f) (k : Qn M e g) : Qn (N * M) (c * e) (fmul f g) := by
  have h2 : 0 < f.2 := h.lo.1
  have k2 : 0 < g.2 := k.lo.1
  have p := Int.mul_pos h2 k2
  refine ⟨fmul_f h.lo k.lo, low_top_nn p (Int.mul_nonneg h.nn k.nn), ?_, ?_⟩
  · obtain ⟨s, hs⟩ := h.dn
    obtain ⟨t, ht⟩ := k.dn
    refine low_dn (a := f.1 * s * (g.1 * t)) (by omega) ?_
    rw [Int.natCast_mul]
    grind
  · refine vb_low (c := ((c * e : Nat) : Int)) p ?_
    have a : f.1 * g.1 ≤ (c * f.2) * (e * g.2) := Int.mul_le_mul h.vb k.vb k.nn (Int.mul_nonneg (by omega) (Int.le_of_lt h2))
    rw [Int.natCast_mul]
    have e1 : (c : Int) * f.2 * (e * g.2) = c * e * (f.2 * g.2) := by grind
    omega
theorem qn_f0 (N c : Nat) : Qn N c f0 := ⟨f0_f, by decide, ⟨N, (Int.one_mul _).symm⟩, by show (0 : Int) ≤ c * 1; omega⟩
theorem qn_f1 (N : Nat) : Qn N 1 f1 := ⟨f1_f, by decide, ⟨N, (Int.one_mul _).symm⟩, by decide⟩
theorem Qn.fold {N c : Nat} : ∀ (l : List (Int × Int)) (e : Nat) (a : Int × Int), Qn N e a → (∀ f ∈ l, Qn N c f) → Qn N (e + c * l.length) (l.foldl fadd a)
  | [], e, a, ha, _ => by simpa using ha
  | f :: l, e, a, ha, h => by
    have := Qn.fold l (e + c) (fadd a f) (ha.add (h f List.mem_cons_self)) (fun g hg => h g (List.mem_cons_of_mem _ hg))
    rw [List.length_cons, Nat.mul_succ]
    rw [show e + (c * l.length + c) = e + c + c * l.length by omega]
    exact this
theorem Qn.sum {N c n : Nat} {l : List (Int × Int)} (h : ∀ f ∈ l, Qn N c f) (hn : l.length ≤ n) : Qn N (c * n) (l.foldl fadd f0) := by
  have := Qn.fold l 0 f0 (qn_f0 N 0) h
  rw [Nat.zero_add] at this
  exact this.mono (Nat.dvd_refl _) (Nat.mul_le_mul_left _ hn)
theorem qn_of_bt {k : Nat} {f : Int × Int} (h : IsF f) (h0 : 0 ≤ f.1) (b : Bt k f) : Qn f.2.toNat (2 ^ k) f := by
  have p : 0 < f.2 := h.1
  refine ⟨h, h0, by rw [Int.toNat_of_nonneg (Int.le_of_lt p)]; exact Int.dvd_refl _, ?_⟩
  have b1 := b.1
  have e : ((2 ^ k : Nat) : Int) * 1 ≤ ((2 ^ k : Nat) : Int) * f.2 := Int.mul_le_mul_of_nonneg_left (by omega) (by omega)
  omega
/-- all bottoms, multiplied -/
def botP (l : List (Int × Int)) : Nat := l.foldr (fun f a => f.2.toNat * a) 1
theorem botP_pos : ∀ l : List (Int × Int), (∀ f ∈ l, IsF f) → 0 < botP l
  | [], _ => by decide
  | f :: l, h => Nat.mul_pos (by have := (h f List.mem_cons_self).1; omega) (botP_pos l fun g hg => h g (List.mem_cons_of_mem _ hg))
theorem botP_dvd : ∀ (l : List (Int × Int)) (f : Int × Int), f ∈ l → f.2.toNat ∣ botP l
  | g :: l, f, h => by
    rcases List.mem_cons.mp h with rfl | h
    · exact ⟨botP l, rfl⟩
    · obtain ⟨t, ht⟩ := botP_dvd l f h
      refine ⟨g.2.toNat * t, ?_⟩
      show g.2.toNat * botP l = _
      rw [ht, Nat.mul_left_comm]
theorem botP_lt {k : Nat} : ∀ (l : List (Int × Int)), (∀ f ∈ l, Bt k f) → botP l ≤ 2 ^ (k * l.length)
  | [], _ => by simp [botP]
  | f :: l, h => by
    have ih := botP_lt l fun g hg => h g (List.mem_cons_of_mem _ hg)
    have b := (h f List.mem_cons_self).2
    show f.2.toNat * botP l ≤ _
    rw [List.length_cons, Nat.mul_succ, Nat.add_comm, Nat.pow_add]
    exact Nat.mul_le_mul (by omega) ih
/-- fractions above 0 of one bottom, whose sums are small -/
def Cmn (fs : List (Int × Int)) : Prop := ∃ N V : Nat, 0 < N ∧ 0 < V ∧ 8 * V * N < 2 ^ 880 ∧ ∀ f ∈ fs, Qn N V f
theorem cmn_of_bt {k : Nat} {fs : List (Int × Int)} (h : ∀ f ∈ fs, IsF f ∧ 0 ≤ f.1 ∧ Bt k f) (hl : fs.length ≤ 8) (hk : 9 * k + 3 < 880) : Cmn fs := by
  have b := botP_lt (k := k) fs fun f hf => (h f hf).2.2
  have p := botP_pos fs fun f hf => (h f hf).1
  have b2 : botP fs ≤ 2 ^ (8 * k) := Nat.le_trans b (Nat.pow_le_pow_right (by decide) (by rw [Nat.mul_comm 8]; exact Nat.mul_le_mul_left _ hl))
  refine ⟨botP fs, 2 ^ k, p, Nat.two_pow_pos _, ?_, fun f hf => (qn_of_bt (h f hf).1 (h f hf).2.1 (h f hf).2.2).mono (botP_dvd fs f hf) (Nat.le_refl _)⟩
  have e : 8 * 2 ^ k * 2 ^ (8 * k) = 2 ^ (3 + k + 8 * k) := by
    rw [Nat.pow_add, Nat.pow_add]
  calc 8 * 2 ^ k * botP fs ≤ 8 * 2 ^ k * 2 ^ (8 * k) := Nat.mul_le_mul_left _ b2
    _ = 2 ^ (3 + k + 8 * k) := e
    _ < 2 ^ 880 := Nat.pow_lt_pow_right (by decide) (by omega)
theorem Cmn.bt {fs : List (Int × Int)} (h : Cmn fs) {f : Int × Int} (hf : f ∈ fs) : Bt 880 f := by
  obtain ⟨N, V, p, v, l, q⟩ := h
  have e : V * N ≤ 8 * V * N := by rw [Nat.mul_assoc]; omega
  have e2 : 1 * N ≤ V * N := Nat.mul_le_mul_right _ v
  exact (q f hf).bt p (by omega) (by omega)
theorem Cmn.part {fs : List (Int × Int)} (h : Cmn fs) (hl : fs.length ≤ 8) (i : Nat) : Bt 880 ((fs.take i).foldl fadd f0) := by
  obtain ⟨N, V, p, v, l, q⟩ := h
  have s := Qn.sum (n := 8) (l := fs.take i) (fun f hf => q f (List.mem_of_mem_take hf)) (by rw [List.length_take]; omega)
  have e2 : 1 * N ≤ V * N := Nat.mul_le_mul_right _ v
  have e3 : V * 8 * N = 8 * V * N := by rw [Nat.mul_comm V]
  have e : V * N ≤ 8 * V * N := by rw [Nat.mul_assoc]; omega
  exact s.bt p (by omega) (by omega)
theorem Cmn.tot {fs : List (Int × Int)} (h : Cmn fs) (hl : fs.length ≤ 8) : Bt 880 (fs.foldl fadd f0) := by
  have := h.part hl fs.length
  rwa [List.take_length] at this
end Lf

set_option Elab.async false
set_option linter.all false
set_option maxRecDepth 100000
set_option maxHeartbeats 4000000
set_option exponentiation.threshold 3000
namespace Lf
open PySem PySem.Spec PyProof.Rows L2
theorem Bt.sm {k : Nat} {f : Int × Int} (h : Bt k f) (hk : k ≤ 900) : Sm f.1 ∧ Sm f.2 := ⟨(h.mono hk).1, (h.mono hk).2⟩
theorem pr_sq {K : PySem.W.Frag} {H : Hp} {p q : Addr} {f g : Int × Int} {j k : Nat} (hp : SqT K H p [.int f.1, .int f.2]) (hq : SqT K H q [.int g.1, .int g.2]) (hf : IsF f) (hg : IsF g) (bf : Bt j f) (bg : Bt k g) (hj : j ≤ 900) (hk : k ≤ 900) : Pr K H [.ref p, .ref q] f.1 f.2 g.1 g.2 :=
  ⟨⟨p, q, rfl, hp, hq⟩, hf.ne, hg.ne, (bf.sm hj).1, (bf.sm hj).2, (bg.sm hk).1, (bg.sm hk).2⟩
theorem pr_atk {K : PySem.W.Frag} {H : Hp} {v u : V} {f g : Int × Int} {j k : Nat} (hv : AtK K H v f) (hu : AtK K H u g) (hf : IsF f) (hg : IsF g) (bf : Bt j f) (bg : Bt k g) (hj : j ≤ 900) (hk : k ≤ 900) : Pr K H [v, u] f.1 f.2 g.1 g.2 := by
  obtain ⟨p, rfl, hp⟩ := hv
  obtain ⟨q, rfl, hq⟩ := hu
  exact pr_sq hp hq hf hg bf bg hj hk
section
variable {P : Program} {w : World} {K : PySem.W.Frag} {mg : Str → Option Value} {base : Heap}

/-- fractions of a row, added up -/
def sp_togL (K : PySem.W.Frag) : Sp := fun vs H Q _ => ∃ (L : Addr) (xs : List V) (fs : List (Int × Int)), vs = [.ref L] ∧ SqL K H L xs ∧ AtKs K H xs fs ∧ AllF fs ∧ AllB 900 fs ∧ (∀ i, Bt 900 ((fs.take i).foldl fadd f0)) ∧
  ∀ (H' : Hp) (v : V), Same H H' → AtK K H' v (fs.foldl fadd f0) → Q v H'
/-! ### together -/
theorem sc_together : FnScope ["ones", "told", "one"] ["ones"] (defScope s_together) := ⟨rfl, rfl, rfl, by decide +kernel, rfl, by decide +kernel, by decide +kernel⟩
theorem ok_togL {f c0 : Addr} {fd : FuncData} (g0 : mg "NONE_OF_IT" = some (.ref c0)) (t0 : ∀ H, SqT K H c0 [.int 0, .int 1]) (F : Fun K "together" "together" s_together f fd) (C_plus : Cal P w K mg base CX0 5 "plus" ["one", "other"] (sp_plus K)) : FnG P w K mg base CX0 6 f fd ["ones"] (sp_togL K) := by
  refine Gfun F sc_together (fun vs H Q E h => ?_) (fun cdv A outer s H vs Q E hg hr h => ?_)
  · obtain ⟨L, xs, fs, rfl, _⟩ := h
    rfl
  · obtain ⟨L, xs, fs, rfl, hS, hA, hF, hB, hP, k⟩ := h
    refine ⟨_, (pss_cons (ps_set (i := 1) sc_together.nd rfl (.inl rfl) (pe_glob (v := .ref c0) rfl g0 rfl))
      (pss_cons (ps_for PassesOwn.never rfl (pi_list (pv 0)) (pg_name (i := 2) sc_together.nd rfl (.inl rfl))
      (pss_one (ps_set (i := 1) sc_together.nd rfl (.inl rfl) (pe_g C_plus (hr.mono (by decide)) hg (pa_cons (pv 1) (pa_cons (pv 2) pa_nil))))))
      (pss_one (ps_ret (pv 1))))), ?_⟩
    refine ⟨_, rfl, L, rfl, ⟨_, hS⟩, for_list (K := K) (a := L) (xs := xs) (fun i σ H' => ∃ (v : Option V) (t : V), σ = [some (.ref L), some t, v] ∧ Same H H' ∧ AtK K H' t ((fs.take i).foldl fadd f0))
      ⟨none, .ref c0, rfl, same_rfl, ⟨c0, rfl, t0 H⟩⟩ (fun i σ H' _ ⟨_, _, _, sm, _⟩ => sm.seq hS) ?_ ?_⟩
    · rintro i x σ H' hi ⟨v, t, rfl, sm, ht⟩
      obtain ⟨g, hgi, hx0⟩ := hA.get hi
      have hx := hx0.same sm
      have hgf : IsF g := hF g (List.mem_of_getElem? hgi)
      have bg : Bt 900 g := hB g (List.mem_of_getElem? hgi)
      have fa := (sum_fold (fs.take i) f0 f0_f (take_all hF i)).1
      refine ⟨_, rfl, _, rfl, _, _, _, _, pr_atk ht hx fa hgf (hP i) bg (Nat.le_refl _) (Nat.le_refl _), fun H2 t' s2 e2 => ?_⟩
      refine ⟨some x, _, rfl, sm.trans s2, ?_⟩
      rw [fold_take _ _ hgi]
      exact AtK.of e2
    · rintro σ H' ⟨v, t, rfl, sm, ht⟩
      refine ⟨_, rfl, k H' t sm ?_⟩
      rw [hA.length, List.take_length] at ht
      exact ht

/-! ### _law_sum -/
theorem sc__law_sum : FnScope ["_law_one", "_law_other"] ["_law_one", "_law_other"] (defScope s__law_sum) := ⟨rfl, rfl, rfl, by decide +kernel, rfl, by decide +kernel, by decide +kernel⟩
theorem ok_lsum {f : Addr} {fd : FuncData} (F : Fun K "_law_sum" "_law_sum" s__law_sum f fd) (C__law_low : Cal P w K mg base CX0 1 "_law_low" ["_law_top", "_law_bottom"] sp_low) : FnG P w K mg base CX0 2 f fd ["_law_one", "_law_other"] (sp_plus K) := by
  refine Gfun F sc__law_sum (fun vs H Q E h => ?_) (fun cdv A outer s H vs Q E hg hr h => ?_)
  · obtain ⟨a, b, c, d, h, _⟩ := h
    obtain ⟨p, q, rfl, _⟩ := h.ex
    rfl
  · obtain ⟨a, b, c, d, h, k⟩ := h
    obtain ⟨p, q, rfl, hp, hq⟩ := h.ex
    refine ⟨_, (pss_one (ps_ret (pe_g C__law_low (hr.mono (by decide)) hg (pa_cons (pe_op op_add (pe_op op_mulW (pe_ix ix_tup (pv 0) pe_int (fun _ _ => rfl)) (pe_ix ix_tup (pv 1) pe_int (fun _ _ => rfl))) (pe_op op_mulW (pe_ix ix_tup (pv 1) pe_int (fun _ _ => rfl)) (pe_ix ix_tup (pv 0) pe_int (fun _ _ => rfl)))) (pa_cons (pe_op op_mulW (pe_ix ix_tup (pv 0) pe_int (fun _ _ => rfl)) (pe_ix ix_tup (pv 1) pe_int (fun _ _ => rfl))) pa_nil))))), ?_⟩
    refine ⟨_, rfl, p, _, _, _, rfl, rfl, hp, rfl, _, rfl, q, _, _, _, rfl, rfl, hq, rfl, _, _, rfl, rfl, Sm.mulW h.a1 h.d1, ?_⟩
    refine ⟨_, rfl, q, _, _, _, rfl, rfl, hq, rfl, _, rfl, p, _, _, _, rfl, rfl, hp, rfl, _, _, rfl, rfl, Sm.mulW h.c1 h.b1, ?_⟩
    refine ⟨_, _, rfl, rfl, ?_⟩
    refine ⟨_, rfl, p, _, _, _, rfl, rfl, hp, rfl, _, rfl, q, _, _, _, rfl, rfl, hq, rfl, _, _, rfl, rfl, Sm.mulW h.b1 h.d1, ?_⟩
    exact ⟨_, _, rfl, mul_ne h.hb h.hd, Sm.mul h.b1 h.d1, k⟩

/-! ### _law_total -/
theorem sc__law_total : FnScope ["_law_some_here", "_law_found", "_law_one"] ["_law_some_here"] (defScope s__law_total) := ⟨rfl, rfl, rfl, by decide +kernel, rfl, by decide +kernel, by decide +kernel⟩
theorem ok_ltotal {f : Addr} {fd : FuncData} (F : Fun K "_law_total" "_law_total" s__law_total f fd) (C__law_sum : Cal P w K mg base CX0 2 "_law_sum" ["_law_one", "_law_other"] (sp_plus K)) : FnG P w K mg base CX0 3 f fd ["_law_some_here"] (sp_togL K) := by
  refine Gfun F sc__law_total (fun vs H Q E h => ?_) (fun cdv A outer s H vs Q E hg hr h => ?_)
  · obtain ⟨L, xs, fs, rfl, _⟩ := h
    rfl
  · obtain ⟨L, xs, fs, rfl, hS, hA, hF, hB, hP, k⟩ := h
    refine ⟨_, (pss_cons (ps_set (i := 1) sc__law_total.nd rfl (.inl rfl) (pe_tup (pa_cons pe_int (pa_cons pe_int pa_nil))))
      (pss_cons (ps_for PassesOwn.never rfl (pi_list (pv 0)) (pg_name (i := 2) sc__law_total.nd rfl (.inl rfl))
      (pss_one (ps_set (i := 1) sc__law_total.nd rfl (.inl rfl) (pe_g C__law_sum (hr.mono (by decide)) hg (pa_cons (pv 1) (pa_cons (pv 2) pa_nil))))))
      (pss_one (ps_ret (pv 1))))), ?_⟩
    refine ⟨len_show (Nat.le_of_ble_eq_true rfl), fun p0 n0 => ?_⟩
    have s0 : Same H (L2.upd H p0 (.tup [.int 0, .int 1])) := same_new n0
    have a0 : AtK K (L2.upd H p0 (.tup [.int 0, .int 1])) (.ref p0) f0 := AtK.of upd_same
    generalize L2.upd H p0 (.tup [.int 0, .int 1]) = H0 at s0 a0 ⊢
    refine ⟨_, rfl, L, rfl, ⟨_, sm_l s0 hS⟩, for_list (K := K) (a := L) (xs := xs) (fun i σ H' => ∃ (v : Option V) (t : V), σ = [some (.ref L), some t, v] ∧ Same H H' ∧ AtK K H' t ((fs.take i).foldl fadd f0))
      ⟨none, .ref p0, rfl, s0, a0⟩ (fun i σ H' _ ⟨_, _, _, sm, _⟩ => sm.seq hS) ?_ ?_⟩
    · rintro i x σ H' hi ⟨v, t, rfl, sm, ht⟩
      obtain ⟨g, hgi, hx0⟩ := hA.get hi
      have hx := hx0.same sm
      have hgf : IsF g := hF g (List.mem_of_getElem? hgi)
      have bg : Bt 900 g := hB g (List.mem_of_getElem? hgi)
      have fa := (sum_fold (fs.take i) f0 f0_f (take_all hF i)).1
      refine ⟨_, rfl, _, rfl, _, _, _, _, pr_atk ht hx fa hgf (hP i) bg (Nat.le_refl _) (Nat.le_refl _), fun H2 t' s2 e2 => ?_⟩
      refine ⟨some x, _, rfl, sm.trans s2, ?_⟩
      rw [fold_take _ _ hgi]
      exact AtK.of e2
    · rintro σ H' ⟨v, t, rfl, sm, ht⟩
      refine ⟨_, rfl, k H' t sm ?_⟩
      rw [hA.length, List.take_length] at ht
      exact ht

end
end Lf

set_option Elab.async false
set_option linter.all false
set_option maxRecDepth 100000
set_option maxHeartbeats 4000000
set_option exponentiation.threshold 3000
namespace Lf
open PySem PySem.Spec PyProof.Rows L2
theorem op_notInK {X : Cx} {K : PySem.W.Frag} (h : X.A.units + 65 < cLine) (hK : X.K = K := by rfl) : OpR X (compareOp .NotIn) (rNotInD K) := by
  subst hK
  exact op_notInD h
def AllL (z : Str) : Prop := ∀ c ∈ z.cps.toList, inL c = true
theorem al_app {x y : Str} (h : AllL x) (k : AllL y) : AllL (x ++ y) := by
  intro c hc
  have e : (x ++ y).cps.toList = x.cps.toList ++ y.cps.toList := by
    rw [show (x ++ y).cps = x.cps ++ y.cps from rfl, Array.toList_append]
  rw [e] at hc
  rcases List.mem_append.mp hc with q | q
  · exact h c q
  · exact k c q
theorem nm_join : ∀ ys : List Str, (∀ y ∈ ys, y.length = 1 ∧ AllL y) → ys ≠ [] → (Str.join (Str.ofString "") ys).length = ys.length ∧ AllL (Str.join (Str.ofString "") ys)
  | [], _, h => absurd rfl h
  | [x], h, _ => h x List.mem_cons_self
  | x :: y :: r, h, _ => by
    obtain ⟨l, a⟩ := nm_join (y :: r) (fun z hz => h z (List.mem_cons_of_mem _ hz)) (by simp)
    obtain ⟨l1, a1⟩ := h x List.mem_cons_self
    have e : Str.join (Str.ofString "") (x :: y :: r) = x ++ Str.ofString "" ++ Str.join (Str.ofString "") (y :: r) := rfl
    have e0 : AllL (Str.ofString "") := fun c hc => by
      have : (Str.ofString "").cps.toList = [] := by decide +kernel
      rw [this] at hc
      cases hc
    rw [e]
    refine ⟨?_, al_app (al_app a1 e0) a⟩
    rw [PySem.Str.length_append, PySem.Str.length_append, l1, l, show (Str.ofString "").length = 0 by decide +kernel, List.length_cons (a := x)]
    omega
theorem pot_same {H H' : Hp} {q : Addr} (h : Pot H q) (s : Same H H') : Pot H' q := by
  obtain ⟨x, y, a, b, e⟩ := h
  exact ⟨x, y, a, b, s _ _ e⟩
theorem inL_lt {c : Nat} (h : inL c = true) : c < 0x110000 := by
  have hc : c ∈ lets.cps.toList := of_decide_eq_true h
  have all : ∀ x ∈ lets.cps.toList, x < 0x110000 := by decide +kernel
  exact all c hc
theorem al_cut {z : Str} (lo hi : Option Int) (h : AllL z) : AllL (cutS z lo hi) := fun c hc => h c (List.mem_of_mem_drop (List.mem_of_mem_take (show c ∈ ((z.cps.toList.drop _).take _) by simpa [cutS] using hc)))
theorem al_shaped {z : Str} (h : AllL z) : SeqAt.shaped (.str z) = true := by
  unfold SeqAt.shaped
  rw [Bool.and_eq_true]
  refine ⟨?_, decide_eq_true ?_⟩
  · simp only [PyData.canLay0, PyData.strOk]
    simp
    intro c hc
    exact inL_lt (h _ (by simp))
  · simp only [PyData.depth]
    omega
theorem sq_but {K : PySem.W.Frag} {H H' : Hp} {q t : Addr} {xs : List V} (b : But q H H') (n : t ≠ q) (h : SqL K H t xs) : SqL K H' t xs := by
  rcases h with (h | ⟨o, h⟩) | h
  · exact .inl (.inl (b _ _ n h))
  · exact .inl (.inr ⟨o, b _ _ n h⟩)
  · exact .inr h
theorem ones_sum : ∀ ys : List Str, (∀ y ∈ ys, y.length = 1 ∧ AllL y) → (ys.map (·.length)).sum = ys.length
  | [], _ => rfl
  | y :: r, h => by
    rw [List.map_cons, List.sum_cons, (h y List.mem_cons_self).1, ones_sum r fun z hz => h z (List.mem_cons_of_mem _ hz), List.length_cons]
    omega
/-- the letter at a place -/
def letC (i : Nat) : Nat := ((Str.ofString "abcdefghijklmnopqrstuvwxyz").cps[i]?).getD 0
/-- the i-th of the other names that are tried -/
def cand (z : Str) (i : Nat) : Str := cutS z none (some 8) ++ ⟨#[letC i]⟩ ++ Str.ofString "q"
theorem cand_inj {z : Str} {i j : Nat} (hi : i < 26) (hj : j < 26) (e : cand z i = cand z j) : i = j := by
  have e2 := congrArg (fun x : Str => x.cps.toList) e
  have tl : ∀ k, (cand z k).cps.toList = (cutS z none (some 8)).cps.toList ++ [letC k] ++ (Str.ofString "q").cps.toList := fun k => by
    unfold cand
    rw [show ∀ x y : Str, (x ++ y).cps = x.cps ++ y.cps from fun _ _ => rfl, Array.toList_append, show ∀ x y : Str, (x ++ y).cps = x.cps ++ y.cps from fun _ _ => rfl, Array.toList_append]
  simp only [tl] at e2
  have e3 := List.append_cancel_left (List.append_cancel_right e2)
  have e4 : letC i = letC j := (List.cons.inj e3).1
  have all : ∀ a < 26, ∀ b < 26, letC a = letC b → a = b := by decide +kernel
  exact all i hi j hj e4
theorem nodup_le {α : Type} [DecidableEq α] : ∀ (l m : List α), l.Nodup → (∀ x ∈ l, x ∈ m) → l.length ≤ m.length
  | [], _, _, _ => Nat.zero_le _
  | x :: l, m, hn, h => by
    have hx := h x List.mem_cons_self
    have r := nodup_le l (m.erase x) (List.nodup_cons.mp hn).2 fun y hy => by
      have ny : y ≠ x := fun z => (List.nodup_cons.mp hn).1 (by rw [← z]; exact hy)
      exact (List.mem_erase_of_ne ny).mpr (h y (List.mem_cons_of_mem _ hy))
    rw [List.length_erase_of_mem hx] at r
    have : 0 < m.length := List.length_pos_of_mem hx
    rw [List.length_cons]
    omega
/-- one of the names that are tried is not taken -/
theorem one_free {z : Str} {ts : List Str} (h : ts.length ≤ 25) : ∃ i, i < 26 ∧ cand z i ∉ ts := by
  apply Classical.byContradiction
  intro no
  have all : ∀ i, i < 26 → cand z i ∈ ts := fun i hi => Classical.byContradiction fun q => no ⟨i, hi, q⟩
  have nd : ((List.range 26).map (cand z)).Nodup := by
    refine List.Pairwise.map _ ?_ (List.Pairwise.and_mem.mp (List.nodup_range (n := 26)))
    rintro a b ⟨ha, hb, hab⟩ e
    exact hab (cand_inj (List.mem_range.mp ha) (List.mem_range.mp hb) e)
  have := nodup_le _ ts nd fun x hx => by
    obtain ⟨i, hi, rfl⟩ := List.mem_map.mp hx
    exact all i (List.mem_range.mp hi)
  rw [List.length_map, List.length_range] at this
  omega
theorem strs_dp {K : PySem.W.Frag} {H : Hp} : ∀ ts : List Str, DpAll K H (ts.map V.str) (ts.map PyData.str)
  | [] => .nil
  | t :: ts => .cons (.str t) (strs_dp ts)
theorem strs_shaped {ts : List Str} (h : ∀ t ∈ ts, AllL t) : SeqAt.shaped (.list (ts.map PyData.str)) = true := by
  have key : ∀ ts : List Str, (∀ t ∈ ts, AllL t) → PyData.canLayAll0 (ts.map PyData.str) = true ∧ PyData.depthAll (ts.map PyData.str) = 0 := by
    intro ts
    induction ts with
    | nil => exact fun _ => ⟨by simp only [List.map_nil, PyData.canLayAll0], by simp only [List.map_nil, PyData.depthAll]⟩
    | cons t ts ih =>
      intro h
      obtain ⟨i1, i2⟩ := ih fun x hx => h x (List.mem_cons_of_mem _ hx)
      have a := SeqAt.canLay_of_shaped (al_shaped (h t List.mem_cons_self))
      exact ⟨by simp only [List.map_cons, PyData.canLayAll0, i1, a, Bool.and_self], by simp only [List.map_cons, PyData.depthAll, PyData.depth, i2, Nat.max_self]⟩
  obtain ⟨i1, i2⟩ := key ts h
  unfold SeqAt.shaped
  rw [Bool.and_eq_true]
  refine ⟨by simp only [PyData.canLay0]; exact i1, decide_eq_true ?_⟩
  simp only [PyData.depth, i2]
  omega
theorem strs_any (y : Str) : ∀ ts : List Str, ((ts.map PyData.str).any fun d => PyData.eqv d (.str y)) = decide (y ∈ ts)
  | [] => by simp
  | t :: ts => by
    rw [List.map_cons, List.any_cons, strs_any y ts]
    have e : PyData.eqv (.str t) (.str y) = decide (t = y) := by
      simp only [PyData.eqv]
      by_cases h : t = y
      · subst h
        simp
      · simp [h]
    rw [e]
    by_cases h : t = y
    · subst h
      simp
    · have h' : ¬ y = t := fun z => h z.symm
      simp [h, h']
theorem nm_al {z : Str} (h : isNm (.str z) = true) : AllL z ∧ 1 ≤ z.length ∧ z.length ≤ 10 := by
  have h' : (decide (1 ≤ z.length) && decide (z.length ≤ 10) && List.all z.cps.toList inL) = true := h
  rw [Bool.and_eq_true, Bool.and_eq_true] at h'
  exact ⟨fun c hc => List.all_eq_true.mp h'.2 c hc, of_decide_eq_true h'.1.1, of_decide_eq_true h'.1.2⟩
theorem al_nm {z : Str} (h : AllL z) (h1 : 1 ≤ z.length) (h2 : z.length ≤ 10) : isNm (.str z) = true := by
  show (decide (1 ≤ _) && decide (_ ≤ 10) && List.all _ inL) = true
  rw [decide_eq_true h1, decide_eq_true h2, Bool.and_self, Bool.true_and, List.all_eq_true]
  exact h
section
variable {P : Program} {w : World} {K : PySem.W.Frag} {mg : Str → Option Value} {base : Heap}

/-! ### _law_name -/
theorem sc__law_name : FnScope ["_law_pot_here", "_law_taken", "_law_letters", "_law_size", "_law_name_here", "_law_some_here", "_law_k", "_law_one"] ["_law_pot_here", "_law_taken"] (defScope s__law_name) := ⟨rfl, rfl, rfl, by decide +kernel, rfl, by decide +kernel, by decide +kernel⟩
/-- a name: one to ten small letters -/
def sp_name (K : PySem.W.Frag) : Sp := fun vs H Q _ => ∃ (q t : Addr) (ts : List Str), vs = [.ref q, .ref t] ∧ t ≠ q ∧ Pot H q ∧ SqL K H t (ts.map V.str) ∧ ts.length ≤ 25 ∧ (∀ x ∈ ts, AllL x) ∧ ∀ (z : Str) (H' : Hp), isNm (.str z) = true → z.length ≤ 10 → z ∉ ts → Pot H' q → But q H H' → Q (.str z) H'
theorem ok_name {f : Addr} {fd : FuncData} (M : Blt mg) (F : Fun K "_law_name" "_law_name" s__law_name f fd) (C__law_draw : Cal P w K mg base CX0 1 "_law_draw" ["_law_pot_here", "_law_many"] sp_draw) : FnG P w K mg base CX0 2 f fd ["_law_pot_here", "_law_taken"] (sp_name K) := by
  refine Gfun F sc__law_name (fun vs H Q E h => ?_) (fun cdv A outer s H vs Q E hg hr h => ?_)
  · obtain ⟨q, t, ts, rfl, _⟩ := h
    rfl
  · obtain ⟨q, t, ts, rfl, ntq, hP, ht, h25, hts, k⟩ := h
    refine ⟨_, (pss_cons (ps_set (i := 2) sc__law_name.nd rfl (.inr rfl) pe_str)
      (pss_cons (ps_set (i := 3) sc__law_name.nd rfl (by first | exact .inl rfl | exact .inr rfl) (pe_op op_add pe_int (pe_g C__law_draw (hr.mono (by decide)) hg (pa_cons (pv 0) (pa_cons (pe_ix ix_list (pe_lst (pa_cons pe_int (pa_cons pe_int (pa_cons pe_int pa_nil)))) (pe_g C__law_draw (hr.mono (by decide)) hg (pa_cons (pv 0) (pa_cons pe_int pa_nil))) (fun _ _ => rfl)) pa_nil)))))
      (pss_cons (ps_set (i := 4) sc__law_name.nd rfl (.inr rfl) (pe_bm PySem.F.plainAttrs_str PySem.F.slot_str_join PySem.F.type_str_join mt_join pe_str (pa_cons (pe_lc (own := [("_law_k", 6)]) (g := gName 6) (tt := tYes) rfl sc__law_name.nd (pi_range1 rfl M.range (pa_cons (pv 3) pa_nil)) (blkOk_by (N := ["_law_pot_here", "_law_taken", "_law_letters", "_law_size", "_law_name_here", "_law_some_here", "_law_k", "_law_one"]) (sc := defScope s__law_name) (by decide +kernel)) (fun _ _ _ _ _ => pg_name (i := 6) sc__law_name.nd rfl (Or.inl rfl)) (fun _ _ _ _ _ => pts_nil) (fun _ _ _ _ _ => (pe_item_str (pv 2) (pe_g C__law_draw (hr.mono (by decide)) hg (pa_cons (pv 0) (pa_cons pe_int pa_nil))) (fun _ _ => rfl)))) pa_nil)))
      (pss_cons (ps_set (i := 5) sc__law_name.nd rfl (by first | exact .inl rfl | exact .inr rfl) (pe_op op_cat (pe_lst (pa_cons (pv 4) pa_nil)) (pe_lc (own := [("_law_k", 6)]) (g := gName 6) (tt := tYes) rfl sc__law_name.nd (pi_range1 rfl M.range (pa_cons pe_int pa_nil)) (blkOk_by (N := ["_law_pot_here", "_law_taken", "_law_letters", "_law_size", "_law_name_here", "_law_some_here", "_law_k", "_law_one"]) (sc := defScope s__law_name) (by decide +kernel)) (fun _ _ _ _ _ => pg_name (i := 6) sc__law_name.nd rfl (Or.inl rfl)) (fun _ _ _ _ _ => pts_nil) (fun _ _ _ _ _ => (pe_op op_add_str (pe_op op_add_str (pe_slice sl_str (pv 4) po_none (po_some pe_int)) (pe_item_str (pv 2) (pv 6) (fun _ _ => rfl))) pe_str)))))
      (pss_one (ps_ret (pe_ix ix_list (pe_lc (own := [("_law_one", 7)]) (g := gName 7) rfl sc__law_name.nd (pi_list (pv 5)) (blkOk_by (N := ["_law_pot_here", "_law_taken", "_law_letters", "_law_size", "_law_name_here", "_law_some_here", "_law_k", "_law_one"]) (sc := defScope s__law_name) (by decide +kernel)) (fun _ _ _ _ _ => pg_name (i := 7) sc__law_name.nd rfl (Or.inl rfl)) (fun _ _ _ _ _ => (pts_one (pt_cmpR (op_notInK (K := K) (by exact u65 hr)) (pv 7) (pv 1) rfl))) (fun _ _ _ _ _ => (pv 7))) pe_int (fun _ _ => rfl)))))))), ?_⟩
    refine ⟨_, rfl, by decide, fun p3 hp3 => ⟨_, rfl, q, 3, rfl, by decide, by decide, ?_, fun r1 H1 r10 r11 hP1 b1 => ?_⟩⟩
    · exact pot_same hP (same_new hp3)
    have b01 : But q H H1 := fun b o nb e => b1 _ _ nb (by rw [upd_ne (ne_of_none e hp3)]; exact e)
    have np3 : p3 ≠ q := fun z => by
      obtain ⟨x, y, _, _, e⟩ := hP
      rw [← z, hp3] at e
      cases e
    have e3 : H1 p3 = some (.lst [.int 1, .int 3, .int 10]) := b1 _ _ np3 upd_same
    obtain ⟨m, hm1, hm2, hat⟩ : ∃ m : Int, 1 ≤ m ∧ m ≤ 10 ∧ atI [V.int 1, V.int 3, V.int 10] r1 = some (.int m) := by
      have h3 : r1 = 0 ∨ r1 = 1 ∨ r1 = 2 := by omega
      rcases h3 with rfl | rfl | rfl
      · exact ⟨1, by decide, by decide, rfl⟩
      · exact ⟨3, by decide, by decide, rfl⟩
      · exact ⟨10, by decide, by decide, rfl⟩
    refine ⟨p3, _, r1, _, rfl, rfl, .inl (.inl e3), hat, q, m, rfl, by omega, ?_, hP1, fun r2 H2 r20 r21 hP2 b2 => ?_⟩
    · exact Nat.lt_of_lt_of_le (show m.natAbs < 2 ^ 5 by show m.natAbs < 32; omega) (Nat.pow_le_pow_right (by decide) (by decide))
    have b02 : But q H H2 := fun b o nb e => b2 _ _ nb (b01 _ _ nb e)
    refine ⟨_, _, rfl, rfl, rfl, _, rfl, _, rfl, by omega, by omega, fun D hD => ?_⟩
    have nDq : D ≠ q := fun z => by
      obtain ⟨x, y, _, _, e⟩ := hP2
      rw [← z, hD] at e
      cases e
    have hl26 : (Str.ofString "abcdefghijklmnopqrstuvwxyz").length = 26 := by decide +kernel
    have keepD : ∀ b o, b ≠ q → H b = some o → b ≠ D := fun b o nb eb z => by
      have := b02 _ _ nb eb
      rw [z, hD] at this
      cases this
    refine lc_range (lo := 0) (n := (1 + r2).toNat) (fun i H' => ∃ ys : List Str, H' D = some (.lst (ys.map V.str)) ∧ ys.length = i ∧ (∀ y ∈ ys, y.length = 1 ∧ AllL y) ∧ Pot H' q ∧ But q H H')
      ⟨[], upd_same, rfl, (fun y h => nomatch h), pot_same hP2 (same_new hD), fun b o nb e => by rw [upd_ne (keepD b o nb e)]; exact b02 _ _ nb e⟩ ?_ ?_
    · rintro i H5 hi ⟨ys, eD, hl, hy, hP5, b5⟩
      refine ⟨rfl, _, rfl, _, rfl, q, 26, rfl, by decide, by decide, hP5, fun r6 H6 r60 r61 hP6 b6 => ?_⟩
      have hlt : r6.toNat < (Str.ofString "abcdefghijklmnopqrstuvwxyz").cps.size := by
        show r6.toNat < (Str.ofString "abcdefghijklmnopqrstuvwxyz").length
        omega
      obtain ⟨c6, hgc⟩ : ∃ c6, (Str.ofString "abcdefghijklmnopqrstuvwxyz").cps[r6.toNat]? = some c6 := ⟨_, Array.getElem?_eq_getElem hlt⟩
      refine ⟨_, r6, c6, rfl, rfl, r60, by omega, by omega, hgc, ys.map V.str, b6 _ _ nDq eD, ?_, ys ++ [⟨#[c6]⟩], ?_, ?_, ?_, ?_, ?_⟩
      · rw [List.length_map, sizeLine_eq]
        omega
      · rw [upd_same, List.map_append]
        rfl
      · rw [List.length_append, hl]
        rfl
      · intro y h
        rcases List.mem_append.mp h with z | z
        · exact hy y z
        · rw [List.mem_singleton.mp z]
          refine ⟨rfl, fun c hc => ?_⟩
          have : c = c6 := by simpa using hc
          rw [this]
          exact decide_eq_true (List.mem_of_getElem? (by rw [Array.getElem?_toList]; exact hgc))
      · obtain ⟨x, y, y0, y1, eP⟩ := hP6
        refine ⟨x, y, y0, y1, ?_⟩
        rw [upd_ne nDq.symm]
        exact eP
      · intro b o nb eb
        rw [upd_ne (keepD b o nb eb)]
        exact b6 _ _ nb (b5 _ _ nb eb)
    rintro H5 ⟨ys, eD, hl, hy, hP5, b5⟩
    have ne : ys ≠ [] := fun z => by
      rw [z] at hl
      have : (0 : Nat) = (1 + r2).toNat := hl
      omega
    obtain ⟨jl, ja⟩ := nm_join ys hy ne
    rw [← StrLaws.glued_eq_join] at jl ja
    have jl' : (Txt.join (Str.ofString "") ys).length = (1 + r2).toNat := jl.trans hl
    refine ⟨_, D, ys, rfl, rfl, .inl (.inl (.inl eD)), ?_, ?_⟩
    · rw [ones_sum ys hy, show (Str.ofString "").length = 0 by decide +kernel, Nat.mul_zero]
      omega
    have hnm : isNm (.str (Txt.join (Str.ofString "") ys)) = true := by
      show (decide (1 ≤ _) && decide (_ ≤ 10) && List.all _ inL) = true
      rw [decide_eq_true (by omega), decide_eq_true (by omega), Bool.and_self, Bool.true_and, List.all_eq_true]
      exact ja
    have hle : (Txt.join (Str.ofString "") ys).length ≤ 10 := by omega
    have hal : AllL (Txt.join (Str.ofString "") ys) := ja
    generalize Txt.join (Str.ofString "") ys = z at hnm hle hal ⊢
    refine ⟨_, rfl, by show 1 ≤ sizeLine; decide, fun l1 hl1 => ⟨_, rfl, by decide, by decide, fun D2 hD2 => ?_⟩⟩
    have s56 : Same H5 (upd H5 l1 (.lst [.str z])) := same_new hl1
    have e6 : upd H5 l1 (.lst [.str z]) l1 = some (.lst [.str z]) := upd_same
    generalize upd H5 l1 (.lst [.str z]) = H6 at s56 e6 hD2 ⊢
    refine lc_range (lo := 0) (n := 26) (fun i H' => ∃ zs : List Str, H' D2 = some (.lst (zs.map V.str)) ∧ zs.length = i ∧ zs = (List.range i).map (cand z) ∧ (∀ y ∈ zs, AllL y ∧ 1 ≤ y.length ∧ y.length ≤ 10) ∧ Same H6 H') ⟨[], upd_same, rfl, rfl, (fun y h => nomatch h), same_new hD2⟩ ?_ ?_
    · rintro i H7 hi ⟨zs, eD2, hl2, hz2, hy2, s67⟩
      have hlt : i < (Str.ofString "abcdefghijklmnopqrstuvwxyz").cps.size := by
        show i < (Str.ofString "abcdefghijklmnopqrstuvwxyz").length
        omega
      obtain ⟨c7, hgc⟩ : ∃ c7, (Str.ofString "abcdefghijklmnopqrstuvwxyz").cps[i]? = some c7 := ⟨_, Array.getElem?_eq_getElem hlt⟩
      have c1 := cutS_length z none (some 8)
      have l1' : (⟨#[c7]⟩ : Str).length = 1 := rfl
      have lq : (Str.ofString "q").length = 1 := by decide +kernel
      have zl := sizeLine_eq
      have ea : ((0 : Int) + (i : Int)).toNat = i := by omega
      refine ⟨rfl, _, rfl, 8, rfl, _, rfl, by omega, _, rfl, _, rfl, _, _, c7, rfl, rfl, by omega, by omega, by omega, by rw [ea]; exact hgc, _, _, rfl, rfl, by omega, _, _, rfl, rfl, ?_, zs.map V.str, eD2, ?_, zs ++ [cutS z none (some 8) ++ ⟨#[c7]⟩ ++ Str.ofString "q"], ?_, ?_, ?_, ?_, ?_⟩
      · rw [PySem.Str.length_append]
        omega
      · rw [List.length_map]
        omega
      · rw [upd_same, List.map_append]
        rfl
      · rw [List.length_append, hl2]
        rfl
      · rw [List.range_succ, List.map_append, ← hz2]
        have e7 : letC i = c7 := by
          unfold letC
          rw [hgc]
          rfl
        show zs ++ [_] = zs ++ [cand z i]
        unfold cand
        rw [e7]
      · intro y h
        rcases List.mem_append.mp h with zz | zz
        · exact hy2 y zz
        · rw [List.mem_singleton.mp zz]
          have c8 : (cutS z none (some 8)).length ≤ 8 := by
            have hh : HT.sIx z.length z.length (some 8) ≤ 8 := by
              unfold HT.sIx
              simp
              omega
            have h0 : HT.sIx z.length 0 none = 0 := by simp [HT.sIx]
            show ((z.cps.toList.drop _).take _).toArray.size ≤ 8
            simp
            omega
          refine ⟨?_, by rw [PySem.Str.length_append, PySem.Str.length_append]; omega, by rw [PySem.Str.length_append, PySem.Str.length_append]; omega⟩
          refine al_app (al_app (al_cut _ _ hal) fun c hc => ?_) fun c hc => ?_
          · have : c = c7 := by simpa using hc
            rw [this]
            exact decide_eq_true (List.mem_of_getElem? (by rw [Array.getElem?_toList]; exact hgc))
          · have : (Str.ofString "q").cps.toList = [113] := by decide +kernel
            rw [this] at hc
            rw [List.mem_singleton.mp hc]
            decide +kernel
      · intro b o e
        rw [upd_ne (ne_of_none e hD2)]
        exact s67 _ _ e
    rintro H7 ⟨zs, eD2, hl2, hz2, hy2, s67⟩
    refine ⟨l1, D2, [.str z], zs.map V.str, rfl, rfl, s67 _ _ e6, eD2, by rw [List.length_map, hl2, sizeLine_eq]; show 1 + 26 ≤ 16777216; decide, fun l2 hl2' => ?_⟩
    have s78 : Same H7 (upd H7 l2 (.lst ([.str z] ++ zs.map V.str))) := same_new hl2'
    have e8 : upd H7 l2 (.lst ([.str z] ++ zs.map V.str)) l2 = some (.lst ((z :: zs).map V.str)) := upd_same
    generalize upd H7 l2 (.lst ([.str z] ++ zs.map V.str)) = H8 at s78 e8 ⊢
    have s58 := (s56.trans s67).trans s78
    refine ⟨_, rfl, l2, rfl, ⟨_, .inl (.inl e8)⟩, fun D3 hD3 => ?_⟩
    have nD3 : ∀ b o, H8 b = some o → b ≠ D3 := fun b o e => ne_of_none e hD3
    refine lc_list (xs := (z :: zs).map V.str) (fun i H' => Same H8 H' ∧ H' D3 = some (.lst ((((z :: zs).take i).filter fun y => !decide (y ∈ ts)).map V.str))) ⟨same_new hD3, upd_same⟩ (fun i H' _ h => .inl (.inl (h.1 _ _ e8))) ?_ ?_
    · rintro i y H9 hy9 ⟨s89, e9⟩
      rw [List.getElem?_map] at hy9
      obtain ⟨y', hy', rfl⟩ : ∃ y', (z :: zs)[i]? = some y' ∧ y = .str y' := by
        cases h : (z :: zs)[i]? with
        | none => rw [h] at hy9; cases hy9
        | some y' => rw [h] at hy9; exact ⟨y', rfl, (Option.some.inj hy9).symm⟩
      have aly : AllL y' := by
        rcases List.mem_cons.mp (List.mem_of_getElem? hy') with rfl | h
        · exact hal
        · exact (hy2 y' h).1
      have ht9 : SqL K H9 t (ts.map V.str) := sm_l (s58.trans s89) (sq_but b5 ntq ht)
      have hi : i < (z :: zs).length := (List.getElem?_eq_some_iff.mp hy').1
      rw [List.length_cons, hl2] at hi
      refine ⟨rfl, _, rfl, _, rfl, .str y', ts.map PyData.str, .str _, .lst ht9 (strs_dp ts), al_shaped aly, strs_shaped hts, _, rfl, ?_⟩
      rw [strs_any]
      refine ite2 (fun c => ?_) (fun c => ?_)
      · refine ⟨_, rfl, _, e9, ?_, fun b o e => ?_, ?_⟩
        · have := List.length_filter_le (fun y => !decide (y ∈ ts)) ((z :: zs).take i)
          rw [List.length_take] at this
          rw [List.length_map, sizeLine_eq]
          omega
        · rw [upd_ne (nD3 b o e)]
          exact s89 _ _ e
        · rw [upd_same, List.take_succ, hy', Option.toList_some, List.filter_append, List.filter_cons, c, if_pos rfl, List.map_append]
          rfl
      · refine ⟨s89, ?_⟩
        rw [e9, List.take_succ, hy', Option.toList_some, List.filter_append, List.filter_cons, if_neg c, List.filter_nil, List.append_nil]
    · rintro H9 ⟨s89, e9⟩
      rw [List.length_map, List.take_length] at e9
      have hb9 : But q H H9 := fun b o nb e => (s58.trans s89) _ _ (b5 _ _ nb e)
      obtain ⟨y, hy, hyt⟩ : ∃ y ∈ z :: zs, y ∉ ts := by
        obtain ⟨i, hi, hn⟩ := one_free (z := z) h25
        exact ⟨cand z i, List.mem_cons_of_mem _ (by rw [hz2]; exact List.mem_map_of_mem (List.mem_range.mpr hi)), hn⟩
      have hm : y ∈ (z :: zs).filter fun y => !decide (y ∈ ts) := List.mem_filter.mpr ⟨hy, by simp [hyt]⟩
      cases hf : (z :: zs).filter fun y => !decide (y ∈ ts) with
      | nil => rw [hf] at hm; cases hm
      | cons x r =>
        rw [hf] at e9
        have hx : x ∈ (z :: zs).filter fun y => !decide (y ∈ ts) := by rw [hf]; exact List.mem_cons_self
        obtain ⟨hx1, hx2⟩ := List.mem_filter.mp hx
        have hxt : x ∉ ts := by simpa using hx2
        have hxn : isNm (.str x) = true ∧ x.length ≤ 10 := by
          rcases List.mem_cons.mp hx1 with rfl | h
          · exact ⟨hnm, hle⟩
          · obtain ⟨a1, a2, a3⟩ := hy2 x h
            exact ⟨al_nm a1 a2 a3, a3⟩
        exact ⟨D3, _, 0, _, rfl, rfl, .inl (.inl e9), atI_nat (j := 0) rfl, k x H9 hxn.1 hxn.2 hxt (pot_same hP5 (s58.trans s89)) hb9⟩
end
end Lf

set_option Elab.async false
set_option linter.all false
/-! Heaps without what stands at a place, and what is new in a heap. -/
namespace Lf
open PySem PySem.Spec PyProof.Rows L2
def wo (q : Addr) (H : Hp) : Hp := fun b => if b = q then none else H b
theorem wo_at {q p : Addr} {H : Hp} {o : HO} (n : p ≠ q) (e : H p = some o) : wo q H p = some o := by
  unfold wo
  rw [if_neg n]
  exact e
theorem wo_le {q : Addr} {H : Hp} : Same (wo q H) H := fun b o e => by
  unfold wo at e
  split at e
  · cases e
  · exact e
theorem wo_not {q p : Addr} {H : Hp} {o : HO} (e : wo q H p = some o) : p ≠ q := fun z => by
  unfold wo at e
  rw [if_pos z] at e
  cases e
theorem wo_wo {q : Addr} {H H' : Hp} (s : Same H H') : Same (wo q H) (wo q H') := fun b o e => wo_at (wo_not e) (s _ _ (wo_le _ _ e))
theorem wo_upd {q : Addr} {H : Hp} {o : HO} : Same (wo q H) (wo q (upd H q o)) := fun b o e => wo_at (wo_not e) (by rw [upd_ne (wo_not e)]; exact wo_le _ _ e)
/-- what is new -/
def nw (H H' : Hp) : Hp := fun b => match H b with | none => H' b | some _ => none
theorem nw_at {H H' : Hp} {p : Addr} {o : HO} (m : H p = none) (e : H' p = some o) : nw H H' p = some o := by
  unfold nw
  rw [m]
  exact e
theorem nw_of {H H' : Hp} {p : Addr} {o : HO} (e : nw H H' p = some o) : H p = none ∧ H' p = some o := by
  unfold nw at e
  cases h : H p with
  | none =>
    rw [h] at e
    exact ⟨rfl, e⟩
  | some u =>
    rw [h] at e
    cases e
theorem upd_twice {H : Hp} {a : Addr} {o o' : HO} : upd (upd H a o) a o' = upd H a o' := by
  funext b
  by_cases h : b = a
  · rw [h, upd_same, upd_same]
  · rw [upd_ne h, upd_ne h, upd_ne h]
theorem same_none {H H' : Hp} {a : Addr} (s : Same H H') (h : H' a = none) : H a = none := by
  cases e : H a with
  | none => rfl
  | some o =>
    rw [s _ _ e] at h
    cases h
end Lf

set_option Elab.async false
set_option linter.all false
set_option maxRecDepth 100000
set_option maxHeartbeats 4000000
/-! Own classes made, and their methods called, where no guard stands (FnG). -/
namespace Lf
open PySem PySem.Spec PyProof.Rows L2
theorem make_guards {A : Around} (h : A.guards = some []) (C : Addr) (us : List Value) (kw : List (Str × Value)) : (A.under (.builtin "type.__call__" ⟨.ref C :: us, kw⟩)).guards = some [] := by
  show pushGuards (Code.guards (.builtin "type.__call__" ⟨.ref C :: us, kw⟩)) A.guards = some []
  rw [h]
  rfl
section
variable {X : Cx} {CX : CXT} {k n : Nat} {f C : Addr} {fd : FuncData} {ps ks : List Str} {sp : Sp} {x m : Str} {p pos apos : Pos} {e o : Expr} {es : List Expr} {kws : List Keyword} {ta : TE} {t tk : TA} {g : List Value → List Value → List Value} {gV : List V → List V → List V}
/-- an __init__ runs on a new object -/
theorem run_mkG {pins : List (Addr × Obj)} {σ : L2.St} {H : Hp} {s : Shared} {Q : VK} {us ws : List Value} {vs zs : List V} {E : XK} (M : Mk X.K C f) (F : FnG X.prog X.w X.K X.mg X.base CX k f fd ps sp) (hr : Room (k + 1) X.A) (hG : X.A.guards = some []) (hb : KBn X.K fd ps (n + 1) ks g gV)
    (hx : PassesAt CX X σ E) (I : Inv X pins σ H s) (r : Vals vs us) (rz : Vals zs ws) (l1 : vs.length = n) (l2 : zs.length = ks.length)
    (h : ∀ x dx, H x = none → H dx = none → dx ≠ x → sp (gV (.ref x :: vs) zs) (upd (upd H dx (.own x)) x (.ins C dx [])) (fun v H2 => v = .non ∧ Q (.ref x) H2) E) :
    wpAny (model X.prog X.w) X.A (call (.ref C) us (ks.zip ws)) (EP X pins σ Q) X.xe s := by
  have hq := h (s.heap.objs.size + 1) s.heap.objs.size (I.hok.fresh (Nat.le_succ _)) (I.hok.fresh (Nat.le_refl _)) (Nat.ne_of_lt (Nat.lt_succ_self _))
  have I2 := Inv.made (C := C) I
  have r1 : Vals (V.ref (s.heap.objs.size + 1) :: vs) (Value.ref (s.heap.objs.size + 1) :: us) := .cons rfl r
  have r2 := hb.rel r1 rz
  have lu : (Value.ref (s.heap.objs.size + 1) :: us).length = n + 1 := by
    rw [List.length_cons, ← Paired.length r, l1]
  have lw : ws.length = ks.length := by rw [← Paired.length rz, l2]
  refine wpAny_call (make_map (f := f) I.kIn M.makes M.init (beq_iff_eq.mp M.fn) (codeAny_mono (F.goes _ X.stack _ _ ⟨Value.ref (s.heap.objs.size + 1) :: us, ks.zip ws⟩ _ _ _ E (hr.make C us (ks.zip ws)) (make_guards hG C us (ks.zip ws))
    (I2.env0.make C us (ks.zip ws)) (hb.to _ _ _ I2.kIn lu lw) r2 hq) fun r s' hq' => ?_))
  cases r with
  | error e => exact hx pins _ _ e s' I2 hq'
  | ok fl =>
    cases fl with
    | ret u =>
      obtain ⟨v, H', I3, rv, ev, q3⟩ := I2.after hq'
      subst ev
      exact ⟨rv, ⟨V.ref (s.heap.objs.size + 1), H', I3, rfl, q3⟩⟩
    | next => exact False.elim hq'
    | brk => exact False.elim hq'
    | cont => exact False.elim hq'
/-- C(e, ..), C(e, .., k = v, ..) -/
def tMkG (C : Addr) (n m : Nat) (sp : Sp) (gV : List V → List V → List V) (E : L2.St → XK) (t tk : TA) : TE := fun σ H Q => t σ H fun vs H1 => tk σ H1 fun zs H2 => vs.length = n ∧ zs.length = m ∧ ∀ x dx, H2 x = none → H2 dx = none → dx ≠ x →
  sp (gV (.ref x :: vs) zs) (upd (upd H2 dx (.own x)) x (.ins C dx [])) (fun v H3 => v = .non ∧ Q (.ref x) H3) (E σ)
/-- the class of the module's name x can be made; sp: its __init__ -/
structure MakG (P : Program) (w : World) (K : PySem.W.Frag) (mg : Str → Option Value) (base : Heap) (CX : CXT) (k : Nat) (x : Str) (C f : Addr) (fd : FuncData) (ps : List Str) (sp : Sp) : Prop where
  mks : Mk K C f
  fn : FnG P w K mg base CX k f fd ps sp
  g : mg x = some (.ref C)
theorem pe_mkG {E : L2.St → XK} (M : MakG X.prog X.w X.K X.mg X.base CX k x C f fd ps sp) (hb : KBn X.K fd ps (n + 1) [] g gV) (hr : Room (k + 1) X.A) (hG : X.A.guards = some []) (hx : ∀ σ, PassesAt CX X σ (E σ))
    (ha : PA X (e :: es) t) (hg : Gl X x := by rfl) (hdb : (x == ("__debug__" : Str)) = false := by decide) (he : starEach (e :: es) X.env = (false, eval e X.env) :: starEach es X.env := by rfl) (hpl : (backTo pos (starEach es X.env)).any (·.1) = false := by rfl) :
    PE X (.Call (.Name x p) (e :: es) [] pos) (tMkG C n 0 sp gV E t tNil) := by
  refine ⟨fun pins s σ H Q I h => ?_⟩
  refine wpAny_Call_Name_kw (ld_glob I hg M.g ?_ hdb)
  refine PySem.W.callWith_K (h₀ := X.base) I.ok.mod.kin M.mks.kp (thn (ha.run pos pins s σ H _ I h) fun us s1 ⟨vs, H1, I1, r, l1, l2, q⟩ => ⟨I1.kIn, ?_⟩) he hpl
  exact run_mkG (ws := []) (zs := []) M.mks M.fn hr hG hb (hx σ) I1 r .nil l1 l2 q
theorem pe_mkGK {E : L2.St → XK} (M : MakG X.prog X.w X.K X.mg X.base CX k x C f fd ps sp) (hb : KBn X.K fd ps (n + 1) ks g gV) (hr : Room (k + 1) X.A) (hG : X.A.guards = some []) (hx : ∀ σ, PassesAt CX X σ (E σ))
    (ha : PA X (e :: es) t) (hkw : PK X kws tk) (hks : (backToKw pos (keywordEach kws X.env)).filterMap (·.1) = ks := by rfl) (hg : Gl X x := by rfl) (hall : (backToKw pos (keywordEach kws X.env)).all (·.1.isSome) = true := by rfl)
    (hdb : (x == ("__debug__" : Str)) = false := by decide) (he : starEach (e :: es) X.env = (false, eval e X.env) :: starEach es X.env := by rfl)
    (hpl : ((backTo pos (starEach (e :: es) X.env)).any (·.1) || (backToKw pos (keywordEach kws X.env)).any (·.1.isNone)) = false := by rfl) :
    PE X (.Call (.Name x p) (e :: es) kws pos) (tMkG C n ks.length sp gV E t tk) := by
  refine ⟨fun pins s σ H Q I h => ?_⟩
  refine wpAny_Call_Name_kw (ld_glob I hg M.g ?_ hdb)
  refine PySem.W.callWith_KW (h₀ := X.base) I.ok.mod.kin M.mks.kp hall (thn (ha.run pos pins s σ H _ I h) fun us s1 ⟨vs, H1, I1, r, q⟩ => ?_) hpl he
  refine thn (hkw.run pos pins s1 σ H1 _ I1 q) fun ws s2 ⟨zs, H2, I2, rz, l1, l2, q2⟩ => ⟨I2.kIn, ?_⟩
  rw [hks]
  exact run_mkG M.mks M.fn hr hG hb (hx σ) I2 r rz l1 l2 q2
theorem pe_mkGN {E : L2.St → XK} (M : MakG X.prog X.w X.K X.mg X.base CX k x C f fd ps sp) (hb : KBn X.K fd ps (0 + 1) ks g gV) (hr : Room (k + 1) X.A) (hG : X.A.guards = some []) (hx : ∀ σ, PassesAt CX X σ (E σ))
    (hkw : PK X kws tk) (hks : (backToKw pos (keywordEach kws X.env)).filterMap (·.1) = ks := by rfl) (hg : Gl X x := by rfl) (hall : (backToKw pos (keywordEach kws X.env)).all (·.1.isSome) = true := by rfl)
    (hdb : (x == ("__debug__" : Str)) = false := by decide)
    (hpl : ((backTo pos (starEach [] X.env)).any (·.1) || (backToKw pos (keywordEach kws X.env)).any (·.1.isNone)) = false := by rfl) :
    PE X (.Call (.Name x p) [] kws pos) (tMkG C 0 ks.length sp gV E tNil tk) := by
  refine ⟨fun pins s σ H Q I h => ?_⟩
  refine wpAny_Call_Name_kw (ld_glob I hg M.g ?_ hdb)
  refine PySem.W.callWith_KW0 (h₀ := X.base) I.ok.mod.kin M.mks.kp hall (thn (hkw.run pos pins s σ H _ I h) fun ws s2 ⟨zs, H2, I2, rz, l1, l2, q2⟩ => ⟨I2.kIn, ?_⟩) hpl
  rw [hks]
  exact run_mkG (us := []) (vs := []) M.mks M.fn hr hG hb (hx σ) I2 .nil rz l1 l2 q2
/-- o.m(e, ..) where no guard stands -/
def tMeG (C : Addr) (m : Str) (sp : Sp) (E : L2.St → XK) (ta : TE) (t : TA) : TE := fun σ H Q => ta σ H fun x H1 => ∃ a dx fs, x = .ref a ∧ H1 a = some (.ins C dx fs) ∧ fs.lookup m = none ∧ t σ H1 fun vs H2 => sp (.ref a :: vs) H2 Q (E σ)
structure MetG (P : Program) (w : World) (K : PySem.W.Frag) (mg : Str → Option Value) (base : Heap) (CX : CXT) (k : Nat) (C : Addr) (m : Str) (f : Addr) (fd : FuncData) (ps : List Str) (sp : Sp) : Prop where
  c : Cls K C
  m : Meth K C m f
  fn : FnG P w K mg base CX k f fd ps sp
  b : ∀ (s : Shared) (us : List Value), us.length = ps.length → BindsTo s fd ⟨us, []⟩ (ps.zip us)
theorem pe_meG {pl : Sem Bool} {E : L2.St → XK} (he : PE X o ta) (M : MetG X.prog X.w X.K X.mg X.base CX k C m f fd ps sp) (hr : Room k X.A) (hG : X.A.guards = some []) (hx : ∀ σ, PassesAt CX X σ (E σ)) (ha : PA X (e :: es) t)
    (hst : starEach (e :: es) X.env = (false, eval e X.env) :: starEach es X.env := by rfl) (hpl : (backTo pos (starEach es X.env)).any (·.1) = false := by rfl)
    (ht : eval (.Call (.Attribute o m apos) (e :: es) [] pos) X.env = (do
      let ov ← eval o X.env
      standAt apos.atName
      let (f, first) ← holding [ov] (getMethod ov m pl)
      callWith pos f first (backTo pos (starEach (e :: es) X.env)) (backToKw pos (keywordEach [] X.env))) := by rfl) :
    PE X (.Call (.Attribute o m apos) (e :: es) [] pos) (tMeG C m sp E ta t) := by
  refine ⟨fun pins s σ H Q I h => ?_⟩
  refine PySem.W.methodCall_KW (pl := pl) (thn (he.run pins s σ H _ I h) fun u s1 ⟨x, H1, I1, rx, a, dx, fs, ex, ea, l, q⟩ => ?_) ht
  subst ex
  obtain rfl : u = Value.ref a := rx
  refine getmeth_ok I1 ea M.c M.m l ?_
  refine PySem.W.callWith_K (first := [.ref a]) (h₀ := X.base) I.ok.mod.kin M.m.kp (thn (ha.run pos pins s1 σ H1 _ I1 q) fun us s2 ⟨vs, H2, I2, r, q2⟩ => ⟨I2.kIn, ?_⟩) hst hpl
  have r' : Vals (V.ref a :: vs) (Value.ref a :: us) := .cons rfl r
  exact run_g (ar := ⟨.ref a :: us, []⟩) M.fn hr hG (hx σ) I2 (M.b s2 _ ((Paired.length r').symm.trans (M.fn.size _ _ _ _ q2))) r' q2
theorem pe_meG0 {pl : Sem Bool} {E : L2.St → XK} (he : PE X o ta) (M : MetG X.prog X.w X.K X.mg X.base CX k C m f fd ps sp) (hr : Room k X.A) (hG : X.A.guards = some []) (hx : ∀ σ, PassesAt CX X σ (E σ))
    (ht : eval (.Call (.Attribute o m apos) [] [] pos) X.env = (do
      let ov ← eval o X.env
      standAt apos.atName
      let (f, first) ← holding [ov] (getMethod ov m pl)
      callWith pos f first (backTo pos (starEach [] X.env)) (backToKw pos (keywordEach [] X.env))) := by rfl) :
    PE X (.Call (.Attribute o m apos) [] [] pos) (tMeG C m sp E ta tNil) := by
  refine ⟨fun pins s σ H Q I h => ?_⟩
  refine PySem.W.methodCall_KW (pl := pl) (thn (he.run pins s σ H _ I h) fun u s1 ⟨x, H1, I1, rx, a, dx, fs, ex, ea, l, q⟩ => ?_) ht
  subst ex
  obtain rfl : u = Value.ref a := rx
  refine getmeth_ok I1 ea M.c M.m l ?_
  have r' : Vals [V.ref a] [Value.ref a] := .cons rfl .nil
  exact PySem.W.callWith_K0 (first := [.ref a]) I1.kIn M.m.kp (run_g (ar := ⟨[.ref a], []⟩) M.fn hr hG (hx σ) I1 (M.b s1 _ ((Paired.length r').symm.trans (M.fn.size _ _ _ _ q))) r' q)
end
section
variable {P : Program} {w : World} {K : PySem.W.Frag} {mg : Str → Option Value} {base : Heap} {CX : CXT} {k : Nat} {f : Addr} {fd : FuncData} {ps : List Str} {sp : Sp} {x qual : Str} {st : Stmt} {N : List Str} {dvs : List V} {kws : List (Str × V)}
/-- a def with defaults, by its body -/
theorem GfunDX (F : FunD K x qual (defArgs st) (defBody st) (defScope st) dvs kws f fd) (S : FnScope N ps (defScope st)) (size : ∀ vs H Q E, sp vs H Q E → vs.length = ps.length)
    (body : ∀ (cdv : Value) (B : Around) (out : List Env) (s : Shared) (H : Hp) (vs : List V) (Q : VK) (E : XK), B.guards = some [] →
      Room k (B.deeper (envOfC qual (defScope st) s.heap.objs.size f cdv)) → sp vs H Q E →
      ∃ t, PSs (cxOf CX P w K mg base N qual (defScope st) f cdv B out s H E) (defBody st) t ∧
        t { nx := fun _ H' => Q .non H', rt := Q } (start N vs) H) : FnG P w K mg base CX (k + 1) f fd ps sp := by
  obtain ⟨oc, od, dV, kV, doc, pm, an, cdv, ct, osl, rfl, lk, hcd, _, _⟩ := F.ex
  refine ⟨size, fun B out s H ar us vs Q E hr hg e0 hb r hs => ?_⟩
  have old : ∀ b o, base.get? b = some o → s.heap.get? b = some o := fun b o e => (e0.bs b o e).1
  have kin : K.In s.heap := e0.mod.kin.keeps old
  refine codeAny_call_function hr.depth (kin _ _ lk) rfl S.co S.gen rfl (PySem.W.codeRec_of kin hcd) (hb _ _ _ _ ?_)
  refine wpAny_newFunctionEnv_cells S.kind (fun ⟨n, v⟩ hy => ?_) fun env he s1 x => ?_
  · rcases S.par n (List.of_mem_zip hy).1 with q | q
    · exact Or.inl q
    · exact Or.inr ⟨q, PySem.W.cellsFrom_some _ _ _ (Or.inl q)⟩
  · subst he
    refine ⟨(e0.mod.nolimit.keeps old).keeps x.toInCall.keep, codeAny_func ?_⟩
    obtain ⟨t, ht, hq⟩ := body cdv B out s H vs Q E hg (hr.deeper _) hs
    have I := inv_start (CX := CX) (N := N) (qual := qual) (cd := cdv) (E := E) S hr.hd e0 (size _ _ _ _ hs) r x
    refine wpAny_mono (ht.run [] s1 (start N vs) H _ I hq) (fun fl s' hs' => ?_) fun e s' z => z
    cases fl with
    | ret u =>
      obtain ⟨v, σ', H', J, rv, q⟩ := hs'
      exact ⟨v, H', J.os, J.bare, J.base, J.hok, rv, q⟩
    | next =>
      obtain ⟨σ', H', J, q⟩ := hs'
      exact ⟨V.non, H', J.os, J.bare, J.base, J.hok, rfl, q⟩
    | brk =>
      obtain ⟨_, _, _, q⟩ := hs'
      exact q.elim
    | cont =>
      obtain ⟨_, _, _, q⟩ := hs'
      exact q.elim
end
end Lf

set_option Elab.async false
set_option linter.all false
set_option maxRecDepth 100000
set_option maxHeartbeats 4000000
/-! set(texts) of any number of texts, and how many there are. -/
namespace Lf
open PySem PySem.Spec PyProof.Rows
/-- a set of texts: just those of T, and T has each once -/
def TxtSet (prog : Program) (w : World) (h : Heap) (a : Addr) (T : List Str) : Prop := h.SetOf (PySem.strKind prog w) a (fun x => decide (x ∈ T)) T.length
/-- one more text -/
def into (T : List Str) (k : Str) : List Str := if k ∈ T then T else k :: T
theorem into_len (T : List Str) (k : Str) : (into T k).length ≤ T.length + 1 := by
  unfold into
  split
  · omega
  · simp
section
variable {prog : Program} {w : World} {A : Around} {E : Value → Shared → Prop} {R : Result → Shared → Prop} {s : Shared} {a : Addr} {T : List Str} {k : Str} {t : Tok}
theorem TxtSet.keep {h h' : Heap} (X : TxtSet prog w h a T) (e : ∀ o, h.get? a = some o → h'.get? a = some o) : TxtSet prog w h' a T := by
  obtain ⟨o, es, ep, tb, ho, r⟩ := X
  exact ⟨o, es, ep, tb, e o ho, r⟩
theorem put_txt {Q : Bool → Shared → Prop} (X : TxtSet prog w s.heap a T) (room : T.length + 1 < scanBound) (h : ∀ (b : Bool) (h' : Heap) (n : Nat), s.toks ≤ n → Heap.SameBut a s.heap h' → TxtSet prog w h' a (into T k) → Q b { s with heap := h', toks := n }) :
    wpAny (model prog w) A (setAdd a (.str k t)) Q E s := by
  have is : (PySem.strKind prog w).is k (.str k t) = true := by show Value.isStrOf k (.str k t) = true; simp [Value.isStrOf]
  unfold setAdd
  refine wpAny_holding (wpAny_bind ((PySem.strKind prog w).pyHash (k := k) is ?_))
  refine wpAny_setAddHashed_of (knd := PySem.strKind prog w) is rfl (S := fun x => decide (x ∈ T)) (n := T.length) X room fun h' sb X' => ?_
  refine h _ h' _ (by first | exact Nat.le_succ _ | exact Nat.le_refl _) sb ?_
  unfold TxtSet into
  by_cases hk : k ∈ T
  · rw [if_pos hk]
    refine SetOf_congr X' (fun x => ?_) (by simp [hk])
    by_cases hx : x ∈ T
    · simp [hx]
    · have : ¬ x = k := fun e => hx (e ▸ hk)
      simp [hx, this]
  · rw [if_neg hk]
    refine SetOf_congr X' (fun x => ?_) (by simp [hk])
    by_cases hx : x ∈ T
    · simp [hx]
    · simp [hx]
variable {I : Addr} {fp wr : List Addr} {G : Array GenState → Array GenState → Prop} {n : Nat} {P : Nat → Value → Prop} {St : Nat → Shared → Prop}
/-- all that is left to walk goes in -/
theorem fill_txt (W : WalksS prog w A.in1 I fp wr G n P St) (hf : a ∉ fp) (val : Nat → Str) (hv : ∀ i v, P i v → ∃ t, v = .str (val i) t) (hb : n + 1 < scanBound) : ∀ (m i : Nat) (T : List Str) (s : Shared), i + m = n → T.length ≤ i → St i s → TxtSet prog w s.heap a T →
    (∀ s', Moved (a :: wr) G s s' → TxtSet prog w s'.heap a ((List.range' i m).foldl (fun T j => into T (val j)) T) → R (.ok (.ret .none)) s') → codeAny (model prog w) A (.builtin "set.update.loop" ⟨[.ref a, .ref I], []⟩) R s := by
  have hw : a ∉ wr := fun z => hf (W.sub _ z)
  have more : ∀ b ∈ wr, b ∈ a :: wr := fun b z => List.mem_cons_of_mem _ z
  intro m
  induction m with
  | zero =>
    intro i T s e hl st X fin
    have ei : i = n := by omega
    subst ei
    apply codeAny_builtin PyProof.Rows.F.entry_set_update_loop
    rw [Around.under_plainId PyProof.Rows.F.plain_set_update_loop _]
    change wpAny _ A.in1 (pyNext (.ref I) >>= _) _ _ s
    exact wpAny_bind (W.done s _ _ st fun s' mv => wpAny_pure (fin s' (mv.mono more) (X.keep fun o ho => mv.heap a o hw ho)))
  | succ m ih =>
    intro i T s e hl st X fin
    apply codeAny_builtin PyProof.Rows.F.entry_set_update_loop
    rw [Around.under_plainId PyProof.Rows.F.plain_set_update_loop _]
    change wpAny _ A.in1 (pyNext (.ref I) >>= _) _ _ s
    apply wpAny_bind
    apply W.item i s _ _ (by omega) st
    intro v s1 hp st1 mv
    obtain ⟨t, rfl⟩ := hv i v hp
    change wpAny _ A.in1 (holding [Value.str (val i) t] (setAdd a (.str (val i) t)) >>= _) _ _ s1
    apply wpAny_bind
    apply wpAny_holding
    apply put_txt (X.keep fun o ho => mv.heap a o hw ho) (by omega)
    intro b h2 tk htk sb X2
    apply wpAny_pure
    refine ⟨plainId_quiet PyProof.Rows.F.plain_set_update_loop _, ih (i + 1) (into T (val i)) _ (by omega) (by have := into_len T (val i); omega) ?_ X2 ?_⟩
    · refine W.frame _ s1 _ _ st1 htk fun c hc o eo => ?_
      rw [sb.2 c (fun z => hf (z ▸ hc))]
      exact eo
    · intro s3 mv3 X3
      refine fin s3 (Moved.trans W.gtrans ((mv.mono more).then_heap htk fun c o hc eo => ?_) mv3) X3
      rw [sb.2 c (fun z => hc (z ▸ List.mem_cons_self))]
      exact eo
end
end Lf

set_option Elab.async false
set_option linter.all false
set_option maxRecDepth 100000
set_option maxHeartbeats 4000000
namespace Lf
open PySem PySem.Spec PyProof.Rows
/-- a new set, nothing in it -/
def emptySet (led : Bool) : Obj := { cls := .type "set", dict := none, data := .set #[] 0 (.fresh 0 0 led) }
/-- what n texts leave -/
def gone (val : Nat → Str) (n : Nat) : List Str := (List.range' 0 n).foldl (fun T j => into T (val j)) []
section
variable {prog : Program} {w : World} {A : Around} {E : Value → Shared → Prop} {s : Shared} {S l : Addr} {items : Array Value}
/-- set.__init__ of an empty set and a list of texts -/
theorem init_txt {Q : Value → Shared → Prop} {val : Nat → Str} {led : Bool} (hh : A.handled = none) (hS : s.heap.get? S = some (emptySet led)) (hl : s.heap.IsList l items) (ne : S ≠ l) (hv : ∀ i v, items[i]? = some v → ∃ t, v = Value.str (val i) t) (hb : items.size + 1 < scanBound)
    (h : ∀ h' tk, TxtSet prog w h' S (gone val items.size) → (∀ b o, b ≠ S → s.heap.get? b = some o → h'.get? b = some o) → Q .none { s with heap := h', toks := tk }) :
    codeAny (model prog w) A (.call (.builtin "set.__init__") ⟨[.ref S, .ref l], []⟩) (wants Q E) s := by
  have hT : s.TypeIs (.ref S) "set" := ⟨_, hS, rfl⟩
  have lS := Heap.lt_size hS
  apply codeAny_call_builtin PySem.F.called_set.init.plain PySem.F.entry_set_init
  apply check_set_init_1 hT
  obtain ⟨ol, hol, hcl, nl, hdl⟩ := id hl
  have ll := Heap.lt_size hol
  have tl : s.TypeIs (.ref l) "list" := ⟨ol, hol, hcl⟩
  have f1 := PySem.F.sub_list_set
  have f2 := PySem.F.sub_list_frozenset
  have f3 : (Value.type "list" == Value.type "dict") = false := by decide
  unfold Builtin.«set.__init__» noKeywords Builtin.Frozenset.updateFrom
  generalize hPI : pyIter = PI
  wp_walk
  subst hPI
  apply wpAny_pyIter_list hl
  apply wpAny_bind
  apply wpAny_runValue
  have hi : A.in1.in1.handled = none := by simp [hh]
  have nI : l ≠ s.heap.objs.size := Nat.ne_of_lt ll
  have off : S ∉ [s.heap.objs.size, l] := by
    simp only [List.mem_cons, List.not_mem_nil, or_false, not_or]
    exact ⟨Nat.ne_of_lt lS, ne⟩
  have X0 : TxtSet prog w (s.heap.push { cls := .type "list_iterator", data := .fields #[.ref l, .int 0 0] }) S [] := SetOf_congr ((setObjOf_fresh (knd := PySem.strKind prog w) led).setOf (Heap.get?_push_of_some _ hS) (by unfold scanBound; omega)) (fun _ => by simp) rfl
  refine fill_txt ((Walks.list hi _ l nI items).toS) off val hv hb items.size 0 [] _ (Nat.zero_add _) (Nat.le_refl _) ⟨⟨_, Heap.get?_push_size _ rfl, rfl, rfl⟩, hl.push _⟩ X0 fun s2 mv X2 => ?_
  have e2 : s2 = { s with heap := s2.heap, toks := s2.toks } := by
    have g := mv.gens
    have d := mv.drawn
    have o := mv.os
    cases s2
    cases g
    cases d
    cases o
    rfl
  change wpAny _ _ (pure ()) _ _ s2
  apply wpAny_pure
  change wpAny _ _ (ret Value.none) _ _ s2
  apply wpAny_pure
  change Q Value.none s2
  rw [e2]
  refine h s2.heap s2.toks X2 fun b o nb eb => ?_
  refine mv.heap b o ?_ (Heap.get?_push_of_some _ eb)
  simp only [List.mem_cons, List.not_mem_nil, or_false, not_or]
  exact ⟨nb, Nat.ne_of_lt (Heap.lt_size eb)⟩
/-- set(l) -/
theorem set_txt {Q : Value → Shared → Prop} {val : Nat → Str} (hh : A.handled = none) (hl : s.heap.IsList l items) (hv : ∀ i v, items[i]? = some v → ∃ t, v = Value.str (val i) t) (hb : items.size + 1 < scanBound)
    (h : ∀ h' tk, TxtSet prog w h' s.heap.objs.size (gone val items.size) → (∀ b o, s.heap.get? b = some o → h'.get? b = some o) → Q (.ref s.heap.objs.size) { s with heap := h', toks := tk }) : wpAny (model prog w) A (call (.type "set") [.ref l]) Q E s := by
  obtain ⟨c, tl, hmro⟩ := PySem.F.called_set.mro
  have k1 := PySem.F.called_set.made
  have k2 := PySem.F.called_set.sub
  have k3 := PySem.F.called_set.notType
  have k4 := PySem.F.called_set.canCreate
  have k5 := PySem.F.typeCall_set_1 (.ref l)
  have k6 := PySem.F.called_set.init.lookup
  apply wpAny_call
  apply codeAny_of_tree
  change wpAny _ _ (callAny (.type "set") _) _ _ _
  apply wpAny_pure
  refine ⟨Code.quiet_builtin _ (by decide +kernel), codeAny_builtin PySem.F.entry_type_call ?_⟩
  rw [Around.under_plain (weight_type_call_type "set" [.ref l] []) rfl]
  repeat (any_goals (first | assumption | wp_step))
  refine codeAny_mono (code_set_new_1 (.ref l) (E := E) (Q₁ := fun v s1 => ∃ led, v = .ref s.heap.objs.size ∧ s1 = { s with heap := s.heap.push (emptySet led) }) fun led => ⟨led, rfl, rfl⟩) ?_
  intro r s1 hr
  match r, hr with
  | .error e, hr => exact hr
  | .ok (.ret v), hr =>
    obtain ⟨led, rfl, rfl⟩ := hr
    have new : (s.heap.push (emptySet led)).get? s.heap.objs.size = some (emptySet led) := Heap.get?_push_size _ rfl
    have hT : Shared.TypeIs { s with heap := s.heap.push (emptySet led) } (.ref s.heap.objs.size) "set" := ⟨_, new, rfl⟩
    have k7 := PySem.F.called_set.init.bind (.ref s.heap.objs.size)
    have ll : l < s.heap.objs.size := by
      obtain ⟨ol, hol, _⟩ := id hl
      exact Heap.lt_size hol
    have run := init_txt (prog := prog) (w := w) (A := A.in1) (E := E) (s := { s with heap := s.heap.push (emptySet led) }) (Q := fun v s2 => v = .none ∧ Q (.ref s.heap.objs.size) s2) (by simp [hh]) new (hl.push _) (Nat.ne_of_gt ll) hv hb
      fun h' tk X' keep => ⟨rfl, h h' tk X' fun b o e => keep b o (Nat.ne_of_lt (Heap.lt_size e)) (Heap.get?_push_of_some _ e)⟩
    repeat (any_goals (first | assumption | wp_step))
    refine codeAny_mono run ?_
    intro r2 s2 hr2
    match r2, hr2 with
    | .error e, hr2 => exact hr2
    | .ok (.ret v2), hr2 =>
      obtain ⟨rfl, q⟩ := hr2
      repeat (any_goals (first | assumption | wp_step))
end
end Lf

set_option Elab.async false
set_option linter.all false
set_option maxRecDepth 100000
set_option maxHeartbeats 4000000
/-! len(set(texts)) -/
namespace Lf
open PySem PySem.Spec PyProof.Rows L2
/-- each text once -/
def once (xs : List Str) : List Str := xs.foldl into []
theorem once_go : ∀ (xs T : List Str), xs.Nodup → (∀ x ∈ xs, x ∉ T) → (xs.foldl into T).length = T.length + xs.length
  | [], T, _, _ => rfl
  | x :: xs, T, nd, h => by
    rw [List.foldl_cons, show into T x = x :: T from if_neg (h x List.mem_cons_self), once_go xs (x :: T) (List.nodup_cons.mp nd).2 fun y hy => ?_, List.length_cons, List.length_cons]
    · omega
    · rw [List.mem_cons, not_or]
      exact ⟨fun e => (List.nodup_cons.mp nd).1 (e ▸ hy), h y (List.mem_cons_of_mem _ hy)⟩
theorem once_all {xs : List Str} (nd : xs.Nodup) : (once xs).length = xs.length := by
  have := once_go xs [] nd fun _ _ z => nomatch z
  rw [List.length_nil, Nat.zero_add] at this
  exact this
theorem gone_once (xs : List Str) : gone (fun i => xs.getD i Str.empty) xs.length = once xs := by
  have e : (List.range' 0 xs.length).map (fun i => xs.getD i Str.empty) = xs := by
    apply List.ext_getElem
    · simp
    · intro i h1 h2
      rw [List.getElem_map, List.getElem_range', List.getD_eq_getElem?_getD]
      simp at h1
      simp [h1]
  unfold gone once
  conv => rhs; rw [← e]
  rw [List.foldl_map]
def tLenTxt (K : PySem.W.Frag) (ta : TE) : TE := fun σ H Q => ta σ H fun x H1 => ∃ (l : Addr) (xs : List Str), x = .ref l ∧ SqL K H1 l (xs.map V.str) ∧ xs.length ≤ 1000 ∧ Q (.int ((once xs).length : Nat)) H1
theorem once_le : ∀ (xs T : List Str), (xs.foldl into T).length ≤ T.length + xs.length
  | [], T => Nat.le_refl _
  | x :: xs, T => by
    have h1 := once_le xs (into T x)
    have h2 := into_len T x
    rw [List.foldl_cons, List.length_cons]
    omega
theorem strs_at : ∀ {xs : List Str} {us : List Value}, Vals (xs.map V.str) us → ∀ (i : Nat) (v : Value), us[i]? = some v → ∃ t, v = Value.str (xs.getD i Str.empty) t
  | [], _, .nil, i, v, h => by simp at h
  | x :: xs, _, .cons r t, 0, v, h => by
    obtain ⟨k, rfl⟩ := r
    simp at h
    exact ⟨k, h.symm⟩
  | x :: xs, _, .cons r t, i + 1, v, h => by
    obtain ⟨k, e⟩ := strs_at t i v (by simpa using h)
    exact ⟨k, by simpa using e⟩
theorem pe_lenTxt {X : Cx} {a : Expr} {ta : TE} {p p2 q pos : Pos} (hm : X.mg "len" = none) (hm2 : X.mg "set" = none) (ha : PE X a ta) (hg : Gl X "len" := by rfl) (hg2 : Gl X "set" := by rfl) (hc : X.calm = true := by rfl) (na : starEach [a] X.env = (false, eval a X.env) :: starEach [] X.env := by rfl) :
    PE X (.Call (.Name "len" p) [.Call (.Name "set" p2) [a] [] q] [] pos) (tLenTxt X.K ta) := by
  constructor
  intro pins s σ H Q I h
  refine Call_ ?_
  apply ld_blt I hg hm boot_len
  apply callWith_builtin1 _ rfl rfl
  apply args_cons _ rfl
  refine Call_ ?_
  apply ld_blt I hg2 hm2 boot_set
  apply callWith_type1 _ na rfl
  apply args_cons _ na
  apply thn (ha.run pins s σ H _ I h)
  rintro v s1 ⟨x, H1, I1, r1, l, xs, rfl, hq, hl, q1⟩
  cases (show v = Value.ref l from r1)
  apply args_nil
  obtain ⟨its, r, pl, hz⟩ := I1.list hq
  have hn : its.toArray.size = xs.length := by
    have := r.length
    rw [List.length_map] at this
    simp [this]
  refine set_txt (val := fun i => xs.getD i Str.empty) (I1.ok.hd hc) pl.isList (fun i v hv => strs_at r i v (by simpa using hv)) (by rw [hn]; unfold scanBound; omega) ?_
  intro h' tk X' keep
  rw [hn, gone_once] at X'
  apply args_nil
  obtain ⟨o, es, ep, t, ho, hex, hd, _, _, _, hf, he⟩ := X'
  have I2 : Inv X pins σ H1 { s1 with heap := h', toks := tk } := I1.kept keep
  have ob := once_le xs []
  rw [List.length_nil, Nat.zero_add] at ob
  have ob' : (once xs).length ≤ xs.length := ob
  exact call_len_set ho hex hd hf (by rw [he]; omega) ⟨.int ((once xs).length : Nat), H1, I2.tok _, ⟨_, by rw [he]⟩, q1⟩
end Lf

set_option Elab.async false
set_option linter.all false
set_option maxRecDepth 100000
set_option maxHeartbeats 4000000
set_option exponentiation.threshold 3000
/-! Rows of fractions as data: shown, compared. -/
namespace Lf
open PySem PySem.Spec PyProof.Rows L2
section
variable {K : PySem.W.Frag}
theorem tD_shaped (f : Int × Int) : SeqAt.shaped (tD f) = true := by
  unfold SeqAt.shaped
  rw [Bool.and_eq_true]
  refine ⟨by simp only [tD, PyData.canLay0, PyData.canLayAll0, Bool.and_self], decide_eq_true ?_⟩
  simp only [tD, PyData.depth, PyData.depthAll]
  omega
theorem AtK.dp {H : Hp} {v : V} {f : Int × Int} (h : AtK K H v f) : Dp K H v (tD f) := by
  obtain ⟨p, rfl, hp⟩ := h
  exact dp2 hp
theorem AtKs.dpAll {H : Hp} : ∀ {vs : List V} {fs : List (Int × Int)}, AtKs K H vs fs → DpAll K H vs (fs.map tD)
  | _, _, .nil => .nil
  | _, _, .cons ⟨p, e, h⟩ r => by
    subst e
    exact .cons (dp2 h) (AtKs.dpAll r)
theorem row_lay : ∀ fs : List (Int × Int), PyData.canLayAll0 (fs.map tD) = true ∧ PyData.depthAll (fs.map tD) ≤ 1
  | [] => ⟨by simp only [List.map_nil, PyData.canLayAll0], by simp only [List.map_nil, PyData.depthAll]; omega⟩
  | f :: fs => by
    obtain ⟨i1, i2⟩ := row_lay fs
    refine ⟨?_, ?_⟩
    · simp only [List.map_cons, PyData.canLayAll0, i1, tD, PyData.canLay0, Bool.and_self]
    · simp only [List.map_cons, PyData.depthAll, tD, PyData.depth]
      omega
theorem row_shaped (fs : List (Int × Int)) : SeqAt.shaped (.list (fs.map tD)) = true := by
  obtain ⟨i1, i2⟩ := row_lay fs
  unfold SeqAt.shaped
  rw [Bool.and_eq_true]
  refine ⟨by simp only [PyData.canLay0]; exact i1, decide_eq_true ?_⟩
  simp only [PyData.depth]
  omega
theorem eqv_tD (f g : Int × Int) : PyData.eqv (tD f) (tD g) = decide (f = g) := by
  obtain ⟨a, b⟩ := f
  obtain ⟨c, d⟩ := g
  simp only [tD, PyData.eqv, PyData.eqvAll, Bool.and_true]
  by_cases h : (a, b) = (c, d)
  · rw [decide_eq_true h]
    cases h
    simp
  · rw [decide_eq_false h]
    by_cases h1 : a = c
    · by_cases h2 : b = d
      · exact absurd (by rw [h1, h2]) h
      · simp [h2]
    · simp [h1]
theorem row_eqv : ∀ fs : List (Int × Int), PyData.eqvAll (fs.map tD) (fs.map tD) = true
  | [] => by simp only [List.map_nil, PyData.eqvAll]
  | f :: fs => by simp only [List.map_cons, PyData.eqvAll, eqv_tD, row_eqv fs, decide_true, Bool.and_self]
theorem rowD_eqv (fs : List (Int × Int)) : PyData.eqv (.list (fs.map tD)) (.list (fs.map tD)) = true := by
  simp only [PyData.eqv]
  exact row_eqv fs
theorem Ft.intB {k : Nat} {n : Int} (h : n.natAbs < 2 ^ k) (hk : k ≤ 900) (h0 : 0 < k) : Ft k 0 (.int n) := by
  have f := Ft.int (n := n) (Nat.lt_of_lt_of_le h (Nat.pow_le_pow_right (by decide) hk))
  refine ⟨f.sh, f.nd, f.dp, f.lv, ?_⟩
  simp only [PyData.weight]
  have := PySem.Flt.log2_lt_of (by omega) h
  split <;> omega
theorem row_ft {k : Nat} (hk : k ≤ 900) (h0 : 0 < k) : ∀ fs : List (Int × Int), (∀ f ∈ fs, Bt k f) → FtA ((2 * k + 3) * fs.length) 1 (fs.map tD)
  | [], _ => by
    have := FtA.nil
    exact ⟨this.sh, this.nd, Nat.le_trans this.dp (by decide), this.lv, by simpa using this.wt⟩
  | f :: fs, h => by
    have hb := h f List.mem_cons_self
    have f1 : Ft _ _ (tD f) := Ft.tuple (.cons (Ft.intB hb.1 hk h0) (.cons (Ft.intB hb.2 hk h0) .nil))
    have r := FtA.cons f1 (row_ft hk h0 fs fun g hg => h g (List.mem_cons_of_mem _ hg))
    rw [List.map_cons]
    refine ⟨r.sh, r.nd, Nat.le_trans r.dp (by decide), r.lv, Nat.le_trans r.wt ?_⟩
    rw [List.length_cons, Nat.mul_succ]
    omega
theorem cut_last (ys : List V) (x : V) : cutV (ys ++ [x]) none (some (-1)) = ys := by
  unfold cutV
  have h1 : HT.sIx (ys ++ [x]).length 0 none = 0 := by simp [HT.sIx]
  have h2 : HT.sIx (ys ++ [x]).length (ys ++ [x]).length (some (-1)) = ys.length := by
    simp [HT.sIx]
    omega
  rw [h1, h2]
  simp
theorem rowD {H : Hp} {l : Addr} {xs : List V} {fs : List (Int × Int)} (h : SqL K H l xs) (a : AtKs K H xs fs) : Dp K H (.ref l) (.list (fs.map tD)) := .lst h a.dpAll
theorem pg_tupK {X : Cx} {K : PySem.W.Frag} {es : List Expr} {k : Nat} {t : TGs} {n : Nat} {pos : Pos} (hc : X.calm = true) (h : PGs X es t)
    (hn : (assignEach es X.env).length = n := by rfl) (hst : (assignEach es X.env).findIdx? (·.1) = none := by rfl) (hK : X.K = K := by rfl) : PG X (.Tuple es k pos) (gTup K n t) := hK ▸ pg_tup hc h hn hst
end
end Lf


set_option Elab.async false
set_option linter.all false
set_option maxRecDepth 100000
set_option maxHeartbeats 4000000
set_option exponentiation.threshold 3000
namespace Lf
open PySem PySem.Spec PyProof.Rows L2
theorem bt_list : bootBuiltins "list" = some (.type "list") := by decide +kernel
theorem ix_tupK {X : Cx} {K : PySem.W.Frag} (hK : X.K = K := by rfl) : IxR X (rIxT K) := hK ▸ ix_tup
/-- a statement that is never come to -/
theorem ps_dead {X : Cx} {st : Stmt} : PS X st (fun _ _ _ => False) := ⟨fun _ _ _ _ _ _ h => h.elim⟩
section
variable {P : Program} {w : World} {K : PySem.W.Frag} {mg : Str → Option Value} {base : Heap} {c0 c1 : Addr}
theorem isfr_t {f : Int × Int} (h : IsF f) : isFr (tD f) = true := by
  show (decide (0 < f.2) && decide (Nat.gcd f.1.natAbs f.2.natAbs = 1)) = true
  rw [decide_eq_true h.1, decide_eq_true h.2]
  rfl
theorem AtK.dq {H : Hp} {v : V} {f : Int × Int} (h : AtK K H v f) : Dq K H v (tD f) := by
  obtain ⟨p, rfl, hp⟩ := h
  exact .dp (dp2 hp) (by rfl)
theorem nm_is {z : Str} (h : AllL z) (l1 : 1 ≤ z.length) (le : z.length ≤ 10) : isNm (.str z) = true := by
  show (decide (1 ≤ z.length) && decide (z.length ≤ 10) && z.cps.toList.all inL) = true
  rw [decide_eq_true l1, decide_eq_true le]
  exact List.all_eq_true.mpr h
/-- a name -/
structure Nm (z : Str) : Prop where
  al : AllL z
  l1 : 1 ≤ z.length
  le : z.length ≤ 10
/-- a row: a name and a fraction above 0 -/
structure RwOk (r : Str × (Int × Int)) : Prop where
  nm : Nm r.1
  lo : IsF r.2
  po : 0 < r.2.1
def RwAt (K : PySem.W.Frag) (H : Hp) (v : V) (r : Str × (Int × Int)) : Prop := ∃ p vf, v = .ref p ∧ SqT K H p [.str r.1, vf] ∧ AtK K H vf r.2
theorem RwAt.same {H H' : Hp} {v : V} {r : Str × (Int × Int)} (s : Same H H') (h : RwAt K H v r) : RwAt K H' v r := by
  obtain ⟨p, vf, e, h1, h2⟩ := h
  exact ⟨p, vf, e, sm_t s h1, h2.same s⟩
def RwsAt (K : PySem.W.Frag) (H : Hp) (xs : List V) (rs : List (Str × (Int × Int))) : Prop := Paired (RwAt K H) xs rs
theorem RwsAt.same {H H' : Hp} (s : Same H H') : ∀ {xs : List V} {rs : List (Str × (Int × Int))}, RwsAt K H xs rs → RwsAt K H' xs rs
  | _, _, .nil => .nil
  | _, _, .cons a r => .cons (a.same s) (RwsAt.same s r)
theorem RwsAt.get {H : Hp} : ∀ {xs : List V} {rs : List (Str × (Int × Int))} {i : Nat} {v : V}, RwsAt K H xs rs → xs[i]? = some v → ∃ r, rs[i]? = some r ∧ RwAt K H v r
  | _, _, _, _, .nil, e => by simp at e
  | _, _, 0, _, .cons a _, e => by simp at e; subst e; exact ⟨_, rfl, a⟩
  | _, _, i + 1, v, .cons _ r, e => by
    obtain ⟨x, h1, h2⟩ := RwsAt.get (i := i) (v := v) r (by simpa using e)
    exact ⟨x, by simpa using h1, h2⟩
/-- rows: one to eight, each of another name -/
structure RwsOk (rs : List (Str × (Int × Int))) : Prop where
  all : ∀ r ∈ rs, RwOk r
  one : 1 ≤ rs.length
  few : rs.length ≤ 8
  nd : (rs.map (·.1)).Nodup
  cm : Cmn (rs.map (·.2))
theorem RwsOk.bt {rs : List (Str × (Int × Int))} (h : RwsOk rs) {r : Str × (Int × Int)} (hr : r ∈ rs) : Bt 880 r.2 := h.cm.bt (List.mem_map_of_mem hr)

/-! ### is_above_0 -/
theorem sc_is_above_0 : FnScope ["thing"] ["thing"] (defScope s_is_above_0) := ⟨rfl, rfl, rfl, by decide +kernel, rfl, by decide +kernel, by decide +kernel⟩
def sp_ab0 (K : PySem.W.Frag) : Sp := fun vs H Q _ => ∃ (v : V) (f : Int × Int), vs = [v] ∧ AtK K H v f ∧ IsF f ∧ Q (.bl (decide (0 < f.1))) H
theorem ok_ab0 {f : Addr} {fd : FuncData} (F : Fun K "is_above_0" "is_above_0" s_is_above_0 f fd) (C_is_fraction : Cal P w K mg base CX0 2 "is_fraction" ["thing"] (sp_isfr K)) : FnG P w K mg base CX0 3 f fd ["thing"] (sp_ab0 K) := by
  refine Gfun F sc_is_above_0 (fun vs H Q E h => ?_) (fun cdv A outer s H vs Q E hg hr h => ?_)
  · obtain ⟨v, d, rfl, _⟩ := h
    rfl
  · obtain ⟨v, d, rfl, hv, hf, k⟩ := h
    refine ⟨_, (pss_one (ps_ret (pe_and (pe_g C_is_fraction (hr.mono (by decide)) hg (pa_cons (pv 0) pa_nil)) (pe_one (pe_cmpR op_gt (pe_ix ix_tup (pv 0) pe_int (fun _ _ => rfl)) pe_int (nomark _)))))), ?_⟩
    refine ⟨_, rfl, v, tD d, rfl, hv.dq, ?_⟩
    rw [isfr_t hf]
    refine ⟨_, rfl, iteT ?_⟩
    obtain ⟨p, rfl, hp⟩ := hv
    exact ⟨_, rfl, p, _, _, _, rfl, rfl, hp, atI_nat (j := 0) rfl, _, _, rfl, rfl, k⟩

/-! ### is_row -/
theorem sc_is_row : FnScope ["thing"] ["thing"] (defScope s_is_row) := ⟨rfl, rfl, rfl, by decide +kernel, rfl, by decide +kernel, by decide +kernel⟩
def sp_isrow (K : PySem.W.Frag) : Sp := fun vs H Q _ => ∃ (v : V) (r : Str × (Int × Int)), vs = [v] ∧ RwAt K H v r ∧ RwOk r ∧ ∀ H', Same H H' → Q (.bl true) H'
theorem ok_isrow {f : Addr} {fd : FuncData} (M : Blt mg) (Mx : Bltx mg) (F : Fun K "is_row" "is_row" s_is_row f fd) (C_is_name : Cal P w K mg base CX0 2 "is_name" ["thing"] (sp_isnm K)) (C_is_above_0 : Cal P w K mg base CX0 3 "is_above_0" ["thing"] (sp_ab0 K)) : FnG P w K mg base CX0 4 f fd ["thing"] (sp_isrow K) := by
  refine Gfun F sc_is_row (fun vs H Q E h => ?_) (fun cdv A outer s H vs Q E hg hr h => ?_)
  · obtain ⟨v, r, rfl, _⟩ := h
    rfl
  · obtain ⟨_, r, rfl, ⟨p, vf, rfl, hp, hf⟩, ok, k⟩ := h
    refine ⟨_, (pss_cons (ps_if (PW.pt (pw_or (pt_not (pt_val (pe_callB call_isi rfl Mx.isinstance bt_isinstance (pa_cons (pv 0) (pa_cons (pe_bltn (v := .ty "tuple") rfl Mx.tuple bt_tuple rfl) pa_nil))))) (pw_or1 (pt_cmpR op_ne (pe_callB call_len_seq rfl M.len bt_len (pa_cons (pv 0) pa_nil)) pe_int (nomark _)))))
      (pss_one (ps_ret pe_bl))
      pss_nil)
      (pss_one (ps_ret (pe_and (pe_g C_is_name (hr.mono (by decide)) hg (pa_cons (pe_ix ix_tup (pv 0) pe_int (fun _ _ => rfl)) pa_nil)) (pe_one (pe_g C_is_above_0 (hr.mono (by decide)) hg (pa_cons (pe_ix ix_tup (pv 0) pe_int (fun _ _ => rfl)) pa_nil))))))), ?_⟩
    have ty : TyX K H (.ref p) (.type "tuple") := by
      rcases hp with (h | ⟨o, h⟩) | ⟨o, arr, n, hk, hc, _⟩
      · exact .base (.tup h)
      · exact .fTuple h
      · exact .kTuple hk hc
    refine ⟨_, rfl, _, _, _, _, _, rfl, .ty "tuple", ty, kit_ty (show kitB "tuple" "tuple" = some true by decide +kernel), _, rfl, iteF ?_⟩
    refine ⟨_, rfl, p, _, rfl, .inr hp, rfl, _, rfl, iteF ?_⟩
    refine ⟨_, rfl, p, _, _, _, rfl, rfl, hp, atI_nat (j := 0) rfl, .str r.1, .str r.1, rfl, .dp (.str r.1) (by rfl), fun z' e => by cases e; exact Nat.le_trans ok.nm.le (by decide), fun H1 s1 => ?_⟩
    rw [nm_is ok.nm.al ok.nm.l1 ok.nm.le]
    refine ⟨_, rfl, iteT ?_⟩
    refine ⟨_, rfl, p, _, _, _, rfl, rfl, sm_t s1 hp, atI_nat (j := 1) rfl, vf, r.2, rfl, hf.same s1, ok.lo, ?_⟩
    rw [decide_eq_true ok.po]
    exact k _ s1

/-! ### are_rows -/
theorem sc_are_rows : FnScope ["thing", "row"] ["thing"] (defScope s_are_rows) := ⟨rfl, rfl, rfl, by decide +kernel, rfl, by decide +kernel, by decide +kernel⟩
def sp_arerL (K : PySem.W.Frag) : Sp := fun vs H Q _ => ∃ (a : Addr) (xs : List V) (rs : List (Str × (Int × Int))), vs = [.ref a] ∧ SqL K H a xs ∧ RwsAt K H xs rs ∧ RwsOk rs ∧ ∀ H', Same H H' → Q (.bl true) H'
theorem ok_arerL {f : Addr} {fd : FuncData} {tk : Tok} (M : Blt mg) (Mx : Bltx mg) (ml : mg "list" = none) (ms : mg "set" = none) (G_MOST : mg "MOST_ROWS" = some (.int 8 tk)) (F : Fun K "are_rows" "are_rows" s_are_rows f fd) (C_is_row : Cal P w K mg base CX0 4 "is_row" ["thing"] (sp_isrow K)) : FnG P w K mg base CX0 5 f fd ["thing"] (sp_arerL K) := by
  refine Gfun F sc_are_rows (fun vs H Q E h => ?_) (fun cdv A outer s H vs Q E hg hr h => ?_)
  · obtain ⟨a, xs, rs, rfl, _⟩ := h
    rfl
  · obtain ⟨a, xs, rs, rfl, hS, hA, ok, k⟩ := h
    refine ⟨_, (pss_cons (ps_if (PW.pt (pw_or (pt_not (pt_val (pe_callB call_isiT rfl Mx.isinstance bt_isinstance (pa_cons (pv 0) (pa_cons (pe_tup (pa_cons (pe_bltn (v := .ty "list") rfl ml bt_list rfl) (pa_cons (pe_bltn (v := .ty "tuple") rfl Mx.tuple bt_tuple rfl) pa_nil))) pa_nil))))) (pw_or1 (pt_not (pt_chain op_le op_le pe_int (pe_callB call_len_seq rfl M.len bt_len (pa_cons (pv 0) pa_nil)) (pe_glob (v := .int 8) rfl G_MOST ⟨_, rfl⟩))))))
      (pss_one (ps_ret pe_bl))
      pss_nil)
      (pss_cons (ps_if (pt_not (pt_val (pe_callB (cr_all rfl) rfl M.all bt_all (pa_cons (pe_lc (own := [("row", 1)]) (g := gName 1) (tt := tYes) rfl sc_are_rows.nd (pi_list (pv 0)) (blkOk_by (N := ["thing", "row"]) (sc := defScope s_are_rows) (by decide +kernel)) (fun _ _ _ _ _ => pg_name (i := 1) sc_are_rows.nd rfl (Or.inl rfl)) (fun _ _ _ _ _ => pts_nil) (fun _ _ _ _ _ => (pe_g C_is_row (hr.mono (by decide)) hg (pa_cons (pv 1) pa_nil)))) pa_nil))))
      (pss_one (ps_ret pe_bl))
      pss_nil)
      (pss_one (ps_ret (pe_cmpR op_eq (pe_lenTxt M.len ms (pe_lc (own := [("row", 1)]) (g := gName 1) (tt := tYes) rfl sc_are_rows.nd (pi_list (pv 0)) (blkOk_by (N := ["thing", "row"]) (sc := defScope s_are_rows) (by decide +kernel)) (fun _ _ _ _ _ => pg_name (i := 1) sc_are_rows.nd rfl (Or.inl rfl)) (fun _ _ _ _ _ => pts_nil) (fun _ _ _ _ _ => (pe_ix (ix_tupK (K := K)) (pv 1) pe_int (fun _ _ => rfl))))) (pe_callB call_len_seq rfl M.len bt_len (pa_cons (pv 0) pa_nil)) (nomark _)))))), ?_⟩
    refine ⟨_, rfl, len_show (Nat.le_of_ble_eq_true rfl), fun tp nt => ?_⟩
    have s1 : Same H (L2.upd H tp (.tup [.ty "list", .ty "tuple"])) := same_new nt
    have ty : TyX K (L2.upd H tp (.tup [.ty "list", .ty "tuple"])) (.ref a) (.type "list") := by
      rcases hS with (h | ⟨o, h⟩) | ⟨o, arr, n, hk, hc, _⟩
      · exact .base (.lst (same_new nt _ _ h))
      · exact .base (.frz (same_new nt _ _ h))
      · exact .kList hk hc
    refine ⟨_, tp, _, _, _, true, rfl, upd_same, .cons (.ty "list") (.cons (.ty "tuple") .nil), ty, kitAny_cons (kit_ty (show kitB "list" "list" = some true by decide +kernel)) (fun z => nomatch z) (fun _ => rfl), _, rfl, ?_⟩
    generalize L2.upd H tp (.tup [.ty "list", .ty "tuple"]) = H1 at s1 ⊢
    refine iteF ?_
    have hl : xs.length = rs.length := Paired.length hA
    have h1 := ok.one
    have h8 := ok.few
    refine ⟨_, rfl, a, xs, rfl, .inl (sm_l s1 hS), _, _, rfl, rfl, _, rfl, ?_⟩
    rw [decide_eq_true (show (1 : Int) ≤ (xs.length : Int) by omega)]
    refine iteT ⟨_, _, rfl, rfl, _, rfl, ?_⟩
    rw [decide_eq_true (show (xs.length : Int) ≤ 8 by omega)]
    refine iteF ?_
    refine ⟨_, rfl, a, rfl, ⟨_, sm_l s1 hS⟩, fun D hD => lc_list (xs := xs) (fun i H' => H' D = some (.lst (List.replicate i (.bl true))) ∧ Same H1 H') ⟨upd_same, same_new hD⟩ (fun i H' _ h => sm_l (s1.trans h.2) hS) ?_ ?_⟩
    · rintro i x H2 hx ⟨eD, sm⟩
      obtain ⟨g, hgi, hg0⟩ := hA.get hx
      have hw := ok.all g (List.mem_of_getElem? hgi)
      have hi : i < xs.length := (List.getElem?_eq_some_iff.mp hx).1
      refine ⟨rfl, _, rfl, x, g, rfl, hg0.same (s1.trans sm), hw, fun H3 s3 => ?_⟩
      refine ⟨_, s3 _ _ eD, ?_, ?_, fun b o e => ?_⟩
      · rw [List.length_replicate, sizeLine_eq]
        omega
      · rw [upd_same, List.replicate_succ']
      · rw [upd_ne (ne_of_none e hD)]
        exact s3 _ _ (sm _ _ e)
    · rintro H2 ⟨eD, sm⟩
      refine ⟨D, List.replicate xs.length true, rfl, .inl (.inl (by rw [eD, List.map_replicate])), ?_⟩
      have ha : (List.replicate xs.length true).all id = true := by
        rw [List.all_eq_true]
        intro b hb
        rw [(List.mem_replicate.mp hb).2]
        rfl
      rw [ha]
      refine ⟨_, rfl, iteF ?_⟩
      refine ⟨_, rfl, a, rfl, ⟨_, sm_l (s1.trans sm) hS⟩, fun D2 hD2 => lc_list (xs := xs) (fun i H' => H' D2 = some (.lst (((rs.map (·.1)).take i).map V.str)) ∧ Same H2 H') ⟨upd_same, same_new hD2⟩ (fun i H' _ h => sm_l (s1.trans (sm.trans h.2)) hS) ?_ ?_⟩
      · rintro i x H3 hx ⟨e3, sm3⟩
        obtain ⟨g, hgi, ⟨p, vf, rfl, hp, hf⟩⟩ := hA.get hx
        have hi : i < xs.length := (List.getElem?_eq_some_iff.mp hx).1
        refine ⟨rfl, _, rfl, p, _, _, _, rfl, rfl, sm_t (s1.trans (sm.trans sm3)) hp, atI_nat (j := 0) rfl, _, e3, ?_, ?_, fun b o e => ?_⟩
        · rw [List.length_map, List.length_take, sizeLine_eq]
          omega
        · have hg2 : (rs.map (·.1))[i]? = some g.1 := by rw [List.getElem?_map, hgi]; rfl
          rw [upd_same, List.take_succ, hg2, List.map_append]
          rfl
        · rw [upd_ne (ne_of_none e hD2)]
          exact sm3 _ _ e
      · rintro H3 ⟨e3, sm3⟩
        rw [List.take_of_length_le (by rw [List.length_map]; omega)] at e3
        refine ⟨D2, rs.map (·.1), rfl, .inl (.inl e3), by rw [List.length_map]; omega, ?_⟩
        refine ⟨_, rfl, a, xs, rfl, .inl (sm_l (s1.trans (sm.trans sm3)) hS), rfl, ?_⟩
        have el : decide (V.int ((once (rs.map (·.1))).length : Nat) = V.int (xs.length : Nat)) = true := decide_eq_true (by rw [once_all ok.nd, List.length_map, hl])
        rw [el]
        exact k _ (s1.trans (sm.trans sm3))

def sp_arerT (K : PySem.W.Frag) : Sp := fun vs H Q _ => ∃ (a : Addr) (xs : List V) (rs : List (Str × (Int × Int))), vs = [.ref a] ∧ SqT K H a xs ∧ RwsAt K H xs rs ∧ RwsOk rs ∧ ∀ H', Same H H' → Q (.bl true) H'
theorem ok_arerT {f : Addr} {fd : FuncData} {tk : Tok} (M : Blt mg) (Mx : Bltx mg) (ml : mg "list" = none) (ms : mg "set" = none) (G_MOST : mg "MOST_ROWS" = some (.int 8 tk)) (F : Fun K "are_rows" "are_rows" s_are_rows f fd) (C_is_row : Cal P w K mg base CX0 4 "is_row" ["thing"] (sp_isrow K)) : FnG P w K mg base CX0 5 f fd ["thing"] (sp_arerT K) := by
  refine Gfun F sc_are_rows (fun vs H Q E h => ?_) (fun cdv A outer s H vs Q E hg hr h => ?_)
  · obtain ⟨a, xs, rs, rfl, _⟩ := h
    rfl
  · obtain ⟨a, xs, rs, rfl, hS, hA, ok, k⟩ := h
    refine ⟨_, (pss_cons (ps_if (PW.pt (pw_or (pt_not (pt_val (pe_callB call_isiT rfl Mx.isinstance bt_isinstance (pa_cons (pv 0) (pa_cons (pe_tup (pa_cons (pe_bltn (v := .ty "list") rfl ml bt_list rfl) (pa_cons (pe_bltn (v := .ty "tuple") rfl Mx.tuple bt_tuple rfl) pa_nil))) pa_nil))))) (pw_or1 (pt_not (pt_chain op_le op_le pe_int (pe_callB call_len_seq rfl M.len bt_len (pa_cons (pv 0) pa_nil)) (pe_glob (v := .int 8) rfl G_MOST ⟨_, rfl⟩))))))
      (pss_one (ps_ret pe_bl))
      pss_nil)
      (pss_cons (ps_if (pt_not (pt_val (pe_callB (cr_all rfl) rfl M.all bt_all (pa_cons (pe_lc (own := [("row", 1)]) (g := gName 1) (tt := tYes) rfl sc_are_rows.nd (pi_tup (pv 0)) (blkOk_by (N := ["thing", "row"]) (sc := defScope s_are_rows) (by decide +kernel)) (fun _ _ _ _ _ => pg_name (i := 1) sc_are_rows.nd rfl (Or.inl rfl)) (fun _ _ _ _ _ => pts_nil) (fun _ _ _ _ _ => (pe_g C_is_row (hr.mono (by decide)) hg (pa_cons (pv 1) pa_nil)))) pa_nil))))
      (pss_one (ps_ret pe_bl))
      pss_nil)
      (pss_one (ps_ret (pe_cmpR op_eq (pe_lenTxt M.len ms (pe_lc (own := [("row", 1)]) (g := gName 1) (tt := tYes) rfl sc_are_rows.nd (pi_tup (pv 0)) (blkOk_by (N := ["thing", "row"]) (sc := defScope s_are_rows) (by decide +kernel)) (fun _ _ _ _ _ => pg_name (i := 1) sc_are_rows.nd rfl (Or.inl rfl)) (fun _ _ _ _ _ => pts_nil) (fun _ _ _ _ _ => (pe_ix (ix_tupK (K := K)) (pv 1) pe_int (fun _ _ => rfl))))) (pe_callB call_len_seq rfl M.len bt_len (pa_cons (pv 0) pa_nil)) (nomark _)))))), ?_⟩
    refine ⟨_, rfl, len_show (Nat.le_of_ble_eq_true rfl), fun tp nt => ?_⟩
    have s1 : Same H (L2.upd H tp (.tup [.ty "list", .ty "tuple"])) := same_new nt
    have ty : TyX K (L2.upd H tp (.tup [.ty "list", .ty "tuple"])) (.ref a) (.type "tuple") := by
      rcases hS with (h | ⟨o, h⟩) | ⟨o, arr, n, hk, hc, _⟩
      · exact .base (.tup (same_new nt _ _ h))
      · exact .fTuple (same_new nt _ _ h)
      · exact .kTuple hk hc
    refine ⟨_, tp, _, _, _, true, rfl, upd_same, .cons (.ty "list") (.cons (.ty "tuple") .nil), ty, kitAny_cons (kit_ty (show kitB "tuple" "list" = some false by decide +kernel)) (fun _ => kitAny_cons (kit_ty (show kitB "tuple" "tuple" = some true by decide +kernel)) (fun z => nomatch z) (fun _ => rfl)) (fun z => nomatch z), _, rfl, ?_⟩
    generalize L2.upd H tp (.tup [.ty "list", .ty "tuple"]) = H1 at s1 ⊢
    refine iteF ?_
    have hl : xs.length = rs.length := Paired.length hA
    have h1 := ok.one
    have h8 := ok.few
    refine ⟨_, rfl, a, xs, rfl, .inr (sm_t s1 hS), _, _, rfl, rfl, _, rfl, ?_⟩
    rw [decide_eq_true (show (1 : Int) ≤ (xs.length : Int) by omega)]
    refine iteT ⟨_, _, rfl, rfl, _, rfl, ?_⟩
    rw [decide_eq_true (show (xs.length : Int) ≤ 8 by omega)]
    refine iteF ?_
    refine ⟨_, rfl, a, rfl, ⟨_, sm_t s1 hS⟩, fun D hD => lc_tup (xs := xs) (fun i H' => H' D = some (.lst (List.replicate i (.bl true))) ∧ Same H1 H') ⟨upd_same, same_new hD⟩ (fun i H' _ h => sm_t (s1.trans h.2) hS) ?_ ?_⟩
    · rintro i x H2 hx ⟨eD, sm⟩
      obtain ⟨g, hgi, hg0⟩ := hA.get hx
      have hw := ok.all g (List.mem_of_getElem? hgi)
      have hi : i < xs.length := (List.getElem?_eq_some_iff.mp hx).1
      refine ⟨rfl, _, rfl, x, g, rfl, hg0.same (s1.trans sm), hw, fun H3 s3 => ?_⟩
      refine ⟨_, s3 _ _ eD, ?_, ?_, fun b o e => ?_⟩
      · rw [List.length_replicate, sizeLine_eq]
        omega
      · rw [upd_same, List.replicate_succ']
      · rw [upd_ne (ne_of_none e hD)]
        exact s3 _ _ (sm _ _ e)
    · rintro H2 ⟨eD, sm⟩
      refine ⟨D, List.replicate xs.length true, rfl, .inl (.inl (by rw [eD, List.map_replicate])), ?_⟩
      have ha : (List.replicate xs.length true).all id = true := by
        rw [List.all_eq_true]
        intro b hb
        rw [(List.mem_replicate.mp hb).2]
        rfl
      rw [ha]
      refine ⟨_, rfl, iteF ?_⟩
      refine ⟨_, rfl, a, rfl, ⟨_, sm_t (s1.trans sm) hS⟩, fun D2 hD2 => lc_tup (xs := xs) (fun i H' => H' D2 = some (.lst (((rs.map (·.1)).take i).map V.str)) ∧ Same H2 H') ⟨upd_same, same_new hD2⟩ (fun i H' _ h => sm_t (s1.trans (sm.trans h.2)) hS) ?_ ?_⟩
      · rintro i x H3 hx ⟨e3, sm3⟩
        obtain ⟨g, hgi, ⟨p, vf, rfl, hp, hf⟩⟩ := hA.get hx
        have hi : i < xs.length := (List.getElem?_eq_some_iff.mp hx).1
        refine ⟨rfl, _, rfl, p, _, _, _, rfl, rfl, sm_t (s1.trans (sm.trans sm3)) hp, atI_nat (j := 0) rfl, _, e3, ?_, ?_, fun b o e => ?_⟩
        · rw [List.length_map, List.length_take, sizeLine_eq]
          omega
        · have hg2 : (rs.map (·.1))[i]? = some g.1 := by rw [List.getElem?_map, hgi]; rfl
          rw [upd_same, List.take_succ, hg2, List.map_append]
          rfl
        · rw [upd_ne (ne_of_none e hD2)]
          exact sm3 _ _ e
      · rintro H3 ⟨e3, sm3⟩
        rw [List.take_of_length_le (by rw [List.length_map]; omega)] at e3
        refine ⟨D2, rs.map (·.1), rfl, .inl (.inl e3), by rw [List.length_map]; omega, ?_⟩
        refine ⟨_, rfl, a, xs, rfl, .inr (sm_t (s1.trans (sm.trans sm3)) hS), rfl, ?_⟩
        have el : decide (V.int ((once (rs.map (·.1))).length : Nat) = V.int (xs.length : Nat)) = true := decide_eq_true (by rw [once_all ok.nd, List.length_map, hl])
        rw [el]
        exact k _ (s1.trans (sm.trans sm3))

end
end Lf

set_option Elab.async false
set_option linter.all false
set_option maxRecDepth 100000
set_option maxHeartbeats 4000000
set_option exponentiation.threshold 3000
/-! == by an own __eq__ that tells True or False, repr by an own __repr__, where no guard stands. -/
namespace Lf
open PySem PySem.Spec PyProof.Rows L2
/-- the special method m of the class at C, and what it promises -/
structure OwnM (P : Program) (w : World) (K : PySem.W.Frag) (mg : Str → Option Value) (base : Heap) (k : Nat) (C : Addr) (m : Str) (f : Addr) (fd : FuncData) (ps : List Str) (sp : Sp) : Prop where
  at_ : PySem.W.findIn K (.ref C) m = some (some (.ref f))
  isf : PySem.W.isFn K (.ref f) = true
  fn : FnG P w K mg base CX0 k f fd ps sp
  b : ∀ (s : Shared) (us : List Value), us.length = ps.length → BindsTo s fd ⟨us, []⟩ (ps.zip us)
section
variable {X : Cx} {k : Nat} {f C : Addr} {fd : FuncData} {ps : List Str} {sp : Sp} {m : Str}
/-- a special method runs on an object, in the caller's around or just below it -/
theorem OwnM.run (M : OwnM X.prog X.w X.K X.mg X.base k C m f fd ps sp) {B : Around} (hr : Room k B) (hG : B.guards = some []) (hf : B.frames = X.A.frames) {pins : List (Addr × Obj)} {σ : L2.St} {H : Hp} {s : Shared} {Q : VK} {us : List Value} {vs : List V}
    (I : Inv X pins σ H s) (r : Vals vs us) (h : sp vs H Q E0) : wpAny (model X.prog X.w) B (call (.ref f) us) (EP X pins σ Q) X.xe s := by
  have e := I.env0
  have e0 : Env0 X.prog X.w X.K X.mg X.base B X.stack s H := { frames := hf ▸ e.frames, mod := e.mod, bs := e.bs, bsz := e.bsz, funs := e.funs, frf := e.frf, hok := e.hok, bare := e.bare }
  have hl : us.length = ps.length := r.length ▸ M.fn.size _ _ _ _ h
  refine wpAny_call (codeAny_mono (M.fn.goes B X.stack s H ⟨us, []⟩ us vs Q E0 hr hG e0 (M.b s us hl) r h) fun z s' q => ?_)
  match z, q with
  | .ok (.ret u), q => exact I.after q
/-- the object's class, as the library looks at it -/
theorem ins_at {pins : List (Addr × Obj)} {σ : L2.St} {H : Hp} {s : Shared} {a dx : Addr} {fs : List (Str × V)} (I : Inv X pins σ H s) (e : H a = some (.ins C dx fs)) : ∃ od, PySem.W.InstAt s.heap a (PySem.W.instObj C dx) C (some od) := by
  obtain ⟨mA, J, _⟩ := ins_get I.hok e
  obtain ⟨od, J, _⟩ := J.look
  exact ⟨od, J⟩
/-- x == y, x an object of the class at C -/
def rEqO (K : PySem.W.Frag) (C : Addr) (sp : Sp) : R2 := fun x y H Q => ∃ (a dx : Addr) (fs : List (Str × V)) (t : Value), x = .ref a ∧ H a = some (.ins C dx fs) ∧ TyX K H y t ∧ PySem.W.notFirst K C t = true ∧ sp [x, y] H (fun v H' => ∃ b, v = .bl b ∧ Q (.bl b) H') E0
theorem op_eqO (M : OwnM X.prog X.w X.K X.mg X.base k C "__eq__" f fd ps sp) (hr : Room k X.A) (hG : X.A.guards = some []) : OpR X (compareOp .Eq) (rEqO X.K C sp) := by
  rintro pins s σ H x y v u Q I rx ry ⟨a, dx, fs, t, rfl, ea, ty, hn, q⟩
  cases (show v = Value.ref a from rx)
  obtain ⟨od, J⟩ := ins_at I ea
  obtain ⟨m, hF⟩ := I.fr
  obtain ⟨T, kit, hT, _⟩ := kit_of I ry ty
  refine PySem.W.cmp_K (op := .Eq) hr.units0 hF I.ok.mod.kin J (kit.ty _ _ I.kIn hT) hn M.at_ M.isf ?_
  refine wpAny_mono (M.run (vs := [V.ref a, y]) hr hG rfl I (.cons rfl (.cons ry .nil)) q) (fun z s' hz => ?_) fun _ _ e => e
  obtain ⟨zv, H', I', rz, b, rfl, hq⟩ := hz
  cases rz
  exact ⟨.bl b, H', I', rfl, hq⟩
/-- the same, the module's part given -/
theorem op_eqOK {K : PySem.W.Frag} (M : OwnM X.prog X.w X.K X.mg X.base k C "__eq__" f fd ps sp) (hr : Room k X.A) (hG : X.A.guards = some []) (hK : X.K = K := by rfl) : OpR X (compareOp .Eq) (rEqO K C sp) := hK ▸ op_eqO M hr hG
/-- repr(x), x an object of the class at C -/
def rReprO (C : Addr) (sp : Sp) : List V → Hp → VK → Prop := fun xs H Q => ∃ (a dx : Addr) (fs : List (Str × V)), xs = [.ref a] ∧ H a = some (.ins C dx fs) ∧ sp [.ref a] H (fun v H' => ∃ t, v = .str t ∧ Q (.str t) H') E0
theorem call_reprO (M : OwnM X.prog X.w X.K X.mg X.base k C "__repr__" f fd ps sp) (hr : Room (k + 1) X.A) (hG : X.A.guards = some []) : CallR X (.builtin "repr") (rReprO C sp) := by
  rintro pins s σ H xs us Q I r ⟨a, dx, fs, rfl, ea, q⟩
  obtain ⟨u, rfl, r1⟩ := vals1 r
  cases (show u = Value.ref a from r1)
  obtain ⟨od, J⟩ := ins_at I ea
  obtain ⟨m, hF⟩ := I.fr
  refine PySem.W.repr_K hr.in1.units0 hF I.ok.mod.kin J M.at_ M.isf ?_
  refine wpAny_mono (M.run (vs := [V.ref a]) hr.in1 hG rfl I (.cons rfl .nil) q) (fun z s' hz => ?_) fun _ _ e => e
  obtain ⟨zv, H', I', rz, t, rfl, hq⟩ := hz
  obtain ⟨tk, rfl⟩ := rz
  exact ⟨.str t, H', I', ⟨tk, rfl⟩, hq⟩
/-- o.m(k = e, ..): by names alone, in the parameters' order -/
theorem pe_meGK {pl : Sem Bool} {ks : List Str} {o : Expr} {kws : List Keyword} {ta : TE} {tk : TA} {pos apos : Pos} (he : PE X o ta) (M : MetG X.prog X.w X.K X.mg X.base CX0 k C m f fd ps sp) (hb : ∀ (s : Shared) (u : Value) (us : List Value), us.length = ks.length → BindsTo s fd ⟨[u], ks.zip us⟩ (ps.zip (u :: us))) (hr : Room k X.A) (hG : X.A.guards = some []) (hp : ps.length = ks.length + 1)
    (hk : PK X kws tk) (hks : (backToKw pos (keywordEach kws X.env)).filterMap (·.1) = ks := by rfl) (hall : (backToKw pos (keywordEach kws X.env)).all (·.1.isSome) = true := by rfl)
    (hpl : ((backTo pos (starEach [] X.env)).any (·.1) || (backToKw pos (keywordEach kws X.env)).any (·.1.isNone)) = false := by rfl)
    (ht : eval (.Call (.Attribute o m apos) [] kws pos) X.env = (do
      let ov ← eval o X.env
      standAt apos.atName
      let (g, first) ← holding [ov] (getMethod ov m pl)
      callWith pos g first (backTo pos (starEach [] X.env)) (backToKw pos (keywordEach kws X.env))) := by rfl) : PE X (.Call (.Attribute o m apos) [] kws pos) (tMeG C m sp (fun _ => E0) ta tk) := by
  refine ⟨fun pins s σ H Q I h => PySem.W.methodCall_KW (pl := pl) (thn (he.run pins s σ H _ I h) fun u s1 ⟨x, H1, I1, rx, a, dx, fs, ex, ea, l, q⟩ => ?_) ht⟩
  subst ex
  cases (show u = Value.ref a from rx)
  refine getmeth_ok I1 ea M.c M.m l (PySem.W.callWith_KW0 (first := [.ref a]) (h₀ := X.base) I.ok.mod.kin M.m.kp hall (thn (hk.run pos pins s1 σ H1 _ I1 q) fun us s2 ⟨vs, H2, I2, r, q2⟩ => ⟨I2.kIn, ?_⟩) hpl)
  rw [hks]
  have hl := M.fn.size _ _ _ _ q2
  have hl2 : us.length = ks.length := by
    have := r.length
    rw [List.length_cons] at hl
    omega
  exact run_g (ar := ⟨[.ref a], ks.zip us⟩) (us := .ref a :: us) (vs := .ref a :: vs) M.fn hr hG pass_no I2 (hb s2 (.ref a) us hl2) (.cons rfl r) q2
end
end Lf

set_option Elab.async false
set_option linter.all false
set_option maxRecDepth 100000
set_option maxHeartbeats 4000000
/-! x != y by an own __eq__, and y == x, y != x where y is of a built-in type. -/
namespace Lf
open PySem PySem.Spec PySem.Calls PyProof.Rows PySem.W
section
variable {prog : Program} {w : World} {A : Around} {E : Value → Shared → Prop} {s : Shared} {K : Frag} {x C f : Addr} {ox : Obj} {od : Option Obj} {b tb : Value}
/-- one side's word on a comparison, as a value -/
def Says (prog : Program) (w : World) (A : Around) (E : Value → Shared → Prop) (s : Shared) (a : Value) (nm : Str) (b : Value) (Q : Value → Shared → Prop) : Prop :=
  wpAny (model prog w) A (tryCompare a nm b) (fun r s' => ∃ v, r = some v ∧ Q v s') E s
/-- one side has no word -/
def Mute (prog : Program) (w : World) (A : Around) (E : Value → Shared → Prop) (s : Shared) (a : Value) (nm : Str) (b : Value) : Prop :=
  ∀ Q : Option Value → Shared → Prop, Q none s → wpAny (model prog w) A (tryCompare a nm b) Q E s
/-- the left side says -/
theorem rich_left {op : CmpOp} {a ta : Value} {Q : Value → Shared → Prop} (hu : A.units < cLine) (h1 : oneThing? op a b = none) (hta : Looks (model prog w) s.heap (typeOf a) ta) (htb : Looks (model prog w) s.heap (typeOf b) tb)
    (hn : ta = tb ∨ Looks (model prog w) s.heap (isSubtype tb ta) false) (h : Says prog w A E s a (cmpInfo op).2.1 b Q) : wpAny (model prog w) A (richCompare op a b) Q E s := by
  have fin : ∀ {k : Option Value → Sem Value}, (∀ v, k (some v) = pure v) → wpAny (model prog w) A (tryCompare a (cmpInfo op).2.1 b >>= k) Q E s := fun hk =>
    wpAny_bind (wpAny_mono h (fun r s' z => by obtain ⟨v, rfl, q⟩ := z; rw [hk]; exact wpAny_pure q) fun _ _ e => e)
  unfold richCompare
  rw [h1]
  refine wpAny_holding (wpAny_bind (wpAny_cRoomFor hu (wpAny_bind (hta.here (wpAny_bind (htb.here ?_))))))
  by_cases e : ta = tb
  · subst e
    simp only [bne_self_eq_false, Bool.false_eq_true, if_false]
    refine wpAny_bind (wpAny_pure ?_)
    simp only [Bool.false_eq_true, if_false]
    exact fin fun v => rfl
  · have hl := hn.resolve_left e
    have e2 : (ta != tb) = true := bne_iff_ne.mpr e
    simp only [e2, if_true]
    refine wpAny_bind (hl.here ?_)
    simp only [Bool.false_eq_true, if_false]
    exact fin fun v => rfl
/-- the left side has no word, the right one says -/
theorem rich_right {op : CmpOp} {a ta : Value} {Q : Value → Shared → Prop} (hu : A.units < cLine) (h1 : oneThing? op a b = none) (hta : Looks (model prog w) s.heap (typeOf a) ta) (htb : Looks (model prog w) s.heap (typeOf b) tb)
    (hn : Looks (model prog w) s.heap (isSubtype tb ta) false) (ne : ta ≠ tb) (m : Mute prog w A E s a (cmpInfo op).2.1 b)
    (h : Says prog w A E s b (cmpInfo op).2.2 a Q) : wpAny (model prog w) A (richCompare op a b) Q E s := by
  unfold richCompare
  rw [h1]
  refine wpAny_holding (wpAny_bind (wpAny_cRoomFor hu (wpAny_bind (hta.here (wpAny_bind (htb.here ?_))))))
  have e2 : (ta != tb) = true := bne_iff_ne.mpr ne
  simp only [e2, if_true]
  refine wpAny_bind (hn.here ?_)
  simp only [Bool.false_eq_true, if_false]
  refine wpAny_bind (m _ ?_)
  simp only [Bool.not_false, if_true]
  refine wpAny_bind (wpAny_mono h (fun r s' z => ?_) fun _ _ e => e)
  obtain ⟨v, rfl, q⟩ := z
  exact wpAny_pure q
/-- an own function says by what it tells -/
theorem says_own {nm : Str} {Q : Value → Shared → Prop} (X : K.In s.heap) (I : InstAt s.heap x ox C od) (hs : findIn K (.ref C) nm = some (some (.ref f))) (hf : isFn K (.ref f) = true)
    (h : wpAny (model prog w) A (call (.ref f) [.ref x, b]) (fun v s' => ∃ r, v = .bool r ∧ Q (.bool r) s') E s) : Says prog w A E s (.ref x) nm b Q := by
  unfold Says tryCompare
  refine wpAny_bind (ifBound_K X I hs hf (wpAny_mono h (fun v s' z => ?_) fun _ _ e => e))
  obtain ⟨r, rfl, q⟩ := z
  exact wpAny_pure ⟨_, rfl, q⟩
/-- a slot of object, where the class and its elders have no other -/
theorem bound_slot {M : Model} {nm : Str} {id : String} {args : List Value} {Q : Option Value → Shared → Prop} (X : K.In s.heap) (I : InstAt s.heap x ox C od) (hs : findIn K (.ref C) nm = some (some (.builtin id))) (hb : ∀ v, bindSpecial (.builtin id) v = pure (.builtin id, [v]))
    (h : wpAny M A (call (.builtin id) (.ref x :: args)) (fun v s' => Q (some v) s') E s) : wpAny M A (callSpecialIfBound? (.ref x) nm args) Q E s := by
  have last : wpAny M A (call (.builtin id) ([.ref x] ++ args) >>= fun v => pure (some v)) Q E s := wpAny_bind (wpAny_mono h (fun _ _ z => wpAny_pure z) fun _ _ z => z)
  have look : Looks M s.heap (specialOf (.ref x) nm) (some (.builtin id)) := I.type.andThen (looks_findIn X hs)
  unfold callSpecialIfBound? bindSpecialIfBound?
  refine wpAny_holding (wpAny_bind (wpAny_bind (look.here (wpAny_bind (wpAny_askSetting (wpAny_ite ?_))))))
  simp only [hb]
  split
  · exact wpAny_bind (wpAny_pure (wpAny_pure last))
  · exact wpAny_tryCatch (wpAny_bind (wpAny_pure (wpAny_pure last)))
/-- object.__ne__ says the other of what the own __eq__ says -/
theorem says_ne {Q : Value → Shared → Prop} (X : K.In s.heap) (I : InstAt s.heap x ox C od) (hu : A.units + 1 < cLine) (hne : findIn K (.ref C) "__ne__" = some (some (.builtin "object.__ne__"))) (hm : subIn K (.ref C) (.type "object") = some true)
    (hs : findIn K (.ref C) "__eq__" = some (some (.ref f))) (hf : isFn K (.ref f) = true)
    (h : wpAny (model prog w) A.in1 (call (.ref f) [.ref x, b]) (fun v s' => ∃ r, v = .bool r ∧ Q (.bool !r) s') E s) : Says prog w A E s (.ref x) "__ne__" b Q := by
  unfold Says tryCompare
  refine wpAny_bind (bound_slot X I hne PySem.F.slot_object_ne.bind ?_)
  have inst : Looks (model prog w) s.heap (isInstance (.ref x) (.type "object")) true := I.type.andThen (looks_subIn X hm)
  refine wpAny_call (codeAny_call_builtin PySem.F.slot_object_ne.plain PySem.F.entry_object_ne (check_slot (owner := "object") (n := "__ne__") (by decide +kernel) (by decide +kernel) inst (PySem.F.args_object_ne_2 _ _) ?_))
  unfold Builtin.«object.__ne__»
  refine wpAny_bind (wpAny_of_eq (a := ((Value.ref x : Value), [b])) (by first | rfl | (simp only [slotArgs]; rfl)) ?_)
  refine wpAny_bind (wpAny_cRoomFor hu (wpAny_bind (ifBound_K X I hs hf (wpAny_mono h (fun v s' z => ?_) fun _ _ z => z))))
  obtain ⟨r, rfl, q⟩ := z
  refine wpAny_bind (wpAny_truthy_bool (wpAny_pure ?_))
  exact wpAny_pure ⟨_, rfl, q⟩
end
end Lf

set_option Elab.async false
set_option linter.all false
set_option maxRecDepth 100000
set_option maxHeartbeats 4000000
/-! A thing of a built-in type has no word on an own object. -/
namespace Lf
open PySem PySem.Spec PySem.Calls PyProof.Rows PySem.W
/-- told: this built-in, of this thing and an object of an own class, answers that it has no word -/
def NoWord (id : String) (B : Builtin) (a : Value) (x : Addr) : Prop :=
  ∀ (prog : Program) (w : World) (A : Around) (E : Value → Shared → Prop) (s : Shared) (K : Frag) (C dx : Addr) (od : Option Obj) (Q : Fin → Shared → Prop), K.In s.heap → InstAt s.heap x (instObj C dx) C od →
    subIn K (.ref C) (.type "list") = some false → subIn K (.ref C) (.type "tuple") = some false → Q (.done (.ret .notImplemented)) s → wpAny (model prog w) A (B ⟨[a, .ref x], []⟩) Q E s
theorem none_eq {x : Addr} : NoWord "NoneType.__eq__" Builtin.«NoneType.__eq__» .none x := fun prog w A E s K C dx od Q X I hl ht q => by
  have e : Builtin.«NoneType.__eq__» ⟨[.none, .ref x], []⟩ = pure (.done (.ret .notImplemented)) := rfl
  rw [e]
  exact wpAny_pure q
theorem none_ne {x : Addr} : NoWord "NoneType.__ne__" Builtin.«NoneType.__ne__» .none x := fun prog w A E s K C dx od Q X I hl ht q => by
  have e : Builtin.«NoneType.__ne__» ⟨[.none, .ref x], []⟩ = pure (.done (.ret .notImplemented)) := rfl
  rw [e]
  exact wpAny_pure q
theorem list_eq {a : Value} {x : Addr} : NoWord "list.__eq__" Builtin.«list.__eq__» a x := fun prog w A E s K C dx od Q X I hl ht q => by
  obtain ⟨k, e, e2⟩ : ∃ k : Bool → Sem Fin, Builtin.«list.__eq__» ⟨[a, .ref x], []⟩ = isInstance (.ref x) (.type "list") >>= k ∧ k false = pure (.done (.ret .notImplemented)) := ⟨_, rfl, rfl⟩
  rw [e]
  refine wpAny_bind ((I.type.andThen (looks_subIn X hl) : Looks (model prog w) s.heap (isInstance (.ref x) (.type "list")) false).here ?_)
  rw [e2]
  exact wpAny_pure q
theorem list_ne {a : Value} {x : Addr} : NoWord "list.__ne__" Builtin.«list.__ne__» a x := fun prog w A E s K C dx od Q X I hl ht q => by
  obtain ⟨k, e, e2⟩ : ∃ k : Bool → Sem Fin, Builtin.«list.__ne__» ⟨[a, .ref x], []⟩ = isInstance (.ref x) (.type "list") >>= k ∧ k false = pure (.done (.ret .notImplemented)) := ⟨_, rfl, rfl⟩
  rw [e]
  refine wpAny_bind ((I.type.andThen (looks_subIn X hl) : Looks (model prog w) s.heap (isInstance (.ref x) (.type "list")) false).here ?_)
  rw [e2]
  exact wpAny_pure q
theorem tup_eq {a : Value} {x : Addr} : NoWord "tuple.__eq__" Builtin.«tuple.__eq__» a x := fun prog w A E s K C dx od Q X I hl ht q => by
  obtain ⟨k, e, e2⟩ : ∃ k : Bool → Sem Fin, Builtin.«tuple.__eq__» ⟨[a, .ref x], []⟩ = isInstance (.ref x) (.type "tuple") >>= k ∧ k false = pure (.done (.ret .notImplemented)) := ⟨_, rfl, rfl⟩
  rw [e]
  refine wpAny_bind ((I.type.andThen (looks_subIn X ht) : Looks (model prog w) s.heap (isInstance (.ref x) (.type "tuple")) false).here ?_)
  rw [e2]
  exact wpAny_pure q
theorem tup_ne {a : Value} {x : Addr} : NoWord "tuple.__ne__" Builtin.«tuple.__ne__» a x := fun prog w A E s K C dx od Q X I hl ht q => by
  obtain ⟨k, e, e2⟩ : ∃ k : Bool → Sem Fin, Builtin.«tuple.__ne__» ⟨[a, .ref x], []⟩ = isInstance (.ref x) (.type "tuple") >>= k ∧ k false = pure (.done (.ret .notImplemented)) := ⟨_, rfl, rfl⟩
  rw [e]
  refine wpAny_bind ((I.type.andThen (looks_subIn X ht) : Looks (model prog w) s.heap (isInstance (.ref x) (.type "tuple")) false).here ?_)
  rw [e2]
  exact wpAny_pure q
theorem str_eq {t : Str} {u : Tok} {x : Addr} : NoWord "str.__eq__" Builtin.«str.__eq__» (.str t u) x := fun prog w A E s K C dx od Q X I hl ht q => by
  obtain ⟨k, e, tag, e2⟩ : ∃ k : Obj → Sem Fin, Builtin.«str.__eq__» ⟨[.str t u, .ref x], []⟩ = load x >>= k ∧ ∃ tag, k (instObj C dx) = (rule tag >>= fun _ => pure (.done (.ret .notImplemented))) := ⟨_, rfl, _, rfl⟩
  rw [e]
  refine wpAny_bind (wpAny_load I.1 ?_)
  rw [e2]
  exact wpAny_bind (wpAny_rule (wpAny_pure q))
theorem str_ne {t : Str} {u : Tok} {x : Addr} : NoWord "str.__ne__" Builtin.«str.__ne__» (.str t u) x := fun prog w A E s K C dx od Q X I hl ht q => by
  obtain ⟨k, e, tag, e2⟩ : ∃ k : Obj → Sem Fin, Builtin.«str.__ne__» ⟨[.str t u, .ref x], []⟩ = load x >>= k ∧ ∃ tag, k (instObj C dx) = (rule tag >>= fun _ => pure (.done (.ret .notImplemented))) := ⟨_, rfl, _, rfl⟩
  rw [e]
  refine wpAny_bind (wpAny_load I.1 ?_)
  rw [e2]
  exact wpAny_bind (wpAny_rule (wpAny_pure q))
theorem int_eq {n : Int} {u : Tok} {x : Addr} : NoWord "int.__eq__" Builtin.«int.__eq__» (.int n u) x := fun prog w A E s K C dx od Q X I hl ht q => by
  obtain ⟨k, e, tag, e2⟩ : ∃ k : Obj → Sem Fin, Builtin.«int.__eq__» ⟨[.int n u, .ref x], []⟩ = load x >>= k ∧ ∃ tag, k (instObj C dx) = (rule tag >>= fun _ => pure (.done (.ret .notImplemented))) := ⟨_, rfl, _, rfl⟩
  rw [e]
  refine wpAny_bind (wpAny_load I.1 ?_)
  rw [e2]
  exact wpAny_bind (wpAny_rule (wpAny_pure q))
theorem int_ne {n : Int} {u : Tok} {x : Addr} : NoWord "int.__ne__" Builtin.«int.__ne__» (.int n u) x := fun prog w A E s K C dx od Q X I hl ht q => by
  obtain ⟨k, e, tag, e2⟩ : ∃ k : Obj → Sem Fin, Builtin.«int.__ne__» ⟨[.int n u, .ref x], []⟩ = load x >>= k ∧ ∃ tag, k (instObj C dx) = (rule tag >>= fun _ => pure (.done (.ret .notImplemented))) := ⟨_, rfl, _, rfl⟩
  rw [e]
  refine wpAny_bind (wpAny_load I.1 ?_)
  rw [e2]
  exact wpAny_bind (wpAny_rule (wpAny_pure q))
/-- the slot of a built-in type: how it is found, bound and entered -/
structure SlotB (T : String) (nm : Str) (id : String) (B : Builtin) : Prop where
  slot : Slot T nm id
  entry : entryFor table id = some B
  kind : builtinKind id = some .slot
  split : ∃ n, splitId id = some (T, n)
  sub : isSubtype (.type T) (.type T) = pure true
  args : ∀ a b, argsOk id ⟨[a, b], []⟩
section
variable {prog : Program} {w : World} {A : Around} {E : Value → Shared → Prop} {s : Shared} {K : Frag} {x C dx : Addr} {od : Option Obj}
theorem mute {T : String} {nm : Str} {id : String} {B : Builtin} {a : Value} (S : SlotB T nm id B) (N : NoWord id B a x) (hta : Looks (model prog w) s.heap (typeOf a) (.type T)) (X : K.In s.heap) (I : InstAt s.heap x (instObj C dx) C od)
    (hl : subIn K (.ref C) (.type "list") = some false) (ht : subIn K (.ref C) (.type "tuple") = some false) : Mute prog w A E s a nm (.ref x) := by
  intro Q h
  obtain ⟨n, hn⟩ := S.split
  have last : ∀ R : Option Value → Shared → Prop, R (some Value.notImplemented) s → wpAny (model prog w) A (call (Value.builtin id) ([a] ++ [Value.ref x]) >>= fun v => pure (some v)) R E s := fun R q => by
    have inst : Looks (model prog w) s.heap (isInstance a (.type T)) true := hta.andThen (.of_pure S.sub)
    refine wpAny_bind (wpAny_call (codeAny_call_builtin S.slot.plain S.entry (check_slot S.kind hn inst (S.args _ _) ?_)))
    exact N _ _ _ _ s K C dx od _ X I hl ht (wpAny_pure q)
  have look : Looks (model prog w) s.heap (specialOf a nm) (some (.builtin id)) := hta.andThen (.of_pure S.slot.lookup)
  unfold tryCompare callSpecialIfBound? bindSpecialIfBound?
  refine wpAny_bind (wpAny_holding (wpAny_bind (wpAny_bind (look.here (wpAny_bind (wpAny_askSetting (wpAny_ite ?_)))))))
  simp only [S.slot.bind]
  split
  · exact wpAny_bind (wpAny_pure (wpAny_pure (last _ (wpAny_pure h))))
  · exact wpAny_tryCatch (wpAny_bind (wpAny_pure (wpAny_pure (last _ (wpAny_pure h)))))
end
theorem sb_none_eq : SlotB "NoneType" "__eq__" "NoneType.__eq__" Builtin.«NoneType.__eq__» := ⟨PySem.F.slot_NoneType_eq, PySem.F.entry_NoneType_eq, by decide +kernel, ⟨"__eq__", by decide +kernel⟩, by rw [isSubtype_type]; kernel_rfl, fun _ _ => PySem.F.args_NoneType_eq_2 _ _⟩
theorem sb_none_ne : SlotB "NoneType" "__ne__" "NoneType.__ne__" Builtin.«NoneType.__ne__» := ⟨PySem.F.slot_NoneType_ne, PySem.F.entry_NoneType_ne, by decide +kernel, ⟨"__ne__", by decide +kernel⟩, by rw [isSubtype_type]; kernel_rfl, fun _ _ => PySem.F.args_NoneType_ne_2 _ _⟩
theorem sb_str_eq : SlotB "str" "__eq__" "str.__eq__" Builtin.«str.__eq__» := ⟨PySem.F.slot_str_eq, PySem.F.entry_str_eq, by decide +kernel, ⟨"__eq__", by decide +kernel⟩, by rw [isSubtype_type]; kernel_rfl, fun _ _ => PySem.F.args_str_eq_2 _ _⟩
theorem sb_str_ne : SlotB "str" "__ne__" "str.__ne__" Builtin.«str.__ne__» := ⟨PySem.F.slot_str_ne, PySem.F.entry_str_ne, by decide +kernel, ⟨"__ne__", by decide +kernel⟩, by rw [isSubtype_type]; kernel_rfl, fun _ _ => PySem.F.args_str_ne_2 _ _⟩
theorem sb_int_eq : SlotB "int" "__eq__" "int.__eq__" Builtin.«int.__eq__» := ⟨PySem.F.slot_int_eq, PySem.F.entry_int_eq, by decide +kernel, ⟨"__eq__", by decide +kernel⟩, by rw [isSubtype_type]; kernel_rfl, fun _ _ => PySem.F.args_int_eq_2 _ _⟩
theorem sb_int_ne : SlotB "int" "__ne__" "int.__ne__" Builtin.«int.__ne__» := ⟨PySem.F.slot_int_ne, PySem.F.entry_int_ne, by decide +kernel, ⟨"__ne__", by decide +kernel⟩, by rw [isSubtype_type]; kernel_rfl, fun _ _ => PySem.F.args_int_ne_2 _ _⟩
theorem sb_list_eq : SlotB "list" "__eq__" "list.__eq__" Builtin.«list.__eq__» := ⟨PySem.F.slot_list_eq, PySem.F.entry_list_eq, by decide +kernel, ⟨"__eq__", by decide +kernel⟩, by rw [isSubtype_type]; kernel_rfl, fun _ _ => PySem.F.args_list_eq_2 _ _⟩
theorem sb_list_ne : SlotB "list" "__ne__" "list.__ne__" Builtin.«list.__ne__» := ⟨PySem.F.slot_list_ne, PySem.F.entry_list_ne, by decide +kernel, ⟨"__ne__", by decide +kernel⟩, by rw [isSubtype_type]; kernel_rfl, fun _ _ => PySem.F.args_list_ne_2 _ _⟩
theorem sb_tup_eq : SlotB "tuple" "__eq__" "tuple.__eq__" Builtin.«tuple.__eq__» := ⟨PySem.F.slot_tuple_eq, PySem.F.entry_tuple_eq, by decide +kernel, ⟨"__eq__", by decide +kernel⟩, by rw [isSubtype_type]; kernel_rfl, fun _ _ => PySem.F.args_tuple_eq_2 _ _⟩
theorem sb_tup_ne : SlotB "tuple" "__ne__" "tuple.__ne__" Builtin.«tuple.__ne__» := ⟨PySem.F.slot_tuple_ne, PySem.F.entry_tuple_ne, by decide +kernel, ⟨"__ne__", by decide +kernel⟩, by rw [isSubtype_type]; kernel_rfl, fun _ _ => PySem.F.args_tuple_ne_2 _ _⟩
end Lf
namespace Lf
open PySem PySem.Spec PyProof.Rows L2
/-- a thing of a built-in type that stands on the left of == and != -/
inductive Lft (K : PySem.W.Frag) (H : Hp) : V → String → Prop where
  | non : Lft K H .non "NoneType"
  | str (t : Str) : Lft K H (.str t) "str"
  | int (n : Int) : Lft K H (.int n) "int"
  | lst {a : Addr} (h : TyX K H (.ref a) (.type "list")) : Lft K H (.ref a) "list"
  | tup {a : Addr} (h : TyX K H (.ref a) (.type "tuple")) : Lft K H (.ref a) "tuple"
theorem Lft.ty {K : PySem.W.Frag} {H : Hp} {y : V} {T : String} (h : Lft K H y T) : TyX K H y (.type T) := by
  cases h with
  | non => exact .base .non
  | str t => exact .base (.str t)
  | int n => exact .base (.int n)
  | lst h => exact h
  | tup h => exact h
/-- the class is under none of them -/
structure Apart (K : PySem.W.Frag) (C : Addr) : Prop where
  li : PySem.W.subIn K (.ref C) (.type "list") = some false
  tu : PySem.W.subIn K (.ref C) (.type "tuple") = some false
  no : PySem.W.subIn K (.ref C) (.type "NoneType") = some false
  st : PySem.W.subIn K (.ref C) (.type "str") = some false
  nu : PySem.W.subIn K (.ref C) (.type "int") = some false
theorem Apart.of {K : PySem.W.Frag} {H : Hp} {C : Addr} {y : V} {T : String} (P : Apart K C) (h : Lft K H y T) : PySem.W.subIn K (.ref C) (.type T) = some false := by
  cases h with
  | non => exact P.no
  | str t => exact P.st
  | int n => exact P.nu
  | lst h => exact P.li
  | tup h => exact P.tu
section
variable {X : Cx} {k : Nat} {f C : Addr} {fd : FuncData} {ps : List Str} {sp : Sp}
theorem mute_eq {pins : List (Addr × Obj)} {σ : L2.St} {H : Hp} {s : Shared} {A : Around} {E : Value → Shared → Prop} {y : V} {u : Value} {T : String} {x dx : Addr} {od : Option Obj} (I : Inv X pins σ H s) (P : Apart X.K C) (L : Lft X.K H y T) (r : RelV y u)
    (hta : PySem.W.Looks (model X.prog X.w) s.heap (typeOf u) (.type T)) (J : PySem.W.InstAt s.heap x (PySem.W.instObj C dx) C od) : Mute X.prog X.w A E s u "__eq__" (.ref x) := by
  cases L with
  | non => cases (show u = Value.none from r); exact mute sb_none_eq none_eq hta I.kIn J P.li P.tu
  | str t => obtain ⟨tk, rfl⟩ := r; exact mute sb_str_eq str_eq hta I.kIn J P.li P.tu
  | int n => obtain ⟨tk, rfl⟩ := r; exact mute sb_int_eq int_eq hta I.kIn J P.li P.tu
  | lst h => exact mute sb_list_eq list_eq hta I.kIn J P.li P.tu
  | tup h => exact mute sb_tup_eq tup_eq hta I.kIn J P.li P.tu
theorem mute_ne {pins : List (Addr × Obj)} {σ : L2.St} {H : Hp} {s : Shared} {A : Around} {E : Value → Shared → Prop} {y : V} {u : Value} {T : String} {x dx : Addr} {od : Option Obj} (I : Inv X pins σ H s) (P : Apart X.K C) (L : Lft X.K H y T) (r : RelV y u)
    (hta : PySem.W.Looks (model X.prog X.w) s.heap (typeOf u) (.type T)) (J : PySem.W.InstAt s.heap x (PySem.W.instObj C dx) C od) : Mute X.prog X.w A E s u "__ne__" (.ref x) := by
  cases L with
  | non => cases (show u = Value.none from r); exact mute sb_none_ne none_ne hta I.kIn J P.li P.tu
  | str t => obtain ⟨tk, rfl⟩ := r; exact mute sb_str_ne str_ne hta I.kIn J P.li P.tu
  | int n => obtain ⟨tk, rfl⟩ := r; exact mute sb_int_ne int_ne hta I.kIn J P.li P.tu
  | lst h => exact mute sb_list_ne list_ne hta I.kIn J P.li P.tu
  | tup h => exact mute sb_tup_ne tup_ne hta I.kIn J P.li P.tu
theorem lft_one {K : PySem.W.Frag} {H : Hp} {y : V} {T : String} {u b : Value} {op : CmpOp} (L : Lft K H y T) (r : RelV y u) : oneThing? op u b = none := by
  cases L with
  | non => cases (show u = Value.none from r); rfl
  | str t => obtain ⟨tk, rfl⟩ := r; rfl
  | int n => obtain ⟨tk, rfl⟩ := r; rfl
  | lst h => cases (show u = Value.ref _ from r); exact oneThing_ref _ _ _
  | tup h => cases (show u = Value.ref _ from r); exact oneThing_ref _ _ _
/-- y == x, y of a built-in type, x an object of the class at C -/
def rEqR (K : PySem.W.Frag) (C : Addr) (sp : Sp) : R2 := fun y x H Q => ∃ (a dx : Addr) (fs : List (Str × V)) (T : String), x = .ref a ∧ H a = some (.ins C dx fs) ∧ Lft K H y T ∧ sp [.ref a, y] H (fun v H' => ∃ b, v = .bl b ∧ Q (.bl b) H') E0
theorem op_eqR (M : OwnM X.prog X.w X.K X.mg X.base k C "__eq__" f fd ps sp) (P : Apart X.K C) (hr : Room k X.A) (hG : X.A.guards = some []) : OpR X (compareOp .Eq) (rEqR X.K C sp) := by
  rintro pins s σ H y x u v Q I ry rx ⟨a, dx, fs, T, rfl, ea, L, q⟩
  cases (show v = Value.ref a from rx)
  obtain ⟨od, J⟩ := ins_at I ea
  obtain ⟨W, kit, hT, _⟩ := kit_of I ry L.ty
  have hta := kit.ty (model X.prog X.w) _ I.kIn hT
  refine rich_right hr.units0 (lft_one L ry) hta J.type (PySem.W.looks_subIn I.kIn (P.of L)) (fun z => nomatch z) (mute_eq I P L ry hta J) (says_own I.kIn J M.at_ M.isf ?_)
  refine wpAny_mono (M.run (vs := [V.ref a, y]) hr hG rfl I (.cons rfl (.cons ry .nil)) q) (fun z s' hz => ?_) fun _ _ e => e
  obtain ⟨zv, H', I', rz, b, rfl, hq⟩ := hz
  cases (show z = Value.bool b from rz)
  exact ⟨b, rfl, .bl b, H', I', rfl, hq⟩
/-- y != x -/
def rNeR (K : PySem.W.Frag) (C : Addr) (sp : Sp) : R2 := fun y x H Q => ∃ (a dx : Addr) (fs : List (Str × V)) (T : String), x = .ref a ∧ H a = some (.ins C dx fs) ∧ Lft K H y T ∧ sp [.ref a, y] H (fun v H' => ∃ b, v = .bl b ∧ Q (.bl (!b)) H') E0
/-- the class has object's __ne__ -/
structure NeOb (K : PySem.W.Frag) (C : Addr) : Prop where
  at_ : PySem.W.findIn K (.ref C) "__ne__" = some (some (.builtin "object.__ne__"))
  ob : PySem.W.subIn K (.ref C) (.type "object") = some true
theorem op_neR (M : OwnM X.prog X.w X.K X.mg X.base k C "__eq__" f fd ps sp) (P : Apart X.K C) (N : NeOb X.K C) (hr : Room (k + 1) X.A) (hG : X.A.guards = some []) : OpR X (compareOp .NotEq) (rNeR X.K C sp) := by
  rintro pins s σ H y x u v Q I ry rx ⟨a, dx, fs, T, rfl, ea, L, q⟩
  cases (show v = Value.ref a from rx)
  obtain ⟨od, J⟩ := ins_at I ea
  obtain ⟨W, kit, hT, _⟩ := kit_of I ry L.ty
  have hta := kit.ty (model X.prog X.w) _ I.kIn hT
  show wpAny _ _ (richCompare .NotEq u (.ref a)) _ _ _
  refine rich_right hr.units0 (lft_one L ry) hta J.type (PySem.W.looks_subIn I.kIn (P.of L)) (fun z => nomatch z) (mute_ne I P L ry hta J) (says_ne I.kIn J hr.in1.units0 N.at_ N.ob M.at_ M.isf ?_)
  refine wpAny_mono (M.run (vs := [V.ref a, y]) hr.in1 hG rfl I (.cons rfl (.cons ry .nil)) q) (fun z s' hz => ?_) fun _ _ e => e
  obtain ⟨zv, H', I', rz, b, rfl, hq⟩ := hz
  cases (show z = Value.bool b from rz)
  exact ⟨b, rfl, .bl (!b), H', I', rfl, hq⟩
/-- x != y, x an object of the class at C -/
def rNeO (K : PySem.W.Frag) (C : Addr) (sp : Sp) : R2 := fun x y H Q => ∃ (a dx : Addr) (fs : List (Str × V)) (t : Value), x = .ref a ∧ H a = some (.ins C dx fs) ∧ TyX K H y t ∧ PySem.W.notFirst K C t = true ∧ sp [.ref a, y] H (fun v H' => ∃ b, v = .bl b ∧ Q (.bl (!b)) H') E0
theorem op_neO (M : OwnM X.prog X.w X.K X.mg X.base k C "__eq__" f fd ps sp) (N : NeOb X.K C) (hr : Room (k + 1) X.A) (hG : X.A.guards = some []) : OpR X (compareOp .NotEq) (rNeO X.K C sp) := by
  rintro pins s σ H x y v u Q I rx ry ⟨a, dx, fs, t, rfl, ea, ty, hn, q⟩
  cases (show v = Value.ref a from rx)
  obtain ⟨od, J⟩ := ins_at I ea
  obtain ⟨W, kit, hT, _⟩ := kit_of I ry ty
  show wpAny _ _ (richCompare .NotEq (.ref a) u) _ _ _
  refine rich_left hr.units0 (oneThing_ref _ _ _) J.type (kit.ty _ _ I.kIn hT) ?_ (says_ne I.kIn J hr.in1.units0 N.at_ N.ob M.at_ M.isf ?_)
  · unfold PySem.W.notFirst at hn
    rcases Bool.or_eq_true_iff.mp hn with e | e
    · exact .inl (beq_iff_eq.mp e).symm
    · exact .inr (PySem.W.looks_subIn I.kIn (beq_iff_eq.mp e))
  refine wpAny_mono (M.run (vs := [V.ref a, y]) hr.in1 hG rfl I (.cons rfl (.cons ry .nil)) q) (fun z s' hz => ?_) fun _ _ e => e
  obtain ⟨zv, H', I', rz, b, rfl, hq⟩ := hz
  cases (show z = Value.bool b from rz)
  exact ⟨b, rfl, .bl (!b), H', I', rfl, hq⟩
end
end Lf

set_option Elab.async false
set_option linter.all false
set_option maxRecDepth 100000
set_option maxHeartbeats 4000000
set_option exponentiation.threshold 3000
namespace Lf
open PySem PySem.Spec PyProof.Rows L2
section
variable {P : Program} {w : World} {K : PySem.W.Frag} {mg : Str → Option Value} {base : Heap} {c0 c1 : Addr}

/-! ### is_lead -/
theorem sc_is_lead : FnScope ["thing"] ["thing"] (defScope s_is_lead) := ⟨rfl, rfl, rfl, by decide +kernel, rfl, by decide +kernel, by decide +kernel⟩
def sp_lead (K : PySem.W.Frag) : Sp := fun vs H Q _ => ∃ n : Int, vs = [.int n] ∧ 0 ≤ n ∧ n ≤ 99 ∧ Q (.bl true) H
theorem ok_lead {f : Addr} {fd : FuncData} {tk : Tok} (G_LEAD : mg "LONGEST_LEAD" = some (.int 99 tk)) (F : Fun K "is_lead" "is_lead" s_is_lead f fd) (C_is_whole : Cal P w K mg base CX0 1 "is_whole" ["thing"] (sp_whole K)) : FnG P w K mg base CX0 2 f fd ["thing"] (sp_lead K) := by
  refine Gfun F sc_is_lead (fun vs H Q E h => ?_) (fun cdv A outer s H vs Q E hg hr h => ?_)
  · obtain ⟨n, rfl, _⟩ := h
    rfl
  · obtain ⟨n, rfl, h0, h9, k⟩ := h
    refine ⟨_, (pss_one (ps_ret (pe_and (pe_g C_is_whole (hr.mono (by decide)) hg (pa_cons (pv 0) pa_nil)) (pe_one (pe_chain op_le op_le pe_int (pv 0) (pe_glob (v := .int 99) rfl G_LEAD ⟨_, rfl⟩)))))), ?_⟩
    refine ⟨_, rfl, .int n, .int n, rfl, .dp (.int n) (by rfl), _, rfl, iteT ?_⟩
    refine ⟨_, rfl, _, _, rfl, rfl, _, rfl, ?_⟩
    rw [decide_eq_true h0]
    refine iteT ⟨_, _, rfl, rfl, ?_⟩
    change Q (V.bl (decide (n ≤ 99))) H
    rw [decide_eq_true h9]
    exact k
/-- a dough of the name z, the rows rs and the lead n -/
def Dgh (K : PySem.W.Frag) (H : Hp) (C x : Addr) (z : Str) (rs : List (Str × (Int × Int))) (n : Int) : Prop := ∃ (dx pr : Addr) (xs : List V), H x = some (.ins C dx [("own_name", .str z), ("own_rows", .ref pr), ("own_lead", .int n)]) ∧ SqT K H pr xs ∧ RwsAt K H xs rs
theorem Dgh.same {H H' : Hp} {C x : Addr} {z : Str} {rs : List (Str × (Int × Int))} {n : Int} (s : Same H H') (p : Dgh K H C x z rs n) : Dgh K H' C x z rs n := by
  obtain ⟨dx, pr, xs, h1, h2, h3⟩ := p
  exact ⟨dx, pr, xs, s _ _ h1, sm_t s h2, h3.same s⟩
structure DghF (K : PySem.W.Frag) (C : Addr) : Prop where
  c : Cls K C
  n1 : NoAttr K C "own_name"
  n2 : NoAttr K C "own_rows"
  n3 : NoAttr K C "own_lead"
structure DghOk (z : Str) (rs : List (Str × (Int × Int))) (n : Int) : Prop where
  nm : Nm z
  rw_ : RwsOk rs
  n0 : 0 ≤ n
  n9 : n ≤ 99

/-! ### Dough.__init__ -/
theorem sc_dinit : FnScope ["self", "name", "rows", "lead"] ["self", "name", "rows", "lead"] (defScope s_dinit) := ⟨rfl, rfl, rfl, by decide +kernel, rfl, by decide +kernel, by decide +kernel⟩
def sp_arer (K : PySem.W.Frag) : Sp := fun vs H Q E => sp_arerL K vs H Q E ∨ sp_arerT K vs H Q E
def sp_dinit (K : PySem.W.Frag) (C : Addr) : Sp := fun vs H Q _ => ∃ (x dx : Addr) (H0 : Hp) (z : Str) (a : Addr) (xs : List V) (rs : List (Str × (Int × Int))) (n : Int), vs = [.ref x, .str z, .ref a, .int n] ∧ H0 x = none ∧ H0 dx = none ∧ dx ≠ x ∧ H = L2.upd (L2.upd H0 dx (.own x)) x (.ins C dx []) ∧
  (SqL K H0 a xs ∨ SqT K H0 a xs) ∧ RwsAt K H0 xs rs ∧ DghOk z rs n ∧ ∀ H', Same H0 H' → Dgh K H' C x z rs n → Q .non H'
theorem ok_dinit {C f : Addr} {fd : FuncData} {dvs : List V} {kws : List (Str × V)} (Mx : Bltx mg) (X : DghF K C) (F : FunD K "__init__" "Dough.__init__" (defArgs s_dinit) (defBody s_dinit) (defScope s_dinit) dvs kws f fd)
    (C_is_name : Cal P w K mg base CX0 2 "is_name" ["thing"] (sp_isnm K)) (C_are_rows : Cal P w K mg base CX0 5 "are_rows" ["thing"] (sp_arer K)) (C_is_lead : Cal P w K mg base CX0 2 "is_lead" ["thing"] (sp_lead K)) : FnG P w K mg base CX0 6 f fd ["self", "name", "rows", "lead"] (sp_dinit K C) := by
  refine GfunDX F sc_dinit (fun vs H Q E h => ?_) (fun cdv A outer s H vs Q E hg hr h => ?_)
  · obtain ⟨x, dx, H0, z, a, xs, rs, n, rfl, _⟩ := h
    rfl
  · obtain ⟨x, dx, H0, z, a, xs, rs, n, rfl, nx, nd, hdx, rfl, hS, hA, ok, k⟩ := h
    refine ⟨_, (pss_cons (ps_if (pt_not (pt_val (pe_g C_is_name (hr.mono (by decide)) hg (pa_cons (pv 1) pa_nil))))
      (pss_one ps_dead)
      pss_nil)
      (pss_cons (ps_if (pt_not (pt_val (pe_g C_are_rows (hr.mono (by decide)) hg (pa_cons (pv 2) pa_nil))))
      (pss_one ps_dead)
      pss_nil)
      (pss_cons (ps_if (pt_not (pt_val (pe_g C_is_lead (hr.mono (by decide)) hg (pa_cons (pv 3) pa_nil))))
      (pss_one ps_dead)
      pss_nil)
      (pss_cons (ps_fld (pv 0) (pv 1) rfl)
      (pss_cons (ps_fld (pv 0) (pe_callTy call_tuple_of rfl Mx.tuple bt_tuple (pa_cons (pv 2) pa_nil)) rfl)
      (pss_one (ps_fld (pv 0) (pv 3) rfl))))))), ?_⟩
    have s01 : Same H0 (L2.upd (L2.upd H0 dx (.own x)) x (.ins C dx [])) := fun b o e => by
      rw [upd_ne (ne_of_none e nx), upd_ne (ne_of_none e nd)]
      exact e
    have hx1 : L2.upd (L2.upd H0 dx (.own x)) x (.ins C dx []) x = some (.ins C dx []) := upd_same
    generalize L2.upd (L2.upd H0 dx (.own x)) x (.ins C dx []) = H1 at s01 hx1 ⊢
    refine ⟨_, rfl, .str z, .str z, rfl, .dp (.str z) (by rfl), fun z' e => by cases e; exact Nat.le_trans ok.nm.le (by decide), fun H2 s12 => ?_⟩
    rw [nm_is ok.nm.al ok.nm.l1 ok.nm.le]
    refine ⟨_, rfl, iteF ?_⟩
    have s02 := s01.trans s12
    have key : ∀ Q', (∀ H', Same H2 H' → Q' (.bl true) H') → sp_arer K [.ref a] H2 Q' E0 := fun Q' q => by
      rcases hS with hS | hS
      · exact .inl ⟨a, xs, rs, rfl, sm_l s02 hS, hA.same s02, ok.rw_, q⟩
      · exact .inr ⟨a, xs, rs, rfl, sm_t s02 hS, hA.same s02, ok.rw_, q⟩
    refine ⟨_, rfl, key _ fun H3 s23 => ⟨_, rfl, iteF ?_⟩⟩
    have s03 := s02.trans s23
    refine ⟨_, rfl, n, rfl, ok.n0, ok.n9, _, rfl, iteF ?_⟩
    have hx3 := (s12.trans s23) _ _ hx1
    refine ⟨_, rfl, _, rfl, x, C, dx, [], rfl, hx3, X.c, X.n1, by decide, ?_⟩
    have s04 : Same H0 (L2.upd H3 x (.ins C dx (putF "own_name" (.str z) []))) := fun b o e => by
      rw [upd_ne (ne_of_none e nx)]
      exact s03 _ _ e
    have hx4 : L2.upd H3 x (.ins C dx (putF "own_name" (.str z) [])) x = some (.ins C dx (putF "own_name" (.str z) [])) := upd_same
    generalize L2.upd H3 x (.ins C dx (putF "own_name" (.str z) [])) = H4 at s04 hx4 ⊢
    have fin : ∀ (H5 : Hp) (pr : Addr) (_ : Same H0 H5) (_ : H5 x = some (.ins C dx (putF "own_name" (.str z) []))) (_ : SqT K H5 pr xs), Same H0 (L2.upd (L2.upd H5 x (.ins C dx (putF "own_rows" (.ref pr) (putF "own_name" (.str z) [])))) x (.ins C dx (putF "own_lead" (.int n) (putF "own_rows" (.ref pr) (putF "own_name" (.str z) []))))) ∧
        Dgh K (L2.upd (L2.upd H5 x (.ins C dx (putF "own_rows" (.ref pr) (putF "own_name" (.str z) [])))) x (.ins C dx (putF "own_lead" (.int n) (putF "own_rows" (.ref pr) (putF "own_name" (.str z) []))))) C x z rs n := fun H5 pr s5 hx5 ht => by
      have s6 : Same H0 (L2.upd (L2.upd H5 x (.ins C dx (putF "own_rows" (.ref pr) (putF "own_name" (.str z) [])))) x (.ins C dx (putF "own_lead" (.int n) (putF "own_rows" (.ref pr) (putF "own_name" (.str z) []))))) := fun b o e => by
        rw [upd_ne (ne_of_none e nx), upd_ne (ne_of_none e nx)]
        exact s5 _ _ e
      refine ⟨s6, dx, pr, xs, upd_same, ?_, hA.same s6⟩
      rcases ht with (h | ⟨o, h⟩) | h
      · have ne : pr ≠ x := fun e => by rw [e, hx5] at h; cases h
        exact .inl (.inl (by rw [upd_ne ne, upd_ne ne]; exact h))
      · have ne : pr ≠ x := fun e => by rw [e, hx5] at h; cases h
        exact .inl (.inr ⟨o, by rw [upd_ne ne, upd_ne ne]; exact h⟩)
      · exact .inr h
    rcases hS with hS | hS
    · refine ⟨_, rfl, a, xs, rfl, .inl ⟨sm_l s04 hS, fun l nl => ?_⟩⟩
      have s5 : Same H4 (L2.upd H4 l (.tup xs)) := same_new nl
      have hx5 := s5 _ _ hx4
      have t5 : SqT K (L2.upd H4 l (.tup xs)) l xs := .inl (.inl upd_same)
      generalize L2.upd H4 l (.tup xs) = H5 at s5 hx5 t5 ⊢
      obtain ⟨f1, f2⟩ := fin H5 l (s04.trans s5) hx5 t5
      refine ⟨_, rfl, x, C, dx, _, rfl, hx5, X.c, X.n2, by show 1 < 1000; decide, ?_⟩
      refine ⟨_, rfl, _, rfl, x, C, dx, _, rfl, upd_same, X.c, X.n3, by show 2 < 1000; decide, ?_⟩
      exact k _ f1 f2
    · refine ⟨_, rfl, a, xs, rfl, .inr ⟨sm_t s04 hS, ?_⟩⟩
      obtain ⟨f1, f2⟩ := fin H4 a s04 hx4 (sm_t s04 hS)
      refine ⟨_, rfl, x, C, dx, _, rfl, hx4, X.c, X.n2, by show 1 < 1000; decide, ?_⟩
      refine ⟨_, rfl, _, rfl, x, C, dx, _, rfl, upd_same, X.c, X.n3, by show 2 < 1000; decide, ?_⟩
      exact k _ f1 f2

/-! ### Dough.name -/
theorem sc_dname : FnScope ["self"] ["self"] (defScope s_dname) := ⟨rfl, rfl, rfl, by decide +kernel, rfl, by decide +kernel, by decide +kernel⟩
def sp_dname (K : PySem.W.Frag) (C : Addr) : Sp := fun vs H Q _ => ∃ (x : Addr) (z : Str) (rs : List (Str × (Int × Int))) (n : Int), vs = [.ref x] ∧ Dgh K H C x z rs n ∧ Q (.str z) H
theorem ok_dname {C f : Addr} {fd : FuncData} (X : DghF K C) (F : Fun K "name" "Dough.name" s_dname f fd) : FnG P w K mg base CX0 1 f fd ["self"] (sp_dname K C) := by
  refine Gfun F sc_dname (fun vs H Q E h => ?_) (fun cdv A outer s H vs Q E hg hr h => ?_)
  · obtain ⟨x, z, rs, n, rfl, _⟩ := h
    rfl
  · obtain ⟨x, z, rs, n, rfl, ⟨dx, pr, xs, h1, h2, h3⟩, k⟩ := h
    exact ⟨_, (pss_one (ps_ret (pe_fld (pv 0) rfl))), _, rfl, x, C, dx, _, _, rfl, h1, X.c, X.n1, rfl, k⟩

/-! ### Dough.lead -/
theorem sc_dlead : FnScope ["self"] ["self"] (defScope s_dlead) := ⟨rfl, rfl, rfl, by decide +kernel, rfl, by decide +kernel, by decide +kernel⟩
def sp_dlead (K : PySem.W.Frag) (C : Addr) : Sp := fun vs H Q _ => ∃ (x : Addr) (z : Str) (rs : List (Str × (Int × Int))) (n : Int), vs = [.ref x] ∧ Dgh K H C x z rs n ∧ Q (.int n) H
theorem ok_dlead {C f : Addr} {fd : FuncData} (X : DghF K C) (F : Fun K "lead" "Dough.lead" s_dlead f fd) : FnG P w K mg base CX0 1 f fd ["self"] (sp_dlead K C) := by
  refine Gfun F sc_dlead (fun vs H Q E h => ?_) (fun cdv A outer s H vs Q E hg hr h => ?_)
  · obtain ⟨x, z, rs, n, rfl, _⟩ := h
    rfl
  · obtain ⟨x, z, rs, n, rfl, ⟨dx, pr, xs, h1, h2, h3⟩, k⟩ := h
    exact ⟨_, (pss_one (ps_ret (pe_fld (pv 0) rfl))), _, rfl, x, C, dx, _, _, rfl, h1, X.c, X.n3, rfl, k⟩

/-! ### Dough.rows -/
theorem sc_drows : FnScope ["self"] ["self"] (defScope s_drows) := ⟨rfl, rfl, rfl, by decide +kernel, rfl, by decide +kernel, by decide +kernel⟩
def sp_drows (K : PySem.W.Frag) (C : Addr) : Sp := fun vs H Q _ => ∃ (x : Addr) (z : Str) (rs : List (Str × (Int × Int))) (n : Int), vs = [.ref x] ∧ Dgh K H C x z rs n ∧ ∀ l xs, H l = none → RwsAt K H xs rs → Q (.ref l) (L2.upd H l (.lst xs))
theorem ok_drows {C f : Addr} {fd : FuncData} (ml : mg "list" = none) (X : DghF K C) (F : Fun K "rows" "Dough.rows" s_drows f fd) : FnG P w K mg base CX0 1 f fd ["self"] (sp_drows K C) := by
  refine Gfun F sc_drows (fun vs H Q E h => ?_) (fun cdv A outer s H vs Q E hg hr h => ?_)
  · obtain ⟨x, z, rs, n, rfl, _⟩ := h
    rfl
  · obtain ⟨x, z, rs, n, rfl, ⟨dx, pr, xs, h1, h2, h3⟩, k⟩ := h
    exact ⟨_, (pss_one (ps_ret (pe_callTy call_list_of rfl ml bt_list (pa_cons (pe_fld (pv 0) rfl) pa_nil)))), _, rfl, x, C, dx, _, _, rfl, h1, X.c, X.n2, rfl, pr, xs, rfl, .inr h2, fun l nl => k l xs nl h3⟩

/-! ### Dough.__len__ -/
theorem sc_dlen : FnScope ["self"] ["self"] (defScope s_dlen) := ⟨rfl, rfl, rfl, by decide +kernel, rfl, by decide +kernel, by decide +kernel⟩
def sp_dlen (K : PySem.W.Frag) (C : Addr) : Sp := fun vs H Q _ => ∃ (x : Addr) (z : Str) (rs : List (Str × (Int × Int))) (n : Int), vs = [.ref x] ∧ Dgh K H C x z rs n ∧ Q (.int (rs.length : Nat)) H
theorem ok_dlen {C f : Addr} {fd : FuncData} (M : Blt mg) (X : DghF K C) (F : Fun K "__len__" "Dough.__len__" s_dlen f fd) : FnG P w K mg base CX0 1 f fd ["self"] (sp_dlen K C) := by
  refine Gfun F sc_dlen (fun vs H Q E h => ?_) (fun cdv A outer s H vs Q E hg hr h => ?_)
  · obtain ⟨x, z, rs, n, rfl, _⟩ := h
    rfl
  · obtain ⟨x, z, rs, n, rfl, ⟨dx, pr, xs, h1, h2, h3⟩, k⟩ := h
    have hl : xs.length = rs.length := Paired.length h3
    rw [← hl] at k
    exact ⟨_, (pss_one (ps_ret (pe_callB call_len_seq rfl M.len bt_len (pa_cons (pe_fld (pv 0) rfl) pa_nil)))), _, rfl, x, C, dx, _, _, rfl, h1, X.c, X.n2, rfl, pr, xs, rfl, .inr h2, k⟩

/-! ### Dough.total -/
theorem sc_dtotal : FnScope ["self", "thing", "parts"] ["self"] (defScope s_dtotal) := ⟨rfl, rfl, rfl, by decide +kernel, rfl, by decide +kernel, by decide +kernel⟩
theorem RwsAt.len {H : Hp} {xs : List V} {rs : List (Str × (Int × Int))} (h : RwsAt K H xs rs) : xs.length = rs.length := Paired.length h
/-- the parts of the rows together -/
def totR (rs : List (Str × (Int × Int))) : Int × Int := (rs.map (·.2)).foldl fadd f0
def sp_dtotal (K : PySem.W.Frag) (C : Addr) : Sp := fun vs H Q _ => ∃ (x : Addr) (z : Str) (rs : List (Str × (Int × Int))) (n : Int), vs = [.ref x] ∧ Dgh K H C x z rs n ∧ RwsOk rs ∧ ∀ H' v, Same H H' → AtK K H' v (totR rs) → Q v H'
theorem ok_dtotal {C f : Addr} {fd : FuncData} (X : DghF K C) (F : Fun K "total" "Dough.total" s_dtotal f fd) (C_together : Cal P w K mg base CX0 6 "together" ["ones"] (sp_togL K)) : FnG P w K mg base CX0 7 f fd ["self"] (sp_dtotal K C) := by
  refine Gfun F sc_dtotal (fun vs H Q E h => ?_) (fun cdv A outer s H vs Q E hg hr h => ?_)
  · obtain ⟨x, z, rs, n, rfl, _⟩ := h
    rfl
  · obtain ⟨x, z, rs, n, rfl, ⟨dx, pr, xs, h1, h2, h3⟩, ok, k⟩ := h
    refine ⟨_, (pss_one (ps_ret (pe_g C_together (hr.mono (by decide)) hg (pa_cons (pe_lc (own := [("thing", 1), ("parts", 2)]) (g := gTup K 2 (gCons (gName 1) (gCons (gName 2) (gNil)))) (tt := tYes) rfl sc_dtotal.nd (pi_tup (pe_fld (pv 0) rfl)) (blkOk_by (N := ["self", "thing", "parts"]) (sc := defScope s_dtotal) (by decide +kernel)) (fun _ _ _ _ _ => pg_tupK (K := K) rfl (pgs_cons (pg_name (i := 1) sc_dtotal.nd rfl (Or.inl rfl)) (pgs_cons (pg_name (i := 2) sc_dtotal.nd rfl (Or.inl rfl)) pgs_nil))) (fun _ _ _ _ _ => pts_nil) (fun _ _ _ _ _ => (pv 2))) pa_nil)))), ?_⟩
    have hl := h3.len
    have h8 := ok.few
    refine ⟨_, rfl, x, C, dx, _, _, rfl, h1, X.c, X.n2, rfl, pr, rfl, ⟨_, h2⟩, fun D hD => lc_tup (xs := xs) (fun i H' => Same H H' ∧ ∃ acc, H' D = some (.lst acc) ∧ AtKs K H acc ((rs.map (·.2)).take i)) ⟨same_new hD, [], upd_same, .nil⟩ (fun i H' _ h => sm_t h.1 h2) ?_ ?_⟩
    · rintro i y H2 hy ⟨s2, acc, eacc, hacc⟩
      obtain ⟨r, hr1, ⟨p, vf, rfl, hp, hf⟩⟩ := h3.get hy
      have hi : i < xs.length := (List.getElem?_eq_some_iff.mp hy).1
      have hal := hacc.length
      rw [List.length_take, List.length_map] at hal
      refine ⟨p, [.str r.1, vf], rfl, sm_t s2 hp, rfl, _, _, rfl, _, _, rfl, rfl, ?_⟩
      refine ⟨rfl, _, rfl, acc, eacc, ?_, fun b o e => ?_, acc ++ [vf], upd_same, ?_⟩
      · rw [sizeLine_eq]
        omega
      · rw [upd_ne (ne_of_none e hD)]
        exact s2 _ _ e
      · have hg2 : (rs.map (·.2))[i]? = some r.2 := by rw [List.getElem?_map, hr1]; rfl
        rw [List.take_succ, hg2]
        exact hacc.app (.cons hf .nil)
    · rintro H2 ⟨s2, acc, eacc, hacc⟩
      rw [List.take_of_length_le (by rw [List.length_map]; omega)] at hacc
      refine ⟨D, acc, rs.map (fun r : Str × (Int × Int) => r.2), rfl, .inl (.inl eacc), hacc.same s2, ?_, ?_, ?_, fun H3 v s3 hv => k H3 v (s2.trans s3) hv⟩
      · intro f hf
        obtain ⟨r, hr1, rfl⟩ := List.mem_map.mp hf
        exact (ok.all r hr1).lo
      · intro f hf
        obtain ⟨r, hr1, rfl⟩ := List.mem_map.mp hf
        exact (ok.bt hr1).mono (by decide)
      · exact fun i => (ok.cm.part (by rw [List.length_map]; exact h8) i).mono (by decide)

/-! ### Dough.__eq__ -/
theorem sc_deq : FnScope ["self", "other"] ["self", "other"] (defScope s_deq) := ⟨rfl, rfl, rfl, by decide +kernel, rfl, by decide +kernel, by decide +kernel⟩
/-- a row as data -/
def rwD (r : Str × (Int × Int)) : PyData := .tuple [.str r.1, tD r.2]
theorem RwAt.dp {H : Hp} {v : V} {r : Str × (Int × Int)} (h : RwAt K H v r) : Dp K H v (rwD r) := by
  obtain ⟨p, vf, rfl, h1, h2⟩ := h
  exact .tup h1 (.cons (.str r.1) (.cons h2.dp .nil))
theorem RwsAt.dps {H : Hp} : ∀ {xs : List V} {rs : List (Str × (Int × Int))}, RwsAt K H xs rs → DpAll K H xs (rs.map rwD)
  | _, _, .nil => .nil
  | _, _, .cons a r => .cons a.dp (RwsAt.dps r)
theorem nm_strOk {z : Str} (h : AllL z) : PyData.strOk z = true := by
  show z.cps.all (· < 0x110000) = true
  rw [← Array.all_toList]
  exact List.all_eq_true.mpr fun c hc => decide_eq_true (Nat.lt_of_lt_of_le (inL_lt (h c hc)) (by decide))
theorem rws_lay : ∀ rs : List (Str × (Int × Int)), (∀ r ∈ rs, RwOk r) → PyData.canLayAll0 (rs.map rwD) = true ∧ PyData.depthAll (rs.map rwD) ≤ 2
  | [], _ => ⟨by simp only [List.map_nil, PyData.canLayAll0], by simp only [List.map_nil, PyData.depthAll]; omega⟩
  | r :: rs, h => by
    obtain ⟨i1, i2⟩ := rws_lay rs fun x hx => h x (List.mem_cons_of_mem _ hx)
    have e := nm_strOk (h r List.mem_cons_self).nm.al
    refine ⟨?_, ?_⟩
    · simp only [List.map_cons, PyData.canLayAll0, i1, rwD, tD, PyData.canLay0, e, Bool.and_self]
    · simp only [List.map_cons, PyData.depthAll, rwD, tD, PyData.depth]
      omega
theorem rws_shaped {rs : List (Str × (Int × Int))} (h : RwsOk rs) : SeqAt.shaped (.tuple (rs.map rwD)) = true := by
  obtain ⟨i1, i2⟩ := rws_lay rs h.all
  unfold SeqAt.shaped
  rw [Bool.and_eq_true]
  refine ⟨by simp only [PyData.canLay0]; exact i1, decide_eq_true ?_⟩
  simp only [PyData.depth]
  omega
theorem rw_eqv (r s : Str × (Int × Int)) : PyData.eqv (rwD r) (rwD s) = decide (r = s) := by
  have e := eqv_tD r.2 s.2
  simp only [rwD, PyData.eqv, PyData.eqvAll, Bool.and_true] at e ⊢
  rw [e]
  by_cases h : r = s
  · subst h
    simp
  · rw [decide_eq_false h]
    by_cases h1 : r.1 = s.1
    · have h2 : ¬ r.2 = s.2 := fun q => h (Prod.ext h1 q)
      simp [h1, h2]
    · simp [h1]
theorem rws_eqv : ∀ rs ss : List (Str × (Int × Int)), PyData.eqvAll (rs.map rwD) (ss.map rwD) = decide (rs = ss)
  | [], [] => by simp [PyData.eqvAll]
  | [], _ :: _ => by simp [PyData.eqvAll]
  | _ :: _, [] => by simp [PyData.eqvAll]
  | r :: rs, s :: ss => by
    rw [List.map_cons, List.map_cons, PyData.eqvAll, rw_eqv, rws_eqv rs ss]
    by_cases h : r = s
    · subst h
      simp
    · simp [h]
/-- what is of another type -/
def Alien (K : PySem.W.Frag) (H : Hp) (C : Addr) (y : V) : Prop := ∃ T : String, TyX K H y (.type T) ∧ PySem.W.kitOne K (.type T) (.ref C) = some false
/-- the class at C, as isinstance asks it -/
structure ClsX (K : PySem.W.Frag) (C : Addr) : Prop where
  c : Cls K C
  ha : PySem.W.findIn K (.ref C) "__class__" = some (some (.builtin "object.__class__"))
  hn : PySem.W.specialIn K (.builtin "object.__class__") "__get__" = some (some (.builtin "getset_descriptor.__get__"))
  ht : PySem.W.takesIn K (.builtin "object.__class__") = some true
  hm : PySem.W.mroIn K C (.type "object") = some true
theorem ClsX.ty {H : Hp} {C a dx : Addr} {fs : List (Str × V)} (c : ClsX K C) (e : H a = some (.ins C dx fs)) : TyX K H (.ref a) (.ref C) := .base (.ins e c.c c.ha c.hn c.ht c.hm)
theorem kit_self (C : Addr) : PySem.W.kitOne K (.ref C) (.ref C) = some true := by unfold PySem.W.kitOne; rw [if_pos (by simp)]
def sp_deq (K : PySem.W.Frag) (C : Addr) : Sp := fun vs H Q _ => ∃ (x : Addr) (y : V) (z : Str) (rs : List (Str × (Int × Int))) (n : Int), vs = [.ref x, y] ∧ Dgh K H C x z rs n ∧ RwsOk rs ∧
  ((Alien K H C y ∧ Q (.bl false) H) ∨ ∃ (x' : Addr) (z' : Str) (rs' : List (Str × (Int × Int))) (n' : Int), y = .ref x' ∧ Dgh K H C x' z' rs' n' ∧ RwsOk rs' ∧ Q (.bl (decide (z = z' ∧ rs = rs' ∧ n = n'))) H)
theorem ok_deq {C f : Addr} {fd : FuncData} (Mx : Bltx mg) (Y : ClsX K C) (X : DghF K C) (gP : mg "Dough" = some (.ref C)) (F : Fun K "__eq__" "Dough.__eq__" s_deq f fd) : FnG P w K mg base CX0 1 f fd ["self", "other"] (sp_deq K C) := by
  refine Gfun F sc_deq (fun vs H Q E h => ?_) (fun cdv A outer s H vs Q E hg hr h => ?_)
  · obtain ⟨x, y, z, rs, n, rfl, _⟩ := h
    rfl
  · obtain ⟨x, y, z, rs, n, rfl, ⟨dx, pr, xs, h1, h2, h3⟩, ok, k⟩ := h
    refine ⟨_, (pss_cons (ps_if (PW.pt (pw_or (pt_not (pt_val (pe_callB call_isi rfl Mx.isinstance bt_isinstance (pa_cons (pv 1) (pa_cons (pe_glob (v := .ref C) rfl gP rfl) pa_nil))))) (pw_or1 (pt_cmpR op_ne (pe_fld (pv 0) rfl) (pe_fld (pv 1) rfl) (nomark _)))))
      (pss_one (ps_ret pe_bl))
      pss_nil)
      (pss_one (ps_ret (pe_and (pe_cmpR (op_eqD hr.units) (pe_fld (pv 0) rfl) (pe_fld (pv 1) rfl) (nomark _)) (pe_one (pe_cmpR op_eq (pe_fld (pv 0) rfl) (pe_fld (pv 1) rfl) (nomark _))))))), ?_⟩
    rcases k with ⟨⟨T, hT, hk⟩, k⟩ | ⟨x', z', rs', n', rfl, ⟨dx', pr', xs', h1', h2', h3'⟩, ok', k⟩
    · exact ⟨_, rfl, _, _, _, _, _, rfl, .own C, hT, hk, _, rfl, iteT k⟩
    · refine ⟨_, rfl, _, _, _, _, _, rfl, .own C, Y.ty h1', kit_self C, _, rfl, iteF ?_⟩
      refine ⟨_, rfl, x, C, dx, _, _, rfl, h1, X.c, X.n1, rfl, _, rfl, x', C, dx', _, _, rfl, h1', X.c, X.n1, rfl, rfl, _, rfl, ite2 (fun e => ?_) (fun e => ?_)⟩
      · have nz : ¬ z = z' := fun q => by subst q; simp at e
        rw [decide_eq_false (fun q => nz q.1)] at k
        exact k
      · have ez : z = z' := by
          by_cases q : z = z'
          · exact q
          · exact absurd (by simp [q]) e
        subst ez
        refine ⟨_, rfl, x, C, dx, _, _, rfl, h1, X.c, X.n2, rfl, _, rfl, x', C, dx', _, _, rfl, h1', X.c, X.n2, rfl, ?_⟩
        refine ⟨.tuple (rs.map rwD), .tuple (rs'.map rwD), .tup h2 h3.dps, .tup h2' h3'.dps, rws_shaped ok, rws_shaped ok', ?_⟩
        have ee : PyData.eqv (.tuple (rs.map rwD)) (.tuple (rs'.map rwD)) = decide (rs = rs') := by
          simp only [PyData.eqv]
          exact rws_eqv rs rs'
        rw [ee]
        refine ⟨_, rfl, ite2 (fun e2 => ?_) (fun e2 => ?_)⟩
        · have eh : rs = rs' := of_decide_eq_true e2
          subst eh
          refine ⟨_, rfl, x, C, dx, _, _, rfl, h1, X.c, X.n3, rfl, _, rfl, x', C, dx', _, _, rfl, h1', X.c, X.n3, rfl, rfl, ?_⟩
          have e3 : decide (V.int n = V.int n') = decide (z = z ∧ rs = rs ∧ n = n') := by
            by_cases q : n = n' <;> simp [q]
          rw [e3]
          exact k
        · have nh : ¬ rs = rs' := fun q => e2 (decide_eq_true q)
          rw [decide_eq_false (fun q => nh q.2.1)] at k
          exact k

/-! ### Dough.__repr__ -/
theorem sc_drepr : FnScope ["self", "words", "told"] ["self"] (defScope s_drepr) := ⟨rfl, rfl, rfl, by decide +kernel, rfl, by decide +kernel, by decide +kernel⟩
theorem empty_app (x : Str) : Str.empty ++ x = x := by
  show (⟨#[] ++ x.cps⟩ : Str) = x
  simp
theorem al_sg {z : Str} (h : AllL z) : Sg z := fun c hc => Nat.lt_of_lt_of_le (inL_lt (h c hc)) (by decide)
theorem rw_fb {r : Str × (Int × Int)} (h : RwOk r) (b : Bt 880 r.2) : Fb 14 2 (rwD r) := Fb.tuple (.cons (Fb.str (al_sg h.nm.al) h.nm.le) (.cons (Fb.two ((b.mono (by decide : 880 ≤ 900)).1) ((b.mono (by decide : 880 ≤ 900)).2)) .nil))
theorem rws_fb {rs : List (Str × (Int × Int))} (h : RwsOk rs) : Fb 120 3 (.list (rs.map rwD)) := by
  have a : FbA ((14 + 1) * (rs.map rwD).length) 2 (rs.map rwD) := FbA.all fun d hd => by
    obtain ⟨r, hr, rfl⟩ := List.mem_map.mp hd
    exact rw_fb (h.all r hr) (h.bt hr)
  rw [List.length_map] at a
  exact (Fb.list a).le (by have := h.few; omega) (by decide)
/-- the three of a dough -/
def dghDs (z : Str) (rs : List (Str × (Int × Int))) (n : Int) : List PyData := [.str z, .list (rs.map rwD), .int n]
def dghText (z : Str) (rs : List (Str × (Int × Int))) (n : Int) : Str := Str.ofString "Dough(" ++ Txt.join (Str.ofString ", ") ((dghDs z rs n).map PyData.shown) ++ Str.ofString ")"
theorem DghOk.ft {z : Str} {rs : List (Str × (Int × Int))} {n : Int} (ok : DghOk z rs n) : ∀ d ∈ dghDs z rs n, Fb 120 3 d := by
  intro d hd
  simp only [dghDs, List.mem_cons, List.not_mem_nil, or_false] at hd
  rcases hd with rfl | rfl | rfl
  · exact (Fb.str (al_sg ok.nm.al) ok.nm.le).le (by decide) (by decide)
  · exact rws_fb ok.rw_
  · have h0 := ok.n0
    have h9 := ok.n9
    exact (Fb.int (Nat.lt_of_lt_of_le (show n.natAbs < 2 ^ 7 by omega) (Nat.pow_le_pow_right (by decide) (by decide)))).le (by decide) (by decide)
theorem dw_len {z : Str} {rs : List (Str × (Int × Int))} {n : Int} (ok : DghOk z rs n) : ∀ t ∈ (dghDs z rs n).map PyData.shown, t.length ≤ 121240 := by
  intro t ht
  obtain ⟨d, hd, rfl⟩ := List.mem_map.mp ht
  have := (ok.ft d hd).len
  omega
theorem sum_len_le {b : Nat} : ∀ ts : List Str, (∀ t ∈ ts, t.length ≤ b) → (ts.map (·.length)).sum ≤ b * ts.length
  | [], _ => by simp
  | t :: ts, h => by
    have := sum_len_le ts fun x hx => h x (List.mem_cons_of_mem _ hx)
    have h1 := h t List.mem_cons_self
    rw [List.map_cons, List.sum_cons, List.length_cons, Nat.mul_succ]
    omega
theorem join_len : ∀ (ts : List Str), (Str.join (Str.ofString ", ") ts).length ≤ (ts.map (·.length)).sum + 2 * ts.length
  | [] => by decide
  | [x] => by
    show x.length ≤ _
    simp
  | x :: y :: r => by
    have e : Str.join (Str.ofString ", ") (x :: y :: r) = x ++ Str.ofString ", " ++ Str.join (Str.ofString ", ") (y :: r) := rfl
    have := join_len (y :: r)
    rw [e, PySem.Str.length_append, PySem.Str.length_append, List.map_cons, List.sum_cons, List.length_cons, show (Str.ofString ", ").length = 2 by decide +kernel]
    omega
theorem dw_sum {z : Str} {rs : List (Str × (Int × Int))} {n : Int} (ok : DghOk z rs n) : (((dghDs z rs n).map PyData.shown).map (·.length)).sum ≤ 363720 := by
  have := sum_len_le _ (dw_len ok)
  rw [List.length_map] at this
  exact this
theorem dj_len {z : Str} {rs : List (Str × (Int × Int))} {n : Int} (ok : DghOk z rs n) : (Txt.join (Str.ofString ", ") ((dghDs z rs n).map PyData.shown)).length ≤ 363726 := by
  have h1 := join_len ((dghDs z rs n).map PyData.shown)
  have h2 := dw_sum ok
  rw [List.length_map, show (dghDs z rs n).length = 3 from rfl] at h1
  have e : Txt.join (Str.ofString ", ") ((dghDs z rs n).map PyData.shown) = Str.join (Str.ofString ", ") ((dghDs z rs n).map PyData.shown) := StrLaws.glued_eq_join _ _
  rw [e]
  omega
/-- data told one by one -/
def DpsAt (K : PySem.W.Frag) (H : Hp) (vs : List V) (ds : List PyData) : Prop := ∀ (i : Nat) (v : V), vs[i]? = some v → ∃ d, ds[i]? = some d ∧ Dp K H v d
def sp_drepr (K : PySem.W.Frag) (C : Addr) : Sp := fun vs H Q _ => ∃ (x : Addr) (z : Str) (rs : List (Str × (Int × Int))) (n : Int), vs = [.ref x] ∧ Dgh K H C x z rs n ∧ DghOk z rs n ∧ ∀ H', Same H H' → Q (.str (dghText z rs n)) H'
theorem ok_drepr {C f : Addr} {fd : FuncData} (M : Blt mg) (ml : mg "list" = none) (X : DghF K C) (F : Fun K "__repr__" "Dough.__repr__" s_drepr f fd) : FnG P w K mg base CX0 1 f fd ["self"] (sp_drepr K C) := by
  refine Gfun F sc_drepr (fun vs H Q E h => ?_) (fun cdv A outer s H vs Q E hg hr h => ?_)
  · obtain ⟨x, z, rs, n, rfl, _⟩ := h
    rfl
  · obtain ⟨x, z, rs, n, rfl, ⟨dx, pr, xs, h1, h2, h3⟩, ok, k⟩ := h
    refine ⟨_, (pss_cons (ps_setLc (i := 1) (own := [("told", 2)]) (g := gName 2) (tt := tYes) rfl sc_drepr.nd rfl rfl (sw_true rfl rfl rfl (by decide +kernel)) (pi_tup (pe_tup (pa_cons (pe_fld (pv 0) rfl) (pa_cons (pe_callTy call_list_of rfl ml bt_list (pa_cons (pe_fld (pv 0) rfl) pa_nil)) (pa_cons (pe_fld (pv 0) rfl) pa_nil))))) (blkOk_by (N := ["self", "words", "told"]) (sc := defScope s_drepr) (by decide +kernel)) (fun _ _ _ _ _ => pg_name (i := 2) sc_drepr.nd rfl (Or.inl rfl)) (fun _ _ _ _ _ => pts_nil) (fun _ _ _ _ _ => (pe_callB (call_showK (K := K) hg hr) rfl M.repr bt_repr (pa_cons (pv 2) pa_nil))))
      (pss_one (ps_ret (pe_joined (PJ.cons pe_str (PJ.cons (pe_fmt (pe_bm PySem.F.plainAttrs_str PySem.F.slot_str_join PySem.F.type_str_join mt_join pe_str (pa_cons (pv 1) pa_nil))) (PJ.cons pe_str PJ.nil))))))), ?_⟩
    refine ⟨_, rfl, x, C, dx, _, _, rfl, h1, X.c, X.n1, rfl, _, rfl, x, C, dx, _, _, rfl, h1, X.c, X.n2, rfl, pr, xs, rfl, .inr h2, fun l nl => ?_⟩
    have s0 : Same H (L2.upd H l (.lst xs)) := same_new nl
    have e0 : L2.upd H l (.lst xs) l = some (.lst xs) := upd_same
    generalize L2.upd H l (.lst xs) = H0 at s0 e0 ⊢
    refine ⟨_, rfl, x, C, dx, _, _, rfl, s0 _ _ h1, X.c, X.n3, rfl, len_show (Nat.le_of_ble_eq_true rfl), fun p hp => ?_⟩
    have s1 : Same H0 (L2.upd H0 p (.tup [.str z, .ref l, .int n])) := same_new hp
    have t1 : SqT K (L2.upd H0 p (.tup [.str z, .ref l, .int n])) p [.str z, .ref l, .int n] := .inl (.inl upd_same)
    generalize L2.upd H0 p (.tup [.str z, .ref l, .int n]) = H1 at s1 t1 ⊢
    have six : DpsAt K H1 [.str z, .ref l, .int n] (dghDs z rs n) := by
      intro i v hi
      match i, hi with
      | 0, hi => cases hi; exact ⟨_, rfl, .str z⟩
      | 1, hi => cases hi; exact ⟨_, rfl, .lst (.inl (.inl (s1 _ _ e0))) (RwsAt.dps (h3.same (s0.trans s1)))⟩
      | 2, hi => cases hi; exact ⟨_, rfl, .int n⟩
      | i + 3, hi => simp at hi
    refine ⟨p, rfl, ⟨_, t1⟩, fun D hD => lc_tup (xs := [.str z, .ref l, .int n]) (fun i H' => Same H1 H' ∧ H' D = some (.lst ((((dghDs z rs n).map PyData.shown).take i).map V.str))) ⟨same_new hD, upd_same⟩ (fun i H' _ h => sm_t h.1 t1) ?_ ?_⟩
    · rintro i y H2 hy ⟨s2, e2⟩
      obtain ⟨d, hd, hdp⟩ := six i y hy
      have hi : i < 3 := (List.getElem?_eq_some_iff.mp hy).1
      have sh := (ok.ft d (List.mem_of_getElem? hd)).g
      refine ⟨rfl, _, rfl, y, d, rfl, .of (Dp.same s2 _ _ hdp), sh.sh, sh.dp, sh.ln, _, e2, ?_, fun b o e => ?_, ?_⟩
      · rw [List.length_map, List.length_take, sizeLine_eq]
        omega
      · rw [upd_ne (ne_of_none e hD)]
        exact s2 _ _ e
      · have hg2 : ((dghDs z rs n).map PyData.shown)[i]? = some d.shown := by rw [List.getElem?_map, hd]; rfl
        rw [upd_same, List.take_succ, hg2, List.map_append]
        rfl
    · rintro H2 ⟨s2, e2⟩
      rw [List.take_of_length_le (by rw [List.length_map]; exact Nat.le_refl _)] at e2
      have zl := sizeLine_eq
      have jl := dj_len ok
      have l1 : (Str.ofString "Dough(").length = 6 := by decide +kernel
      have l2 : (Str.ofString ")").length = 1 := by decide +kernel
      refine ⟨Str.ofString "Dough(", rfl, ?_, ?_⟩
      · rw [empty_app]
        omega
      rw [empty_app]
      refine ⟨rfl, _, rfl, _, D, (dghDs z rs n).map PyData.shown, rfl, rfl, .inl (.inl (.inl e2)), ?_, .inl ⟨_, rfl, by omega, _, rfl, ?_, Str.ofString ")", rfl, ?_, k H2 ((s0.trans s1).trans s2)⟩⟩
      · have := dw_sum ok
        rw [List.length_map, show (dghDs z rs n).length = 3 from rfl, show (Str.ofString ", ").length = 2 by decide +kernel]
        omega
      · rw [PySem.Str.length_append]
        omega
      · rw [PySem.Str.length_append, PySem.Str.length_append]
        omega

end
end Lf

set_option Elab.async false
set_option linter.all false
set_option maxHeartbeats 4000000
set_option exponentiation.threshold 3000
/-! Loaves and rests; baked and wide; scaled. -/
namespace Lf
theorem n1_f (n : Int) : IsF (n, 1) := ⟨by show (0 : Int) < 1; decide, by show Nat.gcd n.natAbs 1 = 1; exact Nat.gcd_one_right _⟩
theorem rv_n1 (n : Int) : rv (n, 1) = (n : Rat) := by
  show Rat.divInt n 1 = n
  rw [Rat.divInt_eq_div]
  grind
theorem rv_pos {f : Int × Int} (hf : IsF f) (h : 0 < f.1) : 0 < rv f := by
  have h1 : 0 ≤ rv f := (rv_nn hf).mpr (Int.le_of_lt h)
  have h2 : rv f ≠ 0 := fun e => by have := (rv_zero hf).mp e; omega
  grind
theorem rat1 {n W H I : Rat} (h : n ≤ W * I) (hi : H * I = 1) (p : 0 < H) : 0 ≤ W - n * H := by
  have := Rat.mul_le_mul_of_nonneg_right h (Rat.le_of_lt p)
  have e : W * I * H = W := by grind
  rw [e] at this
  grind
theorem rat2 {n W H I : Rat} (h : W * I < n + 1) (hi : H * I = 1) (p : 0 < H) : W - n * H < H := by
  have := Rat.mul_lt_mul_of_pos_right h p
  have e : W * I * H = W := by grind
  rw [e] at this
  grind
/-- a floor, between -/
theorem wfloor_le {q : Int × Int} (hq : IsF q) : ((q.1.fdiv q.2 : Int) : Rat) ≤ rv q ∧ rv q < ((q.1.fdiv q.2 : Int) : Rat) + 1 := by
  have hb : 0 < q.2 := hq.1
  rw [fdiv_pos_eq hb]
  have h1 := Int.ediv_mul_le q.1 (Int.ne_of_gt hb)
  have h2 := Int.lt_ediv_add_one_mul_self q.1 hb
  constructor
  · rw [← rv_n1, rv_le (n1_f _) hq]
    show q.1 / q.2 * q.2 ≤ q.1 * 1
    omega
  · have e : ((q.1 / q.2 : Int) : Rat) + 1 = rv (q.1 / q.2 + 1, 1) := by
      rw [rv_n1, Rat.intCast_add]
      rfl
    rw [e, rv_lt hq (n1_f _)]
    show q.1 * 1 < (q.1 / q.2 + 1) * q.2
    omega
section
variable {wt h : Int × Int}
theorem wrst_rv (hw : IsF wt) (hh : IsF h) (n : Int) : rv (fsub wt (fmul (n, 1) h)) = rv wt - (n : Rat) * rv h := by
  rw [rv_sub hw (fmul_f (n1_f n) hh), rv_mul (n1_f n) hh, rv_n1]
theorem wrst_nn (hw : IsF wt) (hh : IsF h) (p : 0 < h.1) : 0 ≤ (fsub wt (fmul ((fdiv wt h).1.fdiv (fdiv wt h).2, 1) h)).1 := by
  have h0 : h.1 ≠ 0 := by omega
  have q := fdiv_f hw h0
  have f := (wfloor_le q).1
  rw [← rv_nn (fsub_f hw (fmul_f (n1_f _) hh)), wrst_rv hw hh]
  rw [rv_div hw h0] at f
  have hp := rv_pos hh p
  have hi : rv h * (rv h)⁻¹ = 1 := Rat.mul_inv_cancel _ (by grind)
  exact rat1 f hi hp
theorem wrst_lt (hw : IsF wt) (hh : IsF h) (p : 0 < h.1) : rv (fsub wt (fmul ((fdiv wt h).1.fdiv (fdiv wt h).2, 1) h)) < rv h := by
  have h0 : h.1 ≠ 0 := by omega
  have q := fdiv_f hw h0
  have f := (wfloor_le q).2
  rw [wrst_rv hw hh]
  rw [rv_div hw h0] at f
  have hp := rv_pos hh p
  have hi : rv h * (rv h)⁻¹ = 1 := Rat.mul_inv_cancel _ (by grind)
  exact rat2 f hi hp
/-- count and rest make the weight again -/
theorem wrst_sum (hw : IsF wt) (hh : IsF h) (n : Int) : fadd (fmul (n, 1) h) (fsub wt (fmul (n, 1) h)) = wt := by
  have a := fmul_f (n1_f n) hh
  refine rv_inj (fadd_f a (fsub_f hw a)) hw ?_
  rw [rv_add a (fsub_f hw a), rv_sub hw a]
  grind
theorem wrst_none (hw : IsF wt) (hh : IsF h) : fsub wt (fmul (0, 1) h) = wt := by
  have a := fmul_f (n1_f 0) hh
  refine rv_inj (fsub_f hw a) hw ?_
  rw [wrst_rv hw hh]
  have : ((0 : Int) : Rat) = 0 := rfl
  rw [this]
  grind
theorem wcnt_nn (hw : IsF wt) (hh : IsF h) (pw : 0 < wt.1) (p : 0 < h.1) : 0 ≤ (fdiv wt h).1.fdiv (fdiv wt h).2 := by
  have h0 : h.1 ≠ 0 := by omega
  have q := fdiv_f hw h0
  have hb : 0 < (fdiv wt h).2 := q.1
  rw [fdiv_pos_eq hb]
  refine Int.ediv_nonneg ?_ (Int.le_of_lt hb)
  exact low_top_nn (Int.mul_pos hw.1 p) (Int.le_of_lt (Int.mul_pos pw hh.1))
/-- as often as it was taken -/
theorem wcnt_of (hh : IsF h) (p : 0 < h.1) (n : Int) : (fdiv (fmul (n, 1) h) h) = (n, 1) := by
  have h0 : h.1 ≠ 0 := by omega
  have a := fmul_f (n1_f n) hh
  refine rv_inj (fdiv_f a h0) (n1_f n) ?_
  rw [rv_div a h0, rv_mul (n1_f n) hh]
  have hp := rv_pos hh p
  have hi : rv h * (rv h)⁻¹ = 1 := Rat.mul_inv_cancel _ (by grind)
  grind
theorem sub_self_f (hw : IsF wt) : fsub wt wt = f0 := by
  refine rv_inj (fsub_f hw hw) f0_f ?_
  rw [rv_sub hw hw, rv0]
  grind
end
section
variable {b s : Int × Int}
theorem wdiv_mul (hb : IsF b) (hs : IsF s) (h0 : s.1 ≠ 0) : fmul (fdiv b s) s = b := by
  refine rv_inj (fmul_f (fdiv_f hb h0) hs) hb ?_
  rw [rv_mul (fdiv_f hb h0) hs, rv_div hb h0]
  have hz : rv s ≠ 0 := fun e => h0 ((rv_zero hs).mp e)
  have hi : rv s * (rv s)⁻¹ = 1 := Rat.mul_inv_cancel _ hz
  grind
theorem wmul_div (hb : IsF b) (hs : IsF s) (h0 : s.1 ≠ 0) : fdiv (fmul b s) s = b := by
  have m := fmul_f hb hs
  refine rv_inj (fdiv_f m h0) hb ?_
  rw [rv_div m h0, rv_mul hb hs]
  have hz : rv s ≠ 0 := fun e => h0 ((rv_zero hs).mp e)
  have hi : rv s * (rv s)⁻¹ = 1 := Rat.mul_inv_cancel _ hz
  grind
end
/-! ### rows by a factor -/
theorem fold_mul {x : Int × Int} (hx : IsF x) : ∀ (l : List (Int × Int)) (a : Int × Int), IsF a → (∀ f ∈ l, IsF f) → rv ((l.map fun f => fmul f x).foldl fadd (fmul a x)) = rv (l.foldl fadd a) * rv x
  | [], a, ha, _ => rv_mul ha hx
  | f :: l, a, ha, h => by
    have hf := h f List.mem_cons_self
    have e : fadd (fmul a x) (fmul f x) = fmul (fadd a f) x := by
      refine rv_inj (fadd_f (fmul_f ha hx) (fmul_f hf hx)) (fmul_f (fadd_f ha hf) hx) ?_
      rw [rv_add (fmul_f ha hx) (fmul_f hf hx), rv_mul ha hx, rv_mul hf hx, rv_mul (fadd_f ha hf) hx, rv_add ha hf]
      grind
    show rv ((l.map fun f => fmul f x).foldl fadd (fadd (fmul a x) (fmul f x))) = rv (l.foldl fadd (fadd a f)) * rv x
    rw [e]
    exact fold_mul hx l (fadd a f) (fadd_f ha hf) fun g hg => h g (List.mem_cons_of_mem _ hg)
theorem sum_mul {x : Int × Int} {l : List (Int × Int)} (hx : IsF x) (h : ∀ f ∈ l, IsF f) : (l.map fun f => fmul f x).foldl fadd f0 = fmul (l.foldl fadd f0) x := by
  have e0 : fmul f0 x = f0 := by
    refine rv_inj (fmul_f f0_f hx) f0_f ?_
    rw [rv_mul f0_f hx, rv0]
    grind
  have hs := (sum_fold l f0 f0_f h).1
  refine rv_inj (sum_fold _ f0 f0_f fun g hg => ?_).1 (fmul_f hs hx) ?_
  · obtain ⟨f, hf, rfl⟩ := List.mem_map.mp hg
    exact fmul_f (h f hf) hx
  · have := fold_mul hx l f0 f0_f h
    rw [e0] at this
    rw [this, rv_mul hs hx]
theorem ratS {f1 f2 w1 w2 t1 t2 s u : Rat} (h1 : f2 ≠ 0) (h2 : w2 ≠ 0) (h3 : t2 ≠ 0) (h4 : t1 ≠ 0) (h5 : u ≠ 0) (e : f2 * s = t2 * u) : f1 / f2 * (w1 / w2 * (t1 / t2)⁻¹) = (f1 * s * w1) / (w2 * (t1 * u)) := by
  grind
theorem rv_div' (f : Int × Int) : rv f = (f.1 : Rat) / (f.2 : Rat) := Rat.divInt_eq_div ..
theorem rsum_nn : ∀ l : List (Int × Int), (∀ f ∈ l, IsF f ∧ 0 ≤ f.1) → 0 ≤ rsum l
  | [], _ => by decide
  | f :: l, h => by
    have a := rsum_nn l fun g hg => h g (List.mem_cons_of_mem _ hg)
    have b := (rv_nn (h f List.mem_cons_self).1).mpr (h f List.mem_cons_self).2
    show 0 ≤ rv f + rsum l
    grind
theorem rsum_mem : ∀ (l : List (Int × Int)) (f : Int × Int), f ∈ l → (∀ f ∈ l, IsF f ∧ 0 ≤ f.1) → rv f ≤ rsum l
  | g :: l, f, hf, h => by
    have a := rsum_nn l fun g hg => h g (List.mem_cons_of_mem _ hg)
    have b := (rv_nn (h g List.mem_cons_self).1).mpr (h g List.mem_cons_self).2
    show rv f ≤ rv g + rsum l
    rcases List.mem_cons.mp hf with rfl | hf
    · grind
    · have := rsum_mem l f hf fun g hg => h g (List.mem_cons_of_mem _ hg)
      grind
theorem part_le {l : List (Int × Int)} {f : Int × Int} (hf : f ∈ l) (h : ∀ f ∈ l, IsF f ∧ 0 ≤ f.1) : rv f ≤ rv (l.foldl fadd f0) := by
  rw [(sum_fold l f0 f0_f fun f hf => (h f hf).1).2, rv0, Rat.zero_add]
  exact rsum_mem l f hf h
theorem ratV {F W T I c : Rat} (h1 : 0 ≤ F) (h2 : F ≤ T) (h3 : 0 < T) (hi : T * I = 1) (h4 : 0 ≤ W) (h5 : W ≤ c) : F * (W * I) ≤ c := by
  have p : 0 ≤ I := by
    rcases Rat.le_total (a := I) (b := 0) with q | q
    · have := Rat.mul_le_mul_of_nonneg_left q (Rat.le_of_lt h3)
      grind
    · exact q
  have a : F * I ≤ T * I := Rat.mul_le_mul_of_nonneg_right h2 p
  rw [hi] at a
  have b : W * (F * I) ≤ W * 1 := Rat.mul_le_mul_of_nonneg_left a h4
  grind
/-- scaled: the bottom of f * (w / t) where f and t have the bottom N -/
theorem qn_scaled {N c e k : Nat} {f w t : Int × Int} (hf : Qn N c f) (ht : Qn N e t) (hN : 0 < N) (tp : 0 < t.1) (hw : IsF w) (wp : 0 < w.1) (ft : rv f ≤ rv t) (wb : Bt k w) : Qn (w.2.toNat * (t.1.toNat * (N / t.2.toNat))) (2 ^ k) (fmul f (fdiv w t)) := by
  have f2 : 0 < f.2 := hf.lo.1
  have t2 : 0 < t.2 := ht.lo.1
  have w2 : 0 < w.2 := hw.1
  have h0 : t.1 ≠ 0 := by omega
  have dv := fdiv_f hw h0
  have gf := fmul_f hf.lo dv
  obtain ⟨s, hs⟩ := hf.dn
  have ⟨u, hu⟩ : ∃ u : Nat, N = t.2.toNat * u := by
    have : t.2.toNat ∣ N := by
      have := ht.dn
      rw [← Int.toNat_of_nonneg (Int.le_of_lt t2)] at this
      exact Int.natCast_dvd_natCast.mp this
    exact this
  have hu2 : N / t.2.toNat = u := by
    rw [hu]
    exact Nat.mul_div_cancel_left _ (by omega)
  have up : 0 < u := by
    rcases Nat.eq_zero_or_pos u with q | q
    · rw [q, Nat.mul_zero] at hu
      omega
    · exact q
  have et : (t.2.toNat : Int) = t.2 := Int.toNat_of_nonneg (Int.le_of_lt t2)
  have et1 : (t.1.toNat : Int) = t.1 := Int.toNat_of_nonneg (Int.le_of_lt tp)
  have ew : (w.2.toNat : Int) = w.2 := Int.toNat_of_nonneg (Int.le_of_lt w2)
  have eN : (N : Int) = t.2 * u := by rw [hu, Int.natCast_mul, et]
  rw [hu2]
  have r : rv (fmul f (fdiv w t)) = rv f * (rv w * (rv t)⁻¹) := by rw [rv_mul hf.lo dv, rv_div hw h0]
  refine ⟨gf, ?_, ?_, ?_⟩
  · exact low_top_nn (Int.mul_pos f2 dv.1) (Int.mul_nonneg hf.nn (low_top_nn (Int.mul_pos w2 tp) (Int.le_of_lt (Int.mul_pos wp t2))))
  · refine rv_dn (a := f.1 * s * w.1) gf ?_ ?_
    · rw [Int.natCast_mul, Int.natCast_mul, ew, et1]
      have := Int.mul_pos w2 (Int.mul_pos tp (show (0 : Int) < u by omega))
      omega
    · rw [r, Rat.divInt_eq_div, Int.natCast_mul, Int.natCast_mul, ew, et1, rv_div', rv_div', rv_div']
      rw [Rat.intCast_mul, Rat.intCast_mul, Rat.intCast_mul, Rat.intCast_mul]
      refine ratS ?_ ?_ ?_ ?_ ?_ ?_
      · exact fun z => by have := Rat.intCast_eq_zero_iff.mp z; omega
      · exact fun z => by have := Rat.intCast_eq_zero_iff.mp z; omega
      · exact fun z => by have := Rat.intCast_eq_zero_iff.mp z; omega
      · exact fun z => by have := Rat.intCast_eq_zero_iff.mp z; omega
      · exact fun z => by have := Rat.intCast_eq_zero_iff.mp z; omega
      · rw [← Rat.intCast_mul, ← Rat.intCast_mul, ← hs, ← eN]
  · have key : rv (fmul f (fdiv w t)) ≤ rv (((2 ^ k : Nat) : Int), 1) := by
      rw [r, rv_n1]
      have tq := rv_pos ht.lo tp
      refine ratV ((rv_nn hf.lo).mpr hf.nn) ft tq (Rat.mul_inv_cancel _ (by grind)) (Rat.le_of_lt (rv_pos hw wp)) ?_
      rw [← rv_n1, rv_le hw (n1_f _)]
      show w.1 * 1 ≤ ((2 ^ k : Nat) : Int) * w.2
      have b1 := wb.1
      have : ((2 ^ k : Nat) : Int) * 1 ≤ ((2 ^ k : Nat) : Int) * w.2 := Int.mul_le_mul_of_nonneg_left (by omega) (by omega)
      omega
    have := (rv_le gf (n1_f _)).mp key
    show (fmul f (fdiv w t)).1 ≤ ((2 ^ k : Nat) : Int) * (fmul f (fdiv w t)).2
    have h1 : (fmul f (fdiv w t)).1 * 1 ≤ ((2 ^ k : Nat) : Int) * (fmul f (fdiv w t)).2 := this
    omega
/-- weights of rows in the place of their parts -/
theorem cmn_scaled {fs : List (Int × Int)} {w : Int × Int} {k : Nat} (h : ∀ f ∈ fs, IsF f ∧ 0 < f.1 ∧ Bt 40 f) (h1 : 1 ≤ fs.length) (h8 : fs.length ≤ 8) (hw : IsF w) (wp : 0 < w.1) (wb : Bt k w) (hk : k ≤ 100) : Cmn (fs.map fun f => fmul f (fdiv w (fs.foldl fadd f0))) := by
  have b := botP_lt (k := 40) fs fun f hf => (h f hf).2.2
  have p := botP_pos fs fun f hf => (h f hf).1
  have b2 : botP fs ≤ 2 ^ 320 := Nat.le_trans b (Nat.pow_le_pow_right (by decide) (by omega))
  have q : ∀ f ∈ fs, Qn (botP fs) (2 ^ 40) f := fun f hf => (qn_of_bt (h f hf).1 (Int.le_of_lt (h f hf).2.1) (h f hf).2.2).mono (botP_dvd fs f hf) (Nat.le_refl _)
  have t := Qn.sum q h8
  have tp : 0 < (fs.foldl fadd f0).1 := fold_pos fs f0 f0_f (fun f hf => (h f hf).1) (fun f hf => (h f hf).2.1) (by decide) (.inl fun z => by rw [z] at h1; cases h1)
  have tb : (fs.foldl fadd f0).1 ≤ ((2 ^ 40 * 8 : Nat) : Int) * (fs.foldl fadd f0).2 := t.vb
  have tN := t.le_N p
  have t2 : 0 < (fs.foldl fadd f0).2 := t.lo.1
  have w2 : 0 < w.2 := hw.1
  obtain ⟨u, hu⟩ : (fs.foldl fadd f0).2.toNat ∣ botP fs := by
    have := t.dn
    rw [← Int.toNat_of_nonneg (Int.le_of_lt t2)] at this
    exact Int.natCast_dvd_natCast.mp this
  refine ⟨w.2.toNat * ((fs.foldl fadd f0).1.toNat * (botP fs / (fs.foldl fadd f0).2.toNat)), 2 ^ k, ?_, Nat.two_pow_pos _, ?_, ?_⟩
  · refine Nat.mul_pos (by omega) (Nat.mul_pos (by omega) (Nat.div_pos (by omega) (by omega)))
  · have s1 : (fs.foldl fadd f0).1.toNat * (botP fs / (fs.foldl fadd f0).2.toNat) ≤ 2 ^ 40 * 8 * botP fs := by
      rw [hu, Nat.mul_div_cancel_left _ (by omega), ← Nat.mul_assoc]
      exact Nat.mul_le_mul_right _ (by
        have e : ((2 ^ 40 * 8 * (fs.foldl fadd f0).2.toNat : Nat) : Int) = ((2 ^ 40 * 8 : Nat) : Int) * (fs.foldl fadd f0).2 := by rw [Int.natCast_mul, Int.toNat_of_nonneg (Int.le_of_lt t2)]
        omega)
    have w1 : w.2.toNat ≤ 2 ^ k := by have := wb.2; omega
    calc 8 * 2 ^ k * (w.2.toNat * ((fs.foldl fadd f0).1.toNat * (botP fs / (fs.foldl fadd f0).2.toNat))) ≤ 8 * 2 ^ k * (2 ^ k * (2 ^ 40 * 8 * 2 ^ 320)) := Nat.mul_le_mul_left _ (Nat.mul_le_mul w1 (Nat.le_trans s1 (Nat.mul_le_mul_left _ b2)))
      _ = 2 ^ (366 + 2 * k) := by
        rw [show 366 + 2 * k = 366 + k + k by omega, Nat.pow_add, Nat.pow_add]
        rw [show (2 : Nat) ^ 366 = 8 * (2 ^ 40 * 8 * 2 ^ 320) by decide]
        simp only [Nat.mul_comm, Nat.mul_left_comm, Nat.mul_assoc]
      _ < 2 ^ 880 := Nat.pow_lt_pow_right (by decide) (by omega)
  · intro g hg
    obtain ⟨f, hf, rfl⟩ := List.mem_map.mp hg
    exact qn_scaled (q f hf) t p tp hw wp (part_le hf fun f hf => ⟨(h f hf).1, Int.le_of_lt (h f hf).2.1⟩) wb
/-- there and back -/
theorem scaled_back {f w t : Int × Int} (hf : IsF f) (hw : IsF w) (ht : IsF t) (wp : 0 < w.1) (tp : 0 < t.1) : fmul (fmul f (fdiv w t)) (fdiv t w) = f := by
  have w0 : w.1 ≠ 0 := by omega
  have t0 : t.1 ≠ 0 := by omega
  have a := fdiv_f hw t0
  have b := fdiv_f ht w0
  refine rv_inj (fmul_f (fmul_f hf a) b) hf ?_
  rw [rv_mul (fmul_f hf a) b, rv_mul hf a, rv_div hw t0, rv_div ht w0]
  have h1 : rv w * (rv w)⁻¹ = 1 := Rat.mul_inv_cancel _ fun e => w0 ((rv_zero hw).mp e)
  have h2 : rv t * (rv t)⁻¹ = 1 := Rat.mul_inv_cancel _ fun e => t0 ((rv_zero ht).mp e)
  grind
/-- the weights make the weight -/
theorem scaled_tot {fs : List (Int × Int)} {w : Int × Int} (h : ∀ f ∈ fs, IsF f ∧ 0 < f.1) (h1 : 1 ≤ fs.length) (hw : IsF w) : (fs.map fun f => fmul f (fdiv w (fs.foldl fadd f0))).foldl fadd f0 = w := by
  have tp : 0 < (fs.foldl fadd f0).1 := fold_pos fs f0 f0_f (fun f hf => (h f hf).1) (fun f hf => (h f hf).2) (by decide) (.inl fun z => by rw [z] at h1; cases h1)
  have t0 : (fs.foldl fadd f0).1 ≠ 0 := by omega
  have ht := (sum_fold fs f0 f0_f fun f hf => (h f hf).1).1
  have a := fdiv_f hw t0
  rw [sum_mul a fun f hf => (h f hf).1]
  refine rv_inj (fmul_f ht a) hw ?_
  rw [rv_mul ht a, rv_div hw t0]
  have h2 : rv (fs.foldl fadd f0) * (rv (fs.foldl fadd f0))⁻¹ = 1 := Rat.mul_inv_cancel _ fun e => t0 ((rv_zero ht).mp e)
  grind
/-- much times the whole is the parts times the weight -/
theorem scaled_cross {f w t : Int × Int} (hf : IsF f) (hw : IsF w) (ht : IsF t) (tp : 0 < t.1) : fmul (fmul f (fdiv w t)) t = fmul f w := by
  have t0 : t.1 ≠ 0 := by omega
  have a := fdiv_f hw t0
  refine rv_inj (fmul_f (fmul_f hf a) ht) (fmul_f hf hw) ?_
  rw [rv_mul (fmul_f hf a) ht, rv_mul hf a, rv_div hw t0, rv_mul hf hw]
  have h2 : rv t * (rv t)⁻¹ = 1 := Rat.mul_inv_cancel _ fun e => t0 ((rv_zero ht).mp e)
  grind
end Lf

set_option Elab.async false
set_option linter.all false
set_option maxRecDepth 100000
set_option maxHeartbeats 4000000
set_option exponentiation.threshold 3000
namespace Lf
open PySem PySem.Spec PyProof.Rows L2
def words : List Str := ["flour", "water", "salt", "thirst", "price"]
/-- five measures: three of them 1 together at most -/
structure MsOk (ms : List (Int × Int)) : Prop where
  five : ms.length = 5
  all : ∀ f ∈ ms, IsF f ∧ 0 ≤ f.1 ∧ Bt 45 f
  sum : rv ((ms.take 3).foldl fadd f0) ≤ 1
structure SfOk (z : Str) (ms : List (Int × Int)) : Prop where
  nm : Nm z
  ms : MsOk ms
/-- the module's constants -/
structure Cst3 (K : PySem.W.Frag) (mg : Str → Option Value) (c0 c1 cw : Addr) : Prop where
  g0 : mg "NONE_OF_IT" = some (.ref c0)
  g1 : mg "ALL_OF_IT" = some (.ref c1)
  gw : mg "WORDS" = some (.ref cw)
  t0 : ∀ H, SqT K H c0 [.int 0, .int 1]
  t1 : ∀ H, SqT K H c1 [.int 1, .int 1]
  tw : ∀ H, SqT K H cw (words.map V.str)
section
variable {P : Program} {w : World} {K : PySem.W.Frag} {mg : Str → Option Value} {base : Heap} {c0 c1 cw : Addr}
theorem Cst3.a0 (T : Cst3 K mg c0 c1 cw) (H : Hp) : AtK K H (.ref c0) f0 := ⟨c0, rfl, T.t0 H⟩
theorem Cst3.a1 (T : Cst3 K mg c0 c1 cw) (H : Hp) : AtK K H (.ref c1) f1 := ⟨c1, rfl, T.t1 H⟩
/-- a stuff of the name z and the measures ms -/
def StO (K : PySem.W.Frag) (H : Hp) (C x : Addr) (z : Str) (ms : List (Int × Int)) : Prop := ∃ (dx pm : Addr) (xs : List V), H x = some (.ins C dx [("own_name", .str z), ("measures", .ref pm)]) ∧ SqT K H pm xs ∧ AtKs K H xs ms
theorem StO.same {H H' : Hp} {C x : Addr} {z : Str} {ms : List (Int × Int)} (s : Same H H') (h : StO K H C x z ms) : StO K H' C x z ms := by
  obtain ⟨dx, pm, xs, h1, h2, h3⟩ := h
  exact ⟨dx, pm, xs, s _ _ h1, sm_t s h2, h3.same s⟩
structure StF (K : PySem.W.Frag) (C : Addr) : Prop where
  c : Cls K C
  n1 : NoAttr K C "own_name"
  n2 : NoAttr K C "measures"

/-! ### measure_or_none_of_it -/
theorem sc_measure_or_none_of_it : FnScope ["measure"] ["measure"] (defScope s_measure_or_none_of_it) := ⟨rfl, rfl, rfl, by decide +kernel, rfl, by decide +kernel, by decide +kernel⟩
def sp_orG (K : PySem.W.Frag) : Sp := fun vs H Q _ => ∃ (v : V) (f : Int × Int), vs = [v] ∧ AtK K H v f ∧ Q v H
theorem ok_orG {f : Addr} {fd : FuncData} (T : Cst3 K mg c0 c1 cw) (F : Fun K "measure_or_none_of_it" "measure_or_none_of_it" s_measure_or_none_of_it f fd) : FnG P w K mg base CX0 1 f fd ["measure"] (sp_orG K) := by
  refine Gfun F sc_measure_or_none_of_it (fun vs H Q E h => ?_) (fun cdv A outer s H vs Q E hg hr h => ?_)
  · obtain ⟨v, d, rfl, _⟩ := h
    rfl
  · obtain ⟨v, d, rfl, ⟨p, rfl, hp⟩, k⟩ := h
    refine ⟨_, (pss_cons (ps_if (pt_cmp (pc_isN (pv 0)))
      (pss_one (ps_ret (pe_glob (v := .ref c0) rfl T.g0 rfl)))
      pss_nil)
      (pss_one (ps_ret (pv 0)))), ?_⟩
    exact ⟨_, rfl, _, rfl, ite2 (fun e => by have := of_decide_eq_true e; cases this) (fun e => ⟨_, rfl, k⟩)⟩

/-! ### is_measure -/
theorem sc_is_measure : FnScope ["thing"] ["thing"] (defScope s_is_measure) := ⟨rfl, rfl, rfl, by decide +kernel, rfl, by decide +kernel, by decide +kernel⟩
def sp_isMf (K : PySem.W.Frag) : Sp := fun vs H Q _ => ∃ (v : V) (f : Int × Int), vs = [v] ∧ AtK K H v f ∧ IsF f ∧ Q (.bl (decide (0 ≤ f.1))) H
theorem ok_isMf {f : Addr} {fd : FuncData} (F : Fun K "is_measure" "is_measure" s_is_measure f fd) (C_is_fraction : Cal P w K mg base CX0 2 "is_fraction" ["thing"] (sp_isfr K)) : FnG P w K mg base CX0 3 f fd ["thing"] (sp_isMf K) := by
  refine Gfun F sc_is_measure (fun vs H Q E h => ?_) (fun cdv A outer s H vs Q E hg hr h => ?_)
  · obtain ⟨v, d, rfl, _⟩ := h
    rfl
  · obtain ⟨v, d, rfl, hv, hf, k⟩ := h
    refine ⟨_, (pss_one (ps_ret (pe_and (pe_g C_is_fraction (hr.mono (by decide)) hg (pa_cons (pv 0) pa_nil)) (pe_one (pe_cmpR op_ge (pe_ix ix_tup (pv 0) pe_int (fun _ _ => rfl)) pe_int (nomark _)))))), ?_⟩
    refine ⟨_, rfl, v, tD d, rfl, hv.dq, ?_⟩
    rw [isfr_t hf]
    refine ⟨_, rfl, iteT ?_⟩
    obtain ⟨p, rfl, hp⟩ := hv
    exact ⟨_, rfl, p, _, _, _, rfl, rfl, hp, atI_nat (j := 0) rfl, _, _, rfl, rfl, k⟩

/-! ### are_too_much -/
theorem sc_are_too_much : FnScope ["flour", "water", "salt"] ["flour", "water", "salt"] (defScope s_are_too_much) := ⟨rfl, rfl, rfl, by decide +kernel, rfl, by decide +kernel, by decide +kernel⟩
def sp_tooG (K : PySem.W.Frag) : Sp := fun vs H Q _ => ∃ (u v y : V) (f g h : Int × Int), vs = [u, v, y] ∧ AtK K H u f ∧ AtK K H v g ∧ AtK K H y h ∧ (∀ x ∈ [f, g, h], IsF x ∧ 0 ≤ x.1 ∧ Bt 45 x) ∧ rv ([f, g, h].foldl fadd f0) ≤ 1 ∧ ∀ H', Same H H' → Q (.bl false) H'
theorem ok_tooG {f : Addr} {fd : FuncData} (T : Cst3 K mg c0 c1 cw) (F : Fun K "are_too_much" "are_too_much" s_are_too_much f fd) (C_together : Cal P w K mg base CX0 6 "together" ["ones"] (sp_togL K)) (C_is_less : Cal P w K mg base CX0 1 "is_less" ["one", "other"] (sp_is_less K)) : FnG P w K mg base CX0 7 f fd ["flour", "water", "salt"] (sp_tooG K) := by
  refine Gfun F sc_are_too_much (fun vs H Q E h => ?_) (fun cdv A outer s H vs Q E hg hr h => ?_)
  · obtain ⟨u, v, y, f, g, h, rfl, _⟩ := h
    rfl
  · obtain ⟨u, v, y, f, g, h, rfl, hu, hv, hy, hal, hsum, k⟩ := h
    refine ⟨_, (pss_one (ps_ret (pe_g C_is_less (hr.mono (by decide)) hg (pa_cons (pe_glob (v := .ref c1) rfl T.g1 rfl) (pa_cons (pe_g C_together (hr.mono (by decide)) hg (pa_cons (pe_lst (pa_cons (pv 0) (pa_cons (pv 1) (pa_cons (pv 2) pa_nil)))) pa_nil)) pa_nil))))), ?_⟩
    refine ⟨_, rfl, _, rfl, _, rfl, len_show (Nat.le_of_ble_eq_true rfl), fun l1 n1 => ?_⟩
    have s1 : Same H (L2.upd H l1 (.lst [u, v, y])) := same_new n1
    have e1 : L2.upd H l1 (.lst [u, v, y]) l1 = some (.lst [u, v, y]) := upd_same
    generalize L2.upd H l1 (.lst [u, v, y]) = H1 at s1 e1 ⊢
    have hb : ∀ i, Bt 900 (([f, g, h].take i).foldl fadd f0) := fun i => by
      have a := add_bt (b := 45) ([f, g, h].take i) 1 f0 f0_f (fun x hx => (hal x (List.mem_of_mem_take hx)).1) bt01.1 (fun x hx => (hal x (List.mem_of_mem_take hx)).2.2)
      refine a.mono ?_
      rw [List.length_take]
      have : min i [f, g, h].length ≤ 3 := Nat.min_le_right _ _
      omega
    have tf := (sum_fold [f, g, h] f0 f0_f fun x hx => (hal x hx).1).1
    refine ⟨l1, [u, v, y], [f, g, h], rfl, .inl (.inl e1), .cons (hu.same s1) (.cons (hv.same s1) (.cons (hy.same s1) .nil)), fun x hx => (hal x hx).1, fun x hx => (hal x hx).2.2.mono (by decide), hb, fun H2 v2 s2 a2 => ?_⟩
    have tb : Bt 900 ([f, g, h].foldl fadd f0) := hb 3
    generalize [f, g, h].foldl fadd f0 = tt at tf tb a2 hsum ⊢
    refine ⟨_, _, _, _, pr_atk (T.a1 H2) a2 f1_f tf bt01.2 tb (by decide) (by decide), ?_⟩
    have no : decide (f1.1 * tt.2 < tt.1 * f1.2) = false := decide_eq_false (by
      have := (rv_le1 tf).mp hsum
      show ¬ (1 * tt.2 < tt.1 * 1)
      omega)
    rw [no]
    exact k H2 (s1.trans s2)

/-! ### first_wrong -/
theorem sc_first_wrong : FnScope ["name", "measures", "flour", "water", "salt", "word", "measure"] ["name", "measures"] (defScope s_first_wrong) := ⟨rfl, rfl, rfl, by decide +kernel, rfl, by decide +kernel, by decide +kernel⟩
def sp_fwG (K : PySem.W.Frag) : Sp := fun vs H Q _ => ∃ (z : Str) (p : Addr) (xs : List V) (ms : List (Int × Int)), vs = [.str z, .ref p] ∧ SqT K H p xs ∧ AtKs K H xs ms ∧ SfOk z ms ∧ ∀ H', Same H H' → Q .non H'
set_option maxHeartbeats 8000000 in
theorem ok_fwG {f : Addr} {fd : FuncData} (Mz : mg "zip" = none) (T : Cst3 K mg c0 c1 cw) (F : Fun K "first_wrong" "first_wrong" s_first_wrong f fd) (C_is_name : Cal P w K mg base CX0 2 "is_name" ["thing"] (sp_isnm K)) (C_is_measure : Cal P w K mg base CX0 3 "is_measure" ["thing"] (sp_isMf K)) (C_are_too_much : Cal P w K mg base CX0 7 "are_too_much" ["flour", "water", "salt"] (sp_tooG K)) : FnG P w K mg base CX0 8 f fd ["name", "measures"] (sp_fwG K) := by
  refine Gfun F sc_first_wrong (fun vs H Q E h => ?_) (fun cdv A outer s H vs Q E hg hr h => ?_)
  · obtain ⟨z, p, xs, ms, rfl, _⟩ := h
    rfl
  · obtain ⟨z, p, xs, ms, rfl, hp, hA, ok, k⟩ := h
    refine ⟨_, (pss_cons (ps_if (pt_not (pt_val (pe_g C_is_name (hr.mono (by decide)) hg (pa_cons (pv 0) pa_nil))))
      (pss_one (ps_ret pe_str))
      pss_nil)
      (pss_cons (ps_asg (pe_slice sl_tup (pv 1) po_none (po_some pe_int)) (pg_tup rfl (pgs_cons (pg_name (i := 2) sc_first_wrong.nd rfl (.inl rfl)) (pgs_cons (pg_name (i := 3) sc_first_wrong.nd rfl (.inl rfl)) (pgs_cons (pg_name (i := 4) sc_first_wrong.nd rfl (.inl rfl)) pgs_nil)))))
      (pss_cons (ps_for PassesOwn.never rfl (RZ.pi_zipA rfl Mz (pa_cons (pe_glob (v := .ref cw) rfl T.gw rfl) (pa_cons (pv 1) pa_nil))) (pg_tup rfl (pgs_cons (pg_name (i := 5) sc_first_wrong.nd rfl (.inl rfl)) (pgs_cons (pg_name (i := 6) sc_first_wrong.nd rfl (.inl rfl)) pgs_nil)))
      (pss_cons (ps_if (pt_not (pt_val (pe_g C_is_measure (hr.mono (by decide)) hg (pa_cons (pv 6) pa_nil))))
      (pss_one (ps_ret (pv 5)))
      pss_nil)
      (pss_one (ps_if (PW.pt (pw_and (pt_cmpR op_eq (pv 5) pe_str (nomark _)) (pw_and1 (pt_val (pe_g C_are_too_much (hr.mono (by decide)) hg (pa_cons (pv 2) (pa_cons (pv 3) (pa_cons (pv 4) pa_nil))))))))
      (pss_one (ps_ret (pv 5)))
      pss_nil))))
      (pss_one (ps_ret pe_non))))), ?_⟩
    have h5 := ok.ms.five
    have hl := hA.length
    refine ⟨_, rfl, .str z, .str z, rfl, .dp (.str z) (by rfl), fun z' e => by cases e; exact Nat.le_trans ok.nm.le (by decide), fun H1 s1 => ?_⟩
    rw [nm_is ok.nm.al ok.nm.l1 ok.nm.le]
    refine ⟨_, rfl, iteF ?_⟩
    match xs, ms, hl.trans h5, h5, hA with
    | [x0, x1, x2, x3, x4], [m0, m1, m2, m3, m4], _, _, hA =>
    refine ⟨_, rfl, _, rfl, p, _, rfl, sm_t s1 hp, by simp [HT.sIx], fun q hq => ?_⟩
    have sq : Same H1 (L2.upd H1 q (HO.tup (cutV [x0, x1, x2, x3, x4] none (some 3)))) := same_new hq
    have tq : SqT K (L2.upd H1 q (HO.tup (cutV [x0, x1, x2, x3, x4] none (some 3)))) q [x0, x1, x2] := .inl (.inl upd_same)
    generalize L2.upd H1 q (HO.tup (cutV [x0, x1, x2, x3, x4] none (some 3))) = H2 at sq tq ⊢
    have sH2 : Same H H2 := s1.trans sq
    refine ⟨q, _, rfl, tq, rfl, _, _, rfl, _, _, rfl, _, _, rfl, rfl, ?_⟩
    refine ⟨_, rfl, cw, p, words.map V.str, [x0, x1, x2, x3, x4], rfl, .inr ⟨T.tw H2, sm_t sH2 hp, ?_⟩⟩
    refine RZ.for_zipT (xs := words.map V.str) (ys := [x0, x1, x2, x3, x4]) rfl (fun i σ H' => Same H H' ∧ ∃ a b, σ = [some (.str z), some (.ref p), some x0, some x1, some x2, a, b]) ⟨sH2, _, _, rfl⟩ (fun i σ H' h => ⟨T.tw H', sm_t h.1 hp⟩) ?_ ?_
    · rintro i x y T' σ H' hx hy ⟨sH, a, b, rfl⟩ hT
      have sT : Same H' (L2.upd H' T' (.tup [x, y])) := same_new hT
      have tT : L2.upd H' T' (.tup [x, y]) T' = some (.tup [x, y]) := upd_same
      generalize L2.upd H' T' (.tup [x, y]) = H3 at sT tT ⊢
      refine ⟨T', _, rfl, .inl (.inl tT), rfl, _, _, rfl, _, _, rfl, rfl, ?_⟩
      have sH3 := sH.trans sT
      obtain ⟨m, hm, hym⟩ := hA.get hy
      have km := ok.ms.all m (List.mem_of_getElem? hm)
      have hx' : ∃ wd, words[i]? = some wd ∧ x = .str wd := by
        rw [List.getElem?_map] at hx
        obtain ⟨wd, h1, h2⟩ := Option.map_eq_some_iff.mp hx
        exact ⟨wd, h1, h2.symm⟩
      obtain ⟨wd, hw, rfl⟩ := hx'
      refine ⟨_, rfl, y, m, rfl, hym.same sH3, km.1, ?_⟩
      rw [decide_eq_true km.2.1]
      refine ⟨_, rfl, iteF ?_⟩
      refine ⟨_, rfl, rfl, _, rfl, ite2 (fun e2 => ?_) (fun e2 => ?_)⟩
      · have h0 := hA.get (i := 0) (v := x0) rfl
        have h1 := hA.get (i := 1) (v := x1) rfl
        have h2 := hA.get (i := 2) (v := x2) rfl
        obtain ⟨f0', e0, a0⟩ := h0
        obtain ⟨f1', e1, a1⟩ := h1
        obtain ⟨f2', e2', a2⟩ := h2
        cases e0
        cases e1
        cases e2'
        refine ⟨_, rfl, _, rfl, _, rfl, x0, x1, x2, m0, m1, m2, rfl, a0.same sH3, a1.same sH3, a2.same sH3, fun g hg' => ok.ms.all g ?_, ok.ms.sum, fun H4 s4 => ⟨_, rfl, iteF ⟨sH3.trans s4, _, _, rfl⟩⟩⟩
        simp only [List.mem_cons, List.not_mem_nil, or_false] at hg' ⊢
        rcases hg' with rfl | rfl | rfl
        · exact .inl rfl
        · exact .inr (.inl rfl)
        · exact .inr (.inr (.inl rfl))
      · exact ⟨sH3, _, _, rfl⟩
    · rintro σ H' ⟨sH, a, b, rfl⟩
      exact k H' sH

/-! ### Stuff.__init__ -/
theorem sc_sinit : FnScope ["self", "name", "flour", "water", "salt", "thirst", "price", "measures", "wrong", "given"] ["self", "name", "flour", "water", "salt", "thirst", "price"] (defScope s_sinit) := ⟨rfl, rfl, rfl, by decide +kernel, rfl, by decide +kernel, by decide +kernel⟩
def sp_sinit (K : PySem.W.Frag) (C : Addr) : Sp := fun vs H Q _ => ∃ (x dx : Addr) (H0 : Hp) (z : Str) (vs' : List V) (ms : List (Int × Int)), vs = .ref x :: .str z :: vs' ∧ H0 x = none ∧ H0 dx = none ∧ dx ≠ x ∧ H = L2.upd (L2.upd H0 dx (.own x)) x (.ins C dx []) ∧ AtKs K H0 vs' ms ∧ SfOk z ms ∧ ∀ H', Same H0 H' → StO K H' C x z ms → Q .non H'
set_option maxHeartbeats 8000000 in
theorem ok_sinit {C f : Addr} {fd : FuncData} {dvs : List V} {kws : List (Str × V)} (M : Blt mg) (Mx : Bltx mg) (X : StF K C) (F : FunD K "__init__" "Stuff.__init__" (defArgs s_sinit) (defBody s_sinit) (defScope s_sinit) dvs kws f fd) (C_measure_or_none_of_it : Cal P w K mg base CX0 1 "measure_or_none_of_it" ["measure"] (sp_orG K)) (C_first_wrong : Cal P w K mg base CX0 8 "first_wrong" ["name", "measures"] (sp_fwG K)) :
    FnG P w K mg base CX0 9 f fd ["self", "name", "flour", "water", "salt", "thirst", "price"] (sp_sinit K C) := by
  refine GfunDX F sc_sinit (fun vs H Q E h => ?_) (fun cdv A outer s H vs Q E hg hr h => ?_)
  · obtain ⟨x, dx, H0, z, vs', ms, rfl, _, _, _, _, hA, ok, _⟩ := h
    have h1 := hA.length
    have h2 := ok.ms.five
    show vs'.length + 2 = 7
    omega
  · obtain ⟨x, dx, H0, z, vs', ms, rfl, nx, nd, hdx, rfl, hA, ok, k⟩ := h
    have h5 := ok.ms.five
    have hl := hA.length
    match vs', hl.trans h5, hA with
    | [m0, m1, m2, m3, m4], _, hA =>
    refine ⟨_, (pss_cons (ps_set (i := 7) sc_sinit.nd rfl (.inl rfl) (pe_callTy call_tuple_of rfl Mx.tuple bt_tuple (pa_cons (pe_lc (own := [("given", 9)]) (g := gName 9) (tt := tYes) rfl sc_sinit.nd (pi_tup (pe_tup (pa_cons (pv 2) (pa_cons (pv 3) (pa_cons (pv 4) (pa_cons (pv 5) (pa_cons (pv 6) pa_nil))))))) (blkOk_by (N := ["self", "name", "flour", "water", "salt", "thirst", "price", "measures", "wrong", "given"]) (sc := defScope s_sinit) (by decide +kernel)) (fun _ _ _ _ _ => pg_name (i := 9) sc_sinit.nd rfl (Or.inl rfl)) (fun _ _ _ _ _ => pts_nil) (fun _ _ _ _ _ => (pe_g C_measure_or_none_of_it (hr.mono (by decide)) hg (pa_cons (pv 9) pa_nil)))) pa_nil)))
      (pss_cons (ps_set (i := 8) sc_sinit.nd rfl (.inl rfl) (pe_g C_first_wrong (hr.mono (by decide)) hg (pa_cons (pv 1) (pa_cons (pv 7) pa_nil))))
      (pss_cons (ps_if (pt_cmp (pc_notN (pv 8)))
      (pss_one ps_dead)
      pss_nil)
      (pss_cons (ps_fld (pv 0) (pv 1) rfl)
      (pss_one (ps_fld (pv 0) (pv 7) rfl)))))), ?_⟩
    have s01 : Same H0 (L2.upd (L2.upd H0 dx (.own x)) x (.ins C dx [])) := fun b o e => by
      rw [upd_ne (ne_of_none e nx), upd_ne (ne_of_none e nd)]
      exact e
    have hx1 : L2.upd (L2.upd H0 dx (.own x)) x (.ins C dx []) x = some (.ins C dx []) := upd_same
    generalize L2.upd (L2.upd H0 dx (.own x)) x (.ins C dx []) = H1 at s01 hx1 ⊢
    refine ⟨_, rfl, _, rfl, _, rfl, _, rfl, _, rfl, by show 5 ≤ sizeLine; decide, fun p hp => ⟨p, rfl, ⟨_, .inl (.inl upd_same)⟩, fun Dl hD => ?_⟩⟩
    have s12 : Same H1 (L2.upd H1 p (.tup [m0, m1, m2, m3, m4])) := same_new hp
    have tp : SqT K (L2.upd H1 p (.tup [m0, m1, m2, m3, m4])) p [m0, m1, m2, m3, m4] := .inl (.inl upd_same)
    generalize L2.upd H1 p (.tup [m0, m1, m2, m3, m4]) = H2 at s12 tp hD ⊢
    have s02 := s01.trans s12
    refine lc_tup (xs := [m0, m1, m2, m3, m4]) (fun i H' => Same H2 H' ∧ H' Dl = some (.lst ([m0, m1, m2, m3, m4].take i))) ⟨same_new hD, upd_same⟩ (fun i H' _ h => sm_t h.1 tp) ?_ ?_
    · rintro i y H' hy ⟨sH, hacc⟩
      obtain ⟨d, hd, hq⟩ := hA.get hy
      have hi : i < 5 := (List.getElem?_eq_some_iff.mp hy).1
      refine ⟨rfl, _, rfl, y, d, rfl, hq.same (s02.trans sH), _, hacc, ?_, fun b o e => ?_, ?_⟩
      · rw [List.length_take, sizeLine_eq]
        omega
      · rw [upd_ne (ne_of_none e hD)]
        exact sH _ _ e
      · rw [upd_same, List.take_succ, hy]
        rfl
    · rintro H3 ⟨s23, hacc⟩
      have s03 := s02.trans s23
      have hacc' : H3 Dl = some (.lst [m0, m1, m2, m3, m4]) := hacc
      refine ⟨Dl, [m0, m1, m2, m3, m4], rfl, .inl ⟨.inl (.inl hacc'), fun pm np => ?_⟩⟩
      have s4 : Same H3 (L2.upd H3 pm (.tup [m0, m1, m2, m3, m4])) := same_new np
      have e4 : L2.upd H3 pm (.tup [m0, m1, m2, m3, m4]) pm = some (.tup [m0, m1, m2, m3, m4]) := upd_same
      generalize L2.upd H3 pm (.tup [m0, m1, m2, m3, m4]) = H4 at s4 e4 ⊢
      have s04 := s03.trans s4
      refine ⟨_, rfl, _, rfl, z, pm, _, ms, rfl, .inl (.inl e4), hA.same s04, ok, fun H5 s5 => ?_⟩
      refine ⟨_, rfl, _, rfl, iteF ?_⟩
      have s05 := s04.trans s5
      have ex5 : H5 x = some (.ins C dx []) := (((s12.trans s23).trans s4).trans s5) _ _ hx1
      have ep5 := s5 _ _ e4
      refine ⟨_, rfl, _, rfl, x, C, dx, _, rfl, ex5, X.c, X.n1, by decide, ?_⟩
      have ex6 : L2.upd H5 x (.ins C dx (putF "own_name" (.str z) [])) x = some (.ins C dx [("own_name", .str z)]) := upd_same
      have s6 : ∀ b o, b ≠ x → H5 b = some o → L2.upd H5 x (.ins C dx (putF "own_name" (.str z) [])) b = some o := fun b o nb e => by
        rw [upd_ne nb]
        exact e
      generalize L2.upd H5 x (.ins C dx (putF "own_name" (.str z) [])) = H6 at ex6 s6 ⊢
      refine ⟨_, rfl, _, rfl, x, C, dx, _, rfl, ex6, X.c, X.n2, Nat.le_of_ble_eq_true rfl, ?_⟩
      have ex7 : L2.upd H6 x (.ins C dx (putF "measures" (.ref pm) [("own_name", .str z)])) x = some (.ins C dx [("own_name", .str z), ("measures", .ref pm)]) := upd_same
      have s7 : ∀ b o, b ≠ x → H5 b = some o → L2.upd H6 x (.ins C dx (putF "measures" (.ref pm) [("own_name", .str z)])) b = some o := fun b o nb e => by
        rw [upd_ne nb]
        exact s6 b o nb e
      generalize L2.upd H6 x (.ins C dx (putF "measures" (.ref pm) [("own_name", .str z)])) = H7 at ex7 s7 ⊢
      have s07 : Same H0 H7 := fun b o e => s7 b o (fun q => by rw [q, nx] at e; cases e) (s05 _ _ e)
      have npx : pm ≠ x := fun q => by rw [q, ex5] at ep5; cases ep5
      exact k H7 s07 ⟨dx, pm, _, ex7, .inl (.inl (s7 _ _ npx ep5)), hA.same s07⟩

/-! ### Stuff.name -/
theorem sc_sname : FnScope ["self"] ["self"] (defScope s_sname) := ⟨rfl, rfl, rfl, by decide +kernel, rfl, by decide +kernel, by decide +kernel⟩
def sp_sname (K : PySem.W.Frag) (C : Addr) : Sp := fun vs H Q _ => ∃ (x : Addr) (z : Str) (ms : List (Int × Int)), vs = [.ref x] ∧ StO K H C x z ms ∧ Q (.str z) H
theorem ok_sname {C f : Addr} {fd : FuncData} (X : StF K C) (F : Fun K "name" "Stuff.name" s_sname f fd) : FnG P w K mg base CX0 1 f fd ["self"] (sp_sname K C) := by
  refine Gfun F sc_sname (fun vs H Q E h => ?_) (fun cdv A outer s H vs Q E hg hr h => ?_)
  · obtain ⟨x, z, ms, rfl, _⟩ := h
    rfl
  · obtain ⟨x, z, ms, rfl, ⟨dx, pm, xs, h1, h2, h3⟩, k⟩ := h
    exact ⟨_, (pss_one (ps_ret (pe_fld (pv 0) rfl))), _, rfl, x, C, dx, _, _, rfl, h1, X.c, X.n1, rfl, k⟩

end
end Lf

set_option Elab.async false
set_option linter.all false
set_option maxRecDepth 100000
set_option maxHeartbeats 4000000
/-! xs.remove(x), texts; an expression that can be read two ways. -/
namespace Lf
open PySem PySem.Spec PyProof.Rows L2
/-- two readings of one expression -/
def tOr (t u : TE) : TE := fun σ H Q => t σ H Q ∨ u σ H Q
theorem PE.or {X : Cx} {e : Expr} {t u : TE} (h : PE X e t) (k : PE X e u) : PE X e (tOr t u) :=
  ⟨fun pins s σ H Q I q => q.elim (h.run pins s σ H Q I) (k.run pins s σ H Q I)⟩
def isTx (k : Str) : Value → Bool
  | .str x _ => x.cps.toList == k.cps.toList
  | _ => false
theorem tx_gives {k : Str} {t : Tok} : ∀ {us : List Value} {xs : List Str}, Vals (xs.map V.str) us → ∀ y ∈ us, MeetsSeq.EqGives y (.str k t) (isTx k y)
  | [], [], .nil, y, hy => nomatch hy
  | u :: us, x :: xs, .cons r rs, y, hy => by
    obtain ⟨t', rfl⟩ := r
    rcases List.mem_cons.mp hy with rfl | hy
    · exact SeqRoads2.EqGives.str x k t' t
    · exact tx_gives rs y hy
theorem tx_at {k : Str} : ∀ {us : List Value} {xs : List Str}, Vals (xs.map V.str) us → ∀ (i : Nat) (x : Str), xs[i]? = some x → ∃ t, us[i]? = some (.str x t)
  | _, [], _, i, x, h => by simp at h
  | u :: us, y :: xs, .cons r rs, 0, x, h => by
    obtain ⟨t', rfl⟩ := r
    simp at h
    exact ⟨t', by rw [h]; rfl⟩
  | u :: us, y :: xs, .cons r rs, i + 1, x, h => tx_at (k := k) rs i x (by simpa using h)
theorem tx_first : ∀ {xs : List Str} {k : Str}, k ∈ xs → ∃ j, xs[j]? = some k ∧ (∀ i x, i < j → xs[i]? = some x → x ≠ k) ∧ ∀ (f : Str → V), (xs.map f).eraseIdx j = (xs.erase k).map f
  | x :: xs, k, h => by
    by_cases e : x = k
    · refine ⟨0, by rw [e]; rfl, fun i _ hi => absurd hi (Nat.not_lt_zero _), fun f => ?_⟩
      rw [e, List.erase_cons_head]
      rfl
    · obtain ⟨j, h1, h2, h3⟩ := tx_first (xs := xs) (k := k) ((List.mem_cons.mp h).resolve_left fun z => e z.symm)
      refine ⟨j + 1, h1, fun i y hi hy => ?_, fun f => ?_⟩
      · cases i with
        | zero =>
          simp at hy
          exact hy ▸ e
        | succ i => exact h2 i y (by omega) (by simpa using hy)
      · rw [List.erase_cons_tail (by simpa using e), List.map_cons, List.map_cons, List.eraseIdx_cons_succ, h3 f]
section
variable {X : Cx}
/-- xs.remove(k): the first k goes -/
def rRemT : V → List V → Hp → VK → Prop := fun x xs H Q => ∃ (l : Addr) (zs : List Str) (k : Str), x = .ref l ∧ xs = [.str k] ∧ H l = some (.lst (zs.map V.str)) ∧ k ∈ zs ∧ Q .non (L2.upd H l (.lst ((zs.erase k).map V.str)))
theorem mt_remT : MtM X "list.remove" rRemT := by
  rintro pins s σ H x xs v us Q I rx rxs ⟨l, zs, k, rfl, rfl, hH, hk, q⟩
  cases rx
  obtain ⟨u, rfl, ru⟩ := rxs.one
  obtain ⟨t, rfl⟩ := ru
  obtain ⟨z, its, n, r, hl, e⟩ := I.lstM hH
  obtain ⟨j, h1, h2, h3⟩ := tx_first hk
  have jl : j < zs.length := (List.getElem?_eq_some_iff.mp h1).1
  rw [List.length_map] at hl z
  have js : j < its.toArray.size := by
    rw [List.size_toArray]
    omega
  refine call_meets PySem.F.slot_list_remove ⟨_, e, rfl⟩ PySem.F.entry_list_remove (PySem.F.args_list_remove_2 _ _) (MeetsSeq.list_remove l its.toArray n (.str k t) (isTx k) (fun y hy => tx_gives r y (by simpa using hy)) j js ?_ ?_ ?_) ⟨e, ?_⟩
  · obtain ⟨tj, e1⟩ := tx_at (k := k) r j k h1
    obtain ⟨_, e2⟩ := List.getElem?_eq_some_iff.mp e1
    have e3 : its.toArray[j] = .str k tj := by simpa using e2
    rw [e3]
    exact beq_self_eq_true k.cps.toList
  · intro m hm hj
    have ml : m < zs.length := by omega
    obtain ⟨tm, e1⟩ := tx_at (k := k) r m _ (List.getElem?_eq_getElem ml)
    obtain ⟨_, e2⟩ := List.getElem?_eq_some_iff.mp e1
    have e3 : its.toArray[m] = .str zs[m] tm := by simpa using e2
    rw [e3]
    show (zs[m].cps.toList == k.cps.toList) = false
    have ne := h2 m zs[m] hj (List.getElem?_eq_getElem ml)
    refine beq_eq_false_iff_ne.mpr fun q => ne ?_
    generalize zs[m] = y at q ⊢
    obtain ⟨⟨y⟩⟩ := y
    obtain ⟨⟨k⟩⟩ := k
    simp only at q
    rw [q]
  · rw [List.size_toArray]
    omega
  · refine ⟨.non, _, I.lset (its' := its.eraseIdx j) (ys := (zs.erase k).map V.str) hH e (by simp) ?_ ?_, rfl, q⟩
    · have := r.eraseIdx j
      rw [h3] at this
      exact this
    · rw [List.length_map]
      have := List.length_erase_le (a := k) (l := zs)
      omega
end
end Lf

set_option Elab.async false
set_option linter.all false
set_option maxRecDepth 100000
set_option maxHeartbeats 4000000
/-! Sets of texts that can be walked: set(texts), sorted(set(texts)). -/
namespace Lf
open PySem PySem.Spec PyProof.Rows L2
/-- the text of an entry -/
def tOf (e : Int × Value) : Str := match e.2 with
  | .str x _ => x
  | _ => Str.empty
/-- an entry is a text with its hash -/
def TxE (prog : Program) (w : World) (e : Int × Value) : Prop := ∃ x t, e.2 = Value.str x t ∧ e.1 = (PySem.strKind prog w).hash x
/-- the entries of the table are just the texts T; its places rise, its maker is told -/
structure TxB (prog : Program) (w : World) (es : Array (Int × Value)) (t : SetTable) (T : List Str) : Prop where
  pm : (es.toList.map tOf).Perm T
  nd : T.Nodup
  el : ∀ e ∈ es.toList, TxE prog w e
  few : es.size < scanBound
  fit : t.fits es.size = true
  ris : Ris t.place.toList
  led : w.params.followText "set-order" = true ∨ t.led = true
def TxR (prog : Program) (w : World) (h : Heap) (a : Addr) (T : List Str) : Prop := ∃ (o : Obj) (es : Array (Int × Value)) (ep : Nat) (t : SetTable), h.get? a = some o ∧ o.ExactSet ∧ o.data = .set es ep t ∧ TxB prog w es t T
section
variable {prog : Program} {w : World} {A : Around} {E : Value → Shared → Prop} {R : Result → Shared → Prop} {s : Shared} {a : Addr} {T : List Str} {k : Str} {t : Tok}
theorem TxR.keep {h h' : Heap} (X : TxR prog w h a T) (e : ∀ o, h.get? a = some o → h'.get? a = some o) : TxR prog w h' a T := by
  obtain ⟨o, es, ep, tb, ho, r⟩ := X
  exact ⟨o, es, ep, tb, e o ho, r⟩
theorem txE_is {e : Int × Value} (h : TxE prog w e) (x : Str) : (PySem.strKind prog w).is x e.2 = true ↔ tOf e = x := by
  obtain ⟨y, t, h1, _⟩ := h
  unfold tOf
  rw [h1]
  show Value.isStrOf x (.str y t) = true ↔ y = x
  simp [Value.isStrOf]
theorem txB_elems {es : Array (Int × Value)} {tb : SetTable} (B : TxB prog w es tb T) : ElemsOf (PySem.strKind prog w) es.toList := fun e he => by
  obtain ⟨x, t, h1, h2⟩ := B.el e he
  refine ⟨⟨x, (txE_is (B.el e he) x).mpr ?_, h2⟩, ?_⟩
  · unfold tOf
    rw [h1]
  · rw [h1]
    rfl
theorem txB_mem {es : Array (Int × Value)} {tb : SetTable} (B : TxB prog w es tb T) (x : Str) : x ∈ T ↔ ∃ e ∈ es.toList, (PySem.strKind prog w).is x e.2 = true := by
  rw [← B.pm.mem_iff, List.mem_map]
  exact ⟨fun ⟨e, he, q⟩ => ⟨e, he, (txE_is (B.el e he) x).mpr q⟩, fun ⟨e, he, q⟩ => ⟨e, he, (txE_is (B.el e he) x).mp q⟩⟩
theorem txB_size {es : Array (Int × Value)} {tb : SetTable} (B : TxB prog w es tb T) : es.size = T.length := by
  have := B.pm.length_eq
  rw [List.length_map, Array.length_toList] at this
  exact this
/-- one more text laid -/
theorem txB_lay {es : Array (Int × Value)} {tb : SetTable} (B : TxB prog w es tb T) (nk : k ∉ T) (room : T.length + 1 < scanBound) : TxB prog w (layNew tb es ((PySem.strKind prog w).hash k) (.str k t)).1 (layNew tb es ((PySem.strKind prog w).hash k) (.str k t)).2.1 (k :: T) := by
  have p := layNew_perm tb es ((PySem.strKind prog w).hash k) (.str k t)
  rw [Array.toList_push] at p
  have p2 := p.trans (List.perm_append_singleton _ _)
  have sz : (layNew tb es ((PySem.strKind prog w).hash k) (.str k t)).1.size = T.length + 1 := by
    have := p2.length_eq
    rw [Array.length_toList, List.length_cons, Array.length_toList, txB_size B] at this
    exact this
  refine ⟨?_, List.nodup_cons.mpr ⟨nk, B.nd⟩, fun e he => ?_, by omega, layNew_fits _ _ _ _, layNew_ris _ _ _ _ B.ris, ?_⟩
  · exact (p2.map tOf).trans (List.Perm.cons k B.pm)
  · rcases List.mem_cons.mp (p2.mem_iff.mp he) with z | z
    · rw [z]
      exact ⟨k, t, rfl, rfl⟩
    · exact B.el e z
  · rw [layNew_led]
    exact B.led
/-- laid anew -/
theorem txB_relay {es : Array (Int × Value)} {tb : SetTable} (B : TxB prog w es tb T) (n : Nat) : TxB prog w (relayAll tb es n).1 (relayAll tb es n).2.1 T := by
  have p := relayAll_perm tb es n
  have sz : (relayAll tb es n).1.size = es.size := by
    have := p.length_eq
    rw [Array.length_toList, Array.length_toList] at this
    exact this
  refine ⟨(p.map tOf).trans B.pm, B.nd, fun e he => B.el e (p.mem_iff.mp he), by rw [sz]; exact B.few, relayAll_fits _ _ _, relayAll_ris _ _ _, ?_⟩
  rw [relayAll_led]
  exact B.led
theorem TxB.off {es : Array (Int × Value)} {tb : SetTable} (B : TxB prog w es tb T) : TxB prog w es { tb with plain := false } T := ⟨B.pm, B.nd, B.el, B.few, SetTable.fits_plain_off B.fit, B.ris, B.led⟩
theorem put_at {h : Heap} {o : Obj} {es es2 : Array (Int × Value)} {ep : Nat} {tb t2 : SetTable} (ho : h.get? a = some o) (hx : o.ExactSet) (hd : o.data = .set es ep tb) (B : TxB prog w es2 t2 T) : TxR prog w (h.update a (Obj.putSet es2 t2)) a T :=
  ⟨_, es2, ep + 1, t2, store_at ho hd, hx, rfl, B⟩
theorem gave_way {Q : Unit → Shared → Prop} (b : Bool) (h : Q () s) : wpAny (model prog w) A (match b with | true => rule "set.scan.the-table-gave-way" | false => pure ()) Q E s := by
  cases b
  · exact wpAny_pure h
  · exact wpAny_rule h
/-- the table stored, laid anew where it is too full -/
theorem stored {g : Bool → Sem Unit} (hg : ∀ (b : Bool) (s1 : Shared) (Q : Unit → Shared → Prop), Q () s1 → wpAny (model prog w) A (g b) Q E s1) {o : Obj} {es es1 : Array (Int × Value)} {ep : Nat} {tb t1 : SetTable} {b : Bool} {Q : Option Bool → Shared → Prop} (ho : s.heap.get? a = some o) (hx : o.ExactSet) (hd : o.data = .set es ep tb) (B : TxB prog w es1 t1 T)
    (h : ∀ h', Heap.SameBut a s.heap h' → TxR prog w h' a T → Q (some true) { s with heap := h' }) :
    wpAny (model prog w) A (do
        storeSet a es1 t1
        if (!b && t1.tooFull) = true then do
            g (relayAll t1 es1 (SetTable.grown es1.size)).2.2
            storeSet a (relayAll t1 es1 (SetTable.grown es1.size)).1 (relayAll t1 es1 (SetTable.grown es1.size)).2.1
            pure (some true)
          else pure (some true)) Q E s := by
  have u1 : Heap.SameBut a s.heap (s.heap.update a (Obj.putSet es1 t1)) := Heap.SameBut.update ..
  apply wpAny_bind
  apply wpAny_storeSet_of ho hd _ (fits_of_scanBound B.few)
  by_cases c : (!b && t1.tooFull) = true
  · rw [if_pos c]
    have B2 := txB_relay B (SetTable.grown es1.size)
    apply wpAny_bind
    apply hg
    apply wpAny_bind
    apply wpAny_storeSet_of (store_at ho hd) rfl _ (fits_of_scanBound B2.few)
    apply wpAny_pure
    exact h _ (u1.trans (Heap.SameBut.update ..)) (put_at (store_at ho hd) hx rfl B2)
  · rw [if_neg c]
    exact wpAny_pure (h _ u1 (put_at ho hx hd B))
theorem add_txr {Q : Bool → Shared → Prop} (X : TxR prog w s.heap a T) (room : T.length + 1 < scanBound) (h : ∀ (b : Bool) (h' : Heap), Heap.SameBut a s.heap h' → TxR prog w h' a (into T k) → Q b { s with heap := h' }) :
    wpAny (model prog w) A (setAddHashed a (.str k t) ((PySem.strKind prog w).hash k)) Q E s := by
  obtain ⟨o, es, ep, tb, ho, hx, hd, B⟩ := X
  have is : (PySem.strKind prog w).is k (.str k t) = true := by show Value.isStrOf k (.str k t) = true; simp [Value.isStrOf]
  have sc : (Value.str k t).scannable = true := rfl
  have el := txB_elems B
  unfold setAddHashed setAddHashedIn
  apply wpAny_holding
  apply wpAny_bind
  apply wpAny_setState_of ho hd B.fit
  simp only [byScan_of sc B.few el, if_true]
  unfold setAddByScan
  apply wpAny_bind
  apply wpAny_bind
  apply wpAny_rule
  apply wpAny_bind
  apply wpAny_setScan_of is ho hd B.fit el
  cases fi : List.findIdx? (fun e => (PySem.strKind prog w).is k e.2) es.toList with
  | some j =>
    obtain ⟨jl, pj, _⟩ := List.findIdx?_eq_some_iff_getElem.mp fi
    have kT : k ∈ T := (txB_mem B k).mpr ⟨_, List.getElem_mem jl, pj⟩
    dsimp only
    apply wpAny_pure
    apply wpAny_pure
    refine h _ s.heap (Heap.SameBut.refl a s.heap) ?_
    unfold into
    rw [if_pos kT]
    exact ⟨o, es, ep, tb, ho, hx, hd, B⟩
  | none =>
    have kT : k ∉ T := fun z => by
      obtain ⟨e, he, q⟩ := (txB_mem B k).mp z
      have := List.findIdx?_eq_none_iff.mp fi e he
      rw [q] at this
      cases this
    have fin : ∀ h', Heap.SameBut a s.heap h' → TxR prog w h' a (k :: T) → ∀ b, Q b { s with heap := h' } := fun h' sb r b => by
      have q := h b h' sb
      unfold into at q
      rw [if_neg kT] at q
      exact q r
    have B1 := txB_lay (t := t) B kT room
    generalize layNew tb es ((PySem.strKind prog w).hash k) (.str k t) = Z at B1 ⊢
    obtain ⟨es1, t1, wd, gave⟩ := Z
    dsimp only at B1 ⊢
    apply wpAny_bind
    apply gave_way
    split
    · apply wpAny_bind
      rw [hashByValue_scannable 8 sc]
      apply wpAny_pure
      refine stored (fun b s1 Q' q => gave_way b q) ho hx hd (T := k :: T) ?_ fun h' sb r => ?_
      · split
        · exact B1
        · exact B1.off
      · dsimp only
        exact wpAny_pure (fin h' sb r _)
    · apply wpAny_bind
      apply wpAny_pure
      simp only [↓reduceIte]
      refine stored (fun b s1 Q' q => gave_way b q) ho hx hd (T := k :: T) B1 fun h' sb r => ?_
      dsimp only
      exact wpAny_pure (fin h' sb r _)
theorem put_txr {Q : Bool → Shared → Prop} (X : TxR prog w s.heap a T) (room : T.length + 1 < scanBound) (h : ∀ (b : Bool) (h' : Heap) (n : Nat), s.toks ≤ n → Heap.SameBut a s.heap h' → TxR prog w h' a (into T k) → Q b { s with heap := h', toks := n }) :
    wpAny (model prog w) A (setAdd a (.str k t)) Q E s := by
  have is : (PySem.strKind prog w).is k (.str k t) = true := by show Value.isStrOf k (.str k t) = true; simp [Value.isStrOf]
  unfold setAdd
  refine wpAny_holding (wpAny_bind ((PySem.strKind prog w).pyHash (k := k) is ?_))
  exact add_txr X room fun b h' sb X' => h b h' _ (by first | exact Nat.le_succ _ | exact Nat.le_refl _) sb X'
variable {I : Addr} {fp wr : List Addr} {G : Array GenState → Array GenState → Prop} {n : Nat} {P : Nat → Value → Prop} {St : Nat → Shared → Prop}
/-- all that is left to walk goes in -/
theorem fill_txr (W : WalksS prog w A.in1 I fp wr G n P St) (hf : a ∉ fp) (val : Nat → Str) (hv : ∀ i v, P i v → ∃ t, v = .str (val i) t) (hb : n + 1 < scanBound) : ∀ (m i : Nat) (T : List Str) (s : Shared), i + m = n → T.length ≤ i → St i s → TxR prog w s.heap a T →
    (∀ s', Moved (a :: wr) G s s' → TxR prog w s'.heap a ((List.range' i m).foldl (fun T j => into T (val j)) T) → R (.ok (.ret .none)) s') → codeAny (model prog w) A (.builtin "set.update.loop" ⟨[.ref a, .ref I], []⟩) R s := by
  have hw : a ∉ wr := fun z => hf (W.sub _ z)
  have more : ∀ b ∈ wr, b ∈ a :: wr := fun b z => List.mem_cons_of_mem _ z
  intro m
  induction m with
  | zero =>
    intro i T s e hl st X fin
    have ei : i = n := by omega
    subst ei
    apply codeAny_builtin PyProof.Rows.F.entry_set_update_loop
    rw [Around.under_plainId PyProof.Rows.F.plain_set_update_loop _]
    change wpAny _ A.in1 (pyNext (.ref I) >>= _) _ _ s
    exact wpAny_bind (W.done s _ _ st fun s' mv => wpAny_pure (fin s' (mv.mono more) (X.keep fun o ho => mv.heap a o hw ho)))
  | succ m ih =>
    intro i T s e hl st X fin
    apply codeAny_builtin PyProof.Rows.F.entry_set_update_loop
    rw [Around.under_plainId PyProof.Rows.F.plain_set_update_loop _]
    change wpAny _ A.in1 (pyNext (.ref I) >>= _) _ _ s
    apply wpAny_bind
    apply W.item i s _ _ (by omega) st
    intro v s1 hp st1 mv
    obtain ⟨t, rfl⟩ := hv i v hp
    change wpAny _ A.in1 (holding [Value.str (val i) t] (setAdd a (.str (val i) t)) >>= _) _ _ s1
    apply wpAny_bind
    apply wpAny_holding
    apply put_txr (X.keep fun o ho => mv.heap a o hw ho) (by omega)
    intro b h2 tk htk sb X2
    apply wpAny_pure
    refine ⟨plainId_quiet PyProof.Rows.F.plain_set_update_loop _, ih (i + 1) (into T (val i)) _ (by omega) (by have := into_len T (val i); omega) ?_ X2 ?_⟩
    · refine W.frame _ s1 _ _ st1 htk fun c hc o eo => ?_
      rw [sb.2 c (fun z => hf (z ▸ hc))]
      exact eo
    · intro s3 mv3 X3
      refine fin s3 (Moved.trans W.gtrans ((mv.mono more).then_heap htk fun c o hc eo => ?_) mv3) X3
      rw [sb.2 c (fun z => hc (z ▸ List.mem_cons_self))]
      exact eo
end
section
variable {prog : Program} {w : World} {A : Around} {E : Value → Shared → Prop} {s : Shared} {S l : Addr} {items : Array Value}
theorem led_or (w : World) : w.params.followText "set-order" = true ∨ (!w.params.followText "set-order") = true := by
  cases w.params.followText "set-order"
  · exact .inr rfl
  · exact .inl rfl
/-- a new set by set(x): whether its maker is told -/
theorem new_led (v : Value) {Q : Value → Shared → Prop} (h : Q (.ref s.heap.objs.size) { s with heap := s.heap.push (emptySet (!w.params.followText "set-order")) }) :
    codeAny (model prog w) A (.call (.builtin "set.__new__") ⟨[.type "set", v], []⟩) (wants Q E) s := by
  apply codeAny_of_tree
  change wpAny _ A.in1 (checkBuiltinCall "set.__new__" ⟨[.type "set", v], []⟩ >>= fun _ => again (.builtin "set.__new__" ⟨[.type "set", v], []⟩)) _ _ s
  apply wpAny_bind
  apply wpAny_of_eq (PySem.F.newCall_set_1 v)
  apply wpAny_pure
  refine ⟨plainId_quiet PySem.F.plain_set_new _, ?_⟩
  apply codeAny_builtin PySem.F.entry_set_new
  rw [Around.under_plainId PySem.F.plain_set_new _]
  have k1 := sub_set_self
  obtain ⟨h1, h2, h3, h4, h5⟩ := s
  unfold Builtin.«set.__new__»
  unfold Builtin.Frozenset.newClass
  dsimp only
  wp_walk
  apply wpAny_askSetting
  apply wpAny_pure
  dsimp only [newObj]
  apply wpAny_bind
  apply wpAny_alloc
  apply wpAny_pure
  exact wpAny_pure h
/-- set.__init__ of an empty set and a list of texts -/
theorem init_txr {Q : Value → Shared → Prop} {val : Nat → Str} {led : Bool} (hw : w.params.followText "set-order" = true ∨ led = true) (hh : A.handled = none) (hS : s.heap.get? S = some (emptySet led)) (hl : s.heap.IsList l items) (ne : S ≠ l) (hv : ∀ i v, items[i]? = some v → ∃ t, v = Value.str (val i) t) (hb : items.size + 1 < scanBound)
    (h : ∀ h' tk, TxR prog w h' S (gone val items.size) → (∀ b o, b ≠ S → s.heap.get? b = some o → h'.get? b = some o) → Q .none { s with heap := h', toks := tk }) :
    codeAny (model prog w) A (.call (.builtin "set.__init__") ⟨[.ref S, .ref l], []⟩) (wants Q E) s := by
  have hT : s.TypeIs (.ref S) "set" := ⟨_, hS, rfl⟩
  have lS := Heap.lt_size hS
  apply codeAny_call_builtin PySem.F.called_set.init.plain PySem.F.entry_set_init
  apply check_set_init_1 hT
  obtain ⟨ol, hol, hcl, nl, hdl⟩ := id hl
  have ll := Heap.lt_size hol
  have tl : s.TypeIs (.ref l) "list" := ⟨ol, hol, hcl⟩
  have f1 := PySem.F.sub_list_set
  have f2 := PySem.F.sub_list_frozenset
  have f3 : (Value.type "list" == Value.type "dict") = false := by decide
  unfold Builtin.«set.__init__» noKeywords Builtin.Frozenset.updateFrom
  generalize hPI : pyIter = PI
  wp_walk
  subst hPI
  apply wpAny_pyIter_list hl
  apply wpAny_bind
  apply wpAny_runValue
  have hi : A.in1.in1.handled = none := by simp [hh]
  have nI : l ≠ s.heap.objs.size := Nat.ne_of_lt ll
  have off : S ∉ [s.heap.objs.size, l] := by
    simp only [List.mem_cons, List.not_mem_nil, or_false, not_or]
    exact ⟨Nat.ne_of_lt lS, ne⟩
  have X0 : TxR prog w (s.heap.push { cls := .type "list_iterator", data := .fields #[.ref l, .int 0 0] }) S [] := ⟨_, #[], 0, _, Heap.get?_push_of_some _ hS, ⟨rfl, rfl, rfl⟩, rfl, ⟨.nil, .nil, (fun e he => by simp at he), (by decide), (by rfl), .nil, hw⟩⟩
  refine fill_txr ((Walks.list hi _ l nI items).toS) off val hv hb items.size 0 [] _ (Nat.zero_add _) (Nat.le_refl _) ⟨⟨_, Heap.get?_push_size _ rfl, rfl, rfl⟩, hl.push _⟩ X0 fun s2 mv X2 => ?_
  have e2 : s2 = { s with heap := s2.heap, toks := s2.toks } := by
    have g := mv.gens
    have d := mv.drawn
    have o := mv.os
    cases s2
    cases g
    cases d
    cases o
    rfl
  change wpAny _ _ (pure ()) _ _ s2
  apply wpAny_pure
  change wpAny _ _ (ret Value.none) _ _ s2
  apply wpAny_pure
  change Q Value.none s2
  rw [e2]
  refine h s2.heap s2.toks X2 fun b o nb eb => ?_
  refine mv.heap b o ?_ (Heap.get?_push_of_some _ eb)
  simp only [List.mem_cons, List.not_mem_nil, or_false, not_or]
  exact ⟨nb, Nat.ne_of_lt (Heap.lt_size eb)⟩
/-- set(l) -/
theorem set_txr {Q : Value → Shared → Prop} {val : Nat → Str} (hh : A.handled = none) (hl : s.heap.IsList l items) (hv : ∀ i v, items[i]? = some v → ∃ t, v = Value.str (val i) t) (hb : items.size + 1 < scanBound)
    (h : ∀ h' tk, TxR prog w h' s.heap.objs.size (gone val items.size) → (∀ b o, s.heap.get? b = some o → h'.get? b = some o) → Q (.ref s.heap.objs.size) { s with heap := h', toks := tk }) : wpAny (model prog w) A (call (.type "set") [.ref l]) Q E s := by
  obtain ⟨c, tl, hmro⟩ := PySem.F.called_set.mro
  have k1 := PySem.F.called_set.made
  have k2 := PySem.F.called_set.sub
  have k3 := PySem.F.called_set.notType
  have k4 := PySem.F.called_set.canCreate
  have k5 := PySem.F.typeCall_set_1 (.ref l)
  have k6 := PySem.F.called_set.init.lookup
  apply wpAny_call
  apply codeAny_of_tree
  change wpAny _ _ (callAny (.type "set") _) _ _ _
  apply wpAny_pure
  refine ⟨Code.quiet_builtin _ (by decide +kernel), codeAny_builtin PySem.F.entry_type_call ?_⟩
  rw [Around.under_plain (weight_type_call_type "set" [.ref l] []) rfl]
  repeat (any_goals (first | assumption | wp_step))
  refine codeAny_mono (new_led (.ref l) (E := E) (Q := fun v s1 => ∃ led, (w.params.followText "set-order" = true ∨ led = true) ∧ v = .ref s.heap.objs.size ∧ s1 = { s with heap := s.heap.push (emptySet led) }) ⟨_, led_or w, rfl, rfl⟩) ?_
  intro r s1 hr
  match r, hr with
  | .error e, hr => exact hr
  | .ok (.ret v), hr =>
    obtain ⟨led, hw, rfl, rfl⟩ := hr
    have new : (s.heap.push (emptySet led)).get? s.heap.objs.size = some (emptySet led) := Heap.get?_push_size _ rfl
    have hT : Shared.TypeIs { s with heap := s.heap.push (emptySet led) } (.ref s.heap.objs.size) "set" := ⟨_, new, rfl⟩
    have k7 := PySem.F.called_set.init.bind (.ref s.heap.objs.size)
    have ll : l < s.heap.objs.size := by
      obtain ⟨ol, hol, _⟩ := id hl
      exact Heap.lt_size hol
    have run := init_txr (prog := prog) (w := w) (A := A.in1) (E := E) (s := { s with heap := s.heap.push (emptySet led) }) (Q := fun v s2 => v = .none ∧ Q (.ref s.heap.objs.size) s2) hw (by simp [hh]) new (hl.push _) (Nat.ne_of_gt ll) hv hb
      fun h' tk X' keep => ⟨rfl, h h' tk X' fun b o e => keep b o (Nat.ne_of_lt (Heap.lt_size e)) (Heap.get?_push_of_some _ e)⟩
    repeat (any_goals (first | assumption | wp_step))
    refine codeAny_mono run ?_
    intro r2 s2 hr2
    match r2, hr2 with
    | .error e, hr2 => exact hr2
    | .ok (.ret v2), hr2 =>
      obtain ⟨rfl, q⟩ := hr2
      repeat (any_goals (first | assumption | wp_step))
end
end Lf

set_option Elab.async false
set_option linter.all false
set_option maxRecDepth 100000
set_option maxHeartbeats 4000000
/-! sorted(set(texts)) -/
namespace Lf
open PySem PySem.Spec PyProof.Rows L2
theorem strs_from : ∀ l : List Value, (∀ v ∈ l, ∃ x t, v = Value.str x t) → ∃ ys : List Str, StrsAre l ys ∧ ∀ f : Value → Str, (∀ x t, f (.str x t) = x) → ys = l.map f
  | [], _ => ⟨[], .nil, fun _ _ => rfl⟩
  | v :: l, h => by
    obtain ⟨x, t, rfl⟩ := h v List.mem_cons_self
    obtain ⟨ys, h1, h2⟩ := strs_from l fun u hu => h u (List.mem_cons_of_mem _ hu)
    exact ⟨x :: ys, .cons x t h1, fun f hf => by rw [List.map_cons, hf, h2 f hf]⟩
section
variable {prog : Program} {w : World} {A : Around} {E : Value → Shared → Prop} {s : Shared} {a : Addr} {T : List Str}
theorem sort_txr {Q : Value → Shared → Prop} (X : TxR prog w s.heap a T) (hh : A.handled = none) (few : T.length < 64)
    (h : ∀ (z : Shared) (p : Addr) (out : Array Value) (c : Nat) (ys : List Str), (∀ b o, s.heap.get? b = some o → z.heap.get? b = some o) → z.gens = s.gens → z.os = s.os → s.heap.objs.size ≤ p → z.heap.get? p = some (seqObj "list" out c) → StrsAre out.toList ys → ys.Perm T → sortedS ys = true → Q (.ref p) z) :
    wpAny (model prog w) A (call (.builtin "sorted") [.ref a]) Q E s := by
  obtain ⟨o, es, ep, t, ho, hx, hd, B⟩ := X
  have size := txB_size B
  apply Calls.call_function_entry kind_sorted plain_sorted entry_sorted (args_sorted1 _)
  unfold Builtin.«sorted»
  apply wpAny_bind (m := checkCount "sorted" 1 1 _)
  apply wpAny_pure
  apply wpAny_bind
  apply collect_set (A := A.in1) hh ⟨o, ho, hx.1, hd⟩ B.fit B.few B.ris B.led
  intro z vs k1 k2 k3 k4 pm
  have vl : vs.length = T.length := by
    have := pm.length_eq
    rw [List.length_map] at this
    rw [this, ← size]
    exact Array.length_toList
  obtain ⟨xs, hS, hxs⟩ := strs_from vs fun v hv => by
    obtain ⟨e, he, rfl⟩ := List.mem_map.mp (pm.mem_iff.mp hv)
    obtain ⟨x, t, h1, _⟩ := B.el e he
    exact ⟨x, t, h1⟩
  have pT : xs.Perm T := by
    have e1 := hxs (fun v => tOf (0, v)) fun x t => rfl
    rw [e1]
    have e2 := pm.map fun v => tOf (0, v)
    rw [List.map_map] at e2
    exact e2.trans B.pm
  have big : vs.length ≤ sizeLine := by
    rw [sizeLine_eq]
    omega
  apply wpAny_bind
  refine wpAny_newList ?_ big
  have new : (z.heap.push (seqObj "list" vs.toArray 0)).get? z.heap.objs.size = some (seqObj "list" vs.toArray 0) := Heap.get?_push_size _ rfl
  apply wpAny_bind
  apply wpAny_holding
  refine wpAny_call_entry slot_list_sort ⟨_, new, rfl⟩ entry_list_sort ?_ (args_list_sort _)
  refine list_sort_treeK strKind_oneLt new hS.keysOf (fun v1 v2 rest e => keyKind_strs (e ▸ hS)) (by omega) fun st p1 p2 => ?_
  obtain ⟨ys, g1, g2, g3⟩ := sorted_out_str hS p1 p2
  obtain ⟨c, hc⟩ := sortedHeap_at (vs := vs) (out := (arrOf st).map (·.2)) new
  refine ⟨.none, rfl, ?_⟩
  apply wpAny_pure
  refine ⟨_, rfl, h _ z.heap.objs.size _ c ys (fun b u e => ?_) k3 k4 k2 hc g1 (g2.trans pT) g3⟩
  have old := k1 b u e
  have lt := Heap.lt_size old
  show (sortedHeap (z.heap.push (seqObj "list" vs.toArray 0)) z.heap.objs.size vs _).get? b = some u
  rw [sortedHeap_old (Nat.ne_of_lt lt) (by rw [size_push']; exact Nat.lt_succ_of_lt lt)]
  exact Heap.get?_push_of_some _ old
end
theorem once_mem : ∀ (xs T : List Str) (y : Str), y ∈ xs.foldl into T ↔ y ∈ T ∨ y ∈ xs
  | [], T, y => by simp
  | x :: xs, T, y => by
    show y ∈ xs.foldl into (into T x) ↔ _
    rw [once_mem xs (into T x) y]
    unfold into
    by_cases h : x ∈ T
    · rw [if_pos h, List.mem_cons]
      constructor
      · rintro (q | q)
        · exact .inl q
        · exact .inr (.inr q)
      · rintro (q | q | q)
        · exact .inl q
        · exact .inl (q ▸ h)
        · exact .inr q
    · rw [if_neg h, List.mem_cons, List.mem_cons]
      constructor
      · rintro ((q | q) | q)
        · exact .inr (.inl q)
        · exact .inl q
        · exact .inr (.inr q)
      · rintro (q | q | q)
        · exact .inl (.inr q)
        · exact .inl (.inl q)
        · exact .inr q
theorem once_nodup : ∀ (xs T : List Str), T.Nodup → (xs.foldl into T).Nodup
  | [], _, h => h
  | x :: xs, T, h => by
    refine once_nodup xs (into T x) ?_
    unfold into
    split
    · exact h
    · rename_i q
      exact List.nodup_cons.mpr ⟨q, h⟩
/-- sorted(set(a)): each text once, by their order -/
def tSrtSet (K : PySem.W.Frag) (ta : TE) : TE := fun σ H Q => ta σ H fun x H1 => ∃ (l : Addr) (xs : List Str), x = .ref l ∧ SqL K H1 l (xs.map V.str) ∧ xs.length < 64 ∧
  ∀ (ys : List Str) (p : Addr), ys.Nodup → (∀ y, y ∈ ys ↔ y ∈ xs) → sortedS ys = true → H1 p = none → Q (.ref p) (L2.upd H1 p (.lst (ys.map V.str)))
theorem pe_srtSet {X : Cx} {a : Expr} {ta : TE} {p p2 q pos : Pos} (hm : X.mg "sorted" = none) (hm2 : X.mg "set" = none) (ha : PE X a ta) (hg : Gl X "sorted" := by rfl) (hg2 : Gl X "set" := by rfl) (hc : X.calm = true := by rfl) (na : starEach [a] X.env = (false, eval a X.env) :: starEach [] X.env := by rfl) :
    PE X (.Call (.Name "sorted" p) [.Call (.Name "set" p2) [a] [] q] [] pos) (tSrtSet X.K ta) := by
  constructor
  intro pins s σ H Q I h
  refine Call_ ?_
  apply ld_blt I hg hm (by decide +kernel : bootBuiltins "sorted" = some (.builtin "sorted"))
  apply callWith_builtin1 _ rfl rfl
  apply args_cons _ rfl
  refine Call_ ?_
  apply ld_blt I hg2 hm2 boot_set
  apply callWith_type1 _ na rfl
  apply args_cons _ na
  apply thn (ha.run pins s σ H _ I h)
  rintro v s1 ⟨x, H1, I1, r1, l, xs, rfl, hq, hl, q1⟩
  cases (show v = Value.ref l from r1)
  apply args_nil
  obtain ⟨its, r, pl, hz⟩ := I1.list hq
  have hn : its.toArray.size = xs.length := by
    have := r.length
    rw [List.length_map] at this
    simp [this]
  refine set_txr (val := fun i => xs.getD i Str.empty) (I1.ok.hd hc) pl.isList (fun i v hv => strs_at r i v (by simpa using hv)) (by rw [hn]; unfold scanBound; omega) ?_
  intro h' tk X' keep
  rw [hn, gone_once] at X'
  apply args_nil
  have I2 : Inv X pins σ H1 { s1 with heap := h', toks := tk } := I1.kept keep
  have ob := once_le xs []
  rw [List.length_nil, Nat.zero_add] at ob
  have ob' : (once xs).length ≤ xs.length := ob
  refine sort_txr X' (I2.ok.hd hc) (by omega) ?_
  intro z p out c ys k1 k2 k3 k4 k5 k6 k7 k8
  have nd : ys.Nodup := k7.nodup_iff.mpr (once_nodup xs [] .nil)
  have mem : ∀ y, y ∈ ys ↔ y ∈ xs := fun y => by
    rw [k7.mem_iff]
    show y ∈ xs.foldl into [] ↔ _
    rw [once_mem]
    simp
  have ln : (ys.map V.str).length ≤ sizeLine := by
    have := k7.length_eq
    rw [List.length_map, sizeLine_eq]
    omega
  have fresh : H1 p = none := I2.hok.fresh k4
  have J := I2.call (ch := []) (H' := L2.upd H1 p (.lst (ys.map V.str))) (h' := z.heap) (g' := z.gens) (d' := z.drawn) (t' := z.toks) (Un.laid k1 k4 fresh) (I2.hok.laid k1 k4 ⟨ln, out.toList, c, vals_of_strs k6, k5⟩) (by rw [k2]; exact I2.bare) (fun _ e => nomatch e)
  have e : z = { s1 with heap := z.heap, gens := z.gens, drawn := z.drawn, toks := z.toks } := by
    cases z
    cases s1
    cases k3
    rfl
  rw [e]
  exact ⟨.ref p, _, J, rfl, q1 ys p nd mem k8 fresh⟩
end Lf

set_option Elab.async false
set_option linter.all false
set_option maxHeartbeats 4000000
set_option exponentiation.threshold 3000
/-! Books: what doughs come to; the making order. Plain mathematics. -/
namespace Lf
open PySem
/-- a dough: its name, its rows, its lead -/
structure Dm where
  z : Str
  rs : List (Str × (Int × Int))
  n : Int
/-- a stuff: its name, its five measures -/
structure Sf where
  z : Str
  ms : List (Int × Int)
abbrev Cont := List (Str × (Int × Int))
/-- one more of a stuff -/
def addT (m : Cont) (k : Str) (f : Int × Int) : Cont := if k ∈ m.map (·.1) then m.map (fun e => if e.1 = k then (k, fadd e.2 f) else e) else m ++ [(k, fadd f0 f)]
def opnR (much : Int × Int) (m c : Cont) : Cont := c.foldl (fun m e => addT m e.1 (fmul much e.2)) m
def totD (rs : List (Str × (Int × Int))) : Int × Int := (rs.map (·.2)).foldl fadd f0
/-- what rows come to, where their things come to env -/
def opnD (rs : List (Str × (Int × Int))) (env : Str → Cont) : Cont := rs.foldl (fun m r => opnR (fdiv r.2 (totD rs)) m (env r.1)) []
def dOf (ds : List Dm) (n : Str) : Option Dm := ds.find? fun d => decide (d.z = n)
def opnF (ds : List Dm) : Nat → Str → Cont
  | 0, n => [(n, f1)]
  | k + 1, n => match dOf ds n with
    | none => [(n, f1)]
    | some d => opnD d.rs (opnF ds k)
/-- what a thing of a book comes to -/
def opn (ds : List Dm) (n : Str) : Cont := opnF ds (ds.length + 1) n
theorem dOf_mem {ds : List Dm} {n : Str} {d : Dm} (h : dOf ds n = some d) : d ∈ ds ∧ d.z = n := by
  refine ⟨List.mem_of_find?_eq_some h, ?_⟩
  have := List.find?_some h
  exact of_decide_eq_true this
theorem dOf_none {ds : List Dm} {n : Str} : dOf ds n = none ↔ n ∉ ds.map (·.z) := by
  unfold dOf
  rw [List.find?_eq_none]
  constructor
  · intro h hm
    obtain ⟨d, hd, e⟩ := List.mem_map.mp hm
    exact h d hd (decide_eq_true e)
  · intro h d hd e
    exact h (List.mem_map.mpr ⟨d, hd, of_decide_eq_true e⟩)
theorem dOf_of {ds : List Dm} (nd : (ds.map (·.z)).Nodup) {d : Dm} (hd : d ∈ ds) : dOf ds d.z = some d := by
  unfold dOf
  induction ds with
  | nil => nomatch hd
  | cons c ds ih =>
    rw [List.map_cons, List.nodup_cons] at nd
    rcases List.mem_cons.mp hd with rfl | hd
    · rw [List.find?_cons, decide_eq_true rfl]
    · have nc : ¬ c.z = d.z := fun e => nd.1 (e ▸ List.mem_map_of_mem hd)
      rw [List.find?_cons, decide_eq_false nc]
      exact ih nd.2 hd
theorem opnD_congr {rs : List (Str × (Int × Int))} {env env' : Str → Cont} (h : ∀ r ∈ rs, env r.1 = env' r.1) : opnD rs env = opnD rs env' := by
  unfold opnD
  generalize totD rs = t
  generalize ([] : Cont) = m
  induction rs generalizing m with
  | nil => rfl
  | cons r rs ih =>
    rw [List.foldl_cons, List.foldl_cons, h r List.mem_cons_self]
    exact ih (fun x hx => h x (List.mem_cons_of_mem _ hx)) _
/-- no dough within itself: ranks -/
structure Rk (ds : List Dm) (rk : Str → Nat) : Prop where
  lt : ∀ d ∈ ds, rk d.z < ds.length
  dn : ∀ d ∈ ds, ∀ r ∈ d.rs, r.1 ∈ ds.map (·.z) → rk r.1 < rk d.z
theorem opnF_stuff {ds : List Dm} {n : Str} (h : dOf ds n = none) : ∀ k, opnF ds k n = [(n, f1)]
  | 0 => rfl
  | k + 1 => by
    unfold opnF
    rw [h]
theorem opnF_stable {ds : List Dm} {rk : Str → Nat} (R : Rk ds rk) : ∀ (j : Nat) (n : Str), (n ∈ ds.map (·.z) → rk n < j) → ∀ k k', (n ∈ ds.map (·.z) → rk n < k ∧ rk n < k') → opnF ds k n = opnF ds k' n := by
  intro j
  induction j with
  | zero =>
    intro n hn k k' _
    have e : dOf ds n = none := dOf_none.mpr fun h => by have := hn h; omega
    rw [opnF_stuff e, opnF_stuff e]
  | succ j ih =>
    intro n hn k k' hk
    cases e : dOf ds n with
    | none => rw [opnF_stuff e, opnF_stuff e]
    | some d =>
      obtain ⟨hd, hz⟩ := dOf_mem e
      have mem : n ∈ ds.map (·.z) := hz ▸ List.mem_map_of_mem hd
      obtain ⟨h1, h2⟩ := hk mem
      obtain ⟨k, rfl⟩ : ∃ i, k = i + 1 := ⟨k - 1, by omega⟩
      obtain ⟨k', rfl⟩ : ∃ i, k' = i + 1 := ⟨k' - 1, by omega⟩
      unfold opnF
      rw [e]
      refine opnD_congr fun r hr => ih r.1 (fun ht => ?_) k k' fun ht => ?_
      · have a := R.dn d hd r hr ht
        have b := hn mem
        rw [hz] at a
        omega
      · have a := R.dn d hd r hr ht
        rw [hz] at a
        omega
theorem opn_stuff {ds : List Dm} {n : Str} (h : n ∉ ds.map (·.z)) : opn ds n = [(n, f1)] := opnF_stuff (dOf_none.mpr h) _
/-- a dough comes to what its rows come to -/
theorem opn_dough {ds : List Dm} {rk : Str → Nat} (R : Rk ds rk) (nd : (ds.map (·.z)).Nodup) {d : Dm} (hd : d ∈ ds) : opn ds d.z = opnD d.rs (opn ds) := by
  have l := R.lt d hd
  show opnF ds (ds.length + 1) d.z = _
  unfold opnF
  rw [dOf_of nd hd]
  refine opnD_congr fun r hr => opnF_stable R ds.length r.1 (fun ht => ?_) _ _ fun ht => ?_
  · have := R.dn d hd r hr ht
    omega
  · have := R.dn d hd r hr ht
    omega
/-! ### sizes -/
def ContQ (N c : Nat) (m : Cont) : Prop := ∀ e ∈ m, Qn N c e.2
theorem addT_keys (m : Cont) (k : Str) (f : Int × Int) : (addT m k f).map (·.1) = if k ∈ m.map (·.1) then m.map (·.1) else m.map (·.1) ++ [k] := by
  unfold addT
  split
  · rw [List.map_map]
    refine List.map_congr_left fun e _ => ?_
    show (if e.1 = k then (k, fadd e.2 f) else e).1 = e.1
    split
    · rename_i h
      exact h.symm
    · rfl
  · rw [List.map_append]
    rfl
theorem addT_nodup {m : Cont} {k : Str} {f : Int × Int} (h : (m.map (·.1)).Nodup) : ((addT m k f).map (·.1)).Nodup := by
  rw [addT_keys]
  split
  · exact h
  · rename_i hk
    rw [List.nodup_append]
    refine ⟨h, by simp, fun a ha b hb e => ?_⟩
    rw [List.mem_singleton.mp hb] at e
    exact hk (e ▸ ha)
theorem addT_mem {m : Cont} {k x : Str} {f : Int × Int} : x ∈ (addT m k f).map (·.1) ↔ x ∈ m.map (·.1) ∨ x = k := by
  rw [addT_keys]
  split
  · rename_i h
    exact ⟨.inl, fun z => z.elim id fun e => e ▸ h⟩
  · rw [List.mem_append, List.mem_singleton]
theorem addT_q {N a c : Nat} {m : Cont} {k : Str} {f : Int × Int} (h : ContQ N a m) (hf : Qn N c f) : ContQ N (a + c) (addT m k f) := by
  intro e he
  unfold addT at he
  split at he
  · obtain ⟨e0, h0, rfl⟩ := List.mem_map.mp he
    have q := h e0 h0
    by_cases c0 : e0.1 = k
    · rw [if_pos c0]
      exact q.add hf
    · rw [if_neg c0]
      exact q.mono (Nat.dvd_refl _) (Nat.le_add_right _ _)
  · rcases List.mem_append.mp he with h0 | h0
    · exact (h e h0).mono (Nat.dvd_refl _) (Nat.le_add_right _ _)
    · rw [List.mem_singleton.mp h0]
      have := (qn_f0 N 0).add hf
      exact this.mono (Nat.dvd_refl _) (by omega)
theorem opnR_q {N c M b : Nat} {much : Int × Int} (hm : Qn M b much) : ∀ (cs : Cont) (m : Cont) (a : Nat), ContQ N c cs → ContQ (M * N) a m → ContQ (M * N) (a + b * c * cs.length) (opnR much m cs)
  | [], m, a, _, h => by simpa [opnR] using h
  | e :: cs, m, a, hc, h => by
    have q := hm.mul (hc e List.mem_cons_self)
    have := opnR_q hm cs (addT m e.1 (fmul much e.2)) (a + b * c) (fun x hx => hc x (List.mem_cons_of_mem _ hx)) (addT_q h q)
    rw [List.length_cons, Nat.mul_succ, show a + (b * c * cs.length + b * c) = a + b * c + b * c * cs.length by omega]
    exact this
theorem opnR_keys {much : Int × Int} : ∀ (cs : Cont) (m : Cont), (m.map (·.1)).Nodup → ((opnR much m cs).map (·.1)).Nodup ∧ ∀ x, x ∈ (opnR much m cs).map (·.1) ↔ x ∈ m.map (·.1) ∨ x ∈ cs.map (·.1)
  | [], m, h => ⟨h, fun x => by simp [opnR]⟩
  | e :: cs, m, h => by
    obtain ⟨h1, h2⟩ := opnR_keys cs (addT m e.1 (fmul much e.2)) (addT_nodup h)
    refine ⟨h1, fun x => ?_⟩
    have := h2 x
    rw [addT_mem] at this
    show x ∈ (opnR much (addT m e.1 (fmul much e.2)) cs).map (·.1) ↔ _
    rw [this, List.map_cons, List.mem_cons]
    constructor
    · rintro ((q | q) | q)
      · exact .inl q
      · exact .inr (.inl q)
      · exact .inr (.inr q)
    · rintro (q | q | q)
      · exact .inl (.inl q)
      · exact .inl (.inr q)
      · exact .inr q
/-- the whole number that all parts of the rows, taken as often as their bottoms say, make -/
def sOf (rs : List (Str × (Int × Int))) : Nat := (totD rs).1.toNat * (botP (rs.map (·.2)) / (totD rs).2.toNat)
/-- parts as they may be -/
structure PtOk (rs : List (Str × (Int × Int))) : Prop where
  all : ∀ r ∈ rs, IsF r.2 ∧ 0 < r.2.1 ∧ Bt 40 r.2
  one : 1 ≤ rs.length
  few : rs.length ≤ 8
theorem PtOk.f {rs : List (Str × (Int × Int))} (h : PtOk rs) : ∀ f ∈ rs.map (·.2), IsF f ∧ 0 < f.1 ∧ Bt 40 f := fun f hf => by
  obtain ⟨r, hr, rfl⟩ := List.mem_map.mp hf
  exact h.all r hr
theorem PtOk.q {rs : List (Str × (Int × Int))} (h : PtOk rs) : ∀ f ∈ rs.map (·.2), Qn (botP (rs.map (·.2))) (2 ^ 40) f := fun f hf => (qn_of_bt (h.f f hf).1 (Int.le_of_lt (h.f f hf).2.1) (h.f f hf).2.2).mono (botP_dvd _ f hf) (Nat.le_refl _)
theorem PtOk.tq {rs : List (Str × (Int × Int))} (h : PtOk rs) : Qn (botP (rs.map (·.2))) (2 ^ 40 * 8) (totD rs) := Qn.sum h.q (by rw [List.length_map]; exact h.few)
theorem PtOk.tp {rs : List (Str × (Int × Int))} (h : PtOk rs) : 0 < (totD rs).1 := fold_pos _ f0 f0_f (fun f hf => (h.f f hf).1) (fun f hf => (h.f f hf).2.1) (by decide) (.inl fun z => by
  have h1 := h.one
  have := congrArg List.length z
  rw [List.length_map] at this
  rw [this] at h1
  cases h1)
/-- a row's part of the whole -/
theorem PtOk.share {rs : List (Str × (Int × Int))} (h : PtOk rs) {r : Str × (Int × Int)} (hr : r ∈ rs) : Qn (sOf rs) 1 (fdiv r.2 (totD rs)) := by
  have hf : r.2 ∈ rs.map (·.2) := List.mem_map_of_mem hr
  have p := botP_pos (rs.map (·.2)) fun f hf => (h.f f hf).1
  have t0 : (totD rs).1 ≠ 0 := by have := h.tp; omega
  have lo := (h.f _ hf).1
  have q := qn_scaled (w := f1) (k := 1) (h.q _ hf) h.tq p h.tp f1_f (by decide) (part_le hf fun f hf => ⟨(h.f f hf).1, Int.le_of_lt (h.f f hf).2.1⟩) ⟨by decide, by decide⟩
  have e : fmul r.2 (fdiv f1 (totD rs)) = fdiv r.2 (totD rs) := by
    have a := fdiv_f f1_f t0
    refine rv_inj (fmul_f lo a) (fdiv_f lo t0) ?_
    rw [rv_mul lo a, rv_div f1_f t0, rv_div lo t0, rv1]
    grind
  rw [e] at q
  have e2 : (f1 : Int × Int).2.toNat * ((totD rs).1.toNat * (botP (rs.map (·.2)) / (totD rs).2.toNat)) = sOf rs := by
    show 1 * _ = _
    rw [Nat.one_mul]
    rfl
  rw [e2] at q
  refine ⟨q.lo, q.nn, q.dn, ?_⟩
  have le : rv (fdiv r.2 (totD rs)) ≤ 1 := by
    rw [rv_div lo t0]
    have tq := rv_pos h.tq.lo h.tp
    have hi : rv (totD rs) * (rv (totD rs))⁻¹ = 1 := Rat.mul_inv_cancel _ (by grind)
    have := ratV (W := 1) (c := 1) ((rv_nn lo).mpr (Int.le_of_lt (h.f _ hf).2.1)) (part_le hf fun f hf => ⟨(h.f f hf).1, Int.le_of_lt (h.f f hf).2.1⟩) tq hi (by decide) (by decide)
    grind
  have := (rv_le1 q.lo).mp le
  show _ ≤ ((1 : Nat) : Int) * _
  omega
theorem PtOk.s_pos {rs : List (Str × (Int × Int))} (h : PtOk rs) : 0 < sOf rs := by
  have p := botP_pos (rs.map (·.2)) fun f hf => (h.f f hf).1
  have t2 : 0 < (totD rs).2 := h.tq.lo.1
  have l := h.tq.le_N p
  refine Nat.mul_pos (by have := h.tp; omega) (Nat.div_pos (by omega) (by omega))
/-- rows one by one -/
theorem opnD_go {N c M L : Nat} {t : Int × Int} {env : Str → Cont} : ∀ (rs : List (Str × (Int × Int))) (m : Cont) (a : Nat), (∀ r ∈ rs, Qn M 1 (fdiv r.2 t) ∧ ContQ N c (env r.1) ∧ (env r.1).length ≤ L) → ContQ (M * N) a m →
    ContQ (M * N) (a + c * L * rs.length) (rs.foldl (fun m r => opnR (fdiv r.2 t) m (env r.1)) m)
  | [], m, a, _, h => by simpa using h
  | r :: rs, m, a, hr, h => by
    obtain ⟨q, hc, hl⟩ := hr r List.mem_cons_self
    have h1 := opnR_q q (env r.1) m a hc h
    have h2 : ContQ (M * N) (a + c * L) (opnR (fdiv r.2 t) m (env r.1)) := fun e he => (h1 e he).mono (Nat.dvd_refl _) (by
      have : 1 * c * (env r.1).length ≤ c * L := by
        rw [Nat.one_mul]
        exact Nat.mul_le_mul_left _ hl
      omega)
    have := opnD_go (L := L) rs _ (a + c * L) (fun x hx => hr x (List.mem_cons_of_mem _ hx)) h2
    rw [List.length_cons, Nat.mul_succ, show a + (c * L * rs.length + c * L) = a + c * L + c * L * rs.length by omega]
    exact this
theorem opnD_keys {env : Str → Cont} {t : Int × Int} : ∀ (rs : List (Str × (Int × Int))) (m : Cont), (m.map (·.1)).Nodup → ((rs.foldl (fun m r => opnR (fdiv r.2 t) m (env r.1)) m).map (·.1)).Nodup ∧ ∀ x, x ∈ (rs.foldl (fun m r => opnR (fdiv r.2 t) m (env r.1)) m).map (·.1) ↔ x ∈ m.map (·.1) ∨ ∃ r ∈ rs, x ∈ (env r.1).map (·.1)
  | [], m, h => ⟨h, fun x => by simp⟩
  | r :: rs, m, h => by
    obtain ⟨a1, a2⟩ := opnR_keys (much := fdiv r.2 t) (env r.1) m h
    obtain ⟨h1, h2⟩ := opnD_keys rs (opnR (fdiv r.2 t) m (env r.1)) a1
    refine ⟨h1, fun x => ?_⟩
    rw [List.foldl_cons, h2 x, a2 x]
    constructor
    · rintro ((q | q) | ⟨r', hr', q⟩)
      · exact .inl q
      · exact .inr ⟨r, List.mem_cons_self, q⟩
      · exact .inr ⟨r', List.mem_cons_of_mem _ hr', q⟩
    · rintro (q | ⟨r', hr', q⟩)
      · exact .inl (.inl q)
      · rcases List.mem_cons.mp hr' with rfl | hr'
        · exact .inl (.inr q)
        · exact .inr ⟨r', hr', q⟩
/-- the product of the doughs of a rank below k -/
def gP (ds : List Dm) (rk : Str → Nat) (k : Nat) : Nat := ds.foldr (fun d a => (if rk d.z < k then sOf d.rs else 1) * a) 1
def gE (ds : List Dm) (rk : Str → Nat) (k : Nat) : Nat := ds.foldr (fun d a => (if rk d.z = k then sOf d.rs else 1) * a) 1
theorem gP_succ (rk : Str → Nat) (k : Nat) : ∀ ds : List Dm, gP ds rk (k + 1) = gP ds rk k * gE ds rk k
  | [] => rfl
  | d :: ds => by
    have ih := gP_succ rk k ds
    show (if rk d.z < k + 1 then sOf d.rs else 1) * gP ds rk (k + 1) = (if rk d.z < k then sOf d.rs else 1) * gP ds rk k * ((if rk d.z = k then sOf d.rs else 1) * gE ds rk k)
    rw [ih]
    rcases Nat.lt_trichotomy (rk d.z) k with h | h | h
    · rw [if_pos (by omega), if_pos h, if_neg (by omega), Nat.one_mul, Nat.mul_assoc]
    · rw [if_pos (by omega), if_neg (by omega), if_pos h, Nat.one_mul, Nat.mul_left_comm]
    · rw [if_neg (by omega), if_neg (by omega), if_neg (by omega), Nat.one_mul, Nat.one_mul, Nat.one_mul]
theorem gE_dvd (rk : Str → Nat) : ∀ (ds : List Dm) (d : Dm), d ∈ ds → sOf d.rs ∣ gE ds rk (rk d.z)
  | c :: ds, d, h => by
    show _ ∣ (if rk c.z = rk d.z then sOf c.rs else 1) * gE ds rk (rk d.z)
    rcases List.mem_cons.mp h with rfl | h
    · rw [if_pos rfl]
      exact ⟨_, rfl⟩
    · exact Nat.dvd_trans (gE_dvd rk ds d h) (Nat.dvd_mul_left _ _)
theorem gP_mono (ds : List Dm) (rk : Str → Nat) {j k : Nat} (h : j ≤ k) : gP ds rk j ∣ gP ds rk k := by
  induction h with
  | refl => exact Nat.dvd_refl _
  | step _ ih =>
    rw [gP_succ]
    exact Nat.dvd_trans ih ⟨_, rfl⟩
theorem gP_pos (rk : Str → Nat) (k : Nat) : ∀ ds : List Dm, (∀ d ∈ ds, PtOk d.rs) → 0 < gP ds rk k
  | [], _ => by
    show 0 < 1
    decide
  | d :: ds, h => by
    have ih := gP_pos rk k ds fun x hx => h x (List.mem_cons_of_mem _ hx)
    have s := (h d List.mem_cons_self).s_pos
    refine Nat.mul_pos ?_ ih
    split
    · exact s
    · decide
theorem nodup_leS : ∀ {xs ys : List Str}, xs.Nodup → (∀ x ∈ xs, x ∈ ys) → xs.length ≤ ys.length
  | [], _, _, _ => Nat.zero_le _
  | x :: xs, ys, nd, h => by
    rw [List.nodup_cons] at nd
    have hx := h x List.mem_cons_self
    have := nodup_leS (xs := xs) (ys := ys.erase x) nd.2 fun y hy => by
      have ne : y ≠ x := fun e => nd.1 (e ▸ hy)
      exact (List.mem_erase_of_ne ne).mpr (h y (List.mem_cons_of_mem _ hy))
    rw [List.length_erase_of_mem hx] at this
    have p := List.length_pos_of_mem hx
    rw [List.length_cons]
    omega
/-- a book that is one: how it is built -/
structure BkS (ss : List Sf) (ds : List Dm) : Prop where
  nd : (ss.map (·.z) ++ ds.map (·.z)).Nodup
  r8 : ∀ d ∈ ds, 1 ≤ d.rs.length ∧ d.rs.length ≤ 8
  kn : ∀ d ∈ ds, ∀ r ∈ d.rs, r.1 ∈ ss.map (·.z) ∨ r.1 ∈ ds.map (·.z)
  rn : ∀ d ∈ ds, (d.rs.map (·.1)).Nodup
  rk : ∃ rk, Rk ds rk
  fs : ss.length ≤ 12
  fd : ds.length ≤ 11
/-- rows whose shares and contents stay small -/
structure ObOk (rs : List (Str × (Int × Int))) (env : Str → Cont) (N c M : Nat) : Prop where
  sh : ∀ r ∈ rs, Qn M 1 (fdiv r.2 (totD rs))
  co : ∀ r ∈ rs, ContQ N c (env r.1)
  ln : ∀ r ∈ rs, (env r.1).length ≤ 12
  nd : ∀ r ∈ rs, ((env r.1).map (·.1)).Nodup
  pM : 0 < M
  pN : 0 < N
  b : (c * 96 + 1) * (M * N) < 2 ^ 880
/-- .. and what its doughs come to stays small -/
structure BkOk (ss : List Sf) (ds : List Dm) : Prop extends BkS ss ds where
  ob : ∀ d ∈ ds, ∀ env : Str → Cont, (∀ r ∈ d.rs, env r.1 = opn ds r.1) → ∃ N c M, ObOk d.rs env N c M
/-- .. for its parts are small -/
structure BkSz (ss : List Sf) (ds : List Dm) : Prop extends BkS ss ds where
  pt : ∀ d ∈ ds, PtOk d.rs
  gb : ∀ rk k, gP ds rk k < 2 ^ 800
theorem BkS.ndd {ss : List Sf} {ds : List Dm} (B : BkS ss ds) : (ds.map (·.z)).Nodup := (List.nodup_append.mp B.nd).2.1
theorem BkS.nds {ss : List Sf} {ds : List Dm} (B : BkS ss ds) : (ss.map (·.z)).Nodup := (List.nodup_append.mp B.nd).1
theorem BkS.nsd {ss : List Sf} {ds : List Dm} (B : BkS ss ds) {x : Str} (h : x ∈ ss.map (·.z)) : x ∉ ds.map (·.z) := fun k => (List.nodup_append.mp B.nd).2.2 x h x k rfl
/-- what a thing comes to: stuffs of the book, each once -/
theorem BkS.keys {ss : List Sf} {ds : List Dm} (B : BkS ss ds) : ∀ (j : Nat) (n : Str) (rk : Str → Nat), Rk ds rk → n ∈ ss.map (·.z) ∨ n ∈ ds.map (·.z) ∧ rk n < j → ((opn ds n).map (·.1)).Nodup ∧ ∀ x ∈ (opn ds n).map (·.1), x ∈ ss.map (·.z)
  | 0, n, rk, R, h => by
    have hn : n ∈ ss.map (·.z) := h.resolve_right fun z => by omega
    rw [opn_stuff (B.nsd hn)]
    exact ⟨by simp, fun x hx => by simp at hx; exact hx ▸ hn⟩
  | j + 1, n, rk, R, h => by
    rcases h with hn | ⟨hn, hj⟩
    · rw [opn_stuff (B.nsd hn)]
      exact ⟨by simp, fun x hx => by simp at hx; exact hx ▸ hn⟩
    · obtain ⟨d, hd, rfl⟩ := List.mem_map.mp hn
      rw [opn_dough R B.ndd hd]
      obtain ⟨h1, h2⟩ := opnD_keys (env := opn ds) (t := totD d.rs) d.rs [] .nil
      refine ⟨h1, fun x hx => ?_⟩
      rcases (h2 x).mp hx with q | ⟨r, hr, q⟩
      · nomatch q
      · refine (B.keys j r.1 rk R ?_).2 x q
        rcases B.kn d hd r hr with z | z
        · exact .inl z
        · exact .inr ⟨z, by have := R.dn d hd r hr z; omega⟩
theorem BkS.keysA {ss : List Sf} {ds : List Dm} (B : BkS ss ds) {n : Str} (h : n ∈ ss.map (·.z) ∨ n ∈ ds.map (·.z)) : ((opn ds n).map (·.1)).Nodup ∧ (∀ x ∈ (opn ds n).map (·.1), x ∈ ss.map (·.z)) ∧ (opn ds n).length ≤ 12 := by
  obtain ⟨rk, R⟩ := B.rk
  obtain ⟨h1, h2⟩ := B.keys ds.length n rk R (h.imp id fun z => ⟨z, by obtain ⟨d, hd, rfl⟩ := List.mem_map.mp z; exact R.lt d hd⟩)
  refine ⟨h1, h2, ?_⟩
  have l : ((opn ds n).map (·.1)).length ≤ (ss.map (·.z)).length := nodup_leS h1 h2
  rw [List.length_map, List.length_map] at l
  have := B.fs
  omega
theorem BkSz.qn_step {ss : List Sf} {ds : List Dm} (B : BkSz ss ds) {rk : Str → Nat} (R : Rk ds rk) {d : Dm} (hd : d ∈ ds) (h : ∀ r ∈ d.rs, r.1 ∈ ds.map (·.z) → ContQ (gP ds rk (rk r.1 + 1)) (96 ^ (rk r.1 + 1)) (opn ds r.1)) : ContQ (gP ds rk (rk d.z + 1)) (96 ^ (rk d.z + 1)) (opn ds d.z) := by
  rw [opn_dough R B.ndd hd]
  have P := B.pt d hd
  have q := opnD_go (N := gP ds rk (rk d.z)) (c := 96 ^ rk d.z) (M := sOf d.rs) (L := 12) (t := totD d.rs) (env := opn ds) d.rs [] 0 (fun r hr => ⟨P.share hr, ?_, (B.keysA (B.kn d hd r hr)).2.2⟩) (fun e he => nomatch he)
  · intro e he
    have d1 : sOf d.rs * gP ds rk (rk d.z) ∣ gP ds rk (rk d.z + 1) := by
      rw [gP_succ, Nat.mul_comm]
      exact Nat.mul_dvd_mul_left _ (gE_dvd rk ds d hd)
    refine (q e he).mono d1 ?_
    have := P.few
    have l : 96 ^ rk d.z * 12 * d.rs.length ≤ 96 ^ rk d.z * 12 * 8 := Nat.mul_le_mul_left _ this
    rw [Nat.pow_succ]
    omega
  · by_cases ht : r.1 ∈ ds.map (·.z)
    · have lt := R.dn d hd r hr ht
      intro e he
      exact (h r hr ht e he).mono (gP_mono ds rk (by omega)) (Nat.pow_le_pow_right (by decide) (by omega))
    · rw [opn_stuff ht]
      intro e he
      rw [List.mem_singleton.mp he]
      exact (qn_f1 _).mono (Nat.dvd_refl _) (Nat.one_le_pow _ _ (by decide))
/-- what it comes to is small -/
theorem BkSz.qn {ss : List Sf} {ds : List Dm} (B : BkSz ss ds) {rk : Str → Nat} (R : Rk ds rk) : ∀ (j : Nat) (d : Dm), d ∈ ds → rk d.z ≤ j → ContQ (gP ds rk (rk d.z + 1)) (96 ^ (rk d.z + 1)) (opn ds d.z) := by
  intro j
  induction j with
  | zero =>
    intro d hd hj
    exact B.qn_step R hd fun r hr ht => by have := R.dn d hd r hr ht; omega
  | succ j ih =>
    intro d hd hj
    refine B.qn_step R hd fun r hr ht => ?_
    have lt := R.dn d hd r hr ht
    obtain ⟨d', hd', e⟩ := List.mem_map.mp ht
    have := ih d' hd' (by rw [e]; omega)
    rw [e] at this
    exact this
theorem BkSz.ob {ss : List Sf} {ds : List Dm} (B : BkSz ss ds) {d : Dm} (hd : d ∈ ds) {env : Str → Cont} (he : ∀ r ∈ d.rs, env r.1 = opn ds r.1) : ∃ N c M, ObOk d.rs env N c M := by
  obtain ⟨rk, R⟩ := B.rk
  have P := B.pt d hd
  have d1 : sOf d.rs * gP ds rk (rk d.z) ∣ gP ds rk (rk d.z + 1) := by
    rw [gP_succ, Nat.mul_comm]
    exact Nat.mul_dvd_mul_left _ (gE_dvd rk ds d hd)
  have pz := gP_pos rk (rk d.z + 1) ds B.pt
  have le := Nat.le_of_dvd pz d1
  have lt := B.gb rk (rk d.z + 1)
  have rl := R.lt d hd
  have fd := B.fd
  refine ⟨gP ds rk (rk d.z), 96 ^ rk d.z, sOf d.rs, fun r hr => P.share hr, fun r hr => ?_, fun r hr => ?_, fun r hr => ?_, P.s_pos, gP_pos rk _ ds B.pt, ?_⟩
  · rw [he r hr]
    by_cases ht : r.1 ∈ ds.map (·.z)
    · have lt := R.dn d hd r hr ht
      obtain ⟨d', hd', e⟩ := List.mem_map.mp ht
      have q := B.qn R _ d' hd' (Nat.le_refl _)
      rw [e] at q
      intro e' he'
      exact (q e' he').mono (gP_mono ds rk (by omega)) (Nat.pow_le_pow_right (by decide) (by omega))
    · rw [opn_stuff ht]
      intro e he
      rw [List.mem_singleton.mp he]
      exact (qn_f1 _).mono (Nat.dvd_refl _) (Nat.one_le_pow _ _ (by decide))
  · rw [he r hr]
    exact (B.keysA (B.kn d hd r hr)).2.2
  · rw [he r hr]
    exact (B.keysA (B.kn d hd r hr)).1
  · have c1 : 96 ^ rk d.z ≤ 96 ^ 10 := Nat.pow_le_pow_right (by decide) (by omega)
    have c2 : 96 ^ rk d.z * 96 + 1 ≤ 96 ^ 10 * 96 + 1 := by omega
    have c3 : (96 ^ rk d.z * 96 + 1) * (sOf d.rs * gP ds rk (rk d.z)) ≤ (96 ^ 10 * 96 + 1) * 2 ^ 800 := Nat.mul_le_mul c2 (by omega)
    exact Nat.lt_of_le_of_lt c3 (by decide +kernel)
theorem BkSz.ok {ss : List Sf} {ds : List Dm} (B : BkSz ss ds) : BkOk ss ds := ⟨B.toBkS, fun d hd env he => B.ob hd he⟩
end Lf

set_option Elab.async false
set_option linter.all false
set_option maxHeartbeats 4000000
/-! The making order; what is within. Plain mathematics. -/
namespace Lf
open PySem
/-- the first that can stand next -/
def nextM (f : Str → List Str) (ws made : List Str) : Option Str := ws.find? fun n => (f n).all fun t => decide (t ∈ made)
def mkOrd (f : Str → List Str) : Nat → List Str → List Str → List Str
  | 0, _, made => made
  | k + 1, ws, made => match nextM f ws made with
    | none => made
    | some n => mkOrd f k (ws.erase n) (made ++ [n])
theorem nextM_some {f : Str → List Str} {ws made : List Str} {n : Str} (h : nextM f ws made = some n) : n ∈ ws ∧ ∀ t ∈ f n, t ∈ made := by
  refine ⟨List.mem_of_find?_eq_some h, fun t ht => ?_⟩
  have := List.find?_some h
  exact of_decide_eq_true (List.all_eq_true.mp this t ht)
theorem least : ∀ (rk : Str → Nat) (ws : List Str), ws ≠ [] → ∃ n ∈ ws, ∀ m ∈ ws, rk n ≤ rk m
  | _, [], h => absurd rfl h
  | rk, w :: ws, _ => by
    by_cases e : ws = []
    · exact ⟨w, List.mem_cons_self, fun m hm => by rw [e] at hm; rw [List.mem_singleton.mp hm]; exact Nat.le_refl _⟩
    · obtain ⟨n, hn, h⟩ := least rk ws e
      rcases Nat.le_total (rk w) (rk n) with q | q
      · refine ⟨w, List.mem_cons_self, fun m hm => ?_⟩
        rcases List.mem_cons.mp hm with rfl | hm
        · exact Nat.le_refl _
        · exact Nat.le_trans q (h m hm)
      · refine ⟨n, List.mem_cons_of_mem _ hn, fun m hm => ?_⟩
        rcases List.mem_cons.mp hm with rfl | hm
        · exact q
        · exact h m hm
/-- what waits leans on what waits or is made, and on what has a lesser rank -/
structure Wait (f : Str → List Str) (rk : Str → Nat) (ws made : List Str) : Prop where
  cl : ∀ n ∈ ws, ∀ t ∈ f n, t ∈ ws ∨ t ∈ made
  rk : ∀ n ∈ ws, ∀ t ∈ f n, rk t < rk n
theorem Wait.next {f : Str → List Str} {rk : Str → Nat} {ws made : List Str} (W : Wait f rk ws made) (h : ws ≠ []) : ∃ n, nextM f ws made = some n := by
  cases e : nextM f ws made with
  | some n => exact ⟨n, rfl⟩
  | none =>
    exfalso
    obtain ⟨n, hn, hmin⟩ := least rk ws h
    refine List.find?_eq_none.mp e n hn (List.all_eq_true.mpr fun t ht => decide_eq_true ?_)
    rcases W.cl n hn t ht with q | q
    · have a := hmin t q
      have b := W.rk n hn t ht
      omega
    · exact q
theorem Wait.step {f : Str → List Str} {rk : Str → Nat} {ws made : List Str} (W : Wait f rk ws made) {n : Str} : Wait f rk (ws.erase n) (made ++ [n]) := by
  refine ⟨fun m hm t ht => ?_, fun m hm t ht => W.rk m (List.mem_of_mem_erase hm) t ht⟩
  rcases W.cl m (List.mem_of_mem_erase hm) t ht with q | q
  · by_cases e : t = n
    · exact .inr (List.mem_append.mpr (.inr (by rw [e]; exact List.mem_singleton_self _)))
    · exact .inl ((List.mem_erase_of_ne e).mpr q)
  · exact .inr (List.mem_append.mpr (.inl q))
/-- all that waits is made -/
theorem Wait.all {f : Str → List Str} {rk : Str → Nat} : ∀ (k : Nat) {ws made : List Str}, Wait f rk ws made → ws.length ≤ k → (made ++ ws).Nodup → (mkOrd f k ws made).Perm (made ++ ws)
  | 0, ws, made, W, hk, _ => by
    have e : ws = [] := List.length_eq_zero_iff.mp (by omega)
    subst e
    rw [List.append_nil]
    exact List.Perm.refl _
  | k + 1, ws, made, W, hk, nd => by
    by_cases e : ws = []
    · subst e
      show (match nextM f [] made with | none => made | some n => mkOrd f k (([] : List Str).erase n) (made ++ [n])).Perm _
      rw [show nextM f [] made = none from rfl, List.append_nil]
    · obtain ⟨n, hn⟩ := W.next e
      have mem := (nextM_some hn).1
      have p : (made ++ [n] ++ ws.erase n).Perm (made ++ ws) := by
        rw [List.append_assoc]
        exact List.Perm.append_left made (List.perm_cons_erase mem).symm
      have ih := Wait.all k (W.step (n := n)) (by rw [List.length_erase_of_mem mem]; omega) (p.nodup_iff.mpr nd)
      show (match nextM f ws made with | none => made | some n => mkOrd f k (ws.erase n) (made ++ [n])).Perm _
      rw [hn]
      exact ih.trans p
/-- each stands behind what it leans on -/
def Behind (f : Str → List Str) (L : List Str) : Prop := ∀ (i : Nat) (n : Str), L[i]? = some n → ∀ t ∈ f n, t ∈ L.take i
theorem Behind.push {f : Str → List Str} {L : List Str} {n : Str} (h : Behind f L) (hn : ∀ t ∈ f n, t ∈ L) : Behind f (L ++ [n]) := by
  intro i m hm t ht
  rcases Nat.lt_or_ge i L.length with q | q
  · rw [List.getElem?_append_left q] at hm
    rw [List.take_append_of_le_length (by omega)]
    exact h i m hm t ht
  · rw [List.getElem?_append_right q] at hm
    have hi : i - L.length = 0 := by
      rcases Nat.eq_zero_or_pos (i - L.length) with z | z
      · exact z
      · rw [List.getElem?_eq_none (by simp; omega)] at hm
        cases hm
    rw [hi] at hm
    have e : n = m := by simpa using hm
    have ei : i = L.length := by omega
    rw [ei, List.take_append_of_le_length (Nat.le_refl _), List.take_length]
    exact hn t (e ▸ ht)
theorem mkOrd_behind {f : Str → List Str} : ∀ (k : Nat) (ws made : List Str), Behind f made → Behind f (mkOrd f k ws made)
  | 0, _, _, h => h
  | k + 1, ws, made, h => by
    show Behind f (match nextM f ws made with | none => made | some n => mkOrd f k (ws.erase n) (made ++ [n]))
    cases e : nextM f ws made with
    | none => exact h
    | some n => exact mkOrd_behind k _ _ (h.push (nextM_some e).2)
theorem behind_nil (f : Str → List Str) : Behind f [] := fun i n h => by simp at h
/-- the order of all that waits, made -/
def makeL (f : Str → List Str) (ws : List Str) : List Str := mkOrd f ws.length ws []
theorem makeL_perm {f : Str → List Str} {rk : Str → Nat} {ws : List Str} (nd : ws.Nodup) (cl : ∀ n ∈ ws, ∀ t ∈ f n, t ∈ ws) (hr : ∀ n ∈ ws, ∀ t ∈ f n, rk t < rk n) : (makeL f ws).Perm ws := by
  have := Wait.all ws.length (f := f) (rk := rk) (ws := ws) (made := []) ⟨fun n hn t ht => .inl (cl n hn t ht), hr⟩ (Nat.le_refl _) nd
  exact this
/-! ### within -/
inductive Rch (f : Str → List Str) (S : List Str) : Str → Prop
  | one {n t : Str} (h : n ∈ S) (k : t ∈ f n) : Rch f S t
  | more {n t : Str} (h : Rch f S n) (k : t ∈ f n) : Rch f S t
/-- what was found so far, what waits -/
structure Fnd (f : Str → List Str) (U S found ws : List Str) : Prop where
  nd : found.Nodup
  rc : ∀ x ∈ found, Rch f S x
  wt : ∀ x ∈ ws, x ∈ S ∨ x ∈ found
  cl : ∀ n, n ∈ S ∨ n ∈ found → n ∉ ws → ∀ t ∈ f n, t ∈ found
  un : ∀ x ∈ found, x ∈ U
theorem Fnd.done {f : Str → List Str} {U S found : List Str} (h : Fnd f U S found []) : found.Nodup ∧ (∀ x, x ∈ found ↔ Rch f S x) ∧ ∀ x ∈ found, x ∈ U := by
  refine ⟨h.nd, fun x => ⟨h.rc x, fun r => ?_⟩, h.un⟩
  induction r with
  | one hn ht => exact h.cl _ (.inl hn) (fun z => nomatch z) _ ht
  | more _ ht ih => exact h.cl _ (.inr ih) (fun z => nomatch z) _ ht
/-- the rows' doughs of a dough -/
def innL (ds : List Dm) (d : Dm) : List Str := (d.rs.map (·.1)).filter fun t => decide (t ∈ ds.map (·.z))
def innG (ds : List Dm) : List (Str × List Str) := ds.map fun d => (d.z, innL ds d)
def gF (g : List (Str × List Str)) (n : Str) : List Str := ((g.find? fun e => decide (e.1 = n)).map (·.2)).getD []
theorem gF_inn {ds : List Dm} (nd : (ds.map (·.z)).Nodup) {d : Dm} (hd : d ∈ ds) : gF (innG ds) d.z = innL ds d := by
  have key : ∀ (l : List Dm), (l.map (·.z)).Nodup → d ∈ l → ((l.map fun d => (d.z, innL ds d)).find? fun e => decide (e.1 = d.z)) = some (d.z, innL ds d) := by
    intro l
    induction l with
    | nil => intro _ h; nomatch h
    | cons c l ih =>
      intro nd h
      rw [List.map_cons, List.nodup_cons] at nd
      rw [List.map_cons, List.find?_cons]
      rcases List.mem_cons.mp h with rfl | h
      · rw [decide_eq_true rfl]
      · have nc : ¬ c.z = d.z := fun e => nd.1 (e ▸ List.mem_map_of_mem h)
        rw [show decide ((c.z, innL ds c).1 = d.z) = false from decide_eq_false nc]
        exact ih nd.2 h
  unfold gF innG
  rw [key ds nd hd]
  rfl
theorem innL_mem {ds : List Dm} {d : Dm} {t : Str} : t ∈ innL ds d ↔ t ∈ d.rs.map (·.1) ∧ t ∈ ds.map (·.z) := by
  unfold innL
  rw [List.mem_filter]
  exact ⟨fun h => ⟨h.1, of_decide_eq_true h.2⟩, fun h => ⟨h.1, decide_eq_true h.2⟩⟩
theorem Rk.inn {ds : List Dm} {rk : Str → Nat} (R : Rk ds rk) (nd : (ds.map (·.z)).Nodup) {n t : Str} (hn : n ∈ ds.map (·.z)) (ht : t ∈ gF (innG ds) n) : rk t < rk n ∧ t ∈ ds.map (·.z) := by
  obtain ⟨d, hd, rfl⟩ := List.mem_map.mp hn
  rw [gF_inn nd hd] at ht
  obtain ⟨h1, h2⟩ := innL_mem.mp ht
  obtain ⟨r, hr, rfl⟩ := List.mem_map.mp h1
  exact ⟨R.dn d hd r hr h2, h2⟩
end Lf

set_option Elab.async false
set_option linter.all false
set_option maxRecDepth 100000
set_option maxHeartbeats 4000000
set_option exponentiation.threshold 3000
namespace Lf
open PySem PySem.Spec PyProof.Rows L2
section
variable {P : Program} {w : World} {K : PySem.W.Frag} {mg : Str → Option Value} {base : Heap} {c0 c1 cw : Addr}
theorem pget {α β : Type} {R : α → β → Prop} : ∀ {xs : List α} {ys : List β} {i : Nat} {x : α}, Paired R xs ys → xs[i]? = some x → ∃ y, ys[i]? = some y ∧ R x y
  | _, _, _, _, .nil, e => by simp at e
  | _, _, 0, _, .cons a _, e => by simp at e; subst e; exact ⟨_, rfl, a⟩
  | _, _, i + 1, x, .cons _ r, e => by
    obtain ⟨y, h1, h2⟩ := pget (i := i) (x := x) r (by simpa using e)
    exact ⟨y, by simpa using h1, h2⟩
theorem plen {α β : Type} {R : α → β → Prop} : ∀ {xs : List α} {ys : List β}, Paired R xs ys → xs.length = ys.length
  | _, _, .nil => rfl
  | _, _, .cons _ r => by rw [List.length_cons, List.length_cons, plen r]
theorem papp {α β : Type} {R : α → β → Prop} : ∀ {xs xs' : List α} {ys ys' : List β}, Paired R xs ys → Paired R xs' ys' → Paired R (xs ++ xs') (ys ++ ys')
  | _, _, _, _, .nil, h => h
  | _, _, _, _, .cons a r, h => .cons a (papp r h)
def DmAt (K : PySem.W.Frag) (H : Hp) (C : Addr) (v : V) (d : Dm) : Prop := ∃ x, v = .ref x ∧ Dgh K H C x d.z d.rs d.n
def SfAt (K : PySem.W.Frag) (H : Hp) (C : Addr) (v : V) (d : Sf) : Prop := ∃ x, v = .ref x ∧ StO K H C x d.z d.ms
def InE (K : PySem.W.Frag) (H : Hp) (kv : Key × V) (e : Str × List Str) : Prop := kv.1 = Sum.inr e.1 ∧ ∃ l, kv.2 = .ref l ∧ SqL K H l (e.2.map V.str)
def InAt (K : PySem.W.Frag) (H : Hp) (I : Addr) (g : List (Str × List Str)) : Prop := ∃ kvs, H I = some (.dK kvs) ∧ Paired (InE K H) kvs g
theorem DmAt.same {H H' : Hp} (s : Same H H') {C : Addr} {v : V} {d : Dm} (h : DmAt K H C v d) : DmAt K H' C v d := let ⟨x, e, h⟩ := h; ⟨x, e, h.same s⟩
theorem SfAt.same {H H' : Hp} (s : Same H H') {C : Addr} {v : V} {d : Sf} (h : SfAt K H C v d) : SfAt K H' C v d := let ⟨x, e, h⟩ := h; ⟨x, e, h.same s⟩
theorem InE.same {H H' : Hp} (s : Same H H') {kv : Key × V} {e : Str × List Str} (h : InE K H kv e) : InE K H' kv e := let ⟨e1, l, e2, h⟩ := h; ⟨e1, l, e2, sm_l s h⟩
theorem InAt.same {H H' : Hp} (s : Same H H') {I : Addr} {g : List (Str × List Str)} (h : InAt K H I g) : InAt K H' I g := let ⟨kvs, e, h⟩ := h; ⟨kvs, s _ _ e, L2.Paired.mapP h fun _ _ => InE.same s⟩
theorem DgsAt.same {H H' : Hp} (s : Same H H') {C : Addr} {xs : List V} {ds : List Dm} (h : Paired (DmAt K H C) xs ds) : Paired (DmAt K H' C) xs ds := L2.Paired.mapP h fun _ _ => DmAt.same s
theorem SfsAt.same {H H' : Hp} (s : Same H H') {C : Addr} {xs : List V} {ds : List Sf} (h : Paired (SfAt K H C) xs ds) : Paired (SfAt K H' C) xs ds := L2.Paired.mapP h fun _ _ => SfAt.same s
/-- a thing's own names, read -/
theorem InAt.get {H : Hp} {I : Addr} {g : List (Str × List Str)} (h : InAt K H I g) {n : Str} (hn : n ∈ g.map (·.1)) : ∃ l, DGet H I (.str n) (some (.ref l)) ∧ SqL K H l ((gF g n).map V.str) := by
  obtain ⟨kvs, e, p⟩ := h
  have key : ∀ {kvs : List (Key × V)} {g : List (Str × List Str)}, Paired (InE K H) kvs g → n ∈ g.map (·.1) → ∃ l, valV kvs (Sum.inr n) = some (.ref l) ∧ SqL K H l ((gF g n).map V.str) := by
    intro kvs g p
    induction p with
    | nil => intro h; nomatch h
    | @cons kv e kvs g r t ih =>
      intro h
      obtain ⟨e1, l, e2, hs⟩ := r
      by_cases q : e.1 = n
      · refine ⟨l, ?_, ?_⟩
        · rw [valV_pos (by rw [e1, q]), e2]
        · have : gF (e :: g) n = e.2 := by
            unfold gF
            rw [List.find?_cons, decide_eq_true q]
            rfl
          rw [this]
          exact hs
      · have hn' : n ∈ g.map (·.1) := by
          rw [List.map_cons] at h
          rcases List.mem_cons.mp h with z | z
          · exact absurd z.symm q
          · exact z
        obtain ⟨l', h1, h2⟩ := ih hn'
        refine ⟨l', ?_, ?_⟩
        · rw [valV_neg (by rw [e1]; exact fun z => q (Sum.inr.inj z))]
          exact h1
        · have : gF (e :: g) n = gF g n := by
            unfold gF
            rw [List.find?_cons, decide_eq_false q]
          rw [this]
          exact h2
  obtain ⟨l, h1, h2⟩ := key p hn
  exact ⟨l, .inl ⟨kvs, Sum.inr n, .inl e, rfl, h1.symm⟩, h2⟩
theorem in_tx {H : Hp} {a : Addr} {ts : List Str} (ha : SqL K H a (ts.map V.str)) (al : ∀ t ∈ ts, AllL t) {y : Str} (hy : AllL y) {Q : VK} (q : Q (.bl (decide (y ∈ ts))) H) : rInD K (.str y) (.ref a) H Q :=
  ⟨.str y, ts.map PyData.str, .str y, .lst ha (strs_dp ts), al_shaped hy, strs_shaped al, by rw [strs_any]; exact q⟩
theorem notin_tx {H : Hp} {a : Addr} {ts : List Str} (ha : SqL K H a (ts.map V.str)) (al : ∀ t ∈ ts, AllL t) {y : Str} (hy : AllL y) {Q : VK} (q : Q (.bl (!decide (y ∈ ts))) H) : rNotInD K (.str y) (.ref a) H Q :=
  ⟨.str y, ts.map PyData.str, .str y, .lst ha (strs_dp ts), al_shaped hy, strs_shaped al, by rw [strs_any]; exact q⟩

/-! ### refuse_twice -/
theorem sc_refuse_twice : FnScope ["names", "seen", "name"] ["names"] (defScope s_refuse_twice) := ⟨rfl, rfl, rfl, by decide +kernel, rfl, by decide +kernel, by decide +kernel⟩
def sp_rtw (K : PySem.W.Frag) : Sp := fun vs H Q _ => ∃ (a : Addr) (ns : List Str), vs = [.ref a] ∧ SqL K H a (ns.map V.str) ∧ ns.Nodup ∧ ns.length ≤ 60 ∧ ∀ H', Same H H' → Q .non H'
theorem ok_rtw {f : Addr} {fd : FuncData} (ms : mg "set" = none) (F : Fun K "refuse_twice" "refuse_twice" s_refuse_twice f fd) : FnG P w K mg base CX0 1 f fd ["names"] (sp_rtw K) := by
  refine Gfun F sc_refuse_twice (fun vs H Q E h => ?_) (fun cdv A outer s H vs Q E hg hr h => ?_)
  · obtain ⟨a, ns, rfl, _⟩ := h
    rfl
  · obtain ⟨a, ns, rfl, ha, nd, few, k⟩ := h
    refine ⟨_, (pss_cons (ps_set (i := 1) sc_refuse_twice.nd rfl (.inl rfl) (pe_callTy0 cr_set0K rfl ms (by decide +kernel : bootBuiltins "set" = some (.type "set"))))
      (pss_one (ps_for PassesOwn.never rfl (pi_list (pv 0)) (pg_name (i := 2) sc_refuse_twice.nd rfl (.inl rfl))
      (pss_cons (ps_if (pt_cmpR or_sinK (pv 2) (pv 1) rfl)
      (pss_one ps_dead)
      pss_nil)
      (pss_one (ps_expr (pe_saddK (pv 1) (pa_cons (pv 2) pa_nil)))))))), ?_⟩
    refine ⟨rfl, fun p np => ?_⟩
    have s1 : Same H (L2.upd H p (SetK P w p (fun _ => false) 0)) := same_new np
    refine ⟨_, rfl, a, rfl, ⟨_, sm_l s1 ha⟩, ?_⟩
    refine for_list (xs := ns.map V.str) (fun i σ H' => Same H H' ∧ (∃ v, σ = [some (.ref a), some (.ref p), v]) ∧ ∃ S, H' p = some (SetK P w p S i) ∧ ∀ z, S (Sum.inr z) = decide (z ∈ ns.take i)) ⟨s1, ⟨_, rfl⟩, _, upd_same, fun z => by simp⟩ (fun i σ H' _ h => sm_l h.1 ha) ?_ ?_
    · rintro i x σ H' hx ⟨sH, ⟨v, rfl⟩, S, eS, hS⟩
      obtain ⟨z, hz, rfl⟩ : ∃ z, ns[i]? = some z ∧ V.str z = x := by
        rw [List.getElem?_map] at hx
        exact Option.map_eq_some_iff.mp hx
      have hi : i < ns.length := (List.getElem?_eq_some_iff.mp hz).1
      have no : S (Sum.inr z) = false := by
        rw [hS z]
        refine decide_eq_false fun hm => ?_
        obtain ⟨j, hj2⟩ := List.getElem?_of_mem hm
        rw [List.getElem?_take] at hj2
        split at hj2
        · rename_i q
          obtain ⟨hj3, ej⟩ := List.getElem?_eq_some_iff.mp hj2
          obtain ⟨hi3, ei⟩ := List.getElem?_eq_some_iff.mp hz
          exact List.pairwise_iff_getElem.mp nd j i hj3 hi3 q (ej.trans ei.symm)
        · cases hj2
      refine ⟨_, rfl, _, rfl, Sum.inr z, p, S, i, rfl, rfl, eS, ?_⟩
      rw [show (if false = true then !S (Sum.inr z) else S (Sum.inr z)) = false from no]
      refine ⟨_, rfl, iteF ?_⟩
      refine ⟨_, rfl, ⟨p, S, i, rfl, eS⟩, _, rfl, p, Sum.inr z, S, i, rfl, rfl, eS, Nat.lt_of_le_of_lt (Nat.succ_le_of_lt (Nat.lt_of_lt_of_le hi few)) (by decide), ?_⟩
      rw [no]
      refine ⟨fun b q e => ?_, ⟨_, rfl⟩, _, upd_same, fun y => ?_⟩
      · rw [upd_ne (ne_of_none e np)]
        exact sH _ _ e
      · show (S (Sum.inr y) || decide (Sum.inr y = Sum.inr z)) = _
        rw [hS y, List.take_succ, hz]
        by_cases q : y = z
        · subst q
          simp
        · simp [q]
    · rintro σ H' ⟨sH, ⟨v, rfl⟩, _⟩
      exact k H' sH

end
end Lf

set_option Elab.async false
set_option linter.all false
set_option maxRecDepth 100000
set_option maxHeartbeats 4000000
set_option exponentiation.threshold 3000
namespace Lf
open PySem PySem.Spec PyProof.Rows L2
theorem op_inK {X : Cx} {K : PySem.W.Frag} (h : X.A.units + 65 < cLine) (hK : X.K = K := by rfl) : OpR X (compareOp .In) (rInD K) := hK ▸ op_inD h
theorem pi_listK {X : Cx} {K : PySem.W.Frag} {tg l : Expr} {tl : TE} (hl : PE X l tl) (hK : X.K = K := by rfl) : PI X tg l (iList K tl) := hK ▸ pi_list hl
section
variable {P : Program} {w : World} {K : PySem.W.Frag} {mg : Str → Option Value} {base : Heap} {c0 c1 cw : Addr}

/-! ### refuse_unknown -/
theorem sc_refuse_unknown : FnScope ["doughs", "names", "dough", "thing", "parts"] ["doughs", "names"] (defScope s_refuse_unknown) := ⟨rfl, rfl, rfl, by decide +kernel, rfl, by decide +kernel, by decide +kernel⟩
theorem SqL.but {H H' : Hp} {D l : Addr} {kvs : List (Key × V)} {xs : List V} (e : H D = some (.dK kvs)) (b : But D H H') (h : SqL K H l xs) : SqL K H' l xs := by
  rcases h with (h | ⟨o, h⟩) | h
  · exact .inl (.inl (b _ _ (fun z => by rw [z, e] at h; cases h) h))
  · exact .inl (.inr ⟨o, b _ _ (fun z => by rw [z, e] at h; cases h) h⟩)
  · exact .inr h
theorem InE.but {H H' : Hp} {D : Addr} {kvs : List (Key × V)} {kv : Key × V} {g : Str × List Str} (e : H D = some (.dK kvs)) (b : But D H H') (h : InE K H kv g) : InE K H' kv g := let ⟨e1, l, e2, h⟩ := h; ⟨e1, l, e2, SqL.but e b h⟩
theorem InE.keys {H : Hp} {n : Str} : ∀ {kvs : List (Key × V)} {g : List (Str × List Str)}, Paired (InE K H) kvs g → n ∉ g.map (·.1) → valV kvs (Sum.inr n) = none
  | _, _, .nil, _ => rfl
  | _, _, .cons r t, h => by
    rw [List.map_cons, List.mem_cons, not_or] at h
    obtain ⟨e1, _⟩ := r
    rw [valV_neg (by rw [e1]; exact fun z => h.1 (Sum.inr.inj z).symm)]
    exact InE.keys t h.2
def sp_run (K : PySem.W.Frag) (C : Addr) : Sp := fun vs H Q _ => ∃ (a b : Addr) (xs : List V) (ds : List Dm) (ns : List Str), vs = [.ref a, .ref b] ∧ SqL K H a xs ∧ Paired (DmAt K H C) xs ds ∧ SqL K H b (ns.map V.str) ∧ (∀ t ∈ ns, AllL t) ∧ (∀ d ∈ ds, ∀ r ∈ d.rs, r.1 ∈ ns) ∧ ∀ H', Same H H' → Q .non H'
theorem ok_run {f : Addr} {fd : FuncData} {C fn fr : Addr} {fdn fdr : FuncData} (Mn : MetG P w K mg base CX0 1 C "name" fn fdn ["self"] (sp_dname K C)) (Mr : MetG P w K mg base CX0 1 C "rows" fr fdr ["self"] (sp_drows K C)) (F : Fun K "refuse_unknown" "refuse_unknown" s_refuse_unknown f fd) : FnG P w K mg base CX0 2 f fd ["doughs", "names"] (sp_run K C) := by
  refine Gfun F sc_refuse_unknown (fun vs H Q E h => ?_) (fun cdv A outer s H vs Q E hg hr h => ?_)
  · obtain ⟨a, b, xs, ds, ns, rfl, _⟩ := h
    rfl
  · obtain ⟨a, b, xs, ds, ns, rfl, ha, hA, hb, al, kn, k⟩ := h
    refine ⟨_, (pss_one (ps_for PassesOwn.never rfl (pi_list (pv 0)) (pg_name (i := 2) sc_refuse_unknown.nd rfl (.inl rfl))
      (pss_one (ps_for PassesOwn.never rfl (pi_list (pe_meG0 (pv 2) Mr (hr.mono (by decide)) hg (fun _ => pass_no))) (pg_tup rfl (pgs_cons (pg_name (i := 3) sc_refuse_unknown.nd rfl (.inl rfl)) (pgs_cons (pg_name (i := 4) sc_refuse_unknown.nd rfl (.inl rfl)) pgs_nil)))
      (pss_one (ps_if (pt_cmpR (op_notInD (by exact u65 hr)) (pv 3) (pv 1) rfl)
      (pss_one ps_dead)
      pss_nil)))))), ?_⟩
    refine ⟨_, rfl, a, rfl, ⟨_, ha⟩, ?_⟩
    refine for_list (xs := xs) (fun i σ H' => Same H H' ∧ ∃ u v y, σ = [some (.ref a), some (.ref b), u, v, y]) ⟨fun _ _ e => e, _, _, _, rfl⟩ (fun i σ H' _ h => sm_l h.1 ha) ?_ ?_
    · rintro i x σ H' hx ⟨sH, u, v, y, rfl⟩
      obtain ⟨d, hd, ⟨q, rfl, dg⟩⟩ := pget hA hx
      have dg' := dg.same sH
      obtain ⟨dx, pr, ys0, i1, _, _⟩ := id dg'
      refine ⟨_, rfl, q, _, _, rfl, i1, rfl, q, d.z, d.rs, d.n, rfl, dg', fun l ys nl hR => ?_⟩
      have s1 : Same H' (L2.upd H' l (.lst ys)) := same_new nl
      have e1 : L2.upd H' l (.lst ys) l = some (.lst ys) := upd_same
      generalize L2.upd H' l (.lst ys) = H1 at s1 e1 ⊢
      refine ⟨l, rfl, ⟨_, .inl (.inl e1)⟩, ?_⟩
      refine for_list (xs := ys) (fun i σ H' => Same H1 H' ∧ ∃ u v y, σ = [some (.ref a), some (.ref b), u, v, y]) ⟨fun _ _ e => e, _, _, _, rfl⟩ (fun i σ H' _ h => .inl (.inl (h.1 _ _ e1))) ?_ ?_
      · rintro j y2 σ H2 hy ⟨s2, u, v, y, rfl⟩
        obtain ⟨r, hr1, ⟨p, vf, rfl, hp, hf⟩⟩ := hR.get hy
        refine ⟨p, [.str r.1, vf], rfl, sm_t (s1.trans s2) hp, rfl, _, _, rfl, _, _, rfl, rfl, ?_⟩
        have hin := kn d (List.mem_of_getElem? hd) r (List.mem_of_getElem? hr1)
        refine ⟨_, rfl, _, rfl, notin_tx (sm_l ((sH.trans s1).trans s2) hb) al (al _ hin) ⟨_, rfl, ?_⟩⟩
        rw [decide_eq_true hin]
        exact iteF ⟨s2, _, _, _, rfl⟩
      · rintro σ H2 ⟨s2, u, v, y, rfl⟩
        exact ⟨(sH.trans s1).trans s2, _, _, _, rfl⟩
    · rintro σ H' ⟨sH, u, v, y, rfl⟩
      exact k H' sH

/-! ### inner_doughs -/
theorem sc_inner_doughs : FnScope ["doughs", "names", "dough", "thing", "parts"] ["doughs"] (defScope s_inner_doughs) := ⟨rfl, rfl, rfl, by decide +kernel, rfl, by decide +kernel, by decide +kernel⟩
/-- the scope of the dict comprehension -/
abbrev scD : Scope := { kind := .function, names := [(".0", .local), ("dough", .local), ("names", .cell)], isGenerator := false, isCoroutine := false }
theorem dc_list {K : PySem.W.Frag} {a : Addr} {xs : List V} {g : TG} {tt : TT} {tk tv : TE} {vs : List Nat} {σ : L2.St} {H1 : Hp} {D : Addr} {Qd : Hp → Prop} (Pv : Nat → Hp → Prop) (h0 : Pv 0 (L2.upd H1 D (.dK []))) (hl : ∀ i H, Pv i H → SqL K H a xs)
    (hs : ∀ i x H, xs[i]? = some x → Pv i H → g x (wipe σ vs) H fun σ2 H2 => wipe σ2 vs = wipe σ vs ∧ tt σ2 H2 fun b H3 =>
      if b = true then tk σ2 H3 fun y H4 => tv σ2 H4 fun z H5 => ∃ kvs k, y = kV k ∧ H5 D = some (.dK kvs) ∧ kvs.length < sizeLine ∧ Pv (i + 1) (L2.upd H5 D (.dK (putK kvs k z))) else Pv (i + 1) H3) (hd : ∀ H, Pv xs.length H → Qd H) :
    ∃ W : Nat → Nat → Hp → Prop, (∃ m, W 0 m (L2.upd H1 D (.dK []))) ∧ ∀ i m H, W i m H →
      ((Itl K a).stop i H ∧ Qd H) ∨ ((Itl K a).go i H ∧ ∃ Nx : Hp → Prop, (∀ H', Nx H' → ∃ m', m' < m ∧ W (i + 1) m' H') ∧ ∀ x H', (Itl K a).yld i H x H' → g x (wipe σ vs) H' fun σ2 H2 => wipe σ2 vs = wipe σ vs ∧ tt σ2 H2 fun b H3 =>
        if b = true then tk σ2 H3 fun y H4 => tv σ2 H4 fun z H5 => ∃ kvs k, y = kV k ∧ H5 D = some (.dK kvs) ∧ kvs.length < sizeLine ∧ Nx (L2.upd H5 D (.dK (putK kvs k z))) else Nx H3) := by
  refine ⟨fun i m H => Pv i H ∧ i + m = xs.length, ⟨xs.length, h0, Nat.zero_add _⟩, fun i m H h => ?_⟩
  obtain ⟨p, e⟩ := h
  have q := hl i H p
  cases m with
  | zero =>
    refine .inl ⟨⟨xs, q, by omega⟩, hd H ?_⟩
    rw [← e]
    exact p
  | succ m =>
    have hi : i < xs.length := by omega
    refine .inr ⟨⟨xs, xs[i], q, List.getElem?_eq_getElem hi⟩, Pv (i + 1), fun H' p' => ⟨m, Nat.lt_succ_self m, p', by omega⟩, fun x H' y => ?_⟩
    obtain ⟨rfl, y⟩ := y
    exact hs i x _ (y xs q) p
def sp_inn (K : PySem.W.Frag) (C : Addr) : Sp := fun vs H Q _ => ∃ (a : Addr) (xs : List V) (ds : List Dm), vs = [.ref a] ∧ SqL K H a xs ∧ Paired (DmAt K H C) xs ds ∧ (∀ d ∈ ds, AllL d.z ∧ d.rs.length ≤ 8 ∧ ∀ r ∈ d.rs, AllL r.1) ∧ (ds.map (·.z)).Nodup ∧ ds.length ≤ 60 ∧ ∀ H' I, Same H H' → H I = none → InAt K H' I (innG ds) → Q (.ref I) H'
set_option maxHeartbeats 8000000 in
theorem ok_inn {f : Addr} {fd : FuncData} {C fn fr : Addr} {fdn fdr : FuncData} (Mn : MetG P w K mg base CX0 1 C "name" fn fdn ["self"] (sp_dname K C)) (Mr : MetG P w K mg base CX0 1 C "rows" fr fdr ["self"] (sp_drows K C)) (F : Fun K "inner_doughs" "inner_doughs" s_inner_doughs f fd) : FnG P w K mg base CX0 2 f fd ["doughs"] (sp_inn K C) := by
  refine Gfun F sc_inner_doughs (fun vs H Q E h => ?_) (fun cdv A outer s H vs Q E hg hr h => ?_)
  · obtain ⟨a, xs, ds, rfl, _⟩ := h
    rfl
  · obtain ⟨a, xs, ds, rfl, ha, hA, al, nd, few, k⟩ := h
    refine ⟨_, (pss_cons (ps_set (i := 1) sc_inner_doughs.nd rfl (.inr rfl) (pe_lc (own := [("dough", 2)]) (g := gName 2) (tt := tYes) rfl sc_inner_doughs.nd (pi_list (pv 0)) (blkOk_by (N := ["doughs", "names", "dough", "thing", "parts"]) (sc := defScope s_inner_doughs) (by decide +kernel)) (fun _ _ _ _ _ => pg_name (i := 2) sc_inner_doughs.nd rfl (Or.inl rfl)) (fun _ _ _ _ _ => pts_nil) (fun _ _ _ _ _ => (pe_meG0 (pv 2) Mn (hr.mono (by decide)) hg (fun _ => pass_no)))))
      (pss_one (ps_ret (pe_dc (own := [("dough", 2)]) (g := gName 2) (tt := tYes) rfl sc_inner_doughs.nd (pi_list (pv 0)) (blkOk_by (N := ["doughs", "names", "dough", "thing", "parts"]) (sc := defScope s_inner_doughs) (by decide +kernel)) (fun _ _ _ _ _ => pg_name (i := 2) sc_inner_doughs.nd rfl (Or.inl rfl)) (fun _ _ _ _ _ => pts_nil) (fun _ _ _ _ _ => (pe_meG0 (pv 2) Mn (hr.mono (by decide)) hg (fun _ => pass_no))) (fun _ _ _ _ _ => (pe_lc (own := [("thing", 3), ("parts", 4)]) (g := gTup K 2 (gCons (gName 3) (gCons (gName 4) (gNil)))) rfl sc_inner_doughs.nd (pi_listK (K := K) (pe_meG0 (pv 2) Mr (hr.mono (by decide)) hg (fun _ => pass_no))) (blkOk_by (N := ["doughs", "names", "dough", "thing", "parts"]) (sc := scD) (by decide +kernel)) (fun _ _ _ _ _ => pg_tupK (K := K) rfl (pgs_cons (pg_name (i := 3) sc_inner_doughs.nd rfl (Or.inl rfl)) (pgs_cons (pg_name (i := 4) sc_inner_doughs.nd rfl (Or.inl rfl)) pgs_nil))) (fun _ _ _ _ _ => (pts_one (pt_cmpR (op_inK (K := K) (by exact u65 hr)) (pv 3) (pv 1) rfl))) (fun _ _ _ _ _ => (pv 3)))))))), ?_⟩
    have hlen := plen hA
    have all : ∀ t ∈ ds.map (·.z), AllL t := fun t ht => by
      obtain ⟨d, hd, rfl⟩ := List.mem_map.mp ht
      exact (al d hd).1
    refine ⟨_, rfl, a, rfl, ⟨_, ha⟩, fun D hD => ?_⟩
    refine lc_list (xs := xs) (fun i H' => Same H H' ∧ H' D = some (.lst (((ds.map (·.z)).take i).map V.str))) ⟨same_new hD, upd_same⟩ (fun i H' _ h => sm_l h.1 ha) ?_ ?_
    · rintro i x H' hx ⟨sH, eD⟩
      obtain ⟨d, hd, ⟨q, rfl, dg⟩⟩ := pget hA hx
      have dg' := dg.same sH
      obtain ⟨dx, pr, ys0, i1, _, _⟩ := id dg'
      refine ⟨rfl, _, rfl, q, _, _, rfl, i1, rfl, q, d.z, d.rs, d.n, rfl, dg', _, eD, ?_, fun b o e => ?_, ?_⟩
      · rw [List.length_map, List.length_take, List.length_map, sizeLine_eq]
        omega
      · rw [upd_ne (ne_of_none e hD)]
        exact sH _ _ e
      · rw [upd_same, List.take_succ, List.getElem?_map, hd, List.map_append]
        rfl
    · rintro H1 ⟨s1, eD⟩
      rw [List.take_of_length_le (by rw [List.length_map]; omega)] at eD
      refine ⟨_, rfl, a, rfl, ⟨_, sm_l s1 ha⟩, fun I hI => ?_⟩
      refine dc_list (xs := xs) (fun i H' => Same H1 H' ∧ ∃ kvs, H' I = some (.dK kvs) ∧ Paired (InE K H') kvs ((innG ds).take i)) ⟨same_new hI, [], upd_same, .nil⟩ (fun i H' h => sm_l (s1.trans h.1) ha) ?_ ?_
      · rintro i x H2 hx ⟨s2, kvs, eI, hK⟩
        obtain ⟨d, hd, ⟨q, rfl, dg⟩⟩ := pget hA hx
        have md := List.mem_of_getElem? hd
        have hi : i < xs.length := (List.getElem?_eq_some_iff.mp hx).1
        have dg2 := dg.same (s1.trans s2)
        obtain ⟨dx, pr, ys0, i1, _, _⟩ := id dg2
        refine ⟨rfl, _, rfl, q, _, _, rfl, i1, rfl, q, d.z, d.rs, d.n, rfl, dg2, ?_⟩
        refine ⟨_, rfl, q, _, _, rfl, i1, rfl, q, d.z, d.rs, d.n, rfl, dg2, fun l ys nl hR => ?_⟩
        have s3 : Same H2 (L2.upd H2 l (.lst ys)) := same_new nl
        have e3 : L2.upd H2 l (.lst ys) l = some (.lst ys) := upd_same
        generalize L2.upd H2 l (.lst ys) = H3 at s3 e3 ⊢
        have hRl := plen hR
        refine ⟨l, rfl, ⟨_, .inl (.inl e3)⟩, fun L hL => ?_⟩
        refine lc_list (xs := ys) (fun j H' => Same H3 H' ∧ H' L = some (.lst ((((d.rs.take j).map (·.1)).filter fun t => decide (t ∈ ds.map (·.z))).map V.str))) ⟨same_new hL, upd_same⟩ (fun j H' _ h => .inl (.inl (h.1 _ _ e3))) ?_ ?_
        · rintro j y H4 hy ⟨s4, eL⟩
          obtain ⟨r, hr1, ⟨p, vf, rfl, hp, hf⟩⟩ := (hR.same s3).get hy
          have hj : j < ys.length := (List.getElem?_eq_some_iff.mp hy).1
          have tk : (d.rs.take (j + 1)).map (·.1) = (d.rs.take j).map (·.1) ++ [r.1] := by
            rw [List.take_succ, hr1, List.map_append]
            rfl
          refine ⟨p, [.str r.1, vf], rfl, sm_t s4 hp, rfl, _, _, rfl, _, _, rfl, rfl, ?_⟩
          refine ⟨rfl, _, rfl, _, rfl, in_tx (ts := ds.map (·.z)) (.inl (.inl (s4 _ _ (s3 _ _ (s2 _ _ eD))))) all ((al d md).2.2 r (List.mem_of_getElem? hr1)) ⟨_, rfl, ?_⟩⟩
          have e8 := (al d md).2.1
          refine ite2 (fun c => ?_) (fun c => ?_)
          · refine ⟨_, rfl, _, eL, ?_, fun b o e => ?_, ?_⟩
            · rw [List.length_map, sizeLine_eq]
              have h1 := List.length_filter_le (fun t => decide (t ∈ ds.map (·.z))) ((d.rs.take j).map (·.1))
              rw [List.length_map, List.length_take] at h1
              omega
            · rw [upd_ne (ne_of_none e hL)]
              exact s4 _ _ e
            · rw [upd_same, tk, List.filter_append, List.map_append, List.filter_cons, if_pos c]
              rfl
          · refine ⟨s4, ?_⟩
            rw [tk, List.filter_append, List.filter_cons, if_neg c, List.filter_nil, List.append_nil]
            exact eL
        · rintro H4 ⟨s4, eL⟩
          rw [List.take_of_length_le (by omega)] at eL
          have s24 := s3.trans s4
          have eI4 := s24 _ _ eI
          have hl := plen hK
          rw [List.length_take] at hl
          have tk : (innG ds).take (i + 1) = (innG ds).take i ++ [(d.z, innL ds d)] := by
            rw [List.take_succ]
            unfold innG
            rw [List.getElem?_map, hd]
            rfl
          refine ⟨kvs, Sum.inr d.z, rfl, eI4, by rw [sizeLine_eq]; omega, fun b o e => ?_, _, upd_same, ?_⟩
          · rw [upd_ne (ne_of_none e hI)]
            exact s24 _ _ (s2 _ _ e)
          · have bt : But I H4 (L2.upd H4 I (.dK (putK kvs (Sum.inr d.z) (.ref L)))) := fun b o nb e => by
              rw [upd_ne nb]
              exact e
            have nz : d.z ∉ ((innG ds).take i).map (·.1) := by
              unfold innG
              rw [List.map_take, List.map_map]
              intro hm
              obtain ⟨j, hj⟩ := List.getElem?_of_mem hm
              rw [List.getElem?_take] at hj
              split at hj
              · rename_i q2
                rw [List.getElem?_map] at hj
                obtain ⟨d2, hd2, ez⟩ := Option.map_eq_some_iff.mp hj
                obtain ⟨h1, f1⟩ := List.getElem?_eq_some_iff.mp hd2
                obtain ⟨h2, f2⟩ := List.getElem?_eq_some_iff.mp hd
                refine List.pairwise_iff_getElem.mp nd j i (by rw [List.length_map]; exact h1) (by rw [List.length_map]; exact h2) q2 ?_
                rw [List.getElem_map, List.getElem_map, f1, f2]
                exact ez
              · cases hj
            rw [putK_new _ (InE.keys hK nz), tk]
            rw [putK_new _ (InE.keys hK nz)] at bt
            refine papp (L2.Paired.mapP hK fun _ _ h => InE.but eI4 bt (h.same s24)) (.cons ⟨rfl, L, rfl, SqL.but eI4 bt ?_⟩ .nil)
            exact .inl (.inl eL)
      · rintro H2 ⟨s2, kvs, eI, hK⟩
        rw [List.take_of_length_le (by unfold innG; rw [List.length_map]; omega)] at hK
        refine k H2 I (s1.trans s2) ?_ ⟨kvs, eI, hK⟩
        cases q : H I with
        | none => rfl
        | some o =>
          have := s1 _ _ q
          rw [hI] at this
          cases this

end
end Lf

set_option Elab.async false
set_option linter.all false
set_option maxRecDepth 100000
set_option maxHeartbeats 4000000
set_option exponentiation.threshold 3000
namespace Lf
open PySem PySem.Spec PyProof.Rows L2
theorem u1 {k : Nat} {A : Around} (r : Room k A) : A.units + 1 < cLine := by
  have := u65 r
  omega
/-- what each leans on: told, and of those that are told -/
structure GOk (g : List (Str × List Str)) : Prop where
  al : ∀ n ∈ g.map (·.1), AllL n
  few : ∀ n, (gF g n).length ≤ 8
  cl : ∀ n ∈ g.map (·.1), ∀ t ∈ gF g n, t ∈ g.map (·.1)
  sz : g.length ≤ 60
  nd : (g.map (·.1)).Nodup
def optV : Option Str → V
  | none => .non
  | some z => .str z
section
variable {P : Program} {w : World} {K : PySem.W.Frag} {mg : Str → Option Value} {base : Heap} {c0 c1 cw : Addr}
theorem map_str {xs : List Str} {i : Nat} {x : V} (h : (xs.map V.str)[i]? = some x) : ∃ z, xs[i]? = some z ∧ x = .str z := by
  rw [List.getElem?_map] at h
  obtain ⟨z, h1, h2⟩ := Option.map_eq_some_iff.mp h
  exact ⟨z, h1, h2.symm⟩

/-! ### next_made -/
theorem sc_next_made : FnScope ["waiting", "made", "inner", "name", "thing"] ["waiting", "made", "inner"] (defScope s_next_made) := ⟨rfl, rfl, rfl, by decide +kernel, rfl, by decide +kernel, by decide +kernel⟩
def sp_nxm (K : PySem.W.Frag) : Sp := fun vs H Q _ => ∃ (wa ma I : Addr) (ws made : List Str) (g : List (Str × List Str)), vs = [.ref wa, .ref ma, .ref I] ∧ SqL K H wa (ws.map V.str) ∧ SqL K H ma (made.map V.str) ∧ InAt K H I g ∧ GOk g ∧ (∀ n ∈ ws, n ∈ g.map (·.1)) ∧ (∀ n ∈ made, AllL n) ∧ ∀ H', Same H H' → Q (optV (nextM (gF g) ws made)) H'
theorem ok_nxm {f : Addr} {fd : FuncData} (M : Blt mg) (F : Fun K "next_made" "next_made" s_next_made f fd) : FnG P w K mg base CX0 1 f fd ["waiting", "made", "inner"] (sp_nxm K) := by
  refine Gfun F sc_next_made (fun vs H Q E h => ?_) (fun cdv A outer s H vs Q E hg hr h => ?_)
  · obtain ⟨wa, ma, I, ws, made, g, rfl, _⟩ := h
    rfl
  · obtain ⟨wa, ma, I, ws, made, g, rfl, hw, hm, hI, G, win, mal, k⟩ := h
    refine ⟨_, (pss_cons (ps_for PassesOwn.never rfl (pi_list (pv 0)) (pg_name (i := 3) sc_next_made.nd rfl (.inl rfl))
      (pss_one (ps_if (pt_val (pe_callB (cr_all rfl) rfl M.all bt_all (pa_cons (pe_lc (own := [("thing", 4)]) (g := gName 4) (tt := tYes) rfl sc_next_made.nd (pi_list (pe_dget (by exact u1 hr) (pv 2) (pv 3) (fun _ _ => rfl))) (blkOk_by (N := ["waiting", "made", "inner", "name", "thing"]) (sc := defScope s_next_made) (by decide +kernel)) (fun _ _ _ _ _ => pg_name (i := 4) sc_next_made.nd rfl (Or.inl rfl)) (fun _ _ _ _ _ => pts_nil) (fun _ _ _ _ _ => (pe_cmpR (op_inK (K := K) (by exact u65 hr)) (pv 4) (pv 1) rfl))) pa_nil)))
      (pss_one (ps_ret (pv 3)))
      pss_nil)))
      (pss_one (ps_ret pe_non))), ?_⟩
    refine ⟨_, rfl, wa, rfl, ⟨_, hw⟩, ?_⟩
    refine for_list (xs := ws.map V.str) (fun i σ H' => Same H H' ∧ (∃ v y, σ = [some (.ref wa), some (.ref ma), some (.ref I), v, y]) ∧ ∀ n ∈ ws.take i, ((gF g n).all fun t => decide (t ∈ made)) = false) ⟨fun _ _ e => e, ⟨_, _, rfl⟩, fun n hn => nomatch hn⟩ (fun i σ H' _ h => sm_l h.1 hw) ?_ ?_
    · rintro i x σ H' hx ⟨sH, ⟨v, y, rfl⟩, no⟩
      obtain ⟨n, hn, rfl⟩ := map_str hx
      have mn := win n (List.mem_of_getElem? hn)
      obtain ⟨l, dg, hl⟩ := (hI.same sH).get mn
      refine ⟨_, rfl, _, rfl, I, _, rfl, dg, l, rfl, ⟨_, hl⟩, fun D hD => ?_⟩
      refine lc_list (xs := (gF g n).map V.str) (fun j H2 => Same H' H2 ∧ H2 D = some (.lst ((((gF g n).take j).map fun t => decide (t ∈ made)).map V.bl))) ⟨same_new hD, upd_same⟩ (fun j H2 _ h => sm_l h.1 hl) ?_ ?_
      · rintro j y2 H2 hy ⟨s2, eD⟩
        obtain ⟨t, ht, rfl⟩ := map_str hy
        have h8 := G.few n
        refine ⟨rfl, _, rfl, _, rfl, in_tx (sm_l (sH.trans s2) hm) mal (G.al _ (G.cl n mn t (List.mem_of_getElem? ht))) ⟨_, eD, ?_, fun b o e => ?_, ?_⟩⟩
        · rw [List.length_map, List.length_map, List.length_take, sizeLine_eq]
          omega
        · rw [upd_ne (ne_of_none e hD)]
          exact s2 _ _ e
        · rw [upd_same, List.take_succ, ht, List.map_append, List.map_append]
          rfl
      · rintro H2 ⟨s2, eD⟩
        rw [List.take_of_length_le (by rw [List.length_map]; exact Nat.le_refl _)] at eD
        refine ⟨D, _, rfl, .inl (.inl eD), _, rfl, ?_⟩
        have ea : (((gF g n).map fun t => decide (t ∈ made)).all id) = (gF g n).all fun t => decide (t ∈ made) := by
          rw [List.all_map]
          rfl
        rw [ea]
        refine ite2 (fun c => ?_) (fun c => ?_)
        · refine ⟨_, rfl, ?_⟩
          have : nextM (gF g) ws made = some n := by
            refine List.find?_eq_some_iff_append.mpr ⟨c, ws.take i, ws.drop (i + 1), ?_, fun m hm => ?_⟩
            · obtain ⟨h1, h2⟩ := List.getElem?_eq_some_iff.mp hn
              rw [← h2, ← List.drop_eq_getElem_cons h1, List.take_append_drop]
            · rw [no m hm]
              rfl
          have k' := k H2 (sH.trans s2)
          rw [this] at k'
          exact k'
        · refine ⟨sH.trans s2, ⟨_, _, rfl⟩, fun m hm => ?_⟩
          rw [List.take_succ, hn] at hm
          rcases List.mem_append.mp hm with hm | hm
          · exact no m hm
          · have : m = n := by simpa using hm
            rw [this]
            exact Bool.eq_false_iff.mpr c
    · rintro σ H' ⟨sH, ⟨v, y, rfl⟩, no⟩
      rw [List.length_map, List.take_length] at no
      have : nextM (gF g) ws made = none := List.find?_eq_none.mpr fun m hm => by rw [no m hm]; decide
      have k' := k H' sH
      rw [this] at k'
      exact k'

/-! ### making_order -/
theorem sc_making_order : FnScope ["names", "inner", "made", "waiting", "name"] ["names", "inner"] (defScope s_making_order) := ⟨rfl, rfl, rfl, by decide +kernel, rfl, by decide +kernel, by decide +kernel⟩
def sp_mko (K : PySem.W.Frag) : Sp := fun vs H Q _ => ∃ (na I : Addr) (ns : List Str) (g : List (Str × List Str)), vs = [.ref na, .ref I] ∧ SqL K H na (ns.map V.str) ∧ InAt K H I g ∧ GOk g ∧ (∀ n ∈ ns, n ∈ g.map (·.1)) ∧ ns.length < 64 ∧ ∀ H' l ws, Same H H' → H l = none → ws.Nodup → (∀ y, y ∈ ws ↔ y ∈ ns) → sortedS ws = true → H' l = some (.lst ((makeL (gF g) ws).map V.str)) → Q (.ref l) H'
theorem ok_mko {f : Addr} {fd : FuncData} (M : Blt mg) (ms : mg "set" = none) (mso : mg "sorted" = none) (F : Fun K "making_order" "making_order" s_making_order f fd) (C_next_made : Cal P w K mg base CX0 1 "next_made" ["waiting", "made", "inner"] (sp_nxm K)) : FnG P w K mg base CX0 2 f fd ["names", "inner"] (sp_mko K) := by
  refine Gfun F sc_making_order (fun vs H Q E h => ?_) (fun cdv A outer s H vs Q E hg hr h => ?_)
  · obtain ⟨na, I, ns, g, rfl, _⟩ := h
    rfl
  · obtain ⟨na, I, ns, g, rfl, hn, hI, G, win, few, k⟩ := h
    refine ⟨_, (pss_cons (ps_set (i := 2) sc_making_order.nd rfl (.inl rfl) (pe_lst pa_nil))
      (pss_cons (ps_set (i := 3) sc_making_order.nd rfl (.inl rfl) (pe_srtSet mso ms (pv 0)))
      (pss_cons (ps_set (i := 4) sc_making_order.nd rfl (.inl rfl) (pe_g C_next_made (hr.mono (by decide)) hg (pa_cons (pv 3) (pa_cons (pv 2) (pa_cons (pv 1) pa_nil)))))
      (pss_cons (ps_while PassesOwn.never (pt_cmp (pc_notN (pv 4)))
      (pss_cons (ps_expr (pe_bm PySem.F.plainAttrs_list PySem.F.slot_list_remove PySem.F.type_list_remove mt_remT (pv 3) (pa_cons (pv 4) pa_nil)))
      (pss_cons (ps_expr (pe_bm PySem.F.plainAttrs_list PySem.F.slot_list_append PySem.F.type_list_append mt_append (pv 2) (pa_cons (pv 4) pa_nil)))
      (pss_one (ps_set (i := 4) sc_making_order.nd rfl (.inl rfl) (pe_g C_next_made (hr.mono (by decide)) hg (pa_cons (pv 3) (pa_cons (pv 2) (pa_cons (pv 1) pa_nil)))))))))
      (pss_one (ps_ret (pv 2))))))), ?_⟩
    refine ⟨len_show (Nat.le_of_ble_eq_true rfl), fun lm n1 => ?_⟩
    have s1 : Same H (L2.upd H lm (.lst [])) := same_new n1
    have e1 : L2.upd H lm (.lst []) lm = some (.lst []) := upd_same
    generalize L2.upd H lm (.lst []) = H1 at s1 e1 ⊢
    refine ⟨_, rfl, na, ns, rfl, sm_l s1 hn, few, fun ws lw nd mem srt n2 => ?_⟩
    have nwm : lw ≠ lm := fun z => by rw [z, e1] at n2; cases n2
    have s2 : Same H1 (L2.upd H1 lw (.lst (ws.map V.str))) := same_new n2
    have e2 : L2.upd H1 lw (.lst (ws.map V.str)) lw = some (.lst (ws.map V.str)) := upd_same
    generalize L2.upd H1 lw (.lst (ws.map V.str)) = H2 at s2 e2 ⊢
    have s02 := s1.trans s2
    have wing : ∀ n ∈ ws, n ∈ g.map (·.1) := fun n h => win n ((mem n).mp h)
    have nlw : H lw = none := by
      cases q : H lw with
      | none => rfl
      | some o =>
        have := s1 _ _ q
        rw [n2] at this
        cases this
    have wl : ws.length ≤ 60 := Nat.le_trans (nodup_leS nd wing) (by rw [List.length_map]; exact G.sz)
    refine ⟨_, rfl, _, rfl, _, rfl, lw, lm, I, ws, [], g, rfl, .inl (.inl e2), .inl (.inl (s2 _ _ e1)), hI.same s02, G, wing, fun n h => (nomatch h), fun H3 s3 => ?_⟩
    refine while_by (fun σ H' => ∃ (wt made : List Str), σ = [some (.ref na), some (.ref I), some (.ref lm), some (.ref lw), some (optV (nextM (gF g) wt made))] ∧ Same H H' ∧ H' lm = some (.lst (made.map V.str)) ∧ H' lw = some (.lst (wt.map V.str)) ∧ (∀ n ∈ wt, n ∈ ws) ∧ (∀ n ∈ made, n ∈ ws) ∧ made.length + wt.length ≤ 60 ∧ mkOrd (gF g) wt.length wt made = makeL (gF g) ws)
      (fun σ H' => match H' lw with | some (.lst l) => l.length | _ => 0) ⟨ws, [], rfl, s02.trans s3, s3 _ _ (s2 _ _ e1), s3 _ _ e2, fun n h => h, fun n h => (nomatch h), by rw [List.length_nil]; omega, rfl⟩ ?_ ?_
    · rintro σ H' ⟨wt, made, rfl, sH, em, ew, iw, im, hl, eq⟩
      refine ⟨_, rfl, _, rfl, ?_⟩
      cases hx : nextM (gF g) wt made with
      | none =>
        refine ite2 (fun c => ?_) (fun c => ?_)
        · exact absurd c (by decide)
        · have em2 : mkOrd (gF g) wt.length wt made = made := by
            cases wt with
            | nil => rfl
            | cons x xs =>
              show (match nextM (gF g) (x :: xs) made with | none => made | some n => mkOrd (gF g) xs.length ((x :: xs).erase n) (made ++ [n])) = made
              rw [hx]
          rw [em2] at eq
          rw [eq] at em
          exact ⟨_, rfl, k H' lm ws sH n1 nd mem srt em⟩
      | some n =>
        have hn2 := (nextM_some hx).1
        refine ite2 (fun c => ?_) (fun c => ?_)
        · refine ⟨_, rfl, .inl ⟨rfl, _, .inl (.inl ew)⟩, _, rfl, lw, wt, n, rfl, rfl, ew, hn2, ?_⟩
          have bw : But lw H' (L2.upd H' lw (.lst ((wt.erase n).map V.str))) := fun b o nb e => by rw [upd_ne nb]; exact e
          have ew2 : L2.upd H' lw (.lst ((wt.erase n).map V.str)) lw = some (.lst ((wt.erase n).map V.str)) := upd_same
          generalize L2.upd H' lw (.lst ((wt.erase n).map V.str)) = H4 at bw ew2 ⊢
          have em4 := bw _ _ nwm.symm em
          refine ⟨_, rfl, .inl ⟨rfl, _, .inl (.inl em4)⟩, _, rfl, lm, _, _, rfl, rfl, em4, by rw [List.length_map, sizeLine_eq]; omega, ?_⟩
          have bm : But lm H4 (L2.upd H4 lm (.lst (made.map V.str ++ [optV (some n)]))) := fun b o nb e => by rw [upd_ne nb]; exact e
          have em5 : L2.upd H4 lm (.lst (made.map V.str ++ [optV (some n)])) lm = some (.lst ((made ++ [n]).map V.str)) := by
            rw [upd_same, List.map_append]
            rfl
          generalize L2.upd H4 lm (.lst (made.map V.str ++ [optV (some n)])) = H5 at bm em5 ⊢
          have ew5 := bm _ _ nwm ew2
          have s5 : Same H H5 := fun b o e => bm _ _ (ne_of_none e n1) (bw _ _ (ne_of_none e nlw) (sH _ _ e))
          have im2 : ∀ m ∈ made ++ [n], m ∈ ws := fun m hm => by
            rcases List.mem_append.mp hm with hm | hm
            · exact im m hm
            · rw [List.mem_singleton.mp hm]
              exact iw n hn2
          have iw2 : ∀ m ∈ wt.erase n, m ∈ ws := fun m hm => iw m (List.mem_of_mem_erase hm)
          have le := List.length_erase_of_mem hn2
          have lp := List.length_pos_of_mem hn2
          refine ⟨_, rfl, _, rfl, _, rfl, lw, lm, I, wt.erase n, made ++ [n], g, rfl, .inl (.inl ew5), .inl (.inl em5), hI.same s5, G, fun m hm => wing m (iw2 m hm), fun m hm => G.al m (wing m (im2 m hm)), fun H6 s6 => ⟨⟨wt.erase n, made ++ [n], rfl, s5.trans s6, s6 _ _ em5, s6 _ _ ew5, iw2, im2, ?_, ?_⟩, ?_⟩⟩
          · rw [List.length_append, List.length_singleton]
            omega
          · rw [← eq, le]
            obtain ⟨m, hm⟩ : ∃ m, wt.length = m + 1 := ⟨wt.length - 1, by omega⟩
            rw [hm]
            show mkOrd (gF g) m (wt.erase n) (made ++ [n]) = (match nextM (gF g) wt made with | none => made | some n => mkOrd (gF g) m (wt.erase n) (made ++ [n]))
            rw [hx]
          · rw [s6 _ _ ew5, ew]
            show ((wt.erase n).map V.str).length < (wt.map V.str).length
            rw [List.length_map, List.length_map]
            omega
        · exact absurd rfl c
    · intro σ H Q Q' hQ h
      obtain ⟨v, h1, b, h2, h3⟩ := h
      exact ⟨v, h1, b, h2, hQ _ _ h3⟩

end
end Lf

set_option Elab.async false
set_option linter.all false
set_option maxRecDepth 100000
set_option maxHeartbeats 4000000
set_option exponentiation.threshold 3000
namespace Lf
open PySem PySem.Spec PyProof.Rows L2
/-- what is found through one that waited -/
theorem Fnd.step {f : Str → List Str} {U S found ws new : List Str} {n : Str} (h : Fnd f U S found (ws ++ [n])) (nd : (found ++ new).Nodup) (sub : ∀ t ∈ new, t ∈ f n) (all : ∀ t ∈ f n, t ∈ found ++ new) (un : ∀ t ∈ f n, t ∈ U) : Fnd f U S (found ++ new) (ws ++ new) := by
  have hn : n ∈ S ∨ n ∈ found := h.wt n (List.mem_append.mpr (.inr (List.mem_singleton_self n)))
  refine ⟨nd, fun x hx => ?_, fun x hx => ?_, fun m hm nm t ht => ?_, fun x hx => ?_⟩
  · rcases List.mem_append.mp hx with hx | hx
    · exact h.rc x hx
    · rcases hn with hn | hn
      · exact .one hn (sub x hx)
      · exact .more (h.rc n hn) (sub x hx)
  · rcases List.mem_append.mp hx with hx | hx
    · rcases h.wt x (List.mem_append.mpr (.inl hx)) with q | q
      · exact .inl q
      · exact .inr (List.mem_append.mpr (.inl q))
    · exact .inr (List.mem_append.mpr (.inr hx))
  · have nw : m ∉ ws := fun z => nm (List.mem_append.mpr (.inl z))
    have nn : m ∉ new := fun z => nm (List.mem_append.mpr (.inr z))
    have hm' : m ∈ S ∨ m ∈ found := hm.elim .inl fun z => (List.mem_append.mp z).elim .inr fun z => absurd z nn
    by_cases e : m = n
    · subst e
      exact all t ht
    · refine List.mem_append.mpr (.inl (h.cl m hm' (fun z => ?_) t ht))
      rcases List.mem_append.mp z with z | z
      · exact nw z
      · exact e (List.mem_singleton.mp z)
  · rcases List.mem_append.mp hx with hx | hx
    · exact h.un x hx
    · exact un x (sub x hx)
section
variable {P : Program} {w : World} {K : PySem.W.Frag} {mg : Str → Option Value} {base : Heap} {c0 c1 cw : Addr}

/-! ### all_within -/
theorem sc_all_within : FnScope ["names", "inner", "found", "waiting", "name", "thing"] ["names", "inner"] (defScope s_all_within) := ⟨rfl, rfl, rfl, by decide +kernel, rfl, by decide +kernel, by decide +kernel⟩
def sp_awn (K : PySem.W.Frag) : Sp := fun vs H Q _ => ∃ (na I : Addr) (ns : List Str) (g : List (Str × List Str)), vs = [.ref na, .ref I] ∧ SqL K H na (ns.map V.str) ∧ InAt K H I g ∧ GOk g ∧ (∀ n ∈ ns, n ∈ g.map (·.1)) ∧ ns.length ≤ 60 ∧ ∀ (H' : Hp) (l : Addr) (found : List Str), Same H H' → H l = none → H' l = some (.lst (found.map V.str)) → found.Nodup → (∀ x, x ∈ found ↔ Rch (gF g) ns x) → (∀ x ∈ found, x ∈ g.map (·.1)) → Q (.ref l) H'
theorem InAt.get2 {H : Hp} {I : Addr} {g : List (Str × List Str)} (h : InAt K H I g) {n : Str} (hn : n ∈ g.map (·.1)) : ∃ l, (∀ H', Same H H' → DGet H' I (.str n) (some (.ref l))) ∧ SqL K H l ((gF g n).map V.str) := by
  obtain ⟨l, dg, hl⟩ := h.get hn
  refine ⟨l, fun H' sH => ?_, hl⟩
  rcases dg with ⟨kvs, k, r, e1, e2⟩ | ⟨kvs, k, b, _, e1, _⟩
  · refine .inl ⟨kvs, k, ?_, e1, e2⟩
    rcases r with r | ⟨o, r⟩
    · exact .inl (sH _ _ r)
    · exact .inr ⟨o, sH _ _ r⟩
  · cases e1
def lenA (H : Hp) (l : Addr) : Nat := match H l with | some (.lst xs) => xs.length | _ => 0
theorem lenA_of {H : Hp} {l : Addr} {xs : List Str} (h : H l = some (.lst (xs.map V.str))) : lenA H l = xs.length := by
  unfold lenA
  rw [h]
  exact List.length_map ..
set_option maxHeartbeats 8000000 in
theorem ok_awn {f : Addr} {fd : FuncData} (M : Blt mg) (ml : mg "list" = none) (F : Fun K "all_within" "all_within" s_all_within f fd) : FnG P w K mg base CX0 1 f fd ["names", "inner"] (sp_awn K) := by
  refine Gfun F sc_all_within (fun vs H Q E h => ?_) (fun cdv A outer s H vs Q E hg hr h => ?_)
  · obtain ⟨na, I, ns, g, rfl, _⟩ := h
    rfl
  · obtain ⟨na, I, ns, g, rfl, hn, hI, G, win, few, k⟩ := h
    refine ⟨_, (pss_cons (ps_set (i := 2) sc_all_within.nd rfl (.inl rfl) (pe_lst pa_nil))
      (pss_cons (ps_set (i := 3) sc_all_within.nd rfl (.inl rfl) (pe_callTy call_list_of rfl ml bt_list (pa_cons (pv 0) pa_nil)))
      (pss_cons (ps_while PassesOwn.never (pt_cmpR op_gt (pe_callB call_len_seq rfl M.len bt_len (pa_cons (pv 3) pa_nil)) pe_int (nomark _))
      (pss_cons (ps_set (i := 4) sc_all_within.nd rfl (.inl rfl) (pe_bm0 PySem.F.plainAttrs_list PySem.F.slot_list_pop PySem.F.type_list_pop mt_pop (pv 3)))
      (pss_one (ps_for PassesOwn.never rfl (pi_list (pe_dget (by exact u1 hr) (pv 1) (pv 4) (fun _ _ => rfl))) (pg_name (i := 5) sc_all_within.nd rfl (.inl rfl))
      (pss_one (ps_if (pt_cmpR (op_notInD (by exact u65 hr)) (pv 5) (pv 2) rfl)
      (pss_cons (ps_expr (pe_bm PySem.F.plainAttrs_list PySem.F.slot_list_append PySem.F.type_list_append mt_append (pv 2) (pa_cons (pv 5) pa_nil)))
      (pss_one (ps_expr (pe_bm PySem.F.plainAttrs_list PySem.F.slot_list_append PySem.F.type_list_append mt_append (pv 3) (pa_cons (pv 5) pa_nil)))))
      pss_nil))))))
      (pss_one (ps_ret (pv 2)))))), ?_⟩
    refine ⟨len_show (Nat.le_of_ble_eq_true rfl), fun lf n1 => ?_⟩
    have s1 : Same H (L2.upd H lf (.lst [])) := same_new n1
    have e1 : L2.upd H lf (.lst []) lf = some (.lst []) := upd_same
    generalize L2.upd H lf (.lst []) = H1 at s1 e1 ⊢
    refine ⟨_, rfl, na, _, rfl, .inl (sm_l s1 hn), fun lw n2 => ?_⟩
    have nwf : lw ≠ lf := fun z => by rw [z, e1] at n2; cases n2
    have s2 : Same H1 (L2.upd H1 lw (.lst (ns.map V.str))) := same_new n2
    have e2 : L2.upd H1 lw (.lst (ns.map V.str)) lw = some (.lst (ns.map V.str)) := upd_same
    generalize L2.upd H1 lw (.lst (ns.map V.str)) = H2 at s2 e2 ⊢
    have s02 := s1.trans s2
    have nlw : H lw = none := by
      cases q : H lw with
      | none => rfl
      | some o =>
        have := s1 _ _ q
        rw [n2] at this
        cases this
    have gl : (g.map (·.1)).length ≤ 60 := by rw [List.length_map]; exact G.sz
    refine while_by (fun σ H' => ∃ (found wt : List Str) (v y : Option V), σ = [some (.ref na), some (.ref I), some (.ref lf), some (.ref lw), v, y] ∧ Same H H' ∧ H' lf = some (.lst (found.map V.str)) ∧ H' lw = some (.lst (wt.map V.str)) ∧ Fnd (gF g) (g.map (·.1)) ns found wt ∧ wt.length ≤ 60 + found.length)
      (fun σ H' => 2 * (60 - lenA H' lf) + lenA H' lw) ⟨[], ns, _, _, rfl, s02, s2 _ _ e1, e2, ⟨List.nodup_nil, fun x h => (nomatch h), fun x h => .inl h, fun m hm nm => ?_, fun x h => (nomatch h)⟩, by rw [List.length_nil]; omega⟩ ?_ ?_
    · rcases hm with hm | hm
      · exact absurd hm nm
      · exact nomatch hm
    · rintro σ H' ⟨found, wt, v, y, rfl, sH, ef, ew, Fn, hl⟩
      refine ⟨_, rfl, lw, _, rfl, .inl (.inl (.inl ew)), _, _, rfl, rfl, _, rfl, ite2 (fun c => ?_) (fun c => ?_)⟩
      · have pos : 0 < wt.length := by
          have := of_decide_eq_true c
          rw [List.length_map] at this
          omega
        obtain ⟨ws0, n, rfl⟩ : ∃ ws0 n, wt = ws0 ++ [n] := by
          rcases List.eq_nil_or_concat wt with z | ⟨a, b, z⟩
          · rw [z] at pos
            exact absurd pos (by decide)
          · exact ⟨a, b, by rw [z, List.concat_eq_append]⟩
        refine ⟨_, rfl, .inl ⟨rfl, _, .inl (.inl ew)⟩, lw, _, .str n, rfl, rfl, ew, ?_, ?_⟩
        · rw [List.map_append, List.length_append]
          simp
        have edl : ((ws0 ++ [n]).map V.str).dropLast = ws0.map V.str := by simp
        rw [edl]
        have bw : But lw H' (L2.upd H' lw (.lst (ws0.map V.str))) := fun b o nb e => by rw [upd_ne nb]; exact e
        have ew4 : L2.upd H' lw (.lst (ws0.map V.str)) lw = some (.lst (ws0.map V.str)) := upd_same
        generalize L2.upd H' lw (.lst (ws0.map V.str)) = H4 at bw ew4 ⊢
        have ef4 := bw _ _ nwf.symm ef
        have s4 : Same H H4 := fun b o e => bw _ _ (ne_of_none e nlw) (sH _ _ e)
        have nU : n ∈ g.map (·.1) := by
          rcases Fn.wt n (List.mem_append.mpr (.inr (List.mem_singleton_self n))) with q | q
          · exact win n q
          · exact Fn.un n q
        obtain ⟨l, dg, hl2⟩ := hI.get2 nU
        refine ⟨_, rfl, _, rfl, I, _, rfl, dg H4 s4, l, rfl, ⟨_, sm_l s4 hl2⟩, ?_⟩
        have h8 := G.few n
        have cl := G.cl n nU
        have hw2 : ws0.length + 1 ≤ 60 + found.length := by
          rw [List.length_append, List.length_singleton] at hl
          exact hl
        refine for_list (xs := (gF g n).map V.str) (fun j σ H5 => Same H H5 ∧ (∃ v2, σ = [some (.ref na), some (.ref I), some (.ref lf), some (.ref lw), some (.str n), v2]) ∧ ∃ new : List Str, H5 lf = some (.lst ((found ++ new).map V.str)) ∧ H5 lw = some (.lst ((ws0 ++ new).map V.str)) ∧ (found ++ new).Nodup ∧ (∀ t ∈ new, t ∈ gF g n) ∧ ∀ t ∈ (gF g n).take j, t ∈ found ++ new)
          ⟨s4, ⟨_, rfl⟩, [], by rw [List.append_nil]; exact ef4, by rw [List.append_nil]; exact ew4, by rw [List.append_nil]; exact Fn.nd, fun t h => (nomatch h), fun t h => (nomatch h)⟩ (fun j σ H5 _ h => sm_l h.1 hl2) ?_ ?_
        · rintro j x σ H5 hx ⟨s5, ⟨v2, rfl⟩, new, ef5, ew5, nd5, sub5, all5⟩
          obtain ⟨t, ht, rfl⟩ := map_str hx
          have tin := List.mem_of_getElem? ht
          have inU : ∀ x ∈ found ++ new, x ∈ g.map (·.1) := fun x h => (List.mem_append.mp h).elim (Fn.un x) fun z => cl x (sub5 x z)
          have l60 : (found ++ new).length ≤ 60 := Nat.le_trans (nodup_leS nd5 inU) gl
          have l60' := l60
          rw [List.length_append] at l60'
          have tk : ∀ (nw : List Str), (∀ x ∈ found ++ new, x ∈ nw) → t ∈ nw → ∀ x ∈ (gF g n).take (j + 1), x ∈ nw := fun nw h1 h2 x hx => by
            rw [List.take_succ, ht] at hx
            rcases List.mem_append.mp hx with hx | hx
            · exact h1 x (all5 x hx)
            · have : x = t := by simpa using hx
              rw [this]
              exact h2
          refine ⟨_, rfl, _, rfl, notin_tx (.inl (.inl ef5)) (fun x h => G.al x (inU x h)) (G.al t (cl t tin)) ⟨_, rfl, ite2 (fun c => ?_) (fun c => ?_)⟩⟩
          · have nt : t ∉ found ++ new := fun z => by
              rw [decide_eq_true z] at c
              exact absurd c (by decide)
            refine ⟨_, rfl, .inl ⟨rfl, _, .inl (.inl ef5)⟩, _, rfl, lf, _, _, rfl, rfl, ef5, by rw [List.length_map, sizeLine_eq]; omega, ?_⟩
            have b6 : But lf H5 (L2.upd H5 lf (.lst ((found ++ new).map V.str ++ [.str t]))) := fun b o nb e => by rw [upd_ne nb]; exact e
            have e6 : L2.upd H5 lf (.lst ((found ++ new).map V.str ++ [.str t])) lf = some (.lst ((found ++ (new ++ [t])).map V.str)) := by
              rw [upd_same, ← List.append_assoc, List.map_append (l₁ := found ++ new)]
              rfl
            generalize L2.upd H5 lf (.lst ((found ++ new).map V.str ++ [.str t])) = H6 at b6 e6 ⊢
            have ew6 := b6 _ _ nwf ew5
            refine ⟨_, rfl, .inl ⟨rfl, _, .inl (.inl ew6)⟩, _, rfl, lw, _, _, rfl, rfl, ew6, by rw [List.length_map, List.length_append, sizeLine_eq]; omega, ?_⟩
            have b7 : But lw H6 (L2.upd H6 lw (.lst ((ws0 ++ new).map V.str ++ [.str t]))) := fun b o nb e => by rw [upd_ne nb]; exact e
            have e7 : L2.upd H6 lw (.lst ((ws0 ++ new).map V.str ++ [.str t])) lw = some (.lst ((ws0 ++ (new ++ [t])).map V.str)) := by
              rw [upd_same, ← List.append_assoc, List.map_append (l₁ := ws0 ++ new)]
              rfl
            generalize L2.upd H6 lw (.lst ((ws0 ++ new).map V.str ++ [.str t])) = H7 at b7 e7 ⊢
            refine ⟨fun b o e => b7 _ _ (ne_of_none e nlw) (b6 _ _ (ne_of_none e n1) (s5 _ _ e)), ⟨_, rfl⟩, new ++ [t], b7 _ _ nwf.symm e6, e7, ?_, fun x hx => ?_, ?_⟩
            · rw [← List.append_assoc]
              exact List.nodup_append.mpr ⟨nd5, by simp, fun a ha b hb z => by rw [List.mem_singleton.mp hb] at z; exact nt (z ▸ ha)⟩
            · rcases List.mem_append.mp hx with hx | hx
              · exact sub5 x hx
              · rw [List.mem_singleton.mp hx]
                exact tin
            · refine tk _ (fun x hx => ?_) ?_
              · rw [← List.append_assoc]
                exact List.mem_append.mpr (.inl hx)
              · simp
          · have nt : t ∈ found ++ new := Classical.byContradiction fun z => c (by rw [decide_eq_false z]; rfl)
            exact ⟨s5, ⟨_, rfl⟩, new, ef5, ew5, nd5, sub5, tk _ (fun x hx => hx) nt⟩
        · rintro σ H5 ⟨s5, ⟨v2, rfl⟩, new, ef5, ew5, nd5, sub5, all5⟩
          rw [List.take_of_length_le (by rw [List.length_map]; exact Nat.le_refl _)] at all5
          have inU : ∀ x ∈ found ++ new, x ∈ g.map (·.1) := fun x h => (List.mem_append.mp h).elim (Fn.un x) fun z => cl x (sub5 x z)
          have l60 : (found ++ new).length ≤ 60 := Nat.le_trans (nodup_leS nd5 inU) gl
          refine ⟨⟨found ++ new, ws0 ++ new, _, _, rfl, s5, ef5, ew5, Fn.step nd5 sub5 all5 cl, ?_⟩, ?_⟩
          · rw [List.length_append, List.length_append]
            omega
          · rw [lenA_of ef5, lenA_of ew5, lenA_of ef, lenA_of ew]
            rw [List.length_append] at l60 ⊢
            rw [List.length_append, List.length_append, List.length_singleton]
            omega
      · have z : wt = [] := by
          cases wt with
          | nil => rfl
          | cons x xs =>
            refine absurd (decide_eq_true ?_) c
            rw [List.length_map, List.length_cons]
            omega
        subst z
        obtain ⟨d1, d2, d3⟩ := Fn.done
        exact ⟨_, rfl, k H' lf found sH n1 ef d1 d2 d3⟩
    · intro σ H Q Q' hQ h
      obtain ⟨v, h1, p, ys, e1, h2, i, j, e2, e3, c, e4, h3⟩ := h
      exact ⟨v, h1, p, ys, e1, h2, i, j, e2, e3, c, e4, hQ _ _ h3⟩

end
end Lf

set_option Elab.async false
set_option linter.all false
set_option maxRecDepth 100000
set_option maxHeartbeats 4000000
set_option exponentiation.threshold 3000
namespace Lf
open PySem PySem.Spec PyProof.Rows L2
section
variable {P : Program} {w : World} {K : PySem.W.Frag} {mg : Str → Option Value} {base : Heap} {c0 c1 cw : Addr}
/-- a list made over a dict's keys -/
theorem lc_keysD {a : Addr} {od : Obj} {kvs : List (Key × V)} {g : TG} {tt : TT} {te : TE} {vs : List Nat} {σ : L2.St} {H1 : Hp} {D : Addr} {Qd : Hp → Prop} (Pv : Nat → Hp → Prop) (h0 : Pv 0 (L2.upd H1 D (.lst []))) (hl : ∀ i H, Pv i H → H a = some (.frz od (.dK kvs)))
    (hs : ∀ i k v H, kvs[i]? = some (k, v) → Pv i H → g (kV k) (wipe σ vs) H fun σ2 H2 => wipe σ2 vs = wipe σ vs ∧ tt σ2 H2 fun b H3 =>
      if b = true then te σ2 H3 fun y H4 => ∃ acc, H4 D = some (.lst acc) ∧ acc.length < sizeLine ∧ Pv (i + 1) (L2.upd H4 D (.lst (acc ++ [y]))) else Pv (i + 1) H3) (hd : ∀ H, Pv kvs.length H → Qd H) :
    ∃ W : Nat → Nat → Hp → Prop, (∃ m, W 0 m (L2.upd H1 D (.lst []))) ∧ ∀ i m H, W i m H →
      ((Itk a od kvs).stop i H ∧ Qd H) ∨ ((Itk a od kvs).go i H ∧ ∃ Nx : Hp → Prop, (∀ H', Nx H' → ∃ m', m' < m ∧ W (i + 1) m' H') ∧ ∀ x H', (Itk a od kvs).yld i H x H' → g x (wipe σ vs) H' fun σ2 H2 => wipe σ2 vs = wipe σ vs ∧ tt σ2 H2 fun b H3 =>
        if b = true then te σ2 H3 fun y H4 => ∃ acc, H4 D = some (.lst acc) ∧ acc.length < sizeLine ∧ Nx (L2.upd H4 D (.lst (acc ++ [y]))) else Nx H3) := by
  refine ⟨fun i m H => Pv i H ∧ i + m = kvs.length, ⟨kvs.length, h0, Nat.zero_add _⟩, fun i m H h => ?_⟩
  obtain ⟨p, e⟩ := h
  have q := hl i H p
  cases m with
  | zero =>
    refine .inl ⟨⟨q, by omega⟩, hd H ?_⟩
    rw [← e]
    exact p
  | succ m =>
    refine .inr ⟨⟨q, by omega⟩, Pv (i + 1), fun H' p' => ⟨m, Nat.lt_succ_self m, p', by omega⟩, fun x H' y => ?_⟩
    obtain ⟨rfl, k, v, ek, rfl⟩ := y
    exact hs i k v _ ek p
theorem InE.names {H : Hp} : ∀ {kvs : List (Key × V)} {g : List (Str × List Str)}, Paired (InE K H) kvs g → (kvs.map fun kv => kV kv.1) = (g.map (·.1)).map V.str
  | _, _, .nil => rfl
  | _, _, .cons r t => by
    rw [List.map_cons, List.map_cons, List.map_cons, InE.names t, r.1]
    rfl

/-! ### refuse_rings -/
theorem sc_refuse_rings : FnScope ["inner", "made", "unmade", "walked", "name", "thing"] ["inner"] (defScope s_refuse_rings) := ⟨rfl, rfl, rfl, by decide +kernel, rfl, by decide +kernel, by decide +kernel⟩
def sp_rri (K : PySem.W.Frag) : Sp := fun vs H Q _ => ∃ (I : Addr) (g : List (Str × List Str)), vs = [.ref I] ∧ InAt K H I g ∧ GOk g ∧ (∃ rk : Str → Nat, ∀ n ∈ g.map (·.1), ∀ t ∈ gF g n, rk t < rk n) ∧ ∀ H', Same H H' → Q .non H'
set_option maxHeartbeats 8000000 in
theorem ok_rri {f : Addr} {fd : FuncData} (M : Blt mg) (ml : mg "list" = none) (F : Fun K "refuse_rings" "refuse_rings" s_refuse_rings f fd) (C_making_order : Cal P w K mg base CX0 2 "making_order" ["names", "inner"] (sp_mko K)) : FnG P w K mg base CX0 3 f fd ["inner"] (sp_rri K) := by
  refine Gfun F sc_refuse_rings (fun vs H Q E h => ?_) (fun cdv A outer s H vs Q E hg hr h => ?_)
  · obtain ⟨I, g, rfl, _⟩ := h
    rfl
  · obtain ⟨I, g, rfl, hI, G, ⟨rk, hrk⟩, k⟩ := h
    refine ⟨_, (pss_cons (ps_set (i := 1) sc_refuse_rings.nd rfl (.inr rfl) (pe_g C_making_order (hr.mono (by decide)) hg (pa_cons (pe_callTy (call_listD rfl) rfl ml bt_list (pa_cons (pv 0) pa_nil)) (pa_cons (pv 0) pa_nil))))
      (pss_cons (ps_set (i := 2) sc_refuse_rings.nd rfl (.inr rfl) (pe_lock (pe_lc (own := [("name", 4)]) (g := gName 4) rfl sc_refuse_rings.nd (pi_keys (pv 0)) (blkOk_by (N := ["inner", "made", "unmade", "walked", "name", "thing"]) (sc := defScope s_refuse_rings) (by decide +kernel)) (fun _ _ _ _ _ => pg_name (i := 4) sc_refuse_rings.nd rfl (Or.inl rfl)) (fun _ _ _ _ _ => (pts_one (pt_cmpR (op_notInK (K := K) (by exact u65 hr)) (pv 4) (pv 1) rfl))) (fun _ _ _ _ _ => (pv 4)))))
      (pss_cons (ps_if (pt_cmpR op_eq (pe_callB call_len_seq rfl M.len bt_len (pa_cons (pv 2) pa_nil)) pe_int (nomark _))
      (pss_one ps_retN)
      pss_nil) pss_never))), ?_⟩
    obtain ⟨kvs, eI, pI⟩ := id hI
    have gl := G.sz
    have lk := plen pI
    refine ⟨_, rfl, I, kvs, rfl, .inl eI, fun l1 n1 => ?_⟩
    rw [InE.names pI]
    have s1 : Same H (L2.upd H l1 (.lst ((g.map (·.1)).map V.str))) := same_new n1
    have e1 : L2.upd H l1 (.lst ((g.map (·.1)).map V.str)) l1 = some (.lst ((g.map (·.1)).map V.str)) := upd_same
    generalize L2.upd H l1 (.lst ((g.map (·.1)).map V.str)) = H1 at s1 e1 ⊢
    refine ⟨_, rfl, l1, I, g.map (·.1), g, rfl, .inl (.inl e1), hI.same s1, G, fun n h => h, by rw [List.length_map]; omega, fun H2 l ws s2 nl nd mem srt el => ?_⟩
    have pm := makeL_perm (f := gF g) (rk := rk) nd (fun n hn t ht => (mem t).mpr (G.cl n ((mem n).mp hn) t ht)) fun n hn t ht => hrk n ((mem n).mp hn) t ht
    have eI2 := s2 _ _ (s1 _ _ eI)
    refine ⟨I, .dK kvs, eI2, trivial, fun od => ?_⟩
    have bL : But I H2 (L2.upd H2 I (.frz od (.dK kvs))) := fun b o nb e => by rw [upd_ne nb]; exact e
    have eL : L2.upd H2 I (.frz od (.dK kvs)) I = some (.frz od (.dK kvs)) := upd_same
    generalize L2.upd H2 I (.frz od (.dK kvs)) = H3 at bL eL ⊢
    have nIl : l ≠ I := fun z => by rw [z, eI2] at el; cases el
    have el3 := bL _ _ nIl el
    refine ⟨_, rfl, I, od, rfl, .inl ⟨kvs, eL, fun D hD => ?_⟩⟩
    have nDI : D ≠ I := fun z => by rw [z, eL] at hD; cases hD
    refine lc_keysD (fun i H' => Same H3 H' ∧ H' D = some (.lst [])) ⟨same_new hD, upd_same⟩ (fun i H' h => h.1 _ _ eL) ?_ ?_
    · rintro i k' v H4 hk ⟨s4, eD⟩
      obtain ⟨e, he, hE⟩ := pget pI hk
      obtain ⟨e1', _⟩ := hE
      have e1' : k' = Sum.inr e.1 := e1'
      subst e1'
      have me : e.1 ∈ g.map (·.1) := List.mem_map_of_mem (List.mem_of_getElem? he)
      have inm : e.1 ∈ makeL (gF g) ws := pm.mem_iff.mpr ((mem _).mpr me)
      refine ⟨rfl, _, rfl, _, rfl, notin_tx (.inl (.inl (s4 _ _ el3))) (fun x hx => G.al x ((mem x).mp (pm.mem_iff.mp hx))) (G.al _ me) ⟨_, rfl, ?_⟩⟩
      rw [decide_eq_true inm]
      exact ⟨s4, eD⟩
    · rintro H4 ⟨s4, eD⟩
      refine ⟨s4 _ _ eL, ?_⟩
      have eD5 : L2.upd H4 I (.dK kvs) D = some (.lst []) := by rw [upd_ne nDI]; exact eD
      have s5 : Same H2 (L2.upd H4 I (.dK kvs)) := fun b o e => by
        by_cases q : b = I
        · subst q
          rw [upd_same, ← e]
          exact eI2.symm
        · rw [upd_ne q]
          exact s4 _ _ (bL _ _ q e)
      generalize L2.upd H4 I (.dK kvs) = H5 at eD5 s5 ⊢
      refine ⟨_, rfl, D, _, rfl, .inl (.inl (.inl eD5)), rfl, _, rfl, iteT ?_⟩
      exact k H5 ((s1.trans s2).trans s5)

end
end Lf

set_option Elab.async false
set_option linter.all false
set_option maxRecDepth 100000
set_option maxHeartbeats 4000000
set_option exponentiation.threshold 3000
namespace Lf
open PySem PySem.Spec PyProof.Rows L2
section
variable {P : Program} {w : World} {K : PySem.W.Frag} {mg : Str → Option Value} {base : Heap} {c0 c1 cw : Addr}
def EnD (K : PySem.W.Frag) (H : Hp) (C : Addr) (kv : Key × V) (d : Dm) : Prop := kv.1 = Sum.inr d.z ∧ DmAt K H C kv.2 d
def EnS (K : PySem.W.Frag) (H : Hp) (C : Addr) (kv : Key × V) (d : Sf) : Prop := kv.1 = Sum.inr d.z ∧ SfAt K H C kv.2 d
/-- a book -/
def BkO (K : PySem.W.Frag) (H : Hp) (C CS CD x : Addr) (ss : List Sf) (ds : List Dm) : Prop := ∃ (dx ps pd I : Addr) (kss kds : List (Key × V)), H x = some (.ins C dx [("own_stuffs", .ref ps), ("own_doughs", .ref pd), ("inner", .ref I)]) ∧ H ps = some (.dK kss) ∧ Paired (EnS K H CS) kss ss ∧ H pd = some (.dK kds) ∧ Paired (EnD K H CD) kds ds ∧ InAt K H I (innG ds)
theorem EnD.same {H H' : Hp} (s : Same H H') {C : Addr} {kv : Key × V} {d : Dm} (h : EnD K H C kv d) : EnD K H' C kv d := ⟨h.1, h.2.same s⟩
theorem EnS.same {H H' : Hp} (s : Same H H') {C : Addr} {kv : Key × V} {d : Sf} (h : EnS K H C kv d) : EnS K H' C kv d := ⟨h.1, h.2.same s⟩
theorem BkO.same {H H' : Hp} (s : Same H H') {C CS CD x : Addr} {ss : List Sf} {ds : List Dm} (h : BkO K H C CS CD x ss ds) : BkO K H' C CS CD x ss ds := by
  obtain ⟨dx, ps, pd, I, kss, kds, h1, h2, h3, h4, h5, h6⟩ := h
  exact ⟨dx, ps, pd, I, kss, kds, s _ _ h1, s _ _ h2, L2.Paired.mapP h3 fun _ _ => EnS.same s, s _ _ h4, L2.Paired.mapP h5 fun _ _ => EnD.same s, h6.same s⟩
structure BkF (K : PySem.W.Frag) (C : Addr) : Prop where
  c : Cls K C
  n1 : NoAttr K C "own_stuffs"
  n2 : NoAttr K C "own_doughs"
  n3 : NoAttr K C "inner"
theorem SqL.butI {H H' : Hp} {D l : Addr} {C dx : Addr} {fs : List (Str × V)} {xs : List V} (e : H D = some (.ins C dx fs)) (b : But D H H') (h : SqL K H l xs) : SqL K H' l xs := by
  rcases h with (h | ⟨o, h⟩) | h
  · exact .inl (.inl (b _ _ (fun z => by rw [z, e] at h; cases h) h))
  · exact .inl (.inr ⟨o, b _ _ (fun z => by rw [z, e] at h; cases h) h⟩)
  · exact .inr h
theorem InAt.butI {H H' : Hp} {D : Addr} {C dx : Addr} {fs : List (Str × V)} {I : Addr} {g : List (Str × List Str)} (e : H D = some (.ins C dx fs)) (b : But D H H') (h : InAt K H I g) : InAt K H' I g := by
  obtain ⟨kvs, h1, h2⟩ := h
  exact ⟨kvs, b _ _ (fun z => by rw [z, e] at h1; cases h1) h1, L2.Paired.mapP h2 fun _ _ h => let ⟨e1, l, e2, h⟩ := h; ⟨e1, l, e2, SqL.butI e b h⟩⟩
theorem EnD.val {H : Hp} {C : Addr} : ∀ {kvs : List (Key × V)} {ds : List Dm}, Paired (EnD K H C) kvs ds → (ds.map (·.z)).Nodup → ∀ d ∈ ds, ∃ v, valV kvs (Sum.inr d.z) = some v ∧ DmAt K H C v d
  | _, _, .nil, _, d, hd => nomatch hd
  | _, _, @Paired.cons _ _ _ kv e kvs ds r t, nd, d, hd => by
    rw [List.map_cons, List.nodup_cons] at nd
    rcases List.mem_cons.mp hd with z | z
    · subst z
      exact ⟨kv.2, valV_pos r.1, r.2⟩
    · have ne : ¬ e.z = d.z := fun q => nd.1 (q ▸ List.mem_map_of_mem z)
      obtain ⟨v, h1, h2⟩ := EnD.val t nd.2 d z
      exact ⟨v, by rw [valV_neg (by rw [r.1]; exact fun q => ne (Sum.inr.inj q))]; exact h1, h2⟩
theorem EnD.none {H : Hp} {C : Addr} {n : Str} : ∀ {kvs : List (Key × V)} {ds : List Dm}, Paired (EnD K H C) kvs ds → n ∉ ds.map (·.z) → valV kvs (Sum.inr n) = none
  | _, _, .nil, _ => rfl
  | _, _, .cons r t, h => by
    rw [List.map_cons, List.mem_cons, not_or] at h
    rw [valV_neg (by rw [r.1]; exact fun z => h.1 (Sum.inr.inj z).symm)]
    exact EnD.none t h.2
theorem EnS.none {H : Hp} {C : Addr} {n : Str} : ∀ {kvs : List (Key × V)} {ds : List Sf}, Paired (EnS K H C) kvs ds → n ∉ ds.map (·.z) → valV kvs (Sum.inr n) = none
  | _, _, .nil, _ => rfl
  | _, _, .cons r t, h => by
    rw [List.map_cons, List.mem_cons, not_or] at h
    rw [valV_neg (by rw [r.1]; exact fun z => h.1 (Sum.inr.inj z).symm)]
    exact EnS.none t h.2
theorem notin_take {α : Type} {f : α → Str} {ds : List α} (nd : (ds.map f).Nodup) {i : Nat} {d : α} (hd : ds[i]? = some d) : f d ∉ (ds.take i).map f := by
  intro hm
  rw [List.map_take] at hm
  obtain ⟨j, hj⟩ := List.getElem?_of_mem hm
  rw [List.getElem?_take] at hj
  split at hj
  · rename_i q2
    obtain ⟨h1, f1⟩ := List.getElem?_eq_some_iff.mp hj
    obtain ⟨h2, f2⟩ := List.getElem?_eq_some_iff.mp hd
    refine List.pairwise_iff_getElem.mp nd j i h1 (by rw [List.length_map]; exact h2) q2 ?_
    rw [f1, List.getElem_map, f2]
  · cases hj
def ThAt (K : PySem.W.Frag) (H : Hp) (CS CD : Addr) (v : V) (z : Str) : Prop := (∃ e : Sf, SfAt K H CS v e ∧ z = e.z) ∨ ∃ e : Dm, DmAt K H CD v e ∧ z = e.z
theorem th_s {H : Hp} {CS CD : Addr} : ∀ {xs : List V} {ss : List Sf}, Paired (SfAt K H CS) xs ss → Paired (ThAt K H CS CD) xs (ss.map (·.z))
  | _, _, .nil => .nil
  | _, _, .cons r t => .cons (.inl ⟨_, r, rfl⟩) (th_s t)
theorem th_d {H : Hp} {CS CD : Addr} : ∀ {xs : List V} {ss : List Dm}, Paired (DmAt K H CD) xs ss → Paired (ThAt K H CS CD) xs (ss.map (·.z))
  | _, _, .nil => .nil
  | _, _, .cons r t => .cons (.inr ⟨_, r, rfl⟩) (th_d t)
theorem gF_cases (g : List (Str × List Str)) (n : Str) : gF g n = [] ∨ ∃ e ∈ g, gF g n = e.2 := by
  unfold gF
  cases h : g.find? fun e => decide (e.1 = n) with
  | none => exact .inl rfl
  | some e => exact .inr ⟨e, List.mem_of_find?_eq_some h, rfl⟩
/-- a book's names are names -/
structure BkN (ss : List Sf) (ds : List Dm) : Prop where
  s : ∀ e ∈ ss, AllL e.z
  d : ∀ e ∈ ds, AllL e.z
theorem BkN.all {ss : List Sf} {ds : List Dm} (N : BkN ss ds) : ∀ t ∈ ss.map (·.z) ++ ds.map (·.z), AllL t := fun t ht => by
  rcases List.mem_append.mp ht with ht | ht
  · obtain ⟨e, he, rfl⟩ := List.mem_map.mp ht
    exact N.s e he
  · obtain ⟨e, he, rfl⟩ := List.mem_map.mp ht
    exact N.d e he
theorem inn_ok {ss : List Sf} {ds : List Dm} (B : BkOk ss ds) (N : BkN ss ds) : GOk (innG ds) := by
  have em : (innG ds).map (·.1) = ds.map (·.z) := by
    unfold innG
    rw [List.map_map]
    rfl
  refine ⟨fun n hn => ?_, fun n => ?_, fun n hn t ht => ?_, ?_, ?_⟩
  · rw [em] at hn
    exact N.all n (List.mem_append.mpr (.inr hn))
  · rcases gF_cases (innG ds) n with h | ⟨e, he, h⟩
    · rw [h]
      exact Nat.zero_le _
    · rw [h]
      obtain ⟨d, hd, rfl⟩ := List.mem_map.mp he
      have h1 := List.length_filter_le (fun t => decide (t ∈ ds.map (·.z))) (d.rs.map (·.1))
      rw [List.length_map] at h1
      exact Nat.le_trans h1 (B.r8 d hd).2
  · rcases gF_cases (innG ds) n with h | ⟨e, he, h⟩
    · rw [h] at ht
      exact nomatch ht
    · rw [h] at ht
      obtain ⟨d, hd, rfl⟩ := List.mem_map.mp he
      rw [em]
      exact (innL_mem.mp ht).2
  · unfold innG
    rw [List.length_map]
    have := B.fd
    omega
  · rw [em]
    exact B.ndd

/-! ### is_one_of -/
theorem sc_is_one_of : FnScope ["thing", "names"] ["thing", "names"] (defScope s_is_one_of) := ⟨rfl, rfl, rfl, by decide +kernel, rfl, by decide +kernel, by decide +kernel⟩
def sp_ioD : Sp := fun vs H Q _ => ∃ (z : Str) (a : Addr) (kvs : List (Key × V)), vs = [.str z, .ref a] ∧ H a = some (.dK kvs) ∧ Q (.bl (valV kvs (Sum.inr z)).isSome) H
theorem ok_ioD {f : Addr} {fd : FuncData} (M : Blt mg) (Mx : Bltx mg) (F : Fun K "is_one_of" "is_one_of" s_is_one_of f fd) : FnG P w K mg base CX0 1 f fd ["thing", "names"] sp_ioD := by
  refine Gfun F sc_is_one_of (fun vs H Q E h => ?_) (fun cdv A outer s H vs Q E hg hr h => ?_)
  · obtain ⟨z, a, kvs, rfl, _⟩ := h
    rfl
  · obtain ⟨z, a, kvs, rfl, ha, k⟩ := h
    refine ⟨_, (pss_one (ps_ret (pe_and (pe_callB call_isi rfl Mx.isinstance bt_isinstance (pa_cons (pv 0) (pa_cons (pe_bltn (v := .ty "str") rfl M.str bt_str rfl) pa_nil))) (pe_one (pe_cmp (pc_din (by exact u1 hr) (pv 0) (pv 1))))))), ?_⟩
    have hq : Dq K H (.str z) (.str z) := .dp (.str z) (by rfl)
    refine ⟨_, rfl, _, _, _, _, _, rfl, .ty "str", hq.ty, kit_ty (ks _), _, rfl, iteT ?_⟩
    exact ⟨_, rfl, _, rfl, a, _, rfl, DGet.k (k := Sum.inr z) ha, k⟩

/-! ### Book.__init__ -/
theorem sc_binit : FnScope ["self", "stuffs", "doughs", "names", "inner", "thing", "stuff", "dough"] ["self", "stuffs", "doughs"] (defScope s_binit) := ⟨rfl, rfl, rfl, by decide +kernel, rfl, by decide +kernel, by decide +kernel⟩
def sp_binit (K : PySem.W.Frag) (C CS CD : Addr) : Sp := fun vs H Q _ => ∃ (x dx : Addr) (H0 : Hp) (a b : Addr) (xs ys : List V) (ss : List Sf) (ds : List Dm), vs = [.ref x, .ref a, .ref b] ∧ H0 x = none ∧ H0 dx = none ∧ dx ≠ x ∧ H = L2.upd (L2.upd H0 dx (.own x)) x (.ins C dx []) ∧
  SqL K H0 a xs ∧ Paired (SfAt K H0 CS) xs ss ∧ SqL K H0 b ys ∧ Paired (DmAt K H0 CD) ys ds ∧ BkOk ss ds ∧ BkN ss ds ∧ ∀ H', Same H0 H' → BkO K H' C CS CD x ss ds → Q .non H'
set_option maxHeartbeats 16000000 in
theorem ok_binit {C CS CD f fn fr fns : Addr} {fd fdn fdr fdns : FuncData} {dvs : List V} {kws : List (Str × V)} (X : BkF K C) (F : FunD K "__init__" "Book.__init__" (defArgs s_binit) (defBody s_binit) (defScope s_binit) dvs kws f fd)
    (Mns : MetG P w K mg base CX0 1 CS "name" fns fdns ["self"] (sp_sname K CS)) (Mn : MetG P w K mg base CX0 1 CD "name" fn fdn ["self"] (sp_dname K CD))
    (C_refuse_twice : Cal P w K mg base CX0 1 "refuse_twice" ["names"] (sp_rtw K)) (C_refuse_unknown : Cal P w K mg base CX0 2 "refuse_unknown" ["doughs", "names"] (sp_run K CD)) (C_inner_doughs : Cal P w K mg base CX0 2 "inner_doughs" ["doughs"] (sp_inn K CD)) (C_refuse_rings : Cal P w K mg base CX0 3 "refuse_rings" ["inner"] (sp_rri K)) :
    FnG P w K mg base CX0 4 f fd ["self", "stuffs", "doughs"] (sp_binit K C CS CD) := by
  refine GfunDX F sc_binit (fun vs H Q E h => ?_) (fun cdv A outer s H vs Q E hg hr h => ?_)
  · obtain ⟨x, dx, H0, a, b, xs, ys, ss, ds, rfl, _⟩ := h
    rfl
  · obtain ⟨x, dx, H0, a, b, xs, ys, ss, ds, rfl, nx, nd, hdx, rfl, ha, hS, hb, hD, B, N, k⟩ := h
    refine ⟨_, (pss_cons (ps_setLc (i := 3) (own := [("thing", 5)]) (g := gName 5) (tt := tYes) rfl sc_binit.nd rfl rfl (sw_true rfl rfl rfl (by decide +kernel)) (pi_list (pe_lst (StX.pa_star (pv 1) (StX.pa_star (pv 2) pa_nil)))) (blkOk_by (N := ["self", "stuffs", "doughs", "names", "inner", "thing", "stuff", "dough"]) (sc := defScope s_binit) (by decide +kernel)) (fun _ _ _ _ _ => pg_name (i := 5) sc_binit.nd rfl (Or.inl rfl)) (fun _ _ _ _ _ => pts_nil) (fun _ _ _ _ _ => (PE.or (pe_meG0 (pv 5) Mns (hr.mono (by decide)) hg (fun _ => pass_no)) (pe_meG0 (pv 5) Mn (hr.mono (by decide)) hg (fun _ => pass_no)))))
      (pss_cons (ps_expr (pe_g C_refuse_twice (hr.mono (by decide)) hg (pa_cons (pv 3) pa_nil)))
      (pss_cons (ps_expr (pe_g C_refuse_unknown (hr.mono (by decide)) hg (pa_cons (pv 2) (pa_cons (pv 3) pa_nil))))
      (pss_cons (ps_set (i := 4) sc_binit.nd rfl (.inl rfl) (pe_g C_inner_doughs (hr.mono (by decide)) hg (pa_cons (pv 2) pa_nil)))
      (pss_cons (ps_expr (pe_g C_refuse_rings (hr.mono (by decide)) hg (pa_cons (pv 4) pa_nil)))
      (pss_cons (ps_fld (pv 0) (pe_dc (own := [("stuff", 6)]) (g := gName 6) (tt := tYes) rfl sc_binit.nd (pi_list (pv 1)) (blkOk_by (N := ["self", "stuffs", "doughs", "names", "inner", "thing", "stuff", "dough"]) (sc := defScope s_binit) (by decide +kernel)) (fun _ _ _ _ _ => pg_name (i := 6) sc_binit.nd rfl (Or.inl rfl)) (fun _ _ _ _ _ => pts_nil) (fun _ _ _ _ _ => (pe_meG0 (pv 6) Mns (hr.mono (by decide)) hg (fun _ => pass_no))) (fun _ _ _ _ _ => (pv 6))) rfl)
      (pss_cons (ps_fld (pv 0) (pe_dc (own := [("dough", 7)]) (g := gName 7) (tt := tYes) rfl sc_binit.nd (pi_list (pv 2)) (blkOk_by (N := ["self", "stuffs", "doughs", "names", "inner", "thing", "stuff", "dough"]) (sc := defScope s_binit) (by decide +kernel)) (fun _ _ _ _ _ => pg_name (i := 7) sc_binit.nd rfl (Or.inl rfl)) (fun _ _ _ _ _ => pts_nil) (fun _ _ _ _ _ => (pe_meG0 (pv 7) Mn (hr.mono (by decide)) hg (fun _ => pass_no))) (fun _ _ _ _ _ => (pv 7))) rfl)
      (pss_one (ps_fld (pv 0) (pv 4) rfl))))))))), ?_⟩
    have s01 : Same H0 (L2.upd (L2.upd H0 dx (.own x)) x (.ins C dx [])) := fun b o e => by
      rw [upd_ne (ne_of_none e nx), upd_ne (ne_of_none e nd)]
      exact e
    have hx1 : L2.upd (L2.upd H0 dx (.own x)) x (.ins C dx []) x = some (.ins C dx []) := upd_same
    generalize L2.upd (L2.upd H0 dx (.own x)) x (.ins C dx []) = H1 at s01 hx1 ⊢
    have ls := plen hS
    have ld := plen hD
    have fs := B.fs
    have fd := B.fd
    have hT := papp (th_s hS) (th_d hD)
    obtain ⟨ns, ens⟩ : ∃ ns, ns = ss.map (·.z) ++ ds.map (·.z) := ⟨_, rfl⟩
    rw [← ens] at hT
    have ln : ns.length ≤ 23 := by
      rw [ens, List.length_append, List.length_map, List.length_map]
      omega
    have nal : ∀ t ∈ ns, AllL t := by rw [ens]; exact N.all
    have nnd : ns.Nodup := by rw [ens]; exact B.nd
    refine ⟨_, rfl, a, xs, rfl, .inr (sm_l s01 ha), _, rfl, b, ys, rfl, .inr (sm_l s01 hb), ?_, fun l1 n1 => ?_⟩
    · rw [List.append_nil, List.length_append, sizeLine_eq]
      omega
    rw [List.append_nil]
    have s12 : Same H1 (L2.upd H1 l1 (.lst (xs ++ ys))) := same_new n1
    have e2 : L2.upd H1 l1 (.lst (xs ++ ys)) l1 = some (.lst (xs ++ ys)) := upd_same
    generalize L2.upd H1 l1 (.lst (xs ++ ys)) = H2 at s12 e2 ⊢
    have s02 := s01.trans s12
    refine ⟨l1, rfl, ⟨_, .inl (.inl e2)⟩, fun D hDn => ?_⟩
    have lt := plen hT
    refine lc_list (xs := xs ++ ys) (fun i H' => Same H2 H' ∧ H' D = some (.lst ((ns.take i).map V.str))) ⟨same_new hDn, upd_same⟩ (fun i H' _ h => .inl (.inl (h.1 _ _ e2))) ?_ ?_
    · rintro i v H' hv ⟨sH, eD⟩
      obtain ⟨z, hz, hth⟩ := pget hT hv
      have hi : i < (xs ++ ys).length := (List.getElem?_eq_some_iff.mp hv).1
      have fin : ∃ acc, H' D = some (.lst acc) ∧ acc.length < sizeLine ∧ (Same H2 (L2.upd H' D (.lst (acc ++ [.str z]))) ∧ L2.upd H' D (.lst (acc ++ [.str z])) D = some (.lst ((ns.take (i + 1)).map V.str))) := by
        refine ⟨_, eD, ?_, fun b o e => ?_, ?_⟩
        · rw [List.length_map, List.length_take, sizeLine_eq]
          omega
        · rw [upd_ne (ne_of_none e hDn)]
          exact sH _ _ e
        · rw [upd_same, List.take_succ, hz, List.map_append]
          rfl
      rcases hth with ⟨e, ⟨q, rfl, st⟩, rfl⟩ | ⟨e, ⟨q, rfl, dg⟩, rfl⟩
      · have st' := st.same (s02.trans sH)
        obtain ⟨dx', pm, xs', i1, _, _⟩ := id st'
        exact ⟨rfl, Or.inl ⟨_, rfl, q, _, _, rfl, i1, rfl, q, e.z, e.ms, rfl, st', fin⟩⟩
      · have dg' := dg.same (s02.trans sH)
        obtain ⟨dx', pr, xs', i1, _, _⟩ := id dg'
        exact ⟨rfl, Or.inr ⟨_, rfl, q, _, _, rfl, i1, rfl, q, e.z, e.rs, e.n, rfl, dg', fin⟩⟩
    rintro H3 ⟨s23, eD⟩
    rw [List.take_of_length_le (by omega)] at eD
    have s03 := s02.trans s23
    refine ⟨_, rfl, D, ns, rfl, .inl (.inl eD), nnd, by omega, fun H4 s34 => ?_⟩
    have s04 := s03.trans s34
    refine ⟨_, rfl, _, rfl, b, D, ys, ds, ns, rfl, sm_l s04 hb, DgsAt.same s04 hD, .inl (.inl (s34 _ _ eD)), nal, fun d hd r hr => ?_, fun H5 s45 => ?_⟩
    · rw [ens]
      exact List.mem_append.mpr (B.kn d hd r hr)
    have s05 := s04.trans s45
    refine ⟨_, rfl, b, ys, ds, rfl, sm_l s05 hb, DgsAt.same s05 hD, fun d hd => ⟨N.d d hd, (B.r8 d hd).2, fun r hr => N.all _ (List.mem_append.mpr (B.kn d hd r hr))⟩, B.ndd, by omega, fun H6 I s56 nI hI => ?_⟩
    obtain ⟨rk, R⟩ := B.rk
    have em : (innG ds).map (·.1) = ds.map (·.z) := by
      unfold innG
      rw [List.map_map]
      rfl
    refine ⟨_, rfl, I, innG ds, rfl, hI, inn_ok B N, ⟨rk, fun n hn t ht => (R.inn B.ndd (by rw [← em]; exact hn) ht).1⟩, fun H7 s67 => ?_⟩
    have s07 := (s05.trans s56).trans s67
    have hI7 := hI.same s67
    have ex7 : H7 x = some (.ins C dx []) := ((((s12.trans s23).trans s34).trans s45).trans s56).trans s67 _ _ hx1
    clear hI s67 s56 s45 s34 s23 s12 eD e2 hT
    -- the stuffs
    refine ⟨_, rfl, a, rfl, ⟨_, sm_l s07 ha⟩, fun D1 hD1 => ?_⟩
    refine dc_list (xs := xs) (fun i H' => Same H7 H' ∧ ∃ kvs, H' D1 = some (.dK kvs) ∧ Paired (EnS K H0 CS) kvs (ss.take i)) ⟨same_new hD1, [], upd_same, .nil⟩ (fun i H' h => sm_l (s07.trans h.1) ha) ?_ ?_
    · rintro i v H' hv ⟨sH, kvs, eD, hE⟩
      obtain ⟨e, he, ⟨q, rfl, st⟩⟩ := pget hS hv
      have hi : i < xs.length := (List.getElem?_eq_some_iff.mp hv).1
      have st' := st.same (s07.trans sH)
      obtain ⟨dx', pm, xs', i1, _, _⟩ := id st'
      have hl := plen hE
      rw [List.length_take] at hl
      refine ⟨rfl, _, rfl, q, _, _, rfl, i1, rfl, q, e.z, e.ms, rfl, st', _, rfl, kvs, Sum.inr e.z, rfl, eD, by rw [sizeLine_eq]; omega, fun b o eb => ?_, _, upd_same, ?_⟩
      · rw [upd_ne (ne_of_none eb hD1)]
        exact sH _ _ eb
      · rw [putK_new _ (EnS.none hE (notin_take B.nds he)), List.take_succ, he]
        exact papp hE (.cons ⟨rfl, q, rfl, st⟩ .nil)
    rintro H8 ⟨s78, kss, eS, hkS⟩
    rw [List.take_of_length_le (by omega)] at hkS
    have ex8 := s78 _ _ ex7
    have nS : D1 ≠ x := fun z => by rw [z, ex8] at eS; cases eS
    refine ⟨_, rfl, x, C, dx, _, rfl, ex8, X.c, X.n1, by decide, ?_⟩
    have b9 : But x H8 (L2.upd H8 x (.ins C dx (putF "own_stuffs" (.ref D1) []))) := fun b o nb e => by rw [upd_ne nb]; exact e
    have ex9 : L2.upd H8 x (.ins C dx (putF "own_stuffs" (.ref D1) [])) x = some (.ins C dx [("own_stuffs", .ref D1)]) := upd_same
    generalize L2.upd H8 x (.ins C dx (putF "own_stuffs" (.ref D1) [])) = H9 at b9 ex9 ⊢
    have s09 : Same H0 H9 := fun b o e => b9 _ _ (ne_of_none e nx) (s78 _ _ (s07 _ _ e))
    have hI9 := (hI7.same s78).butI ex8 b9
    have eS9 := b9 _ _ nS eS
    -- the doughs
    refine ⟨_, rfl, b, rfl, ⟨_, sm_l s09 hb⟩, fun D2 hD2 => ?_⟩
    refine dc_list (xs := ys) (fun i H' => Same H9 H' ∧ ∃ kvs, H' D2 = some (.dK kvs) ∧ Paired (EnD K H0 CD) kvs (ds.take i)) ⟨same_new hD2, [], upd_same, .nil⟩ (fun i H' h => sm_l (s09.trans h.1) hb) ?_ ?_
    · rintro i v H' hv ⟨sH, kvs, eD, hE⟩
      obtain ⟨e, he, ⟨q, rfl, st⟩⟩ := pget hD hv
      have hi : i < ys.length := (List.getElem?_eq_some_iff.mp hv).1
      have st' := st.same (s09.trans sH)
      obtain ⟨dx', pm, xs', i1, _, _⟩ := id st'
      have hl := plen hE
      rw [List.length_take] at hl
      refine ⟨rfl, _, rfl, q, _, _, rfl, i1, rfl, q, e.z, e.rs, e.n, rfl, st', _, rfl, kvs, Sum.inr e.z, rfl, eD, by rw [sizeLine_eq]; omega, fun b o eb => ?_, _, upd_same, ?_⟩
      · rw [upd_ne (ne_of_none eb hD2)]
        exact sH _ _ eb
      · rw [putK_new _ (EnD.none hE (notin_take B.ndd he)), List.take_succ, he]
        exact papp hE (.cons ⟨rfl, q, rfl, st⟩ .nil)
    rintro H10 ⟨s910, kds, eDd, hkD⟩
    rw [List.take_of_length_le (by omega)] at hkD
    have ex10 := s910 _ _ ex9
    have nD2 : D2 ≠ x := fun z => by rw [z, ex10] at eDd; cases eDd
    refine ⟨_, rfl, x, C, dx, _, rfl, ex10, X.c, X.n2, by show 1 < 1000; decide, ?_⟩
    have b11 : But x H10 (L2.upd H10 x (.ins C dx (putF "own_doughs" (.ref D2) [("own_stuffs", .ref D1)]))) := fun b o nb e => by rw [upd_ne nb]; exact e
    have ex11 : L2.upd H10 x (.ins C dx (putF "own_doughs" (.ref D2) [("own_stuffs", .ref D1)])) x = some (.ins C dx [("own_stuffs", .ref D1), ("own_doughs", .ref D2)]) := upd_same
    generalize L2.upd H10 x (.ins C dx (putF "own_doughs" (.ref D2) [("own_stuffs", .ref D1)])) = H11 at b11 ex11 ⊢
    have s011 : Same H0 H11 := fun b o e => b11 _ _ (ne_of_none e nx) (s910 _ _ (s09 _ _ e))
    have hI11 := (hI9.same s910).butI ex10 b11
    have eS11 := b11 _ _ nS (s910 _ _ eS9)
    have eD11 := b11 _ _ nD2 eDd
    refine ⟨_, rfl, _, rfl, x, C, dx, _, rfl, ex11, X.c, X.n3, by show 2 < 1000; decide, ?_⟩
    have b12 : But x H11 (L2.upd H11 x (.ins C dx (putF "inner" (.ref I) [("own_stuffs", .ref D1), ("own_doughs", .ref D2)]))) := fun b o nb e => by rw [upd_ne nb]; exact e
    have ex12 : L2.upd H11 x (.ins C dx (putF "inner" (.ref I) [("own_stuffs", .ref D1), ("own_doughs", .ref D2)])) x = some (.ins C dx [("own_stuffs", .ref D1), ("own_doughs", .ref D2), ("inner", .ref I)]) := upd_same
    generalize L2.upd H11 x (.ins C dx (putF "inner" (.ref I) [("own_stuffs", .ref D1), ("own_doughs", .ref D2)])) = H12 at b12 ex12 ⊢
    have s012 : Same H0 H12 := fun b o e => b12 _ _ (ne_of_none e nx) (s011 _ _ e)
    exact k H12 s012 ⟨dx, D1, D2, I, kss, kds, ex12, b12 _ _ nS eS11, L2.Paired.mapP hkS fun _ _ => EnS.same s012, b12 _ _ nD2 eD11, L2.Paired.mapP hkD fun _ _ => EnD.same s012, hI11.butI ex11 b12⟩

end
end Lf

set_option Elab.async false
set_option linter.all false
set_option maxRecDepth 100000
set_option maxHeartbeats 4000000
/-! list(d.values()), sorted(d.items()): dicts by texts. -/
namespace Lf
open PySem PySem.Spec PyProof.Rows L2
/-- the view d.values() at p -/
def valsO (p d : Addr) : HO := .ext fun h => h.IsValuesView p d
/-- a dict by texts -/
def byT (ks : List (Str × V)) : List (Key × V) := ks.map fun e => (Sum.inr e.1, e.2)
section
variable {X : Cx}
def rValsK : V → List V → Hp → VK → Prop := fun x xs H Q => ∃ (a : Addr) (kvs : List (Key × V)), x = .ref a ∧ xs = [] ∧ H a = some (.dK kvs) ∧ ∀ p, H p = none → Q (.ref p) (L2.upd H p (valsO p a))
theorem mt_valsK : MtR X "dict.values" rValsK := by
  rintro pins s σ H x xs v us Q I rx rxs ⟨a, kvs, rfl, rfl, ha, q⟩
  cases rx
  cases rxs
  obtain ⟨_, lo, vs, _, dd⟩ := dk_of I.hok ha
  refine call_meetsIn PySem.F.slot_dict_values dd.typeIs PySem.F.entry_dict_values (PySem.F.args_dict_values_1 _) (meets_dict_values (mixKind X.prog X.w) a lo) ⟨⟨vs, dd⟩, ?_⟩
  have e := Heap.get?_push_size s.heap (o := { cls := .type "dict_values", data := .fields #[.ref a] }) rfl
  have ok : ObjOk X.prog X.w (L2.upd H s.heap.objs.size (valsO s.heap.objs.size a)) (s.heap.push { cls := .type "dict_values", data := .fields #[.ref a] }) s.heap.objs.size (valsO s.heap.objs.size a) :=
    ⟨⟨_, e, rfl, rfl⟩, ⟨_, e⟩, fun h1 h2 x k => let ⟨o, ho, r⟩ := x; ⟨o, k o ho, r⟩⟩
  exact ⟨.ref s.heap.objs.size, _, I.laid (t' := s.toks) (fun b u z => Heap.get?_push_of_some _ z) (Nat.le_refl _) ok, rfl, q _ (I.hok.fresh (Nat.le_refl _))⟩
def rItemsK : V → List V → Hp → VK → Prop := fun x xs H Q => ∃ (a : Addr) (kvs : List (Key × V)), x = .ref a ∧ xs = [] ∧ H a = some (.dK kvs) ∧ ∀ p, H p = none → Q (.ref p) (L2.upd H p (DX.itemsO p a))
theorem mt_itemsK : MtR X "dict.items" rItemsK := by
  rintro pins s σ H x xs v us Q I rx rxs ⟨a, kvs, rfl, rfl, ha, q⟩
  cases rx
  cases rxs
  obtain ⟨_, lo, vs, _, o, es, ep, ho, hx, hd, _⟩ := dk_of I.hok ha
  apply DT.callItems (es := es) (ep := ep) lo ⟨o, ho, hx, hd⟩
  have e := Heap.get?_push_size s.heap (o := { cls := .type "dict_items", data := .fields #[.ref a] }) rfl
  exact ⟨.ref s.heap.objs.size, _, I.laid (t' := s.toks) (fun b u z => Heap.get?_push_of_some _ z) (Nat.le_refl _) (DX.itemsO_ok e), rfl, q _ (I.hok.fresh (Nat.le_refl _))⟩
/-- the values of a row of pairs stand in the list -/
theorem vals_row {P : Program} {w : World} : ∀ {kvs : List (Key × V)} {vs : List (Key × Value)}, KV kvs vs → ∀ {us : List Value}, us.length = vs.length → (∀ (j : Nat) (v : Value), us[j]? = some v → ∃ k, vs[j]? = some (k, v)) → Vals (kvs.map (·.2)) us
  | _, _, .nil, [], _, _ => .nil
  | _, _, .nil, _ :: _, h, _ => by simp at h
  | _, _, .cons _ _, [], h, _ => by simp at h
  | _, _, .cons (a := a) (b := b) r rs, u :: us, h, g => by
    obtain ⟨k, e⟩ := g 0 u rfl
    have e2 : b = (k, u) := by simpa using e
    refine .cons ?_ (vals_row (P := P) (w := w) rs (by simpa using h) fun j v z => ?_)
    · have := r.2
      rw [e2] at this
      exact this
    · obtain ⟨k', z'⟩ := g (j + 1) v (by simpa using z)
      exact ⟨k', by simpa using z'⟩
/-- list(view of values) -/
def rListV : List V → Hp → VK → Prop := fun xs H Q => ∃ (p a : Addr) (kvs : List (Key × V)), xs = [.ref p] ∧ H p = some (valsO p a) ∧ H a = some (.dK kvs) ∧ ∀ q, H q = none → Q (.ref q) (L2.upd H q (.lst (kvs.map (·.2))))
theorem call_listV (hc : X.calm = true) : CallR X (.type "list") rListV := by
  rintro pins s σ H xs us Q I r ⟨p, a, kvs, rfl, hp, ha, q⟩
  obtain ⟨u, rfl, rx⟩ := vals1 r
  cases rx
  have view : s.heap.IsValuesView p a := (show ObjOk X.prog X.w H s.heap p (valsO p a) from I.hok p _ hp).1
  obtain ⟨z, lo, vs, rel, dd⟩ := dk_of I.hok ha
  obtain ⟨ep, hat⟩ := dd.dictAt
  have vl : kvs.length = vs.length := rel.length
  refine PySem.W.kdl_call (PySem.W.kdl_values (knd := mixKind X.prog X.w) (kvs := vs) (ep := ep)) (I.ok.hd hc) ⟨view, hat⟩ (by omega) fun h' tk acc c' hk hD hacc => ?_
  have hv : Vals (kvs.map (·.2)) acc.toList := vals_row (P := X.prog) (w := X.w) rel (by rw [Array.length_toList]; exact hacc.1) fun j v e => hacc.2 j v (by rw [← Array.getElem?_toList]; exact e)
  have ok : ObjOk X.prog X.w (L2.upd H s.heap.objs.size (.lst (kvs.map (·.2)))) h' s.heap.objs.size (.lst (kvs.map (·.2))) := ⟨by rw [List.length_map]; exact z, acc.toList, c', hv, by rw [Array.toArray_toList]; exact hD⟩
  exact ⟨.ref s.heap.objs.size, _, I.laid (t' := tk) hk (Nat.le_refl _) ok, rfl, q _ (I.hok.fresh (Nat.le_refl _))⟩
end
/-! ### sorted(d.items()) -/
section
variable {prog : Program} {w : World} {A : Around} {E : Value → Shared → Prop} {s : Shared}
theorem eq_same {b : Addr} {Q : Bool → Shared → Prop} (h : Q true s) : wpAny (model prog w) A (eqBool (.ref b) (.ref b)) Q E s := by
  unfold eqBool
  apply wpAny_holding
  have e : (Value.ref b == Value.ref b) = true := by simp
  simp only [e, if_true]
  apply wpAny_bind
  apply wpAny_rule
  exact wpAny_pure h
/-- v is a pair of the text y and the object at b -/
def Pr2 (h : Heap) (v : Value) (y : Str) (b : Addr) : Prop := ∃ (a : Addr) (t : Tok), v = .ref a ∧ IsTup h a #[.str y t, .ref b]
def txA (h : Heap) (v : Value) : Str := DT.txOf (DT.seqAt0 h (DT.refOf (some v)))
theorem Pr2.tx {h : Heap} {v : Value} {y : Str} {b : Addr} (x : Pr2 h v y b) : txA h v = y := by
  obtain ⟨a, t, rfl, h1⟩ := x
  show DT.txOf (DT.seqAt0 h a) = y
  rw [DT.seqAt0_of h1]
  rfl
theorem firsts2 {h : Heap} : ∀ vs : List Value, (∀ v ∈ vs, ∃ y b, Pr2 h v y b) → ∃ fs : List Value, PySem.W.KatTups h vs fs ∧ fs.length = vs.length ∧ ∀ f ∈ fs, ∃ y t, f = Value.str y t
  | [], _ => ⟨[], PySem.W.KatTups.nil, rfl, fun f z => nomatch z⟩
  | v :: vs, x => by
    obtain ⟨y, b, a, t, rfl, o, ho, hc, n, hd⟩ := x v List.mem_cons_self
    obtain ⟨fs, k, hl, hi⟩ := firsts2 vs fun u hu => x u (List.mem_cons_of_mem _ hu)
    refine ⟨.str y t :: fs, PySem.W.KatTups.cons ho hc hd rfl k, by simp [hl], fun f hf => ?_⟩
    rcases List.mem_cons.mp hf with rfl | hf
    · exact ⟨y, t, rfl⟩
    · exact hi f hf
theorem kind2 {vs : List Value} {ρ : Str → Int} {B : Str → Addr} (h2 : 2 ≤ vs.length) (x : ∀ v ∈ vs, ∃ y, Pr2 s.heap v y (B y)) (hρ : ∀ v ∈ vs, ∀ u ∈ vs, decide ((txA s.heap v).cps.toList < (txA s.heap u).cps.toList) = decide (ρ (txA s.heap v) < ρ (txA s.heap u)))
    (Q : SortKind → Shared → Prop) (h : ∀ κ, TS.Cmp prog w A s κ (pairsOf vs) (fun v => ρ (txA s.heap v)) → Q κ s) : wpAny (model prog w) A (keyKind' vs.toArray) Q E s := by
  obtain ⟨fs, k, hl, hi⟩ := firsts2 vs fun v hv => (x v hv).imp fun y z => ⟨_, z⟩
  refine PySem.W.kat_kind (T := Value.type "str") k (by omega) (fun f hf => ?_) rfl (h _ ?_)
  · obtain ⟨y, t, rfl⟩ := hi f hf
    exact .now
  have fl : (Value.type "str" != Value.type "tuple") = true := by decide
  rw [fl]
  intro p q hp hq Q' E' hQ
  rw [pairsOf_toList] at hp hq
  have mp := (mem_zip_self hp).2
  have mq := (mem_zip_self hq).2
  obtain ⟨y, py⟩ := x _ mp
  obtain ⟨z, pz⟩ := x _ mq
  have hr := hρ _ mp _ mq
  have hQ2 : Q' (decide (ρ (txA s.heap p.1) < ρ (txA s.heap q.1))) s := hQ
  rw [← hr, py.tx, pz.tx] at hQ2
  obtain ⟨a, t, e1, o, ho, hc, n, hd⟩ := py
  obtain ⟨a', t', e2, o', ho', hc', n', hd'⟩ := pz
  rw [e1, e2]
  refine PySem.W.kat_lt ho hd ho' hd' ?_
  show PySem.W.KatLex prog w A true false Q' [(Value.str y t, Value.str z t'), (Value.ref (B y), Value.ref (B z))] 0 s
  refine PySem.W.kat_cons (wpAny_eqBool_str ?_)
  by_cases e : y = z
  · rw [decide_eq_true e]
    subst e
    have irr : decide (y.cps.toList < y.cps.toList) = false := decide_eq_false (List.lt_irrefl _)
    rw [irr] at hQ2
    exact PySem.W.kat_yes (PySem.W.kat_cons (eq_same (PySem.W.kat_yes (PySem.W.kat_nil hQ2))))
  · rw [decide_eq_false e]
    exact PySem.W.kat_no (oneLt_str hQ2)
end
/-- how many of the row come ahead of y -/
def rankT (ks : List Str) (y : Str) : Int := ((ks.filter fun x => decide (x.cps.toList < y.cps.toList)).length : Nat)
theorem rankT_lt {ks : List Str} {x y : Str} (hx : x ∈ ks) : decide (x.cps.toList < y.cps.toList) = decide (rankT ks x < rankT ks y) := by
  by_cases h : x.cps.toList < y.cps.toList
  · rw [decide_eq_true h]
    symm
    refine decide_eq_true ?_
    have sub : (ks.filter fun z => decide (z.cps.toList < x.cps.toList)).Sublist (ks.filter fun z => decide (z.cps.toList < y.cps.toList)) := by
      refine List.Sublist.trans ?_ (List.filter_sublist (p := fun z => decide (z.cps.toList < x.cps.toList)) (l := ks.filter fun z => decide (z.cps.toList < y.cps.toList)))
      rw [List.filter_filter]
      have : (fun z : Str => decide (z.cps.toList < x.cps.toList) && decide (z.cps.toList < y.cps.toList)) = fun z : Str => decide (z.cps.toList < x.cps.toList) := by
        funext z
        by_cases q : z.cps.toList < x.cps.toList
        · rw [decide_eq_true q, decide_eq_true (List.lt_trans q h)]
          rfl
        · rw [decide_eq_false q]
          rfl
      rw [this]
      exact List.Sublist.refl _
    have le := sub.length_le
    unfold rankT
    rcases Nat.lt_or_ge (ks.filter fun z => decide (z.cps.toList < x.cps.toList)).length (ks.filter fun z => decide (z.cps.toList < y.cps.toList)).length with q | q
    · omega
    · have e := sub.eq_of_length (Nat.le_antisymm le q)
      have mem : x ∈ ks.filter fun z => decide (z.cps.toList < y.cps.toList) := List.mem_filter.mpr ⟨hx, decide_eq_true h⟩
      rw [← e] at mem
      exact absurd (of_decide_eq_true (List.mem_filter.mp mem).2) (List.lt_irrefl _)
  · rw [decide_eq_false h]
    symm
    refine decide_eq_false ?_
    have hle : ∀ z : Str, z.cps.toList < y.cps.toList → z.cps.toList < x.cps.toList := fun z q => by
      rcases List.le_iff_lt_or_eq.mp (List.not_lt.mp h) with r | r
      · exact List.lt_trans q r
      · exact r ▸ q
    have sub : (ks.filter fun z => decide (z.cps.toList < y.cps.toList)).Sublist (ks.filter fun z => decide (z.cps.toList < x.cps.toList)) := by
      refine List.Sublist.trans ?_ (List.filter_sublist (p := fun z => decide (z.cps.toList < y.cps.toList)) (l := ks.filter fun z => decide (z.cps.toList < x.cps.toList)))
      rw [List.filter_filter]
      have : (fun z : Str => decide (z.cps.toList < y.cps.toList) && decide (z.cps.toList < x.cps.toList)) = fun z : Str => decide (z.cps.toList < y.cps.toList) := by
        funext z
        by_cases q : z.cps.toList < y.cps.toList
        · rw [decide_eq_true q, decide_eq_true (hle z q)]
          rfl
        · rw [decide_eq_false q]
          rfl
      rw [this]
      exact List.Sublist.refl _
    have le := sub.length_le
    unfold rankT
    omega
/-- an entry: a text and an object -/
abbrev entR (e : Str × Addr) : Key × V := (Sum.inr e.1, V.ref e.2)
theorem pair_at {P : Program} {w : World} {es : List DictEntry} {vs : List (Key × Value)} (r : Pairs (mixKind P w) es vs) : ∀ {ks : List (Str × Addr)}, KV (ks.map entR) vs → ∀ (j : Nat) (e : DictEntry), es[j]? = some e → ∃ k t, ks[j]? = some k ∧ e.key = Value.str k.1 t ∧ e.val = Value.ref k.2 := by
  induction r with
  | nil =>
    intro ks _ j e h
    simp at h
  | cons hk hv r ih =>
    rename_i en kv0 es0 vs0
    intro ks kv j e h
    match ks, kv with
    | [], kv => exact nomatch kv
    | k :: ks, kv =>
      obtain ⟨q, kv2⟩ : (entR k).1 = kv0.1 ∧ RelV (entR k).2 kv0.2 ∧ True ∧ KV (ks.map entR) vs0 := by
        cases kv with
        | cons q kv => exact ⟨q.1, q.2, trivial, kv⟩
      obtain ⟨q2, _, kv3⟩ := kv2
      cases j with
      | succ j => exact ih kv3 j e (by simpa using h)
      | zero =>
        have ee : en = e := by simpa using h
        subst ee
        rcases keyIs_shape (show keyIs kv0.1 en.key = true from hk) with ⟨i, t, e1, e2⟩ | ⟨x, t, e1, e2⟩
        · rw [← q] at e1
          cases e1
        · rw [← q] at e1
          have e3 : k.1 = x := Sum.inr.inj (show (Sum.inr k.1 : Key) = Sum.inr x from e1)
          refine ⟨k, t, rfl, by rw [e2, e3], ?_⟩
          rw [hv]
          exact q2
theorem tells : ∀ ks : List (Str × Addr), (ks.map (·.1)).Nodup → ∃ B : Str → Addr, ∀ k ∈ ks, B k.1 = k.2
  | [], _ => ⟨fun _ => 0, fun k h => nomatch h⟩
  | c :: ks, nd => by
    rw [List.map_cons, List.nodup_cons] at nd
    obtain ⟨B, hB⟩ := tells ks nd.2
    refine ⟨fun y => if y = c.1 then c.2 else B y, fun k hk => ?_⟩
    rcases List.mem_cons.mp hk with rfl | hk
    · exact if_pos rfl
    · have nc : ¬ k.1 = c.1 := fun z => nd.1 (z ▸ List.mem_map_of_mem hk)
      show (if k.1 = c.1 then c.2 else B k.1) = k.2
      rw [if_neg nc]
      exact hB k hk
section
variable {X : Cx}
/-- sorted(d.items()), d by texts: the pairs by their texts -/
def rSortK : List V → Hp → VK → Prop := fun vs H Q => ∃ (p a : Addr) (ks : List (Str × Addr)), vs = [.ref p] ∧ H p = some (DX.itemsO p a) ∧ H a = some (.dK (ks.map entR)) ∧ ks.length < 64 ∧ (ks.map (·.1)).Nodup ∧
  ∀ (H' : Hp) (l : Addr) (zs : List (Addr × Str × Addr)), Same H H' → (zs.map (·.2)).Perm ks → zs.Pairwise (fun y z => y.2.1.cps.toList < z.2.1.cps.toList) → H' l = some (.lst (zs.map fun z => V.ref z.1)) → (∀ z ∈ zs, H' z.1 = some (.tup [.str z.2.1, .ref z.2.2])) → Q (.ref l) H'
theorem call_sortK (hc : X.calm = true) (hu : X.A.units + 64 < cLine) : CallR X (.builtin "sorted") rSortK := by
  rintro pins s σ H xs us Q I r ⟨p, a, ks, rfl, hp, ha, few, nd, q⟩
  obtain rfl := Vals.ref1 r
  have view : s.heap.IsItemsView p a := (show ObjOk X.prog X.w H s.heap p (DX.itemsO p a) from I.hok p _ hp).1
  obtain ⟨zl, lo, vs, rel, o, es, ep, ho, hx, hd, _, prs, _⟩ := dk_of I.hok ha
  have el : es.size = ks.length := by
    have h1 := rel.length
    have h2 : es.toList.length = vs.length := prs.length
    rw [List.length_map] at h1
    rw [Array.length_toList] at h2
    omega
  refine DT.sortedI (es := es) (ep := ep) (I.ok.hd hc) view ⟨o, ho, hx, hd⟩ (by rw [sizeLine_eq]; omega) fun h1 tk as old big len made => ?_
  have asnd : as.Nodup := made.rise.imp fun h => Nat.ne_of_lt h
  have tups : ∀ (j : Nat) (b : Addr), as[j]? = some b → ∃ (k : Str × Addr) (t : Tok), ks[j]? = some k ∧ h1.get? b = some { cls := .type "tuple", data := .seq #[Value.str k.1 t, Value.ref k.2] } := fun j b hj => by
    obtain ⟨en, he, hg⟩ := made.pairs j b hj
    obtain ⟨k, t, hk, e1, e2⟩ := pair_at prs rel j en (by rw [Array.getElem?_toList]; exact he)
    exact ⟨k, t, hk, by rw [hg, e1, e2]⟩
  obtain ⟨L, hL⟩ : ∃ L, L = h1.objs.size := ⟨_, rfl⟩
  have ne : ∀ b o, h1.get? b = some o → b ≠ L := fun b o e => by rw [hL]; exact Nat.ne_of_lt (Heap.lt_size e)
  have obL : (h1.push { cls := .type "list", data := .seq (as.map Value.ref).toArray }).get? L = some (seqObj "list" (as.map Value.ref).toArray 0) := by rw [hL]; exact Heap.get?_push_size _ rfl
  have push : ∀ b o, h1.get? b = some o → (h1.push { cls := .type "list", data := .seq (as.map Value.ref).toArray }).get? b = some o := fun b o e => Heap.get?_push_of_some _ e
  rw [← hL]
  generalize h1.push { cls := .type "list", data := .seq (as.map Value.ref).toArray } = h2 at obL push ⊢
  have mid : ∀ (j : Nat) (b : Addr), as[j]? = some b → ∃ k, ks[j]? = some k ∧ Pr2 (TS.midHeap h2 L (as.map Value.ref)) (.ref b) k.1 k.2 := fun j b hj => by
    obtain ⟨k, t, hk, hg⟩ := tups j b hj
    exact ⟨k, hk, b, t, rfl, _, TS.midHeap_old (ne _ _ hg) (push _ _ hg), rfl, 0, rfl⟩
  -- the text tells the object
  obtain ⟨B, hB⟩ := tells ks nd
  have at_ : ∀ v ∈ as.map Value.ref, ∃ (j : Nat) (b : Addr) (k : Str × Addr), v = .ref b ∧ as[j]? = some b ∧ ks[j]? = some k ∧ Pr2 (TS.midHeap h2 L (as.map Value.ref)) v k.1 k.2 := fun v hv => by
    obtain ⟨b, hb, rfl⟩ := List.mem_map.mp hv
    obtain ⟨j, hj⟩ := List.mem_iff_getElem?.mp hb
    obtain ⟨k, hk, pr⟩ := mid j b hj
    exact ⟨j, b, k, rfl, hj, hk, pr⟩
  refine wpAny_call_entry PyProof.Rows.slot_list_sort ⟨_, obL, rfl⟩ PyProof.Rows.entry_list_sort ?_ (PyProof.Rows.args_list_sort _)
  refine SK.plain_sort (s := { s with heap := h2, toks := tk }) (r := fun v => rankT (ks.map (·.1)) (txA (TS.midHeap h2 L (as.map Value.ref)) v)) obL (by rw [List.length_map]; omega) (fun two Qk hQk => ?_) fun ps out o1 o2 o3 => ⟨.none, rfl, ?_⟩
  · refine kind2 (s := { s with heap := TS.midHeap h2 L (as.map Value.ref), toks := tk }) (ρ := rankT (ks.map (·.1))) (B := B) two (fun v hv => ?_) (fun v hv u hu' => ?_) Qk hQk
    · obtain ⟨j, b, k, e, _, hk, pr⟩ := at_ v hv
      exact ⟨k.1, by rw [hB k (List.mem_of_getElem? hk)]; exact pr⟩
    · obtain ⟨j, b, k, _, _, hk, pr⟩ := at_ v hv
      refine rankT_lt ?_
      show txA (TS.midHeap h2 L (as.map Value.ref)) v ∈ _
      rw [pr.tx]
      exact List.mem_map_of_mem (List.mem_of_getElem? hk)
  · have al : as.length = ks.length := by omega
    obtain ⟨zs, pz, ez⟩ := perm_lift (fun z : Addr × Str × Addr => (Value.ref z.1, Value.ref z.1)) o2 (as.zip ks) (DX.zip_self Value.ref as ks al)
    have idx : ∀ z ∈ zs, ∃ j : Nat, as[j]? = some z.1 ∧ ks[j]? = some z.2 := fun z hz => by
      obtain ⟨j, hj⟩ := List.mem_iff_getElem?.mp (pz.mem_iff.mp hz)
      exact ⟨j, List.getElem?_zip_eq_some.mp hj⟩
    have outs : out.toList = zs.map fun z => Value.ref z.1 := by
      rw [o1, ← ez, List.map_map]
      rfl
    have perm : (zs.map (·.2)).Perm ks := by
      have h := pz.map (·.2)
      rwa [List.map_snd_zip (by omega)] at h
    have txz : ∀ z ∈ zs, txA (TS.midHeap h2 L (as.map Value.ref)) (.ref z.1) = z.2.1 := fun z hz => by
      obtain ⟨j, j1, j2⟩ := idx z hz
      obtain ⟨k, hk, pr⟩ := mid j z.1 j1
      rw [pr.tx]
      rw [j2] at hk
      exact congrArg Prod.fst (Option.some.inj hk).symm
    have ndz : (zs.map fun z => z.2.1).Nodup := by
      have h := perm.map (·.1)
      rw [List.map_map] at h
      exact h.nodup_iff.mpr nd
    have srt : zs.Pairwise (fun y z => y.2.1.cps.toList < z.2.1.cps.toList) := by
      rw [← ez, List.pairwise_map] at o3
      have np : zs.Pairwise (fun y z => y.2.1 ≠ z.2.1) := List.pairwise_map.mp ndz
      refine (o3.and np).imp_of_mem fun {y z} hy hz h => ?_
      have hle : rankT (ks.map (·.1)) (txA (TS.midHeap h2 L (as.map Value.ref)) (.ref y.1)) ≤ rankT (ks.map (·.1)) (txA (TS.midHeap h2 L (as.map Value.ref)) (.ref z.1)) := h.1
      rw [txz y hy, txz z hz] at hle
      have mz : z.2.1 ∈ ks.map (·.1) := by
        obtain ⟨j, _, j2⟩ := idx z hz
        exact List.mem_map_of_mem (List.mem_of_getElem? j2)
      have nlt : ¬ z.2.1.cps.toList < y.2.1.cps.toList := fun c => by
        have := rankT_lt (y := y.2.1) mz
        rw [decide_eq_true c] at this
        have := of_decide_eq_true this.symm
        omega
      rcases List.le_iff_lt_or_eq.mp (List.not_lt.mp nlt) with c | c
      · exact c
      · exfalso
        refine h.2 ?_
        generalize y.2.1 = a' at c ⊢
        generalize z.2.1 = b' at c ⊢
        obtain ⟨⟨a'⟩⟩ := a'
        obtain ⟨⟨b'⟩⟩ := b'
        simp only at c
        rw [c]
    have keepF : ∀ b o, b ≠ L → h2.get? b = some o → (sortedHeap h2 L (as.map Value.ref) out).get? b = some o := fun b o hb e => (PyProof.Rows.sortedHeap_old hb (Heap.lt_size e)).trans e
    have keepS : ∀ b o, s.heap.get? b = some o → (sortedHeap h2 L (as.map Value.ref) out).get? b = some o := fun b o e => keepF b o (ne _ _ (old b o e)) (push b o (old b o e))
    obtain ⟨eF, heF⟩ := PyProof.Rows.sortedHeap_at (vs := as.map Value.ref) (out := out) obL
    have bigL : s.heap.objs.size ≤ L := by rw [hL]; exact Nat.le_of_lt big
    have HL : H L = none := I.hok.fresh bigL
    have I1 : Inv X pins σ H { s with heap := sortedHeap h2 L (as.map Value.ref) out, toks := tk } := I.kept (t' := tk) keepS
    have lnz : (zs.map fun z => V.ref z.1).length ≤ sizeLine := by
      have h := perm.length_eq
      rw [List.length_map] at h
      rw [List.length_map, sizeLine_eq]
      omega
    have rv : Vals (zs.map fun z => V.ref z.1) out.toList := by
      rw [outs]
      exact vals_maps (fun z : Addr × Str × Addr => V.ref z.1) (fun z => Value.ref z.1) zs fun _ _ => rfl
    have I2 : Inv X pins σ (L2.upd H L (.lst (zs.map fun z => V.ref z.1))) { s with heap := sortedHeap h2 L (as.map Value.ref) out, toks := tk } :=
      I1.take (t' := tk) (h' := sortedHeap h2 L (as.map Value.ref) out) (fun _ _ _ e => e) (I.fpOk bigL HL) ⟨lnz, out.toList, eF, rv, heF⟩
    obtain ⟨H2, I3, g, qt⟩ := DX.takeT (P := fun b vs => ∃ (j : Nat) (k : Str × Addr), as[j]? = some b ∧ ks[j]? = some k ∧ vs = [.str k.1, .ref k.2]) I as _ I2 asnd fun b hb => by
      obtain ⟨j, hj⟩ := List.mem_iff_getElem?.mp hb
      obtain ⟨k, t, hk, hg⟩ := tups j b hj
      have bb : s.heap.objs.size ≤ b := Nat.le_of_lt (made.above b hb)
      refine ⟨bb, ?_, [.str k.1, .ref k.2], ⟨j, k, hj, hk, rfl⟩, fun H3 => ⟨(by rw [sizeLine_eq]; show 2 ≤ 16777216; omega), [Value.str k.1 t, Value.ref k.2], .cons ⟨t, rfl⟩ (.cons rfl .nil), ⟨_, keepF _ _ (ne _ _ hg) (push _ _ hg), rfl, 0, rfl⟩⟩⟩
      rw [upd_ne (ne _ _ hg)]
      exact I.hok.fresh bb
    refine ⟨.ref L, H2, I3, rfl, q H2 L zs (fun b o e => g b o (by rw [upd_ne (ne_of_none e HL)]; exact e)) perm srt (g _ _ upd_same) fun z hz => ?_⟩
    obtain ⟨i, i1, i2⟩ := idx z hz
    obtain ⟨vs', ⟨j, k, j1, j2, ev⟩, hH⟩ := qt z.1 (List.mem_of_getElem? i1)
    have ij : i = j := (List.getElem?_inj (List.getElem?_eq_some_iff.mp i1).1 asnd).mp (i1.trans j1.symm)
    subst ij
    have kz : k = z.2 := Option.some.inj (j2.symm.trans i2)
    rw [ev, kz] at hH
    exact hH
end
end Lf

set_option Elab.async false
set_option linter.all false
set_option maxRecDepth 100000
set_option maxHeartbeats 4000000
set_option exponentiation.threshold 3000
namespace Lf
open PySem PySem.Spec PyProof.Rows L2
section
variable {P : Program} {w : World} {K : PySem.W.Frag} {mg : Str → Option Value} {base : Heap} {c0 c1 cw : Addr}

/-! ### Book.dough -/
theorem sc_bdough : FnScope ["self", "name"] ["self", "name"] (defScope s_bdough) := ⟨rfl, rfl, rfl, by decide +kernel, rfl, by decide +kernel, by decide +kernel⟩
def sp_bdough (K : PySem.W.Frag) (C CS CD : Addr) : Sp := fun vs H Q _ => ∃ (x : Addr) (z : Str) (ss : List Sf) (ds : List Dm) (d : Dm), vs = [.ref x, .str z] ∧ BkO K H C CS CD x ss ds ∧ (ds.map (·.z)).Nodup ∧ d ∈ ds ∧ d.z = z ∧ ∀ v, DmAt K H CD v d → Q v H
theorem ok_bdough {C CS CD f : Addr} {fd : FuncData} (X : BkF K C) (F : Fun K "dough" "Book.dough" s_bdough f fd) (C_is_one_of : Cal P w K mg base CX0 1 "is_one_of" ["thing", "names"] sp_ioD) : FnG P w K mg base CX0 2 f fd ["self", "name"] (sp_bdough K C CS CD) := by
  refine Gfun F sc_bdough (fun vs H Q E h => ?_) (fun cdv A outer s H vs Q E hg hr h => ?_)
  · obtain ⟨x, z, ss, ds, d, rfl, _⟩ := h
    rfl
  · obtain ⟨x, z, ss, ds, d, rfl, ⟨dx, ps, pd, I, kss, kds, h1, h2, h3, h4, h5, h6⟩, nd, hd, rfl, k⟩ := h
    refine ⟨_, (pss_cons (ps_if (pt_not (pt_val (pe_g C_is_one_of (hr.mono (by decide)) hg (pa_cons (pv 1) (pa_cons (pe_fld (pv 0) rfl) pa_nil)))))
      (pss_one ps_dead)
      pss_nil)
      (pss_one (ps_ret (pe_dget (by exact u1 hr) (pe_fld (pv 0) rfl) (pv 1) (fun _ _ => rfl))))), ?_⟩
    obtain ⟨v, hv, hm⟩ := EnD.val h5 nd d hd
    refine ⟨_, rfl, _, rfl, x, C, dx, _, _, rfl, h1, X.c, X.n2, rfl, d.z, pd, kds, rfl, h4, ?_⟩
    rw [hv]
    refine ⟨_, rfl, iteF ?_⟩
    refine ⟨_, rfl, x, C, dx, _, _, rfl, h1, X.c, X.n2, rfl, _, rfl, pd, v, rfl, .inl ⟨kds, Sum.inr d.z, .inl h4, rfl, hv.symm⟩, k v hm⟩

end
end Lf

set_option Elab.async false
set_option linter.all false
set_option maxRecDepth 100000
set_option maxHeartbeats 4000000
set_option exponentiation.threshold 3000
namespace Lf
open PySem PySem.Spec PyProof.Rows L2
def gAll {α : Type} (us _ _ : List α) : List α := us
/-- a dough in the place of that of its name, or behind the others -/
def putD (ds : List Dm) (d : Dm) : List Dm := if d.z ∈ ds.map (·.z) then ds.map (fun e => if e.z = d.z then d else e) else ds ++ [d]
section
variable {P : Program} {w : World} {K : PySem.W.Frag} {mg : Str → Option Value} {base : Heap} {c0 c1 cw : Addr}
theorem EnD.put {H : Hp} {C : Addr} {kvs : List (Key × V)} {ds : List Dm} {v : V} {d : Dm} (h : Paired (EnD K H C) kvs ds) (hv : DmAt K H C v d) : Paired (EnD K H C) (putK kvs (Sum.inr d.z) v) (putD ds d) := by
  unfold putK putD
  have key : ∀ {kvs : List (Key × V)} {ds : List Dm}, Paired (EnD K H C) kvs ds → (kvs.any fun kv => decide (kv.1 = Sum.inr d.z)) = decide (d.z ∈ ds.map (·.z)) ∧ Paired (EnD K H C) (kvs.map fun kv => if kv.1 = Sum.inr d.z then (kv.1, v) else kv) (ds.map fun e => if e.z = d.z then d else e) := by
    intro kvs ds h
    induction h with
    | nil => exact ⟨rfl, .nil⟩
    | @cons kv e kvs ds r t ih =>
      obtain ⟨i1, i2⟩ := ih
      obtain ⟨r1, r2⟩ := r
      by_cases q : e.z = d.z
      · refine ⟨?_, .cons ?_ i2⟩
        · rw [List.any_cons, i1, r1, decide_eq_true (by rw [q]), List.map_cons, q]
          simp
        · show EnD K H C (if kv.1 = Sum.inr d.z then (kv.1, v) else kv) (if e.z = d.z then d else e)
          rw [if_pos (by rw [r1, q]), if_pos q]
          exact ⟨by rw [r1, q], hv⟩
      · have nq : ¬ kv.1 = Sum.inr d.z := fun z => q (Sum.inr.inj (r1.symm.trans z))
        refine ⟨?_, .cons ?_ i2⟩
        · rw [List.any_cons, i1, decide_eq_false nq, List.map_cons]
          have q' : ¬ d.z = e.z := fun z => q z.symm
          simp [q']
        · show EnD K H C (if kv.1 = Sum.inr d.z then (kv.1, v) else kv) (if e.z = d.z then d else e)
          rw [if_neg nq, if_neg q]
          exact ⟨r1, r2⟩
  obtain ⟨k1, k2⟩ := key h
  rw [k1]
  by_cases q : d.z ∈ ds.map (·.z)
  · rw [if_pos (decide_eq_true q), if_pos q]
    exact k2
  · rw [if_neg (by rw [decide_eq_false q]; decide), if_neg q]
    exact papp h (.cons ⟨rfl, hv⟩ .nil)
theorem putD_len (ds : List Dm) (d : Dm) : (putD ds d).length ≤ ds.length + 1 := by
  unfold putD
  split
  · rw [List.length_map]
    omega
  · rw [List.length_append]
    exact Nat.le_refl _
theorem EnD.vals {H : Hp} {C : Addr} : ∀ {kvs : List (Key × V)} {ds : List Dm}, Paired (EnD K H C) kvs ds → Paired (DmAt K H C) (kvs.map (·.2)) ds
  | _, _, .nil => .nil
  | _, _, .cons r t => .cons r.2 (EnD.vals t)
theorem EnS.vals {H : Hp} {C : Addr} : ∀ {kvs : List (Key × V)} {ds : List Sf}, Paired (EnS K H C) kvs ds → Paired (SfAt K H C) (kvs.map (·.2)) ds
  | _, _, .nil => .nil
  | _, _, .cons r t => .cons r.2 (EnS.vals t)
theorem dall_of {f : Addr} {fd : FuncData} (F : FunD K "__init__" "Dough.__init__" (defArgs s_dinit) (defBody s_dinit) (defScope s_dinit) [.int 0] [] f fd) : ∃ g, KBn K fd ["self", "name", "rows", "lead"] (3 + 1) [] g (fun vs zs => gAll vs [.int 0] zs) := by
  obtain ⟨its, hb⟩ := F.kbindsD (ps := ["self", "name", "rows", "lead"]) (3 + 1) [] (fun us ds ws => gAll us ds ws) (fun z => nomatch z) (fun r1 r2 r3 => r1) (fun T kV doc pm an cdv ct us its ws h1 h2 h3 => by
      match us, its, ws, h1, h2, h3 with
      | [_, _, _, _], [_], [], _, _, _ => exact ⟨_, rfl, rfl⟩)
  exact ⟨_, hb⟩
theorem ball_of {f : Addr} {fd : FuncData} (F : FunD K "__init__" "Book.__init__" (defArgs s_binit) (defBody s_binit) (defScope s_binit) [] [] f fd) : ∃ g, KBn K fd ["self", "stuffs", "doughs"] (2 + 1) [] g (fun vs zs => gAll vs [] zs) := by
  obtain ⟨kV, doc, pm, an, cdv, ct, rfl, F⟩ := fun_of F
  exact ⟨fun us _ => us, ⟨fun s us ws _ hl hw => .of_eq (match us, ws, hl, hw with | [_, _, _], [], _, _ => rfl), fun r _ => r⟩⟩
theorem sall_of {f : Addr} {fd : FuncData} (F : FunD K "__init__" "Stuff.__init__" (defArgs s_sinit) (defBody s_sinit) (defScope s_sinit) [.non, .non, .non, .non, .non] [] f fd) : ∃ g, KBn K fd ["self", "name", "flour", "water", "salt", "thirst", "price"] (6 + 1) [] g (fun vs zs => gAll vs [.non, .non, .non, .non, .non] zs) := by
  obtain ⟨its, hb⟩ := F.kbindsD (ps := ["self", "name", "flour", "water", "salt", "thirst", "price"]) (6 + 1) [] (fun us ds ws => gAll us ds ws) (fun z => nomatch z) (fun r1 r2 r3 => r1) (fun T kV doc pm an cdv ct us its ws h1 h2 h3 => by
      match us, its, ws, h1, h2, h3 with
      | [_, _, _, _, _, _, _], [_, _, _, _, _], [], _, _, _ => exact ⟨_, rfl, rfl⟩)
  exact ⟨_, hb⟩

/-! ### Book.put -/
theorem sc_bput : FnScope ["self", "thing", "stuffs", "doughs"] ["self", "thing"] (defScope s_bput) := ⟨rfl, rfl, rfl, by decide +kernel, rfl, by decide +kernel, by decide +kernel⟩
def sp_bput (K : PySem.W.Frag) (C CS CD : Addr) : Sp := fun vs H Q _ => ∃ (x y : Addr) (ss : List Sf) (ds : List Dm) (d : Dm), vs = [.ref x, .ref y] ∧ BkO K H C CS CD x ss ds ∧ Dgh K H CD y d.z d.rs d.n ∧ BkOk ss ds ∧ BkOk ss (putD ds d) ∧ BkN ss (putD ds d) ∧ ∀ H' x', Same H H' → BkO K H' C CS CD x' ss (putD ds d) → Q (.ref x') H'
set_option maxHeartbeats 8000000 in
theorem ok_bput {C CS CD f fn fP : Addr} {fd fdn fdP : FuncData} {g0 : List Value → List Value → List Value} (Mx : Bltx mg) (md : mg "dict" = none) (ml : mg "list" = none) (gS : mg "Stuff" = some (.ref CS)) (kS : PySem.W.kitOne K (.ref CD) (.ref CS) = some false) (YD : ClsX K CD) (X : BkF K C) (h_all : KBn K fdP ["self", "stuffs", "doughs"] (2 + 1) [] g0 (fun vs zs => gAll vs [] zs)) (MP : MakG P w K mg base CX0 4 "Book" C fP fdP ["self", "stuffs", "doughs"] (sp_binit K C CS CD)) (Mn : MetG P w K mg base CX0 1 CD "name" fn fdn ["self"] (sp_dname K CD)) (F : Fun K "put" "Book.put" s_bput f fd) : FnG P w K mg base CX0 6 f fd ["self", "thing"] (sp_bput K C CS CD) := by
  refine Gfun F sc_bput (fun vs H Q E h => ?_) (fun cdv A outer s H vs Q E hg hr h => ?_)
  · obtain ⟨x, y, ss, ds, d, rfl, _⟩ := h
    rfl
  · obtain ⟨x, y, ss, ds, d, rfl, ⟨dx, ps, pd, I, kss, kds, h1, h2, h3, h4, h5, h6⟩, dg, B0, B, N, k⟩ := h
    refine ⟨_, (pss_cons (ps_set (i := 2) sc_bput.nd rfl (.inl rfl) (pe_callTy call_dictD rfl md (by decide +kernel : bootBuiltins "dict" = some (.type "dict")) (pa_cons (pe_fld (pv 0) rfl) pa_nil)))
      (pss_cons (ps_set (i := 3) sc_bput.nd rfl (.inl rfl) (pe_callTy call_dictD rfl md (by decide +kernel : bootBuiltins "dict" = some (.type "dict")) (pa_cons (pe_fld (pv 0) rfl) pa_nil)))
      (pss_cons (ps_if (pt_val (pe_callB call_isi rfl Mx.isinstance bt_isinstance (pa_cons (pv 1) (pa_cons (pe_glob (v := .ref CS) rfl gS rfl) pa_nil))))
      (pss_one ps_dead)
      (pss_one (ps_dput (by exact u1 hr) (pv 3) (pe_meG0 (pv 1) Mn (hr.mono (by decide)) hg (fun _ => pass_no)) (pv 1) rfl)))
      (pss_one (ps_ret (pe_mkG MP h_all (hr.mono (by decide)) hg (fun _ => pass_no) (pa_cons (pe_callTy (call_listV rfl) rfl ml bt_list (pa_cons (pe_bm0 PySem.F.plainAttrs_dict PySem.F.slot_dict_values PySem.F.type_dict_values mt_valsK (pv 2)) pa_nil)) (pa_cons (pe_callTy (call_listV rfl) rfl ml bt_list (pa_cons (pe_bm0 PySem.F.plainAttrs_dict PySem.F.slot_dict_values PySem.F.type_dict_values mt_valsK (pv 3)) pa_nil)) pa_nil)))))))), ?_⟩
    have l3 := plen h3
    have l5 := plen h5
    have f1 := B0.fs
    have f2 := B0.fd
    refine ⟨_, rfl, x, C, dx, _, _, rfl, h1, X.c, X.n1, rfl, ps, kss, rfl, .inl h2, fun p1 n1 => ?_⟩
    have s1 : Same H (L2.upd H p1 (.dK kss)) := same_new n1
    have e1 : L2.upd H p1 (.dK kss) p1 = some (.dK kss) := upd_same
    generalize L2.upd H p1 (.dK kss) = H1 at s1 e1 ⊢
    refine ⟨_, rfl, x, C, dx, _, _, rfl, s1 _ _ h1, X.c, X.n2, rfl, pd, kds, rfl, .inl (s1 _ _ h4), fun p2 n2 => ?_⟩
    have n12 : p1 ≠ p2 := fun z => by rw [← z, e1] at n2; cases n2
    have s2 : Same H1 (L2.upd H1 p2 (.dK kds)) := same_new n2
    have e2 : L2.upd H1 p2 (.dK kds) p2 = some (.dK kds) := upd_same
    generalize L2.upd H1 p2 (.dK kds) = H2 at s2 e2 ⊢
    have s02 := s1.trans s2
    have dg2 := dg.same s02
    obtain ⟨dx2, pr2, xs2, i2, _, _⟩ := id dg2
    refine ⟨_, rfl, _, _, _, _, _, rfl, .own CS, YD.ty i2, kS, _, rfl, iteF ?_⟩
    refine ⟨_, rfl, _, rfl, _, rfl, y, _, _, rfl, i2, rfl, y, d.z, d.rs, d.n, rfl, dg2, p2, _, rfl, DPut.k (k := Sum.inr d.z) e2 (by rw [sizeLine_eq]; omega), ?_⟩
    have nh2 : H p2 = none := by
      cases q : H p2 with
      | none => rfl
      | some o =>
        have := s1 _ _ q
        rw [n2] at this
        cases this
    have s03 : Same H (L2.upd H2 p2 (.dK (putK kds (Sum.inr d.z) (.ref y)))) := fun b o e => by
      rw [upd_ne (ne_of_none e nh2)]
      exact s02 _ _ e
    have e13 : L2.upd H2 p2 (.dK (putK kds (Sum.inr d.z) (.ref y))) p1 = some (.dK kss) := by
      rw [upd_ne n12]
      exact s2 _ _ e1
    have e23 : L2.upd H2 p2 (.dK (putK kds (Sum.inr d.z) (.ref y))) p2 = some (.dK (putK kds (Sum.inr d.z) (.ref y))) := upd_same
    generalize L2.upd H2 p2 (.dK (putK kds (Sum.inr d.z) (.ref y))) = H3 at s03 e13 e23 ⊢
    have hp := EnD.put h5 (v := .ref y) (d := d) ⟨y, rfl, dg⟩
    refine ⟨_, rfl, .inr (.inr (.inl ⟨rfl, .inl ⟨_, e13⟩⟩)), p1, kss, rfl, rfl, e13, fun q1 m1 => ?_⟩
    have s4 : Same H3 (L2.upd H3 q1 (valsO q1 p1)) := same_new m1
    have e4 : L2.upd H3 q1 (valsO q1 p1) q1 = some (valsO q1 p1) := upd_same
    generalize L2.upd H3 q1 (valsO q1 p1) = H4 at s4 e4 ⊢
    refine ⟨q1, p1, kss, rfl, e4, s4 _ _ e13, fun l1 m2 => ?_⟩
    have s5 : Same H4 (L2.upd H4 l1 (.lst (kss.map (·.2)))) := same_new m2
    have e5 : L2.upd H4 l1 (.lst (kss.map (·.2))) l1 = some (.lst (kss.map (·.2))) := upd_same
    generalize L2.upd H4 l1 (.lst (kss.map (·.2))) = H5 at s5 e5 ⊢
    refine ⟨_, rfl, .inr (.inr (.inl ⟨rfl, .inl ⟨_, s5 _ _ (s4 _ _ e23)⟩⟩)), p2, _, rfl, rfl, s5 _ _ (s4 _ _ e23), fun q2 m3 => ?_⟩
    have s6 : Same H5 (L2.upd H5 q2 (valsO q2 p2)) := same_new m3
    have e6 : L2.upd H5 q2 (valsO q2 p2) q2 = some (valsO q2 p2) := upd_same
    generalize L2.upd H5 q2 (valsO q2 p2) = H6 at s6 e6 ⊢
    refine ⟨q2, p2, _, rfl, e6, s6 _ _ (s5 _ _ (s4 _ _ e23)), fun l2 m4 => ?_⟩
    have s7 : Same H6 (L2.upd H6 l2 (.lst ((putK kds (Sum.inr d.z) (.ref y)).map (·.2)))) := same_new m4
    have e7 : L2.upd H6 l2 (.lst ((putK kds (Sum.inr d.z) (.ref y)).map (·.2))) l2 = some (.lst ((putK kds (Sum.inr d.z) (.ref y)).map (·.2))) := upd_same
    generalize L2.upd H6 l2 (.lst ((putK kds (Sum.inr d.z) (.ref y)).map (·.2))) = H7 at s7 e7 ⊢
    have s07 := ((((s03.trans s4).trans s5).trans s6).trans s7)
    refine ⟨rfl, rfl, fun x' dx' nx nd hdx => ⟨x', dx', H7, l1, l2, kss.map (·.2), (putK kds (Sum.inr d.z) (.ref y)).map (·.2), ss, putD ds d, rfl, nx, nd, hdx, rfl, .inl (.inl (s7 _ _ (s6 _ _ e5))), SfsAt.same s07 (EnS.vals h3), .inl (.inl e7), DgsAt.same s07 (EnD.vals hp), B, N, fun H8 s8 bk => ⟨rfl, k H8 x' (s07.trans s8) bk⟩⟩⟩

end
end Lf

set_option Elab.async false
set_option linter.all false
set_option maxRecDepth 100000
set_option maxHeartbeats 4000000
set_option exponentiation.threshold 3000
namespace Lf
open PySem PySem.Spec PyProof.Rows L2
section
variable {P : Program} {w : World} {K : PySem.W.Frag} {mg : Str → Option Value} {base : Heap} {c0 c1 cw : Addr}
theorem SqT.but {H H' : Hp} {D l : Addr} {kvs : List (Key × V)} {xs : List V} (e : H D = some (.dK kvs)) (b : But D H H') (h : SqT K H l xs) : SqT K H' l xs := by
  rcases h with (h | ⟨o, h⟩) | h
  · exact .inl (.inl (b _ _ (fun z => by rw [z, e] at h; cases h) h))
  · exact .inl (.inr ⟨o, b _ _ (fun z => by rw [z, e] at h; cases h) h⟩)
  · exact .inr h
theorem AtK.but {H H' : Hp} {D : Addr} {kvs : List (Key × V)} {v : V} {f : Int × Int} (e : H D = some (.dK kvs)) (b : But D H H') (h : AtK K H v f) : AtK K H' v f := let ⟨p, e1, h⟩ := h; ⟨p, e1, SqT.but e b h⟩
/-- contents: names and their shares, in a dict -/
def CoE (K : PySem.W.Frag) (H : Hp) (kv : Key × V) (e : Str × (Int × Int)) : Prop := kv.1 = Sum.inr e.1 ∧ AtK K H kv.2 e.2
def ContAt (K : PySem.W.Frag) (H : Hp) (a : Addr) (m : Cont) : Prop := ∃ kvs, H a = some (.dK kvs) ∧ Paired (CoE K H) kvs m
theorem CoE.same {H H' : Hp} (s : Same H H') {kv : Key × V} {e : Str × (Int × Int)} (h : CoE K H kv e) : CoE K H' kv e := ⟨h.1, h.2.same s⟩
theorem ContAt.same {H H' : Hp} (s : Same H H') {a : Addr} {m : Cont} (h : ContAt K H a m) : ContAt K H' a m := let ⟨kvs, e, h⟩ := h; ⟨kvs, s _ _ e, L2.Paired.mapP h fun _ _ => CoE.same s⟩
theorem CoE.val {H : Hp} {z : Str} : ∀ {kvs : List (Key × V)} {m : Cont}, Paired (CoE K H) kvs m → (z ∉ m.map (·.1) ∧ valV kvs (Sum.inr z) = none) ∨ ∃ e ∈ m, e.1 = z ∧ ∃ v, valV kvs (Sum.inr z) = some v ∧ AtK K H v e.2
  | _, _, .nil => .inl ⟨fun h => (nomatch h), rfl⟩
  | _, _, @Paired.cons _ _ _ kv e kvs m r t => by
    by_cases q : e.1 = z
    · exact .inr ⟨e, List.mem_cons_self, q, kv.2, valV_pos (by rw [r.1, q]), r.2⟩
    · have nv : valV (kv :: kvs) (Sum.inr z) = valV kvs (Sum.inr z) := valV_neg (by rw [r.1]; exact fun x => q (Sum.inr.inj x))
      rcases CoE.val (z := z) t with ⟨h1, h2⟩ | ⟨e', h1, h2, v, h3, h4⟩
      · refine .inl ⟨fun h => ?_, nv.trans h2⟩
        rw [List.map_cons] at h
        rcases List.mem_cons.mp h with x | x
        · exact q x.symm
        · exact h1 x
      · exact .inr ⟨e', List.mem_cons_of_mem _ h1, h2, v, nv.trans h3, h4⟩
theorem CoE.put {H : Hp} {kvs : List (Key × V)} {m : Cont} {v : V} {z : Str} {f g : Int × Int} (h : Paired (CoE K H) kvs m) (hv : AtK K H v (fadd g f)) (hg : ∀ e ∈ m, e.1 = z → e.2 = g) (hn : z ∉ m.map (·.1) → g = f0) : Paired (CoE K H) (putK kvs (Sum.inr z) v) (addT m z f) := by
  unfold putK addT
  have key : ∀ {kvs : List (Key × V)} {m : Cont}, Paired (CoE K H) kvs m → (∀ e ∈ m, e.1 = z → e.2 = g) → (kvs.any fun kv => decide (kv.1 = Sum.inr z)) = decide (z ∈ m.map (·.1)) ∧ Paired (CoE K H) (kvs.map fun kv => if kv.1 = Sum.inr z then (kv.1, v) else kv) (m.map fun e => if e.1 = z then (z, fadd e.2 f) else e) := by
    intro kvs m h
    induction h with
    | nil => exact fun _ => ⟨rfl, .nil⟩
    | @cons kv e kvs m r t ih =>
      intro hg
      obtain ⟨i1, i2⟩ := ih fun e he => hg e (List.mem_cons_of_mem _ he)
      obtain ⟨r1, r2⟩ := r
      by_cases q : e.1 = z
      · refine ⟨?_, .cons ?_ i2⟩
        · rw [List.any_cons, i1, r1, decide_eq_true (by rw [q]), List.map_cons, q]
          simp
        · show CoE K H (if kv.1 = Sum.inr z then (kv.1, v) else kv) (if e.1 = z then (z, fadd e.2 f) else e)
          rw [if_pos (by rw [r1, q]), if_pos q, hg e List.mem_cons_self q]
          exact ⟨by rw [r1, q], hv⟩
      · have nq : ¬ kv.1 = Sum.inr z := fun x => q (Sum.inr.inj (r1.symm.trans x))
        refine ⟨?_, .cons ?_ i2⟩
        · rw [List.any_cons, i1, decide_eq_false nq, List.map_cons]
          have q' : ¬ z = e.1 := fun x => q x.symm
          simp [q']
        · show CoE K H (if kv.1 = Sum.inr z then (kv.1, v) else kv) (if e.1 = z then (z, fadd e.2 f) else e)
          rw [if_neg nq, if_neg q]
          exact ⟨r1, r2⟩
  obtain ⟨k1, k2⟩ := key h hg
  rw [k1]
  by_cases q : z ∈ m.map (·.1)
  · rw [if_pos (decide_eq_true q), if_pos q]
    exact k2
  · rw [if_neg (by rw [decide_eq_false q]; decide), if_neg q]
    rw [hn q] at hv
    exact papp h (.cons ⟨rfl, hv⟩ .nil)

theorem nodup_key {m : Cont} (nd : (m.map (·.1)).Nodup) : ∀ {e e' : Str × (Int × Int)}, e ∈ m → e' ∈ m → e.1 = e'.1 → e = e' := by
  induction m with
  | nil => exact fun h => nomatch h
  | cons x m ih =>
    intro e e' h h' q
    rw [List.map_cons, List.nodup_cons] at nd
    rcases List.mem_cons.mp h with z | z <;> rcases List.mem_cons.mp h' with z' | z'
    · rw [z, z']
    · exact absurd (by rw [← z, q]; exact List.mem_map_of_mem z') nd.1
    · exact absurd (by rw [← z', ← q]; exact List.mem_map_of_mem z) nd.1
    · exact ih nd.2 z z' q

end
end Lf

set_option Elab.async false
set_option linter.all false
set_option maxRecDepth 100000
set_option maxHeartbeats 4000000
set_option exponentiation.threshold 3000
namespace Lf
open PySem PySem.Spec PyProof.Rows L2
def envOf (es : List (Str × Cont)) (t : Str) : Cont := match es.find? (fun e => decide (e.1 = t)) with
  | some e => e.2
  | none => [(t, f1)]
theorem addT_len (m : Cont) (k : Str) (f : Int × Int) : (addT m k f).length ≤ m.length + 1 := by
  unfold addT
  split
  · rw [List.length_map]
    omega
  · rw [List.length_append]
    exact Nat.le_refl _
theorem opnR_len {much : Int × Int} : ∀ (cs m : Cont), (opnR much m cs).length ≤ m.length + cs.length
  | [], m => Nat.le_refl _
  | e :: cs, m => by
    have h1 := opnR_len (much := much) cs (addT m e.1 (fmul much e.2))
    have h2 := addT_len m e.1 (fmul much e.2)
    rw [List.length_cons]
    show (opnR much (addT m e.1 (fmul much e.2)) cs).length ≤ _
    omega
/-- the rows so far -/
def mI (rs : List (Str × (Int × Int))) (env : Str → Cont) (i : Nat) : Cont := (rs.take i).foldl (fun m r => opnR (fdiv r.2 (totD rs)) m (env r.1)) []
theorem mI_succ {rs : List (Str × (Int × Int))} {env : Str → Cont} {i : Nat} {r : Str × (Int × Int)} (h : rs[i]? = some r) : mI rs env (i + 1) = opnR (fdiv r.2 (totD rs)) (mI rs env i) (env r.1) := by
  unfold mI
  rw [List.take_succ, h, List.foldl_append]
  rfl
theorem ObOk.out {rs : List (Str × (Int × Int))} {env : Str → Cont} {N c M : Nat} (O : ObOk rs env N c M) : ∀ i, i ≤ rs.length → ContQ (M * N) (c * 12 * i) (mI rs env i) ∧ ((mI rs env i).map (·.1)).Nodup ∧ (mI rs env i).length ≤ 12 * i := by
  intro i
  induction i with
  | zero => exact fun _ => ⟨fun e he => (nomatch he), List.nodup_nil, Nat.le_refl _⟩
  | succ i ih =>
    intro hi
    obtain ⟨h1, h2, h3⟩ := ih (by omega)
    have hr : rs[i]? = some rs[i] := List.getElem?_eq_getElem (by omega)
    have mr := List.mem_of_getElem? hr
    rw [mI_succ hr]
    have ln := O.ln _ mr
    refine ⟨fun e he => ?_, (opnR_keys _ _ h2).1, ?_⟩
    · refine (opnR_q (O.sh _ mr) _ _ _ (O.co _ mr) h1 e he).mono (Nat.dvd_refl _) ?_
      have : 1 * c * (env rs[i].1).length ≤ c * 12 := by
        rw [Nat.one_mul]
        exact Nat.mul_le_mul_left _ ln
      have e12 : c * 12 * (i + 1) = c * 12 * i + c * 12 := Nat.mul_succ _ _
      omega
    · have := opnR_len (much := fdiv rs[i].2 (totD rs)) (env rs[i].1) (mI rs env i)
      omega
/-- .. and a part of one more -/
theorem ObOk.inn {rs : List (Str × (Int × Int))} {env : Str → Cont} {N c M : Nat} (O : ObOk rs env N c M) (h8 : rs.length ≤ 8) {i : Nat} {r : Str × (Int × Int)} (hr : rs[i]? = some r) (j : Nat) : (∀ e ∈ opnR (fdiv r.2 (totD rs)) (mI rs env i) ((env r.1).take j), IsF e.2 ∧ Bt 880 e.2) ∧ ((opnR (fdiv r.2 (totD rs)) (mI rs env i) ((env r.1).take j)).map (·.1)).Nodup ∧ (opnR (fdiv r.2 (totD rs)) (mI rs env i) ((env r.1).take j)).length ≤ 100 := by
  have hi : i < rs.length := (List.getElem?_eq_some_iff.mp hr).1
  have mr := List.mem_of_getElem? hr
  obtain ⟨h1, h2, h3⟩ := O.out i (by omega)
  have ln := O.ln _ mr
  have lt : ((env r.1).take j).length ≤ 12 := by rw [List.length_take]; omega
  refine ⟨fun e he => ?_, (opnR_keys _ _ h2).1, ?_⟩
  · have q := opnR_q (O.sh _ mr) ((env r.1).take j) _ _ (fun e he => O.co _ mr e (List.mem_of_mem_take he)) h1 e he
    have p : 0 < M * N := Nat.mul_pos O.pM O.pN
    have le : c * 12 * i + 1 * c * ((env r.1).take j).length ≤ c * 96 := by
      have a1 : c * 12 * i ≤ c * 12 * 7 := Nat.mul_le_mul_left _ (by omega)
      have a2 : 1 * c * ((env r.1).take j).length ≤ 1 * c * 12 := Nat.mul_le_mul_left _ lt
      omega
    refine ⟨q.lo, q.bt p (Nat.lt_of_le_of_lt ?_ O.b) (Nat.lt_of_le_of_lt ?_ O.b)⟩
    · exact Nat.mul_le_mul_right _ (by omega)
    · exact Nat.le_mul_of_pos_left _ (by omega)
  · have := opnR_len (much := fdiv r.2 (totD rs)) ((env r.1).take j) (mI rs env i)
    omega
theorem ObOk.sb {rs : List (Str × (Int × Int))} {env : Str → Cont} {N c M : Nat} (O : ObOk rs env N c M) {r : Str × (Int × Int)} (hr : r ∈ rs) : Bt 880 (fdiv r.2 (totD rs)) := by
  have le : M ≤ M * N := Nat.le_mul_of_pos_right _ O.pN
  have l2 : M * N ≤ (c * 96 + 1) * (M * N) := Nat.le_mul_of_pos_left _ (by omega)
  have := O.b
  exact (O.sh r hr).bt O.pM (by rw [Nat.one_mul]; omega) (by omega)
theorem ObOk.cb {rs : List (Str × (Int × Int))} {env : Str → Cont} {N c M : Nat} (O : ObOk rs env N c M) {r : Str × (Int × Int)} (hr : r ∈ rs) : ∀ e ∈ env r.1, IsF e.2 ∧ Bt 880 e.2 := fun e he => by
  have q := O.co r hr e he
  have le : N ≤ M * N := Nat.le_mul_of_pos_left _ O.pM
  have l2 : M * N ≤ (c * 96 + 1) * (M * N) := Nat.le_mul_of_pos_left _ (by omega)
  have l3 : c * N ≤ (c * 96 + 1) * (M * N) := Nat.mul_le_mul (by omega) le
  have := O.b
  exact ⟨q.lo, q.bt O.pN (by omega) (by omega)⟩
theorem ObOk.pb {rs : List (Str × (Int × Int))} {env : Str → Cont} {N c M : Nat} (O : ObOk rs env N c M) {r : Str × (Int × Int)} (hr : r ∈ rs) {e : Str × (Int × Int)} (he : e ∈ env r.1) : IsF (fmul (fdiv r.2 (totD rs)) e.2) ∧ Bt 880 (fmul (fdiv r.2 (totD rs)) e.2) := by
  have q := (O.sh r hr).mul (O.co r hr e he)
  have p : 0 < M * N := Nat.mul_pos O.pM O.pN
  have l2 : M * N ≤ (c * 96 + 1) * (M * N) := Nat.le_mul_of_pos_left _ (by omega)
  have l3 : 1 * c * (M * N) ≤ (c * 96 + 1) * (M * N) := Nat.mul_le_mul_right _ (by omega)
  have := O.b
  exact ⟨q.lo, q.bt p (by omega) (by omega)⟩
theorem RwsOk.tot_f {rs : List (Str × (Int × Int))} (ok : RwsOk rs) : IsF (totR rs) := (sum_fold _ f0 f0_f fun f hf => by
  obtain ⟨r, hr, rfl⟩ := List.mem_map.mp hf
  exact (ok.all r hr).lo).1
theorem RwsOk.tot_p {rs : List (Str × (Int × Int))} (ok : RwsOk rs) : 0 < (totR rs).1 := fold_pos _ f0 f0_f (fun f hf => by
  obtain ⟨r, hr, rfl⟩ := List.mem_map.mp hf
  exact (ok.all r hr).lo) (fun f hf => by
  obtain ⟨r, hr, rfl⟩ := List.mem_map.mp hf
  exact (ok.all r hr).po) (by decide) (.inl fun z => by
  have h1 := ok.one
  have := congrArg List.length z
  rw [List.length_map] at this
  rw [this] at h1
  cases h1)
theorem RwsOk.tot_b {rs : List (Str × (Int × Int))} (ok : RwsOk rs) : Bt 880 (totR rs) := ok.cm.tot (by rw [List.length_map]; exact ok.few)
theorem opnR_take {much : Int × Int} {m cs : Cont} {j : Nat} {e : Str × (Int × Int)} (h : cs[j]? = some e) : opnR much m (cs.take (j + 1)) = addT (opnR much m (cs.take j)) e.1 (fmul much e.2) := by
  unfold opnR
  rw [List.take_succ, h, List.foldl_append]
  rfl
section
variable {P : Program} {w : World} {K : PySem.W.Frag} {mg : Str → Option Value} {base : Heap} {c0 c1 cw : Addr}
def OpE (K : PySem.W.Frag) (H : Hp) (kv : Key × V) (e : Str × Cont) : Prop := kv.1 = Sum.inr e.1 ∧ ∃ a, kv.2 = .ref a ∧ ContAt K H a e.2
def OpAt (K : PySem.W.Frag) (H : Hp) (I : Addr) (es : List (Str × Cont)) : Prop := ∃ kvs, H I = some (.dK kvs) ∧ Paired (OpE K H) kvs es
theorem OpE.val {H : Hp} {t : Str} : ∀ {kvs : List (Key × V)} {es : List (Str × Cont)}, Paired (OpE K H) kvs es → (valV kvs (Sum.inr t) = none ∧ envOf es t = [(t, f1)]) ∨ ∃ a, valV kvs (Sum.inr t) = some (.ref a) ∧ ContAt K H a (envOf es t)
  | _, _, .nil => .inl ⟨rfl, rfl⟩
  | _, _, @Paired.cons _ _ _ kv e kvs es r tl => by
    obtain ⟨r1, a, r2, r3⟩ := r
    by_cases q : e.1 = t
    · have ee : envOf (e :: es) t = e.2 := by
        unfold envOf
        rw [List.find?_cons, decide_eq_true q]
      exact .inr ⟨a, by rw [valV_pos (by rw [r1, q]), r2], by rw [ee]; exact r3⟩
    · have ee : envOf (e :: es) t = envOf es t := by
        unfold envOf
        rw [List.find?_cons, decide_eq_false q]
      rw [ee, valV_neg (by rw [r1]; exact fun x => q (Sum.inr.inj x))]
      exact OpE.val tl
theorem AtK.butF {H H' : Hp} {D : Addr} {od : Obj} {kvs : List (Key × V)} {v : V} {f : Int × Int} (e : H D = some (.frz od (.dK kvs))) (b : But D H H') (h : AtK K H v f) : AtK K H' v f := by
  obtain ⟨p, e1, h⟩ := h
  refine ⟨p, e1, ?_⟩
  rcases h with (h | ⟨o, h⟩) | h
  · exact .inl (.inl (b _ _ (fun z => by rw [z, e] at h; cases h) h))
  · exact .inl (.inr ⟨o, b _ _ (fun z => by rw [z, e] at h; cases h) h⟩)
  · exact .inr h
theorem ContAt.but {H H' : Hp} {D a : Addr} {kvs : List (Key × V)} {m : Cont} (e : H D = some (.dK kvs)) (b : But D H H') (ne : a ≠ D) (h : ContAt K H a m) : ContAt K H' a m := let ⟨ks, h1, h2⟩ := h; ⟨ks, b _ _ ne h1, L2.Paired.mapP h2 fun _ _ h => ⟨h.1, AtK.but e b h.2⟩⟩
theorem ContAt.butF {H H' : Hp} {D a : Addr} {od : Obj} {kvs : List (Key × V)} {m : Cont} (e : H D = some (.frz od (.dK kvs))) (b : But D H H') (ne : a ≠ D) (h : ContAt K H a m) : ContAt K H' a m := let ⟨ks, h1, h2⟩ := h; ⟨ks, b _ _ ne h1, L2.Paired.mapP h2 fun _ _ h => ⟨h.1, AtK.butF e b h.2⟩⟩
theorem opat_val {H : Hp} {es : List (Str × Cont)} {kI : List (Key × V)} (pI : Paired (OpE K H) kI es) (t : Str) (q : Addr) {H6 : Hp} {p : Addr} (s6 : Same H H6) (np : H p = none) (qp : q ≠ p) (e6 : H6 q = some (.dK [(Sum.inr t, .ref c1)])) (a1 : AtK K H6 (.ref c1) f1) : ∃ ca, (valV kI (Sum.inr t)).getD (.ref q) = .ref ca ∧ ca ≠ p ∧ ContAt K H6 ca (envOf es t) := by
  rcases OpE.val (t := t) pI with ⟨h1, h2⟩ | ⟨a, h1, h2⟩
  · exact ⟨q, by rw [h1]; rfl, qp, by rw [h2]; exact ⟨_, e6, .cons ⟨rfl, a1⟩ .nil⟩⟩
  · refine ⟨a, by rw [h1]; rfl, fun z => ?_, h2.same s6⟩
    obtain ⟨ks, e, _⟩ := h2
    rw [z, np] at e
    cases e
/-- for k, v in d.items() -/
theorem for_itemsD {a : Addr} {od : Obj} {kvs : List (Key × V)} {g : TG} {tb : TS} {D : Ends} {σ : L2.St} {H : Hp} (Pv : Nat → L2.St → Hp → Prop) (h0 : Pv 0 σ H) (hl : ∀ i σ H, Pv i σ H → H a = some (.frz od (.dK kvs)))
    (hs : ∀ i k v T σ H, kvs[i]? = some (k, v) → H T = none → Pv i σ H → g (.ref T) σ (L2.upd H T (.tup [kV k, v])) fun σ2 H2 => tb { D with nx := Pv (i + 1), ct := Pv (i + 1), bk := D.nx } σ2 H2) (hd : ∀ σ H, Pv kvs.length σ H → D.nx σ H) :
    ∃ W : Nat → Nat → L2.St → Hp → Prop, (∃ m, W 0 m σ H) ∧ ∀ i m σ H, W i m σ H →
      ((Iti a od kvs).stop i H ∧ D.nx σ H) ∨ ((Iti a od kvs).go i H ∧ ∃ N : L2.St → Hp → Prop, (∀ σ' H', N σ' H' → ∃ m', m' < m ∧ W (i + 1) m' σ' H') ∧ ∀ x H', (Iti a od kvs).yld i H x H' → g x σ H' fun σ2 H2 => tb { D with nx := N, ct := N, bk := D.nx } σ2 H2) := by
  refine ⟨fun i m σ H => Pv i σ H ∧ i + m = kvs.length, ⟨kvs.length, h0, Nat.zero_add _⟩, fun i m σ H h => ?_⟩
  obtain ⟨p, e⟩ := h
  have q := hl i σ H p
  cases m with
  | zero =>
    refine .inl ⟨⟨q, by omega⟩, hd σ H ?_⟩
    rw [← e]
    exact p
  | succ m =>
    refine .inr ⟨⟨q, by omega⟩, Pv (i + 1), fun σ' H' p' => ⟨m, Nat.lt_succ_self m, p', by omega⟩, fun x H' y => ?_⟩
    obtain ⟨T, k, v, ek, rfl, nT, rfl⟩ := y
    exact hs i k v T σ H ek nT p

end
end Lf

set_option Elab.async false
set_option linter.all false
set_option maxRecDepth 100000
set_option maxHeartbeats 4000000
set_option exponentiation.threshold 3000
namespace Lf
open PySem PySem.Spec PyProof.Rows L2
theorem env_map {F : Str → Cont} {t : Str} : ∀ xs : List Str, envOf (xs.map fun n => (n, F n)) t = if t ∈ xs then F t else [(t, f1)]
  | [] => rfl
  | x :: xs => by
    have ih := env_map (F := F) (t := t) xs
    unfold envOf at ih ⊢
    rw [List.map_cons, List.find?_cons]
    by_cases q : x = t
    · subst q
      rw [decide_eq_true rfl, if_pos List.mem_cons_self]
    · rw [show decide ((x, F x).1 = t) = false from decide_eq_false q]
      have e : (t ∈ x :: xs) = (t ∈ xs) := by
        rw [List.mem_cons]
        exact propext ⟨fun h => h.elim (fun z => absurd z.symm q) id, .inr⟩
      rw [ih]
      simp only [e]
section
variable {P : Program} {w : World} {K : PySem.W.Frag} {mg : Str → Option Value} {base : Heap} {c0 c1 cw : Addr}
def OpF (K : PySem.W.Frag) (H0 : Hp) (I : Addr) (H : Hp) (kv : Key × V) (e : Str × Cont) : Prop := kv.1 = Sum.inr e.1 ∧ ∃ a, kv.2 = .ref a ∧ H0 a = none ∧ a ≠ I ∧ ContAt K H a e.2
theorem OpF.e {H0 H : Hp} {I : Addr} {kv : Key × V} {e : Str × Cont} (h : OpF K H0 I H kv e) : OpE K H kv e := let ⟨h1, a, h2, _, _, h5⟩ := h; ⟨h1, a, h2, h5⟩
theorem OpF.val {H0 H : Hp} {I : Addr} {t : Str} : ∀ {kvs : List (Key × V)} {es : List (Str × Cont)}, Paired (OpF K H0 I H) kvs es → t ∈ es.map (·.1) → ∃ a, valV kvs (Sum.inr t) = some (.ref a) ∧ H0 a = none ∧ ContAt K H a (envOf es t)
  | _, _, .nil, h => nomatch h
  | _, _, @Paired.cons _ _ _ kv e kvs es r tl, h => by
    obtain ⟨r1, a, r2, r3, _, r4⟩ := r
    by_cases q : e.1 = t
    · have ee : envOf (e :: es) t = e.2 := by
        unfold envOf
        rw [List.find?_cons, decide_eq_true q]
      exact ⟨a, by rw [valV_pos (by rw [r1, q]), r2], r3, by rw [ee]; exact r4⟩
    · have ee : envOf (e :: es) t = envOf es t := by
        unfold envOf
        rw [List.find?_cons, decide_eq_false q]
      rw [ee, valV_neg (by rw [r1]; exact fun x => q (Sum.inr.inj x))]
      refine OpF.val tl ?_
      rw [List.map_cons] at h
      exact (List.mem_cons.mp h).elim (fun z => absurd z.symm q) id
theorem OpF.none {H0 H : Hp} {I : Addr} {t : Str} : ∀ {kvs : List (Key × V)} {es : List (Str × Cont)}, Paired (OpF K H0 I H) kvs es → t ∉ es.map (·.1) → valV kvs (Sum.inr t) = none
  | _, _, .nil, _ => rfl
  | _, _, .cons r tl, h => by
    rw [List.map_cons, List.mem_cons, not_or] at h
    rw [valV_neg (by rw [r.1]; exact fun z => h.1 (Sum.inr.inj z).symm)]
    exact OpF.none tl h.2

end
end Lf

set_option Elab.async false
set_option linter.all false
set_option maxRecDepth 100000
set_option maxHeartbeats 4000000
set_option exponentiation.threshold 3000
namespace Lf
open PySem PySem.Spec PyProof.Rows L2
theorem pot_ne {q p : Addr} {H : Hp} (h : Pot H q) (n : H p = none) : p ≠ q := fun z => by
  obtain ⟨x, y, _, _, e⟩ := h
  rw [← z, n] at e
  cases e
theorem nm_inv {z : Str} (h : isNm (.str z) = true) : Nm z := by
  have h' : (decide (1 ≤ z.length) && decide (z.length ≤ 10) && z.cps.toList.all inL) = true := h
  rw [Bool.and_eq_true, Bool.and_eq_true] at h'
  exact ⟨List.all_eq_true.mp h'.2, of_decide_eq_true h'.1.1, of_decide_eq_true h'.1.2⟩
theorem eqv_nilD (ds : List PyData) : PyData.eqv (.list ds) (.list []) = ds.isEmpty := by
  cases ds with
  | nil => simp only [PyData.eqv, PyData.eqvAll, List.isEmpty_nil]
  | cons f r => simp only [PyData.eqv, PyData.eqvAll, List.isEmpty_cons]
theorem seqIx {i : Int} {n : Nat} (h0 : 0 ≤ i) (h1 : i < n) : seqIndex? i n = some i.toNat := by
  unfold seqIndex?
  simp only [show ¬ i < 0 by omega, if_false]
  rw [if_pos]
  rw [Bool.and_eq_true]
  exact ⟨decide_eq_true h0, decide_eq_true h1⟩
theorem erase_perm {α : Type} : ∀ {l : List α} {k : Nat} {y : α}, l[k]? = some y → (y :: l.eraseIdx k).Perm l
  | [], _, _, h => by simp at h
  | a :: l, 0, y, h => by
    simp at h
    subst h
    exact List.Perm.refl _
  | a :: l, k + 1, y, h => by
    have := erase_perm (l := l) (k := k) (y := y) (by simpa using h)
    exact (List.Perm.swap a y _).trans (this.cons a)
section
variable {P : Program} {w : World} {K : PySem.W.Frag} {mg : Str → Option Value} {base : Heap}

/-! ### _law_names -/
theorem sc__law_names : FnScope ["_law_pot_here", "_law_many", "_law_found", "_law_k"] ["_law_pot_here", "_law_many"] (defScope s__law_names) := ⟨rfl, rfl, rfl, by decide +kernel, rfl, by decide +kernel, by decide +kernel⟩
/-- names, each another one -/
def sp_names (K : PySem.W.Frag) : Sp := fun vs H Q _ => ∃ (q : Addr) (m : Nat), vs = [.ref q, .int m] ∧ m ≤ 25 ∧ Pot H q ∧ ∀ (l : Addr) (zs : List Str) (H' : Hp), H' l = some (.lst (zs.map V.str)) → l ≠ q → zs.length = m → zs.Nodup → (∀ z ∈ zs, Nm z) → Pot H' q → But q H H' → Q (.ref l) H'
theorem ok_names {f : Addr} {fd : FuncData} (M : Blt mg) (F : Fun K "_law_names" "_law_names" s__law_names f fd) (C__law_name : Cal P w K mg base CX0 2 "_law_name" ["_law_pot_here", "_law_taken"] (sp_name K)) : FnG P w K mg base CX0 3 f fd ["_law_pot_here", "_law_many"] (sp_names K) := by
  refine Gfun F sc__law_names (fun vs H Q E h => ?_) (fun cdv A outer s H vs Q E hg hr h => ?_)
  · obtain ⟨q, m, rfl, _⟩ := h
    rfl
  · obtain ⟨q, m, rfl, hm, hP, k⟩ := h
    refine ⟨_, (pss_cons (ps_set (i := 2) sc__law_names.nd rfl (.inl rfl) (pe_lst pa_nil))
      (pss_cons (ps_for PassesOwn.never rfl (pi_range1 rfl M.range (pa_cons (pv 1) pa_nil)) (pg_name (i := 3) sc__law_names.nd rfl (.inl rfl))
      (pss_one (ps_expr (pe_bm PySem.F.plainAttrs_list PySem.F.slot_list_append PySem.F.type_list_append mt_append (pv 2) (pa_cons (pe_g C__law_name (hr.mono (by decide)) hg (pa_cons (pv 0) (pa_cons (pv 2) pa_nil))) pa_nil)))))
      (pss_one (ps_ret (pv 2))))), ?_⟩
    refine ⟨len_show (Nat.le_of_ble_eq_true rfl), fun l nl => ?_⟩
    have nlq := pot_ne hP nl
    have s1 : Same H (L2.upd H l (.lst [])) := same_new nl
    have e1 : L2.upd H l (.lst []) l = some (.lst []) := upd_same
    generalize L2.upd H l (.lst []) = H1 at s1 e1 ⊢
    refine ⟨_, rfl, _, rfl, by omega, by omega, ?_⟩
    refine for_range (lo := 0) (n := _) (fun i σ H' => ∃ (y : Option V) (zs : List Str), σ = [some (.ref q), some (.int m), some (.ref l), y] ∧ H' l = some (.lst (zs.map V.str)) ∧ zs.length = i ∧ zs.Nodup ∧ (∀ z ∈ zs, Nm z) ∧ Pot H' q ∧ But q H H') ⟨none, [], rfl, e1, rfl, .nil, (fun z h => nomatch h), pot_same hP s1, But.rfl.same s1⟩ ?_ ?_
    · rintro i σ H2 hi ⟨y, zs, rfl, e2, hl, nd, al, P2, b2⟩
      refine ⟨_, rfl, .inl ⟨rfl, _, .inl (.inl e2)⟩, _, rfl, _, rfl, q, l, zs, rfl, nlq, P2, .inl (.inl e2), by omega, fun z hz => (al z hz).al, fun z H3 nz lz zn P3 b3 => ?_⟩
      have e3 := b3 _ _ nlq e2
      refine ⟨l, _, _, rfl, rfl, e3, by rw [List.length_map, sizeLine_eq]; omega, some (.int (0 + (i : Int))), zs ++ [z], rfl, by rw [upd_same, List.map_append]; rfl, by rw [List.length_append, hl]; rfl, ?_, ?_, ?_, ?_⟩
      · rw [List.nodup_append]
        refine ⟨nd, (by simp), fun a ha b hb e => ?_⟩
        rw [List.mem_singleton.mp hb] at e
        exact zn (e ▸ ha)
      · intro x hx
        rcases List.mem_append.mp hx with hx | hx
        · exact al x hx
        · rw [List.mem_singleton.mp hx]
          exact nm_inv nz
      · obtain ⟨x, y0, a, b, e⟩ := P3
        exact ⟨x, y0, a, b, by rw [upd_ne (fun w => nlq w.symm)]; exact e⟩
      · intro b o nb e
        rw [upd_ne (ne_of_none e nl)]
        exact b3 _ _ nb (b2 _ _ nb e)
    · rintro σ H2 ⟨y, zs, rfl, e2, hl, nd, al, P2, b2⟩
      refine ⟨_, rfl, k l zs H2 e2 nlq ?_ nd al P2 b2⟩
      omega

/-! ### _law_some -/
theorem sc__law_some : FnScope ["_law_pot_here", "_law_least", "_law_most"] ["_law_pot_here", "_law_least", "_law_most"] (defScope s__law_some) := ⟨rfl, rfl, rfl, by decide +kernel, rfl, by decide +kernel, by decide +kernel⟩
def sp_lsome (K : PySem.W.Frag) : Sp := fun vs H Q _ => ∃ (q : Addr) (l m : Int), vs = [.ref q, .int l, .int m] ∧ 0 ≤ l ∧ l ≤ 1 ∧ 0 < m ∧ m ≤ 1000 ∧ Pot H q ∧ ∀ (v : V) (f : Int × Int) (H' : Hp), IsF f → 0 ≤ f.1 → (l = 1 → 0 < f.1) → Bt 41 f → AtK K H' v f → Pot H' q → But q H H' → Q v H'
theorem ok_lsome {f : Addr} {fd : FuncData} (F : Fun K "_law_some" "_law_some" s__law_some f fd) (C__law_draw : Cal P w K mg base CX0 1 "_law_draw" ["_law_pot_here", "_law_many"] sp_draw) (C__law_low : Cal P w K mg base CX0 1 "_law_low" ["_law_top", "_law_bottom"] sp_low) : FnG P w K mg base CX0 2 f fd ["_law_pot_here", "_law_least", "_law_most"] (sp_lsome K) := by
  refine Gfun F sc__law_some (fun vs H Q E h => ?_) (fun cdv A outer s H vs Q E hg hr h => ?_)
  · obtain ⟨q, l, m, rfl, _⟩ := h
    rfl
  · obtain ⟨q, l, m, rfl, l0, l1, m0, m1, hP, k⟩ := h
    refine ⟨_, (pss_cons (ps_if (pt_cmpR op_eq (pe_g C__law_draw (hr.mono (by decide)) hg (pa_cons (pv 0) (pa_cons pe_int pa_nil))) pe_int (nomark _))
      (pss_one (ps_ret (pe_g C__law_low (hr.mono (by decide)) hg (pa_cons (pe_op op_add (pv 1) (pe_g C__law_draw (hr.mono (by decide)) hg (pa_cons (pv 0) (pa_cons (pe_op op_sub (pe_op op_pow pe_int pe_int) pe_int) pa_nil)))) (pa_cons (pe_op op_add pe_int (pe_g C__law_draw (hr.mono (by decide)) hg (pa_cons (pv 0) (pa_cons (pe_op op_sub (pe_op op_pow pe_int pe_int) pe_int) pa_nil)))) pa_nil)))))
      pss_nil)
      (pss_one (ps_ret (pe_g C__law_low (hr.mono (by decide)) hg (pa_cons (pe_op op_add (pv 1) (pe_g C__law_draw (hr.mono (by decide)) hg (pa_cons (pv 0) (pa_cons (pv 2) pa_nil)))) (pa_cons (pe_op op_add pe_int (pe_g C__law_draw (hr.mono (by decide)) hg (pa_cons (pv 0) (pa_cons pe_int pa_nil)))) pa_nil)))))), ?_⟩
    have mid : ∀ n : Int, 0 ≤ n → n < 2 ^ 41 → Mid n := fun n h0 h1 => Nat.lt_of_lt_of_le (show n.natAbs < 2 ^ 41 by omega) (Nat.pow_le_pow_right (by decide) (by decide))
    have mb : m.natAbs < 2 ^ 900 := Nat.lt_of_lt_of_le (show m.natAbs < 2 ^ 20 by omega) (Nat.pow_le_pow_right (by decide) (by decide))
    refine ⟨_, rfl, q, 3, rfl, by decide, by decide, hP, fun r1 H1 r10 r11 hP1 b1 => ⟨rfl, _, rfl, ite2 (fun e => ?_) (fun e => ?_)⟩⟩
    · refine ⟨_, rfl, _, rfl, _, _, rfl, rfl, ⟨by decide, by decide, by decide⟩, _, _, rfl, rfl, q, _, rfl, by decide, by decide, hP1, fun r2 H2 r20 r21 hP2 b2 => ?_⟩
      have r21' : r2 < 10 ^ 12 - 1 := r21
      refine ⟨_, _, rfl, rfl, _, rfl, _, _, rfl, rfl, ⟨by decide, by decide, by decide⟩, _, _, rfl, rfl, q, _, rfl, by decide, by decide, hP2, fun r3 H3 r30 r31 hP3 b3 => ?_⟩
      have r31' : r3 < 10 ^ 12 - 1 := r31
      refine ⟨_, _, rfl, rfl, _, _, rfl, by omega, mid _ (by omega) (by omega), fun H4 p4 s4 e4 => ?_⟩
      exact k _ _ H4 (low_f (by omega)) (low_top_nn (by omega) (by omega)) (fun e => low_top_pos (by omega) (by omega)) (low_bt (by omega) (by omega) (by omega)) (AtK.of e4) (pot_same hP3 s4) (((b1.trans b2).trans b3).same s4)
    · refine ⟨_, rfl, _, rfl, _, rfl, q, m, rfl, m0, mb, hP1, fun r2 H2 r20 r21 hP2 b2 => ?_⟩
      refine ⟨_, _, rfl, rfl, _, rfl, q, 9, rfl, by decide, by decide, hP2, fun r3 H3 r30 r31 hP3 b3 => ?_⟩
      refine ⟨_, _, rfl, rfl, _, _, rfl, by omega, mid _ (by omega) (by omega), fun H4 p4 s4 e4 => ?_⟩
      exact k _ _ H4 (low_f (by omega)) (low_top_nn (by omega) (by omega)) (fun e => low_top_pos (by omega) (by omega)) (low_bt (by omega) (by omega) (by omega)) (AtK.of e4) (pot_same hP3 s4) (((b1.trans b2).trans b3).same s4)

/-! ### _law_turned -/
theorem sc__law_turned : FnScope ["_law_pot_here", "_law_some_here", "_law_rest", "_law_found"] ["_law_pot_here", "_law_some_here"] (defScope s__law_turned) := ⟨rfl, rfl, rfl, by decide +kernel, rfl, by decide +kernel, by decide +kernel⟩
structure Tu (H : Hp) (q : Addr) (xs : List V) (H' : Hp) (r fo : Addr) (v1 v2 : List V) : Prop where
  hr : H' r = some (.lst v1)
  hf : H' fo = some (.lst v2)
  pm : (v2 ++ v1).Perm xs
  bt : But q H H'
  pt : Pot H' q
  nrf : r ≠ fo
  nrq : r ≠ q
  nfq : fo ≠ q
  nr : H r = none
  nf : H fo = none

def sp_turnG (K : PySem.W.Frag) : Sp := fun vs H Q _ => ∃ (q L : Addr) (xs : List V), vs = [.ref q, .ref L] ∧ Pot H q ∧ SqL K H L xs ∧ (∀ H', But q H H' → ∀ ys : List V, (∀ y ∈ ys, y ∈ xs) → ∃ ds, DpAll K H' ys ds ∧ SeqAt.shaped (.list ds) = true) ∧ xs.length ≤ 500 ∧
  ∀ (H' : Hp) (p : Addr) (ys : List V), ys.Perm xs → H p = none → H' p = some (.lst ys) → Pot H' q → But q H H' → Q (.ref p) H'
theorem ok_turnG {f : Addr} {fd : FuncData} (M : Blt mg) (ml : mg "list" = none) (F : Fun K "_law_turned" "_law_turned" s__law_turned f fd) (C__law_draw : Cal P w K mg base CX0 1 "_law_draw" ["_law_pot_here", "_law_many"] sp_draw) : FnG P w K mg base CX0 2 f fd ["_law_pot_here", "_law_some_here"] (sp_turnG K) := by
  refine Gfun F sc__law_turned (fun vs H Q E h => ?_) (fun cdv A outer s H vs Q E hg hr h => ?_)
  · obtain ⟨q, L, xs, rfl, _⟩ := h
    rfl
  · obtain ⟨q, L, xs, rfl, hP, hS, hA, hlen, k⟩ := h
    refine ⟨_, (pss_cons (ps_set (i := 2) sc__law_turned.nd rfl (.inl rfl) (pe_callTy call_list_of rfl ml bt_list (pa_cons (pv 1) pa_nil)))
      (pss_cons (ps_set (i := 3) sc__law_turned.nd rfl (.inl rfl) (pe_lst pa_nil))
      (pss_cons (ps_while PassesOwn.never (pt_cmpR (op_neD hr.units) (pv 2) (pe_lst pa_nil) (nomark _))
      (pss_one (ps_expr (pe_bm PySem.F.plainAttrs_list PySem.F.slot_list_append PySem.F.type_list_append mt_append (pv 3) (pa_cons (pe_bm PySem.F.plainAttrs_list PySem.F.slot_list_pop PySem.F.type_list_pop mt_popAt (pv 2) (pa_cons (pe_g C__law_draw (hr.mono (by decide)) hg (pa_cons (pv 0) (pa_cons (pe_callB call_len_seq rfl M.len bt_len (pa_cons (pv 2) pa_nil)) pa_nil))) pa_nil)) pa_nil)))))
      (pss_one (ps_ret (pv 3)))))), ?_⟩
    refine ⟨_, rfl, L, _, rfl, .inl hS, fun r nr => ?_⟩
    refine ⟨len_show (Nat.le_of_ble_eq_true rfl), fun fo nf => ?_⟩
    have nrq : r ≠ q := fun z => by
      obtain ⟨x, y, _, _, e⟩ := hP
      rw [← z, nr] at e
      cases e
    have nrf : r ≠ fo := fun z => by
      rw [← z, upd_same] at nf
      cases nf
    have nf' : H fo = none := by
      rw [upd_ne nrf.symm] at nf
      exact nf
    have nfq : fo ≠ q := fun z => by
      obtain ⟨x, y, _, _, e⟩ := hP
      rw [← z, nf'] at e
      cases e
    refine while_by (fun σ H' => ∃ (v1 v2 : List V), σ = [some (.ref q), some (.ref L), some (.ref r), some (.ref fo)] ∧ Tu H q xs H' r fo v1 v2)
      (fun σ H' => match σ with | [_, _, some (.ref r), _] => (match H' r with | some (.lst l) => l.length | _ => 0) | _ => 0) ⟨xs, [], rfl, ?_⟩ ?_ ?_
    · exact ⟨same_new nf _ _ upd_same, upd_same, List.Perm.refl _, fun b o _ e => same_new nf _ _ (same_new nr _ _ e), pot_same (pot_same hP (same_new nr)) (same_new nf), nrf, nrq, nfq, nr, nf'⟩
    · rintro σ H1 ⟨v1, v2, rfl, T⟩
      refine ⟨_, rfl, len_show (Nat.le_of_ble_eq_true rfl), fun em ne => ?_⟩
      have s1 := same_new (o := .lst []) ne
      obtain ⟨gs, hgs, shp⟩ := hA _ (T.bt.same s1) v1 fun v hv => T.pm.mem_iff.mp (List.mem_append_right _ hv)
      refine ⟨_, _, .lst (.inl (.inl (s1 _ _ T.hr))) hgs, .lst (.inl (.inl upd_same)) .nil, shp, (by decide), _, rfl, ?_⟩
      rw [eqv_nilD]
      have hl1 := DpAll.len hgs
      have T' : Tu H q xs (L2.upd H1 em (.lst [])) r fo v1 v2 := ⟨s1 _ _ T.hr, s1 _ _ T.hf, T.pm, T.bt.same s1, pot_same T.pt s1, T.nrf, T.nrq, T.nfq, T.nr, T.nf⟩
      have pl := T.pm.length_eq
      rw [List.length_append] at pl
      generalize L2.upd H1 em (.lst []) = H2 at T' s1 ⊢
      refine ite2 (fun e => ?_) (fun e => ?_)
      · have pos : 0 < v1.length := by
          cases gs with
          | nil => exact absurd e (by decide)
          | cons g r =>
            rw [hl1]
            exact Nat.succ_pos _
        refine ⟨_, rfl, .inl ⟨rfl, _, .inl (.inl T'.hf)⟩, _, rfl, .inl ⟨rfl, _, .inl (.inl T'.hr)⟩, _, rfl, _, rfl, r, _, rfl, .inl (.inl (.inl T'.hr)), q, _, rfl, by omega, ?_, T'.pt, fun d H3 d0 d1 hP3 b3 => ?_⟩
        · rw [Int.natAbs_natCast]
          exact Nat.lt_of_le_of_lt (show v1.length ≤ 2 ^ 10 by omega) (Nat.pow_lt_pow_right (by decide) (by decide))
        have hk : d.toNat < v1.length := by omega
        have r3 : H3 r = some (.lst v1) := b3 _ _ T'.nrq T'.hr
        have f3 : H3 fo = some (.lst v2) := b3 _ _ T'.nfq T'.hf
        refine ⟨r, v1, d, d.toNat, v1[d.toNat], rfl, rfl, r3, by omega, by omega, seqIx d0 d1, List.getElem?_eq_getElem hk, ?_⟩
        have f4 : L2.upd H3 r (.lst (v1.eraseIdx d.toNat)) fo = some (.lst v2) := by
          rw [upd_ne T'.nrf.symm]
          exact f3
        refine ⟨fo, v2, _, rfl, rfl, f4, ?_, ⟨v1.eraseIdx d.toNat, v2 ++ [v1[d.toNat]], rfl, ?_⟩, ?_⟩
        · rw [sizeLine_eq]
          omega
        · have ep := erase_perm (List.getElem?_eq_getElem hk)
          refine ⟨?_, upd_same, ?_, fun b o nb eb => ?_, ?_, T'.nrf, T'.nrq, T'.nfq, T'.nr, T'.nf⟩
          · rw [upd_ne T'.nrf, upd_same]
          · rw [List.append_assoc]
            exact (ep.append_left v2).trans T'.pm
          · rw [upd_ne (ne_of_none eb T'.nf), upd_ne (ne_of_none eb T'.nr)]
            exact b3 _ _ nb (T'.bt _ _ nb eb)
          · obtain ⟨x, y, h0, h1, eP⟩ := hP3
            refine ⟨x, y, h0, h1, ?_⟩
            rw [upd_ne T'.nfq.symm, upd_ne T'.nrq.symm]
            exact eP
        · show (match upd (L2.upd H3 r (.lst (v1.eraseIdx d.toNat))) fo (.lst (v2 ++ [v1[d.toNat]])) r with | some (.lst l) => l.length | _ => 0) < (match H1 r with | some (.lst l) => l.length | _ => 0)
          rw [upd_ne T'.nrf, upd_same, T.hr]
          show (v1.eraseIdx d.toNat).length < v1.length
          rw [List.length_eraseIdx_of_lt hk]
          omega
      · have e0 : v1 = [] := by
          cases gs with
          | nil => exact List.eq_nil_of_length_eq_zero hl1
          | cons g r => exact absurd (by rfl) e
        subst e0
        have pm := T'.pm
        rw [List.append_nil] at pm
        exact ⟨_, rfl, k _ fo v2 pm T'.nf T'.hf T'.pt T'.bt⟩
    · rintro σ H1 Q1 Q2 hq ⟨u, hu, h1, h2⟩
      refine ⟨u, hu, h1, fun p hp => ?_⟩
      obtain ⟨d, e, a1, a2, a3, a4, kk, a5, a6⟩ := h2 p hp
      exact ⟨d, e, a1, a2, a3, a4, kk, a5, hq _ _ a6⟩

end
end Lf

set_option Elab.async false
set_option linter.all false
set_option maxRecDepth 100000
set_option maxHeartbeats 4000000
set_option exponentiation.threshold 3000
namespace Lf
open PySem PySem.Spec PyProof.Rows L2
section
variable {P : Program} {w : World} {K : PySem.W.Frag} {mg : Str → Option Value} {base : Heap}
/-- a stuff's row, a dough's row, a model -/
def StT (K : PySem.W.Frag) (H : Hp) (v : V) (s : Sf) : Prop := ∃ p vs', v = .ref p ∧ SqT K H p (.str s.z :: vs') ∧ AtKs K H vs' s.ms
def DmT (K : PySem.W.Frag) (H : Hp) (v : V) (d : Dm) : Prop := ∃ p l xs, v = .ref p ∧ SqT K H p [.str d.z, .ref l, .int d.n] ∧ SqL K H l xs ∧ RwsAt K H xs d.rs
def MdAt (K : PySem.W.Frag) (H : Hp) (v : V) (ss : List Sf) (ds : List Dm) : Prop := ∃ p a b xs ys, v = .ref p ∧ SqT K H p [.ref a, .ref b] ∧ SqL K H a xs ∧ Paired (StT K H) xs ss ∧ SqL K H b ys ∧ Paired (DmT K H) ys ds
theorem StT.same {H H' : Hp} (s : Same H H') {v : V} {d : Sf} (h : StT K H v d) : StT K H' v d := let ⟨p, vs', e, h1, h2⟩ := h; ⟨p, vs', e, sm_t s h1, h2.same s⟩
theorem DmT.same {H H' : Hp} (s : Same H H') {v : V} {d : Dm} (h : DmT K H v d) : DmT K H' v d := let ⟨p, l, xs, e, h1, h2, h3⟩ := h; ⟨p, l, xs, e, sm_t s h1, sm_l s h2, h3.same s⟩
theorem MdAt.same {H H' : Hp} (s : Same H H') {v : V} {ss : List Sf} {ds : List Dm} (h : MdAt K H v ss ds) : MdAt K H' v ss ds := let ⟨p, a, b, xs, ys, e, h1, h2, h3, h4, h5⟩ := h; ⟨p, a, b, xs, ys, e, sm_t s h1, sm_l s h2, L2.Paired.mapP h3 fun _ _ => StT.same s, sm_l s h4, L2.Paired.mapP h5 fun _ _ => DmT.same s⟩
theorem fst_map (F : Str → Cont) (L : List Str) : (L.map fun n => (n, F n)).map (·.1) = L := by
  rw [List.map_map]
  exact List.map_id L
theorem OpF.val2 {H0 H : Hp} {I : Addr} {t : Str} : ∀ {kvs : List (Key × V)} {es : List (Str × Cont)}, Paired (OpF K H0 I H) kvs es → t ∈ es.map (·.1) → ∃ a, valV kvs (Sum.inr t) = some (.ref a) ∧ a ≠ I ∧ ContAt K H a (envOf es t)
  | _, _, .nil, h => nomatch h
  | _, _, @Paired.cons _ _ _ kv e kvs es r tl, h => by
    obtain ⟨r1, a, r2, _, r3, r4⟩ := r
    by_cases q : e.1 = t
    · have ee : envOf (e :: es) t = e.2 := by
        unfold envOf
        rw [List.find?_cons, decide_eq_true q]
      exact ⟨a, by rw [valV_pos (by rw [r1, q]), r2], r3, by rw [ee]; exact r4⟩
    · have ee : envOf (e :: es) t = envOf es t := by
        unfold envOf
        rw [List.find?_cons, decide_eq_false q]
      rw [ee, valV_neg (by rw [r1]; exact fun x => q (Sum.inr.inj x))]
      refine OpF.val2 tl ?_
      rw [List.map_cons] at h
      exact (List.mem_cons.mp h).elim (fun z => absurd z.symm q) id
theorem CoE.valAt {H : Hp} {j : Nat} {k : Str} {v : V} {kc : List (Key × V)} {cs : Cont} (h : Paired (CoE K H) kc cs) (nd : (cs.map (·.1)).Nodup) (hj : kc[j]? = some (Sum.inr k, v)) : valV kc (Sum.inr k) = some v := by
  induction h generalizing j with
  | nil => simp at hj
  | @cons kv e kc cs r t ih =>
    rw [List.map_cons, List.nodup_cons] at nd
    cases j with
    | zero =>
      have : kv = (Sum.inr k, v) := by simpa using hj
      rw [this]
      exact valV_pos rfl
    | succ j =>
      have hj' : kc[j]? = some (Sum.inr k, v) := by simpa using hj
      obtain ⟨e', he', hE⟩ := pget t hj'
      have ek : Sum.inr k = (Sum.inr e'.1 : Key) := hE.1
      have ne : ¬ kv.1 = Sum.inr k := fun z => by
        rw [r.1, ek] at z
        exact nd.1 (by rw [Sum.inr.inj z]; exact List.mem_map_of_mem (List.mem_of_getElem? he'))
      rw [valV_neg ne]
      exact ih nd.2 hj'
/-- for k in d -/
theorem for_keysD {a : Addr} {od : Obj} {kvs : List (Key × V)} {g : TG} {tb : TS} {D : Ends} {σ : L2.St} {H : Hp} (Pv : Nat → L2.St → Hp → Prop) (h0 : Pv 0 σ H) (hl : ∀ i σ H, Pv i σ H → H a = some (.frz od (.dK kvs)))
    (hs : ∀ i k v σ H, kvs[i]? = some (k, v) → Pv i σ H → g (kV k) σ H fun σ2 H2 => tb { D with nx := Pv (i + 1), ct := Pv (i + 1), bk := D.nx } σ2 H2) (hd : ∀ σ H, Pv kvs.length σ H → D.nx σ H) :
    ∃ W : Nat → Nat → L2.St → Hp → Prop, (∃ m, W 0 m σ H) ∧ ∀ i m σ H, W i m σ H →
      ((Itk a od kvs).stop i H ∧ D.nx σ H) ∨ ((Itk a od kvs).go i H ∧ ∃ N : L2.St → Hp → Prop, (∀ σ' H', N σ' H' → ∃ m', m' < m ∧ W (i + 1) m' σ' H') ∧ ∀ x H', (Itk a od kvs).yld i H x H' → g x σ H' fun σ2 H2 => tb { D with nx := N, ct := N, bk := D.nx } σ2 H2) := by
  refine ⟨fun i m σ H => Pv i σ H ∧ i + m = kvs.length, ⟨kvs.length, h0, Nat.zero_add _⟩, fun i m σ H h => ?_⟩
  obtain ⟨p, e⟩ := h
  have q := hl i σ H p
  cases m with
  | zero =>
    refine .inl ⟨⟨q, by omega⟩, hd σ H ?_⟩
    rw [← e]
    exact p
  | succ m =>
    refine .inr ⟨⟨q, by omega⟩, Pv (i + 1), fun σ' H' p' => ⟨m, Nat.lt_succ_self m, p', by omega⟩, fun x H' y => ?_⟩
    obtain ⟨rfl, k, v, ek, rfl⟩ := y
    exact hs i k v σ _ ek p

/-- what the law's model comes to: the stuffs, then the doughs -/
def esOf (ss : List Sf) (ds : List Dm) (i : Nat) : List (Str × Cont) := (ss.map (·.z) ++ (ds.take i).map (·.z)).map fun n => (n, opn ds n)
/-- the model's doughs lean on those ahead of them -/
def Ahead (ds : List Dm) : Prop := ∀ (i : Nat) (d : Dm), ds[i]? = some d → ∀ r ∈ d.rs, r.1 ∈ ds.map (·.z) → r.1 ∈ (ds.take i).map (·.z)

end
end Lf

set_option Elab.async false
set_option linter.all false
/-! Books whose doughs stand in another order. Plain mathematics. -/
namespace Lf
open PySem
theorem dOf_perm {ds ds' : List Dm} (p : ds'.Perm ds) (nd : (ds.map (·.z)).Nodup) (n : Str) : dOf ds' n = dOf ds n := by
  have nd' : (ds'.map (·.z)).Nodup := (p.map _).nodup_iff.mpr nd
  cases h : dOf ds n with
  | none => exact dOf_none.mpr fun q => dOf_none.mp h ((p.map _).mem_iff.mp q)
  | some d =>
    obtain ⟨h1, h2⟩ := dOf_mem h
    rw [← h2]
    exact dOf_of nd' (p.mem_iff.mpr h1)
theorem opnF_perm {ds ds' : List Dm} (p : ds'.Perm ds) (nd : (ds.map (·.z)).Nodup) : ∀ (k : Nat) (n : Str), opnF ds' k n = opnF ds k n
  | 0, n => rfl
  | k + 1, n => by
    have e : opnF ds' k = opnF ds k := funext (opnF_perm p nd k)
    unfold opnF
    rw [dOf_perm p nd n, e]
theorem opn_perm {ds ds' : List Dm} (p : ds'.Perm ds) (nd : (ds.map (·.z)).Nodup) (n : Str) : opn ds' n = opn ds n := by
  unfold opn
  rw [p.length_eq, opnF_perm p nd]
theorem gP_perm {ds ds' : List Dm} (rk : Str → Nat) (k : Nat) (p : ds'.Perm ds) : gP ds' rk k = gP ds rk k := by
  induction p with
  | nil => rfl
  | cons x _ ih =>
    show (if rk x.z < k then sOf x.rs else 1) * gP _ rk k = (if rk x.z < k then sOf x.rs else 1) * gP _ rk k
    rw [ih]
  | swap x y l =>
    show (if rk y.z < k then sOf y.rs else 1) * ((if rk x.z < k then sOf x.rs else 1) * gP l rk k) = (if rk x.z < k then sOf x.rs else 1) * ((if rk y.z < k then sOf y.rs else 1) * gP l rk k)
    exact Nat.mul_left_comm _ _ _
  | trans _ _ h1 h2 => exact h1.trans h2
theorem BkS.perm {ss : List Sf} {ds ds' : List Dm} (p : ds'.Perm ds) (B : BkS ss ds) : BkS ss ds' := by
  have pm := p.map (·.z)
  obtain ⟨rk, R⟩ := B.rk
  refine ⟨(List.Perm.append_left _ pm).nodup_iff.mpr B.nd, fun d hd => B.r8 d (p.mem_iff.mp hd), fun d hd r hr => ?_, fun d hd => B.rn d (p.mem_iff.mp hd), ⟨rk, fun d hd => ?_, fun d hd r hr ht => R.dn d (p.mem_iff.mp hd) r hr (pm.mem_iff.mp ht)⟩, B.fs, ?_⟩
  · rcases B.kn d (p.mem_iff.mp hd) r hr with q | q
    · exact .inl q
    · exact .inr (pm.mem_iff.mpr q)
  · rw [p.length_eq]
    exact R.lt d (p.mem_iff.mp hd)
  · rw [p.length_eq]
    exact B.fd
theorem BkOk.perm {ss : List Sf} {ds ds' : List Dm} (p : ds'.Perm ds) (B : BkOk ss ds) : BkOk ss ds' :=
  ⟨B.toBkS.perm p, fun d hd env he => B.ob d (p.mem_iff.mp hd) env fun r hr => by rw [he r hr, opn_perm p B.ndd]⟩
theorem BkSz.perm {ss : List Sf} {ds ds' : List Dm} (p : ds'.Perm ds) (B : BkSz ss ds) : BkSz ss ds' :=
  ⟨B.toBkS.perm p, fun d hd => B.pt d (p.mem_iff.mp hd), fun rk k => by rw [gP_perm rk k p]; exact B.gb rk k⟩
end Lf

set_option Elab.async false
set_option linter.all false
set_option maxRecDepth 100000
set_option maxHeartbeats 4000000
set_option exponentiation.threshold 3000
namespace Lf
open PySem PySem.Spec PyProof.Rows L2
section
variable {P : Program} {w : World} {K : PySem.W.Frag} {mg : Str → Option Value} {base : Heap}

theorem pperm {α β : Type} {R : α → β → Prop} {l ks : List α} (p : l.Perm ks) : ∀ {m : List β}, Paired R ks m → ∃ S, Paired R l S ∧ S.Perm m := by
  induction p with
  | nil => exact fun h => ⟨_, h, List.Perm.refl _⟩
  | cons x _ ih =>
    intro m h
    cases h with
    | cons r t =>
      obtain ⟨S, h1, h2⟩ := ih t
      exact ⟨_ :: S, .cons r h1, h2.cons _⟩
  | swap x y l =>
    intro m h
    cases h with
    | cons r t =>
      cases t with
      | cons r' t' => exact ⟨_, .cons r' (.cons r t'), List.Perm.swap _ _ _⟩
  | trans _ _ ih1 ih2 =>
    intro m h
    obtain ⟨S, h1, h2⟩ := ih2 h
    obtain ⟨S', h3, h4⟩ := ih1 h1
    exact ⟨S', h3, h4.trans h2⟩


theorem sqt_pot {q l : Addr} {H H' : Hp} {xs : List V} (b : But q H H') (hP : Pot H q) (h : SqT K H l xs) : SqT K H' l xs := by
  obtain ⟨x, y, _, _, e⟩ := hP
  rcases h with (h | ⟨o, h⟩) | h
  · exact .inl (.inl (b _ _ (fun z => by rw [z, e] at h; cases h) h))
  · exact .inl (.inr ⟨o, b _ _ (fun z => by rw [z, e] at h; cases h) h⟩)
  · exact .inr h
theorem atk_pot {q : Addr} {H H' : Hp} {v : V} {f : Int × Int} (b : But q H H') (hP : Pot H q) (h : AtK K H v f) : AtK K H' v f := let ⟨p, e, h⟩ := h; ⟨p, e, sqt_pot b hP h⟩
/-- a list of things that are no numbers is not the pot -/
theorem sql_pot {q l : Addr} {H H' : Hp} {xs : List V} (b : But q H H') (hP : Pot H q) (hx : ∀ v ∈ xs, ∃ p, v = .ref p) (h : SqL K H l xs) : SqL K H' l xs := by
  obtain ⟨x, y, _, _, e⟩ := hP
  rcases h with (h | ⟨o, h⟩) | h
  · refine .inl (.inl (b _ _ (fun z => ?_) h))
    rw [z, e] at h
    have h' : [V.int x, V.int y] = xs := HO.lst.inj (Option.some.inj h)
    obtain ⟨p, ep⟩ := hx (.int x) (by rw [← h']; exact List.mem_cons_self)
    cases ep
  · exact .inl (.inr ⟨o, b _ _ (fun z => by rw [z, e] at h; cases h) h⟩)
  · exact .inr h
theorem pmem {α β : Type} {R : α → β → Prop} {xs : List α} {ys : List β} (h : Paired R xs ys) {x : α} (hx : x ∈ xs) : ∃ y ∈ ys, R x y := by
  obtain ⟨i, hi⟩ := List.getElem?_of_mem hx
  obtain ⟨y, h1, h2⟩ := pget h hi
  exact ⟨y, List.mem_of_getElem? h1, h2⟩
theorem rws_pot {q : Addr} {H H' : Hp} {xs : List V} {rs : List (Str × (Int × Int))} (b : But q H H') (hP : Pot H q) (h : RwsAt K H xs rs) : RwsAt K H' xs rs := L2.Paired.mapP h fun _ _ h => let ⟨p, vf, e, h1, h2⟩ := h; ⟨p, vf, e, sqt_pot b hP h1, atk_pot b hP h2⟩
theorem StT.pot {q : Addr} {H H' : Hp} {v : V} {s : Sf} (b : But q H H') (hP : Pot H q) (h : StT K H v s) : StT K H' v s := let ⟨p, vs', e, h1, h2⟩ := h; ⟨p, vs', e, sqt_pot b hP h1, L2.Paired.mapP h2 fun _ _ => atk_pot b hP⟩
theorem DmT.pot {q : Addr} {H H' : Hp} {v : V} {d : Dm} (b : But q H H') (hP : Pot H q) (h : DmT K H v d) : DmT K H' v d := by
  obtain ⟨p, l, xs, e, h1, h2, h3⟩ := h
  refine ⟨p, l, xs, e, sqt_pot b hP h1, sql_pot b hP (fun v hv => ?_) h2, rws_pot b hP h3⟩
  obtain ⟨r, _, p, _, e, _⟩ := pmem h3 hv
  exact ⟨p, e⟩
/-- what a model holds can be read whatever is drawn -/
theorem MdAt.pot {q : Addr} {H H' : Hp} {v : V} {ss : List Sf} {ds : List Dm} (b : But q H H') (hP : Pot H q) (h : MdAt K H v ss ds) : MdAt K H' v ss ds := by
  obtain ⟨p, a, c, xs, ys, e, h1, h2, h3, h4, h5⟩ := h
  refine ⟨p, a, c, xs, ys, e, sqt_pot b hP h1, sql_pot b hP (fun v hv => ?_) h2, L2.Paired.mapP h3 fun _ _ => StT.pot b hP, sql_pot b hP (fun v hv => ?_) h4, L2.Paired.mapP h5 fun _ _ => DmT.pot b hP⟩
  · obtain ⟨r, _, p, _, e, _⟩ := pmem h3 hv
    exact ⟨p, e⟩
  · obtain ⟨r, _, p, _, _, e, _⟩ := pmem h5 hv
    exact ⟨p, e⟩
theorem SqT.butL {H H' : Hp} {D l : Addr} {ys : List V} {xs : List V} (e : H D = some (.lst ys)) (b : But D H H') (h : SqT K H l xs) : SqT K H' l xs := by
  rcases h with (h | ⟨o, h⟩) | h
  · exact .inl (.inl (b _ _ (fun z => by rw [z, e] at h; cases h) h))
  · exact .inl (.inr ⟨o, b _ _ (fun z => by rw [z, e] at h; cases h) h⟩)
  · exact .inr h
theorem AtK.butL {H H' : Hp} {D : Addr} {ys : List V} {v : V} {f : Int × Int} (e : H D = some (.lst ys)) (b : But D H H') (h : AtK K H v f) : AtK K H' v f := let ⟨p, e1, h⟩ := h; ⟨p, e1, SqT.butL e b h⟩
theorem DmAt.butL {H H' : Hp} {D C : Addr} {ys : List V} {v : V} {d : Dm} (e : H D = some (.lst ys)) (b : But D H H') (h : DmAt K H C v d) : DmAt K H' C v d := by
  obtain ⟨x, e1, dx, pr, xs, h1, h2, h3⟩ := h
  exact ⟨x, e1, dx, pr, xs, b _ _ (fun z => by rw [z, e] at h1; cases h1) h1, SqT.butL e b h2, L2.Paired.mapP h3 fun _ _ h => let ⟨p, vf, e2, k1, k2⟩ := h; ⟨p, vf, e2, SqT.butL e b k1, AtK.butL e b k2⟩⟩
theorem SfAt.butL {H H' : Hp} {D C : Addr} {ys : List V} {v : V} {d : Sf} (e : H D = some (.lst ys)) (b : But D H H') (h : SfAt K H C v d) : SfAt K H' C v d := by
  obtain ⟨x, e1, dx, pr, xs, h1, h2, h3⟩ := h
  exact ⟨x, e1, dx, pr, xs, b _ _ (fun z => by rw [z, e] at h1; cases h1) h1, SqT.butL e b h2, L2.Paired.mapP h3 fun _ _ => AtK.butL e b⟩
def dmD (d : Dm) : PyData := .tuple [.str d.z, .list (d.rs.map rwD), .int d.n]
theorem dm_lay : ∀ ds : List Dm, (∀ d ∈ ds, DghOk d.z d.rs d.n) → PyData.canLayAll0 (ds.map dmD) = true ∧ PyData.depthAll (ds.map dmD) ≤ 4
  | [], _ => ⟨by simp only [List.map_nil, PyData.canLayAll0], by simp only [List.map_nil, PyData.depthAll]; omega⟩
  | d :: ds, h => by
    obtain ⟨i1, i2⟩ := dm_lay ds fun x hx => h x (List.mem_cons_of_mem _ hx)
    have hd := h d List.mem_cons_self
    have e := nm_strOk hd.nm.al
    obtain ⟨j1, j2⟩ := rws_lay d.rs hd.rw_.all
    refine ⟨?_, ?_⟩
    · simp only [List.map_cons, PyData.canLayAll0, i1, dmD, PyData.canLay0, e, j1, Bool.and_self]
    · simp only [List.map_cons, PyData.depthAll, dmD, PyData.depth]
      omega
theorem dm_dp {H : Hp} : ∀ {ys : List V} {ds : List Dm}, Paired (DmT K H) ys ds → DpAll K H ys (ds.map dmD)
  | _, _, .nil => .nil
  | _, _, .cons r t => by
    obtain ⟨p, l, xs, rfl, h1, h2, h3⟩ := r
    exact .cons (.tup h1 (.cons (.str _) (.cons (.lst h2 h3.dps) (.cons (.int _) .nil)))) (dm_dp t)
theorem psub {α β : Type} {R : α → β → Prop} {xs : List α} {ds : List β} (h : Paired R xs ds) : ∀ ys : List α, (∀ y ∈ ys, y ∈ xs) → ∃ es, Paired R ys es ∧ ∀ e ∈ es, e ∈ ds
  | [], _ => ⟨[], .nil, fun e he => nomatch he⟩
  | y :: ys, hy => by
    obtain ⟨es, h1, h2⟩ := psub h ys fun z hz => hy z (List.mem_cons_of_mem _ hz)
    obtain ⟨e, h3, h4⟩ := pmem h (hy y List.mem_cons_self)
    refine ⟨e :: es, .cons h4 h1, fun x hx => ?_⟩
    rcases List.mem_cons.mp hx with z | z
    · rw [z]
      exact h3
    · exact h2 x z
theorem dm_sure {H : Hp} {q : Addr} {xs : List V} {ds : List Dm} (hP : Pot H q) (h : Paired (DmT K H) xs ds) (ok : ∀ d ∈ ds, DghOk d.z d.rs d.n) : ∀ H', But q H H' → ∀ ys : List V, (∀ y ∈ ys, y ∈ xs) → ∃ es, DpAll K H' ys es ∧ SeqAt.shaped (.list es) = true := fun H' b ys hy => by
  obtain ⟨es, h1, h2⟩ := psub h ys hy
  obtain ⟨i1, i2⟩ := dm_lay es fun d hd => ok d (h2 d hd)
  refine ⟨es.map dmD, dm_dp (L2.Paired.mapP h1 fun _ _ => DmT.pot b hP), ?_⟩
  unfold SeqAt.shaped
  rw [Bool.and_eq_true]
  refine ⟨by simp only [PyData.canLay0]; exact i1, decide_eq_true ?_⟩
  simp only [PyData.depth]
  omega

/-! ### _law_stuff_made -/
theorem sc__law_stuff_made : FnScope ["_law_row"] ["_law_row"] (defScope s__law_stuff_made) := ⟨rfl, rfl, rfl, by decide +kernel, rfl, by decide +kernel, by decide +kernel⟩
def sp_smade (K : PySem.W.Frag) (CS : Addr) : Sp := fun vs H Q _ => ∃ (v : V) (s : Sf), vs = [v] ∧ StT K H v s ∧ SfOk s.z s.ms ∧ ∀ H' u, Same H H' → SfAt K H' CS u s → Q u H'
theorem ok_smade {f : Addr} {fd : FuncData} {CS fS : Addr} {fdS : FuncData} {gS : List Value → List Value → List Value} (hS : KBn K fdS ["self", "name", "flour", "water", "salt", "thirst", "price"] (6 + 1) [] gS (fun vs zs => gAll vs [.non, .non, .non, .non, .non] zs)) (MS : MakG P w K mg base CX0 9 "Stuff" CS fS fdS ["self", "name", "flour", "water", "salt", "thirst", "price"] (sp_sinit K CS)) (F : Fun K "_law_stuff_made" "_law_stuff_made" s__law_stuff_made f fd) : FnG P w K mg base CX0 11 f fd ["_law_row"] (sp_smade K CS) := by
  refine Gfun F sc__law_stuff_made (fun vs H Q E h => ?_) (fun cdv A outer s H vs Q E hg hr h => ?_)
  · obtain ⟨v, s, rfl, _⟩ := h
    rfl
  · obtain ⟨v, s, rfl, ⟨p', vs', rfl, g1, g2⟩, ok, k⟩ := h
    refine ⟨_, (pss_one (ps_ret (pe_mkG MS hS (hr.mono (by decide)) hg (fun _ => pass_no) (pa_cons (pe_ix ix_tup (pv 0) pe_int (fun _ _ => rfl)) (pa_cons (pe_ix ix_tup (pv 0) pe_int (fun _ _ => rfl)) (pa_cons (pe_ix ix_tup (pv 0) pe_int (fun _ _ => rfl)) (pa_cons (pe_ix ix_tup (pv 0) pe_int (fun _ _ => rfl)) (pa_cons (pe_ix ix_tup (pv 0) pe_int (fun _ _ => rfl)) (pa_cons (pe_ix ix_tup (pv 0) pe_int (fun _ _ => rfl)) pa_nil))))))))), ?_⟩
    have h5' := ok.ms.five
    have hl' := g2.length
    match vs', hl'.trans h5', g1, g2 with
    | [m0, m1, m2, m3, m4], _, g1, g2 =>
    refine ⟨_, rfl, p', _, _, _, rfl, rfl, g1, atI_nat (j := 0) rfl, _, rfl, p', _, _, _, rfl, rfl, g1, atI_nat (j := 1) rfl, _, rfl, p', _, _, _, rfl, rfl, g1, atI_nat (j := 2) rfl, _, rfl, p', _, _, _, rfl, rfl, g1, atI_nat (j := 3) rfl, _, rfl, p', _, _, _, rfl, rfl, g1, atI_nat (j := 4) rfl, _, rfl, p', _, _, _, rfl, rfl, g1, atI_nat (j := 5) rfl, rfl, rfl, fun x' dx' nx nd hdx => ⟨x', dx', H, s.z, [m0, m1, m2, m3, m4], s.ms, rfl, nx, nd, hdx, rfl, g2, ok, fun H4 s4 sf => ⟨rfl, ?_⟩⟩⟩
    exact k H4 _ s4 ⟨x', rfl, sf⟩

/-! ### _law_made -/
theorem sc__law_made : FnScope ["_law_stuffs", "_law_doughs", "_law_row"] ["_law_stuffs", "_law_doughs"] (defScope s__law_made) := ⟨rfl, rfl, rfl, by decide +kernel, rfl, by decide +kernel, by decide +kernel⟩
def sp_lmade (K : PySem.W.Frag) (C CS CD : Addr) : Sp := fun vs H Q _ => ∃ (a b : Addr) (xs ys : List V) (ss : List Sf) (ds : List Dm), vs = [.ref a, .ref b] ∧ SqL K H a xs ∧ Paired (StT K H) xs ss ∧ SqL K H b ys ∧ Paired (DmT K H) ys ds ∧ (∀ s ∈ ss, SfOk s.z s.ms) ∧ (∀ d ∈ ds, DghOk d.z d.rs d.n) ∧ BkOk ss ds ∧ BkN ss ds ∧ ∀ H' x, Same H H' → BkO K H' C CS CD x ss ds → Q (.ref x) H'
set_option maxHeartbeats 16000000 in
theorem ok_lmade {f : Addr} {fd : FuncData} {C CS CD fD fB : Addr} {fdD fdB : FuncData} {gD gB : List Value → List Value → List Value} (hD : KBn K fdD ["self", "name", "rows", "lead"] (3 + 1) [] gD (fun vs zs => gAll vs [.int 0] zs)) (MD : MakG P w K mg base CX0 6 "Dough" CD fD fdD ["self", "name", "rows", "lead"] (sp_dinit K CD)) (hB : KBn K fdB ["self", "stuffs", "doughs"] (2 + 1) [] gB (fun vs zs => gAll vs [] zs)) (MB : MakG P w K mg base CX0 4 "Book" C fB fdB ["self", "stuffs", "doughs"] (sp_binit K C CS CD)) (F : Fun K "_law_made" "_law_made" s__law_made f fd) (C__law_stuff_made : Cal P w K mg base CX0 11 "_law_stuff_made" ["_law_row"] (sp_smade K CS)) : FnG P w K mg base CX0 12 f fd ["_law_stuffs", "_law_doughs"] (sp_lmade K C CS CD) := by
  refine Gfun F sc__law_made (fun vs H Q E h => ?_) (fun cdv A outer s H vs Q E hg hr h => ?_)
  · obtain ⟨a, b, xs, ys, ss, ds, rfl, _⟩ := h
    rfl
  · obtain ⟨a, b, xs, ys, ss, ds, rfl, h2, h3, h4, h5, okS, okD, B, N, k⟩ := h
    refine ⟨_, (pss_one (ps_ret (pe_mkG MB hB (hr.mono (by decide)) hg (fun _ => pass_no) (pa_cons (pe_lc (own := [("_law_row", 2)]) (g := gName 2) (tt := tYes) rfl sc__law_made.nd (pi_list (pv 0)) (blkOk_by (N := ["_law_stuffs", "_law_doughs", "_law_row"]) (sc := defScope s__law_made) (by decide +kernel)) (fun _ _ _ _ _ => pg_name (i := 2) sc__law_made.nd rfl (Or.inl rfl)) (fun _ _ _ _ _ => pts_nil) (fun _ _ _ _ _ => (pe_g C__law_stuff_made (hr.mono (by decide)) hg (pa_cons (pv 2) pa_nil)))) (pa_cons (pe_lc (own := [("_law_row", 2)]) (g := gName 2) (tt := tYes) rfl sc__law_made.nd (pi_list (pv 1)) (blkOk_by (N := ["_law_stuffs", "_law_doughs", "_law_row"]) (sc := defScope s__law_made) (by decide +kernel)) (fun _ _ _ _ _ => pg_name (i := 2) sc__law_made.nd rfl (Or.inl rfl)) (fun _ _ _ _ _ => pts_nil) (fun _ _ _ _ _ => (pe_mkG MD hD (hr.mono (by decide)) hg (fun _ => pass_no) (pa_cons (pe_ix (ix_tupK (K := K)) (pv 2) pe_int (fun _ _ => rfl)) (pa_cons (pe_ix (ix_tupK (K := K)) (pv 2) pe_int (fun _ _ => rfl)) (pa_cons (pe_ix (ix_tupK (K := K)) (pv 2) pe_int (fun _ _ => rfl)) pa_nil)))))) pa_nil))))), ?_⟩
    have l5 := plen h5
    have l3 := plen h3
    have fs := B.fs
    have fd := B.fd
    refine ⟨_, rfl, a, rfl, ⟨_, h2⟩, fun D2 hD2 => ?_⟩
    refine lc_list (xs := xs) (fun i H' => Same H H' ∧ ∃ acc2, H' D2 = some (.lst acc2) ∧ Paired (SfAt K H' CS) acc2 (ss.take i)) ⟨same_new hD2, [], upd_same, .nil⟩ (fun i H' _ h => sm_l h.1 h2) ?_ ?_
    · rintro i y H3 hy ⟨s3, acc2, eacc2, hacc2⟩
      obtain ⟨st, hst, hat⟩ := pget h3 hy
      have hi : i < xs.length := (List.getElem?_eq_some_iff.mp hy).1
      have la := plen hacc2
      rw [List.length_take] at la
      have ok := okS st (List.mem_of_getElem? hst)
      refine ⟨rfl, _, rfl, y, st, rfl, hat.same s3, ok, fun H4 u s4 sf => ⟨acc2, s4 _ _ eacc2, by rw [sizeLine_eq]; omega, fun b o e => ?_, acc2 ++ [u], upd_same, ?_⟩⟩
      · rw [upd_ne (ne_of_none e hD2)]
        exact s4 _ _ (s3 _ _ e)
      · rw [List.take_succ, hst]
        have e4 := s4 _ _ eacc2
        have b5 : But D2 H4 (L2.upd H4 D2 (.lst (acc2 ++ [u]))) := fun b o nb e => by rw [upd_ne nb]; exact e
        exact papp (L2.Paired.mapP hacc2 fun _ _ h => SfAt.butL e4 b5 (h.same s4)) (.cons (SfAt.butL e4 b5 sf) .nil)
    rintro H3 ⟨s3, acc2, eacc2, hacc2⟩
    rw [List.take_of_length_le (by omega)] at hacc2
    have hz1 := L2.Paired.mapP h5 fun _ _ => DmT.same s3
    refine ⟨_, rfl, b, rfl, ⟨_, sm_l s3 h4⟩, fun D hD => ?_⟩
    refine lc_list (xs := ys) (fun i H' => Same H3 H' ∧ ∃ acc, H' D = some (.lst acc) ∧ Paired (DmAt K H' CD) acc (ds.take i)) ⟨same_new hD, [], upd_same, .nil⟩ (fun i H' _ h => sm_l h.1 (sm_l s3 h4)) ?_ ?_
    · rintro i y H2 hy ⟨s2, acc, eacc, hacc⟩
      obtain ⟨d, hd, ⟨p', l, xs', rfl, g1, g2, g3⟩⟩ := pget hz1 hy
      have hi : i < ys.length := (List.getElem?_eq_some_iff.mp hy).1
      have la := plen hacc
      rw [List.length_take] at la
      have ok := okD d (List.mem_of_getElem? hd)
      have g1' := sm_t s2 g1
      refine ⟨rfl, _, rfl, p', _, _, _, rfl, rfl, g1', atI_nat (j := 0) rfl, _, rfl, p', _, _, _, rfl, rfl, g1', atI_nat (j := 1) rfl, _, rfl, p', _, _, _, rfl, rfl, g1', atI_nat (j := 2) rfl, rfl, rfl, fun x' dx' nx nd hdx => ⟨x', dx', H2, d.z, l, xs', d.rs, d.n, rfl, nx, nd, hdx, rfl, .inl (sm_l s2 g2), g3.same s2, ok, fun H3 s3 dg => ⟨rfl, acc, s3 _ _ eacc, by rw [sizeLine_eq]; omega, fun b o e => ?_, acc ++ [.ref x'], upd_same, ?_⟩⟩⟩
      · rw [upd_ne (ne_of_none e hD)]
        exact s3 _ _ (s2 _ _ e)
      · rw [List.take_succ, hd]
        have e3 := s3 _ _ eacc
        have b4 : But D H3 (L2.upd H3 D (.lst (acc ++ [.ref x']))) := fun b o nb e => by rw [upd_ne nb]; exact e
        exact papp (L2.Paired.mapP hacc fun _ _ h => DmAt.butL e3 b4 (h.same s3)) (.cons (DmAt.butL e3 b4 ⟨x', rfl, dg⟩) .nil)
    rintro H2 ⟨s2, acc, eacc, hacc⟩
    rw [List.take_of_length_le (by omega)] at hacc
    have N' := N
    refine ⟨rfl, rfl, fun x dx nx nd hdx => ⟨x, dx, H2, D2, D, acc2, acc, ss, ds, rfl, nx, nd, hdx, rfl, .inl (.inl (s2 _ _ eacc2)), L2.Paired.mapP hacc2 fun _ _ => SfAt.same s2, .inl (.inl eacc), hacc, B, N', fun H4 s4 bk => ⟨rfl, k H4 x ((s3.trans s2).trans s4) bk⟩⟩⟩

end
end Lf

set_option Elab.async false
set_option linter.all false
set_option maxRecDepth 100000
set_option maxHeartbeats 4000000
/-! Three measures of one bottom come to 1 at most. -/
namespace Lf
theorem three_dec : ∀ d < 21, 0 < d → ∀ a < d + 1, ∀ b < d + 1 - a, ∀ c < d + 1 - a - b, ([low ((a : Nat) : Int) (d : Nat), low (b : Nat) (d : Nat), low (c : Nat) (d : Nat)].foldl fadd f0).1 ≤ ([low ((a : Nat) : Int) (d : Nat), low (b : Nat) (d : Nat), low (c : Nat) (d : Nat)].foldl fadd f0).2 := by decide +kernel
theorem three_le {a b c d : Int} (h0 : 0 < d) (h1 : d ≤ 20) (ha : 0 ≤ a) (hb : 0 ≤ b) (hc : 0 ≤ c) (hs : a + b + c ≤ d) : rv ([low a d, low b d, low c d].foldl fadd f0) ≤ 1 := by
  have fs : AllF [low a d, low b d, low c d] := fun f hf => by
    have hd : d ≠ 0 := by omega
    simp only [List.mem_cons, List.not_mem_nil, or_false] at hf
    rcases hf with rfl | rfl | rfl <;> exact low_f hd
  refine (rv_le1 (sum_fold _ f0 f0_f fs).1).mpr ?_
  have := three_dec d.toNat (by omega) (by omega) a.toNat (by omega) b.toNat (by omega) c.toNat (by omega)
  rw [Int.toNat_of_nonneg (by omega : 0 ≤ d), Int.toNat_of_nonneg ha, Int.toNat_of_nonneg hb, Int.toNat_of_nonneg hc] at this
  exact this
end Lf

set_option Elab.async false
set_option linter.all false
set_option maxRecDepth 100000
set_option maxHeartbeats 4000000
set_option exponentiation.threshold 3000
namespace Lf
open PySem PySem.Spec PyProof.Rows L2
section
variable {P : Program} {w : World} {K : PySem.W.Frag} {mg : Str → Option Value} {base : Heap}

/-! ### _law_stuff -/
theorem sc__law_stuff : FnScope ["_law_pot_here", "_law_name_here", "_law_kind", "_law_bottom", "_law_flour", "_law_water", "_law_salt", "_law_three", "_law_thirst", "_law_one"] ["_law_pot_here", "_law_name_here"] (defScope s__law_stuff) := ⟨rfl, rfl, rfl, by decide +kernel, rfl, by decide +kernel, by decide +kernel⟩
def sp_lstuff (K : PySem.W.Frag) : Sp := fun vs H Q _ => ∃ (q : Addr) (z : Str), vs = [.ref q, .str z] ∧ Pot H q ∧ Nm z ∧ ∀ (v : V) (s : Sf) (H' : Hp), s.z = z → SfOk z s.ms → StT K H' v s → Pot H' q → But q H H' → Q v H'
set_option maxHeartbeats 16000000 in
theorem ok_lstuff {f : Addr} {fd : FuncData} (M : Blt mg) (Mx : Bltx mg) (F : Fun K "_law_stuff" "_law_stuff" s__law_stuff f fd) (C__law_draw : Cal P w K mg base CX0 1 "_law_draw" ["_law_pot_here", "_law_many"] sp_draw) (C__law_low : Cal P w K mg base CX0 1 "_law_low" ["_law_top", "_law_bottom"] sp_low) (C__law_some : Cal P w K mg base CX0 2 "_law_some" ["_law_pot_here", "_law_least", "_law_most"] (sp_lsome K)) : FnG P w K mg base CX0 3 f fd ["_law_pot_here", "_law_name_here"] (sp_lstuff K) := by
  refine Gfun F sc__law_stuff (fun vs H Q E h => ?_) (fun cdv A outer s H vs Q E hg hr h => ?_)
  · obtain ⟨q, z, rfl, _⟩ := h
    rfl
  · obtain ⟨q, z, rfl, hP, nm, k⟩ := h
    refine ⟨_, (pss_cons (ps_set (i := 2) sc__law_stuff.nd rfl (.inl rfl) (pe_g C__law_draw (hr.mono (by decide)) hg (pa_cons (pv 0) (pa_cons pe_int pa_nil))))
      (pss_cons (ps_set (i := 3) sc__law_stuff.nd rfl (.inr rfl) (pe_op op_add pe_int (pe_g C__law_draw (hr.mono (by decide)) hg (pa_cons (pv 0) (pa_cons pe_int pa_nil)))))
      (pss_cons (ps_set (i := 4) sc__law_stuff.nd rfl (.inl rfl) (pe_g C__law_draw (hr.mono (by decide)) hg (pa_cons (pv 0) (pa_cons (pe_op op_add (pv 3) pe_int) pa_nil))))
      (pss_cons (ps_set (i := 5) sc__law_stuff.nd rfl (.inl rfl) (pe_g C__law_draw (hr.mono (by decide)) hg (pa_cons (pv 0) (pa_cons (pe_op op_sub (pe_op op_add (pv 3) pe_int) (pv 4)) pa_nil))))
      (pss_cons (ps_set (i := 6) sc__law_stuff.nd rfl (.inl rfl) (pe_g C__law_draw (hr.mono (by decide)) hg (pa_cons (pv 0) (pa_cons (pe_op op_sub (pe_op op_sub (pe_op op_add (pv 3) pe_int) (pv 4)) (pv 5)) pa_nil))))
      (pss_cons (ps_setLc (i := 7) (own := [("_law_one", 9)]) (g := gName 9) (tt := tYes) rfl sc__law_stuff.nd rfl rfl (sw_true rfl rfl rfl (by decide +kernel)) (pi_tup (pe_tup (pa_cons (pv 4) (pa_cons (pv 5) (pa_cons (pv 6) pa_nil))))) (blkOk_by (N := ["_law_pot_here", "_law_name_here", "_law_kind", "_law_bottom", "_law_flour", "_law_water", "_law_salt", "_law_three", "_law_thirst", "_law_one"]) (sc := defScope s__law_stuff) (by decide +kernel)) (fun _ _ _ _ _ => pg_name (i := 9) sc__law_stuff.nd rfl (Or.inl rfl)) (fun _ _ _ _ _ => pts_nil) (fun _ _ _ _ _ => (pe_g C__law_low (hr.mono (by decide)) hg (pa_cons (pv 9) (pa_cons (pv 3) pa_nil)))))
      (C8.pss_cut (ps_if (pt_cmpR op_lt (pv 2) pe_int (nomark _))
      (pss_one (ps_set (i := 7) sc__law_stuff.nd rfl (.inl rfl) (pe_lst (pa_cons (pe_tup (pa_cons (pe_callTy call_int1 rfl M.int bt_int (pa_cons (pe_cmpR op_in_seq (pv 2) (pe_tup (pa_cons pe_int (pa_cons pe_int pa_nil))) rfl) pa_nil)) (pa_cons pe_int pa_nil))) (pa_cons (pe_tup (pa_cons (pe_callTy call_int1 rfl M.int bt_int (pa_cons (pe_cmpR op_eq (pv 2) pe_int (nomark _)) pa_nil)) (pa_cons pe_int pa_nil))) (pa_cons (pe_tup (pa_cons (pe_callTy call_int1 rfl M.int bt_int (pa_cons (pe_cmpR op_eq (pv 2) pe_int (nomark _)) pa_nil)) (pa_cons pe_int pa_nil))) pa_nil))))))
      pss_nil)
      (C8.pss_cut (ps_set (i := 8) sc__law_stuff.nd rfl (.inl rfl) (pe_ix ix_list (pe_lst (pa_cons (pe_tup (pa_cons pe_int (pa_cons pe_int pa_nil))) (pa_cons (pe_g C__law_low (hr.mono (by decide)) hg (pa_cons (pe_op op_add pe_int (pe_g C__law_draw (hr.mono (by decide)) hg (pa_cons (pv 0) (pa_cons pe_int pa_nil)))) (pa_cons (pe_op op_add pe_int (pe_g C__law_draw (hr.mono (by decide)) hg (pa_cons (pv 0) (pa_cons pe_int pa_nil)))) pa_nil))) pa_nil))) (pe_callTy call_int1 rfl M.int bt_int (pa_cons (pe_cmpR op_gt (pe_ix ix_tup (pe_ix ix_list (pv 7) pe_int (fun _ _ => rfl)) pe_int (fun _ _ => rfl)) pe_int (nomark _)) pa_nil)) (fun _ _ => rfl)))
      (pss_one (ps_ret (pe_op op_catT (pe_op op_catT (pe_tup (pa_cons (pv 1) pa_nil)) (pe_callTy call_tuple_of rfl Mx.tuple bt_tuple (pa_cons (pv 7) pa_nil))) (pe_tup (pa_cons (pv 8) (pa_cons (pe_g C__law_some (hr.mono (by decide)) hg (pa_cons (pv 0) (pa_cons pe_int (pa_cons pe_int pa_nil)))) pa_nil)))))))))))))), ?_⟩
    have sm : ∀ n : Int, 0 ≤ n → n < 2 ^ 41 → n.natAbs < 2 ^ 900 := fun n h0 h1 => Nat.lt_of_lt_of_le (show n.natAbs < 2 ^ 41 by omega) (Nat.pow_le_pow_right (by decide) (by decide))
    have mid : ∀ n : Int, 0 ≤ n → n < 2 ^ 41 → Mid n := fun n h0 h1 => Nat.lt_of_lt_of_le (show n.natAbs < 2 ^ 41 by omega) (Nat.pow_le_pow_right (by decide) (by decide))
    refine ⟨_, rfl, q, 6, rfl, by decide, by decide, hP, fun r1 H1 r10 r11 hP1 b1 => ?_⟩
    refine ⟨_, rfl, q, 20, rfl, by decide, by decide, hP1, fun r2 H2 r20 r21 hP2 b2 => ⟨_, _, rfl, rfl, ?_⟩⟩
    refine ⟨_, rfl, _, rfl, _, _, rfl, rfl, q, _, rfl, by omega, sm _ (by omega) (by omega), hP2, fun r3 H3 r30 r31 hP3 b3 => ?_⟩
    refine ⟨_, rfl, _, rfl, _, _, rfl, rfl, _, rfl, _, _, rfl, rfl, q, _, rfl, by omega, sm _ (by omega) (by omega), hP3, fun r4 H4 r40 r41 hP4 b4 => ?_⟩
    refine ⟨_, rfl, _, rfl, _, _, rfl, rfl, _, rfl, _, _, rfl, rfl, _, rfl, _, _, rfl, rfl, q, _, rfl, by omega, sm _ (by omega) (by omega), hP4, fun r5 H5 r50 r51 hP5 b5 => ?_⟩
    have b05 := (((b1.trans b2).trans b3).trans b4).trans b5
    obtain ⟨d, ed⟩ : ∃ d, d = 1 + r2 := ⟨_, rfl⟩
    have d0 : 0 < d := by omega
    have d20 : d ≤ 20 := by omega
    refine ⟨_, rfl, _, rfl, _, rfl, by show 3 ≤ sizeLine; decide, fun t nt => ?_⟩
    have s6 : Same H5 (L2.upd H5 t (.tup [.int r3, .int r4, .int r5])) := same_new nt
    have t6 : SqT K (L2.upd H5 t (.tup [.int r3, .int r4, .int r5])) t ([r3, r4, r5].map V.int) := .inl (.inl upd_same)
    generalize L2.upd H5 t (.tup [.int r3, .int r4, .int r5]) = H6 at s6 t6 ⊢
    refine ⟨t, rfl, ⟨_, t6⟩, fun D hD => ?_⟩
    refine lc_tup (xs := [r3, r4, r5].map V.int) (fun i H' => Same H6 H' ∧ ∃ acc, H' D = some (.lst acc) ∧ AtKs K H' acc (([r3, r4, r5].map fun n => low n d).take i)) ⟨same_new hD, [], upd_same, .nil⟩ (fun i H' _ h => sm_t h.1 t6) ?_ ?_
    · rintro i y H7 hy ⟨s7, acc, eacc, hacc⟩
      rw [List.getElem?_map] at hy
      obtain ⟨n, hn, rfl⟩ := Option.map_eq_some_iff.mp hy
      have hi : i < 3 := (List.getElem?_eq_some_iff.mp hn).1
      have la := hacc.length
      rw [List.length_take] at la
      refine ⟨rfl, _, rfl, _, rfl, n, d, by rw [ed], by omega, mid _ (by omega) (by omega), fun H8 p8 s8 e8 => ?_⟩
      have e9 := s8 _ _ eacc
      have b9 : But D H8 (L2.upd H8 D (.lst (acc ++ [.ref p8]))) := fun b o nb e => by rw [upd_ne nb]; exact e
      refine ⟨acc, e9, by rw [sizeLine_eq]; omega, fun b o e => ?_, acc ++ [.ref p8], upd_same, ?_⟩
      · rw [upd_ne (ne_of_none e hD)]
        exact s8 _ _ (s7 _ _ e)
      · rw [List.take_succ, List.getElem?_map, hn]
        exact papp (L2.Paired.mapP hacc fun _ _ h => AtK.butL e9 b9 (h.same s8)) (.cons (AtK.butL e9 b9 (AtK.of e8)) .nil)
    rintro H7 ⟨s7, acc, eacc, hacc⟩
    rw [List.take_of_length_le (show ([r3, r4, r5].map fun n => low n d).length ≤ ([r3, r4, r5].map V.int).length from Nat.le_refl _)] at hacc
    have fsO : ∀ f ∈ [r3, r4, r5].map fun n => low n d, IsF f ∧ 0 ≤ f.1 ∧ Bt 45 f := fun f hf => by
      obtain ⟨n, hn, rfl⟩ := List.mem_map.mp hf
      have nb : 0 ≤ n ∧ n ≤ 20 := by
        simp only [List.mem_cons, List.not_mem_nil, or_false] at hn
        omega
      exact ⟨low_f (by omega), low_top_nn (by omega) nb.1, low_bt (by omega) (by omega) (by omega)⟩
    have nDq : D ≠ q := fun z => by
      obtain ⟨x, y, _, _, e⟩ := hP5
      rw [z, s6 _ _ e] at hD
      cases hD
    refine ⟨fun σ H' => ∃ (D' : Addr) (acc : List V) (fs : List (Int × Int)), σ = [some (.ref q), some (.str z), some (.int r1), some (.int (1 + r2)), some (.int r3), some (.int r4), some (.int r5), some (.ref D'), none, none] ∧ H' D' = some (.lst acc) ∧ AtKs K H' acc fs ∧ fs.length = 3 ∧ (∀ f ∈ fs, IsF f ∧ 0 ≤ f.1 ∧ Bt 45 f) ∧ rv (fs.foldl fadd f0) ≤ 1 ∧ D' ≠ q ∧ Pot H' q ∧ But q H H', ?_, ?_⟩
    · refine ⟨_, rfl, _, _, rfl, rfl, _, rfl, ite2 (fun e => ?_) (fun e => ?_)⟩
      · have fin : ∀ (a b c : Int) (H9 : Hp) (t1 t2 t3 l : Addr), Same H7 H9 → H9 t1 = some (.tup [.int a, .int 1]) → H9 t2 = some (.tup [.int b, .int 1]) → H9 t3 = some (.tup [.int c, .int 1]) → H9 l = some (.lst [.ref t1, .ref t2, .ref t3]) → l ≠ q →
            ((a, b, c) = (1, 0, 0) ∨ (a, b, c) = (0, 1, 0) ∨ (a, b, c) = (0, 0, 1)) → ∃ (D' : Addr) (acc : List V) (fs : List (Int × Int)), [some (V.ref q), some (.str z), some (.int r1), some (.int (1 + r2)), some (.int r3), some (.int r4), some (.int r5), some (.ref l), none, none] = [some (.ref q), some (.str z), some (.int r1), some (.int (1 + r2)), some (.int r3), some (.int r4), some (.int r5), some (.ref D'), none, none] ∧ H9 D' = some (.lst acc) ∧ AtKs K H9 acc fs ∧ fs.length = 3 ∧ (∀ f ∈ fs, IsF f ∧ 0 ≤ f.1 ∧ Bt 45 f) ∧ rv (fs.foldl fadd f0) ≤ 1 ∧ D' ≠ q ∧ Pot H9 q ∧ But q H H9 := by
          intro a b c H9 t1 t2 t3 l s9 e1 e2 e3 el nl cs
          refine ⟨l, _, [(a, 1), (b, 1), (c, 1)], rfl, el, .cons (AtK.of e1) (.cons (AtK.of e2) (.cons (AtK.of e3) .nil)), rfl, ?_, ?_, nl, pot_same hP5 ((s6.trans s7).trans s9), b05.same ((s6.trans s7).trans s9)⟩
          · intro f hf
            rcases cs with cs | cs | cs <;> cases cs <;> simp only [List.mem_cons, List.not_mem_nil, or_false] at hf <;> rcases hf with rfl | rfl | rfl <;> exact ⟨⟨by decide, by decide⟩, by decide, by decide, by decide⟩
          · rcases cs with cs | cs | cs <;> cases cs <;> exact (rv_le1 ⟨by decide +kernel, by decide +kernel⟩).mpr (by decide +kernel)
        have e' : r1 < 4 := of_decide_eq_true e
        have hk : r1 = 0 ∨ r1 = 1 ∨ r1 = 2 ∨ r1 = 3 := by omega
        clear fsO hacc b1 b2 b3 b4 b5
        refine ⟨_, rfl, len_show (Nat.le_of_ble_eq_true rfl), fun t0 n0 => ⟨t0, _, rfl, .inr (.inl (.inl upd_same)), rfl, ?_, .inr ⟨_, rfl, len_show (Nat.le_of_ble_eq_true rfl), fun t1 n1 => ?_⟩⟩⟩
        · show ([V.int 0, V.int 3] : List V).all flatV = true
          rfl
        have s8 : Same H7 (L2.upd H7 t0 (.tup [.int 0, .int 3])) := same_new n0
        generalize L2.upd H7 t0 (.tup [.int 0, .int 3]) = H8 at s8 n1 ⊢
        have s9 := s8.trans (same_new (o := .tup [.int (if (if false = true then !inV (.int r1) [.int 0, .int 3] else inV (.int r1) [.int 0, .int 3]) = true then 1 else 0), .int 1]) n1)
        have e9 : L2.upd H8 t1 (.tup [.int (if (if false = true then !inV (.int r1) [.int 0, .int 3] else inV (.int r1) [.int 0, .int 3]) = true then 1 else 0), .int 1]) t1 = some (.tup [.int (if (if false = true then !inV (.int r1) [.int 0, .int 3] else inV (.int r1) [.int 0, .int 3]) = true then 1 else 0), .int 1]) := upd_same
        refine ⟨_, rfl, rfl, .inr ⟨_, rfl, len_show (Nat.le_of_ble_eq_true rfl), fun t2 n2 => ?_⟩⟩
        generalize L2.upd H8 t1 (.tup [.int (if (if false = true then !inV (.int r1) [.int 0, .int 3] else inV (.int r1) [.int 0, .int 3]) = true then 1 else 0), .int 1]) = H9 at s9 e9 n2 ⊢
        have s10 : Same H9 (L2.upd H9 t2 (.tup [.int (if decide (V.int r1 = V.int 1) = true then 1 else 0), .int 1])) := same_new n2
        have e10 : L2.upd H9 t2 (.tup [.int (if decide (V.int r1 = V.int 1) = true then 1 else 0), .int 1]) t2 = some (.tup [.int (if decide (V.int r1 = V.int 1) = true then 1 else 0), .int 1]) := upd_same
        refine ⟨_, rfl, rfl, .inr ⟨_, rfl, len_show (Nat.le_of_ble_eq_true rfl), fun t3 n3 => ?_⟩⟩
        generalize L2.upd H9 t2 (.tup [.int (if decide (V.int r1 = V.int 1) = true then 1 else 0), .int 1]) = H10 at s10 e10 n3 ⊢
        have s11 : Same H10 (L2.upd H10 t3 (.tup [.int (if decide (V.int r1 = V.int 2) = true then 1 else 0), .int 1])) := same_new n3
        have e11 : L2.upd H10 t3 (.tup [.int (if decide (V.int r1 = V.int 2) = true then 1 else 0), .int 1]) t3 = some (.tup [.int (if decide (V.int r1 = V.int 2) = true then 1 else 0), .int 1]) := upd_same
        refine ⟨len_show (Nat.le_of_ble_eq_true rfl), fun l nl => ?_⟩
        generalize L2.upd H10 t3 (.tup [.int (if decide (V.int r1 = V.int 2) = true then 1 else 0), .int 1]) = H11 at s11 e11 nl ⊢
        have s12 : Same H11 (L2.upd H11 l (.lst [.ref t1, .ref t2, .ref t3])) := same_new nl
        have s711 := (s9.trans s10).trans s11
        refine fin _ _ _ _ t1 t2 t3 l (s711.trans s12) (s12 _ _ (s11 _ _ (s10 _ _ e9))) (s12 _ _ (s11 _ _ e10)) (s12 _ _ e11) upd_same (pot_ne (pot_same hP5 ((s6.trans s7).trans s711)) nl) ?_
        rcases hk with rfl | rfl | rfl | rfl
        · exact .inl rfl
        · exact .inr (.inl rfl)
        · exact .inr (.inr rfl)
        · exact .inl rfl
      · exact ⟨D, acc, _, rfl, eacc, hacc, rfl, fsO, three_le d0 d20 r30 r40 r50 (by omega), nDq, pot_same hP5 (s6.trans s7), b05.same (s6.trans s7)⟩
    · rintro σ H8 ⟨D', acc8, fs, rfl, eD, hA, l3, fO, s1, nD, hP8, b8⟩
      obtain ⟨g1, g2, g3, rfl⟩ : ∃ a b c, fs = [a, b, c] := by
        match fs, l3 with
        | [a, b, c], _ => exact ⟨a, b, c, rfl⟩
      obtain ⟨v1, v2, v3, rfl, h1, h2, h3⟩ : ∃ a b c, acc8 = [a, b, c] ∧ AtK K H8 a g1 ∧ AtK K H8 b g2 ∧ AtK K H8 c g3 := by
        cases hA with
        | cons a1 hA => cases hA with
          | cons a2 hA => cases hA with
            | cons a3 hA =>
              cases hA
              exact ⟨_, _, _, rfl, a1, a2, a3⟩
      -- the thirst
      have fO1 := fO g1 (by simp)
      have fO2 := fO g2 (by simp)
      have fO3 := fO g3 (by simp)
      refine ⟨fun σ H' => ∃ (vt : V) (ft : Int × Int), σ = [some (.ref q), some (.str z), some (.int r1), some (.int (1 + r2)), some (.int r3), some (.int r4), some (.int r5), some (.ref D'), some vt, none] ∧ H' D' = some (.lst [v1, v2, v3]) ∧ AtK K H' v1 g1 ∧ AtK K H' v2 g2 ∧ AtK K H' v3 g3 ∧ AtK K H' vt ft ∧ IsF ft ∧ 0 ≤ ft.1 ∧ Bt 45 ft ∧ Pot H' q ∧ But q H H', ?_, ?_⟩
      refine ⟨len_show (Nat.le_of_ble_eq_true rfl), fun t1 n1 => ?_⟩
      have s9 : Same H8 (L2.upd H8 t1 (.tup [.int 0, .int 1])) := same_new n1
      have e9 : L2.upd H8 t1 (.tup [.int 0, .int 1]) t1 = some (.tup [.int 0, .int 1]) := upd_same
      generalize L2.upd H8 t1 (.tup [.int 0, .int 1]) = H9 at s9 e9 ⊢
      refine ⟨_, rfl, q, 12, rfl, by decide, by decide, pot_same hP8 s9, fun r6 H10 r60 r61 hP10 b10 => ⟨_, _, rfl, rfl, ?_⟩⟩
      refine ⟨_, rfl, q, 12, rfl, by decide, by decide, hP10, fun r7 H11 r70 r71 hP11 b11 => ⟨_, _, rfl, rfl, ?_⟩⟩
      refine ⟨_, _, rfl, by omega, mid _ (by omega) (by omega), fun H12 p12 s12 e12 => ?_⟩
      have hP12 := pot_same hP11 s12
      have b912 : But q H9 H12 := (b10.trans b11).same s12
      have e912 := b912 _ _ (pot_ne hP8 n1) e9
      have b812 : But q H8 H12 := fun b o nb e => b912 _ _ nb (s9 _ _ e)
      have eD12 := b812 _ _ nD eD
      refine ⟨len_show (Nat.le_of_ble_eq_true rfl), fun l nl => ?_⟩
      have s13 : Same H12 (L2.upd H12 l (.lst [.ref t1, .ref p12])) := same_new nl
      have e13 : L2.upd H12 l (.lst [.ref t1, .ref p12]) l = some (.lst [.ref t1, .ref p12]) := upd_same
      generalize L2.upd H12 l (.lst [.ref t1, .ref p12]) = H13 at s13 e13 ⊢
      have b813 := b812.same s13
      have k1 := atk_pot b813 hP8 h1
      have k2 := atk_pot b813 hP8 h2
      have k3 := atk_pot b813 hP8 h3
      obtain ⟨p1, rfl, hp1⟩ := id k1
      refine ⟨_, rfl, D', _, _, _, rfl, rfl, .inl (.inl (s13 _ _ eD12)), atI_nat (j := 0) rfl, p1, _, _, _, rfl, rfl, hp1, atI_nat (j := 0) rfl, _, _, rfl, rfl, .inr ⟨_, rfl, ?_⟩⟩
      have hP13 := pot_same hP12 s13
      have b13 := b8.trans b813
      by_cases c : g1.1 > 0
      · refine ⟨l, _, _, _, rfl, rfl, .inl (.inl e13), ?_, _, _, rfl, s13 _ _ eD12, k1, k2, k3, AtK.of (s13 _ _ e12), low_f (by omega), low_top_nn (by omega) (by omega), low_bt (by omega) (by omega) (by omega), hP13, b13⟩
        rw [decide_eq_true c]
        exact atI_nat (j := 1) rfl
      · refine ⟨l, _, _, _, rfl, rfl, .inl (.inl e13), ?_, _, _, rfl, s13 _ _ eD12, k1, k2, k3, AtK.of (f := f0) (s13 _ _ e912), f0_f, by decide, ⟨by decide, by decide⟩, hP13, b13⟩
        rw [decide_eq_false c]
        exact atI_nat (j := 0) rfl
      rintro σ H9 ⟨vt, ft, rfl, eD9, k1, k2, k3, kt, tf, t0, tb, hP9, b9⟩
      refine ⟨_, rfl, len_show (Nat.le_of_ble_eq_true rfl), fun t1 n1 => ?_⟩
      have s10 : Same H9 (L2.upd H9 t1 (.tup [.str z])) := same_new n1
      have e10 : L2.upd H9 t1 (.tup [.str z]) t1 = some (.tup [.str z]) := upd_same
      generalize L2.upd H9 t1 (.tup [.str z]) = H10 at s10 e10 ⊢
      refine ⟨_, rfl, D', _, rfl, .inl ⟨.inl (.inl (s10 _ _ eD9)), fun t2 n2 => ?_⟩⟩
      have s11 : Same H10 (L2.upd H10 t2 (.tup [v1, v2, v3])) := same_new n2
      have e11 : L2.upd H10 t2 (.tup [v1, v2, v3]) t2 = some (.tup [v1, v2, v3]) := upd_same
      generalize L2.upd H10 t2 (.tup [v1, v2, v3]) = H11 at s11 e11 ⊢
      refine ⟨t1, t2, _, _, rfl, rfl, .inl (.inl (s11 _ _ e10)), .inl (.inl e11), (by simp), by rw [sizeLine_eq]; exact Nat.le_of_ble_eq_true rfl, fun z => (nomatch z), fun _ t3 n3 => ?_⟩
      have s12 : Same H11 (L2.upd H11 t3 (.tup [.str z, v1, v2, v3])) := same_new n3
      have e12 : L2.upd H11 t3 (.tup [.str z, v1, v2, v3]) t3 = some (.tup [.str z, v1, v2, v3]) := upd_same
      refine ⟨_, rfl, _, rfl, q, 0, 50, rfl, by decide, by decide, by decide, by decide, pot_same hP9 ((s10.trans s11).trans s12), fun vp fp H13 fl f0' _ fb k4 hP13 b13 => ?_⟩
      have b1213 := b13
      change But q (L2.upd H11 t3 (.tup [.str z, v1, v2, v3])) H13 at b1213
      generalize L2.upd H11 t3 (.tup [.str z, v1, v2, v3]) = H12 at s12 e12 b1213
      have s912 := (s10.trans s11).trans s12
      have hP12 := pot_same hP9 s912
      have e13 := b1213 _ _ (pot_ne (pot_same hP9 (s10.trans s11)) n3) e12
      refine ⟨len_show (Nat.le_of_ble_eq_true rfl), fun t4 n4 => ?_⟩
      have s14 : Same H13 (L2.upd H13 t4 (.tup [vt, vp])) := same_new n4
      have e14 : L2.upd H13 t4 (.tup [vt, vp]) t4 = some (.tup [vt, vp]) := upd_same
      generalize L2.upd H13 t4 (.tup [vt, vp]) = H14 at s14 e14 ⊢
      refine ⟨t3, t4, _, _, rfl, rfl, .inl (.inl (s14 _ _ e13)), .inl (.inl e14), (by simp), by rw [sizeLine_eq]; exact Nat.le_of_ble_eq_true rfl, fun z => (nomatch z), fun _ t5 n5 => ?_⟩
      have s15 : Same H14 (L2.upd H14 t5 (.tup [.str z, v1, v2, v3, vt, vp])) := same_new n5
      have up : ∀ {v : V} {f : Int × Int}, AtK K H9 v f → AtK K (L2.upd H14 t5 (.tup [.str z, v1, v2, v3, vt, vp])) v f := fun h => ((atk_pot b1213 hP12 (h.same s912)).same s14).same s15
      refine k _ ⟨z, [g1, g2, g3, ft, fp]⟩ _ rfl ⟨nm, ⟨rfl, ?_, s1⟩⟩ ⟨t5, _, rfl, .inl (.inl upd_same), .cons (up k1) (.cons (up k2) (.cons (up k3) (.cons (up kt) (.cons ((k4.same s14).same s15) .nil))))⟩ (pot_same hP13 (s14.trans s15)) ?_
      · intro f hf
        simp only [List.mem_cons, List.not_mem_nil, or_false] at hf
        rcases hf with rfl | rfl | rfl | rfl | rfl
        · exact fO1
        · exact fO2
        · exact fO3
        · exact ⟨tf, t0, tb⟩
        · exact ⟨fl, f0', fb.mono (by decide)⟩
      · exact ((b9.same s912).trans b1213).same (s14.trans s15)

end
end Lf

set_option Elab.async false
set_option linter.all false
set_option maxRecDepth 100000
set_option maxHeartbeats 4000000
/-! list(reversed(x)), x a list. -/
namespace Lf
open PySem PySem.Spec PyProof.Rows L2
section
variable {prog : Program} {w : World} {A : Around} {E : Value → Shared → Prop} {s : Shared}
abbrev emptyL (c : Nat) : Obj := { cls := .type "list", data := .seq #[] c }
/-- what a walk back over items leaves -/
def Backs (items acc : Array Value) : Prop := ItemsOf (fun i v => items[items.size - 1 - i]? = some v) acc items.size
theorem ext_rev {R : Result → Shared → Prop} {it l S : Addr} {c0 : Nat} {items : Array Value} {res : Value} (calm : A.handled = none) (fi : s.heap.IsRevIter it l ((items.size : Int) - 1)) (fl : s.heap.IsList l items) (nli : l ≠ it) (nSi : S ≠ it) (nSl : S ≠ l) (few : items.size ≤ sizeLine)
    (eS : s.heap.get? S = some (emptyL c0))
    (k : ∀ (h' : Heap) (tk : Nat) (acc : Array Value) (c : Nat), (∀ b o, b ≠ S → b ≠ it → s.heap.get? b = some o → h'.get? b = some o) → h'.get? S = some { cls := .type "list", dict := none, data := .seq acc c, slots := #[] } → Backs items acc → R (.ok (.ret res)) { s with heap := h', toks := tk }) :
    wpAny (model prog w) A.in1 (Builtin.List.listExtendWith (.ref S) (.ref it) res) (fun fin s' => match fin with | .done f => R (.ok f) s' | .again c' => c'.quiet = true ∧ codeAny (model prog w) A c' R s') (fun e s' => R (.error e) s') s := by
  have walk := (Walks.listRev (prog := prog) (w := w) (A := A.in1) calm it l nli items).toS
  have ty : s.TypeIs (.ref it) "list_reverseiterator" := fi.typeIs
  have out : S ∉ [it, l] := fun z => by
    rcases List.mem_cons.mp z with z | z
    · exact nSi z
    · exact nSl (List.mem_singleton.mp z)
  have unlike : Builtin.List.listSameRef (.ref S) (.ref it) = false := by simp [Builtin.List.listSameRef, nSi]
  unfold Builtin.List.listExtendWith
  refine wpAny_bind (wpAny_typeOf ty ?_)
  rw [if_neg (by rw [unlike]; exact fun z => absurd z (by decide))]
  refine wpAny_bind (wpAny_pyIter_revIter fi (wpAny_bind (wpAny_holding ?_)))
  unfold Builtin.List.listLengthHint
  refine wpAny_bind (wpAny_specialOf ty RT.nolen_lri ?_)
  show wpAny _ _ (specialOf _ (Str.ofString "__length_hint__") >>= _) _ _ _
  refine wpAny_bind (wpAny_specialOf ty RT.hint_lri ?_)
  generalize hid : ("list_reverseiterator.__length_hint__" : String) = nm
  wp_delta
  rw [show splitId nm = some ("list_reverseiterator", "__length_hint__") from hid ▸ by decide +kernel]
  subst hid
  refine wpAny_bind (wpAny_isInstance ty (b := true) (by rw [isSubtype_type]; kernel_rfl) (wpAny_pure ?_))
  rw [if_neg (fun z => absurd z (by decide))]
  have z0 : ((items.size : Nat) : Int) - 1 - ((0 : Nat) : Int) = (items.size : Int) - 1 := Int.sub_zero _
  refine wpAny_pure ⟨plainId_quiet F.plain_extend_loop _, ?_⟩
  refine codeAny_extend_loopS walk few S out res items.size 0 s #[] c0 rfl (Nat.zero_le _) ⟨Nat.zero_le _, by rw [z0]; exact fi, fl⟩ eS (ItemsOf.nil _) ?_
  intro s' acc c mv e' bk
  rw [Moved.eq_with mv]
  refine k s'.heap s'.toks acc c (fun b o n1 n2 e => mv.heap b o (fun m => ?_) e) e' bk
  rcases List.mem_cons.mp m with m | m
  · exact n1 m
  · exact n2 (List.mem_singleton.mp m)
theorem init_rev {R : Result → Shared → Prop} {it l S : Addr} {items : Array Value} (calm : A.handled = none) (fi : s.heap.IsRevIter it l ((items.size : Int) - 1)) (fl : s.heap.IsList l items) (nli : l ≠ it) (nSi : S ≠ it) (nSl : S ≠ l) (few : items.size ≤ sizeLine)
    (eS : s.heap.get? S = some { cls := .type "list", data := .seq #[] })
    (k : ∀ (h' : Heap) (tk : Nat) (acc : Array Value) (c : Nat), (∀ b o, b ≠ S → b ≠ it → s.heap.get? b = some o → h'.get? b = some o) → h'.get? S = some { cls := .type "list", dict := none, data := .seq acc c, slots := #[] } → Backs items acc → R (.ok (.ret .none)) { s with heap := h', toks := tk }) :
    wpAny (model prog w) A.in1 (Builtin.«list.__init__» ⟨[.ref S, .ref it], []⟩) (fun fin s' => match fin with | .done f => R (.ok f) s' | .again c' => c'.quiet = true ∧ codeAny (model prog w) A c' R s') (fun e s' => R (.error e) s') s := by
  have keep : ∀ (b : Addr) (o : Obj), b ≠ S → s.heap.get? b = some o → (s.heap.update S (Obj.mapSeq fun _ => (#[] : Array Value))).get? b = some o := fun b o n e => by
    rw [Heap.get?_update_other _ _ n.symm]
    exact e
  show wpAny _ _ (do let was ← Builtin.List.listItems (.ref S); Builtin.List.listUpdate (.ref S) (fun _ => #[]); letGo was.toList.reverse; Builtin.List.listExtendWith (.ref S) (.ref it) .none) _ _ s
  refine wpAny_bind ?_
  unfold Builtin.List.listItems
  refine wpAny_bind (wpAny_seqItems eS rfl (wpAny_pure ?_))
  show wpAny _ _ (updateSeq S (fun _ => #[]) >>= fun _ => letGo ([] : List Value) >>= fun _ => Builtin.List.listExtendWith (.ref S) (.ref it) .none) _ _ s
  refine wpAny_bind (wpAny_updateSeq eS rfl (wpAny_bind (wpAny_letGo ?_)))
  obtain ⟨ol, hol, hr⟩ := id fl
  refine ext_rev calm (fi.at fun o e => keep _ _ nSi.symm e) ⟨ol, keep _ _ nSl.symm hol, hr⟩ nli nSi nSl few (Heap.get?_update_self (Obj.mapSeq fun _ => (#[] : Array Value)) eS rfl) fun h' tk acc c kp e b => ?_
  exact k h' tk acc c (fun b o n1 n2 e => kp b o n1 n2 (keep b o n1 e)) e b
theorem call_listRev {it l : Addr} {items : Array Value} {Q : Value → Shared → Prop} (calm : A.handled = none) (fi : s.heap.IsRevIter it l ((items.size : Int) - 1)) (fl : s.heap.IsList l items) (nli : l ≠ it) (few : items.size ≤ sizeLine)
    (k : ∀ (h' : Heap) (tk : Nat) (acc : Array Value) (c : Nat), (∀ b o, b ≠ it → s.heap.get? b = some o → h'.get? b = some o) → h'.get? s.heap.objs.size = some { cls := .type "list", dict := none, data := .seq acc c, slots := #[] } → Backs items acc → Q (.ref s.heap.objs.size) { s with heap := h', toks := tk }) :
    wpAny (model prog w) A (call (.type "list") [.ref it]) Q E s := by
  obtain ⟨oi, hi, _⟩ := id fi
  obtain ⟨ol, hl, _⟩ := id fl
  refine callType_codes (Q₁ := fun v t => v = .ref s.heap.objs.size ∧ t = { s with heap := s.heap.push { cls := .type "list", data := .seq #[] } }) F.called_list (F.typeCall_list_1 _) F.entry_list_init (code_list_new _ ⟨rfl, rfl⟩) ?_
  rintro v t ⟨rfl, rfl⟩
  have eS : (s.heap.push { cls := .type "list", data := .seq #[] }).get? s.heap.objs.size = some { cls := .type "list", data := .seq #[] } := Heap.get?_push_size _ rfl
  refine ⟨⟨_, eS, rfl⟩, F.args_list_init_2 _ _, ?_⟩
  refine init_rev (A := A.in1) calm (fi.at fun o e => Heap.get?_push_of_some _ e) (fl.push _) nli (Nat.ne_of_gt (Heap.lt_size hi)) (Nat.ne_of_gt (Heap.lt_size hl)) few eS fun h' tk acc c kp e b => ⟨rfl, ?_⟩
  exact k h' tk acc c (fun b o n e => kp b o (Nat.ne_of_lt (Heap.lt_size e)) n (Heap.get?_push_of_some _ e)) e b
end
section
variable {X : Cx}
/-- list(reversed(x)): a new list -/
def tListRev (K : PySem.W.Frag) (te : TE) : TE := fun σ H Q => te σ H fun v H1 => ∃ (a : Addr) (xs : List V), v = .ref a ∧ SqL K H1 a xs ∧ ∀ q, H1 q = none → Q (.ref q) (upd H1 q (.lst xs.reverse))
theorem pe_listRev {e : Expr} {te : TE} {p p2 pos pos2 : Pos} (calm : X.calm = true) (g1 : Gl X "list") (m1 : X.mg "list" = none) (g2 : Gl X "reversed") (m2 : X.mg "reversed" = none) (pe : PE X e te)
    (st : starEach [e] X.env = (false, eval e X.env) :: starEach [] X.env := by rfl)
    (st2 : starEach [.Call (.Name "reversed" p2) [e] [] pos2] X.env = (false, eval (.Call (.Name "reversed" p2) [e] [] pos2) X.env) :: starEach [] X.env := by rfl) :
    PE X (.Call (.Name "list" p) [.Call (.Name "reversed" p2) [e] [] pos2] [] pos) (tListRev X.K te) := by
  constructor
  intro pins s σ H Q I h
  refine Call_ (ld_blt I g1 m1 boot_list (PyProof.Rows.callWith_type1 (args_cons ?_ st2) st2))
  refine Call_ (ld_blt I g2 m2 PyProof.Rows.boot_reversed (PyProof.Rows.callWith_type1 (args_cons (thn (pe.run pins s σ H _ I h) ?_) st) st rfl))
  rintro u s1 ⟨v, H1, I1, r1, a, xs, rfl, sq, q⟩
  refine args_nil ?_
  obtain rfl : u = Value.ref a := r1
  obtain ⟨its, rv, pl, hz⟩ := I1.list sq
  have il := pl.isList
  obtain ⟨ol, hol, _⟩ := id il
  refine call_reversed_list il (args_nil ?_)
  have I2 : Inv X pins σ H1 { s1 with heap := s1.heap.push (revObj a ((its.toArray.size : Int) - 1)) } := I1.kept (t' := s1.toks) fun b o e => Heap.get?_push_of_some _ e
  have fp := I1.fpOk (H' := H1) (b := s1.heap.objs.size) (Nat.le_refl _) (I1.hok.fresh (Nat.le_refl _))
  have few : its.toArray.size ≤ sizeLine := by rw [List.size_toArray, ← rv.length]; exact hz
  refine call_listRev (s := { s1 with heap := s1.heap.push (revObj a ((its.toArray.size : Int) - 1)) }) (I1.ok.hd calm) ⟨_, Heap.get?_push_size _ rfl, rfl, rfl⟩ (il.push _) (Nat.ne_of_lt (Heap.lt_size hol)) few fun h' tk acc c kp e b => ?_
  refine ⟨.ref _, _, I2.turnedNew (t' := tk) (ch := [s1.heap.objs.size]) (T := _) (ob := .lst xs.reverse) (fun b o n e => kp b o (fun z => n (by rw [z]; exact List.mem_singleton_self _)) e) (fun b hb => by rw [List.mem_singleton.mp hb]; exact fp) (Nat.le_refl _) ⟨by rw [List.length_reverse]; exact hz, acc.toList, c, RT.vals_rev rv b, ?_⟩, rfl, q _ (I2.hok.fresh (Nat.le_refl _))⟩
  rw [Array.toArray_toList]
  exact e
end
end Lf

set_option Elab.async false
set_option linter.all false
set_option maxHeartbeats 4000000
set_option exponentiation.threshold 3000
/-! Books of small parts: how large what they come to can grow. Plain mathematics. -/
namespace Lf
open PySem
/-- parts of at most t above and b below -/
structure PtC (t b : Nat) (f : Int × Int) : Prop where
  lo : IsF f
  po : 0 < f.1
  tp : f.1 ≤ t
  bo : f.2 ≤ b
theorem PtC.mono {t b t' b' : Nat} {f : Int × Int} (h : PtC t b f) (ht : t ≤ t') (hb : b ≤ b') : PtC t' b' f := ⟨h.lo, h.po, by have := h.tp; omega, by have := h.bo; omega⟩
/-- one more of it -/
theorem PtC.more {t b : Nat} {f : Int × Int} (h : PtC t b f) : PtC (t + b) b (fadd f f1) := by
  have p : 0 < f.2 := h.lo.1
  have e1 : f.1 * (f1 : Int × Int).2 + (f1 : Int × Int).1 * f.2 = f.1 + f.2 := by
    show f.1 * 1 + 1 * f.2 = _
    omega
  have e2 : f.2 * (f1 : Int × Int).2 = f.2 := Int.mul_one _
  have e : fadd f f1 = low (f.1 + f.2) f.2 := by
    unfold fadd
    rw [e1, e2]
  have h1 := low_top_le (n := f.1 + f.2) (d := f.2) (by omega)
  have h2 := low_bottom_le (n := f.1 + f.2) (d := f.2) (by omega)
  have q := h.po
  have tp := h.tp
  have bo := h.bo
  rw [e]
  have lf : IsF (low (f.1 + f.2) f.2) := low_f (by omega)
  have l2 : 0 < (low (f.1 + f.2) f.2).2 := lf.1
  have l1 := low_top_pos (n := f.1 + f.2) (d := f.2) p (by omega)
  exact ⟨lf, l1, by omega, by omega⟩
theorem PtC.bt {t b k : Nat} {f : Int × Int} (h : PtC t b f) (ht : t < 2 ^ k) (hb : b < 2 ^ k) : Bt k f := by
  have p : 0 < f.2 := h.lo.1
  have q := h.po
  have tp := h.tp
  have bo := h.bo
  exact ⟨by omega, by omega⟩
theorem botP_le {b : Nat} : ∀ l : List (Int × Int), (∀ f ∈ l, f.2 ≤ b) → botP l ≤ b ^ l.length
  | [], _ => Nat.le_refl _
  | f :: l, h => by
    have h1 := h f List.mem_cons_self
    have h2 := botP_le l fun g hg => h g (List.mem_cons_of_mem _ hg)
    rw [List.length_cons, Nat.pow_succ, Nat.mul_comm]
    exact Nat.mul_le_mul (by omega) h2
theorem sOf_le {t b : Nat} {rs : List (Str × (Int × Int))} (h : ∀ r ∈ rs, PtC t b r.2) (h8 : rs.length ≤ 8) (hb : 0 < b) : sOf rs ≤ t * 8 * b ^ 8 := by
  have hf : ∀ f ∈ rs.map (·.2), PtC t b f := fun f hf => by
    obtain ⟨r, hr, rfl⟩ := List.mem_map.mp hf
    exact h r hr
  have q : ∀ f ∈ rs.map (·.2), Qn (botP (rs.map (·.2))) t f := fun f hm => by
    have c := hf f hm
    have p : 0 < f.2 := c.lo.1
    have dv := botP_dvd _ f hm
    refine ⟨c.lo, Int.le_of_lt c.po, ?_, ?_⟩
    · have := Int.natCast_dvd_natCast.mpr dv
      rwa [Int.toNat_of_nonneg (Int.le_of_lt p)] at this
    · have : (t : Int) * 1 ≤ t * f.2 := Int.mul_le_mul_of_nonneg_left (by omega) (by omega)
      have := c.tp
      omega
  have tq : Qn (botP (rs.map (·.2))) (t * 8) (totD rs) := Qn.sum q (by rw [List.length_map]; exact h8)
  have tv := tq.vb
  have t2 : 0 < (totD rs).2 := tq.lo.1
  have t1 := tq.nn
  have b1 : botP (rs.map (·.2)) ≤ b ^ 8 := Nat.le_trans (botP_le _ fun f hm => (hf f hm).bo) (Nat.pow_le_pow_right hb (by rw [List.length_map]; exact h8))
  have a1 : (totD rs).1.toNat ≤ t * 8 * (totD rs).2.toNat := by
    have e : ((t * 8 * (totD rs).2.toNat : Nat) : Int) = ((t * 8 : Nat) : Int) * (totD rs).2 := by
      rw [Int.natCast_mul, Int.toNat_of_nonneg (Int.le_of_lt t2)]
    omega
  unfold sOf
  refine Nat.le_trans (Nat.mul_le_mul_right _ a1) ?_
  rw [Nat.mul_assoc]
  exact Nat.mul_le_mul_left _ (Nat.le_trans (Nat.mul_div_le _ _) b1)
theorem gP_le {M : Nat} (hM : 1 ≤ M) (rk : Str → Nat) (k : Nat) : ∀ ds : List Dm, (∀ d ∈ ds, sOf d.rs ≤ M) → gP ds rk k ≤ M ^ ds.length
  | [], _ => Nat.le_refl _
  | d :: ds, h => by
    have ih := gP_le hM rk k ds fun x hx => h x (List.mem_cons_of_mem _ hx)
    have hd := h d List.mem_cons_self
    show (if rk d.z < k then sOf d.rs else 1) * gP ds rk k ≤ _
    rw [List.length_cons, Nat.pow_succ, Nat.mul_comm (M ^ _)]
    refine Nat.mul_le_mul ?_ ih
    split
    · exact hd
    · exact hM
/-- sizes of a book's parts: t above, b below, n doughs -/
structure Szs (t b n : Nat) : Prop where
  t0 : 0 < t
  b0 : 0 < b
  t1 : t < 2 ^ 30
  b1 : b < 2 ^ 30
  sz : (t * 8 * b ^ 8) ^ n < 2 ^ 800
/-- where a dough stands -/
def posD (ds : List Dm) (n : Str) : Nat := ds.findIdx fun d => decide (d.z = n)
theorem posD_at {ds : List Dm} (nd : (ds.map (·.z)).Nodup) {i : Nat} {d : Dm} (h : ds[i]? = some d) : posD ds d.z = i := by
  unfold posD
  induction ds generalizing i with
  | nil => simp at h
  | cons c ds ih =>
    rw [List.map_cons, List.nodup_cons] at nd
    cases i with
    | zero =>
      have e : c = d := by simpa using h
      rw [List.findIdx_cons, e, decide_eq_true rfl]
      rfl
    | succ i =>
      have h' : ds[i]? = some d := by simpa using h
      have ne : ¬ c.z = d.z := fun e => nd.1 (e ▸ List.mem_map_of_mem (List.mem_of_getElem? h'))
      rw [List.findIdx_cons, decide_eq_false ne]
      show (ds.findIdx _) + 1 = _
      rw [ih nd.2 h']
/-- rows lean on stuffs and on doughs ahead -/
def Leans (ss : List Sf) (ds : List Dm) : Prop := ∀ (i : Nat) (d : Dm), ds[i]? = some d → ∀ r ∈ d.rs, r.1 ∈ ss.map (·.z) ∨ r.1 ∈ (ds.take i).map (·.z)
theorem bk_of {ss : List Sf} {ds : List Dm} {t b n : Nat} (nd : (ss.map (·.z) ++ ds.map (·.z)).Nodup) (ln : Leans ss ds) (rn : ∀ d ∈ ds, (d.rs.map (·.1)).Nodup) (fs : ss.length ≤ 12) (fd : ds.length ≤ 11) (fn : ds.length ≤ n) (S : Szs t b n)
    (r1 : ∀ d ∈ ds, 1 ≤ d.rs.length ∧ d.rs.length ≤ 8) (pc : ∀ d ∈ ds, ∀ r ∈ d.rs, PtC t b r.2) : BkSz ss ds := by
  have ndd : (ds.map (·.z)).Nodup := (List.nodup_append.mp nd).2.1
  have pos : ∀ i d, ds[i]? = some d → ∀ r ∈ d.rs, r.1 ∈ ds.map (·.z) → posD ds r.1 < i := fun i d hd r hr hm => by
    rcases ln i d hd r hr with q | q
    · exact absurd rfl ((List.nodup_append.mp nd).2.2 _ q _ hm)
    · obtain ⟨e, he, hz⟩ := List.mem_map.mp q
      obtain ⟨j, hj⟩ := List.getElem?_of_mem he
      have hj' : j < i := by
        have := (List.getElem?_eq_some_iff.mp hj).1
        rw [List.length_take] at this
        omega
      rw [List.getElem?_take_of_lt hj'] at hj
      rw [← hz, posD_at ndd hj]
      exact hj'
  refine ⟨⟨nd, r1, fun d hd r hr => ?_, rn, ⟨posD ds, fun d hd => ?_, fun d hd r hr hm => ?_⟩, fs, fd⟩, fun d hd => ⟨fun r hr => ?_, (r1 d hd).1, (r1 d hd).2⟩, fun rk k => ?_⟩
  · obtain ⟨i, hi⟩ := List.getElem?_of_mem hd
    rcases ln i d hi r hr with q | q
    · exact .inl q
    · obtain ⟨e, he, hz⟩ := List.mem_map.mp q
      exact .inr (hz ▸ List.mem_map_of_mem (List.mem_of_mem_take he))
  · obtain ⟨i, hi⟩ := List.getElem?_of_mem hd
    rw [posD_at ndd hi]
    exact (List.getElem?_eq_some_iff.mp hi).1
  · obtain ⟨i, hi⟩ := List.getElem?_of_mem hd
    rw [posD_at ndd hi]
    exact pos i d hi r hr hm
  · have c := pc d hd r hr
    exact ⟨c.lo, c.po, (c.bt (k := 30) S.t1 S.b1).mono (by decide)⟩
  · have M1 : 1 ≤ t * 8 * b ^ 8 := Nat.mul_pos (Nat.mul_pos S.t0 (by decide)) (Nat.pow_pos S.b0)
    have l := gP_le M1 rk k ds fun d hd => sOf_le (pc d hd) (r1 d hd).2 S.b0
    exact Nat.lt_of_le_of_lt (Nat.le_trans l (Nat.pow_le_pow_right M1 fn)) S.sz
end Lf

set_option Elab.async false
set_option linter.all false
set_option maxRecDepth 100000
set_option maxHeartbeats 4000000
set_option exponentiation.threshold 3000
namespace Lf
open PySem PySem.Spec PyProof.Rows L2
section
variable {P : Program} {w : World} {K : PySem.W.Frag} {mg : Str → Option Value} {base : Heap}
/-- how large the parts of a row are -/
def szT (g : Bool) : Nat := if g then 999999 else 30
def szB (g : Bool) : Nat := if g then 999999 else 6
theorem ptc_low {n d : Int} {t b : Nat} (n0 : 0 < n) (nt : n ≤ t) (d0 : 0 < d) (db : d ≤ b) : PtC t b (low n d) := by
  have h1 := low_top_le (n := n) (d := d) (by omega)
  have h2 := low_bottom_le (n := n) (d := d) (by omega)
  have lf : IsF (low n d) := low_f (by omega)
  have l2 : 0 < (low n d).2 := lf.1
  have l1 := low_top_pos (n := n) (d := d) d0 n0
  exact ⟨lf, l1, by omega, by omega⟩
theorem map_erase {α β : Type} (f : α → β) : ∀ (l : List α) (k : Nat), (l.map f).eraseIdx k = (l.eraseIdx k).map f
  | [], _ => rfl
  | a :: l, 0 => rfl
  | a :: l, k + 1 => by
    show f a :: (l.map f).eraseIdx k = _
    rw [map_erase f l k]
    rfl
theorem map_rev {α β : Type} (f : α → β) (l : List α) : (l.map f).reverse = l.reverse.map f := (List.map_reverse).symm

/-! ### _law_rows -/
theorem sc__law_rows : FnScope ["_law_pot_here", "_law_stuffs", "_law_ahead", "_law_great", "_law_rest", "_law_rows_here", "_law_k", "_law_at", "_law_parts"] ["_law_pot_here", "_law_stuffs", "_law_ahead", "_law_great"] (defScope s__law_rows) := ⟨rfl, rfl, rfl, by decide +kernel, rfl, by decide +kernel, by decide +kernel⟩
/-- rows of a dough: of unlike things, some of those handed in -/
structure RwsMade (g : Bool) (all : List Str) (rs : List (Str × (Int × Int))) : Prop where
  one : 1 ≤ rs.length
  few : rs.length ≤ 8
  nd : (rs.map (·.1)).Nodup
  mem : ∀ r ∈ rs, r.1 ∈ all
  pt : ∀ r ∈ rs, PtC (szT g) (szB g) r.2
structure RwI (K : PySem.W.Frag) (H : Hp) (q R W : Addr) (al : List Str) (g : Bool) (i : Nat) (H' : Hp) (rest : List Str) (rs : List (Str × (Int × Int))) (xs : List V) : Prop where
  hr : H' R = some (.lst (rest.map V.str))
  hw : H' W = some (.lst xs)
  rw_ : RwsAt K H' xs rs
  pm : (rs.map (·.1) ++ rest).Perm al
  ln : rs.length = i
  pt : ∀ r ∈ rs, PtC (szT g) (szB g) r.2
  po : Pot H' q
  bu : But q H H'
def sp_lrows (K : PySem.W.Frag) : Sp := fun vs H Q _ => ∃ (q S A : Addr) (ss as : List Str) (g : Bool), vs = [.ref q, .ref S, .ref A, .bl g] ∧ Pot H q ∧ S ≠ q ∧ H S = some (.lst (ss.map V.str)) ∧ SqL K H A (as.map V.str) ∧ 1 ≤ ss.length ∧ ss.length + as.length ≤ 30 ∧ (as.reverse ++ ss).Nodup ∧
  ∀ (l : Addr) (xs : List V) (rs : List (Str × (Int × Int))) (H' : Hp), H l = none → H' l = some (.lst xs) → RwsAt K H' xs rs → RwsMade g (as.reverse ++ ss) rs → Pot H' q → But q H H' → Q (.ref l) H'
set_option maxHeartbeats 16000000 in
theorem ok_lrows {f : Addr} {fd : FuncData} (M : Blt mg) (ml : mg "list" = none) (mv : mg "reversed" = none) (F : Fun K "_law_rows" "_law_rows" s__law_rows f fd) (C__law_draw : Cal P w K mg base CX0 1 "_law_draw" ["_law_pot_here", "_law_many"] sp_draw) (C__law_low : Cal P w K mg base CX0 1 "_law_low" ["_law_top", "_law_bottom"] sp_low) : FnG P w K mg base CX0 2 f fd ["_law_pot_here", "_law_stuffs", "_law_ahead", "_law_great"] (sp_lrows K) := by
  refine Gfun F sc__law_rows (fun vs H Q E h => ?_) (fun cdv A outer s H vs Q E hg hr h => ?_)
  · obtain ⟨q, S, A, ss, as, g, rfl, _⟩ := h
    rfl
  · obtain ⟨q, S, A', ss, as, g, rfl, hP, nSq, hS, hA, s1, s30, nd, k⟩ := h
    refine ⟨_, (pss_cons (ps_set (i := 4) sc__law_rows.nd rfl (.inl rfl) (pe_op op_cat (pe_listRev rfl rfl ml rfl mv (pv 2)) (pv 1)))
      (pss_cons (ps_set (i := 5) sc__law_rows.nd rfl (.inl rfl) (pe_lst pa_nil))
      (pss_cons (ps_for PassesOwn.never rfl (pi_range1 rfl M.range (pa_cons (pe_op op_add pe_int (pe_g C__law_draw (hr.mono (by decide)) hg (pa_cons (pv 0) (pa_cons (pe_callB (call_min2 rfl) rfl M.min bt_min (pa_cons pe_int (pa_cons (pe_callB call_len_seq rfl M.len bt_len (pa_cons (pv 4) pa_nil)) pa_nil))) pa_nil)))) pa_nil)) (pg_name (i := 6) sc__law_rows.nd rfl (.inl rfl))
      (pss_cons (ps_set (i := 7) sc__law_rows.nd rfl (.inl rfl) (pe_ix ix_list (pe_lst (pa_cons (pe_g C__law_draw (hr.mono (by decide)) hg (pa_cons (pv 0) (pa_cons (pe_callB call_len_seq rfl M.len bt_len (pa_cons (pv 4) pa_nil)) pa_nil))) (pa_cons pe_int pa_nil))) (pe_g C__law_draw (hr.mono (by decide)) hg (pa_cons (pv 0) (pa_cons pe_int pa_nil))) (fun _ _ => rfl)))
      (pss_cons (ps_set (i := 8) sc__law_rows.nd rfl (.inl rfl) (pe_g C__law_low (hr.mono (by decide)) hg (pa_cons (pe_op op_add pe_int (pe_g C__law_draw (hr.mono (by decide)) hg (pa_cons (pv 0) (pa_cons pe_int pa_nil)))) (pa_cons (pe_op op_add pe_int (pe_g C__law_draw (hr.mono (by decide)) hg (pa_cons (pv 0) (pa_cons pe_int pa_nil)))) pa_nil))))
      (C8.pss_cut (ps_if (PW.pt (pw_and (pt_val (pv 3)) (pw_and1 (pt_cmpR op_eq (pe_g C__law_draw (hr.mono (by decide)) hg (pa_cons (pv 0) (pa_cons pe_int pa_nil))) pe_int (nomark _)))))
      (pss_one (ps_set (i := 8) sc__law_rows.nd rfl (.inl rfl) (pe_g C__law_low (hr.mono (by decide)) hg (pa_cons (pe_op op_add pe_int (pe_g C__law_draw (hr.mono (by decide)) hg (pa_cons (pv 0) (pa_cons pe_int pa_nil)))) (pa_cons (pe_op op_add pe_int (pe_g C__law_draw (hr.mono (by decide)) hg (pa_cons (pv 0) (pa_cons pe_int pa_nil)))) pa_nil)))))
      pss_nil)
      (pss_one (ps_expr (pe_bm PySem.F.plainAttrs_list PySem.F.slot_list_append PySem.F.type_list_append mt_append (pv 5) (pa_cons (pe_tup (pa_cons (pe_bm PySem.F.plainAttrs_list PySem.F.slot_list_pop PySem.F.type_list_pop mt_popAt (pv 4) (pa_cons (pv 7) pa_nil)) (pa_cons (pv 8) pa_nil))) pa_nil))))))))
      (pss_one (ps_ret (pv 5)))))), ?_⟩
    have sm : ∀ n : Int, 0 ≤ n → n < 2 ^ 41 → n.natAbs < 2 ^ 900 := fun n h0 h1 => Nat.lt_of_lt_of_le (show n.natAbs < 2 ^ 41 by omega) (Nat.pow_le_pow_right (by decide) (by decide))
    have mid : ∀ n : Int, 0 ≤ n → n < 2 ^ 41 → Mid n := fun n h0 h1 => Nat.lt_of_lt_of_le (show n.natAbs < 2 ^ 41 by omega) (Nat.pow_le_pow_right (by decide) (by decide))
    refine ⟨_, rfl, A', _, rfl, hA, fun l0 n0 => ?_⟩
    rw [map_rev]
    have s2 : Same H (L2.upd H l0 (.lst (as.reverse.map V.str))) := same_new n0
    have e2 : L2.upd H l0 (.lst (as.reverse.map V.str)) l0 = some (.lst (as.reverse.map V.str)) := upd_same
    generalize L2.upd H l0 (.lst (as.reverse.map V.str)) = H2 at s2 e2 ⊢
    refine ⟨_, rfl, l0, S, _, _, rfl, rfl, e2, s2 _ _ hS, by rw [List.length_map, List.length_map, List.length_reverse, sizeLine_eq]; omega, fun R nR => ?_⟩
    rw [← List.map_append]
    have s3 : Same H2 (L2.upd H2 R (.lst ((as.reverse ++ ss).map V.str))) := same_new nR
    have e3 : L2.upd H2 R (.lst ((as.reverse ++ ss).map V.str)) R = some (.lst ((as.reverse ++ ss).map V.str)) := upd_same
    generalize L2.upd H2 R (.lst ((as.reverse ++ ss).map V.str)) = H3 at s3 e3 ⊢
    obtain ⟨al, eal⟩ : ∃ al, al = as.reverse ++ ss := ⟨_, rfl⟩
    have lal : al.length = as.length + ss.length := by rw [eal, List.length_append, List.length_reverse]
    rw [← eal] at e3 nd k
    refine ⟨len_show (Nat.le_of_ble_eq_true rfl), fun W nW => ?_⟩
    have s4 : Same H3 (L2.upd H3 W (.lst [])) := same_new nW
    have e4 : L2.upd H3 W (.lst []) W = some (.lst []) := upd_same
    generalize L2.upd H3 W (.lst []) = H4 at s4 e4 ⊢
    have s04 := (s2.trans s3).trans s4
    have nRW : R ≠ W := fun z => by rw [← z, e3] at nW; cases nW
    have nRq : R ≠ q := pot_ne (pot_same hP s2) nR
    have nWq : W ≠ q := pot_ne (pot_same hP (s2.trans s3)) nW
    have nR0 : H R = none := by
      cases e : H R with
      | none => rfl
      | some o => rw [s2 _ _ e] at nR; cases nR
    have nW0 : H W = none := by
      cases e : H W with
      | none => rfl
      | some o => rw [(s2.trans s3) _ _ e] at nW; cases nW
    have lR : (al.map V.str).length = al.length := List.length_map ..
    refine ⟨_, rfl, _, rfl, R, _, rfl, .inl (.inl (.inl (s4 _ _ e3))), 8, _, rfl, q, _, rfl, ?_, ?_, pot_same hP s04, fun r1 H5 r10 r11 hP5 b5 => ⟨_, _, rfl, rfl, ?_⟩⟩
    · rw [lR]
      split <;> omega
    · rw [lR]
      exact sm _ (by split <;> omega) (by split <;> omega)
    rw [lR] at r11
    have r18 : r1 < 8 ∧ r1 < al.length := by
      split at r11 <;> omega
    clear r11
    refine ⟨1 + r1, rfl, by omega, by omega, ?_⟩
    refine for_range (lo := 0) (n := _) (fun i σ H' => ∃ (y1 y2 y3 : Option V) (rest : List Str) (rs : List (Str × (Int × Int))) (xs : List V), σ = [some (.ref q), some (.ref S), some (.ref A'), some (.bl g), some (.ref R), some (.ref W), y1, y2, y3] ∧ RwI K H q R W al g i H' rest rs xs) ⟨none, none, none, al, [], [], rfl, b5 _ _ nRq (s4 _ _ e3), b5 _ _ nWq e4, .nil, List.Perm.refl _, rfl, (fun r hr => nomatch hr), hP5, fun b o nb e => b5 _ _ nb (s04 _ _ e)⟩ ?_ ?_
    · rintro i σ H6 hi ⟨y1, y2, y3, rest, rs, xs, rfl, I⟩
      have lp := I.pm.length_eq
      rw [List.length_append, List.length_map, I.ln] at lp
      have lr : (rest.map V.str).length = rest.length := List.length_map ..
      have lx := plen I.rw_
      rw [I.ln] at lx
      -- where
      refine ⟨_, rfl, _, rfl, R, _, rfl, .inl (.inl (.inl I.hr)), q, _, rfl, by rw [lr]; omega, by rw [lr]; exact sm _ (by omega) (by omega), I.po, fun d H7 d0 d1 hP7 b7 => ?_⟩
      rw [lr] at d1
      refine ⟨len_show (Nat.le_of_ble_eq_true rfl), fun l7 n7 => ?_⟩
      have s8 : Same H7 (L2.upd H7 l7 (.lst [.int d, .int 0])) := same_new n7
      have e8 : L2.upd H7 l7 (.lst [.int d, .int 0]) l7 = some (.lst [.int d, .int 0]) := upd_same
      generalize L2.upd H7 l7 (.lst [.int d, .int 0]) = H8 at s8 e8 ⊢
      refine ⟨_, rfl, q, 2, rfl, by decide, by decide, pot_same hP7 s8, fun c H9 c0 c1 hP9 b9 => ?_⟩
      have e9 := b9 _ _ (pot_ne hP7 n7) e8
      obtain ⟨a, ha, a0, a1⟩ : ∃ a : Int, ([V.int d, V.int 0] : List V)[c.toNat]? = some (.int a) ∧ 0 ≤ a ∧ a < rest.length := by
        have cc : c = 0 ∨ c = 1 := by omega
        rcases cc with rfl | rfl
        · exact ⟨d, rfl, d0, d1⟩
        · exact ⟨0, rfl, Int.le_refl _, by omega⟩
      obtain ⟨cn, rfl⟩ : ∃ cn : Nat, c = (cn : Int) := ⟨c.toNat, by omega⟩
      refine ⟨l7, _, _, _, rfl, rfl, .inl (.inl e9), atI_nat (j := cn) ha, ?_⟩
      -- how much
      refine ⟨_, rfl, q, 30, rfl, by decide, by decide, hP9, fun u H10 u0 u1 hP10 b10 => ⟨_, _, rfl, rfl, ?_⟩⟩
      refine ⟨_, rfl, q, 6, rfl, by decide, by decide, hP10, fun v H11 v0 v1 hP11 b11 => ⟨_, _, rfl, rfl, ?_⟩⟩
      refine ⟨_, _, rfl, by omega, mid _ (by omega) (by omega), fun H12 p12 s12 e12 => ?_⟩
      have b612 : But q H6 H12 := ((((b7.same s8).trans b9).trans b10).trans b11).same s12
      have hP12 := pot_same hP11 s12
      refine ⟨fun σ H' => ∃ (vp : V) (fp : Int × Int), σ = [some (.ref q), some (.ref S), some (.ref A'), some (.bl g), some (.ref R), some (.ref W), some (.int (0 + (i : Int))), some (.int a), some vp] ∧ AtK K H' vp fp ∧ PtC (szT g) (szB g) fp ∧ Pot H' q ∧ But q H6 H', ?_, ?_⟩
      · cases g with
        | false => exact ⟨_, rfl, _, rfl, iteF (iteF ⟨_, _, rfl, AtK.of e12, ptc_low (by omega) (by show _ ≤ ((30 : Nat) : Int); omega) (by omega) (by show _ ≤ ((6 : Nat) : Int); omega), hP12, b612⟩)⟩
        | true =>
          refine ⟨_, rfl, _, rfl, ?_⟩
          refine ⟨_, rfl, q, 2, rfl, by decide, by decide, hP12, fun w' H13 w0 w1 hP13 b13 => ⟨rfl, _, rfl, ite2 (fun e => ?_) (fun e => ?_)⟩⟩
          · refine ⟨_, rfl, q, 999999, rfl, by decide, by decide, hP13, fun u' H14 u0' u1' hP14 b14 => ⟨_, _, rfl, rfl, ?_⟩⟩
            refine ⟨_, rfl, q, 999999, rfl, by decide, by decide, hP14, fun v' H15 v0' v1' hP15 b15 => ⟨_, _, rfl, rfl, ?_⟩⟩
            refine ⟨_, _, rfl, by omega, mid _ (by omega) (by omega), fun H16 p16 s16 e16 => ?_⟩
            exact ⟨_, _, rfl, AtK.of e16, ptc_low (by omega) (by show _ ≤ ((999999 : Nat) : Int); omega) (by omega) (by show _ ≤ ((999999 : Nat) : Int); omega), pot_same hP15 s16, (((b612.trans b13).trans b14).trans b15).same s16⟩
          · exact ⟨_, _, rfl, atk_pot b13 hP12 (AtK.of e12), ptc_low (by omega) (by show _ ≤ ((999999 : Nat) : Int); omega) (by omega) (by show _ ≤ ((999999 : Nat) : Int); omega), hP13, b612.trans b13⟩
      · rintro σ H13 ⟨vp, fp, rfl, kp, ptp, hP13, b13⟩
        have w13 := b13 _ _ nWq I.hw
        have r13 := b13 _ _ nRq I.hr
        have ak : a.toNat < rest.length := by omega
        have hg1 : (rest.map V.str)[a.toNat]? = some (.str rest[a.toNat]) := by rw [List.getElem?_map, List.getElem?_eq_getElem ak]; rfl
        refine ⟨_, rfl, .inl ⟨rfl, _, .inl (.inl w13)⟩, _, rfl, .inl ⟨rfl, _, .inl (.inl r13)⟩, _, rfl, R, _, a, a.toNat, _, rfl, rfl, r13, by omega, by omega, seqIx a0 (by rw [lr]; exact a1), hg1, ?_⟩
        rw [map_erase]
        have b14 : But R H13 (L2.upd H13 R (.lst ((rest.eraseIdx a.toNat).map V.str))) := fun b o nb e => by rw [upd_ne nb]; exact e
        have e14 : L2.upd H13 R (.lst ((rest.eraseIdx a.toNat).map V.str)) R = some (.lst ((rest.eraseIdx a.toNat).map V.str)) := upd_same
        generalize L2.upd H13 R (.lst ((rest.eraseIdx a.toNat).map V.str)) = H14 at b14 e14 ⊢
        have w14 := b14 _ _ nRW.symm w13
        refine ⟨_, rfl, len_show (Nat.le_of_ble_eq_true rfl), fun t nt => ?_⟩
        have s15 : Same H14 (L2.upd H14 t (.tup [.str rest[a.toNat], vp])) := same_new nt
        have e15 : L2.upd H14 t (.tup [.str rest[a.toNat], vp]) t = some (.tup [.str rest[a.toNat], vp]) := upd_same
        generalize L2.upd H14 t (.tup [.str rest[a.toNat], vp]) = H15 at s15 e15 ⊢
        have w15 := s15 _ _ w14
        refine ⟨W, _, _, rfl, rfl, w15, by rw [sizeLine_eq]; omega, _, _, _, rest.eraseIdx a.toNat, rs ++ [(rest[a.toNat], fp)], xs ++ [.ref t], rfl, ?_⟩
        have b16 : But W H15 (L2.upd H15 W (.lst (xs ++ [.ref t]))) := fun b o nb e => by rw [upd_ne nb]; exact e
        have kp14 : AtK K H14 vp fp := AtK.butL r13 b14 kp
        have old : RwsAt K H14 xs rs := L2.Paired.mapP (rws_pot b13 I.po I.rw_) fun _ _ h => let ⟨p, vf, e, h1, h2⟩ := h; ⟨p, vf, e, SqT.butL r13 b14 h1, AtK.butL r13 b14 h2⟩
        refine ⟨?_, upd_same, ?_, ?_, ?_, ?_, ?_, ?_⟩
        · rw [upd_ne nRW]
          exact s15 _ _ e14
        · refine papp (L2.Paired.mapP (old.same s15) fun _ _ h => let ⟨p, vf, e, h1, h2⟩ := h; ⟨p, vf, e, SqT.butL w15 b16 h1, AtK.butL w15 b16 h2⟩) (.cons ⟨t, vp, rfl, SqT.butL w15 b16 (.inl (.inl e15)), AtK.butL w15 b16 (kp14.same s15)⟩ .nil)
        · rw [List.map_append, List.append_assoc]
          exact ((erase_perm (List.getElem?_eq_getElem ak)).append_left _).trans I.pm
        · rw [List.length_append, I.ln]
          rfl
        · intro r hr
          rcases List.mem_append.mp hr with hr | hr
          · exact I.pt r hr
          · rw [List.mem_singleton.mp hr]
            exact ptp
        · obtain ⟨x, y, h0, h1, e⟩ := hP13
          exact ⟨x, y, h0, h1, by rw [upd_ne nWq.symm]; exact s15 _ _ (b14 _ _ nRq.symm e)⟩
        · intro b o nb e
          rw [upd_ne (ne_of_none e nW0)]
          exact s15 _ _ (b14 _ _ (ne_of_none e nR0) (b13 _ _ nb (I.bu _ _ nb e)))
    · rintro σ H6 ⟨y1, y2, y3, rest, rs, xs, rfl, I⟩
      have ln := I.ln
      refine ⟨_, rfl, k W xs rs H6 nW0 I.hw I.rw_ ⟨by omega, by omega, ?_, fun r hr => ?_, I.pt⟩ I.po I.bu⟩
      · have := I.pm.nodup_iff.mpr nd
        exact (List.nodup_append.mp this).1
      · exact I.pm.mem_iff.mp (List.mem_append_left _ (List.mem_map_of_mem hr))

end
end Lf

set_option Elab.async false
set_option linter.all false
/-! Slices of lists, by whole numbers from 0. -/
namespace Lf
open PySem PySem.Spec PyProof.Rows L2
theorem cutTo {xs : List V} {i : Int} {k : Nat} (h : i = (k : Int)) : cutV xs none (some i) = xs.take k := by
  rw [h]
  unfold cutV
  rw [HT.sIx_nat, HT.sIx_none, List.drop_zero, Nat.sub_zero]
  by_cases c : k ≤ xs.length
  · rw [Nat.min_eq_left c]
  · rw [Nat.min_eq_right (by omega), List.take_of_length_le (Nat.le_refl _), List.take_of_length_le (by omega)]
theorem cutFrom {xs : List V} {i : Int} {k : Nat} (h : i = (k : Int)) : cutV xs (some i) none = xs.drop k := by
  rw [h]
  unfold cutV
  rw [HT.sIx_nat, HT.sIx_none]
  by_cases c : k ≤ xs.length
  · rw [Nat.min_eq_left c]
    exact List.take_of_length_le (by rw [List.length_drop]; exact Nat.le_refl _)
  · rw [Nat.min_eq_right (by omega), Nat.sub_self, List.take_zero, List.drop_of_length_le (by omega)]
theorem cutMid {xs : List V} {i j : Int} {k n : Nat} (hi : i = (k : Int)) (hj : j = ((k + n : Nat) : Int)) (hl : k + n ≤ xs.length) : cutV xs (some i) (some j) = (xs.drop k).take n := by
  rw [hi, hj]
  unfold cutV
  rw [HT.sIx_nat, HT.sIx_nat, Nat.min_eq_left hl, Nat.min_eq_left (show k ≤ xs.length by omega), Nat.add_sub_cancel_left]
end Lf

set_option Elab.async false
set_option linter.all false
set_option maxHeartbeats 4000000
set_option exponentiation.threshold 3000
/-! Measures of doughs: what their stuffs have, added up. Plain mathematics. -/
namespace Lf
open PySem
def valC (m : Cont) (n : Str) : Int × Int := match m.find? (fun e => decide (e.1 = n)) with | some e => e.2 | none => f0
def msOf (ss : List Sf) (k : Nat) (n : Str) : Int × Int := match ss.find? (fun s => decide (s.z = n)) with | some s => s.ms.getD k f0 | none => f0
/-- the products, by what a dough comes to, and by the stuffs in order -/
def measL (ss : List Sf) (k : Nat) (m : Cont) : List (Int × Int) := m.map fun e => fmul e.2 (msOf ss k e.1)
def lawL (ss : List Sf) (k : Nat) (m : Cont) : List (Int × Int) := (ss.filter fun s => decide (s.z ∈ m.map (·.1))).map fun s => fmul (valC m s.z) (s.ms.getD k f0)
def measO (ss : List Sf) (k : Nat) (m : Cont) : Int × Int := (measL ss k m).foldl fadd f0
theorem valC_of {m : Cont} (nd : (m.map (·.1)).Nodup) {e : Str × (Int × Int)} (he : e ∈ m) : valC m e.1 = e.2 := by
  unfold valC
  induction m with
  | nil => nomatch he
  | cons c m ih =>
    rw [List.map_cons, List.nodup_cons] at nd
    rcases List.mem_cons.mp he with rfl | he
    · rw [List.find?_cons, decide_eq_true rfl]
    · have nc : ¬ c.1 = e.1 := fun z => nd.1 (z ▸ List.mem_map_of_mem he)
      rw [List.find?_cons, decide_eq_false nc]
      exact ih nd.2 he
theorem msOf_of {ss : List Sf} (nd : (ss.map (·.z)).Nodup) {s : Sf} (hs : s ∈ ss) (k : Nat) : msOf ss k s.z = s.ms.getD k f0 := by
  unfold msOf
  induction ss with
  | nil => nomatch hs
  | cons c ss ih =>
    rw [List.map_cons, List.nodup_cons] at nd
    rcases List.mem_cons.mp hs with rfl | hs
    · rw [List.find?_cons, decide_eq_true rfl]
    · have nc : ¬ c.z = s.z := fun z => nd.1 (z ▸ List.mem_map_of_mem hs)
      rw [List.find?_cons, decide_eq_false nc]
      exact ih nd.2 hs
theorem meas_perm {ss : List Sf} {m : Cont} (k : Nat) (nm : (m.map (·.1)).Nodup) (ns : (ss.map (·.z)).Nodup) (inn : ∀ x ∈ m.map (·.1), x ∈ ss.map (·.z)) : (measL ss k m).Perm (lawL ss k m) := by
  have e1 : measL ss k m = (m.map (·.1)).map fun n => fmul (valC m n) (msOf ss k n) := by
    unfold measL
    rw [List.map_map]
    refine List.map_congr_left fun e he => ?_
    show _ = fmul (valC m e.1) (msOf ss k e.1)
    rw [valC_of nm he]
  have e2 : lawL ss k m = ((ss.filter fun s => decide (s.z ∈ m.map (·.1))).map (·.z)).map fun n => fmul (valC m n) (msOf ss k n) := by
    unfold lawL
    rw [List.map_map]
    refine List.map_congr_left fun s hs => ?_
    show _ = fmul (valC m s.z) (msOf ss k s.z)
    rw [msOf_of ns (List.mem_filter.mp hs).1]
  rw [e1, e2]
  refine List.Perm.map _ ?_
  have nf : ((ss.filter fun s => decide (s.z ∈ m.map (·.1))).map (·.z)).Nodup := ns.sublist (List.filter_sublist.map _)
  refine (List.perm_ext_iff_of_nodup nm nf).mpr fun x => ⟨fun h => ?_, fun h => ?_⟩
  · obtain ⟨s, hs, e⟩ := List.mem_map.mp (inn x h)
    exact List.mem_map.mpr ⟨s, List.mem_filter.mpr ⟨hs, decide_eq_true (by rw [e]; exact h)⟩, e⟩
  · obtain ⟨s, hs, e⟩ := List.mem_map.mp h
    rw [← e]
    exact of_decide_eq_true (List.mem_filter.mp hs).2
/-- measures as they may be -/
def MsB (ss : List Sf) (k : Nat) : Prop := ∀ s ∈ ss, IsF (s.ms.getD k f0) ∧ 0 ≤ (s.ms.getD k f0).1 ∧ Bt 45 (s.ms.getD k f0)
/-- the product of the measures' bottoms -/
def bpM (ss : List Sf) (k : Nat) : Nat := botP (ss.map fun s => s.ms.getD k f0)
theorem bpM_le {ss : List Sf} {k : Nat} (h : MsB ss k) : bpM ss k ≤ 2 ^ (45 * ss.length) := by
  have := botP_le (b := 2 ^ 45) (ss.map fun s => s.ms.getD k f0) fun f hf => by
    obtain ⟨s, hs, rfl⟩ := List.mem_map.mp hf
    have := (h s hs).2.2.2
    have := (h s hs).1.1
    omega
  rw [List.length_map, ← Nat.pow_mul] at this
  exact this
theorem bpM_pos {ss : List Sf} {k : Nat} (h : MsB ss k) : 0 < bpM ss k := botP_pos _ fun f hf => by
  obtain ⟨s, hs, rfl⟩ := List.mem_map.mp hf
  exact (h s hs).1
theorem meas_q {ss : List Sf} {m : Cont} {k N c : Nat} (ns : (ss.map (·.z)).Nodup) (inn : ∀ x ∈ m.map (·.1), x ∈ ss.map (·.z)) (h : MsB ss k) (q : ContQ N c m) : ∀ f ∈ measL ss k m, Qn (N * bpM ss k) (c * 2 ^ 45) f := fun f hf => by
  obtain ⟨e, he, rfl⟩ := List.mem_map.mp hf
  obtain ⟨s, hs, es⟩ := List.mem_map.mp (inn e.1 (List.mem_map_of_mem he))
  rw [← es, msOf_of ns hs]
  obtain ⟨h1, h2, h3⟩ := h s hs
  have qs := (qn_of_bt h1 h2 h3).mono (botP_dvd _ _ (List.mem_map_of_mem (f := fun s : Sf => s.ms.getD k f0) hs)) (Nat.le_refl _)
  exact (q e he).mul qs
/-- all that is added up is small -/
theorem meas_small {L : List (Int × Int)} {N c : Nat} (hN : 0 < N) (q : ∀ f ∈ L, Qn N c f) (few : L.length ≤ 12) (sz : c * 12 * N < 2 ^ 890) (c0 : 0 < c) : (∀ f ∈ L, IsF f ∧ 0 ≤ f.1 ∧ Bt 890 f) ∧ ∀ i, Bt 890 ((L.take i).foldl fadd f0) := by
  have a : c * N ≤ c * 12 * N := Nat.mul_le_mul_right _ (by omega)
  have b : N ≤ c * 12 * N := Nat.le_mul_of_pos_left _ (by omega)
  refine ⟨fun f hf => ⟨(q f hf).lo, (q f hf).nn, (q f hf).bt hN (by omega) (by omega)⟩, fun i => ?_⟩
  exact (Qn.sum (n := 12) (fun f hf => q f (List.mem_of_mem_take hf)) (by rw [List.length_take]; omega)).bt hN sz (by omega)
/-- what a book's doughs come to leaves room for measures -/
def Gm (ss : List Sf) (ds : List Dm) : Prop := ∀ rk k, gP ds rk k * 2 ^ (45 * ss.length) < 2 ^ 765
theorem BkSz.meas {ss : List Sf} {ds : List Dm} (B : BkSz ss ds) (G : Gm ss ds) {k : Nat} (h : MsB ss k) {z : Str} (hz : z ∈ ds.map (·.z)) : (∀ f ∈ measL ss k (opn ds z), IsF f ∧ 0 ≤ f.1 ∧ Bt 890 f) ∧ (∀ i, Bt 890 (((measL ss k (opn ds z)).take i).foldl fadd f0)) ∧ (∀ f ∈ lawL ss k (opn ds z), IsF f ∧ 0 ≤ f.1 ∧ Bt 890 f) ∧ (∀ i, Bt 890 (((lawL ss k (opn ds z)).take i).foldl fadd f0)) ∧ (lawL ss k (opn ds z)).foldl fadd f0 = measO ss k (opn ds z) := by
  obtain ⟨k1, k2, k3⟩ := B.keysA (.inr hz)
  obtain ⟨d, hd, rfl⟩ := List.mem_map.mp hz
  obtain ⟨rk, R⟩ := B.rk
  have q := B.qn R _ d hd (Nat.le_refl _)
  have l := R.lt d hd
  have fd := B.fd
  have p := meas_perm k k1 B.nds k2
  have mq := meas_q B.nds k2 h q
  have lq : ∀ f ∈ lawL ss k (opn ds d.z), Qn (gP ds rk (rk d.z + 1) * bpM ss k) (96 ^ (rk d.z + 1) * 2 ^ 45) f := fun f hf => mq f (p.mem_iff.mpr hf)
  have ml : (measL ss k (opn ds d.z)).length ≤ 12 := by
    unfold measL
    rw [List.length_map]
    exact k3
  have ll : (lawL ss k (opn ds d.z)).length ≤ 12 := by
    rw [← p.length_eq]
    exact ml
  have g0 := gP_pos rk (rk d.z + 1) ds B.pt
  have hN : 0 < gP ds rk (rk d.z + 1) * bpM ss k := Nat.mul_pos g0 (bpM_pos h)
  have c1 : 96 ^ (rk d.z + 1) ≤ 96 ^ 11 := Nat.pow_le_pow_right (by decide) (by omega)
  have N1 : gP ds rk (rk d.z + 1) * bpM ss k < 2 ^ 765 := Nat.lt_of_le_of_lt (Nat.mul_le_mul_left _ (bpM_le h)) (G rk _)
  have sz : 96 ^ (rk d.z + 1) * 2 ^ 45 * 12 * (gP ds rk (rk d.z + 1) * bpM ss k) < 2 ^ 890 := by
    have a : 96 ^ (rk d.z + 1) * 2 ^ 45 * 12 ≤ 96 ^ 11 * 2 ^ 45 * 12 := Nat.mul_le_mul_right _ (Nat.mul_le_mul_right _ c1)
    exact Nat.lt_of_le_of_lt (Nat.mul_le_mul a (Nat.le_of_lt N1)) (by decide)
  have c0 : 0 < 96 ^ (rk d.z + 1) * 2 ^ 45 := Nat.mul_pos (Nat.pow_pos (by decide)) (by decide)
  obtain ⟨a1, a2⟩ := meas_small hN mq ml sz c0
  obtain ⟨b1, b2⟩ := meas_small hN lq ll sz c0
  exact ⟨a1, a2, b1, b2, (sum_same p fun f hf => (a1 f hf).1).symm⟩
theorem gm_of {ss : List Sf} {ds : List Dm} {t b n : Nat} (S : Szs t b n) (fn : ds.length ≤ n) (r8 : ∀ d ∈ ds, d.rs.length ≤ 8) (pc : ∀ d ∈ ds, ∀ r ∈ d.rs, PtC t b r.2) (sz : (t * 8 * b ^ 8) ^ n * 2 ^ (45 * ss.length) < 2 ^ 765) : Gm ss ds := fun rk k => by
  have M1 : 1 ≤ t * 8 * b ^ 8 := Nat.mul_pos (Nat.mul_pos S.t0 (by decide)) (Nat.pow_pos S.b0)
  have l := gP_le M1 rk k ds fun d hd => sOf_le (pc d hd) (r8 d hd) S.b0
  exact Nat.lt_of_le_of_lt (Nat.mul_le_mul_right _ (Nat.le_trans l (Nat.pow_le_pow_right M1 fn))) sz
end Lf

set_option Elab.async false
set_option linter.all false
set_option maxRecDepth 100000
set_option maxHeartbeats 4000000
set_option exponentiation.threshold 3000
namespace Lf
open PySem PySem.Spec PyProof.Rows L2
/-- contents that can be told -/
structure CoOk (m : Cont) : Prop where
  nd : (m.map (·.1)).Nodup
  few : m.length ≤ 60
  al : ∀ e ∈ m, AllL e.1 ∧ e.1.length ≤ 10
  bt : ∀ e ∈ m, Bt 880 e.2
/-- a model: stuffs, doughs that lean on those ahead, parts that are not too large -/
structure MdOk (ss : List Sf) (ds : List Dm) : Prop where
  sf : ∀ s ∈ ss, SfOk s.z s.ms
  dg : ∀ d ∈ ds, DghOk d.z d.rs d.n
  nd : (ss.map (·.z) ++ ds.map (·.z)).Nodup
  ln : Leans ss ds
  s1 : 1 ≤ ss.length
  fs : ss.length ≤ 12
  d1 : 1 ≤ ds.length
  fd : ds.length ≤ 11
  d10 : ds.length ≤ 10
  sz : ∃ t b n, Szs t b n ∧ ds.length ≤ n ∧ ∀ d ∈ ds, ∀ r ∈ d.rs, PtC t b r.2
theorem Szs.less {t c b n : Nat} (t0 : 0 < t) (S : Szs (t + c) b n) : Szs t b n := by
  have t1 := S.t1
  refine ⟨t0, S.b0, by omega, S.b1, Nat.lt_of_le_of_lt (Nat.pow_le_pow_left (Nat.mul_le_mul_right _ (Nat.mul_le_mul_right _ (Nat.le_add_right _ _))) _) S.sz⟩
/-- its parts, one more of each -/
def Sz2 (ds : List Dm) : Prop := ∃ t b n, Szs (t + b) b n ∧ ds.length ≤ n ∧ ∀ d ∈ ds, ∀ r ∈ d.rs, PtC t b r.2
/-- parts of one of two sizes -/
def SzG (ds : List Dm) : Prop := ∃ g : Bool, (∀ d ∈ ds, ∀ r ∈ d.rs, PtC (szT g) (szB g) r.2) ∧ (g = true → ds.length ≤ 3)
/-- and room for measures -/
def Sz3 (ss : List Sf) (ds : List Dm) : Prop := ∃ t b n, Szs (t + b) b n ∧ ds.length ≤ n ∧ (∀ d ∈ ds, ∀ r ∈ d.rs, PtC t b r.2) ∧ ((t + b) * 8 * b ^ 8) ^ n * 2 ^ (45 * ss.length) < 2 ^ 765
section
variable {ss : List Sf} {ds : List Dm}
theorem Sz3.gm (M : MdOk ss ds) (h : Sz3 ss ds) : Gm ss ds := by
  obtain ⟨t, b, n, S, hn, pc, sz⟩ := h
  exact gm_of S hn (fun d hd => (M.dg d hd).rw_.few) (fun d hd r hr => (pc d hd r hr).mono (Nat.le_add_right _ _) (Nat.le_refl _)) sz
theorem Sz2.sz (h : Sz2 ds) : ∃ t b n, Szs t b n ∧ ds.length ≤ n ∧ ∀ d ∈ ds, ∀ r ∈ d.rs, PtC t b r.2 := by
  obtain ⟨t, b, n, S, hn, pc⟩ := h
  cases t with
  | succ t => exact ⟨t + 1, b, n, S.less (Nat.succ_pos _), hn, pc⟩
  | zero => exact ⟨0 + b, b, n, S, hn, fun d hd r hr => (pc d hd r hr).mono (Nat.le_add_right _ _) (Nat.le_refl _)⟩
theorem MdOk.bz (M : MdOk ss ds) : BkSz ss ds := by
  obtain ⟨t, b, n, S, hn, pc⟩ := M.sz
  exact bk_of M.nd M.ln (fun d hd => (M.dg d hd).rw_.nd) M.fs M.fd hn S (fun d hd => ⟨(M.dg d hd).rw_.one, (M.dg d hd).rw_.few⟩) pc
theorem MdOk.bk (M : MdOk ss ds) : BkOk ss ds := M.bz.ok
theorem MdOk.bn (M : MdOk ss ds) : BkN ss ds := ⟨fun s hs => (M.sf s hs).nm.al, fun d hd => (M.dg d hd).nm.al⟩
theorem MdOk.rw_ (M : MdOk ss ds) : ∀ d ∈ ds, RwsOk d.rs := fun d hd => (M.dg d hd).rw_
theorem MdOk.ah (M : MdOk ss ds) : Ahead ds := fun i d hd r hr hm => by
  rcases M.ln i d hd r hr with q | q
  · exact absurd rfl ((List.nodup_append.mp M.nd).2.2 _ q _ hm)
  · exact q
theorem MdOk.co (M : MdOk ss ds) {z : Str} (hz : z ∈ ds.map (·.z)) : CoOk (opn ds z) := by
  have B := M.bz
  obtain ⟨k1, k2, k3⟩ := B.keysA (.inr hz)
  obtain ⟨d, hd, rfl⟩ := List.mem_map.mp hz
  obtain ⟨rk, R⟩ := B.rk
  have q := B.qn R _ d hd (Nat.le_refl _)
  have l := R.lt d hd
  have fd := M.fd
  refine ⟨k1, by omega, fun e he => ?_, fun e he => ?_⟩
  · obtain ⟨s, hs, es⟩ := List.mem_map.mp (k2 e.1 (List.mem_map_of_mem he))
    rw [← es]
    exact ⟨(M.sf s hs).nm.al, (M.sf s hs).nm.le⟩
  · have g0 := gP_pos rk (rk d.z + 1) ds B.pt
    have g1 := B.gb rk (rk d.z + 1)
    have c1 : 96 ^ (rk d.z + 1) ≤ 96 ^ 11 := Nat.pow_le_pow_right (by decide) (by omega)
    refine (q e he).bt g0 ?_ (Nat.lt_of_lt_of_le g1 (Nat.pow_le_pow_right (by decide) (by decide)))
    exact Nat.lt_of_le_of_lt (Nat.mul_le_mul c1 (Nat.le_of_lt g1)) (by decide)
end
section
variable {P : Program} {w : World} {K : PySem.W.Frag} {mg : Str → Option Value} {base : Heap}
theorem rws_made {g : Bool} {all : List Str} {rs : List (Str × (Int × Int))} (h : RwsMade g all rs) (nm : ∀ z ∈ all, Nm z) : RwsOk rs := by
  have bt : ∀ r ∈ rs, Bt 30 r.2 := fun r hr => (h.pt r hr).bt (by cases g <;> decide) (by cases g <;> decide)
  refine ⟨fun r hr => ⟨nm _ (h.mem r hr), (h.pt r hr).lo, (h.pt r hr).po⟩, h.one, h.few, h.nd, cmn_of_bt (k := 30) (fun f hf => ?_) (by rw [List.length_map]; exact h.few) (by decide)⟩
  obtain ⟨r, hr, rfl⟩ := List.mem_map.mp hf
  exact ⟨(h.pt r hr).lo, Int.le_of_lt (h.pt r hr).po, bt r hr⟩
theorem StT.butL {H H' : Hp} {D : Addr} {ys : List V} {v : V} {s : Sf} (e : H D = some (.lst ys)) (b : But D H H') (h : StT K H v s) : StT K H' v s := let ⟨p, vs', e1, h1, h2⟩ := h; ⟨p, vs', e1, SqT.butL e b h1, L2.Paired.mapP h2 fun _ _ => AtK.butL e b⟩
/-- a dough's row whose list of rows is not M -/
def DmN (K : PySem.W.Frag) (M : Addr) (H : Hp) (v : V) (d : Dm) : Prop := ∃ p l xs, v = .ref p ∧ SqT K H p [.str d.z, .ref l, .int d.n] ∧ l ≠ M ∧ SqL K H l xs ∧ RwsAt K H xs d.rs
theorem DmN.t {M : Addr} {H : Hp} {v : V} {d : Dm} (h : DmN K M H v d) : DmT K H v d := let ⟨p, l, xs, e, h1, _, h2, h3⟩ := h; ⟨p, l, xs, e, h1, h2, h3⟩
theorem DmN.same {M : Addr} {H H' : Hp} (s : Same H H') {v : V} {d : Dm} (h : DmN K M H v d) : DmN K M H' v d := let ⟨p, l, xs, e, h1, n, h2, h3⟩ := h; ⟨p, l, xs, e, sm_t s h1, n, sm_l s h2, h3.same s⟩
theorem DmN.but {M : Addr} {H H' : Hp} {ys : List V} (e : H M = some (.lst ys)) (b : But M H H') {v : V} {d : Dm} (h : DmN K M H v d) : DmN K M H' v d := by
  obtain ⟨p, l, xs, e1, h1, n, h2, h3⟩ := h
  refine ⟨p, l, xs, e1, SqT.butL e b h1, n, ?_, L2.Paired.mapP h3 fun _ _ h => let ⟨p, vf, e2, k1, k2⟩ := h; ⟨p, vf, e2, SqT.butL e b k1, AtK.butL e b k2⟩⟩
  rcases h2 with (h | ⟨o, h⟩) | h
  · exact .inl (.inl (b _ _ n h))
  · exact .inl (.inr ⟨o, b _ _ n h⟩)
  · exact .inr h
theorem DmN.pot {M q : Addr} {H H' : Hp} (b : But q H H') (hP : Pot H q) {v : V} {d : Dm} (h : DmN K M H v d) : DmN K M H' v d := by
  obtain ⟨p, l, xs, e, h1, n, h2, h3⟩ := h
  refine ⟨p, l, xs, e, sqt_pot b hP h1, n, sql_pot b hP (fun v hv => ?_) h2, rws_pot b hP h3⟩
  obtain ⟨r, _, p, _, e, _⟩ := pmem h3 hv
  exact ⟨p, e⟩

/-! ### _law_model -/
theorem sc__law_model : FnScope ["_law_pot_here", "_law_shape", "_law_many", "_law_doughs", "_law_names_here", "_law_stuffs", "_law_made_here", "_law_k", "_law_rows_here", "_law_name_here"] ["_law_pot_here"] (defScope s__law_model) := ⟨rfl, rfl, rfl, by decide +kernel, rfl, by decide +kernel, by decide +kernel⟩
/-- the doughs drawn so far -/
structure DsI (K : PySem.W.Frag) (H : Hp) (q nl D Md : Addr) (zs : List Str) (m : Nat) (g : Bool) (i : Nat) (H' : Hp) (ds : List Dm) (ys acc : List V) (ss : List Sf) : Prop where
  hm : H' Md = some (.lst ys)
  dm : Paired (DmN K Md H') ys ds
  zz : ds.map (·.z) = (zs.drop m).take i
  ok : ∀ d ∈ ds, DghOk d.z d.rs d.n
  ln : ∀ (j : Nat) (d : Dm), ds[j]? = some d → ∀ r ∈ d.rs, r.1 ∈ zs.take m ∨ r.1 ∈ (ds.take j).map (·.z)
  pt : ∀ d ∈ ds, ∀ r ∈ d.rs, PtC (szT g) (szB g) r.2
  hD : H' D = some (.lst acc)
  hS : Paired (StT K H') acc ss
  hn : H' nl = some (.lst (zs.map V.str))
  po : Pot H' q
  bu : But q H H'
def sp_lmodel (K : PySem.W.Frag) : Sp := fun vs H Q _ => ∃ (q : Addr), vs = [.ref q] ∧ Pot H q ∧ ∀ (H' : Hp) (v : V) (ss : List Sf) (ds : List Dm), MdAt K H' v ss ds → MdOk ss ds → Sz2 ds → SzG ds → Pot H' q → But q H H' → Q v H'
set_option maxHeartbeats 16000000 in
theorem ok_lmodel {f : Addr} {fd : FuncData} (M : Blt mg) (F : Fun K "_law_model" "_law_model" s__law_model f fd) (C__law_draw : Cal P w K mg base CX0 1 "_law_draw" ["_law_pot_here", "_law_many"] sp_draw) (C__law_names : Cal P w K mg base CX0 3 "_law_names" ["_law_pot_here", "_law_many"] (sp_names K)) (C__law_stuff : Cal P w K mg base CX0 3 "_law_stuff" ["_law_pot_here", "_law_name_here"] (sp_lstuff K)) (C__law_rows : Cal P w K mg base CX0 2 "_law_rows" ["_law_pot_here", "_law_stuffs", "_law_ahead", "_law_great"] (sp_lrows K)) : FnG P w K mg base CX0 4 f fd ["_law_pot_here"] (sp_lmodel K) := by
  refine Gfun F sc__law_model (fun vs H Q E h => ?_) (fun cdv A outer s H vs Q E hg hr h => ?_)
  · obtain ⟨q, rfl, _⟩ := h
    rfl
  · obtain ⟨q, rfl, hP, k⟩ := h
    refine ⟨_, (pss_cons (ps_set (i := 1) sc__law_model.nd rfl (.inl rfl) (pe_g C__law_draw (hr.mono (by decide)) hg (pa_cons (pv 0) (pa_cons pe_int pa_nil))))
      (pss_cons (ps_set (i := 2) sc__law_model.nd rfl (.inl rfl) (pe_op op_add pe_int (pe_g C__law_draw (hr.mono (by decide)) hg (pa_cons (pv 0) (pa_cons (pe_ix ix_list (pe_lst (pa_cons pe_int (pa_cons pe_int (pa_cons pe_int (pa_cons pe_int pa_nil))))) (pv 1) (fun _ _ => rfl)) pa_nil)))))
      (pss_cons (ps_set (i := 3) sc__law_model.nd rfl (.inl rfl) (pe_op op_add pe_int (pe_g C__law_draw (hr.mono (by decide)) hg (pa_cons (pv 0) (pa_cons (pe_ix ix_list (pe_lst (pa_cons pe_int (pa_cons pe_int (pa_cons pe_int (pa_cons pe_int pa_nil))))) (pv 1) (fun _ _ => rfl)) pa_nil)))))
      (pss_cons (ps_set (i := 4) sc__law_model.nd rfl (.inl rfl) (pe_g C__law_names (hr.mono (by decide)) hg (pa_cons (pv 0) (pa_cons (pe_op op_add (pv 2) (pv 3)) pa_nil))))
      (pss_cons (ps_setLc (i := 5) (own := [("_law_name_here", 9)]) (g := gName 9) (tt := tYes) rfl sc__law_model.nd rfl rfl (sw_true rfl rfl rfl (by decide +kernel)) (pi_list (pe_slice sl_list (pv 4) po_none (po_some (pv 2)))) (blkOk_by (N := ["_law_pot_here", "_law_shape", "_law_many", "_law_doughs", "_law_names_here", "_law_stuffs", "_law_made_here", "_law_k", "_law_rows_here", "_law_name_here"]) (sc := defScope s__law_model) (by decide +kernel)) (fun _ _ _ _ _ => pg_name (i := 9) sc__law_model.nd rfl (Or.inl rfl)) (fun _ _ _ _ _ => pts_nil) (fun _ _ _ _ _ => (pe_g C__law_stuff (hr.mono (by decide)) hg (pa_cons (pv 0) (pa_cons (pv 9) pa_nil)))))
      (pss_cons (ps_set (i := 6) sc__law_model.nd rfl (.inl rfl) (pe_lst pa_nil))
      (pss_cons (ps_for PassesOwn.never rfl (pi_range1 rfl M.range (pa_cons (pv 3) pa_nil)) (pg_name (i := 7) sc__law_model.nd rfl (.inl rfl))
      (pss_cons (ps_set (i := 8) sc__law_model.nd rfl (.inl rfl) (pe_g C__law_rows (hr.mono (by decide)) hg (pa_cons (pv 0) (pa_cons (pe_slice sl_list (pv 4) po_none (po_some (pv 2))) (pa_cons (pe_slice sl_list (pv 4) (po_some (pv 2)) (po_some (pe_op op_add (pv 2) (pv 7)))) (pa_cons (pe_cmpR op_eq (pv 1) pe_int (nomark _)) pa_nil))))))
      (pss_one (ps_expr (pe_bm PySem.F.plainAttrs_list PySem.F.slot_list_append PySem.F.type_list_append mt_append (pv 6) (pa_cons (pe_tup (pa_cons (pe_ix ix_list (pv 4) (pe_op op_add (pv 2) (pv 7)) (fun _ _ => rfl)) (pa_cons (pv 8) (pa_cons (pe_ix ix_list (pe_lst (pa_cons pe_int (pa_cons (pe_g C__law_draw (hr.mono (by decide)) hg (pa_cons (pv 0) (pa_cons pe_int pa_nil))) pa_nil))) (pe_g C__law_draw (hr.mono (by decide)) hg (pa_cons (pv 0) (pa_cons pe_int pa_nil))) (fun _ _ => rfl)) pa_nil)))) pa_nil))))))
      (pss_one (ps_ret (pe_tup (pa_cons (pv 5) (pa_cons (pv 6) pa_nil)))))))))))), ?_⟩
    have sm : ∀ n : Int, 0 ≤ n → n < 2 ^ 41 → n.natAbs < 2 ^ 900 := fun n h0 h1 => Nat.lt_of_lt_of_le (show n.natAbs < 2 ^ 41 by omega) (Nat.pow_le_pow_right (by decide) (by decide))
    refine ⟨_, rfl, q, 4, rfl, by decide, by decide, hP, fun r0 H1 r00 r01 hP1 b1 => ?_⟩
    obtain ⟨sn, rfl⟩ : ∃ sn : Nat, r0 = (sn : Int) := ⟨r0.toNat, by omega⟩
    have hsn : sn = 0 ∨ sn = 1 ∨ sn = 2 ∨ sn = 3 := by omega
    obtain ⟨a, c, ha, hc, a0, a1, c0, c1, c3, a3⟩ : ∃ a c : Int, ([V.int 3, V.int 6, V.int 12, V.int 4] : List V)[sn]? = some (.int a) ∧ ([V.int 2, V.int 5, V.int 10, V.int 3] : List V)[sn]? = some (.int c) ∧ 0 < a ∧ a ≤ 12 ∧ 0 < c ∧ c ≤ 10 ∧ (sn = 3 → c ≤ 3) ∧ (sn = 3 → a ≤ 4) := by
      rcases hsn with rfl | rfl | rfl | rfl
      all_goals exact ⟨_, _, rfl, rfl, by decide, by decide, by decide, by decide, by decide, by decide⟩
    refine ⟨_, rfl, len_show (Nat.le_of_ble_eq_true rfl), fun l1 n1 => ?_⟩
    have s2 : Same H1 (L2.upd H1 l1 (.lst [V.int 3, V.int 6, V.int 12, V.int 4])) := same_new n1
    have e2 : L2.upd H1 l1 (.lst [V.int 3, V.int 6, V.int 12, V.int 4]) l1 = some (.lst [V.int 3, V.int 6, V.int 12, V.int 4]) := upd_same
    generalize L2.upd H1 l1 (.lst [V.int 3, V.int 6, V.int 12, V.int 4]) = H2 at s2 e2 ⊢
    refine ⟨_, rfl, l1, _, _, _, rfl, rfl, .inl (.inl e2), atI_nat (j := sn) ha, q, _, rfl, a0, sm _ (by omega) (by omega), pot_same hP1 s2, fun r1 H3 r10 r11 hP3 b3 => ⟨_, _, rfl, rfl, ?_⟩⟩
    refine ⟨_, rfl, len_show (Nat.le_of_ble_eq_true rfl), fun l2 n2 => ?_⟩
    have s4 : Same H3 (L2.upd H3 l2 (.lst [V.int 2, V.int 5, V.int 10, V.int 3])) := same_new n2
    have e4 : L2.upd H3 l2 (.lst [V.int 2, V.int 5, V.int 10, V.int 3]) l2 = some (.lst [V.int 2, V.int 5, V.int 10, V.int 3]) := upd_same
    generalize L2.upd H3 l2 (.lst [V.int 2, V.int 5, V.int 10, V.int 3]) = H4 at s4 e4 ⊢
    refine ⟨_, rfl, l2, _, _, _, rfl, rfl, .inl (.inl e4), atI_nat (j := sn) hc, q, _, rfl, c0, sm _ (by omega) (by omega), pot_same hP3 s4, fun r2 H5 r20 r21 hP5 b5 => ⟨_, _, rfl, rfl, ?_⟩⟩
    obtain ⟨m, hm⟩ : ∃ m : Nat, 1 + r1 = (m : Int) := ⟨(1 + r1).toNat, by omega⟩
    obtain ⟨n, hn⟩ : ∃ n : Nat, 1 + r2 = (n : Int) := ⟨(1 + r2).toNat, by omega⟩
    have b05 : But q H H5 := ((((b1.same s2).trans b3).same s4).trans b5)
    have fm : m ≤ 12 ∧ (sn = 3 → m ≤ 4) := by omega
    have fn : n ≤ 10 ∧ (sn = 3 → n ≤ 3) := by omega
    refine ⟨_, rfl, _, rfl, _, rfl, _, _, rfl, rfl, q, m + n, ?_, by omega, hP5, fun nl zs H6 e6 nlq lz nd al hP6 b6 => ?_⟩
    · show [V.ref q, V.int (1 + r1 + (1 + r2))] = _
      rw [show 1 + r1 + (1 + r2) = ((m + n : Nat) : Int) by omega]
    have b06 := b05.trans b6
    refine ⟨_, rfl, _, rfl, _, rfl, nl, _, rfl, .inl (.inl e6), fun L1 n1' => ?_⟩
    rw [cutTo hm, ← List.map_take]
    have s7 : Same H6 (L2.upd H6 L1 (.lst ((zs.take m).map V.str))) := same_new n1'
    have e7 : L2.upd H6 L1 (.lst ((zs.take m).map V.str)) L1 = some (.lst ((zs.take m).map V.str)) := upd_same
    generalize L2.upd H6 L1 (.lst ((zs.take m).map V.str)) = H7 at s7 e7 ⊢
    have nL1 := pot_ne hP6 n1'
    refine ⟨L1, rfl, ⟨_, .inl (.inl e7)⟩, fun D hD => ?_⟩
    have hP7 := pot_same hP6 s7
    have nDq := pot_ne hP7 hD
    have nDL : D ≠ L1 := fun z => by rw [z, e7] at hD; cases hD
    have ltz : (zs.take m).length = m := by rw [List.length_take]; omega
    refine lc_list (xs := (zs.take m).map V.str) (fun i H' => But q H7 H' ∧ Pot H' q ∧ ∃ acc ss, H' D = some (.lst acc) ∧ Paired (StT K H') acc ss ∧ ss.map (·.z) = (zs.take m).take i ∧ ∀ s ∈ ss, SfOk s.z s.ms) ⟨But.rfl.same (same_new hD), pot_same hP7 (same_new hD), [], [], upd_same, .nil, by rw [List.take_zero]; rfl, fun s hs => nomatch hs⟩ (fun i H' _ h => .inl (.inl (h.1 _ _ nL1 e7))) ?_ ?_
    · rintro i y H8 hy ⟨b8, hP8, acc, ss, eacc, hacc, hz, ok⟩
      rw [List.getElem?_map] at hy
      obtain ⟨z, hz1, rfl⟩ := Option.map_eq_some_iff.mp hy
      have hi : i < m := by
        have := (List.getElem?_eq_some_iff.mp hz1).1
        omega
      have lss := congrArg List.length hz
      rw [List.length_map, List.length_take, ltz] at lss
      have lac := plen hacc
      refine ⟨rfl, _, rfl, _, rfl, q, z, rfl, hP8, al z (List.mem_of_mem_take (List.mem_of_getElem? hz1)), fun v s H9 ez sok st hP9 b9 => ?_⟩
      have e9 := b9 _ _ nDq eacc
      have b10 : But D H9 (L2.upd H9 D (.lst (acc ++ [v]))) := fun b o nb e => by rw [upd_ne nb]; exact e
      refine ⟨acc, e9, by rw [sizeLine_eq]; omega, fun b o nb e => ?_, ?_, acc ++ [v], ss ++ [s], upd_same, ?_, ?_, ?_⟩
      · rw [upd_ne (ne_of_none e hD)]
        exact b9 _ _ nb (b8 _ _ nb e)
      · obtain ⟨x, y, h0, h1, e⟩ := hP9
        exact ⟨x, y, h0, h1, by rw [upd_ne nDq.symm]; exact e⟩
      · exact papp (L2.Paired.mapP hacc fun _ _ h => StT.butL e9 b10 (StT.pot b9 hP8 h)) (.cons (StT.butL e9 b10 st) .nil)
      · rw [List.map_append, hz, List.take_succ, hz1]
        show _ ++ [s.z] = _ ++ [z]
        rw [ez]
      · intro s' hs'
        rcases List.mem_append.mp hs' with h | h
        · exact ok s' h
        · rw [List.mem_singleton.mp h, ez]
          exact sok
    rintro H8 ⟨b8, hP8, acc, ss, eacc, hacc, hz, ok⟩
    rw [List.length_map, List.take_of_length_le (Nat.le_refl _)] at hz
    have lss := congrArg List.length hz
    rw [List.length_map, ltz] at lss
    have e68 := b8 _ _ nlq (s7 _ _ e6)
    refine ⟨len_show (Nat.le_of_ble_eq_true rfl), fun Md nM => ?_⟩
    have s9 : Same H8 (L2.upd H8 Md (.lst [])) := same_new nM
    have e9 : L2.upd H8 Md (.lst []) Md = some (.lst []) := upd_same
    generalize L2.upd H8 Md (.lst []) = H9 at s9 e9 ⊢
    have nMq := pot_ne hP8 nM
    have nMD : Md ≠ D := fun z => by rw [z, eacc] at nM; cases nM
    have nMn : Md ≠ nl := fun z => by rw [z, e68] at nM; cases nM
    have b08 : But q H H8 := (b06.same s7).trans b8
    have nM0 : ∀ b o, b ≠ q → H b = some o → b ≠ Md := fun b o nb e z => by rw [z] at e nb; rw [b08 _ _ nb e] at nM; cases nM
    obtain ⟨g, hgd⟩ : ∃ g, g = decide (V.int (sn : Int) = V.int 3) := ⟨_, rfl⟩
    have g4 : g = true → sn = 3 := fun e => by
      rw [hgd] at e
      have := V.int.inj (of_decide_eq_true e)
      omega
    have g3 : g = true → n ≤ 3 := fun e => fn.2 (g4 e)
    refine ⟨_, rfl, _, rfl, by omega, by omega, ?_⟩
    refine for_range (lo := 0) (n := _) (fun i σ H' => ∃ (y1 y2 : Option V) (ds : List Dm) (ys : List V), σ = [some (.ref q), some (.int sn), some (.int (1 + r1)), some (.int (1 + r2)), some (.ref nl), some (.ref D), some (.ref Md), y1, y2, none] ∧ DsI K H q nl D Md zs m g i H' ds ys acc ss)
      ⟨none, none, [], [], rfl, e9, .nil, by rw [List.take_zero]; rfl, (fun d hd => nomatch hd), (fun j d hd => by simp at hd), (fun d hd => nomatch hd), s9 _ _ eacc, L2.Paired.mapP hacc fun _ _ => StT.same s9, s9 _ _ e68, pot_same hP8 s9, b08.same s9⟩ ?_ ?_
    · rintro i σ H10 hi ⟨y1, y2, ds, ys, rfl, I⟩
      have hi' : i < n := by omega
      have lds := congrArg List.length I.zz
      rw [List.length_map, List.length_take, List.length_drop] at lds
      have ldn : ds.length = i := by omega
      have lys := plen I.dm
      have mk : 1 + r1 + (0 + (i : Int)) = ((m + i : Nat) : Int) := by omega
      have mlt : m + i < zs.length := by omega
      refine ⟨_, rfl, _, rfl, _, rfl, _, rfl, nl, _, rfl, .inl (.inl I.hn), fun La nLa => ?_⟩
      rw [cutTo hm, ← List.map_take]
      have s11 : Same H10 (L2.upd H10 La (.lst ((zs.take m).map V.str))) := same_new nLa
      have e11 : L2.upd H10 La (.lst ((zs.take m).map V.str)) La = some (.lst ((zs.take m).map V.str)) := upd_same
      generalize L2.upd H10 La (.lst ((zs.take m).map V.str)) = H11 at s11 e11 ⊢
      refine ⟨_, rfl, _, rfl, _, rfl, _, rfl, _, rfl, _, _, rfl, rfl, _, rfl, nl, _, rfl, .inl (.inl (s11 _ _ I.hn)), fun Lb nLb => ?_⟩
      rw [cutMid (k := m) (n := i) hm mk (by rw [List.length_map]; omega), ← List.map_drop, ← List.map_take]
      have s12 : Same H11 (L2.upd H11 Lb (.lst (((zs.drop m).take i).map V.str))) := same_new nLb
      have e12 : L2.upd H11 Lb (.lst (((zs.drop m).take i).map V.str)) Lb = some (.lst (((zs.drop m).take i).map V.str)) := upd_same
      generalize L2.upd H11 Lb (.lst (((zs.drop m).take i).map V.str)) = H12 at s12 e12 ⊢
      have pma : (((zs.drop m).take i).reverse ++ zs.take m).Perm (zs.take (m + i)) := by
        rw [List.take_add]
        exact List.perm_append_comm.trans ((List.reverse_perm _).append_left _)
      refine ⟨_, rfl, rfl, q, La, Lb, zs.take m, (zs.drop m).take i, g, by rw [hgd], pot_same I.po (s11.trans s12), pot_ne I.po nLa, s12 _ _ e11, .inl (.inl e12), by omega, by rw [ltz, List.length_take, List.length_drop]; omega, pma.nodup_iff.mpr (nd.sublist (List.take_sublist _ _)), fun l xs rs H13 nl13 e13 hR rm hP13 b13 => ?_⟩
      have s1012 := s11.trans s12
      have hP12 := pot_same I.po s1012
      have nlM : l ≠ Md := fun z => by rw [z, s1012 _ _ I.hm] at nl13; cases nl13
      have b1013 : But q H10 H13 := fun b o nb e => b13 _ _ nb (s1012 _ _ e)
      have hm13 := b1013 _ _ nMq I.hm
      have hn13 := b1013 _ _ nlq I.hn
      have gz : (zs.map V.str)[m + i]? = some (.str zs[m + i]) := by rw [List.getElem?_map, List.getElem?_eq_getElem mlt]; rfl
      refine ⟨_, rfl, .inl ⟨rfl, _, .inl (.inl hm13)⟩, _, rfl, _, rfl, _, rfl, _, _, rfl, rfl, nl, _, _, _, rfl, rfl, .inl (.inl hn13), by rw [mk]; exact atI_nat (j := m + i) gz, _, rfl, ?_⟩
      refine ⟨_, rfl, q, 100, rfl, by decide, by decide, hP13, fun e H14 e0 e1 hP14 b14 => ?_⟩
      refine ⟨len_show (Nat.le_of_ble_eq_true rfl), fun l15 n15 => ?_⟩
      have s15 : Same H14 (L2.upd H14 l15 (.lst [.int 0, .int e])) := same_new n15
      have e15 : L2.upd H14 l15 (.lst [.int 0, .int e]) l15 = some (.lst [.int 0, .int e]) := upd_same
      generalize L2.upd H14 l15 (.lst [.int 0, .int e]) = H15 at s15 e15 ⊢
      refine ⟨_, rfl, q, 2, rfl, by decide, by decide, pot_same hP14 s15, fun c' H16 c0' c1' hP16 b16 => ?_⟩
      obtain ⟨cn, rfl⟩ : ∃ cn : Nat, c' = (cn : Int) := ⟨c'.toNat, by omega⟩
      obtain ⟨ld, hld, ld0, ld9⟩ : ∃ ld : Int, ([V.int 0, V.int e] : List V)[cn]? = some (.int ld) ∧ 0 ≤ ld ∧ ld ≤ 99 := by
        have cc : cn = 0 ∨ cn = 1 := by omega
        rcases cc with rfl | rfl
        · exact ⟨0, rfl, by decide, by decide⟩
        · exact ⟨e, rfl, e0, by omega⟩
      refine ⟨l15, _, _, _, rfl, rfl, .inl (.inl (b16 _ _ (pot_ne hP14 n15) e15)), atI_nat (j := cn) hld, ?_⟩
      refine ⟨len_show (Nat.le_of_ble_eq_true rfl), fun t nt => ?_⟩
      have s17 : Same H16 (L2.upd H16 t (.tup [.str zs[m + i], .ref l, .int ld])) := same_new nt
      have e17 : L2.upd H16 t (.tup [.str zs[m + i], .ref l, .int ld]) t = some (.tup [.str zs[m + i], .ref l, .int ld]) := upd_same
      generalize L2.upd H16 t (.tup [.str zs[m + i], .ref l, .int ld]) = H17 at s17 e17 ⊢
      have b1316 : But q H13 H16 := ((b14.same s15).trans b16)
      have b1017 : But q H10 H17 := (b1013.trans b1316).same s17
      have hm17 := b1017 _ _ nMq I.hm
      refine ⟨Md, _, _, rfl, rfl, hm17, by rw [sizeLine_eq]; omega, _, _, ds ++ [⟨zs[m + i], rs, ld⟩], ys ++ [.ref t], rfl, ?_⟩
      have b18 : But Md H17 (L2.upd H17 Md (.lst (ys ++ [.ref t]))) := fun b o nb e => by rw [upd_ne nb]; exact e
      have nlq' : l ≠ q := fun z => by
        obtain ⟨x, y, _, _, e⟩ := hP12
        rw [z, e] at nl13
        cases nl13
      have hDm : DmN K Md H17 (.ref t) ⟨zs[m + i], rs, ld⟩ := ⟨t, l, xs, rfl, .inl (.inl e17), nlM, .inl (.inl (s17 _ _ (b1316 _ _ nlq' e13))), RwsAt.same s17 (rws_pot b1316 hP13 hR)⟩
      have allN : ∀ z ∈ ((zs.drop m).take i).reverse ++ zs.take m, Nm z := fun z hz => al z (List.mem_of_mem_take (pma.mem_iff.mp hz))
      refine ⟨upd_same, ?_, ?_, ?_, ?_, ?_, ?_, ?_, ?_, ?_, ?_⟩
      · exact papp (L2.Paired.mapP I.dm fun _ _ h => DmN.but hm17 b18 (DmN.pot b1017 I.po h)) (.cons (DmN.but hm17 b18 hDm) .nil)
      · rw [List.map_append, I.zz, List.take_succ]
        have : (zs.drop m)[i]? = some zs[m + i] := by rw [List.getElem?_drop, List.getElem?_eq_getElem mlt]
        rw [this]
        rfl
      · intro d hd
        rcases List.mem_append.mp hd with h | h
        · exact I.ok d h
        · rw [List.mem_singleton.mp h]
          exact ⟨al _ (List.getElem_mem mlt), rws_made rm allN, ld0, ld9⟩
      · intro j d hd r hr
        rcases Nat.lt_or_ge j ds.length with hj | hj
        · rw [List.getElem?_append_left hj] at hd
          rw [List.take_append_of_le_length (Nat.le_of_lt hj)]
          exact I.ln j d hd r hr
        · have hj2 : j = ds.length := by
            have := (List.getElem?_eq_some_iff.mp hd).1
            rw [List.length_append] at this
            have : j < ds.length + 1 := this
            omega
          rw [hj2] at hd ⊢
          rw [List.getElem?_append_right (Nat.le_refl _), Nat.sub_self] at hd
          have ed : ⟨zs[m + i], rs, ld⟩ = d := Option.some.inj hd
          rw [List.take_append_of_le_length (Nat.le_refl _), List.take_of_length_le (Nat.le_refl _), I.zz]
          rw [← ed] at hr
          rcases List.mem_append.mp (rm.mem r hr) with h | h
          · exact .inr (List.mem_reverse.mp h)
          · exact .inl h
      · intro d hd
        rcases List.mem_append.mp hd with h | h
        · exact I.pt d h
        · rw [List.mem_singleton.mp h]
          exact rm.pt
      · rw [upd_ne nMD.symm]
        exact b1017 _ _ nDq I.hD
      · exact L2.Paired.mapP I.hS fun _ _ h => StT.butL hm17 b18 (StT.pot b1017 I.po h)
      · rw [upd_ne nMn.symm]
        exact b1017 _ _ nlq I.hn
      · obtain ⟨x, y, h0, h1, e⟩ := pot_same hP16 s17
        exact ⟨x, y, h0, h1, by rw [upd_ne nMq.symm]; exact e⟩
      · intro b o nb e
        rw [upd_ne (nM0 b o nb e)]
        exact b1017 _ _ nb (I.bu _ _ nb e)
    · rintro σ H10 ⟨y1, y2, ds, ys, rfl, I⟩
      have zz := I.zz
      rw [List.take_of_length_le (by rw [List.length_drop]; omega)] at zz
      have lds := congrArg List.length zz
      rw [List.length_map, List.length_drop] at lds
      have two : Sz2 ds := by
        cases hgg : g with
        | true => exact ⟨999999, 999999, 3, ⟨by decide, by decide, by decide, by decide, by decide⟩, by have := g3 hgg; omega, by have := I.pt; rw [hgg] at this; exact this⟩
        | false => exact ⟨30, 6, 10, ⟨by decide, by decide, by decide, by decide, by decide⟩, by omega, by have := I.pt; rw [hgg] at this; exact this⟩
      refine ⟨_, rfl, _, rfl, len_show (Nat.le_of_ble_eq_true rfl), fun p np => ?_⟩
      have s11 : Same H10 (L2.upd H10 p (.tup [.ref D, .ref Md])) := same_new np
      refine k _ _ ss ds ⟨p, D, Md, acc, ys, rfl, .inl (.inl upd_same), .inl (.inl (s11 _ _ I.hD)), L2.Paired.mapP I.hS fun _ _ => StT.same s11, .inl (.inl (s11 _ _ I.hm)), L2.Paired.mapP I.dm fun _ _ h => (h.t).same s11⟩ ⟨ok, I.ok, ?_, ?_, by omega, by omega, by omega, by omega, by omega, two.sz⟩ two ⟨g, I.pt, fun e => by have := g3 e; omega⟩ (pot_same I.po s11) (I.bu.same s11)
      · rw [hz, zz, List.take_append_drop]
        exact nd
      · intro j d hd r hr
        rw [hz]
        exact I.ln j d hd r hr

end
end Lf

set_option Elab.async false
set_option linter.all false
set_option maxRecDepth 100000
set_option maxHeartbeats 4000000
set_option exponentiation.threshold 3000
namespace Lf
open PySem PySem.Spec PyProof.Rows L2
theorem pdrop {α β : Type} {R : α → β → Prop} : ∀ (k : Nat) {xs : List α} {ys : List β}, Paired R xs ys → Paired R (xs.drop k) (ys.drop k)
  | 0, _, _, h => h
  | _ + 1, _, _, .nil => .nil
  | k + 1, _, _, .cons _ t => pdrop k t
theorem ptake {α β : Type} {R : α → β → Prop} : ∀ (k : Nat) {xs : List α} {ys : List β}, Paired R xs ys → Paired R (xs.take k) (ys.take k)
  | 0, _, _, _ => .nil
  | _ + 1, _, _, .nil => .nil
  | k + 1, _, _, .cons r t => .cons r (ptake k t)
/-- the rows of a dough that is put: a row less, or one more of the first -/
def Later (rs rs' : List (Str × (Int × Int))) : Prop := (2 ≤ rs.length ∧ rs' = rs.drop 1) ∨ ∃ r tl, rs = r :: tl ∧ rs' = (r.1, fadd r.2 f1) :: tl
theorem Later.mem {rs rs' : List (Str × (Int × Int))} (h : Later rs rs') : ∀ r ∈ rs', ∃ r0 ∈ rs, r.1 = r0.1 ∧ (r.2 = r0.2 ∨ r.2 = fadd r0.2 f1) := fun r hr => by
  rcases h with ⟨_, rfl⟩ | ⟨r0, tl, rfl, rfl⟩
  · exact ⟨r, List.mem_of_mem_drop hr, rfl, .inl rfl⟩
  · rcases List.mem_cons.mp hr with rfl | hr
    · exact ⟨r0, List.mem_cons_self, rfl, .inr rfl⟩
    · exact ⟨r, List.mem_cons_of_mem _ hr, rfl, .inl rfl⟩
theorem Later.len {rs rs' : List (Str × (Int × Int))} (h : Later rs rs') (h8 : rs.length ≤ 8) : 1 ≤ rs'.length ∧ rs'.length ≤ 8 := by
  rcases h with ⟨h2, rfl⟩ | ⟨r0, tl, rfl, rfl⟩
  · rw [List.length_drop]
    omega
  · rw [List.length_cons] at h8 ⊢
    omega
theorem Later.nd {rs rs' : List (Str × (Int × Int))} (h : Later rs rs') (nd : (rs.map (·.1)).Nodup) : (rs'.map (·.1)).Nodup := by
  rcases h with ⟨h2, rfl⟩ | ⟨r0, tl, rfl, rfl⟩
  · rw [List.map_drop]
    exact nd.sublist (List.drop_sublist _ _)
  · exact nd
/-- the doughs ahead, the one that is put, the doughs behind -/
theorem set_put {ds : List Dm} (nd : (ds.map (·.z)).Nodup) {i : Nat} {d0 d : Dm} (h : ds[i]? = some d0) (e : d.z = d0.z) : ds.take i ++ [d] ++ ds.drop (i + 1) = putD ds d := by
  have hm : d.z ∈ ds.map (·.z) := by
    rw [e]
    exact List.mem_map_of_mem (List.mem_of_getElem? h)
  unfold putD
  rw [if_pos hm]
  clear hm
  induction ds generalizing i with
  | nil => simp at h
  | cons c ds ih =>
    rw [List.map_cons, List.nodup_cons] at nd
    cases i with
    | zero =>
      have ec : c = d0 := by simpa using h
      have id' : ds.map (fun x => if x.z = d.z then d else x) = ds := by
        refine (List.map_congr_left fun x hx => ?_).trans (List.map_id ds)
        refine if_neg fun z => nd.1 ?_
        rw [ec, ← e, ← z]
        exact List.mem_map_of_mem hx
      rw [List.map_cons, id', if_pos (by rw [ec, e])]
      rfl
    | succ i =>
      have h' : ds[i]? = some d0 := by simpa using h
      have ne : ¬ c.z = d.z := fun z => nd.1 (by rw [z, e]; exact List.mem_map_of_mem (List.mem_of_getElem? h'))
      rw [List.map_cons, if_neg ne, ← ih nd.2 h']
      rfl
theorem put_names {ds : List Dm} {d : Dm} (hm : d.z ∈ ds.map (·.z)) : (putD ds d).map (·.z) = ds.map (·.z) := by
  unfold putD
  rw [if_pos hm, List.map_map]
  refine List.map_congr_left fun x _ => ?_
  show (if x.z = d.z then d else x).z = x.z
  by_cases c : x.z = d.z
  · rw [if_pos c, c]
  · rw [if_neg c]
theorem put_get {ds : List Dm} {d : Dm} (hm : d.z ∈ ds.map (·.z)) {j : Nat} {x : Dm} (h : (putD ds d)[j]? = some x) : ∃ y, ds[j]? = some y ∧ x.z = y.z ∧ ((y.z = d.z ∧ x = d) ∨ (y.z ≠ d.z ∧ x = y)) := by
  unfold putD at h
  rw [if_pos hm, List.getElem?_map] at h
  obtain ⟨y, hy, rfl⟩ := Option.map_eq_some_iff.mp h
  refine ⟨y, hy, ?_⟩
  by_cases c : y.z = d.z
  · rw [if_pos c]
    exact ⟨c.symm, .inl ⟨c, rfl⟩⟩
  · rw [if_neg c]
    exact ⟨rfl, .inr ⟨c, rfl⟩⟩
theorem put_mem {ds : List Dm} {d : Dm} (hm : d.z ∈ ds.map (·.z)) {x : Dm} (h : x ∈ putD ds d) : x = d ∨ x ∈ ds := by
  obtain ⟨j, hj⟩ := List.getElem?_of_mem h
  obtain ⟨y, h1, h2, h3⟩ := put_get hm hj
  rcases h3 with ⟨_, h3⟩ | ⟨_, h3⟩
  · exact .inl h3
  · rw [h3]
    exact .inr (List.mem_of_getElem? h1)
theorem put_len {ds : List Dm} {d : Dm} (hm : d.z ∈ ds.map (·.z)) : (putD ds d).length = ds.length := by
  unfold putD
  rw [if_pos hm, List.length_map]
/-- a model stays one where a dough is put with later rows -/
theorem MdOk.laterG {ss : List Sf} {ds : List Dm} {d0 d : Dm} (M : MdOk ss ds) (S : Sz2 ds) (h0 : d0 ∈ ds) (ez : d.z = d0.z) (en : d.n = d0.n) (Lm : ∀ r ∈ d.rs, ∃ r0 ∈ d0.rs, r.1 = r0.1 ∧ (r.2 = r0.2 ∨ r.2 = fadd r0.2 f1)) (l8 : 1 ≤ d.rs.length ∧ d.rs.length ≤ 8) (Ln : (d.rs.map (·.1)).Nodup) : MdOk ss (putD ds d) := by
  have ndd := M.bk.ndd
  have hm : d.z ∈ ds.map (·.z) := by
    rw [ez]
    exact List.mem_map_of_mem h0
  have only : ∀ y ∈ ds, y.z = d.z → y = d0 := fun y hy e => by
    have a := dOf_of ndd hy
    have b := dOf_of ndd h0
    rw [e, ez, b] at a
    exact (Option.some.inj a).symm
  obtain ⟨t, b, n, Z, hn, pc⟩ := S
  have ok0 := M.dg d0 h0
  have pd : ∀ r ∈ d.rs, PtC (t + b) b r.2 := fun r hr => by
    obtain ⟨r0, hr0, _, e | e⟩ := Lm r hr
    · rw [e]
      exact (pc d0 h0 r0 hr0).mono (Nat.le_add_right _ _) (Nat.le_refl _)
    · rw [e]
      exact (pc d0 h0 r0 hr0).more
  have okd : DghOk d.z d.rs d.n := by
    refine ⟨by rw [ez]; exact ok0.nm, ⟨fun r hr => ?_, l8.1, l8.2, Ln, cmn_of_bt (k := 30) (fun f hf => ?_) (by rw [List.length_map]; exact l8.2) (by decide)⟩, by rw [en]; exact ok0.n0, by rw [en]; exact ok0.n9⟩
    · obtain ⟨r0, hr0, e, _⟩ := Lm r hr
      exact ⟨by rw [e]; exact (ok0.rw_.all r0 hr0).nm, (pd r hr).lo, (pd r hr).po⟩
    · obtain ⟨r, hr, rfl⟩ := List.mem_map.mp hf
      exact ⟨(pd r hr).lo, Int.le_of_lt (pd r hr).po, (pd r hr).bt Z.t1 Z.b1⟩
  refine ⟨M.sf, fun x hx => ?_, by rw [put_names hm]; exact M.nd, fun j x hx r hr => ?_, M.s1, M.fs, by rw [put_len hm]; exact M.d1, by rw [put_len hm]; exact M.fd, by rw [put_len hm]; exact M.d10, ⟨t + b, b, n, Z, by rw [put_len hm]; exact hn, fun x hx r hr => ?_⟩⟩
  · rcases put_mem hm hx with rfl | hx
    · exact okd
    · exact M.dg x hx
  · obtain ⟨y, hy, ey, c⟩ := put_get hm hx
    have tk : ((putD ds d).take j).map (·.z) = (ds.take j).map (·.z) := by
      rw [List.map_take, List.map_take, put_names hm]
    rw [tk]
    rcases c with ⟨c1, rfl⟩ | ⟨c1, rfl⟩
    · obtain rfl := only y (List.mem_of_getElem? hy) c1
      obtain ⟨r0, hr0, e, _⟩ := Lm r hr
      rw [e]
      exact M.ln j y hy r0 hr0
    · exact M.ln j x hy r hr
  · rcases put_mem hm hx with rfl | hx
    · exact pd r hr
    · exact (pc x hx r hr).mono (Nat.le_add_right _ _) (Nat.le_refl _)
theorem MdOk.later {ss : List Sf} {ds : List Dm} {d0 d : Dm} (M : MdOk ss ds) (S : Sz2 ds) (h0 : d0 ∈ ds) (ez : d.z = d0.z) (en : d.n = d0.n) (L : Later d0.rs d.rs) : MdOk ss (putD ds d) := M.laterG S h0 ez en L.mem (L.len (M.dg d0 h0).rw_.few) (L.nd (M.dg d0 h0).rw_.nd)
/-- a test of two parts: the other way is shown once -/
theorem and_else {c : Bool} {X : Prop} {A B : Hp → Prop} {H1 : Hp} (J : Hp → Prop) (j1 : J H1) (els : ∀ H2, J H2 → B H2) (th : c = true → (∀ H2, J H2 → B H2) → X) : if c = true then X else (if false = true then A H1 else B H1) := by
  by_cases h : c = true
  · rw [if_pos h]
    exact th h els
  · rw [if_neg h, if_neg (by decide)]
    exact els _ j1
theorem Sz3.later {ss : List Sf} {ds : List Dm} {d0 d : Dm} (M : MdOk ss ds) (S : Sz3 ss ds) (h0 : d0 ∈ ds) (ez : d.z = d0.z) (L : Later d0.rs d.rs) : Gm ss (putD ds d) := by
  have hm : d.z ∈ ds.map (·.z) := by
    rw [ez]
    exact List.mem_map_of_mem h0
  obtain ⟨t, b, n, Z, hn, pc, sz⟩ := S
  refine gm_of Z (by rw [put_len hm]; exact hn) (fun x hx => ?_) (fun x hx r hr => ?_) sz
  · rcases put_mem hm hx with rfl | hx
    · exact (L.len (M.dg d0 h0).rw_.few).2
    · exact (M.dg x hx).rw_.few
  · rcases put_mem hm hx with rfl | hx
    · obtain ⟨r0, hr0, _, e | e⟩ := L.mem r hr
      · rw [e]
        exact (pc d0 h0 r0 hr0).mono (Nat.le_add_right _ _) (Nat.le_refl _)
      · rw [e]
        exact (pc d0 h0 r0 hr0).more
    · exact (pc x hx r hr).mono (Nat.le_add_right _ _) (Nat.le_refl _)
section
variable {P : Program} {w : World} {K : PySem.W.Frag} {mg : Str → Option Value} {base : Heap}

end
end Lf

set_option Elab.async false
set_option linter.all false
set_option maxRecDepth 100000
set_option maxHeartbeats 4000000
set_option exponentiation.threshold 3000
namespace Lf
open PySem PySem.Spec PyProof.Rows L2
section
variable {P : Program} {w : World} {K : PySem.W.Frag} {mg : Str → Option Value} {base : Heap}
/-- a list of texts is not the pot -/
theorem sqs_pot {q l : Addr} {H H' : Hp} {zs : List Str} (b : But q H H') (hP : Pot H q) (h : SqL K H l (zs.map V.str)) : SqL K H' l (zs.map V.str) := by
  obtain ⟨x, y, _, _, e⟩ := hP
  rcases h with (h | ⟨o, h⟩) | h
  · refine .inl (.inl (b _ _ (fun z => ?_) h))
    rw [z, e] at h
    have h' : [V.int x, V.int y] = zs.map V.str := HO.lst.inj (Option.some.inj h)
    cases zs with
    | nil => cases h'
    | cons a r => cases h'
  · exact .inl (.inr ⟨o, b _ _ (fun z => by rw [z, e] at h; cases h) h⟩)
  · exact .inr h
theorem BkO.pot {q : Addr} {H H' : Hp} (b : But q H H') (hP : Pot H q) {C CS CD x : Addr} {ss : List Sf} {ds : List Dm} (h : BkO K H C CS CD x ss ds) : BkO K H' C CS CD x ss ds := by
  obtain ⟨dx, ps, pd, I, kss, kds, h1, h2, h3, h4, h5, kvs, h6, h7⟩ := h
  obtain ⟨x1, y1, _, _, e⟩ := id hP
  refine ⟨dx, ps, pd, I, kss, kds, b _ _ (fun z => by rw [z, e] at h1; cases h1) h1, b _ _ (fun z => by rw [z, e] at h2; cases h2) h2, L2.Paired.mapP h3 fun _ _ h => ⟨h.1, SfAt.butL e b h.2⟩, b _ _ (fun z => by rw [z, e] at h4; cases h4) h4, L2.Paired.mapP h5 fun _ _ h => ⟨h.1, DmAt.butL e b h.2⟩, kvs, b _ _ (fun z => by rw [z, e] at h6; cases h6) h6, L2.Paired.mapP h7 fun _ _ h => ?_⟩
  obtain ⟨h1, l, h2, h3⟩ := h
  exact ⟨h1, l, h2, sqs_pot b hP h3⟩
theorem ContAt.pot {q a : Addr} {H H' : Hp} (b : But q H H') (hP : Pot H q) {m : Cont} (h : ContAt K H a m) : ContAt K H' a m := by
  obtain ⟨kvs, h1, h2⟩ := h
  obtain ⟨x1, y1, _, _, e⟩ := id hP
  exact ⟨kvs, b _ _ (fun z => by rw [z, e] at h1; cases h1) h1, L2.Paired.mapP h2 fun _ _ h => ⟨h.1, atk_pot b hP h.2⟩⟩
/-- a dict of what the model's things come to -/
def DueAt (K : PySem.W.Frag) (H : Hp) (p : Addr) (ss : List Sf) (ds : List Dm) : Prop := ∃ kvs, H p = some (.dK kvs) ∧ Paired (OpE K H) kvs (esOf ss ds ds.length)
theorem OpE.same {H H' : Hp} (s : Same H H') {kv : Key × V} {e : Str × Cont} (h : OpE K H kv e) : OpE K H' kv e := let ⟨h1, a, h2, h3⟩ := h; ⟨h1, a, h2, h3.same s⟩
theorem DueAt.same {H H' : Hp} (s : Same H H') {p : Addr} {ss : List Sf} {ds : List Dm} (h : DueAt K H p ss ds) : DueAt K H' p ss ds := let ⟨kvs, e, h⟩ := h; ⟨kvs, s _ _ e, L2.Paired.mapP h fun _ _ => OpE.same s⟩
theorem DueAt.pot {q : Addr} {H H' : Hp} (b : But q H H') (hP : Pot H q) {p : Addr} {ss : List Sf} {ds : List Dm} (h : DueAt K H p ss ds) : DueAt K H' p ss ds := by
  obtain ⟨kvs, h1, h2⟩ := h
  obtain ⟨x1, y1, _, _, e⟩ := id hP
  exact ⟨kvs, b _ _ (fun z => by rw [z, e] at h1; cases h1) h1, L2.Paired.mapP h2 fun _ _ h => let ⟨h1, a, h2, h3⟩ := h; ⟨h1, a, h2, h3.pot b hP⟩⟩
theorem DueAt.of {H H' : Hp} {p : Addr} {ss : List Sf} {ds : List Dm} (h : ∃ kvs, H' p = some (.dK kvs) ∧ Paired (OpF K H p H') kvs (esOf ss ds ds.length)) : DueAt K H' p ss ds := let ⟨kvs, e, h⟩ := h; ⟨kvs, e, L2.Paired.mapP h fun _ _ => OpF.e⟩
/-- d[name] -/
theorem DueAt.get {H : Hp} {p : Addr} {ss : List Sf} {ds : List Dm} {z : Str} (h : DueAt K H p ss ds) (hz : z ∈ ds.map (·.z)) : ∃ a, DGet H p (.str z) (some (.ref a)) ∧ ContAt K H a (opn ds z) := by
  obtain ⟨kvs, h1, h2⟩ := h
  have hm : z ∈ ss.map (·.z) ++ (ds.take ds.length).map (·.z) := List.mem_append_right _ (by rw [List.take_of_length_le (Nat.le_refl _)]; exact hz)
  rcases OpE.val (t := z) h2 with ⟨a1, a2⟩ | ⟨a, a1, a2⟩
  · exfalso
    obtain ⟨kv, hkv, ek⟩ : ∃ kv ∈ kvs, kv.1 = Sum.inr z := by
      have hz2 : (z, opn ds z) ∈ esOf ss ds ds.length := List.mem_map.mpr ⟨z, hm, rfl⟩
      obtain ⟨j, hj⟩ := List.getElem?_of_mem hz2
      have l := plen h2
      have hj2 : j < kvs.length := by
        have := (List.getElem?_eq_some_iff.mp hj).1
        omega
      obtain ⟨e', he', hE⟩ := pget h2 (List.getElem?_eq_getElem hj2)
      rw [hj] at he'
      obtain rfl := Option.some.inj he'
      exact ⟨_, List.getElem_mem hj2, hE.1⟩
    have an := valV_any (Sum.inr z) kvs
    rw [a1, List.any_eq_true.mpr ⟨kv, hkv, decide_eq_true ek⟩] at an
    cases an
  · refine ⟨a, ?_, ?_⟩
    · rw [← a1]
      exact DGet.k (k := Sum.inr z) h1
    · have : envOf (esOf ss ds ds.length) z = opn ds z := by
        unfold esOf
        rw [env_map, if_pos hm]
      rw [← this]
      exact a2

theorem put_perm {ds ds' : List Dm} (p : ds'.Perm ds) {d : Dm} (hm : d.z ∈ ds.map (·.z)) : (putD ds' d).Perm (putD ds d) := by
  unfold putD
  rw [if_pos hm, if_pos ((p.map _).mem_iff.mpr hm)]
  exact p.map _
/-- names can be told apart -/
theorem nms_sure {H : Hp} {q : Addr} {zs : List Str} (al : ∀ z ∈ zs, AllL z) : ∀ H', But q H H' → ∀ ys : List V, (∀ y ∈ ys, y ∈ zs.map V.str) → ∃ es, DpAll K H' ys es ∧ SeqAt.shaped (.list es) = true := fun H' _ ys hy => by
  obtain ⟨ws, rfl, hw⟩ : ∃ ws : List Str, ys = ws.map V.str ∧ ∀ z ∈ ws, AllL z := by
    induction ys with
    | nil => exact ⟨[], rfl, fun z h => nomatch h⟩
    | cons y ys ih =>
      obtain ⟨ws, e, hw⟩ := ih fun y hy' => hy y (List.mem_cons_of_mem _ hy')
      obtain ⟨z, hz, ez⟩ := List.mem_map.mp (hy y List.mem_cons_self)
      refine ⟨z :: ws, by rw [e, ← ez]; rfl, fun x hx => ?_⟩
      rcases List.mem_cons.mp hx with rfl | hx
      · exact al _ hz
      · exact hw x hx
  have lay : ∀ ws : List Str, (∀ z ∈ ws, AllL z) → DpAll K H' (ws.map V.str) (ws.map PyData.str) ∧ PyData.canLayAll0 (ws.map PyData.str) = true ∧ PyData.depthAll (ws.map PyData.str) ≤ 1 := by
    intro ws
    induction ws with
    | nil => exact fun _ => ⟨.nil, by simp only [List.map_nil, PyData.canLayAll0], by simp only [List.map_nil, PyData.depthAll]; omega⟩
    | cons z ws ih =>
      intro h
      obtain ⟨i1, i2, i3⟩ := ih fun x hx => h x (List.mem_cons_of_mem _ hx)
      have e := nm_strOk (h z List.mem_cons_self)
      refine ⟨.cons (.str _) i1, ?_, ?_⟩
      · simp only [List.map_cons, PyData.canLayAll0, PyData.canLay0, i2, e, Bool.and_self]
      · simp only [List.map_cons, PyData.depthAll, PyData.depth]
        omega
  obtain ⟨i1, i2, i3⟩ := lay ws hw
  refine ⟨_, i1, ?_⟩
  unfold SeqAt.shaped
  rw [Bool.and_eq_true]
  refine ⟨by simp only [PyData.canLay0]; exact i2, decide_eq_true ?_⟩
  simp only [PyData.depth]
  omega

end
end Lf

set_option Elab.async false
set_option linter.all false
set_option maxHeartbeats 4000000
/-! What doughs come to, as numbers: it does not hang on the order of rows, nor on their measure. Plain mathematics. -/
namespace Lf
open PySem
def qs (l : List Rat) : Rat := l.foldr (· + ·) 0
theorem qs_nil : qs [] = 0 := rfl
theorem qs_cons (a : Rat) (l : List Rat) : qs (a :: l) = a + qs l := rfl
theorem qs_perm {l m : List Rat} (p : l.Perm m) : qs l = qs m := by
  induction p with
  | nil => rfl
  | cons x _ ih => rw [qs_cons, qs_cons, ih]
  | swap x y l =>
    rw [qs_cons, qs_cons, qs_cons, qs_cons]
    grind
  | trans _ _ h1 h2 => exact h1.trans h2
theorem qs_mul (c : Rat) : ∀ l : List Rat, qs (l.map fun x => c * x) = c * qs l
  | [] => by
    show (0 : Rat) = c * 0
    grind
  | a :: l => by
    have ih := qs_mul c l
    rw [List.map_cons, qs_cons, qs_cons, ih]
    grind
def AllP (m : Cont) : Prop := ∀ e ∈ m, IsF e.2 ∧ 0 < e.2.1
def vC (m : Cont) (x : Str) : Rat := rv (valC m x)
def sC (m : Cont) : Rat := qs (m.map fun e => rv e.2)
theorem valC_cons {e : Str × (Int × Int)} {m : Cont} {x : Str} : valC (e :: m) x = if e.1 = x then e.2 else valC m x := by
  unfold valC
  rw [List.find?_cons]
  by_cases c : e.1 = x
  · rw [decide_eq_true c, if_pos c]
  · rw [decide_eq_false c, if_neg c]
theorem valC_none {m : Cont} {x : Str} (h : x ∉ m.map (·.1)) : valC m x = f0 := by
  induction m with
  | nil => rfl
  | cons e m ih =>
    rw [List.map_cons, List.mem_cons, not_or] at h
    rw [valC_cons, if_neg (fun z => h.1 z.symm)]
    exact ih h.2
theorem valC_f {m : Cont} (h : AllP m) (x : Str) : IsF (valC m x) := by
  induction m with
  | nil => exact f0_f
  | cons e m ih =>
    rw [valC_cons]
    split
    · exact (h e List.mem_cons_self).1
    · exact ih fun y hy => h y (List.mem_cons_of_mem _ hy)
theorem vC_in {m : Cont} (h : AllP m) {x : Str} (hx : x ∈ m.map (·.1)) : vC m x ≠ 0 := by
  unfold vC
  induction m with
  | nil => nomatch hx
  | cons e m ih =>
    rw [valC_cons]
    by_cases c : e.1 = x
    · rw [if_pos c]
      have p := h e List.mem_cons_self
      intro z
      have := (rv_zero p.1).mp z
      have := p.2
      omega
    · rw [if_neg c]
      rw [List.map_cons] at hx
      exact ih (fun y hy => h y (List.mem_cons_of_mem _ hy)) ((List.mem_cons.mp hx).resolve_left fun z => c z.symm)
theorem vC_out {m : Cont} {x : Str} (h : x ∉ m.map (·.1)) : vC m x = 0 := by
  unfold vC
  rw [valC_none h]
  exact rv0
theorem nodup_keys : ∀ {m : Cont}, (m.map (·.1)).Nodup → m.Nodup
  | [], _ => .nil
  | e :: m, h => by
    rw [List.map_cons, List.nodup_cons] at h
    exact List.nodup_cons.mpr ⟨fun z => h.1 (List.mem_map_of_mem z), nodup_keys h.2⟩
/-- contents that are alike in numbers are the same but for the order -/
theorem cont_perm {m n : Cont} (hm : AllP m) (hn : AllP n) (nm : (m.map (·.1)).Nodup) (nn : (n.map (·.1)).Nodup) (h : ∀ x, vC m x = vC n x) : m.Perm n := by
  have keys : ∀ x, x ∈ m.map (·.1) ↔ x ∈ n.map (·.1) := fun x => by
    constructor
    · intro hx
      refine Classical.byContradiction fun c => vC_in hm hx ?_
      rw [h x, vC_out c]
    · intro hx
      refine Classical.byContradiction fun c => vC_in hn hx ?_
      rw [← h x, vC_out c]
  have half : ∀ {m n : Cont}, AllP m → AllP n → (m.map (·.1)).Nodup → (n.map (·.1)).Nodup → (∀ x, vC m x = vC n x) → (∀ x, x ∈ m.map (·.1) → x ∈ n.map (·.1)) → ∀ e ∈ m, e ∈ n := by
    intro m n hm hn nm nn h k e he
    obtain ⟨g, hg, eg⟩ := List.mem_map.mp (k e.1 (List.mem_map_of_mem he))
    have v1 := valC_of nm he
    have v2 := valC_of nn hg
    have hv := h e.1
    unfold vC at hv
    rw [v1, ← eg, v2] at hv
    have : e.2 = g.2 := rv_inj (hm e he).1 (hn g hg).1 hv
    have eq : e = g := Prod.ext eg.symm this
    rw [eq]
    exact hg
  have u : m.Nodup := nodup_keys nm
  have v : n.Nodup := nodup_keys nn
  exact (List.perm_ext_iff_of_nodup u v).mpr fun e => ⟨half hm hn nm nn h (fun x => (keys x).mp) e, half hn hm nn nm (fun x => (h x).symm) (fun x => (keys x).mpr) e⟩
/-! ### one more of a stuff -/
theorem valC_map {k : Str} {f : Int × Int} {x : Str} : ∀ m : Cont, k ∈ m.map (·.1) → valC (m.map fun e => if e.1 = k then (k, fadd e.2 f) else e) x = if x = k then fadd (valC m k) f else valC m x
  | [], h => nomatch h
  | e :: m, h => by
    rw [List.map_cons, valC_cons]
    by_cases c : e.1 = k
    · rw [if_pos c]
      by_cases d : x = k
      · rw [if_pos d.symm, if_pos d, valC_cons, if_pos c]
      · rw [if_neg (fun z => d z.symm), if_neg d, valC_cons, if_neg (fun z => d (z.symm.trans c))]
        by_cases i : k ∈ m.map (·.1)
        · rw [valC_map m i, if_neg d]
        · have e1 : (m.map fun e => if e.1 = k then (k, fadd e.2 f) else e) = m := by
            refine (List.map_congr_left fun y hy => ?_).trans (List.map_id m)
            exact if_neg (show ¬ y.1 = k from fun z => i (by rw [← z]; exact List.mem_map_of_mem hy))
          rw [e1]
    · rw [if_neg c]
      have hk : k ∈ m.map (·.1) := by
        rw [List.map_cons] at h
        exact (List.mem_cons.mp h).resolve_left fun z => c z.symm
      by_cases d : x = k
      · subst d
        rw [if_neg c, valC_map m hk, if_pos rfl, if_pos rfl, valC_cons, if_neg c]
      · rw [if_neg d, valC_cons]
        by_cases g : e.1 = x
        · rw [if_pos g, if_pos g]
        · rw [if_neg g, if_neg g, valC_map m hk, if_neg d]
theorem valC_app {m : Cont} {e : Str × (Int × Int)} {x : Str} (h : x ∉ m.map (·.1)) : valC (m ++ [e]) x = if e.1 = x then e.2 else f0 := by
  induction m with
  | nil =>
    rw [List.nil_append, valC_cons]
    rfl
  | cons c m ih =>
    rw [List.map_cons, List.mem_cons, not_or] at h
    rw [List.cons_append, valC_cons, if_neg (fun z => h.1 z.symm)]
    exact ih h.2
theorem valC_app2 {m : Cont} {e : Str × (Int × Int)} {x : Str} (h : e.1 ≠ x) : valC (m ++ [e]) x = valC m x := by
  induction m with
  | nil =>
    rw [List.nil_append, valC_cons, if_neg h]
  | cons c m ih =>
    rw [List.cons_append, valC_cons, valC_cons, ih]
theorem vC_add {m : Cont} (hm : AllP m) {k x : Str} {f : Int × Int} (hf : IsF f) : vC (addT m k f) x = vC m x + if x = k then rv f else 0 := by
  unfold vC addT
  by_cases c : k ∈ m.map (·.1)
  · rw [if_pos c, valC_map m c]
    by_cases d : x = k
    · rw [if_pos d, if_pos d, d, rv_add (valC_f hm k) hf]
    · rw [if_neg d, if_neg d]
      grind
  · rw [if_neg c]
    by_cases d : x = k
    · subst d
      rw [if_pos rfl, valC_app c, if_pos rfl, valC_none c, rv_add f0_f hf]
    · rw [if_neg d, valC_app2 (fun z => d z.symm)]
      grind
theorem addT_p {m : Cont} (hm : AllP m) {k : Str} {f : Int × Int} (hf : IsF f) (fp : 0 < f.1) : AllP (addT m k f) := by
  have pos : ∀ g : Int × Int, IsF g → 0 ≤ g.1 → IsF (fadd g f) ∧ 0 < (fadd g f).1 := fun g hg h0 => by
    refine ⟨fadd_f hg hf, low_top_pos (Int.mul_pos hg.1 hf.1) ?_⟩
    have a := Int.mul_nonneg h0 (Int.le_of_lt hf.1)
    have b := Int.mul_pos fp hg.1
    omega
  intro e he
  unfold addT at he
  split at he
  · obtain ⟨e0, h0, rfl⟩ := List.mem_map.mp he
    by_cases c : e0.1 = k
    · rw [if_pos c]
      exact pos _ (hm e0 h0).1 (Int.le_of_lt (hm e0 h0).2)
    · rw [if_neg c]
      exact hm e0 h0
  · rcases List.mem_append.mp he with h0 | h0
    · exact hm e h0
    · rw [List.mem_singleton.mp h0]
      exact pos _ f0_f (by decide)
theorem sC_add {m : Cont} (hm : AllP m) (nd : (m.map (·.1)).Nodup) {k : Str} {f : Int × Int} (hf : IsF f) : sC (addT m k f) = sC m + rv f := by
  unfold addT
  by_cases c : k ∈ m.map (·.1)
  · rw [if_pos c]
    unfold sC
    rw [List.map_map]
    induction m with
    | nil => nomatch c
    | cons e m ih =>
      rw [List.map_cons, List.nodup_cons] at nd
      rw [List.map_cons, List.map_cons, qs_cons, qs_cons]
      by_cases d : e.1 = k
      · have e1 : (m.map ((fun e : Str × (Int × Int) => rv e.2) ∘ fun e => if e.1 = k then (k, fadd e.2 f) else e)) = m.map fun e => rv e.2 := by
          refine List.map_congr_left fun y hy => ?_
          show rv (if y.1 = k then (k, fadd y.2 f) else y).2 = rv y.2
          rw [if_neg fun z => nd.1 (by rw [d, ← z]; exact List.mem_map_of_mem hy)]
        rw [e1]
        show rv (if e.1 = k then (k, fadd e.2 f) else e).2 + _ = _
        rw [if_pos d]
        show rv (fadd e.2 f) + _ = _
        rw [rv_add (hm e List.mem_cons_self).1 hf]
        grind
      · have ck : k ∈ m.map (·.1) := by
          rw [List.map_cons] at c
          exact (List.mem_cons.mp c).resolve_left fun z => d z.symm
        have ih' := ih (fun y hy => hm y (List.mem_cons_of_mem _ hy)) nd.2 ck
        rw [ih']
        show rv (if e.1 = k then (k, fadd e.2 f) else e).2 + _ = _
        rw [if_neg d]
        grind
  · rw [if_neg c]
    unfold sC
    have app : ∀ l : List Rat, ∀ a, qs (l ++ [a]) = qs l + a := by
      intro l a
      induction l with
      | nil =>
        show a + 0 = 0 + a
        grind
      | cons b l ih =>
        rw [List.cons_append, qs_cons, qs_cons, ih]
        grind
    rw [List.map_append]
    show qs (_ ++ [rv (fadd f0 f)]) = _
    rw [app, fadd_0 hf]
/-! ### rows -/
theorem opnR_v {much : Int × Int} (hu : IsF much) (up : 0 < much.1) : ∀ (c m : Cont), AllP c → (c.map (·.1)).Nodup → AllP m → (m.map (·.1)).Nodup →
    AllP (opnR much m c) ∧ (∀ x, vC (opnR much m c) x = vC m x + rv much * vC c x) ∧ sC (opnR much m c) = sC m + rv much * sC c
  | [], m, _, _, hm, nm => by
    refine ⟨hm, fun x => ?_, ?_⟩
    · show vC m x = vC m x + rv much * rv f0
      rw [rv0]
      grind
    · show sC m = sC m + rv much * 0
      grind
  | e :: c, m, hc, nc, hm, nm => by
    rw [List.map_cons, List.nodup_cons] at nc
    have he := hc e List.mem_cons_self
    have hf := fmul_f hu he.1
    have fp : 0 < (fmul much e.2).1 := low_top_pos (Int.mul_pos hu.1 he.1.1) (Int.mul_pos up he.2)
    obtain ⟨h1, h2, h3⟩ := opnR_v hu up c (addT m e.1 (fmul much e.2)) (fun y hy => hc y (List.mem_cons_of_mem _ hy)) nc.2 (addT_p hm hf fp) (addT_nodup nm)
    refine ⟨h1, fun x => ?_, ?_⟩
    · show vC (opnR much (addT m e.1 (fmul much e.2)) c) x = _
      rw [h2 x, vC_add hm hf, rv_mul hu he.1]
      show _ = _ + rv much * rv (valC (e :: c) x)
      rw [valC_cons]
      by_cases d : x = e.1
      · rw [if_pos d, if_pos d.symm, d, vC_out nc.1]
        grind
      · rw [if_neg d, if_neg (fun z => d z.symm)]
        show vC m x + 0 + rv much * vC c x = vC m x + rv much * vC c x
        grind
    · show sC (opnR much (addT m e.1 (fmul much e.2)) c) = _
      rw [h3, sC_add hm nm hf, rv_mul hu he.1]
      show _ = _ + rv much * (rv e.2 + sC c)
      grind
/-- the rows' things, by their shares -/
def mix (rs : List (Str × (Int × Int))) (g : Str → Rat) : Rat := qs (rs.map fun r => rv (fdiv r.2 (totD rs)) * g r.1)
theorem rows_go {t : Int × Int} (ht : IsF t) (tp : 0 < t.1) {env : Str → Cont} : ∀ (rs : List (Str × (Int × Int))) (m : Cont), (∀ r ∈ rs, IsF r.2 ∧ 0 < r.2.1 ∧ AllP (env r.1) ∧ ((env r.1).map (·.1)).Nodup) → AllP m → (m.map (·.1)).Nodup →
    AllP (rs.foldl (fun m r => opnR (fdiv r.2 t) m (env r.1)) m) ∧ (∀ x, vC (rs.foldl (fun m r => opnR (fdiv r.2 t) m (env r.1)) m) x = vC m x + qs (rs.map fun r => rv (fdiv r.2 t) * vC (env r.1) x)) ∧ sC (rs.foldl (fun m r => opnR (fdiv r.2 t) m (env r.1)) m) = sC m + qs (rs.map fun r => rv (fdiv r.2 t) * sC (env r.1))
  | [], m, _, hm, nm => by
    refine ⟨hm, fun x => ?_, ?_⟩
    · show vC m x = vC m x + 0
      grind
    · show sC m = sC m + 0
      grind
  | r :: rs, m, h, hm, nm => by
    obtain ⟨r1, r2, r3, r4⟩ := h r List.mem_cons_self
    have hu : IsF (fdiv r.2 t) := fdiv_f r1 (by omega)
    have up : 0 < (fdiv r.2 t).1 := low_top_pos (Int.mul_pos r1.1 tp) (Int.mul_pos r2 ht.1)
    obtain ⟨a1, a2, a3⟩ := opnR_v hu up (env r.1) m r3 r4 hm nm
    obtain ⟨b1, b2, b3⟩ := rows_go ht tp rs (opnR (fdiv r.2 t) m (env r.1)) (fun y hy => h y (List.mem_cons_of_mem _ hy)) a1 (opnR_keys _ _ nm).1
    refine ⟨b1, fun x => ?_, ?_⟩
    · rw [List.foldl_cons, b2 x, a2 x, List.map_cons, qs_cons]
      grind
    · rw [List.foldl_cons, b3, a3, List.map_cons, qs_cons]
      grind
/-- rows that make a dough -/
structure RwP (rs : List (Str × (Int × Int))) : Prop where
  all : ∀ r ∈ rs, IsF r.2 ∧ 0 < r.2.1
  one : 1 ≤ rs.length
theorem RwP.t {rs : List (Str × (Int × Int))} (h : RwP rs) : IsF (totD rs) ∧ 0 < (totD rs).1 ∧ rv (totD rs) = qs (rs.map fun r => rv r.2) := by
  have hf : ∀ f ∈ rs.map (·.2), IsF f ∧ 0 < f.1 := fun f hf => by
    obtain ⟨r, hr, rfl⟩ := List.mem_map.mp hf
    exact h.all r hr
  have s := sum_fold (rs.map (·.2)) f0 f0_f fun f hm => (hf f hm).1
  refine ⟨s.1, fold_pos _ f0 f0_f (fun f hm => (hf f hm).1) (fun f hm => (hf f hm).2) (by decide) (.inl fun z => ?_), ?_⟩
  · have h1 := h.one
    have := congrArg List.length z
    rw [List.length_map] at this
    rw [this] at h1
    cases h1
  · show rv ((rs.map (·.2)).foldl fadd f0) = _
    rw [s.2, rv0]
    have : ∀ l : List (Str × (Int × Int)), rsum (l.map (·.2)) = qs (l.map fun r => rv r.2) := by
      intro l
      induction l with
      | nil => rfl
      | cons a l ih =>
        rw [List.map_cons, List.map_cons, qs_cons, ← ih]
        rfl
    rw [this]
    grind
theorem RwP.mix1 {rs : List (Str × (Int × Int))} (h : RwP rs) : mix rs (fun _ => 1) = 1 := by
  obtain ⟨h1, h2, h3⟩ := h.t
  have e : (rs.map fun r => rv (fdiv r.2 (totD rs)) * (1 : Rat)) = (rs.map fun r => rv r.2).map fun x => (rv (totD rs))⁻¹ * x := by
    rw [List.map_map]
    refine List.map_congr_left fun r hr => ?_
    show _ = (rv (totD rs))⁻¹ * rv r.2
    rw [rv_div (h.all r hr).1 (by omega)]
    grind
  unfold mix
  rw [e, qs_mul, ← h3]
  have : rv (totD rs) ≠ 0 := fun z => by
    have := (rv_zero h1).mp z
    omega
  rw [Rat.mul_comm]
  exact Rat.mul_inv_cancel _ this
theorem opnD_v {rs : List (Str × (Int × Int))} (h : RwP rs) {env : Str → Cont} (he : ∀ r ∈ rs, AllP (env r.1) ∧ ((env r.1).map (·.1)).Nodup) : AllP (opnD rs env) ∧ (∀ x, vC (opnD rs env) x = mix rs fun n => vC (env n) x) ∧ sC (opnD rs env) = mix rs fun n => sC (env n) := by
  obtain ⟨t1, t2, _⟩ := h.t
  obtain ⟨a, b, c⟩ := rows_go (env := env) t1 t2 rs [] (fun r hr => ⟨(h.all r hr).1, (h.all r hr).2, he r hr⟩) (fun e he => nomatch he) .nil
  refine ⟨a, fun x => ?_, ?_⟩
  · show vC (rs.foldl _ []) x = _
    rw [b x]
    show rv f0 + mix rs (fun n => vC (env n) x) = _
    rw [rv0]
    grind
  · show sC (rs.foldl _ []) = _
    rw [c]
    show 0 + mix rs (fun n => sC (env n)) = _
    grind
theorem mix_congr {rs : List (Str × (Int × Int))} {g h : Str → Rat} (e : ∀ r ∈ rs, g r.1 = h r.1) : mix rs g = mix rs h := by
  unfold mix
  congr 1
  exact List.map_congr_left fun r hr => by rw [e r hr]
/-- doughs of a book, in numbers -/
structure BkV (ds : List Dm) : Prop where
  nd : (ds.map (·.z)).Nodup
  rk : ∃ rk, Rk ds rk
  rw_ : ∀ d ∈ ds, RwP d.rs
theorem one_p (n : Str) : AllP [(n, f1)] ∧ (([(n, f1)] : Cont).map (·.1)).Nodup ∧ sC [(n, f1)] = 1 := by
  refine ⟨fun e he => ?_, by simp, ?_⟩
  · rw [List.mem_singleton.mp he]
    exact ⟨f1_f, by show (0 : Int) < 1; decide⟩
  · show rv f1 + 0 = 1
    rw [rv1]
    grind
theorem BkV.all {ds : List Dm} (B : BkV ds) : ∀ n, AllP (opn ds n) ∧ ((opn ds n).map (·.1)).Nodup ∧ sC (opn ds n) = 1 := by
  obtain ⟨rk, R⟩ := B.rk
  have go : ∀ (j : Nat) (n : Str), (n ∈ ds.map (·.z) → rk n < j) → AllP (opn ds n) ∧ ((opn ds n).map (·.1)).Nodup ∧ sC (opn ds n) = 1 := by
    intro j
    induction j with
    | zero =>
      intro n h
      rw [opn_stuff fun z => by have := h z; omega]
      exact one_p n
    | succ j ih =>
      intro n h
      by_cases c : n ∈ ds.map (·.z)
      · obtain ⟨d, hd, rfl⟩ := List.mem_map.mp c
        have lt := h c
        have inn : ∀ r ∈ d.rs, AllP (opn ds r.1) ∧ ((opn ds r.1).map (·.1)).Nodup ∧ sC (opn ds r.1) = 1 := fun r hr => ih r.1 fun z => by
          have := R.dn d hd r hr z
          omega
        rw [opn_dough R B.nd hd]
        obtain ⟨a, _, s⟩ := opnD_v (B.rw_ d hd) (env := opn ds) fun r hr => ⟨(inn r hr).1, (inn r hr).2.1⟩
        refine ⟨a, (opnD_keys d.rs [] .nil).1, ?_⟩
        rw [s, mix_congr (h := fun _ => 1) fun r hr => (inn r hr).2.2]
        exact (B.rw_ d hd).mix1
      · rw [opn_stuff c]
        exact one_p n
  exact fun n => go (rk n + 1) n fun _ => Nat.lt_succ_self _
theorem BkV.v {ds : List Dm} (B : BkV ds) {d : Dm} (hd : d ∈ ds) (x : Str) : vC (opn ds d.z) x = mix d.rs fun n => vC (opn ds n) x := by
  obtain ⟨rk, R⟩ := B.rk
  rw [opn_dough R B.nd hd]
  exact (opnD_v (B.rw_ d hd) (env := opn ds) fun r hr => ⟨(B.all r.1).1, (B.all r.1).2.1⟩).2.1 x
/-- doughs whose rows come to the same by the first book's contents: the second book's contents are the first's -/
theorem opn_like {ds es : List Dm} (B : BkV ds) (E : BkV es) (nm : ∀ n, n ∈ es.map (·.z) ↔ n ∈ ds.map (·.z)) (h : ∀ e ∈ es, ∀ x, mix e.rs (fun n => vC (opn ds n) x) = vC (opn ds e.z) x) (z : Str) : (opn es z).Perm (opn ds z) := by
  obtain ⟨rk, R⟩ := E.rk
  have go : ∀ (j : Nat) (n : Str), (n ∈ es.map (·.z) → rk n < j) → ∀ x, vC (opn es n) x = vC (opn ds n) x := by
    intro j
    induction j with
    | zero =>
      intro n hn x
      have c : n ∉ es.map (·.z) := fun q => by have := hn q; omega
      rw [opn_stuff c, opn_stuff fun q => c ((nm n).mpr q)]
    | succ j ih =>
      intro n hn x
      by_cases c : n ∈ es.map (·.z)
      · obtain ⟨d, hd, rfl⟩ := List.mem_map.mp c
        have lt := hn c
        rw [E.v hd x, ← h d hd x]
        exact mix_congr fun r hr => ih r.1 (fun q => by have := R.dn d hd r hr q; omega) x
      · rw [opn_stuff c, opn_stuff fun q => c ((nm n).mpr q)]
  exact cont_perm (E.all z).1 (B.all z).1 (E.all z).2.1 (B.all z).2.1 (go (rk z + 1) z fun _ => Nat.lt_succ_self _)
/-- rows turned, and rows by another measure -/
theorem mix_perm {rs qs' : List (Str × (Int × Int))} (h : RwP rs) (p : qs'.Perm rs) (g : Str → Rat) : mix qs' g = mix rs g := by
  have t : totD qs' = totD rs := sum_same (p.map _) fun f hf => by
    obtain ⟨r, hr, rfl⟩ := List.mem_map.mp hf
    exact (h.all r (p.mem_iff.mp hr)).1
  unfold mix
  rw [t]
  exact qs_perm (p.map _)
theorem mix_times {rs : List (Str × (Int × Int))} (h : RwP rs) {c : Int × Int} (hc : IsF c) (cp : 0 < c.1) (g : Str → Rat) : mix (rs.map fun r => (r.1, fmul r.2 c)) g = mix rs g := by
  have h' : RwP (rs.map fun r => (r.1, fmul r.2 c)) := by
    refine ⟨fun r hr => ?_, by rw [List.length_map]; exact h.one⟩
    obtain ⟨q, hq, rfl⟩ := List.mem_map.mp hr
    have a := h.all q hq
    exact ⟨fmul_f a.1 hc, low_top_pos (Int.mul_pos a.1.1 hc.1) (Int.mul_pos a.2 cp)⟩
  obtain ⟨t1, t2, t3⟩ := h.t
  obtain ⟨u1, u2, u3⟩ := h'.t
  have c0 : rv c ≠ 0 := fun z => by have := (rv_zero hc).mp z; omega
  have T0 : rv (totD rs) ≠ 0 := fun z => by have := (rv_zero t1).mp z; omega
  have ut : rv (totD (rs.map fun r => (r.1, fmul r.2 c))) = rv c * rv (totD rs) := by
    rw [u3, t3, List.map_map, ← qs_mul, List.map_map]
    congr 1
    refine List.map_congr_left fun r hr => ?_
    show rv (fmul r.2 c) = rv c * rv r.2
    rw [rv_mul (h.all r hr).1 hc]
    grind
  unfold mix
  rw [List.map_map]
  congr 1
  refine List.map_congr_left fun r hr => ?_
  show rv (fdiv (fmul r.2 c) (totD (rs.map fun r => (r.1, fmul r.2 c)))) * g r.1 = rv (fdiv r.2 (totD rs)) * g r.1
  have a := (h.all r hr).1
  rw [rv_div (fmul_f a hc) (by omega), rv_div a (by omega), ut, rv_mul a hc]
  have i1 : rv c * (rv c)⁻¹ = 1 := Rat.mul_inv_cancel _ c0
  have i2 : (rv c * rv (totD rs))⁻¹ = (rv c)⁻¹ * (rv (totD rs))⁻¹ := by
    have ne : rv c * rv (totD rs) ≠ 0 := fun z => by
      rcases Rat.mul_eq_zero.mp z with q | q
      · exact c0 q
      · exact T0 q
    have j : rv c * rv (totD rs) * (rv c * rv (totD rs))⁻¹ = 1 := Rat.mul_inv_cancel _ ne
    have j2 : rv (totD rs) * (rv (totD rs))⁻¹ = 1 := Rat.mul_inv_cancel _ T0
    grind
  rw [i2]
  grind
end Lf

set_option Elab.async false
set_option linter.all false
set_option maxRecDepth 100000
set_option maxHeartbeats 4000000
set_option exponentiation.threshold 3000
namespace Lf
open PySem PySem.Spec PyProof.Rows L2
section
variable {P : Program} {w : World} {K : PySem.W.Frag} {mg : Str → Option Value} {base : Heap} {c0 c1 cw : Addr}
theorem EnS.names {H : Hp} {C : Addr} : ∀ {kvs : List (Key × V)} {ss : List Sf}, Paired (EnS K H C) kvs ss → kvs.map (fun kv => kV kv.1) = (ss.map (·.z)).map V.str
  | _, _, .nil => rfl
  | _, _, .cons r t => by
    rw [List.map_cons, List.map_cons, List.map_cons, r.1, EnS.names t]
    rfl
theorem EnD.names {H : Hp} {C : Addr} : ∀ {kvs : List (Key × V)} {ds : List Dm}, Paired (EnD K H C) kvs ds → kvs.map (fun kv => kV kv.1) = (ds.map (·.z)).map V.str
  | _, _, .nil => rfl
  | _, _, .cons r t => by
    rw [List.map_cons, List.map_cons, List.map_cons, r.1, EnD.names t]
    rfl

/-! ### Book.stuffs -/
theorem sc_bstuffs : FnScope ["self"] ["self"] (defScope s_bstuffs) := ⟨rfl, rfl, rfl, by decide +kernel, rfl, by decide +kernel, by decide +kernel⟩
def sp_bstuffs (K : PySem.W.Frag) (C CS CD : Addr) : Sp := fun vs H Q _ => ∃ (x : Addr) (ss : List Sf) (ds : List Dm), vs = [.ref x] ∧ BkO K H C CS CD x ss ds ∧ ∀ H' l, Same H H' → H l = none → H' l = some (.lst ((ss.map (·.z)).map V.str)) → Q (.ref l) H'
theorem ok_bstuffs {C CS CD f : Addr} {fd : FuncData} (ml : mg "list" = none) (X : BkF K C) (F : Fun K "stuffs" "Book.stuffs" s_bstuffs f fd) : FnG P w K mg base CX0 1 f fd ["self"] (sp_bstuffs K C CS CD) := by
  refine Gfun F sc_bstuffs (fun vs H Q E h => ?_) (fun cdv A outer s H vs Q E hg hr h => ?_)
  · obtain ⟨x, ss, ds, rfl, _⟩ := h
    rfl
  · obtain ⟨x, ss, ds, rfl, bk, k⟩ := h
    refine ⟨_, (pss_one (ps_ret (pe_callTy (call_listD rfl) rfl ml bt_list (pa_cons (pe_fld (pv 0) rfl) pa_nil)))), ?_⟩
    obtain ⟨dx, ps, pd, I, kss, kds, h1, h2, h3, h4, h5, h6⟩ := id bk
    refine ⟨_, rfl, x, C, dx, _, _, rfl, h1, X.c, X.n1, rfl, ps, kss, rfl, .inl h2, fun l nl => ?_⟩
    have s1 : Same H (L2.upd H l (.lst (kss.map fun kv => kV kv.1))) := same_new nl
    have e1 : L2.upd H l (.lst (kss.map fun kv => kV kv.1)) l = some (.lst (kss.map fun kv => kV kv.1)) := upd_same
    generalize L2.upd H l (.lst (kss.map fun kv => kV kv.1)) = H1 at s1 e1 ⊢
    rw [EnS.names h3] at e1
    exact k H1 l s1 nl e1

/-! ### Book.doughs -/
theorem sc_bdoughs : FnScope ["self"] ["self"] (defScope s_bdoughs) := ⟨rfl, rfl, rfl, by decide +kernel, rfl, by decide +kernel, by decide +kernel⟩
def sp_bdoughs (K : PySem.W.Frag) (C CS CD : Addr) : Sp := fun vs H Q _ => ∃ (x : Addr) (ss : List Sf) (ds : List Dm), vs = [.ref x] ∧ BkO K H C CS CD x ss ds ∧ ∀ H' l, Same H H' → H l = none → H' l = some (.lst ((ds.map (·.z)).map V.str)) → Q (.ref l) H'
theorem ok_bdoughs {C CS CD f : Addr} {fd : FuncData} (ml : mg "list" = none) (X : BkF K C) (F : Fun K "doughs" "Book.doughs" s_bdoughs f fd) : FnG P w K mg base CX0 1 f fd ["self"] (sp_bdoughs K C CS CD) := by
  refine Gfun F sc_bdoughs (fun vs H Q E h => ?_) (fun cdv A outer s H vs Q E hg hr h => ?_)
  · obtain ⟨x, ss, ds, rfl, _⟩ := h
    rfl
  · obtain ⟨x, ss, ds, rfl, bk, k⟩ := h
    refine ⟨_, (pss_one (ps_ret (pe_callTy (call_listD rfl) rfl ml bt_list (pa_cons (pe_fld (pv 0) rfl) pa_nil)))), ?_⟩
    obtain ⟨dx, ps, pd, I, kss, kds, h1, h2, h3, h4, h5, h6⟩ := id bk
    refine ⟨_, rfl, x, C, dx, _, _, rfl, h1, X.c, X.n2, rfl, pd, kds, rfl, .inl h4, fun l nl => ?_⟩
    have s1 : Same H (L2.upd H l (.lst (kds.map fun kv => kV kv.1))) := same_new nl
    have e1 : L2.upd H l (.lst (kds.map fun kv => kV kv.1)) l = some (.lst (kds.map fun kv => kV kv.1)) := upd_same
    generalize L2.upd H l (.lst (kds.map fun kv => kV kv.1)) = H1 at s1 e1 ⊢
    rw [EnD.names h5] at e1
    exact k H1 l s1 nl e1

end
end Lf

set_option Elab.async false
set_option linter.all false
set_option maxRecDepth 100000
set_option maxHeartbeats 4000000
/-! Promises of the __init__ of own exceptions. -/
namespace Lf
open PySem PySem.Spec PyProof.Rows L2
/-- one field, of anything -/
def sp_x1 (D : Addr) (f : Str) : Sp := fun vs H Q _ => ∃ (a : Addr) (v : V), vs = [.ref a, v] ∧ H a = some (exo a D none) ∧ ∀ dx, H dx = none → dx ≠ a → Q .non (upd (upd H dx (exd dx [(f, v)])) a (exo a D (some dx)))
/-- one field, a text -/
def sp_xt (D : Addr) (f : Str) : Sp := fun vs H Q _ => ∃ (a : Addr) (x : Str), vs = [.ref a, .str x] ∧ x.length ≤ 1000 ∧ H a = some (exo a D none) ∧ ∀ dx, H dx = none → dx ≠ a → Q .non (upd (upd H dx (exd dx [(f, .str x)])) a (exo a D (some dx)))
/-- two fields -/
def sp_x2 (D : Addr) (f g : Str) : Sp := fun vs H Q _ => ∃ (a : Addr) (v u : V), vs = [.ref a, v, u] ∧ H a = some (exo a D none) ∧ ∀ dx, H dx = none → dx ≠ a → Q .non (upd (upd (upd H dx (exd dx [(f, v)])) a (exo a D (some dx))) dx (exd dx [(f, v), (g, u)]))
/-- what a raise of an exception with fields leads to: the error's dict d is new and holds the fields -/
theorem raised {H : Hp} {a dx D : Addr} {fs : List (Str × V)} (ha : H a = none) (e1 : upd H a (exo a D none) dx = none) (e2 : dx ≠ a) {o1 o2 o3 : HO} : Same H (upd (del (upd (upd (upd H a o1) dx o2) a o3) a) dx (.xd fs)) ∧ H dx = none := by
  rw [upd_ne e2] at e1
  refine ⟨fun b o e => ?_, e1⟩
  have nb1 : b ≠ a := ne_of_none e ha
  have nb2 : b ≠ dx := ne_of_none e e1
  rw [upd_ne nb2, del_ne nb1, upd_ne nb1, upd_ne nb2, upd_ne nb1]
  exact e
end Lf

set_option Elab.async false
set_option linter.all false
set_option maxRecDepth 100000
set_option maxHeartbeats 4000000
set_option exponentiation.threshold 3000
namespace Lf
open PySem PySem.Spec PyProof.Rows L2
open NdefX

/-! ### NoName.__init__ -/
theorem scx_NoName : NScope ["self", "who", "__class__"] ["self", "who"] ["__class__"] (defScope sx_NoName) := nscope_by (by decide +kernel)
theorem okx_NoName {P : Program} {w : World} {K : PySem.W.Frag} {mg : Str → Option Value} {base : Heap} {D f cc cda : Addr} {fd : FuncData} (T : XTn P K mg "NoName" "NoName.__init__" ["who"] sx_NoName D f fd cc cda) : FnOk P w K mg base CX0 1 f fd ["self", "who"] (sp_x1 D "who") := by
  refine xok T.F T.T T.sup scx_NoName (fun vs H Q E h => ?_) rfl rfl rfl rfl rfl (fun L => ⟨_, rfl⟩) (fun L => rfl) (fun L => rfl) (fun L => rfl) (fun A outer s H vs Q E hr h => ?_)
  · obtain ⟨a, v, rfl, _⟩ := h
    rfl
  · obtain ⟨a, v, rfl, ha, k⟩ := h
    refine ⟨_, _, pa_cons pe_str pa_nil, pss_one (ps_ost (pv 0) (pv 1)), a, rfl, ha, ?_⟩
    exact ⟨by show 1 ≤ 1000; decide, ha, _, rfl, _, rfl, a, D, rfl, T.T, T.no _ (by simp), .inl ⟨ha, fun dx n1 n2 => k dx n1 n2⟩⟩
/-- whether a thing is one of a dict's texts -/
def inDk (d : PyData) (kvs : List (Key × V)) : Bool := match d with
  | .str z => (valV kvs (Sum.inr z)).isSome
  | _ => false
section
variable {P : Program} {w : World} {K : PySem.W.Frag} {mg : Str → Option Value} {base : Heap}
def sp_ioX (K : PySem.W.Frag) : Sp := fun vs H Q _ => ∃ (v : V) (d : PyData) (a : Addr) (kvs : List (Key × V)), vs = [v, .ref a] ∧ Dq K H v d ∧ H a = some (.dK kvs) ∧ Q (.bl (inDk d kvs)) H

theorem ok_ioX {f : Addr} {fd : FuncData} (M : Blt mg) (Mx : Bltx mg) (F : Fun K "is_one_of" "is_one_of" s_is_one_of f fd) : FnG P w K mg base CX0 1 f fd ["thing", "names"] (sp_ioX K) := by
  refine Gfun F sc_is_one_of (fun vs H Q E h => ?_) (fun cdv A outer s H vs Q E hg hr h => ?_)
  · obtain ⟨v, d, a, kvs, rfl, _⟩ := h
    rfl
  · obtain ⟨v, d, a, kvs, rfl, hv, ha, k⟩ := h
    refine ⟨_, (pss_one (ps_ret (pe_and (pe_callB call_isi rfl Mx.isinstance bt_isinstance (pa_cons (pv 0) (pa_cons (pe_bltn (v := .ty "str") rfl M.str bt_str rfl) pa_nil))) (pe_one (pe_cmp (pc_din (by exact u1 hr) (pv 0) (pv 1))))))), ?_⟩
    refine ⟨_, rfl, _, _, _, _, _, rfl, .ty _, hv.ty, kit_ty (ks d), _, rfl, ite2 (fun c => ?_) (fun c => ?_)⟩
    · obtain ⟨z, rfl, rfl⟩ := hv.txt c
      exact ⟨_, rfl, _, rfl, a, _, rfl, DGet.k (k := Sum.inr z) ha, k⟩
    · have : inDk d kvs = false := by
        cases d <;> first | rfl | exact absurd rfl c
      rw [this] at k
      exact k

/-- dough, of anything: the dough, or refused with what was handed in -/
def sp_bdoughX (K : PySem.W.Frag) (C CS CD D : Addr) : Sp := fun vs H Q E => ∃ (x : Addr) (v : V) (y : PyData) (ss : List Sf) (ds : List Dm), vs = [.ref x, v] ∧ BkO K H C CS CD x ss ds ∧ (ds.map (·.z)).Nodup ∧ Dq K H v y ∧ (∀ d ∈ ds, y = .str d.z → ∀ v, DmAt K H CD v d → Q v H) ∧ ((∀ d ∈ ds, y ≠ .str d.z) → ∀ H' dx, Same H H' → H dx = none → H' dx = some (.xd [("who", v)]) → E (.ref D) (some dx) H')
theorem ok_bdoughX {C CS CD f : Addr} {fd : FuncData} {DNoName fNoName ccNoName cdNoName : Addr} {fdNoName : FuncData} (TN : XTn P K mg "NoName" "NoName.__init__" ["who"] sx_NoName DNoName fNoName fdNoName ccNoName cdNoName) (X : BkF K C) (F : Fun K "dough" "Book.dough" s_bdough f fd) (C_is_one_of : Cal P w K mg base CX0 1 "is_one_of" ["thing", "names"] (sp_ioX K)) : FnG P w K mg base (L2.CX P w) 3 f fd ["self", "name"] (sp_bdoughX K C CS CD DNoName) := by
  refine GfunX F sc_bdough (fun vs H Q E h => ?_) (fun cdv A outer s H vs Q E hg hr h => ?_)
  · obtain ⟨x, v, y, ss, ds, rfl, _⟩ := h
    rfl
  · obtain ⟨x, v, y, ss, ds, rfl, bk, nd, hv, k1, k2⟩ := h
    refine ⟨_, (pss_cons (ps_if (pt_not (pt_val (pe_g C_is_one_of (hr.mono (by decide)) hg (pa_cons (pv 1) (pa_cons (pe_fld (pv 0) rfl) pa_nil)))))
      (pss_one (ps_raise rfl (takes_of rfl rfl rfl rfl) (pmk_oex TN.T TN.iC TN.tI (okx_NoName TN) (hr.mono (by decide)) TN.b .nil pass0 rfl TN.g (pa_cons (pv 1) pa_nil))))
      pss_nil)
      (pss_one (ps_ret (pe_dget (by exact u1 hr) (pe_fld (pv 0) rfl) (pv 1) (fun _ _ => rfl))))), ?_⟩
    obtain ⟨dx, ps, pd, I, kss, kds, h1, h2, h3, h4, h5, h6⟩ := id bk
    refine ⟨_, rfl, _, rfl, x, C, dx, _, _, rfl, h1, X.c, X.n2, rfl, v, y, pd, kds, rfl, hv, h4, _, rfl, ?_⟩
    cases q : inDk y kds with
    | true =>
      obtain ⟨z, rfl⟩ : ∃ z, y = .str z := by
        cases y with
        | str z => exact ⟨z, rfl⟩
        | _ => cases q
      have q : (valV kds (Sum.inr z)).isSome = true := q
      obtain ⟨d, hd, ez⟩ : ∃ d ∈ ds, d.z = z := by
        cases Classical.em (z ∈ ds.map (·.z)) with
        | inl h => exact List.mem_map.mp h
        | inr h =>
          rw [EnD.none h5 h] at q
          cases q
      obtain ⟨z', rfl, ez'⟩ := hv.txt rfl
      cases ez'
      obtain ⟨u, hu1, hu2⟩ := EnD.val h5 nd d hd
      rw [ez] at hu1
      refine iteF ?_
      exact ⟨_, rfl, x, C, dx, _, _, rfl, h1, X.c, X.n2, rfl, _, rfl, pd, u, rfl, .inl ⟨kds, Sum.inr z, .inl h4, rfl, hu1.symm⟩, k1 d hd (by rw [ez]) u hu2⟩
    | false =>
      refine iteT ?_
      refine ⟨_, rfl, by show 1 ≤ 1000; decide, fun a ha => ⟨a, v, rfl, upd_same, fun dy e1 e2 => ⟨rfl, dy, [(("who" : Str), v)], upd_same, ?_, ?_, ?_⟩⟩⟩
      · rw [upd_ne e2, upd_same]
      · rw [upd_ne e2] at e1
        exact e1
      · obtain ⟨r1, r2⟩ := raised (D := DNoName) ha e1 e2
        refine k2 (fun d hd z => ?_) _ dy r1 r2 upd_same
        rw [z] at q
        obtain ⟨u, hu1, _⟩ := EnD.val h5 nd d hd
        have q : (valV kds (Sum.inr d.z)).isSome = false := q
        rw [hu1] at q
        cases q

end
end Lf

set_option Elab.async false
set_option linter.all false
set_option maxRecDepth 100000
set_option maxHeartbeats 4000000
set_option exponentiation.threshold 3000
namespace Lf
open PySem PySem.Spec PyProof.Rows L2
/-- a line of a row -/
def lnT (bl : Str) (r : Str × (Int × Int)) (t : Int × Int) : Str := bl ++ r.1 ++ " " ++ ftext (fdiv r.2 t).1 (fdiv r.2 t).2
def rowT (ns : List Str) (rec : Str → Str → List Str → List Str × List Str) (t : Int × Int) (bl : Str) (st : List Str × List Str) (r : Str × (Int × Int)) : List Str × List Str :=
  if r.1 ∈ st.2 then (st.1 ++ [lnT bl r t ++ " .."], st.2)
  else if r.1 ∈ ns then (st.1 ++ [lnT bl r t] ++ (rec r.1 (bl ++ "  ") st.2).1, (rec r.1 (bl ++ "  ") st.2).2)
  else (st.1 ++ [lnT bl r t], st.2)
/-- the lines beneath a dough, and whose lines are shown then -/
def treeL (ds : List Dm) : Nat → Str → Str → List Str → List Str × List Str
  | 0, z, _, sh => ([], sh ++ [z])
  | n + 1, z, bl, sh => match dOf ds z with
    | none => ([], sh ++ [z])
    | some d => d.rs.foldl (rowT (ds.map (·.z)) (treeL ds n) (totR d.rs) bl) ([], sh ++ [z])
structure ShI (ds : List Dm) (sh : List Str) : Prop where
  nd : sh.Nodup
  sub : ∀ z ∈ sh, z ∈ ds.map (·.z)
theorem ShI.add {ds : List Dm} {sh : List Str} {z : Str} (h : ShI ds sh) (hz : z ∈ ds.map (·.z)) (n : z ∉ sh) : ShI ds (sh ++ [z]) :=
  ⟨List.nodup_append.mpr ⟨h.nd, (by simp), fun a ha b hb e => n (by rw [← List.mem_singleton.mp hb, ← e]; exact ha)⟩, fun y hy => (List.mem_append.mp hy).elim (h.sub y) fun k => by rw [List.mem_singleton.mp k]; exact hz⟩
theorem ShI.len {ds : List Dm} {sh : List Str} (h : ShI ds sh) (fd : ds.length ≤ 11) : sh.length ≤ 11 := by
  have := nodup_leS h.nd h.sub
  rw [List.length_map] at this
  omega
/-- what is shown grows, each dough once; each has a line for each of its rows -/
structure TrI (ds : List Dm) (sh : List Str) (i : Nat) (st : List Str × List Str) : Prop where
  ok : ShI ds st.2
  le : sh.length ≤ st.2.length
  few : st.1.length + 8 * sh.length ≤ i + 8 * st.2.length
theorem TrI.row {ds : List Dm} {sh : List Str} {i : Nat} {st : List Str × List Str} {rec : Str → Str → List Str → List Str × List Str} {t : Int × Int} {bl : Str} {r : Str × (Int × Int)} (h : TrI ds sh i st)
    (hr : ∀ z bl sh, ShI ds sh → z ∈ ds.map (·.z) → z ∉ sh → TrI ds sh 0 (rec z bl sh)) : TrI ds sh (i + 1) (rowT (ds.map (·.z)) rec t bl st r) := by
  unfold rowT
  have h1 := h.le
  have h2 := h.few
  by_cases a : r.1 ∈ st.2
  · rw [if_pos a]
    exact ⟨h.ok, h.le, by simp only [List.length_append, List.length_singleton]; omega⟩
  · rw [if_neg a]
    by_cases b : r.1 ∈ ds.map (·.z)
    · rw [if_pos b]
      have k := hr r.1 (bl ++ "  ") st.2 h.ok b a
      have k1 := k.le
      have k2 := k.few
      exact ⟨k.ok, by simp only; omega, by simp only [List.length_append, List.length_singleton]; omega⟩
    · rw [if_neg b]
      exact ⟨h.ok, h.le, by simp only [List.length_append, List.length_singleton]; omega⟩
theorem TrI.rows {ds : List Dm} {sh : List Str} {rec : Str → Str → List Str → List Str × List Str} {t : Int × Int} {bl : Str}
    (hr : ∀ z bl sh, ShI ds sh → z ∈ ds.map (·.z) → z ∉ sh → TrI ds sh 0 (rec z bl sh)) : ∀ (rs : List (Str × (Int × Int))) (i : Nat) (st : List Str × List Str), TrI ds sh i st → TrI ds sh (i + rs.length) (rs.foldl (rowT (ds.map (·.z)) rec t bl) st)
  | [], _, _, h => h
  | r :: rs, i, st, h => by
    have := TrI.rows (t := t) (bl := bl) hr rs (i + 1) _ (h.row (t := t) (bl := bl) (r := r) hr)
    rw [show i + 1 + rs.length = i + (r :: rs).length by rw [List.length_cons]; omega] at this
    exact this
theorem treeL_ok {ds : List Dm} (r8 : ∀ d ∈ ds, d.rs.length ≤ 8) : ∀ (n : Nat) (z bl : Str) (sh : List Str), ShI ds sh → z ∈ ds.map (·.z) → z ∉ sh → TrI ds sh 0 (treeL ds n z bl sh)
  | 0, z, bl, sh, h, hz, nz => ⟨h.add hz nz, by show sh.length ≤ (sh ++ [z]).length; simp, by show ([] : List Str).length + _ ≤ _ + 8 * (sh ++ [z]).length; simp; omega⟩
  | n + 1, z, bl, sh, h, hz, nz => by
    unfold treeL
    cases e : dOf ds z with
    | none => exact ⟨h.add hz nz, by show sh.length ≤ (sh ++ [z]).length; simp, by show ([] : List Str).length + _ ≤ _ + 8 * (sh ++ [z]).length; simp; omega⟩
    | some d =>
      have hd := (dOf_mem e).1
      have s0 : TrI ds (sh ++ [z]) 0 (([], sh ++ [z]) : List Str × List Str) := ⟨h.add hz nz, Nat.le_refl _, by simp⟩
      have k := TrI.rows (treeL_ok r8 n) (t := totR d.rs) (bl := bl) d.rs 0 _ s0
      have k1 := k.le
      have k2 := k.few
      have := r8 d hd
      rw [List.length_append, List.length_singleton] at k1 k2
      exact (show TrI ds sh 0 (d.rs.foldl (rowT (ds.map (·.z)) (treeL ds n) (totR d.rs) bl) ([], sh ++ [z])) from ⟨k.ok, by omega, by omega⟩)
/-- all but two places -/
def But2 (S L : Addr) (H H' : Hp) : Prop := ∀ b o, b ≠ S → b ≠ L → H b = some o → H' b = some o
theorem But2.trans {S L : Addr} {H H' H'' : Hp} (a : But2 S L H H') (b : But2 S L H' H'') : But2 S L H H'' := fun c o n1 n2 e => b c o n1 n2 (a c o n1 n2 e)
theorem But2.of {S L : Addr} {H H' : Hp} (s : Same H H') : But2 S L H H' := fun c o _ _ e => s c o e
theorem But2.updS {S L : Addr} {H : Hp} {x : HO} : But2 S L H (L2.upd H S x) := fun c o n _ e => by rw [upd_ne n]; exact e
theorem But2.updL {S L : Addr} {H : Hp} {x : HO} : But2 S L H (L2.upd H L x) := fun c o _ n e => by rw [upd_ne n]; exact e
section
variable {P : Program} {w : World} {K : PySem.W.Frag} {mg : Str → Option Value} {base : Heap} {S L : Addr} {H H' : Hp} {as bs : List V}
theorem wo2_same (b : But2 S L H H') : Same (wo S (wo L H)) (wo S (wo L H')) := fun c o e => by
  have n1 := wo_not e
  have e1 : wo L H c = some o := wo_le _ _ e
  have n2 := wo_not e1
  have e2 : H c = some o := wo_le _ _ e1
  exact wo_at n1 (wo_at n2 (b c o n1 n2 e2))
theorem wo2_le : Same (wo S (wo L H)) H := fun c o e => wo_le _ _ (wo_le _ _ e)
theorem SqT.but2 {l : Addr} {xs : List V} (eS : H S = some (.lst as)) (eL : H L = some (.lst bs)) (b : But2 S L H H') (h : SqT K H l xs) : SqT K H' l xs := by
  rcases h with (h | ⟨o, h⟩) | h
  · exact .inl (.inl (b _ _ (fun z => by rw [z, eS] at h; cases h) (fun z => by rw [z, eL] at h; cases h) h))
  · exact .inl (.inr ⟨o, b _ _ (fun z => by rw [z, eS] at h; cases h) (fun z => by rw [z, eL] at h; cases h) h⟩)
  · exact .inr h
theorem AtK.but2 {v : V} {f : Int × Int} (eS : H S = some (.lst as)) (eL : H L = some (.lst bs)) (b : But2 S L H H') (h : AtK K H v f) : AtK K H' v f := let ⟨p, e1, h⟩ := h; ⟨p, e1, SqT.but2 eS eL b h⟩
theorem RwsAt.but2 {xs : List V} {rs : List (Str × (Int × Int))} (eS : H S = some (.lst as)) (eL : H L = some (.lst bs)) (b : But2 S L H H') (h : RwsAt K H xs rs) : RwsAt K H' xs rs := L2.Paired.mapP h fun _ _ h => let ⟨p, vf, e, h1, h2⟩ := h; ⟨p, vf, e, SqT.but2 eS eL b h1, AtK.but2 eS eL b h2⟩
/-- a book whose trees can be told -/
structure TrOk (ss : List Sf) (ds : List Dm) (rk : Str → Nat) : Prop where
  B : BkOk ss ds
  N : BkN ss ds
  D : ∀ d ∈ ds, DghOk d.z d.rs d.n
  R : Rk ds rk
theorem ftext_len {a b : Int} (ha : Sm a) (hb : Sm b) : (ftext a b).length ≤ 1803 := by
  have la := ha.text
  have lb := hb.text
  have ls : (Str.ofString "/").length = 1 := by rw [PySem.ofString_length]; rfl
  unfold ftext
  split
  · exact Nat.le_trans la (by decide)
  · rw [strLen_append, strLen_append]
    show (Str.ofString (toString a)).length + (Str.ofString "/").length + (Str.ofString (toString b)).length ≤ _
    omega
def sp_add (K : PySem.W.Frag) (C CS CD : Addr) (n : Nat) : Sp := fun vs H Q _ => ∃ (x S L : Addr) (z bl : Str) (sh ls : List Str) (ss : List Sf) (ds : List Dm) (rk : Str → Nat), vs = [.ref x, .str z, .str bl, .ref S, .ref L] ∧ TrOk ss ds rk ∧ BkO K (wo S (wo L H)) C CS CD x ss ds ∧ S ≠ L ∧ H S = some (.lst (sh.map V.str)) ∧ H L = some (.lst (ls.map V.str)) ∧ ShI ds sh ∧ z ∈ ds.map (·.z) ∧ z ∉ sh ∧ rk z < n ∧ bl.length + 2 * n ≤ 100 ∧ ls.length ≤ 1 + 8 * sh.length ∧
  ∀ H', But2 S L H H' → H' S = some (.lst ((treeL ds n z bl sh).2.map V.str)) → H' L = some (.lst ((ls ++ (treeL ds n z bl sh).1).map V.str)) → Q .non H'

/-! ### add_lines -/
theorem sc_add_lines : FnScope ["book", "name", "blanks", "shown", "lines", "dough", "total", "thing", "parts", "line"] ["book", "name", "blanks", "shown", "lines"] (defScope s_add_lines) := ⟨rfl, rfl, rfl, by decide +kernel, rfl, by decide +kernel, by decide +kernel⟩
set_option maxHeartbeats 16000000 in
theorem ok_add {n : Nat} {f : Addr} {fd : FuncData} {C CS CD fm ft fr fn : Addr} {fdm fdt fdr fdn : FuncData} (Md : MetG P w K mg base CX0 2 C "dough" fm fdm ["self", "name"] (sp_bdough K C CS CD)) (Mt : MetG P w K mg base CX0 7 CD "total" ft fdt ["self"] (sp_dtotal K CD)) (Mr : MetG P w K mg base CX0 1 CD "rows" fr fdr ["self"] (sp_drows K CD)) (Mn : MetG P w K mg base CX0 1 C "doughs" fn fdn ["self"] (sp_bdoughs K C CS CD)) (F : Fun K "add_lines" "add_lines" s_add_lines f fd) (C_over : Cal P w K mg base CX0 5 "over" ["one", "other"] (sp_over K)) (C_fraction_text : Cal P w K mg base CX0 1 "fraction_text" ["one"] (sp_fraction_text K)) (C_add_lines : Cal P w K mg base CX0 (8 + n) "add_lines" ["book", "name", "blanks", "shown", "lines"] (sp_add K C CS CD n)) : FnG P w K mg base CX0 (8 + n + 1) f fd ["book", "name", "blanks", "shown", "lines"] (sp_add K C CS CD (n + 1)) := by
  refine Gfun F sc_add_lines (fun vs H Q E h => ?_) (fun cdv A outer s H vs Q E hg hr h => ?_)
  · obtain ⟨x, S, L, z, bl, sh, ls, ss, ds, rk, rfl, _⟩ := h
    rfl
  · obtain ⟨x, S, L, z, bl, sh, ls, ss, ds, rk, rfl, T, bk, nSL, eS, eL, I, hz, nz, hrk, hbl, hls, k⟩ := h
    refine ⟨_, (pss_cons (ps_expr (pe_bm PySem.F.plainAttrs_list PySem.F.slot_list_append PySem.F.type_list_append mt_append (pv 3) (pa_cons (pv 1) pa_nil)))
      (pss_cons (ps_set (i := 5) sc_add_lines.nd rfl (.inl rfl) (pe_meG (pv 0) Md (hr.mono (by omega)) hg (fun _ => pass_no) (pa_cons (pv 1) pa_nil)))
      (pss_cons (ps_set (i := 6) sc_add_lines.nd rfl (.inl rfl) (pe_meG0 (pv 5) Mt (hr.mono (by omega)) hg (fun _ => pass_no)))
      (pss_one (ps_for PassesOwn.never rfl (pi_list (pe_meG0 (pv 5) Mr (hr.mono (by omega)) hg (fun _ => pass_no))) (pg_tup rfl (pgs_cons (pg_name (i := 7) sc_add_lines.nd rfl (.inl rfl)) (pgs_cons (pg_name (i := 8) sc_add_lines.nd rfl (.inl rfl)) pgs_nil)))
      (pss_cons (ps_set (i := 9) sc_add_lines.nd rfl (.inl rfl) (pe_joined (PJ.cons (pe_fmt (pv 2)) (PJ.cons (pe_fmt (pv 7)) (PJ.cons pe_str (PJ.cons (pe_fmt (pe_g C_fraction_text (hr.mono (by omega)) hg (pa_cons (pe_g C_over (hr.mono (by omega)) hg (pa_cons (pv 8) (pa_cons (pv 6) pa_nil))) pa_nil))) PJ.nil))))))
      (pss_one (ps_if (pt_cmpR (op_inD (by exact u65 hr)) (pv 7) (pv 3) rfl)
      (pss_one (ps_expr (pe_bm PySem.F.plainAttrs_list PySem.F.slot_list_append PySem.F.type_list_append mt_append (pv 4) (pa_cons (pe_joined (PJ.cons (pe_fmt (pv 9)) (PJ.cons pe_str PJ.nil))) pa_nil))))
      (pss_cons (ps_expr (pe_bm PySem.F.plainAttrs_list PySem.F.slot_list_append PySem.F.type_list_append mt_append (pv 4) (pa_cons (pv 9) pa_nil)))
      (pss_one (ps_if (pt_cmpR (op_inD (by exact u65 hr)) (pv 7) (pe_meG0 (pv 0) Mn (hr.mono (by omega)) hg (fun _ => pass_no)) rfl)
      (pss_one (ps_expr (pe_g C_add_lines (hr.mono (by omega)) hg (pa_cons (pv 0) (pa_cons (pv 7) (pa_cons (pe_joined (PJ.cons (pe_fmt (pv 2)) (PJ.cons pe_str PJ.nil))) (pa_cons (pv 3) (pa_cons (pv 4) pa_nil))))))))
      pss_nil))))))))))), ?_⟩
    have hsl := I.len T.B.fd
    refine ⟨_, rfl, .inl ⟨rfl, _, .inl (.inl eS)⟩, _, rfl, S, _, _, rfl, rfl, eS, by rw [List.length_map, sizeLine_eq]; omega, ?_⟩
    have b1 : But2 S L H (L2.upd H S (.lst (sh.map V.str ++ [.str z]))) := But2.updS
    have e1 : L2.upd H S (.lst (sh.map V.str ++ [.str z])) S = some (.lst ((sh ++ [z]).map V.str)) := by rw [upd_same, List.map_append]; rfl
    have eL1 : L2.upd H S (.lst (sh.map V.str ++ [.str z])) L = some (.lst (ls.map V.str)) := by rw [upd_ne nSL.symm]; exact eL
    generalize L2.upd H S (.lst (sh.map V.str ++ [.str z])) = H1 at b1 e1 eL1 ⊢
    have bk1 : BkO K (wo S (wo L H1)) C CS CD x ss ds := bk.same (wo2_same b1)
    obtain ⟨d, hd, hdz⟩ := List.mem_map.mp hz
    have nd := T.B.ndd
    have okd := T.D d hd
    have e_of : dOf ds z = some d := by rw [← hdz]; exact dOf_of nd hd
    have bkH := bk1.same wo2_le
    obtain ⟨bx, bps, bpd, bI, kss, kds, g1, _⟩ := id bkH
    refine ⟨_, rfl, x, _, _, rfl, g1, rfl, _, rfl, x, z, ss, ds, d, rfl, bkH, nd, hd, hdz, fun dv hdv => ?_⟩
    obtain ⟨dx, rfl, hdx⟩ := hdv
    obtain ⟨dd, dpr, dxs, g2, _⟩ := id hdx
    refine ⟨_, rfl, dx, _, _, rfl, g2, rfl, dx, d.z, d.rs, d.n, rfl, hdx, okd.rw_, fun H2 tv s2 ht => ?_⟩
    refine ⟨_, rfl, dx, _, _, rfl, s2 _ _ g2, rfl, dx, d.z, d.rs, d.n, rfl, hdx.same s2, fun R xs nR hR => ?_⟩
    have s3 : Same H2 (L2.upd H2 R (.lst xs)) := same_new nR
    have eR : L2.upd H2 R (.lst xs) R = some (.lst xs) := upd_same
    have nRS : R ≠ S := fun z => by rw [z, s2 _ _ e1] at nR; cases nR
    have nRL : R ≠ L := fun z => by rw [z, s2 _ _ eL1] at nR; cases nR
    generalize L2.upd H2 R (.lst xs) = H3 at s3 eR ⊢
    have s13 := s2.trans s3
    have hR3 := hR.same s3
    have ht3 := ht.same s3
    have eS3 := s13 _ _ e1
    have eL3 := s13 _ _ eL1
    have b03 : But2 S L H H3 := b1.trans (But2.of s13)
    have hxl := plen hR
    have r8 : ∀ d ∈ ds, d.rs.length ≤ 8 := fun d hd => (T.D d hd).rw_.few
    have okr := okd.rw_
    refine ⟨R, rfl, ⟨xs, .inl (.inl eR)⟩, ?_⟩
    refine for_list (K := K) (a := R) (xs := xs) (fun i σ H' => ∃ (y1 y2 y3 : Option V), σ = [some (.ref x), some (.str z), some (.str bl), some (.ref S), some (.ref L), some (.ref dx), some tv, y1, y2, y3] ∧ But2 S L H3 H' ∧ H' S = some (.lst ((((d.rs.take i).foldl (rowT (ds.map (·.z)) (treeL ds n) (totR d.rs) bl) ([], sh ++ [z])).2).map V.str)) ∧ H' L = some (.lst ((ls ++ ((d.rs.take i).foldl (rowT (ds.map (·.z)) (treeL ds n) (totR d.rs) bl) ([], sh ++ [z])).1).map V.str))) ⟨_, _, _, rfl, fun _ _ _ _ e => e, eS3, by rw [List.take_zero]; show _ = some (HO.lst ((ls ++ []).map V.str)); rw [List.append_nil]; exact eL3⟩ (fun i σ H' _ h => ?_) ?_ ?_
    · obtain ⟨_, _, _, _, b, _⟩ := h
      exact .inl (.inl (b _ _ nRS nRL eR))
    · rintro i rv_ σ H4 hx ⟨y1, y2, y3, rfl, b4, eS4, eL4⟩
      obtain ⟨r, hr, hra⟩ := pget (RwsAt.but2 eS3 eL3 b4 hR3) hx
      have hil := (List.getElem?_eq_some_iff.mp hr).1
      have hrm := List.mem_of_getElem? hr
      have tri := TrI.rows (treeL_ok r8 n) (t := totR d.rs) (bl := bl) (d.rs.take i) 0 ([], sh ++ [z]) ⟨I.add hz nz, Nat.le_refl _, by simp⟩
      have hst : (d.rs.take (i + 1)).foldl (rowT (ds.map (·.z)) (treeL ds n) (totR d.rs) bl) ([], sh ++ [z]) = rowT (ds.map (·.z)) (treeL ds n) (totR d.rs) bl ((d.rs.take i).foldl (rowT (ds.map (·.z)) (treeL ds n) (totR d.rs) bl) ([], sh ++ [z])) r := by
        rw [List.take_add_one, hr, List.foldl_append]
        rfl
      rw [hst]
      generalize (d.rs.take i).foldl (rowT (ds.map (·.z)) (treeL ds n) (totR d.rs) bl) ([], sh ++ [z]) = st at eS4 eL4 tri
      have stl := tri.ok.len T.B.fd
      have t1 := tri.le
      have t2 := tri.few
      rw [List.length_take, List.length_append, List.length_singleton] at t2
      rw [List.length_append, List.length_singleton] at t1
      have stL : (ls ++ st.1).length ≤ 1 + 8 * st.2.length := by
        rw [List.length_append]
        have := okr.few
        omega
      obtain ⟨pr_, vf, rfl, q1, q2⟩ := hra
      have ok_ := okr.all r hrm
      refine ⟨pr_, _, rfl, q1, rfl, _, _, rfl, _, _, rfl, rfl, ?_⟩
      obtain ⟨Nn, cc, Mm, O⟩ := T.B.ob d hd (fun t => opn ds t) (fun _ _ => rfl)
      have sb : Bt 880 (fdiv r.2 (totR d.rs)) := O.sb hrm
      have tp := okr.tot_p
      have zL := sizeLine_eq
      have nm := ok_.nm
      have l1 : (Str.ofString " ").length = 1 := by rw [PySem.ofString_length]; rfl
      have lf := ftext_len (sb.sm (by decide : 880 ≤ 900)).1 (sb.sm (by decide : 880 ≤ 900)).2
      have lz := nm.le
      refine ⟨_, rfl, .inl ⟨bl, rfl, by omega, _, rfl, by rw [Str.empty_append]; omega, _, rfl, .inl ⟨r.1, rfl, by omega, _, rfl, by rw [Str.empty_append, strLen_append]; omega, _, rfl, by rw [Str.empty_append, strLen_append, strLen_append]; omega, ?_⟩⟩⟩
      refine ⟨_, rfl, _, rfl, _, _, _, _, pr_atk q2 (AtK.but2 eS3 eL3 b4 ht3) ok_.lo okr.tot_f (okr.bt hrm) okr.tot_b (by decide) (by decide), by omega, fun H5 p5 s5 e5 => ?_⟩
      have e5' : H5 p5 = some (.tup [.int (fdiv r.2 (totR d.rs)).1, .int (fdiv r.2 (totR d.rs)).2]) := e5
      refine ⟨p5, _, _, rfl, .inl (.inl e5'), (sb.sm (by decide)).1, (sb.sm (by decide)).2, .inl ⟨_, rfl, by omega, _, rfl, by rw [Str.empty_append, strLen_append, strLen_append, strLen_append]; omega, ?_⟩⟩
      rw [Str.empty_append]
      have hl : bl ++ r.1 ++ Str.ofString " " ++ ftext (fdiv r.2 (totR d.rs)).1 (fdiv r.2 (totR d.rs)).2 = lnT bl r (totR d.rs) := rfl
      rw [hl]
      have lnl : (lnT bl r (totR d.rs)).length ≤ 2000 := by
        rw [← hl, strLen_append, strLen_append, strLen_append]
        omega
      obtain ⟨ln, hln⟩ : ∃ ln, ln = lnT bl r (totR d.rs) := ⟨_, rfl⟩
      rw [← hln] at lnl ⊢
      have eS5 := s5 _ _ eS4
      have eL5 := s5 _ _ eL4
      have b05 : But2 S L H H5 := b03.trans (b4.trans (But2.of s5))
      have alS : ∀ t ∈ st.2, AllL t := fun t ht => by
        obtain ⟨e, he, rfl⟩ := List.mem_map.mp (tri.ok.sub t ht)
        exact T.N.d e he
      have fewL : (ls ++ st.1).length ≤ 100 := by omega
      have l3 : (Str.ofString " ..").length = 3 := by rw [PySem.ofString_length]; rfl
      have l2 : (Str.ofString "  ").length = 2 := by rw [PySem.ofString_length]; rfl
      refine ⟨_, rfl, _, rfl, .str r.1, st.2.map PyData.str, .str _, .lst (.inl (.inl eS5)) (strs_dp _), al_shaped nm.al, strs_shaped alS, ?_⟩
      rw [strs_any]
      refine ⟨_, rfl, ite2 (fun c => ?_) (fun c => ?_)⟩
      · have hin := of_decide_eq_true c
        refine ⟨_, rfl, .inl ⟨rfl, _, .inl (.inl eL5)⟩, _, rfl, .inl ⟨ln, rfl, by omega, _, rfl, by rw [Str.empty_append]; omega, _, rfl, by rw [Str.empty_append, strLen_append]; omega, L, _, _, rfl, rfl, eL5, by rw [List.length_map]; omega, ?_⟩⟩
        refine ⟨_, _, _, rfl, b4.trans ((But2.of s5).trans But2.updL), ?_, ?_⟩
        · rw [upd_ne nSL]
          show _ = some (HO.lst ((rowT _ _ _ _ st r).2.map V.str))
          unfold rowT
          rw [if_pos hin]
          exact eS5
        · rw [upd_same]
          unfold rowT
          rw [if_pos hin, ← hln, Str.empty_append]
          simp only [List.map_append, List.map_cons, List.map_nil, List.append_assoc]
      · have hni : r.1 ∉ st.2 := fun h => c (decide_eq_true h)
        refine ⟨_, rfl, .inl ⟨rfl, _, .inl (.inl eL5)⟩, _, rfl, L, _, _, rfl, rfl, eL5, by rw [List.length_map]; omega, ?_⟩
        have b6 : But2 S L H5 (L2.upd H5 L (.lst ((ls ++ st.1).map V.str ++ [.str ln]))) := But2.updL
        have eL6 : L2.upd H5 L (.lst ((ls ++ st.1).map V.str ++ [.str ln])) L = some (.lst ((ls ++ (st.1 ++ [ln])).map V.str)) := by rw [upd_same]; simp only [List.map_append, List.map_cons, List.map_nil, List.append_assoc]
        have eS6 : L2.upd H5 L (.lst ((ls ++ st.1).map V.str ++ [.str ln])) S = some (.lst (st.2.map V.str)) := by rw [upd_ne nSL]; exact eS5
        generalize L2.upd H5 L (.lst ((ls ++ st.1).map V.str ++ [.str ln])) = H6 at b6 eL6 eS6 ⊢
        have b06 := b05.trans b6
        have bk6 := bk.same (wo2_same b06)
        have bkH6 := bk6.same wo2_le
        obtain ⟨_, _, _, _, _, _, g6, _⟩ := id bkH6
        refine ⟨_, rfl, _, rfl, x, _, _, rfl, g6, rfl, x, ss, ds, rfl, bkH6, fun H7 l7 s7 n7 e7 => ?_⟩
        have alN : ∀ t ∈ ds.map (·.z), AllL t := fun t ht => by
          obtain ⟨e, he, rfl⟩ := List.mem_map.mp ht
          exact T.N.d e he
        refine ⟨.str r.1, (ds.map (·.z)).map PyData.str, .str _, .lst (.inl (.inl e7)) (strs_dp _), al_shaped nm.al, strs_shaped alN, ?_⟩
        rw [strs_any]
        have eL7 := s7 _ _ eL6
        have eS7 := s7 _ _ eS6
        have b47 : But2 S L H3 H7 := b4.trans ((But2.of s5).trans (b6.trans (But2.of s7)))
        refine ⟨_, rfl, ite2 (fun c2 => ?_) (fun c2 => ?_)⟩
        · have hm := of_decide_eq_true c2
          have b07 := b06.trans (But2.of (S := S) (L := L) s7)
          have lt := T.R.dn d hd r hrm hm
          rw [hdz] at lt
          refine ⟨_, rfl, _, rfl, _, rfl, .inl ⟨bl, rfl, by omega, _, rfl, by rw [Str.empty_append]; omega, _, rfl, by rw [Str.empty_append, strLen_append]; omega, _, rfl, _, rfl, ?_⟩⟩
          rw [Str.empty_append]
          refine ⟨x, S, L, r.1, bl ++ Str.ofString "  ", st.2, ls ++ (st.1 ++ [ln]), ss, ds, rk, rfl, T, bk.same (wo2_same b07), nSL, eS7, eL7, tri.ok, hm, hni, by omega, by rw [strLen_append]; omega, ?_, fun H8 b8 eS8 eL8 => ?_⟩
          · rw [List.length_append, List.length_append, List.length_singleton]
            have := okr.few
            omega
          · refine ⟨_, _, _, rfl, b47.trans b8, ?_, ?_⟩
            · unfold rowT
              rw [if_neg hni, if_pos hm]
              exact eS8
            · unfold rowT
              rw [if_neg hni, if_pos hm, ← hln, ← List.append_assoc]
              exact eL8
        · have hnm : r.1 ∉ ds.map (·.z) := fun h => c2 (decide_eq_true h)
          refine ⟨_, _, _, rfl, b47, ?_, ?_⟩
          · unfold rowT
            rw [if_neg hni, if_neg hnm]
            exact eS7
          · unfold rowT
            rw [if_neg hni, if_neg hnm, ← hln]
            exact eL7
    · rintro σ H4 ⟨y1, y2, y3, rfl, b4, eS4, eL4⟩
      have hm : (d.rs.take xs.length) = d.rs := List.take_of_length_le (by omega)
      rw [hm] at eS4 eL4
      have e_t : treeL ds (n + 1) z bl sh = d.rs.foldl (rowT (ds.map (·.z)) (treeL ds n) (totR d.rs) bl) ([], sh ++ [z]) := by
        show (match dOf ds z with | none => _ | some d => _) = _
        rw [e_of]
      refine k H4 (b03.trans b4) ?_ ?_
      · rw [e_t]
        exact eS4
      · rw [e_t]
        exact eL4

theorem ok_addN {f : Addr} {fd : FuncData} {C CS CD fm ft fr fn : Addr} {fdm fdt fdr fdn : FuncData} (Md : MetG P w K mg base CX0 2 C "dough" fm fdm ["self", "name"] (sp_bdough K C CS CD)) (Mt : MetG P w K mg base CX0 7 CD "total" ft fdt ["self"] (sp_dtotal K CD)) (Mr : MetG P w K mg base CX0 1 CD "rows" fr fdr ["self"] (sp_drows K CD)) (Mn : MetG P w K mg base CX0 1 C "doughs" fn fdn ["self"] (sp_bdoughs K C CS CD)) (cal : ∀ {k : Nat} {sp : Sp}, FnG P w K mg base CX0 k f fd ["book", "name", "blanks", "shown", "lines"] sp → Cal P w K mg base CX0 k "add_lines" ["book", "name", "blanks", "shown", "lines"] sp) (F : Fun K "add_lines" "add_lines" s_add_lines f fd) (C_over : Cal P w K mg base CX0 5 "over" ["one", "other"] (sp_over K)) (C_fraction_text : Cal P w K mg base CX0 1 "fraction_text" ["one"] (sp_fraction_text K)) : ∀ n : Nat, Cal P w K mg base CX0 (8 + n) "add_lines" ["book", "name", "blanks", "shown", "lines"] (sp_add K C CS CD n)
  | 0 => cal ⟨fun vs H Q E h => by obtain ⟨x, S, L, z, bl, sh, ls, ss, ds, rk, _, _, _, _, _, _, _, _, _, h0, _⟩ := h; exact absurd h0 (Nat.not_lt_zero _), fun B out s H ar us vs Q E _ _ _ _ _ h => by obtain ⟨x, S, L, z, bl, sh, ls, ss, ds, rk, _, _, _, _, _, _, _, _, _, h0, _⟩ := h; exact absurd h0 (Nat.not_lt_zero _)⟩
  | n + 1 => cal (ok_add Md Mt Mr Mn F C_over C_fraction_text (ok_addN Md Mt Mr Mn cal F C_over C_fraction_text n))

/-! ### tree -/
theorem sc_tree : FnScope ["book", "dough", "lines"] ["book", "dough"] (defScope s_tree) := ⟨rfl, rfl, rfl, by decide +kernel, rfl, by decide +kernel, by decide +kernel⟩
/-- the tree of a dough -/
def treeD (ds : List Dm) (z : Str) : List Str := z :: (treeL ds 12 z "  " []).1
def sp_tree (K : PySem.W.Frag) (C CS CD : Addr) : Sp := fun vs H Q _ => ∃ (x : Addr) (z : Str) (ss : List Sf) (ds : List Dm) (rk : Str → Nat), vs = [.ref x, .str z] ∧ TrOk ss ds rk ∧ BkO K H C CS CD x ss ds ∧ z ∈ ds.map (·.z) ∧ ∀ H' L, Same H H' → H L = none → H' L = some (.lst ((treeD ds z).map V.str)) → Q (.ref L) H'
theorem ok_tree {f : Addr} {fd : FuncData} {C CS CD fm ft : Addr} {fdm fdt : FuncData} (Md : MetG P w K mg base CX0 2 C "dough" fm fdm ["self", "name"] (sp_bdough K C CS CD)) (Mn : MetG P w K mg base CX0 1 CD "name" ft fdt ["self"] (sp_dname K CD)) (F : Fun K "tree" "tree" s_tree f fd) (C_add_lines : Cal P w K mg base CX0 (8 + 12) "add_lines" ["book", "name", "blanks", "shown", "lines"] (sp_add K C CS CD 12)) : FnG P w K mg base CX0 21 f fd ["book", "dough"] (sp_tree K C CS CD) := by
  refine Gfun F sc_tree (fun vs H Q E h => ?_) (fun cdv A outer s H vs Q E hg hr h => ?_)
  · obtain ⟨x, z, ss, ds, rk, rfl, _⟩ := h
    rfl
  · obtain ⟨x, z, ss, ds, rk, rfl, T, bk, hz, k⟩ := h
    refine ⟨_, (pss_cons (ps_set (i := 2) sc_tree.nd rfl (.inl rfl) (pe_lst (pa_cons (pe_meG0 (pe_meG (pv 0) Md (hr.mono (by decide)) hg (fun _ => pass_no) (pa_cons (pv 1) pa_nil)) Mn (hr.mono (by decide)) hg (fun _ => pass_no)) pa_nil)))
      (pss_cons (ps_expr (pe_g C_add_lines (hr.mono (by decide)) hg (pa_cons (pv 0) (pa_cons (pv 1) (pa_cons pe_str (pa_cons (pe_lst pa_nil) (pa_cons (pv 2) pa_nil)))))))
      (pss_one (ps_ret (pv 2))))), ?_⟩
    obtain ⟨d, hd, hdz⟩ := List.mem_map.mp hz
    obtain ⟨bx, bps, bpd, bI, kss, kds, g1, _⟩ := id bk
    refine ⟨_, rfl, x, _, _, rfl, g1, rfl, _, rfl, x, z, ss, ds, d, rfl, bk, T.B.ndd, hd, hdz, fun dv hdv => ?_⟩
    obtain ⟨dx, rfl, hdx⟩ := hdv
    obtain ⟨dd, dpr, dxs, g2, _⟩ := id hdx
    refine ⟨dx, _, _, rfl, g2, rfl, dx, d.z, d.rs, d.n, rfl, hdx, ?_⟩
    refine ⟨len_show (Nat.le_of_ble_eq_true rfl), fun L nL => ?_⟩
    have s1 : Same H (L2.upd H L (.lst [.str d.z])) := same_new nL
    have e1 : L2.upd H L (.lst [.str d.z]) L = some (.lst (([z] : List Str).map V.str)) := by rw [upd_same, hdz]; rfl
    generalize L2.upd H L (.lst [.str d.z]) = H1 at s1 e1 ⊢
    refine ⟨_, rfl, _, rfl, len_show (Nat.le_of_ble_eq_true rfl), fun S nS => ?_⟩
    have s2 : Same H1 (L2.upd H1 S (.lst [])) := same_new nS
    have e2 : L2.upd H1 S (.lst []) S = some (.lst (([] : List Str).map V.str)) := upd_same
    have nSL : S ≠ L := fun z => by rw [z, e1] at nS; cases nS
    generalize L2.upd H1 S (.lst []) = H2 at s2 e2 ⊢
    have nS0 : H S = none := same_none s1 nS
    have s02 : Same H (wo S (wo L H2)) := fun b o e => wo_at (ne_of_none e nS0) (wo_at (ne_of_none e nL) (s2 _ _ (s1 _ _ e)))
    have lb : (Str.ofString "  ").length = 2 := by rw [PySem.ofString_length]; rfl
    have rk1 := T.R.lt d hd
    have fd1 := T.B.fd
    refine ⟨_, rfl, x, S, L, z, _, [], [z], ss, ds, rk, rfl, T, bk.same s02, nSL, e2, s2 _ _ e1, ⟨.nil, (fun _ h => nomatch h)⟩, hz, (fun h => nomatch h), by rw [← hdz]; omega, by rw [lb]; decide, Nat.le_refl _, fun H3 b3 eS3 eL3 => ?_⟩
    exact ⟨_, rfl, k H3 L (fun b o e => b3 _ _ (ne_of_none e nS0) (ne_of_none e nL) (s2 _ _ (s1 _ _ e))) nL eL3⟩

end
end Lf

set_option Elab.async false
set_option linter.all false
set_option maxRecDepth 100000
set_option maxHeartbeats 4000000
/-! Dicts whose keys are texts: what they hold, as a list of pairs. -/
namespace Lf
open PySem PySem.Spec PyProof.Rows L2
section
variable {α β : Type} {P P' : V → α → Prop} {kvs : List (Key × V)} {m : List (Str × α)} {t : Str} {v : V} {a b : α}
def TdE (P : V → α → Prop) (kv : Key × V) (e : Str × α) : Prop := kv.1 = Sum.inr e.1 ∧ P kv.2 e.2
def Td (P : V → α → Prop) (kvs : List (Key × V)) (m : List (Str × α)) : Prop := Paired (TdE P) kvs m
def getT (m : List (Str × α)) (t : Str) : Option α := (m.find? fun e => decide (e.1 = t)).map (·.2)
def putT (m : List (Str × α)) (t : Str) (a : α) : List (Str × α) := if t ∈ m.map (·.1) then m.map (fun e => if e.1 = t then (t, a) else e) else m ++ [(t, a)]
theorem getT_nil : getT ([] : List (Str × α)) t = none := rfl
theorem getT_pos {e : Str × α} (h : e.1 = t) : getT (e :: m) t = some e.2 := by
  unfold getT
  rw [List.find?_cons, decide_eq_true h]
  rfl
theorem getT_neg {e : Str × α} (h : ¬ e.1 = t) : getT (e :: m) t = getT m t := by
  unfold getT
  rw [List.find?_cons, decide_eq_false h]
theorem getT_none : getT m t = none ↔ t ∉ m.map (·.1) := by
  induction m with
  | nil => exact ⟨fun _ h => (nomatch h), fun _ => rfl⟩
  | cons e m ih =>
    by_cases h : e.1 = t
    · rw [getT_pos h, List.map_cons, h]
      exact ⟨fun z => (nomatch z), fun z => absurd List.mem_cons_self z⟩
    · rw [getT_neg h, List.map_cons, ih, List.mem_cons, not_or]
      exact ⟨fun z => ⟨fun q => h q.symm, z⟩, fun z => z.2⟩
theorem getT_mem (h : getT m t = some a) : (t, a) ∈ m := by
  induction m with
  | nil => cases h
  | cons e m ih =>
    by_cases q : e.1 = t
    · rw [getT_pos q] at h
      obtain ⟨x, y⟩ := e
      cases h
      cases q
      exact List.mem_cons_self
    · rw [getT_neg q] at h
      exact List.mem_cons_of_mem _ (ih h)
theorem getT_of (nd : (m.map (·.1)).Nodup) {e : Str × α} (he : e ∈ m) : getT m e.1 = some e.2 := by
  induction m with
  | nil => cases he
  | cons x m ih =>
    rw [List.map_cons, List.nodup_cons] at nd
    rcases List.mem_cons.mp he with rfl | he
    · exact getT_pos rfl
    · rw [getT_neg (fun q => nd.1 (q ▸ List.mem_map_of_mem he))]
      exact ih nd.2 he
theorem getT_some (h : t ∈ m.map (·.1)) : ∃ a, getT m t = some a := by
  cases q : getT m t with
  | none => exact absurd h (getT_none.mp q)
  | some a => exact ⟨a, rfl⟩
theorem Td.val (h : Td P kvs m) (g : getT m t = some a) : ∃ v, valV kvs (Sum.inr t) = some v ∧ P v a := by
  unfold Td at h
  induction h with
  | nil => cases g
  | @cons kv e kvs m r tl ih =>
    by_cases q : e.1 = t
    · rw [getT_pos q] at g
      cases g
      exact ⟨kv.2, valV_pos (by rw [r.1, q]), r.2⟩
    · rw [getT_neg q] at g
      rw [valV_neg (by rw [r.1]; exact fun x => q (Sum.inr.inj x))]
      exact ih g
theorem Td.none (h : Td P kvs m) (g : t ∉ m.map (·.1)) : valV kvs (Sum.inr t) = none := by
  unfold Td at h
  induction h with
  | nil => rfl
  | @cons kv e kvs m r tl ih =>
    rw [List.map_cons, List.mem_cons, not_or] at g
    rw [valV_neg (by rw [r.1]; exact fun x => g.1 (Sum.inr.inj x).symm)]
    exact ih g.2
theorem Td.mapP (f : ∀ v a, P v a → P' v a) (h : Td P kvs m) : Td P' kvs m := by
  unfold Td at h ⊢
  induction h with
  | nil => exact .nil
  | cons r _ ih => exact .cons ⟨r.1, f _ _ r.2⟩ ih
theorem Td.len (h : Td P kvs m) : kvs.length = m.length := Paired.length h
theorem Td.keys (h : Td P kvs m) : kvs.map (·.1) = (m.map (·.1)).map Sum.inr := by
  unfold Td at h
  induction h with
  | nil => rfl
  | cons r _ ih => rw [List.map_cons, List.map_cons, List.map_cons, ih, r.1]
theorem Td.keysV (h : Td P kvs m) : (kvs.map fun kv => kV kv.1) = (m.map (·.1)).map V.str := by
  unfold Td at h
  induction h with
  | nil => rfl
  | cons r _ ih =>
    rw [List.map_cons, List.map_cons, List.map_cons, ih, r.1]
    rfl
theorem Td.at {i : Nat} {k : Key} (h : Td P kvs m) (e : kvs[i]? = some (k, v)) : ∃ t a, k = Sum.inr t ∧ m[i]? = some (t, a) ∧ P v a := by
  unfold Td at h
  induction h generalizing i with
  | nil => simp at e
  | @cons kv x kvs m r tl ih =>
    cases i with
    | zero =>
      have : kv = (k, v) := by simpa using e
      subst this
      exact ⟨x.1, x.2, r.1, rfl, r.2⟩
    | succ i =>
      obtain ⟨t, a, h1, h2, h3⟩ := ih (i := i) (by simpa using e)
      exact ⟨t, a, h1, by simpa using h2, h3⟩
theorem Td.app {kvs' : List (Key × V)} {m' : List (Str × α)} (h : Td P kvs m) (k : Td P kvs' m') : Td P (kvs ++ kvs') (m ++ m') := by
  unfold Td at h k ⊢
  induction h with
  | nil => exact k
  | cons r _ ih => exact .cons r ih
theorem Td.push (h : Td P kvs m) (hv : P v a) : Td P (kvs ++ [(Sum.inr t, v)]) (m ++ [(t, a)]) := h.app (.cons ⟨rfl, hv⟩ .nil)
theorem Td.put (h : Td P kvs m) (hv : P v a) : Td P (putK kvs (Sum.inr t) v) (putT m t a) := by
  unfold putK putT
  have key : (kvs.any fun kv => decide (kv.1 = Sum.inr t)) = decide (t ∈ m.map (·.1)) ∧ Paired (TdE P) (kvs.map fun kv => if kv.1 = Sum.inr t then (kv.1, v) else kv) (m.map fun e => if e.1 = t then (t, a) else e) := by
    unfold Td at h
    induction h with
    | nil => exact ⟨rfl, .nil⟩
    | @cons kv e kvs m r tl ih =>
      obtain ⟨i1, i2⟩ := ih
      obtain ⟨r1, r2⟩ := r
      by_cases q : e.1 = t
      · refine ⟨?_, .cons ?_ i2⟩
        · rw [List.any_cons, i1, r1, decide_eq_true (by rw [q]), List.map_cons, q]
          simp
        · show TdE P (if kv.1 = Sum.inr t then (kv.1, v) else kv) (if e.1 = t then (t, a) else e)
          rw [if_pos (by rw [r1, q]), if_pos q]
          exact ⟨by rw [r1, q], hv⟩
      · have nq : ¬ kv.1 = Sum.inr t := fun z => q (Sum.inr.inj (r1.symm.trans z))
        refine ⟨?_, .cons ?_ i2⟩
        · rw [List.any_cons, i1, decide_eq_false nq, List.map_cons]
          have q' : ¬ t = e.1 := fun z => q z.symm
          simp [q']
        · show TdE P (if kv.1 = Sum.inr t then (kv.1, v) else kv) (if e.1 = t then (t, a) else e)
          rw [if_neg nq, if_neg q]
          exact ⟨r1, r2⟩
  obtain ⟨k1, k2⟩ := key
  rw [k1]
  by_cases q : t ∈ m.map (·.1)
  · rw [if_pos (decide_eq_true q), if_pos q]
    exact k2
  · rw [if_neg (by rw [decide_eq_false q]; decide), if_neg q]
    exact Td.push h hv
theorem putT_new (h : t ∉ m.map (·.1)) : putT m t a = m ++ [(t, a)] := by
  unfold putT
  rw [if_neg h]
theorem putT_last (h : t ∉ m.map (·.1)) : putT (m ++ [(t, a)]) t b = m ++ [(t, b)] := by
  unfold putT
  rw [if_pos (by simp), List.map_append]
  have : m.map (fun e => if e.1 = t then (t, b) else e) = m := by
    conv => rhs; rw [← List.map_id m]
    refine List.map_congr_left fun e he => ?_
    have nq : ¬ e.1 = t := fun q => h (q ▸ List.mem_map_of_mem he)
    show (if e.1 = t then (t, b) else e) = e
    rw [if_neg nq]
  rw [this]
  simp
theorem putT_keys : (putT m t a).map (·.1) = if t ∈ m.map (·.1) then m.map (·.1) else m.map (·.1) ++ [t] := by
  unfold putT
  by_cases h : t ∈ m.map (·.1)
  · rw [if_pos h, if_pos h, List.map_map]
    refine List.map_congr_left fun e he => ?_
    show (if e.1 = t then (t, a) else e).1 = e.1
    by_cases q : e.1 = t
    · rw [if_pos q, q]
    · rw [if_neg q]
  · rw [if_neg h, if_neg h, List.map_append]
    rfl
theorem getT_app (h : t ∉ m.map (·.1)) {m' : List (Str × α)} : getT (m ++ m') t = getT m' t := by
  induction m with
  | nil => rfl
  | cons e m ih =>
    rw [List.map_cons, List.mem_cons, not_or] at h
    rw [List.cons_append, getT_neg (fun q => h.1 q.symm)]
    exact ih h.2
theorem getT_app1 (h : t ∈ m.map (·.1)) {m' : List (Str × α)} : getT (m ++ m') t = getT m t := by
  induction m with
  | nil => cases h
  | cons e m ih =>
    by_cases q : e.1 = t
    · rw [List.cons_append, getT_pos q, getT_pos q]
    · rw [List.cons_append, getT_neg q, getT_neg q]
      rw [List.map_cons, List.mem_cons] at h
      exact ih (h.resolve_left fun z => q z.symm)
/-- a dict of pairs whose keys are unlike holds the pairs -/
theorem merge_new (more : List (Key × V)) : ∀ acc : List (Key × V), (acc.map (·.1) ++ more.map (·.1)).Nodup → mergeK acc more = acc ++ more := by
  induction more with
  | nil => intro acc _; exact (List.append_nil _).symm
  | cons kv more ih =>
    intro acc nd
    have hn : kv.1 ∉ acc.map (·.1) := fun z => (List.nodup_append.mp nd).2.2 _ z kv.1 List.mem_cons_self rfl
    have vn : valV acc kv.1 = none := by
      induction acc with
      | nil => rfl
      | cons e acc iha =>
        rw [List.map_cons, List.mem_cons, not_or] at hn
        rw [valV_neg (fun z => hn.1 z.symm)]
        refine iha ?_ hn.2
        rw [List.map_cons, List.cons_append, List.nodup_cons] at nd
        exact nd.2
    show mergeK (putK acc kv.1 kv.2) more = acc ++ kv :: more
    rw [putK_new _ vn, ih]
    · simp
    · simpa using nd
theorem merge_nil {more : List (Key × V)} (nd : (more.map (·.1)).Nodup) : mergeK [] more = more := by
  rw [merge_new more [] (by simpa using nd)]
  rfl
theorem Td.nodup (h : Td P kvs m) (nd : (m.map (·.1)).Nodup) : (kvs.map (·.1)).Nodup := by
  rw [h.keys]
  exact (List.pairwise_map.mpr (nd.imp fun z q => z (Sum.inr.inj q)))
end
end Lf

set_option Elab.async false
set_option linter.all false
set_option maxRecDepth 100000
set_option maxHeartbeats 4000000
set_option exponentiation.threshold 3000
namespace Lf
open PySem PySem.Spec PyProof.Rows L2
section
variable {P : Program} {w : World} {K : PySem.W.Frag} {mg : Str → Option Value} {base : Heap} {H H' : Hp}
/-- a dict of the doughs' rows -/
def RoE (K : PySem.W.Frag) (H : Hp) (kv : Key × V) (d : Dm) : Prop := kv.1 = Sum.inr d.z ∧ ∃ l xs, kv.2 = .ref l ∧ SqL K H l xs ∧ RwsAt K H xs d.rs
def RoD (K : PySem.W.Frag) (H : Hp) (I : Addr) (ds : List Dm) : Prop := ∃ kvs, H I = some (.dK kvs) ∧ Paired (RoE K H) kvs ds
theorem RoE.same (s : Same H H') {kv : Key × V} {d : Dm} (h : RoE K H kv d) : RoE K H' kv d := let ⟨e, l, xs, e2, h1, h2⟩ := h; ⟨e, l, xs, e2, sm_l s h1, h2.same s⟩
theorem RoD.same (s : Same H H') {I : Addr} {ds : List Dm} (h : RoD K H I ds) : RoD K H' I ds := let ⟨kvs, e, h⟩ := h; ⟨kvs, s _ _ e, L2.Paired.mapP h fun _ _ => RoE.same s⟩
theorem RoE.val : ∀ {kvs : List (Key × V)} {ds : List Dm}, Paired (RoE K H) kvs ds → (ds.map (·.z)).Nodup → ∀ d ∈ ds, ∃ l xs, valV kvs (Sum.inr d.z) = some (.ref l) ∧ SqL K H l xs ∧ RwsAt K H xs d.rs
  | _, _, .nil, _, d, hd => nomatch hd
  | _, _, @Paired.cons _ _ _ kv e kvs ds r t, nd, d, hd => by
    rw [List.map_cons, List.nodup_cons] at nd
    rcases List.mem_cons.mp hd with z | z
    · subst z
      obtain ⟨l, xs, e2, h1, h2⟩ := r.2
      exact ⟨l, xs, by rw [valV_pos r.1, e2], h1, h2⟩
    · have ne : ¬ e.z = d.z := fun q => nd.1 (q ▸ List.mem_map_of_mem z)
      obtain ⟨l, xs, h1, h2⟩ := RoE.val t nd.2 d z
      exact ⟨l, xs, by rw [valV_neg (by rw [r.1]; exact fun q => ne (Sum.inr.inj q))]; exact h1, h2⟩
theorem RoE.none {n : Str} : ∀ {kvs : List (Key × V)} {ds : List Dm}, Paired (RoE K H) kvs ds → n ∉ ds.map (·.z) → valV kvs (Sum.inr n) = none
  | _, _, .nil, _ => rfl
  | _, _, .cons r t, h => by
    rw [List.map_cons, List.mem_cons, not_or] at h
    rw [valV_neg (by rw [r.1]; exact fun z => h.1 (Sum.inr.inj z).symm)]
    exact RoE.none t h.2
theorem SqT.wo2 {S F l : Addr} {as bs xs : List V} (eS : H S = some (.lst as)) (eF : H F = some (.lst bs)) (h : SqT K H l xs) : SqT K (wo S (wo F H)) l xs := by
  have at2 : ∀ (x : HO), (∀ ys, x ≠ .lst ys) → H l = some x → wo S (wo F H) l = some x := fun x hx e => wo_at (fun z => hx as (by rw [z, eS] at e; exact (Option.some.inj e).symm)) (wo_at (fun z => hx bs (by rw [z, eF] at e; exact (Option.some.inj e).symm)) e)
  rcases h with (h | ⟨o, h⟩) | h
  · exact .inl (.inl (at2 _ (fun _ z => nomatch z) h))
  · exact .inl (.inr ⟨o, at2 _ (fun _ z => nomatch z) h⟩)
  · exact .inr h
/-- a book's model whose trees can be told -/
structure TmOk (ss : List Sf) (ds : List Dm) (rk : Str → Nat) : Prop extends TrOk ss ds rk where
def sp_lines (K : PySem.W.Frag) (n : Nat) : Sp := fun vs H Q _ => ∃ (I S : Addr) (z bl : Str) (sh : List Str) (ss : List Sf) (ds : List Dm) (rk : Str → Nat), vs = [.ref I, .str z, .str bl, .ref S] ∧ TrOk ss ds rk ∧ RoD K (wo S H) I ds ∧ H S = some (.lst (sh.map V.str)) ∧ ShI ds sh ∧ z ∈ ds.map (·.z) ∧ z ∉ sh ∧ rk z < n ∧ bl.length + 2 * n ≤ 100 ∧
  ∀ H' F, But S H H' → H F = none → H' S = some (.lst ((treeL ds n z bl sh).2.map V.str)) → H' F = some (.lst ((treeL ds n z bl sh).1.map V.str)) → Q (.ref F) H'

/-! ### _law_lines -/
theorem sc__law_lines : FnScope ["_law_rows_of", "_law_name_here", "_law_ahead", "_law_shown", "_law_whole", "_law_found", "_law_thing", "_law_parts", "_law_line", "_law_n", "_law_d"] ["_law_rows_of", "_law_name_here", "_law_ahead", "_law_shown"] (defScope s__law_lines) := ⟨rfl, rfl, rfl, by decide +kernel, rfl, by decide +kernel, by decide +kernel⟩
set_option maxHeartbeats 16000000 in
theorem ok_lines {n : Nat} {f : Addr} {fd : FuncData} (M : Blt mg) (F : Fun K "_law_lines" "_law_lines" s__law_lines f fd) (C__law_total : Cal P w K mg base CX0 3 "_law_total" ["_law_some_here"] (sp_togL K)) (C__law_low : Cal P w K mg base CX0 1 "_law_low" ["_law_top", "_law_bottom"] sp_low) (C__law_lines : Cal P w K mg base CX0 (4 + n) "_law_lines" ["_law_rows_of", "_law_name_here", "_law_ahead", "_law_shown"] (sp_lines K n)) : FnG P w K mg base CX0 (4 + n + 1) f fd ["_law_rows_of", "_law_name_here", "_law_ahead", "_law_shown"] (sp_lines K (n + 1)) := by
  refine Gfun F sc__law_lines (fun vs H Q E h => ?_) (fun cdv A outer s H vs Q E hg hr h => ?_)
  · obtain ⟨I, S, z, bl, sh, ss, ds, rk, rfl, _⟩ := h
    rfl
  · obtain ⟨I, S, z, bl, sh, ss, ds, rk, rfl, T, ro, eS, Ish, hz, nz, hrk, hbl, k⟩ := h
    refine ⟨_, (pss_cons (ps_expr (pe_bm PySem.F.plainAttrs_list PySem.F.slot_list_append PySem.F.type_list_append mt_append (pv 3) (pa_cons (pv 1) pa_nil)))
      (pss_cons (ps_set (i := 4) sc__law_lines.nd rfl (.inl rfl) (pe_g C__law_total (hr.mono (by omega)) hg (pa_cons (pe_lc (own := [("_law_thing", 6), ("_law_parts", 7)]) (g := gTup K 2 (gCons (gName 6) (gCons (gName 7) (gNil)))) (tt := tYes) rfl sc__law_lines.nd (pi_list (pe_dget (by exact u1 hr) (pv 0) (pv 1) (fun _ _ => rfl))) (blkOk_by (N := ["_law_rows_of", "_law_name_here", "_law_ahead", "_law_shown", "_law_whole", "_law_found", "_law_thing", "_law_parts", "_law_line", "_law_n", "_law_d"]) (sc := defScope s__law_lines) (by decide +kernel)) (fun _ _ _ _ _ => pg_tupK (K := K) rfl (pgs_cons (pg_name (i := 6) sc__law_lines.nd rfl (Or.inl rfl)) (pgs_cons (pg_name (i := 7) sc__law_lines.nd rfl (Or.inl rfl)) pgs_nil))) (fun _ _ _ _ _ => pts_nil) (fun _ _ _ _ _ => (pv 7))) pa_nil)))
      (pss_cons (ps_set (i := 5) sc__law_lines.nd rfl (.inl rfl) (pe_lst pa_nil))
      (pss_cons (ps_for PassesOwn.never rfl (pi_list (pe_dget (by exact u1 hr) (pv 0) (pv 1) (fun _ _ => rfl))) (pg_tup rfl (pgs_cons (pg_name (i := 6) sc__law_lines.nd rfl (.inl rfl)) (pgs_cons (pg_name (i := 7) sc__law_lines.nd rfl (.inl rfl)) pgs_nil)))
      (pss_cons (ps_asg (pe_g C__law_low (hr.mono (by omega)) hg (pa_cons (pe_op op_mulW (pe_ix ix_tup (pv 7) pe_int (fun _ _ => rfl)) (pe_ix ix_tup (pv 4) pe_int (fun _ _ => rfl))) (pa_cons (pe_op op_mulW (pe_ix ix_tup (pv 7) pe_int (fun _ _ => rfl)) (pe_ix ix_tup (pv 4) pe_int (fun _ _ => rfl))) pa_nil))) (pg_tup rfl (pgs_cons (pg_name (i := 9) sc__law_lines.nd rfl (.inl rfl)) (pgs_cons (pg_name (i := 10) sc__law_lines.nd rfl (.inl rfl)) pgs_nil))))
      (pss_cons (ps_set (i := 8) sc__law_lines.nd rfl (.inl rfl) (pe_op op_add_str (pe_op op_add_str (pe_op op_add_str (pe_op op_add_str (pv 2) (pv 6)) pe_str) (pe_callTy call_str_int rfl M.str bt_str (pa_cons (pv 9) pa_nil))) (pe_ix ix_list (pe_lst (pa_cons (pe_op op_add_str pe_str (pe_callTy call_str_int rfl M.str bt_str (pa_cons (pv 10) pa_nil))) (pa_cons pe_str pa_nil))) (pe_callTy call_int1 rfl M.int bt_int (pa_cons (pe_cmpR op_eq (pv 10) pe_int (nomark _)) pa_nil)) (fun _ _ => rfl))))
      (pss_one (ps_if (pt_cmpR (op_inD (by exact u65 hr)) (pv 6) (pv 3) rfl)
      (pss_one (ps_expr (pe_bm PySem.F.plainAttrs_list PySem.F.slot_list_append PySem.F.type_list_append mt_append (pv 5) (pa_cons (pe_op op_add_str (pv 8) pe_str) pa_nil))))
      (pss_cons (ps_expr (pe_bm PySem.F.plainAttrs_list PySem.F.slot_list_append PySem.F.type_list_append mt_append (pv 5) (pa_cons (pv 8) pa_nil)))
      (pss_one (ps_if (pt_cmp (pc_din (by exact u1 hr) (pv 6) (pv 0)))
      (pss_one (ps_set (i := 5) sc__law_lines.nd rfl (.inl rfl) (pe_op op_cat (pv 5) (pe_g C__law_lines (hr.mono (by omega)) hg (pa_cons (pv 0) (pa_cons (pv 6) (pa_cons (pe_op op_add_str (pv 2) pe_str) (pa_cons (pv 3) pa_nil))))))))
      pss_nil))))))))
      (pss_one (ps_ret (pv 5))))))), ?_⟩
    have hsl := Ish.len T.B.fd
    refine ⟨_, rfl, .inl ⟨rfl, _, .inl (.inl eS)⟩, _, rfl, S, _, _, rfl, rfl, eS, by rw [List.length_map, sizeLine_eq]; omega, ?_⟩
    have b1 : But S H (L2.upd H S (.lst (sh.map V.str ++ [.str z]))) := fun b o nb e => by rw [upd_ne nb]; exact e
    have e1 : L2.upd H S (.lst (sh.map V.str ++ [.str z])) S = some (.lst ((sh ++ [z]).map V.str)) := by rw [upd_same, List.map_append]; rfl
    generalize L2.upd H S (.lst (sh.map V.str ++ [.str z])) = H1 at b1 e1 ⊢
    have wsame : ∀ {H' : Hp}, But S H H' → Same (wo S H) (wo S H') := fun b c o e => wo_at (wo_not e) (b _ _ (wo_not e) (wo_le _ _ e))
    have ro1 := ro.same (wsame b1)
    obtain ⟨kvs, hI, hP⟩ := id ro1
    obtain ⟨d, hd, hdz⟩ := List.mem_map.mp hz
    have nd := T.B.ndd
    have okd := T.D d hd
    have okr := okd.rw_
    have e_of : dOf ds z = some d := by rw [← hdz]; exact dOf_of nd hd
    obtain ⟨l, xs, hv, hl, hx⟩ := RoE.val hP nd d hd
    rw [hdz] at hv
    have hl1 : SqL K H1 l xs := sm_l wo_le hl
    have hx1 := hx.same (wo_le (q := S) (H := H1))
    have eI1 : H1 I = some (.dK kvs) := wo_le _ _ hI
    have hxl := plen hx
    -- all parts
    refine ⟨_, rfl, _, rfl, I, _, rfl, .inl ⟨kvs, Sum.inr z, .inl eI1, rfl, hv.symm⟩, l, rfl, ⟨_, hl1⟩, fun D2 n2 => ?_⟩
    refine lc_list (xs := xs) (fun i H' => Same H1 H' ∧ ∃ zs, H' D2 = some (.lst zs) ∧ AtKs K (wo D2 H') zs ((d.rs.take i).map (·.2))) ⟨same_new n2, [], upd_same, .nil⟩ (fun i H' _ h => sm_l h.1 hl1) ?_ ?_
    · rintro i y H3 hy ⟨s3, zs, e3, h3⟩
      obtain ⟨r, hr_, ⟨p, vf, rfl, q1, q2⟩⟩ := pget hx1 hy
      have hil := (List.getElem?_eq_some_iff.mp hr_).1
      have zl := h3.length
      rw [List.length_map, List.length_take] at zl
      have few := okr.few
      refine ⟨p, _, rfl, sm_t s3 q1, rfl, _, _, rfl, _, _, rfl, rfl, rfl, _, rfl, zs, e3, by rw [sizeLine_eq]; omega, fun b o e => ?_, zs ++ [vf], upd_same, ?_⟩
      · rw [upd_ne (ne_of_none e n2)]
        exact s3 _ _ e
      · rw [List.take_add_one, hr_, List.map_append]
        have sw : Same (wo D2 H3) (wo D2 (L2.upd H3 D2 (.lst (zs ++ [vf])))) := wo_upd
        have s1w : Same H1 (wo D2 (L2.upd H3 D2 (.lst (zs ++ [vf])))) := fun b o e => wo_at (ne_of_none e n2) (by rw [upd_ne (ne_of_none e n2)]; exact s3 _ _ e)
        exact (h3.same sw).app (.cons (q2.same s1w) .nil)
    rintro H2 ⟨s2, zs, e2, h2⟩
    rw [List.take_of_length_le (by omega)] at h2
    have few := okr.few
    have h2' := h2.same (wo_le (q := D2) (H := H2))
    have allf : ∀ f ∈ d.rs.map (·.2), IsF f ∧ Bt 880 f := fun f hf => by
      obtain ⟨r, hr, rfl⟩ := List.mem_map.mp hf
      exact ⟨(okr.all r hr).lo, okr.bt hr⟩
    refine ⟨D2, zs, d.rs.map (·.2), rfl, .inl (.inl e2), h2', fun f hf => (allf f hf).1, fun f hf => (allf f hf).2.mono (by decide), fun i => (okr.cm.part (by rw [List.length_map]; exact okr.few) i).mono (by decide), fun H3 tv s3 ht => ?_⟩
    have ht : AtK K H3 tv (totR d.rs) := ht
    refine ⟨len_show (Nat.le_of_ble_eq_true rfl), fun F0 nF => ?_⟩
    have s4 : Same H3 (L2.upd H3 F0 (.lst [])) := same_new nF
    have e4 : L2.upd H3 F0 (.lst []) F0 = some (.lst (([] : List Str).map V.str)) := upd_same
    generalize L2.upd H3 F0 (.lst []) = H4 at s4 e4 ⊢
    have s14 : Same H1 H4 := s2.trans (s3.trans s4)
    have eS4 := s14 _ _ e1
    have nSF : S ≠ F0 := fun z => by rw [← z, s3 _ _ (s2 _ _ e1)] at nF; cases nF
    have nS0 : ∀ (b : Addr) (o : HO), H b = some o → H4 b ≠ none := fun b o e => by
      by_cases hb : b = S
      · rw [hb, eS4]
        exact fun z => nomatch z
      · rw [s14 _ _ (b1 _ _ hb e)]
        exact fun z => nomatch z
    have n0F : H F0 = none := by
      cases e : H F0 with
      | none => rfl
      | some o =>
        have hb : F0 ≠ S := nSF.symm
        rw [s3 _ _ (s2 _ _ (b1 _ _ hb e))] at nF
        cases nF
    have eI4 := s14 _ _ eI1
    have ht4 : AtK K H4 tv (totR d.rs) := ht.same s4
    have r8 : ∀ d ∈ ds, d.rs.length ≤ 8 := fun d hd => (T.D d hd).rw_.few
    have sHb : ∀ b o, b ≠ S → H b = some o → wo S (wo F0 H4) b = some o := fun b o n e => wo_at n (wo_at (ne_of_none e n0F) (s14 _ _ (b1 _ _ n e)))
    have ro5 : RoD K (wo S (wo F0 H4)) I ds := ro.same (fun c o e => sHb c o (wo_not e) (wo_le _ _ e))
    have ht5 : AtK K (wo S (wo F0 H4)) tv (totR d.rs) := by
      obtain ⟨pt, rfl, hpt⟩ := ht4
      exact ⟨pt, rfl, SqT.wo2 eS4 e4 hpt⟩
    have sb0 : Same (wo S (wo F0 H4)) H4 := fun c o e => wo_le _ _ (wo_le _ _ e)
    have nF5 : wo S (wo F0 H4) F0 = none := by unfold wo; simp
    have nS5 : wo S (wo F0 H4) S = none := by unfold wo; simp
    generalize wo S (wo F0 H4) = Hb at sHb ro5 ht5 sb0 nF5 nS5
    obtain ⟨kvs5, hI5, hP5⟩ := id ro5
    obtain ⟨l5, xs5, hv5, hl5, hx5⟩ := RoE.val hP5 nd d hd
    rw [hdz] at hv5
    have hx5l := plen hx5
    have no0 : ∀ (p : Addr), Hb p = none → p ≠ S → H p = none := fun p n ns => by
      cases e : H p with
      | none => rfl
      | some o => rw [sHb _ _ ns e] at n; cases n
    refine ⟨_, rfl, _, rfl, I, _, rfl, .inl ⟨kvs5, Sum.inr z, .inl (sb0 _ _ hI5), rfl, hv5.symm⟩, l5, rfl, ⟨xs5, sm_l sb0 hl5⟩, ?_⟩
    refine for_list (K := K) (a := l5) (xs := xs5) (fun i σ H' => ∃ (y1 y2 y3 y4 y5 : Option V) (F : Addr), σ = [some (.ref I), some (.str z), some (.str bl), some (.ref S), some tv, some (.ref F), y1, y2, y3, y4, y5] ∧ Same Hb H' ∧ Hb F = none ∧ S ≠ F ∧ H' S = some (.lst ((((d.rs.take i).foldl (rowT (ds.map (·.z)) (treeL ds n) (totR d.rs) bl) ([], sh ++ [z])).2).map V.str)) ∧ H' F = some (.lst ((((d.rs.take i).foldl (rowT (ds.map (·.z)) (treeL ds n) (totR d.rs) bl) ([], sh ++ [z])).1).map V.str))) ⟨_, _, _, _, _, F0, rfl, sb0, nF5, nSF, eS4, e4⟩ (fun i σ H' _ h => ?_) ?_ ?_
    · obtain ⟨_, _, _, _, _, _, _, b, _⟩ := h
      exact sm_l b hl5
    · rintro i rv_ σ H5 hx ⟨y1, y2, y3, y4, y5, F, rfl, s5, nF_, nSF_, eS5, eF5⟩
      obtain ⟨r, hr_, hra⟩ := pget (hx5.same s5) hx
      have hil := (List.getElem?_eq_some_iff.mp hr_).1
      have hrm := List.mem_of_getElem? hr_
      have tri := TrI.rows (treeL_ok r8 n) (t := totR d.rs) (bl := bl) (d.rs.take i) 0 ([], sh ++ [z]) ⟨Ish.add hz nz, Nat.le_refl _, by simp⟩
      have hst : (d.rs.take (i + 1)).foldl (rowT (ds.map (·.z)) (treeL ds n) (totR d.rs) bl) ([], sh ++ [z]) = rowT (ds.map (·.z)) (treeL ds n) (totR d.rs) bl ((d.rs.take i).foldl (rowT (ds.map (·.z)) (treeL ds n) (totR d.rs) bl) ([], sh ++ [z])) r := by
        rw [List.take_add_one, hr_, List.foldl_append]
        rfl
      rw [hst]
      generalize (d.rs.take i).foldl (rowT (ds.map (·.z)) (treeL ds n) (totR d.rs) bl) ([], sh ++ [z]) = stt at eS5 eF5 tri
      have stl := tri.ok.len T.B.fd
      have t1 := tri.le
      have t2 := tri.few
      rw [List.length_take, List.length_append, List.length_singleton] at t2
      rw [List.length_append, List.length_singleton] at t1
      obtain ⟨pr_, vf, rfl, q1, q2⟩ := hra
      have ok_ := okr.all r hrm
      obtain ⟨Nn, cc, Mm, O⟩ := T.B.ob d hd (fun t => opn ds t) (fun _ _ => rfl)
      have sb : Bt 880 (fdiv r.2 (totR d.rs)) := O.sb hrm
      have tp := okr.tot_p
      have zL := sizeLine_eq
      have nm := ok_.nm
      have lz := nm.le
      obtain ⟨pv_, rfl, hpv⟩ := q2
      obtain ⟨pt_, rfl, hpt⟩ := ht5
      have hpt5 := sm_t s5 hpt
      have rb := (okr.bt hrm).sm (by decide : 880 ≤ 900)
      have tb := okr.tot_b.sm (by decide : 880 ≤ 900)
      refine ⟨pr_, _, rfl, q1, rfl, _, _, rfl, _, _, rfl, rfl, ?_⟩
      refine ⟨_, rfl, pv_, _, _, _, rfl, rfl, hpv, rfl, _, rfl, pt_, _, _, _, rfl, rfl, hpt5, rfl, _, _, rfl, rfl, Sm.mulW rb.1 tb.2, _, rfl, pv_, _, _, _, rfl, rfl, hpv, rfl, _, rfl, pt_, _, _, _, rfl, rfl, hpt5, rfl, _, _, rfl, rfl, Sm.mulW rb.2 tb.1, ?_⟩
      refine ⟨_, _, rfl, mul_ne ok_.lo.ne (by omega), Sm.mul rb.2 tb.1, fun H6 p6 s6 e6 => ?_⟩
      have e6' : H6 p6 = some (.tup [.int (fdiv r.2 (totR d.rs)).1, .int (fdiv r.2 (totR d.rs)).2]) := e6
      refine ⟨p6, _, rfl, .inl (.inl e6'), rfl, _, _, rfl, _, _, rfl, rfl, ?_⟩
      have la := (sb.sm (by decide : 880 ≤ 900)).1.text
      have lb := (sb.sm (by decide : 880 ≤ 900)).2.text
      have l1 : (Str.ofString "/").length = 1 := by rw [PySem.ofString_length]; rfl
      have l1b : (Str.ofString " ").length = 1 := by rw [PySem.ofString_length]; rfl
      have ga := Nat.lt_of_lt_of_le (sb.sm (by decide : 880 ≤ 900)).1.log (show 900 ≤ 1920 by decide)
      have gb := Nat.lt_of_lt_of_le (sb.sm (by decide : 880 ≤ 900)).2.log (show 900 ≤ 1920 by decide)
      have lft := ftext_len (sb.sm (by decide : 880 ≤ 900)).1 (sb.sm (by decide : 880 ≤ 900)).2
      have hfl : ftext (fdiv r.2 (totR d.rs)).1 (fdiv r.2 (totR d.rs)).2 = if (fdiv r.2 (totR d.rs)).2 = 1 then Str.ofString (toString (fdiv r.2 (totR d.rs)).1) else Str.ofString (toString (fdiv r.2 (totR d.rs)).1) ++ Str.ofString "/" ++ Str.ofString (toString (fdiv r.2 (totR d.rs)).2) := rfl
      have hln0 : lnT bl r (totR d.rs) = bl ++ r.1 ++ Str.ofString " " ++ ftext (fdiv r.2 (totR d.rs)).1 (fdiv r.2 (totR d.rs)).2 := rfl
      obtain ⟨ln, hln⟩ : ∃ ln, ln = lnT bl r (totR d.rs) := ⟨_, rfl⟩
      generalize ftext (fdiv r.2 (totR d.rs)).1 (fdiv r.2 (totR d.rs)).2 = FT at lft hfl hln0
      generalize fdiv r.2 (totR d.rs) = f at la lb ga gb hfl e6'
      have lnl : ln.length ≤ 2000 := by
        rw [hln, hln0, strLen_append, strLen_append, strLen_append]
        omega
      refine ⟨_, rfl, _, rfl, _, _, rfl, rfl, by omega, _, _, rfl, rfl, by rw [strLen_append]; omega, _, rfl, f.1, rfl, ga, _, _, rfl, rfl, by rw [strLen_append, strLen_append]; omega, ?_⟩
      refine ⟨_, rfl, f.2, rfl, gb, _, _, rfl, rfl, by omega, (by show 2 ≤ sizeLine; decide), fun l7 hl7 => ?_⟩
      have s7 : Same H6 (L2.upd H6 l7 (.lst [.str (Str.ofString "/" ++ Str.ofString (toString f.2)), .str (Str.ofString "")])) := same_new hl7
      have e7 : L2.upd H6 l7 (.lst [.str (Str.ofString "/" ++ Str.ofString (toString f.2)), .str (Str.ofString "")]) l7 = some (.lst [.str (Str.ofString "/" ++ Str.ofString (toString f.2)), .str (Str.ofString "")]) := upd_same
      generalize L2.upd H6 l7 (.lst [.str (Str.ofString "/" ++ Str.ofString (toString f.2)), .str (Str.ofString "")]) = H7 at s7 e7 ⊢
      refine ⟨_, rfl, rfl, .inr ⟨_, rfl, ?_⟩⟩
      have s57 := s6.trans s7
      have le0 : (Str.ofString "").length = 0 := by rw [PySem.ofString_length]; rfl
      have lnT2 : ∀ X : Str, Str.ofString (toString f.1) ++ X = FT → bl ++ r.1 ++ Str.ofString " " ++ Str.ofString (toString f.1) ++ X = ln := fun X hX => by
        rw [hln, hln0, ← hX]
        simp only [Str.append_assoc]
      obtain ⟨nn, X, hnn, hat, hX, hXl⟩ : ∃ (nn : Int) (X : Str), (if decide (V.int f.2 = V.int 1) = true then (1 : Int) else 0) = nn ∧ atI [V.str (Str.ofString "/" ++ Str.ofString (toString f.2)), V.str (Str.ofString "")] nn = some (.str X) ∧ Str.ofString (toString f.1) ++ X = FT ∧ X.length ≤ 1000 := by
        by_cases e : f.2 = 1
        · refine ⟨1, Str.ofString "", if_pos (decide_eq_true (by rw [e])), rfl, ?_, by rw [le0]; omega⟩
          rw [hfl, if_pos e]
          exact Str.append_empty _
        · refine ⟨0, _, if_neg (fun z => e (V.int.inj (of_decide_eq_true z))), rfl, ?_, by rw [strLen_append]; omega⟩
          rw [hfl, if_neg e, Str.append_assoc]
      refine ⟨l7, _, nn, _, rfl, congrArg V.int hnn, .inl (.inl e7), hat, _, _, rfl, rfl, by simp only [strLen_append]; omega, ?_⟩
      rw [lnT2 X hX]
      have eS7 := s57 _ _ eS5
      have eF7 := s57 _ _ eF5
      have s57b : Same Hb H7 := s5.trans s57
      have alS : ∀ t ∈ stt.2, AllL t := fun t ht => by
        obtain ⟨e, he, rfl⟩ := List.mem_map.mp (tri.ok.sub t ht)
        exact T.N.d e he
      have fewL : stt.1.length ≤ 100 := by omega
      have l3 : (Str.ofString " ..").length = 3 := by rw [PySem.ofString_length]; rfl
      have l2 : (Str.ofString "  ").length = 2 := by rw [PySem.ofString_length]; rfl
      refine ⟨_, rfl, _, rfl, .str r.1, stt.2.map PyData.str, .str _, .lst (.inl (.inl eS7)) (strs_dp _), al_shaped nm.al, strs_shaped alS, ?_⟩
      rw [strs_any]
      refine ⟨_, rfl, ite2 (fun c => ?_) (fun c => ?_)⟩
      · have hin := of_decide_eq_true c
        refine ⟨_, rfl, .inl ⟨rfl, _, .inl (.inl eF7)⟩, _, rfl, _, _, rfl, rfl, by omega, F, _, _, rfl, rfl, eF7, by rw [List.length_map]; omega, ?_⟩
        refine ⟨_, _, _, _, _, F, rfl, fun b o e => ?_, nF_, nSF_, ?_, ?_⟩
        · rw [upd_ne (ne_of_none e nF_)]
          exact s57b _ _ e
        · rw [upd_ne nSF_]
          unfold rowT
          rw [if_pos hin]
          exact eS7
        · rw [upd_same]
          unfold rowT
          rw [if_pos hin, ← hln]
          simp only [List.map_append, List.map_cons, List.map_nil, List.append_assoc]
      · have hni : r.1 ∉ stt.2 := fun h => c (decide_eq_true h)
        refine ⟨_, rfl, .inl ⟨rfl, _, .inl (.inl eF7)⟩, _, rfl, F, _, _, rfl, rfl, eF7, by rw [List.length_map]; omega, ?_⟩
        have s8 : Same Hb (L2.upd H7 F (.lst (stt.1.map V.str ++ [.str ln]))) := fun b o e => by
          rw [upd_ne (ne_of_none e nF_)]
          exact s57b _ _ e
        have eF8 : L2.upd H7 F (.lst (stt.1.map V.str ++ [.str ln])) F = some (.lst ((stt.1 ++ [ln]).map V.str)) := by rw [upd_same, List.map_append]; rfl
        have eS8 : L2.upd H7 F (.lst (stt.1.map V.str ++ [.str ln])) S = some (.lst (stt.2.map V.str)) := by rw [upd_ne nSF_]; exact eS7
        generalize L2.upd H7 F (.lst (stt.1.map V.str ++ [.str ln])) = H8 at s8 eF8 eS8 ⊢
        have hI8 := s8 _ _ hI5
        refine ⟨_, rfl, _, rfl, I, _, rfl, DGet.k (k := Sum.inr r.1) hI8, ?_⟩
        by_cases hm : r.1 ∈ ds.map (·.z)
        · obtain ⟨d2, hd2, hz2⟩ := List.mem_map.mp hm
          obtain ⟨l2_, xs2, hv2, _, _⟩ := RoE.val hP5 nd d2 hd2
          rw [hz2] at hv2
          rw [hv2]
          refine ⟨_, rfl, iteT ?_⟩
          have lt := T.R.dn d hd r hrm hm
          rw [hdz] at lt
          have ro8 : RoD K (wo S H8) I ds := ro5.same (fun b o e => wo_at (ne_of_none e nS5) (s8 _ _ e))
          refine ⟨_, rfl, _, rfl, _, rfl, _, rfl, _, _, rfl, rfl, by omega, _, rfl, ?_⟩
          refine ⟨I, S, r.1, bl ++ Str.ofString "  ", stt.2, ss, ds, rk, rfl, T, ro8, eS8, tri.ok, hm, hni, by omega, by rw [strLen_append]; omega, fun H9 F9 b9 n9 eS9 eF9 => ?_⟩
          have tri9 := treeL_ok r8 n r.1 (bl ++ Str.ofString "  ") stt.2 tri.ok hm hni
          have l9 := tri9.ok.len T.B.fd
          have l9b := tri9.few
          refine ⟨F, F9, _, _, rfl, rfl, b9 _ _ nSF_.symm eF8, eF9, by rw [List.length_map, List.length_map, List.length_append, List.length_singleton]; omega, fun p10 n10 => ?_⟩
          have s10 : Same H9 (L2.upd H9 p10 (.lst ((stt.1 ++ [ln]).map V.str ++ (treeL ds n r.1 (bl ++ Str.ofString "  ") stt.2).1.map V.str))) := same_new n10
          have nS10 : S ≠ p10 := ne_of_none eS9 n10
          have s9 : Same Hb H9 := fun b o e => b9 _ _ (ne_of_none e nS5) (s8 _ _ e)
          refine ⟨_, _, _, _, _, p10, rfl, s9.trans s10, same_none s9 n10, nS10, ?_, ?_⟩
          · rw [upd_ne nS10]
            unfold rowT
            rw [if_neg hni, if_pos hm]
            exact eS9
          · rw [upd_same]
            unfold rowT
            rw [if_neg hni, if_pos hm, ← hln]
            simp only [List.map_append]
        · rw [RoE.none hP5 hm]
          refine ⟨_, rfl, iteF ?_⟩
          refine ⟨_, _, _, _, _, F, rfl, s8, nF_, nSF_, ?_, ?_⟩
          · unfold rowT
            rw [if_neg hni, if_neg hm]
            exact eS8
          · unfold rowT
            rw [if_neg hni, if_neg hm, ← hln]
            exact eF8
    · rintro σ H5 ⟨y1, y2, y3, y4, y5, F, rfl, s5, nF_, nSF_, eS5, eF5⟩
      have hm : (d.rs.take xs5.length) = d.rs := List.take_of_length_le (by omega)
      rw [hm] at eS5 eF5
      have e_t : treeL ds (n + 1) z bl sh = d.rs.foldl (rowT (ds.map (·.z)) (treeL ds n) (totR d.rs) bl) ([], sh ++ [z]) := by
        show (match dOf ds z with | none => _ | some d => _) = _
        rw [e_of]
      refine ⟨_, rfl, k H5 F (fun b o nb e => s5 _ _ (sHb _ _ nb e)) (no0 _ nF_ nSF_.symm) ?_ ?_⟩
      · rw [e_t]
        exact eS5
      · rw [e_t]
        exact eF5

theorem ok_linesN {f : Addr} {fd : FuncData} (M : Blt mg) (cal : ∀ {k : Nat} {sp : Sp}, FnG P w K mg base CX0 k f fd ["_law_rows_of", "_law_name_here", "_law_ahead", "_law_shown"] sp → Cal P w K mg base CX0 k "_law_lines" ["_law_rows_of", "_law_name_here", "_law_ahead", "_law_shown"] sp) (F : Fun K "_law_lines" "_law_lines" s__law_lines f fd) (C__law_total : Cal P w K mg base CX0 3 "_law_total" ["_law_some_here"] (sp_togL K)) (C__law_low : Cal P w K mg base CX0 1 "_law_low" ["_law_top", "_law_bottom"] sp_low) : ∀ n : Nat, Cal P w K mg base CX0 (4 + n) "_law_lines" ["_law_rows_of", "_law_name_here", "_law_ahead", "_law_shown"] (sp_lines K n)
  | 0 => cal ⟨fun vs H Q E h => by obtain ⟨I, S, z, bl, sh, ss, ds, rk, _, _, _, _, _, _, _, h0, _⟩ := h; exact absurd h0 (Nat.not_lt_zero _), fun B out s H ar us vs Q E _ _ _ _ _ h => by obtain ⟨I, S, z, bl, sh, ss, ds, rk, _, _, _, _, _, _, _, h0, _⟩ := h; exact absurd h0 (Nat.not_lt_zero _)⟩
  | n + 1 => cal (ok_lines M F C__law_total C__law_low (ok_linesN M cal F C__law_total C__law_low n))

/-! ### _law_due -/
theorem sc__law_due : FnScope ["_law_doughs", "_law_name_here", "_law_rows_of", "_law_row"] ["_law_doughs", "_law_name_here"] (defScope s__law_due) := ⟨rfl, rfl, rfl, by decide +kernel, rfl, by decide +kernel, by decide +kernel⟩
theorem RoE.nodup : ∀ {kvs : List (Key × V)} {ds : List Dm}, Paired (RoE K H) kvs ds → (ds.map (·.z)).Nodup → (kvs.map (·.1)).Nodup
  | _, _, .nil, _ => .nil
  | _, _, @Paired.cons _ _ _ kv e kvs ds r t, nd => by
    rw [List.map_cons, List.nodup_cons] at nd ⊢
    refine ⟨fun h => ?_, RoE.nodup t nd.2⟩
    obtain ⟨kv2, hm, hk⟩ := List.mem_map.mp h
    obtain ⟨e2, he2, r2⟩ := pmem t hm
    rw [r.1, r2.1] at hk
    exact nd.1 (by rw [← Sum.inr.inj hk]; exact List.mem_map_of_mem he2)
theorem bt_dict : bootBuiltins "dict" = some (.type "dict") := by decide +kernel
def sp_ldue (K : PySem.W.Frag) : Sp := fun vs H Q _ => ∃ (b : Addr) (z : Str) (ys : List V) (ss : List Sf) (ds : List Dm) (rk : Str → Nat), vs = [.ref b, .str z] ∧ SqL K H b ys ∧ Paired (DmT K H) ys ds ∧ TrOk ss ds rk ∧ z ∈ ds.map (·.z) ∧ ∀ H' L, Same H H' → H L = none → H' L = some (.lst ((treeD ds z).map V.str)) → Q (.ref L) H'
theorem ok_ldue {f : Addr} {fd : FuncData} (mdi : mg "dict" = none) (F : Fun K "_law_due" "_law_due" s__law_due f fd) (C__law_lines : Cal P w K mg base CX0 (4 + 12) "_law_lines" ["_law_rows_of", "_law_name_here", "_law_ahead", "_law_shown"] (sp_lines K 12)) : FnG P w K mg base CX0 17 f fd ["_law_doughs", "_law_name_here"] (sp_ldue K) := by
  refine Gfun F sc__law_due (fun vs H Q E h => ?_) (fun cdv A outer s H vs Q E hg hr h => ?_)
  · obtain ⟨b, z, ys, ss, ds, rk, rfl, _⟩ := h
    rfl
  · obtain ⟨b, z, ys, ss, ds, rk, rfl, h4, h5, T, hz, k⟩ := h
    refine ⟨_, (pss_cons (ps_set (i := 2) sc__law_due.nd rfl (.inl rfl) (pe_callTy (call_dictP rfl) rfl mdi bt_dict (pa_cons (pe_lc (own := [("_law_row", 3)]) (g := gName 3) (tt := tYes) rfl sc__law_due.nd (pi_list (pv 0)) (blkOk_by (N := ["_law_doughs", "_law_name_here", "_law_rows_of", "_law_row"]) (sc := defScope s__law_due) (by decide +kernel)) (fun _ _ _ _ _ => pg_name (i := 3) sc__law_due.nd rfl (Or.inl rfl)) (fun _ _ _ _ _ => pts_nil) (fun _ _ _ _ _ => (pe_tup (pa_cons (pe_ix (ix_tupK (K := K)) (pv 3) pe_int (fun _ _ => rfl)) (pa_cons (pe_ix (ix_tupK (K := K)) (pv 3) pe_int (fun _ _ => rfl)) pa_nil))))) pa_nil)))
      (pss_one (ps_ret (pe_op op_cat (pe_lst (pa_cons (pv 1) pa_nil)) (pe_g C__law_lines (hr.mono (by decide)) hg (pa_cons (pv 2) (pa_cons (pv 1) (pa_cons pe_str (pa_cons (pe_lst pa_nil) pa_nil))))))))), ?_⟩
    have l5 := plen h5
    have fd := T.B.fd
    have ndd := T.B.ndd
    refine ⟨_, rfl, b, rfl, ⟨_, h4⟩, fun D hD => ?_⟩
    refine lc_list (xs := ys) (fun j H' => Same H H' ∧ ∃ (ps : List Addr) (kvs : List (Key × V)), H' D = some (.lst (ps.map V.ref)) ∧ ps.length = j ∧ Paired (fun p kv => SqT K (wo D H') p [kV kv.1, kv.2]) ps kvs ∧ Paired (RoE K H) kvs (ds.take j)) ⟨same_new hD, [], [], upd_same, rfl, .nil, .nil⟩ (fun j H' _ h => sm_l h.1 h4) ?_ ?_
    · rintro j y X6 hy ⟨x6, ps, kvs, eD, lps, pp, pk⟩
      obtain ⟨d, hd, pe, le, zs, rfl, j1, j2, j3⟩ := pget h5 hy
      have hj : j < ys.length := (List.getElem?_eq_some_iff.mp hy).1
      refine ⟨rfl, _, rfl, pe, _, _, _, rfl, rfl, sm_t x6 j1, atI_nat (j := 0) rfl, _, rfl, pe, _, _, _, rfl, rfl, sm_t x6 j1, atI_nat (j := 1) rfl, len_show (Nat.le_of_ble_eq_true rfl), fun tp ntp => ?_⟩
      have x8 : Same X6 (L2.upd X6 tp (.tup [.str d.z, .ref le])) := same_new ntp
      have e8_ : L2.upd X6 tp (.tup [.str d.z, .ref le]) tp = some (.tup [.str d.z, .ref le]) := upd_same
      generalize L2.upd X6 tp (.tup [.str d.z, .ref le]) = X8 at x8 e8_ ⊢
      have eD8 := x8 _ _ eD
      have nDt : tp ≠ D := fun z => by rw [z, eD] at ntp; cases ntp
      refine ⟨_, eD8, by rw [List.length_map, sizeLine_eq]; have := plen h5; omega, ?_⟩
      have b9 : But D X8 (L2.upd X8 D (.lst (ps.map V.ref ++ [.ref tp]))) := fun b o nb e => by rw [upd_ne nb]; exact e
      have e9 : L2.upd X8 D (.lst (ps.map V.ref ++ [.ref tp])) D = some (.lst ((ps ++ [tp]).map V.ref)) := by
        rw [upd_same, List.map_append]
        rfl
      generalize L2.upd X8 D (.lst (ps.map V.ref ++ [.ref tp])) = X9 at b9 e9 ⊢
      have s69 : Same (wo D X6) (wo D X9) := fun b o e => wo_at (wo_not e) (b9 _ _ (wo_not e) (x8 _ _ (wo_le _ _ e)))
      have x09 : Same H X9 := fun b o e => b9 _ _ (ne_of_none e hD) (x8 _ _ (x6 _ _ e))
      have etp : SqT K (wo D X9) tp [kV (Sum.inr d.z), V.ref le] := .inl (.inl (wo_at nDt (b9 _ _ nDt e8_)))
      refine ⟨x09, ps ++ [tp], kvs ++ [(Sum.inr d.z, .ref le)], e9, by rw [List.length_append, lps]; rfl, papp (L2.Paired.mapP pp fun _ _ => sm_t s69) (.cons etp .nil), ?_⟩
      rw [List.take_succ, hd]
      exact papp pk (.cons ⟨rfl, le, zs, rfl, j2, j3⟩ .nil)
    rintro X6 ⟨x6, ps, kvs, eD, lps, pp, pk⟩
    rw [List.take_of_length_le (by omega)] at pk
    have ws6 : Same (wo D X6) X6 := fun b o e => wo_le _ _ e
    refine ⟨D, ps, kvs, rfl, .inl (.inl eD), L2.Paired.mapP pp fun _ _ => sm_t ws6, fun R nR => ?_⟩
    rw [merge_nil (RoE.nodup pk ndd)]
    have s1 : Same H (L2.upd X6 R (.dK kvs)) := fun b o e => by rw [upd_ne (ne_of_none (x6 _ _ e) nR)]; exact x6 _ _ e
    have e1 : L2.upd X6 R (.dK kvs) R = some (.dK kvs) := upd_same
    generalize L2.upd X6 R (.dK kvs) = H1 at s1 e1 ⊢
    have ro1 : RoD K H1 R ds := ⟨kvs, e1, L2.Paired.mapP pk fun _ _ => RoE.same s1⟩
    refine ⟨_, rfl, len_show (Nat.le_of_ble_eq_true rfl), fun F0 nF => ?_⟩
    have s2 : Same H1 (L2.upd H1 F0 (.lst [.str z])) := same_new nF
    have e2 : L2.upd H1 F0 (.lst [.str z]) F0 = some (.lst (([z] : List Str).map V.str)) := upd_same
    generalize L2.upd H1 F0 (.lst [.str z]) = H2 at s2 e2 ⊢
    refine ⟨_, rfl, _, rfl, len_show (Nat.le_of_ble_eq_true rfl), fun S nS => ?_⟩
    have s3 : Same H2 (L2.upd H2 S (.lst [])) := same_new nS
    have e3 : L2.upd H2 S (.lst []) S = some (.lst (([] : List Str).map V.str)) := upd_same
    generalize L2.upd H2 S (.lst []) = H3 at s3 e3 ⊢
    have s13w : Same H1 (wo S H3) := fun b o e => wo_at (ne_of_none (s2 _ _ e) nS) (s3 _ _ (s2 _ _ e))
    have lb : (Str.ofString "  ").length = 2 := by rw [PySem.ofString_length]; rfl
    obtain ⟨d, hd, hdz⟩ := List.mem_map.mp hz
    have rk1 := T.R.lt d hd
    have nFS : F0 ≠ S := ne_of_none e2 nS
    have r8 : ∀ d ∈ ds, d.rs.length ≤ 8 := fun d hd => (T.D d hd).rw_.few
    refine ⟨R, S, z, _, [], ss, ds, rk, rfl, T, ro1.same s13w, e3, ⟨.nil, (fun _ h => nomatch h)⟩, hz, (fun h => nomatch h), by rw [← hdz]; omega, by rw [lb]; decide, fun H4 F4 b4 n4 eS4 eF4 => ?_⟩
    have tri := treeL_ok r8 12 z (Str.ofString "  ") [] ⟨.nil, (fun _ h => nomatch h)⟩ hz (fun h => nomatch h)
    have l9 := tri.ok.len T.B.fd
    have l9b := tri.few
    refine ⟨F0, F4, _, _, rfl, rfl, b4 _ _ nFS (s3 _ _ e2), eF4, by rw [sizeLine_eq, List.length_map, List.length_map]; simp only [List.length_cons, List.length_nil] at *; omega, fun p5 n5 => ?_⟩
    have s04 : Same H H4 := fun b o e => b4 _ _ (ne_of_none (s2 _ _ (s1 _ _ e)) nS) (s3 _ _ (s2 _ _ (s1 _ _ e)))
    refine k _ p5 (s04.trans (same_new n5)) (same_none s04 n5) ?_
    rw [upd_same]
    rfl

end
end Lf

set_option Elab.async false
set_option linter.all false
set_option maxRecDepth 100000
set_option maxHeartbeats 4000000
set_option exponentiation.threshold 3000
namespace Lf
open PySem PySem.Spec PyProof.Rows L2
theorem strOk_app {a b : Str} (h : PyData.strOk a = true) (k : PyData.strOk b = true) : PyData.strOk (a ++ b) = true := by
  show (a ++ b).cps.all (· < 0x110000) = true
  have h' : a.cps.all (· < 0x110000) = true := h
  have k' : b.cps.all (· < 0x110000) = true := k
  rw [Str.cps_append, Array.all_append, h', k']
  rfl
theorem strOk_of (s : String) : PyData.strOk (Str.ofString s) = true := by
  show (Str.ofString s).cps.all (· < 0x110000) = true
  rw [Str.ofString_eq_toList, ← Array.all_toList, List.all_eq_true]
  intro c hc
  obtain ⟨ch, _, rfl⟩ := List.mem_map.mp hc
  refine decide_eq_true ?_
  have h : ch.val.toNat < 0xd800 ∨ 0xdfff < ch.val.toNat ∧ ch.val.toNat < 0x110000 := ch.valid
  show ch.val.toNat < _
  omega
theorem ftext_ok (a b : Int) : PyData.strOk (ftext a b) = true := by
  unfold ftext
  split
  · exact strOk_of _
  · exact strOk_app (strOk_app (strOk_of _) (strOk_of _)) (strOk_of _)
theorem txts_shaped {ts : List Str} (h : ∀ t ∈ ts, PyData.strOk t = true) : SeqAt.shaped (.list (ts.map PyData.str)) = true := by
  have key : ∀ ts : List Str, (∀ t ∈ ts, PyData.strOk t = true) → PyData.canLayAll0 (ts.map PyData.str) = true ∧ PyData.depthAll (ts.map PyData.str) = 0 := by
    intro ts
    induction ts with
    | nil => exact fun _ => ⟨by simp only [List.map_nil, PyData.canLayAll0], by simp only [List.map_nil, PyData.depthAll]⟩
    | cons t ts ih =>
      intro h
      obtain ⟨i1, i2⟩ := ih fun x hx => h x (List.mem_cons_of_mem _ hx)
      have a := h t List.mem_cons_self
      exact ⟨by simp only [List.map_cons, PyData.canLayAll0, i1, PyData.canLay0, a, Bool.and_self], by simp only [List.map_cons, PyData.depthAll, PyData.depth, i2, Nat.max_self]⟩
  obtain ⟨i1, i2⟩ := key ts h
  unfold SeqAt.shaped
  rw [Bool.and_eq_true]
  refine ⟨by simp only [PyData.canLay0]; exact i1, decide_eq_true ?_⟩
  simp only [PyData.depth, i2]
  omega
theorem txts_eqv (ts : List Str) : PyData.eqv (.list (ts.map PyData.str)) (.list (ts.map PyData.str)) = true := by
  have key : ∀ ts : List Str, PyData.eqvAll (ts.map PyData.str) (ts.map PyData.str) = true := by
    intro ts
    induction ts with
    | nil => simp only [List.map_nil, PyData.eqvAll]
    | cons t ts ih => simp [List.map_cons, PyData.eqvAll, PyData.eqv, ih]
  simp only [PyData.eqv]
  exact key ts
/-- so many empty lists -/
def empD (n : Nat) : PyData := .list (List.replicate n (.list []))
theorem empD_shaped (n : Nat) : SeqAt.shaped (empD n) = true := by
  have key : ∀ n : Nat, PyData.canLayAll0 (List.replicate n (PyData.list [])) = true ∧ PyData.depthAll (List.replicate n (PyData.list [])) ≤ 1 := by
    intro n
    induction n with
    | zero => exact ⟨by simp only [List.replicate_zero, PyData.canLayAll0], by simp only [List.replicate_zero, PyData.depthAll]; omega⟩
    | succ n ih =>
      obtain ⟨i1, i2⟩ := ih
      refine ⟨by simp only [List.replicate_succ, PyData.canLayAll0, i1, PyData.canLay0, Bool.and_self], ?_⟩
      simp only [List.replicate_succ, PyData.depthAll, PyData.depth]
      omega
  obtain ⟨i1, i2⟩ := key n
  unfold SeqAt.shaped empD
  rw [Bool.and_eq_true]
  refine ⟨by simp only [PyData.canLay0]; exact i1, decide_eq_true ?_⟩
  simp only [PyData.depth]
  omega
theorem empD_eqv (n : Nat) : PyData.eqv (empD n) (empD n) = true := by
  have key : ∀ n : Nat, PyData.eqvAll (List.replicate n (PyData.list [])) (List.replicate n (PyData.list [])) = true := by
    intro n
    induction n with
    | zero => simp only [List.replicate_zero, PyData.eqvAll]
    | succ n ih => simp [List.replicate_succ, PyData.eqvAll, PyData.eqv, ih]
  simp only [empD, PyData.eqv]
  exact key n
/-- lists that are empty -/
theorem emp_dp {K : PySem.W.Frag} {H : Hp} : ∀ ps : List Addr, (∀ p ∈ ps, H p = some (.lst [])) → DpAll K H (ps.map V.ref) (List.replicate ps.length (.list []))
  | [], _ => .nil
  | p :: ps, h => .cons (.lst (.inl (.inl (h p List.mem_cons_self))) .nil) (emp_dp ps fun q hq => h q (List.mem_cons_of_mem _ hq))
theorem flat_one {α : Type} (v : α) : ∀ n : Nat, (List.replicate n [v]).flatten = List.replicate n v
  | 0 => rfl
  | n + 1 => by rw [List.replicate_succ, List.flatten_cons, flat_one v n]; rfl
theorem lnT_ok {bl : Str} {r : Str × (Int × Int)} {t : Int × Int} (h : PyData.strOk bl = true) (k : PyData.strOk r.1 = true) : PyData.strOk (lnT bl r t) = true := strOk_app (strOk_app (strOk_app h k) (strOk_of _)) (ftext_ok _ _)
theorem treeL_txt {ds : List Dm} (al : ∀ d ∈ ds, ∀ r ∈ d.rs, AllL r.1) : ∀ (n : Nat) (z bl : Str) (sh : List Str), PyData.strOk bl = true → ∀ t ∈ (treeL ds n z bl sh).1, PyData.strOk t = true
  | 0, z, bl, sh, _, t, ht => nomatch ht
  | n + 1, z, bl, sh, hb, t, ht => by
    unfold treeL at ht
    cases e : dOf ds z with
    | none => rw [e] at ht; exact nomatch ht
    | some d =>
      rw [e] at ht
      have hd := (dOf_mem e).1
      have key : ∀ (rs : List (Str × (Int × Int))) (st : List Str × List Str), (∀ r ∈ rs, AllL r.1) → (∀ t ∈ st.1, PyData.strOk t = true) → ∀ t ∈ (rs.foldl (rowT (ds.map (·.z)) (treeL ds n) (totR d.rs) bl) st).1, PyData.strOk t = true := by
        intro rs
        induction rs with
        | nil => exact fun st _ h => h
        | cons r rs ih =>
          intro st hr h
          refine ih _ (fun x hx => hr x (List.mem_cons_of_mem _ hx)) ?_
          have hl := lnT_ok (t := totR d.rs) hb (nm_strOk (hr r List.mem_cons_self))
          intro t ht
          unfold rowT at ht
          split at ht
          · rcases List.mem_append.mp ht with q | q
            · exact h t q
            · rw [List.mem_singleton.mp q]
              exact strOk_app hl (strOk_of _)
          · split at ht
            · rcases List.mem_append.mp ht with q | q
              · rcases List.mem_append.mp q with q | q
                · exact h t q
                · rw [List.mem_singleton.mp q]
                  exact hl
              · exact treeL_txt al n _ _ _ (strOk_app hb (strOk_of _)) t q
            · rcases List.mem_append.mp ht with q | q
              · exact h t q
              · rw [List.mem_singleton.mp q]
                exact hl
      exact key d.rs _ (al d hd) (fun t ht => absurd ht (by simp)) t ht
theorem treeD_txt {ss : List Sf} {ds : List Dm} {rk : Str → Nat} (T : TrOk ss ds rk) {z : Str} (hz : z ∈ ds.map (·.z)) : ∀ t ∈ treeD ds z, PyData.strOk t = true := fun t ht => by
  rcases List.mem_cons.mp ht with q | q
  · obtain ⟨e, he, rfl⟩ := List.mem_map.mp hz
    rw [q]
    exact nm_strOk (T.N.d e he)
  · exact treeL_txt (fun d hd r hr => ((T.D d hd).rw_.all r hr).nm.al) 12 z _ [] (strOk_of _) t q
section
variable {P : Program} {w : World} {K : PySem.W.Frag} {mg : Str → Option Value} {base : Heap} {H H' : Hp}
theorem kit_list : PySem.W.kitOne K (.type "list") (.type "list") = some true := by
  unfold PySem.W.kitOne
  rw [if_pos (by simp)]

/-! ### _law_are_right -/
theorem sc__law_are_right : FnScope ["_law_made_here", "_law_doughs", "_law_held", "_law_turn", "_law_row", "_law_found"] ["_law_made_here", "_law_doughs"] (defScope s__law_are_right) := ⟨rfl, rfl, rfl, by decide +kernel, rfl, by decide +kernel, by decide +kernel⟩
/-- lists that were emptied, made anew -/
def EmpN (H0 H : Hp) (ps : List Addr) : Prop := ∀ p ∈ ps, H0 p = none ∧ H p = some (.lst [])
def sp_aright (K : PySem.W.Frag) (C CS CD : Addr) : Sp := fun vs H Q _ => ∃ (x b : Addr) (ys : List V) (ss : List Sf) (ds es : List Dm) (rk : Str → Nat), vs = [.ref x, .ref b] ∧ BkO K H C CS CD x ss ds ∧ SqL K H b ys ∧ Paired (DmT K H) ys es ∧ TrOk ss ds rk ∧ TrOk ss es rk ∧ es.length ≤ 11 ∧ (∀ z ∈ es.map (·.z), z ∈ ds.map (·.z) ∧ treeD ds z = treeD es z) ∧ ∀ H', Same H H' → Q (.bl true) H'
theorem ok_aright {C CS CD f : Addr} {fd : FuncData} (M : Blt mg) (Mx : Bltx mg) (ml : mg "list" = none) (F : Fun K "_law_are_right" "_law_are_right" s__law_are_right f fd) (C_tree : Cal P w K mg base CX0 21 "tree" ["book", "dough"] (sp_tree K C CS CD)) (C__law_due : Cal P w K mg base CX0 17 "_law_due" ["_law_doughs", "_law_name_here"] (sp_ldue K)) : FnG P w K mg base CX0 22 f fd ["_law_made_here", "_law_doughs"] (sp_aright K C CS CD) := by
  refine Gfun F sc__law_are_right (fun vs H Q E h => ?_) (fun cdv A outer s H vs Q E hg hr h => ?_)
  · obtain ⟨x, b, ys, ss, ds, es, rk, rfl, _⟩ := h
    rfl
  · obtain ⟨x, b, ys, ss, ds, es, rk, rfl, bk, h4, h5, T, T2, le11, al, k⟩ := h
    refine ⟨_, (pss_cons (ps_set (i := 2) sc__law_are_right.nd rfl (.inl rfl) (pe_lst pa_nil))
      (pss_cons (ps_for PassesOwn.never rfl (pi_range1 rfl M.range (pa_cons pe_int pa_nil)) (pg_name (i := 3) sc__law_are_right.nd rfl (.inl rfl))
      (pss_one (ps_for PassesOwn.never rfl (pi_list (pv 1)) (pg_name (i := 4) sc__law_are_right.nd rfl (.inl rfl))
      (pss_cons (ps_set (i := 5) sc__law_are_right.nd rfl (.inl rfl) (pe_ifExp (pt_cmpR op_eq (pv 3) pe_int (nomark _)) (pe_g C_tree (hr.mono (by decide)) hg (pa_cons (pv 0) (pa_cons (pe_ix ix_tup (pv 4) pe_int (fun _ _ => rfl)) pa_nil))) (pe_gr C_tree (hr.mono (by decide)) hg (pk_cons (pe_ix ix_tup (pv 4) pe_int (fun _ _ => rfl)) (pk_cons (pv 0) pk_nil)))))
      (pss_cons (ps_if (PW.pt (pw_or (pt_not (pt_val (pe_callB call_isi rfl Mx.isinstance bt_isinstance (pa_cons (pv 5) (pa_cons (pe_bltn (v := .ty "list") rfl ml bt_list rfl) pa_nil))))) (pw_or (pt_cmpR (op_neD hr.units) (pv 5) (pe_g C__law_due (hr.mono (by decide)) hg (pa_cons (pv 1) (pa_cons (pe_ix ix_tup (pv 4) pe_int (fun _ _ => rfl)) pa_nil))) (nomark _)) (pw_or1 (pt_cmpR (op_neD hr.units) (pv 2) (pe_op op_rep (pe_lst (pa_cons (pe_lst pa_nil) pa_nil)) (pe_callB call_len_seq rfl M.len bt_len (pa_cons (pv 2) pa_nil))) (nomark _))))))
      (pss_one (ps_ret pe_bl))
      pss_nil)
      (pss_cons (ps_expr (pe_bm0 PySem.F.plainAttrs_list PySem.F.slot_list_clear PySem.F.type_list_clear mt_clear (pv 5)))
      (pss_one (ps_expr (pe_bm PySem.F.plainAttrs_list PySem.F.slot_list_append PySem.F.type_list_append mt_append (pv 2) (pa_cons (pv 5) pa_nil))))))))))
      (pss_one (ps_ret pe_bl)))), ?_⟩
    have l5 := plen h5
    refine ⟨len_show (Nat.le_of_ble_eq_true rfl), fun Hd nH => ?_⟩
    have s1 : Same H (L2.upd H Hd (.lst [])) := same_new nH
    have e1 : L2.upd H Hd (.lst []) Hd = some (.lst []) := upd_same
    generalize L2.upd H Hd (.lst []) = H1 at s1 e1 ⊢
    have hHd : H1 Hd ≠ none := by rw [e1]; exact fun z => nomatch z
    refine ⟨_, rfl, by decide, by decide, ?_⟩
    refine for_range (lo := 0) (n := 2) (fun tn σ H' => ∃ (y1 y2 y3 : Option V) (ps : List Addr), σ = [some (.ref x), some (.ref b), some (.ref Hd), y1, y2, y3] ∧ But Hd H1 H' ∧ H' Hd = some (.lst (ps.map V.ref)) ∧ ps.length = tn * ys.length ∧ EmpN H1 H' ps) ⟨_, _, _, [], rfl, But.rfl, e1, (Nat.zero_mul _).symm, fun _ h => nomatch h⟩ ?_ ?_
    · rintro tn σ H2 htn ⟨y1, y2, y3, ps, rfl, b2, e2, l2, N2⟩
      have h42 : ∀ {H' : Hp}, But Hd H1 H' → Same H H' := fun b c o e => b _ _ (ne_of_none e nH) (s1 _ _ e)
      refine ⟨_, rfl, b, rfl, ⟨ys, sm_l (h42 b2) h4⟩, ?_⟩
      refine for_list (K := K) (a := b) (xs := ys) (fun i σ H' => ∃ (y1 y2 : Option V) (ps : List Addr), σ = [some (.ref x), some (.ref b), some (.ref Hd), some (.int (0 + (tn : Int))), y1, y2] ∧ But Hd H1 H' ∧ H' Hd = some (.lst (ps.map V.ref)) ∧ ps.length = tn * ys.length + i ∧ EmpN H1 H' ps) ⟨_, _, ps, rfl, b2, e2, l2, N2⟩ (fun i σ H' _ h => ?_) ?_ ?_
      · obtain ⟨_, _, _, _, bb, _⟩ := h
        exact sm_l (h42 bb) h4
      · rintro i rv_ σ H3 hx ⟨y1, y2, ps3, rfl, b3, e3, l3, N3⟩
        obtain ⟨e, he, hat⟩ := pget (L2.Paired.mapP h5 fun _ _ => DmT.same (h42 b3)) hx
        have hil := (List.getElem?_eq_some_iff.mp hx).1
        obtain ⟨pe, le, zs, rfl, j1, j2, j3⟩ := id hat
        have hem := List.mem_map_of_mem (f := (·.z)) (List.mem_of_getElem? he)
        obtain ⟨hz1, htr⟩ := al e.z hem
        have s03 := h42 b3
        have bk3 := bk.same s03
        have ok := treeD_txt T2 hem
        refine ⟨_, rfl, rfl, _, rfl, ?_⟩
        have j13 := j1
        refine (fun cont => ite2 (fun _ => ⟨_, rfl, _, rfl, pe, _, _, _, rfl, rfl, j1, atI_nat (j := 0) rfl, x, e.z, ss, ds, rk, rfl, T, bk3, hz1, cont⟩) (fun _ => ⟨_, rfl, pe, _, _, _, rfl, rfl, j1, atI_nat (j := 0) rfl, _, rfl, x, e.z, ss, ds, rk, rfl, T, bk3, hz1, cont⟩)) ?_
        intro H4 Fd s4 n4 e4
        rw [htr] at e4
        have nFH : Fd ≠ Hd := fun z => by rw [z, e3] at n4; cases n4
        have e34 := s4 _ _ e3
        have s04 := s03.trans s4
        refine ⟨_, rfl, _, _, _, _, _, rfl, .ty "list", .base (.lst e4), kit_ty (show kitB "list" "list" = some true by decide +kernel), _, rfl, iteF ?_⟩
        have j14 := sm_t s4 j1
        refine ⟨_, rfl, _, rfl, _, rfl, pe, _, _, _, rfl, rfl, j14, atI_nat (j := 0) rfl, b, e.z, ys, ss, es, rk, rfl, sm_l s04 h4, L2.Paired.mapP h5 fun _ _ => DmT.same s04, T2, hem, fun H5 L5 s5 n5 e5 => ?_⟩
        refine ⟨_, _, .lst (.inl (.inl (s5 _ _ e4))) (strs_dp _), .lst (.inl (.inl e5)) (strs_dp _), txts_shaped ok, txts_shaped ok, ?_⟩
        rw [txts_eqv]
        refine ⟨_, rfl, iteF ?_⟩
        refine ⟨_, rfl, len_show (Nat.le_of_ble_eq_true rfl), fun p6 n6 => ?_⟩
        have s6 : Same H5 (L2.upd H5 p6 (.lst [])) := same_new n6
        have e6 : L2.upd H5 p6 (.lst []) p6 = some (.lst []) := upd_same
        generalize L2.upd H5 p6 (.lst []) = H6 at s6 e6 ⊢
        refine ⟨len_show (Nat.le_of_ble_eq_true rfl), fun p7 n7 => ?_⟩
        have s7 : Same H6 (L2.upd H6 p7 (.lst [.ref p6])) := same_new n7
        have e7 : L2.upd H6 p7 (.lst [.ref p6]) p7 = some (.lst [.ref p6]) := upd_same
        generalize L2.upd H6 p7 (.lst [.ref p6]) = H7 at s7 e7 ⊢
        have s57 := s6.trans s7
        have s37 := s4.trans (s5.trans s57)
        have e37 := s37 _ _ e3
        have l22 : ps3.length ≤ 22 := by
          rw [l3]
          have : tn * ys.length ≤ 1 * 11 := Nat.mul_le_mul (by omega) (by omega)
          omega
        refine ⟨_, rfl, Hd, _, rfl, .inl (.inl (.inl e37)), ?_⟩
        refine ⟨p7, _, [.ref p6], rfl, rfl, e7, ?_, ?_, ?_, fun p8 n8 => ?_⟩
        · rw [List.length_map]
          omega
        · rw [List.length_map]
          omega
        · rw [List.length_map, sizeLine_eq, List.length_singleton]
          omega
        rw [flat_one]
        have s8 : Same H7 (L2.upd H7 p8 (.lst (List.replicate (((ps3.map V.ref).length : Int).toNat) (.ref p6)))) := same_new n8
        have e8 : L2.upd H7 p8 (.lst (List.replicate (((ps3.map V.ref).length : Int).toNat) (.ref p6))) p8 = some (.lst (List.replicate (((ps3.map V.ref).length : Int).toNat) (.ref p6))) := upd_same
        generalize L2.upd H7 p8 (.lst (List.replicate (((ps3.map V.ref).length : Int).toNat) (.ref p6))) = H8 at s8 e8 ⊢
        rw [show ((ps3.map V.ref).length : Int).toNat = ps3.length by rw [List.length_map]; omega] at e8
        have s38 := s37.trans s8
        have d1 : Dp K H8 (.ref Hd) (empD ps3.length) := .lst (.inl (.inl (s38 _ _ e3))) (emp_dp ps3 fun p hp => s38 _ _ (N3 p hp).2)
        have d2 : Dp K H8 (.ref p8) (empD ps3.length) := by
          refine .lst (.inl (.inl e8)) ?_
          have := emp_dp (K := K) (H := H8) (List.replicate ps3.length p6) fun p hp => by
            rw [List.eq_of_mem_replicate hp]
            exact s8 _ _ (s7 _ _ e6)
          rw [List.map_replicate, List.length_replicate] at this
          exact this
        refine ⟨_, _, d1, d2, empD_shaped _, empD_shaped _, ?_⟩
        rw [empD_eqv]
        refine ⟨_, rfl, iteF ?_⟩
        have s48 : Same H4 H8 := s5.trans (s57.trans s8)
        refine ⟨_, rfl, .inl ⟨rfl, _, .inl (.inl (s48 _ _ e4))⟩, Fd, _, rfl, rfl, s48 _ _ e4, ?_⟩
        have b9 : But Fd H8 (L2.upd H8 Fd (.lst [])) := fun c o nb e => by rw [upd_ne nb]; exact e
        have e9 : L2.upd H8 Fd (.lst []) Fd = some (.lst []) := upd_same
        generalize L2.upd H8 Fd (.lst []) = H9 at b9 e9 ⊢
        have e39 := b9 _ _ nFH.symm (s38 _ _ e3)
        refine ⟨_, rfl, .inl ⟨rfl, _, .inl (.inl e39)⟩, _, rfl, Hd, _, _, rfl, rfl, e39, by rw [List.length_map, sizeLine_eq]; omega, ?_⟩
        have n1F : H1 Fd = none := by
          cases h : H1 Fd with
          | none => rfl
          | some o => rw [b3 _ _ nFH h] at n4; cases n4
        refine ⟨_, _, ps3 ++ [Fd], rfl, fun c o nb e => ?_, ?_, ?_, fun p hp => ?_⟩
        · rw [upd_ne nb]
          exact b9 _ _ (ne_of_none e n1F) (s38 _ _ (b3 _ _ nb e))
        · rw [upd_same, List.map_append]
          rfl
        · rw [List.length_append, List.length_singleton, l3]
          omega
        · rcases List.mem_append.mp hp with h | h
          · obtain ⟨q1, q2⟩ := N3 p h
            have npH : p ≠ Hd := fun z => hHd (by rw [← z]; exact q1)
            refine ⟨q1, ?_⟩
            rw [upd_ne npH]
            exact b9 _ _ (ne_of_none q2 n4) (s38 _ _ q2)
          · rw [List.mem_singleton.mp h]
            refine ⟨n1F, ?_⟩
            rw [upd_ne nFH]
            exact e9
      · rintro σ H3 ⟨y1, y2, ps3, rfl, b3, e3, l3, N3⟩
        exact ⟨_, _, _, ps3, rfl, b3, e3, by rw [l3, Nat.succ_mul], N3⟩
    · rintro σ H2 ⟨y1, y2, y3, ps, rfl, b2, e2, l2, N2⟩
      exact k H2 (fun c o e => b2 _ _ (ne_of_none e nH) (s1 _ _ e))

end
end Lf

set_option Elab.async false
set_option linter.all false
set_option maxRecDepth 100000
set_option maxHeartbeats 4000000
/-! max of a tuple of two whole numbers; isinstance of a caught error and a tuple of classes. -/
namespace Lf
open PySem PySem.Spec PyProof.Rows L2
def rMaxT2 (K : PySem.W.Frag) : List V → Hp → VK → Prop := fun xs H Q => ∃ (p : Addr) (i j : Int), xs = [.ref p] ∧ SqT K H p [.int i, .int j] ∧ ∀ m : Int, i ≤ m → j ≤ m → Q (.int m) H
theorem call_maxT2 {X : Cx} (hc : X.calm = true) {k : Nat} (hr : Room k X.A) : CallR X (.builtin "max") (rMaxT2 X.K) := by
  intro pins s σ H xs us Q I r h
  obtain ⟨p, i, j, rfl, hS, q⟩ := h
  obtain ⟨its, rv, ht, _⟩ := I.tuple hS
  rw [Vals.ref1 r]
  have hu := hr.units
  have rd : ∃ as, ReadsAll s.heap its [PyData.int i, PyData.int j] as := by
    cases rv with
    | cons r1 rv =>
      cases rv with
      | cons r2 rv =>
        cases rv
        obtain ⟨t1, rfl⟩ := r1
        obtain ⟨t2, rfl⟩ := r2
        exact ⟨_, .cons (.int i t1) (.cons (.int j t2) .nil)⟩
  obtain ⟨as, rd⟩ := rd
  have al : PySem.W.AlikeAll [PyData.int i, PyData.int j] := by
    refine ⟨fun x hx y hy => ?_, fun x hx => ?_⟩
    · simp only [List.mem_cons, List.not_mem_nil, or_false] at hx hy
      rcases hx with rfl | rfl <;> rcases hy with rfl | rfl <;> rfl
    · simp only [List.mem_cons, List.not_mem_nil, or_false] at hx
      rcases hx with rfl | rfl <;> exact fun z => nomatch z
  refine PySem.W.max_tuple_data (x := .int i) (xs := [.int j]) (as := as) (I.ok.hd hc) ht (by simpa using rd) al (by simp only [PyData.depthAll, PyData.depth]; omega) fun n v h' tk bs hn rr hk => ?_
  have e : PySem.W.maxD (.int i) [PyData.int j] = .int (max i j) := PySem.W.maxD_ints i [j]
  rw [e] at rr
  cases rr with
  | int _ t => exact ⟨.int (max i j), H, I.kept hk, ⟨_, rfl⟩, q _ (by omega) (by omega)⟩
/-- isinstance(e, (C1, ..)), e the error that the suite holds -/
def rIsXT (K : PySem.W.Frag) (D a : Addr) (cls : Value) (d : Option Addr) : List V → Hp → VK → Prop := fun xs H Q => cls = .ref D ∧ (d = none ∨ ∃ (dd : Addr) (fs : List (Str × V)), d = some dd ∧ H dd = some (.xd fs)) ∧
  ∃ (tp : Addr) (cs : List V) (ws : List Value) (b : Bool), xs = [.ref a, .ref tp] ∧ H tp = some (.tup cs) ∧ Paired ClsV cs ws ∧ PySem.W.kitAny K (.ref D) ws = some b ∧ Q (.bl b) H
theorem call_isXT {X : Cx} {a D : Addr} {oe : Obj} {cls : Value} {d : Option Addr} {pn : List (Addr × Obj)} (C : ExcC X.K D) (hz : Zc cls d oe) (hf : ∃ vs, oe.data = .fields vs) : CallR (X.suite a ((a, oe) :: pn)) (.builtin "isinstance") (rIsXT X.K D a cls d) := by
  intro pins s σ H xs us Q I r h
  obtain ⟨ec, hd, tp, cs, ws, b, rfl, hT, hcv, e, q⟩ := h
  obtain ⟨u1, u2, rfl, r1, r2⟩ := vals2 r
  cases (show u2 = Value.ref tp from r2)
  cases (show u1 = Value.ref a from r1)
  obtain ⟨_, its, rv, o, h1, h2, n, h3⟩ := (show ObjOk X.prog X.w H s.heap tp (.tup cs) from I.hok tp _ hT)
  have e3 := ClsV.all hcv rv
  subst e3
  obtain ⟨oc, od0, dt, sl⟩ := o
  simp only at h2 h3
  subst h2 h3
  obtain ⟨hget, _⟩ := I.pin (a, oe) (List.mem_append.mpr (.inl List.mem_cons_self))
  obtain ⟨vs, hv⟩ := hf
  have J : ∃ od, PySem.W.InstAt s.heap a oe D od := by
    rcases hd with hd | ⟨dd, fs, hd, hH⟩
    · exact ⟨none, hget, by rw [hz.1, ec], by unfold PySem.W.notCls; rw [hv] <;> rfl, by rw [hz.2, hd]; trivial⟩
    · have hx : ObjOk X.prog X.w H s.heap dd (.xd fs) := I.hok dd _ hH
      obtain ⟨o, ho⟩ := objOk_get hx
      exact ⟨some o, hget, by rw [hz.1, ec], by unfold PySem.W.notCls; rw [hv] <;> rfl, by rw [hz.2, hd]; exact ho⟩
  obtain ⟨od, J⟩ := J
  exact PySem.W.kia_tup (kit_own (od := od) C) I.kIn J h1 e (fun z => nomatch z) fun tk => ⟨.bl b, H, I.kept (t' := tk) fun _ _ z => z, rfl, q⟩
end Lf

set_option Elab.async false
set_option linter.all false
set_option maxRecDepth 100000
set_option maxHeartbeats 4000000
/-! isinstance of a caught error, the part K given. -/
namespace Lf
open PySem PySem.Spec PyProof.Rows L2
theorem call_isXK {X : Cx} {K : PySem.W.Frag} {a D : Addr} {oe : Obj} {cls : Value} {d : Option Addr} {pn : List (Addr × Obj)} (C : ExcC K D) (hz : Zc cls d oe) (hf : ∃ vs, oe.data = .fields vs) (hK : X.K = K := by rfl) : CallR (X.suite a ((a, oe) :: pn)) (.builtin "isinstance") (rIsX K D a cls d) := by
  subst hK
  exact call_isX C hz hf
theorem call_isXTK {X : Cx} {K : PySem.W.Frag} {a D : Addr} {oe : Obj} {cls : Value} {d : Option Addr} {pn : List (Addr × Obj)} (C : ExcC K D) (hz : Zc cls d oe) (hf : ∃ vs, oe.data = .fields vs) (hK : X.K = K := by rfl) : CallR (X.suite a ((a, oe) :: pn)) (.builtin "isinstance") (rIsXT K D a cls d) := by
  subst hK
  exact call_isXT C hz hf
end Lf

set_option Elab.async false
set_option linter.all false
set_option maxRecDepth 100000
set_option maxHeartbeats 4000000
/-! `!=` of two lists of two things each, equal one by one. -/
namespace Lf
open PySem PySem.Spec PyProof.Rows L2
open PySem.SeqAt PySem.MeetsSeq PySem.MeetsSeq2 PySem.MeetsSeq3
section
variable {P : Program} {w : World}
/-- two things, as a list's object holds them -/
def two (d : Option Addr) (sl : Array (Option Value)) (n : Nat) (x y : Value) : Obj := { cls := .type "list", dict := d, data := .seq #[x, y] n, slots := sl }
theorem ne_end (a b : Addr) (d e : Option Addr) (sl tl : Array (Option Value)) (m n : Nat) (x y u v : Value) :
    MeetsIn P w (Builtin.«list.__eq__.loop» ⟨[.ref a, .ref b, rawInt 2, rawInt 3], []⟩) (fun _ R s => s.heap.get? a = some (two d sl m x y) ∧ s.heap.get? b = some (two e tl n u v) ∧ R (.ok (.ret (.bool false))) s) := by
  rintro A R ⟨h1, h2, h3, h4, h5⟩ ⟨la, lb, done⟩
  unfold two at la lb
  wp_walk using AutoSeq1.wpAny_loadPart' la, AutoSeq1.wpAny_loadPart' lb
  exact done
/-- the second things are equal -/
theorem ne_last {i : Nat} (at1 : i = 1) (a b : Addr) (d e : Option Addr) (sl tl : Array (Option Value)) (m n : Nat) (x y u v : Value) :
    MeetsIn P w (Builtin.«list.__eq__.loop» ⟨[.ref a, .ref b, rawInt i, rawInt 3], []⟩) (fun A R s => s.heap.get? a = some (two d sl m x y) ∧ s.heap.get? b = some (two e tl n u v) ∧ EqP P w A.in1 s y v true ∧ R (.ok (.ret (.bool false))) s) := by
  rintro A R ⟨h1, h2, h3, h4, h5⟩ ⟨la, lb, e2, done⟩
  have go := ne_end (P := P) (w := w) a b d e sl tl m n x y u v A R _ ⟨la, lb, done⟩
  unfold two at la lb
  wp_walk using AutoSeq1.wpAny_loadPart' la, AutoSeq1.wpAny_loadPart' lb
  subst at1
  refine wpAny_bind (e2 _ _ ?_)
  wp_walk
  exact ⟨plainId_quiet plain_eq_loop _, codeAny_builtin entry_eq_loop (by rw [Around.under_plainId plain_eq_loop _]; exact go)⟩
/-- both are -/
theorem ne_first {i : Nat} (at0 : i = 0) (a b : Addr) (d e : Option Addr) (sl tl : Array (Option Value)) (m n : Nat) (x y u v : Value) :
    MeetsIn P w (Builtin.«list.__eq__.loop» ⟨[.ref a, .ref b, rawInt i, rawInt 3], []⟩) (fun A R s => s.heap.get? a = some (two d sl m x y) ∧ s.heap.get? b = some (two e tl n u v) ∧ EqP P w A.in1 s x u true ∧ EqP P w A.in1 s y v true ∧ R (.ok (.ret (.bool false))) s) := by
  rintro A R ⟨h1, h2, h3, h4, h5⟩ ⟨la, lb, e1, e2, done⟩
  have go := ne_last (P := P) (w := w) (i := 1) rfl a b d e sl tl m n x y u v A R _ ⟨la, lb, e2, done⟩
  unfold two at la lb
  wp_walk using AutoSeq1.wpAny_loadPart' la, AutoSeq1.wpAny_loadPart' lb
  subst at0
  refine wpAny_bind (e1 _ _ ?_)
  wp_walk
  exact ⟨plainId_quiet plain_eq_loop _, codeAny_builtin entry_eq_loop (by rw [Around.under_plainId plain_eq_loop _]; exact go)⟩
theorem ne_lists (a b : Addr) (d e : Option Addr) (sl tl : Array (Option Value)) (m n : Nat) (x y u v : Value) :
    MeetsIn P w (Builtin.«list.__ne__» ⟨[.ref a, .ref b], []⟩) (fun A R s => s.heap.get? a = some (two d sl m x y) ∧ s.heap.get? b = some (two e tl n u v) ∧ EqP P w A.in1 s x u true ∧ EqP P w A.in1 s y v true ∧ R (.ok (.ret (.bool false))) s) := by
  rintro A R ⟨h1, h2, h3, h4, h5⟩ ⟨la, lb, e1, e2, done⟩
  have go := ne_first (P := P) (w := w) (i := 0) rfl a b d e sl tl m n x y u v A R _ ⟨la, lb, e1, e2, done⟩
  have kind := AutoSeq1.sub_list_list
  unfold two at la lb
  wp_walk using AutoSeq1.wpAny_loadPart' la, AutoSeq1.wpAny_loadPart' lb
  exact ⟨plainId_quiet plain_eq_loop _, codeAny_builtin entry_eq_loop (by rw [Around.under_plainId plain_eq_loop _]; exact go)⟩
/-- a != b of two lists of two -/
theorem rc_ne2 {A : Around} {s : Shared} {a b : Addr} {x y u v : Value} (ha : s.heap.IsList a #[x, y]) (hb : s.heap.IsList b #[u, v]) (room : A.units < cLine) (e1 : EqP P w A.in1 s x u true) (e2 : EqP P w A.in1 s y v true) (E Q : Value → Shared → Prop) (q : Q (.bool false) s) : wpAny (model P w) A (richCompare .NotEq (.ref a) (.ref b)) Q E s := by
  obtain ⟨⟨ca, da, ta, sa⟩, oa, ka, na, fa⟩ := id ha
  obtain ⟨⟨cb, db, tb, sb⟩, ob, kb, nb, fb⟩ := id hb
  dsimp only at ka fa kb fb
  subst ka fa kb fb
  have la : s.TypeIs (.ref a) "list" := ⟨_, oa, rfl⟩
  have lb : s.TypeIs (.ref b) "list" := ⟨_, ob, rfl⟩
  exact wpAny_richCompare_same_room (op := .NotEq) la lb F.slot_list_ne (call_meetsIn F.slot_list_ne la F.entry_list_ne (F.args_list_ne_2 _ _) (ne_lists a b da db sa sb na nb x y u v)
    ⟨oa, ob, e1, e2, (fun z => nomatch z), q⟩) room
end
section
variable {X : Cx}
/-- a != b, two lists of two things each, equal one by one -/
def rNe2 (K : PySem.W.Frag) : R2 := fun x y H Q => ∃ a b x1 x2 y1 y2 n, x = .ref a ∧ y = .ref b ∧ SqL K H a [x1, x2] ∧ SqL K H b [y1, y2] ∧ n ≤ 60 ∧ EqV K H n x1 y1 ∧ EqV K H n x2 y2 ∧ Q (.bl false) H
theorem op_ne2 {K : PySem.W.Frag} (hu : X.A.units + 64 < cLine) (hK : X.K = K := by rfl) : OpR X (compareOp .NotEq) (rNe2 K) := by
  subst hK
  rintro pins s σ H x y v u Q I rx ry ⟨a, b, x1, x2, y1, y2, n, rfl, rfl, ha, hb, hn, h1, h2, q⟩
  cases (rx : v = _)
  cases (ry : u = _)
  obtain ⟨us, ru, pu, _⟩ := I.list ha
  obtain ⟨vs, rv, pv, _⟩ := I.list hb
  cases ru with
  | cons a1 t1 =>
    cases t1 with
    | cons a2 t2 =>
      cases t2
      cases rv with
      | cons b1 r1 =>
        cases r1 with
        | cons b2 r2 =>
          cases r2
          have room : X.A.in1.units + n < cLine := by show X.A.units + 1 + n < cLine; omega
          exact rc_ne2 pu.isList pv.isList (by omega) (eqV_run I n X.A.in1 room _ _ _ _ h1 a1 b1) (eqV_run I n X.A.in1 room _ _ _ _ h2 a2 b2) _ _ ⟨.bl false, H, I, rfl, q⟩
end
end Lf

set_option Elab.async false
set_option linter.all false
set_option maxRecDepth 100000
set_option maxHeartbeats 4000000
/-! `!=` of two lists of as many things, equal one by one. -/
namespace Lf
open PySem PySem.Spec PyProof.Rows L2
open PySem.SeqAt PySem.MeetsSeq PySem.MeetsSeq2 PySem.MeetsSeq3
section
variable {P : Program} {w : World}
/-- things, as a list's object holds them -/
def lso (d : Option Addr) (sl : Array (Option Value)) (n : Nat) (us : Array Value) : Obj := { cls := .type "list", dict := d, data := .seq us n, slots := sl }
theorem plenN {α β : Type} {R : α → β → Prop} : ∀ {xs : List α} {ys : List β}, Paired R xs ys → xs.length = ys.length
  | _, _, .nil => rfl
  | _, _, .cons _ t => congrArg Nat.succ (plenN t)
theorem ne_from (a b : Addr) (d e : Option Addr) (sl tl : Array (Option Value)) (m n : Nat) (us ws : Array Value) (hl : us.size = ws.size) (hs : us.size < 2 ^ 30) : ∀ r i : Nat, i + r = us.size →
    MeetsIn P w (Builtin.«list.__eq__.loop» ⟨[.ref a, .ref b, rawInt i, rawInt 3], []⟩) (fun A R s => s.heap.get? a = some (lso d sl m us) ∧ s.heap.get? b = some (lso e tl n ws) ∧ (∀ j (h1 : j < us.size) (h2 : j < ws.size), EqP P w A.in1 s us[j] ws[j] true) ∧ R (.ok (.ret (.bool false))) s)
  | 0, i, hi => by
    rintro A R ⟨h1, h2, h3, h4, h5⟩ ⟨la, lb, _, done⟩
    unfold lso at la lb
    wp_walk using AutoSeq1.wpAny_loadPart' la, AutoSeq1.wpAny_loadPart' lb
    rw [Int.toNat_natCast, Array.getElem?_eq_none (show us.size ≤ i by omega)]
    wp_walk using AutoSeq1.wpAny_loadPart' la, AutoSeq1.wpAny_loadPart' lb
    show R (.ok (.ret (Value.bool (us.size != ws.size)))) _
    rw [hl, show (ws.size != ws.size) = false by simp]
    exact done
  | r + 1, i, hi => by
    rintro A R ⟨h1, h2, h3, h4, h5⟩ ⟨la, lb, eq, done⟩
    have go := ne_from a b d e sl tl m n us ws hl hs r (i + 1) (by omega) A R _ ⟨la, lb, eq, done⟩
    unfold lso at la lb
    wp_walk using AutoSeq1.wpAny_loadPart' la, AutoSeq1.wpAny_loadPart' lb
    have l1 : i < us.size := by omega
    have l2 : i < ws.size := by omega
    rw [Int.toNat_natCast, Array.getElem?_eq_getElem l1, Array.getElem?_eq_getElem l2]
    refine wpAny_bind (eq i l1 l2 _ _ ?_)
    wp_walk
    exact ⟨plainId_quiet plain_eq_loop _, codeAny_builtin entry_eq_loop (by rw [Around.under_plainId plain_eq_loop _]; exact go)⟩
theorem ne_alls (a b : Addr) (d e : Option Addr) (sl tl : Array (Option Value)) (m n : Nat) (us ws : Array Value) (hl : us.size = ws.size) (hs : us.size < 2 ^ 30) :
    MeetsIn P w (Builtin.«list.__ne__» ⟨[.ref a, .ref b], []⟩) (fun A R s => s.heap.get? a = some (lso d sl m us) ∧ s.heap.get? b = some (lso e tl n ws) ∧ (∀ j (h1 : j < us.size) (h2 : j < ws.size), EqP P w A.in1 s us[j] ws[j] true) ∧ R (.ok (.ret (.bool false))) s) := by
  rintro A R ⟨h1, h2, h3, h4, h5⟩ ⟨la, lb, eq, done⟩
  have go := ne_from (P := P) (w := w) a b d e sl tl m n us ws hl hs us.size 0 (by omega) A R _ ⟨la, lb, eq, done⟩
  have kind := AutoSeq1.sub_list_list
  unfold lso at la lb
  wp_walk using AutoSeq1.wpAny_loadPart' la, AutoSeq1.wpAny_loadPart' lb
  exact ⟨plainId_quiet plain_eq_loop _, codeAny_builtin entry_eq_loop (by rw [Around.under_plainId plain_eq_loop _]; exact go)⟩
/-- a != b of two lists of equal things -/
theorem rc_neN {A : Around} {s : Shared} {a b : Addr} {us ws : Array Value} (ha : s.heap.IsList a us) (hb : s.heap.IsList b ws) (room : A.units < cLine) (hl : us.size = ws.size) (hs : us.size < 2 ^ 30) (eq : ∀ j (h1 : j < us.size) (h2 : j < ws.size), EqP P w A.in1 s us[j] ws[j] true) (E Q : Value → Shared → Prop) (q : Q (.bool false) s) : wpAny (model P w) A (richCompare .NotEq (.ref a) (.ref b)) Q E s := by
  obtain ⟨⟨ca, da, ta, sa⟩, oa, ka, na, fa⟩ := id ha
  obtain ⟨⟨cb, db, tb, sb⟩, ob, kb, nb, fb⟩ := id hb
  dsimp only at ka fa kb fb
  subst ka fa kb fb
  have la : s.TypeIs (.ref a) "list" := ⟨_, oa, rfl⟩
  have lb : s.TypeIs (.ref b) "list" := ⟨_, ob, rfl⟩
  exact wpAny_richCompare_same_room (op := .NotEq) la lb F.slot_list_ne (call_meetsIn F.slot_list_ne la F.entry_list_ne (F.args_list_ne_2 _ _) (ne_alls a b da db sa sb na nb us ws hl hs)
    ⟨oa, ob, eq, (fun z => nomatch z), q⟩) room
end
section
variable {X : Cx}
/-- a != b, two lists of things, equal one by one -/
def rNeN (K : PySem.W.Frag) : R2 := fun x y H Q => ∃ a b xs ys n, x = .ref a ∧ y = .ref b ∧ SqL K H a xs ∧ SqL K H b ys ∧ n ≤ 60 ∧ xs.length < 2 ^ 30 ∧ Paired (EqV K H n) xs ys ∧ Q (.bl false) H
theorem op_neN {K : PySem.W.Frag} (hu : X.A.units + 64 < cLine) (hK : X.K = K := by rfl) : OpR X (compareOp .NotEq) (rNeN K) := by
  subst hK
  rintro pins s σ H x y v u Q I rx ry ⟨a, b, xs, ys, n, rfl, rfl, ha, hb, hn, hl, hp, q⟩
  cases (rx : v = _)
  cases (ry : u = _)
  obtain ⟨us, ru, pu, _⟩ := I.list ha
  obtain ⟨vs, rv, pv, _⟩ := I.list hb
  have room : X.A.in1.units + n < cLine := by show X.A.units + 1 + n < cLine; omega
  have it := items_run (fun x y v u h a b => eqV_run I n X.A.in1 room x y v u h a b) hp ru rv
  have l1 := ru.length
  have l2 := rv.length
  have l3 := plenN hp
  refine rc_neN pu.isList pv.isList (by omega) ?_ ?_ (fun j h1 h2 => ?_) _ _ ⟨.bl false, H, I, rfl, q⟩
  · show us.length = vs.length
    omega
  · show us.length < 2 ^ 30
    omega
  · exact it j h1 h2
end
end Lf

set_option Elab.async false
set_option linter.all false
set_option maxRecDepth 100000
set_option maxHeartbeats 4000000
/-! `==` of two lists of as many things, equal one by one. -/
namespace Lf
open PySem PySem.Spec PyProof.Rows L2
open PySem.SeqAt PySem.MeetsSeq PySem.MeetsSeq2 PySem.MeetsSeq3
section
variable {P : Program} {w : World}
theorem eq_from (a b : Addr) (d e : Option Addr) (sl tl : Array (Option Value)) (m n : Nat) (us ws : Array Value) (hl : us.size = ws.size) (hs : us.size < 2 ^ 30) : ∀ r i : Nat, i + r = us.size →
    MeetsIn P w (Builtin.«list.__eq__.loop» ⟨[.ref a, .ref b, rawInt i, rawInt 2], []⟩) (fun A R s => s.heap.get? a = some (lso d sl m us) ∧ s.heap.get? b = some (lso e tl n ws) ∧ (∀ j (h1 : j < us.size) (h2 : j < ws.size), EqP P w A.in1 s us[j] ws[j] true) ∧ R (.ok (.ret (.bool true))) s)
  | 0, i, hi => by
    rintro A R ⟨h1, h2, h3, h4, h5⟩ ⟨la, lb, _, done⟩
    unfold lso at la lb
    wp_walk using AutoSeq1.wpAny_loadPart' la, AutoSeq1.wpAny_loadPart' lb
    rw [Int.toNat_natCast, Array.getElem?_eq_none (show us.size ≤ i by omega)]
    wp_walk using AutoSeq1.wpAny_loadPart' la, AutoSeq1.wpAny_loadPart' lb
    show R (.ok (.ret (Value.bool (us.size == ws.size)))) _
    rw [hl, show (ws.size == ws.size) = true by simp]
    exact done
  | r + 1, i, hi => by
    rintro A R ⟨h1, h2, h3, h4, h5⟩ ⟨la, lb, eq, done⟩
    have go := eq_from a b d e sl tl m n us ws hl hs r (i + 1) (by omega) A R _ ⟨la, lb, eq, done⟩
    unfold lso at la lb
    wp_walk using AutoSeq1.wpAny_loadPart' la, AutoSeq1.wpAny_loadPart' lb
    have l1 : i < us.size := by omega
    have l2 : i < ws.size := by omega
    rw [Int.toNat_natCast, Array.getElem?_eq_getElem l1, Array.getElem?_eq_getElem l2]
    refine wpAny_bind (eq i l1 l2 _ _ ?_)
    wp_walk
    exact ⟨plainId_quiet plain_eq_loop _, codeAny_builtin entry_eq_loop (by rw [Around.under_plainId plain_eq_loop _]; exact go)⟩
theorem eq_alls (a b : Addr) (d e : Option Addr) (sl tl : Array (Option Value)) (m n : Nat) (us ws : Array Value) (hl : us.size = ws.size) (hs : us.size < 2 ^ 30) :
    MeetsIn P w (Builtin.«list.__eq__» ⟨[.ref a, .ref b], []⟩) (fun A R s => s.heap.get? a = some (lso d sl m us) ∧ s.heap.get? b = some (lso e tl n ws) ∧ (∀ j (h1 : j < us.size) (h2 : j < ws.size), EqP P w A.in1 s us[j] ws[j] true) ∧ R (.ok (.ret (.bool true))) s) := by
  rintro A R ⟨h1, h2, h3, h4, h5⟩ ⟨la, lb, eq, done⟩
  have go := eq_from (P := P) (w := w) a b d e sl tl m n us ws hl hs us.size 0 (by omega) A R _ ⟨la, lb, eq, done⟩
  have kind := AutoSeq1.sub_list_list
  unfold lso at la lb
  wp_walk using AutoSeq1.wpAny_loadPart' la, AutoSeq1.wpAny_loadPart' lb
  exact ⟨plainId_quiet plain_eq_loop _, codeAny_builtin entry_eq_loop (by rw [Around.under_plainId plain_eq_loop _]; exact go)⟩
/-- a == b of two lists of equal things -/
theorem rc_eqN {A : Around} {s : Shared} {a b : Addr} {us ws : Array Value} (ha : s.heap.IsList a us) (hb : s.heap.IsList b ws) (room : A.units < cLine) (hl : us.size = ws.size) (hs : us.size < 2 ^ 30) (eq : ∀ j (h1 : j < us.size) (h2 : j < ws.size), EqP P w A.in1 s us[j] ws[j] true) (E Q : Value → Shared → Prop) (q : Q (.bool true) s) : wpAny (model P w) A (richCompare .Eq (.ref a) (.ref b)) Q E s := by
  obtain ⟨⟨ca, da, ta, sa⟩, oa, ka, na, fa⟩ := id ha
  obtain ⟨⟨cb, db, tb, sb⟩, ob, kb, nb, fb⟩ := id hb
  dsimp only at ka fa kb fb
  subst ka fa kb fb
  have la : s.TypeIs (.ref a) "list" := ⟨_, oa, rfl⟩
  have lb : s.TypeIs (.ref b) "list" := ⟨_, ob, rfl⟩
  exact wpAny_richCompare_same_room (op := .Eq) la lb F.slot_list_eq (call_meetsIn F.slot_list_eq la F.entry_list_eq (F.args_list_eq_2 _ _) (eq_alls a b da db sa sb na nb us ws hl hs)
    ⟨oa, ob, eq, (fun z => nomatch z), q⟩) room
end
section
variable {X : Cx}
/-- a == b, two lists of things, equal one by one -/
def rEqN (K : PySem.W.Frag) : R2 := fun x y H Q => ∃ a b xs ys n, x = .ref a ∧ y = .ref b ∧ SqL K H a xs ∧ SqL K H b ys ∧ n ≤ 60 ∧ xs.length < 2 ^ 30 ∧ Paired (EqV K H n) xs ys ∧ Q (.bl true) H
theorem op_eqN {K : PySem.W.Frag} (hu : X.A.units + 64 < cLine) (hK : X.K = K := by rfl) : OpR X (compareOp .Eq) (rEqN K) := by
  subst hK
  rintro pins s σ H x y v u Q I rx ry ⟨a, b, xs, ys, n, rfl, rfl, ha, hb, hn, hl, hp, q⟩
  cases (rx : v = _)
  cases (ry : u = _)
  obtain ⟨us, ru, pu, _⟩ := I.list ha
  obtain ⟨vs, rv, pv, _⟩ := I.list hb
  have room : X.A.in1.units + n < cLine := by show X.A.units + 1 + n < cLine; omega
  have it := items_run (fun x y v u h a b => eqV_run I n X.A.in1 room x y v u h a b) hp ru rv
  have l1 := ru.length
  have l2 := rv.length
  have l3 := plenN hp
  refine rc_eqN pu.isList pv.isList (by omega) ?_ ?_ (fun j h1 h2 => ?_) _ _ ⟨.bl true, H, I, rfl, q⟩
  · show us.length = vs.length
    omega
  · show us.length < 2 ^ 30
    omega
  · exact it j h1 h2
end
end Lf

set_option Elab.async false
set_option linter.all false
set_option maxRecDepth 100000
set_option maxHeartbeats 4000000
set_option exponentiation.threshold 3000
namespace Lf
open PySem PySem.Spec PyProof.Rows L2
theorem dq_self {K : PySem.W.Frag} {H : Hp} {v : V} {d : PyData} (h : Dq K H v d) : EqV K H 1 v v := by
  cases h with
  | dp h n =>
    cases h with
    | tup _ _ => exact .inr (.inl ⟨_, rfl, rfl⟩)
    | lst _ _ => exact .inr (.inl ⟨_, rfl, rfl⟩)
    | _ => exact .inl ⟨rfl, rfl⟩
  | dic h p => exact .inr (.inl ⟨_, rfl, rfl⟩)
section
variable {P : Program} {w : World} {K : PySem.W.Frag} {mg : Str → Option Value} {base : Heap}

/-- tree, of what is no dough's name -/
def sp_treeX (K : PySem.W.Frag) (C CS CD D : Addr) : Sp := fun vs H Q E => ∃ (x : Addr) (v : V) (y : PyData) (ss : List Sf) (ds : List Dm), vs = [.ref x, v] ∧ BkO K H C CS CD x ss ds ∧ (ds.map (·.z)).Nodup ∧ Dq K H v y ∧ (∀ d ∈ ds, y ≠ .str d.z) ∧ ∀ H' dx, Same H H' → H dx = none → H' dx = some (.xd [("who", v)]) → E (.ref D) (some dx) H'
theorem ok_treeX {C CS CD D f fm ft : Addr} {fd fdm fdt : FuncData} (F : Fun K "tree" "tree" s_tree f fd) (Md : MetG P w K mg base (L2.CX P w) 3 C "dough" fm fdm ["self", "name"] (sp_bdoughX K C CS CD D)) (Mn : MetG P w K mg base CX0 1 CD "name" ft fdt ["self"] (sp_dname K CD)) (C_add_lines : Cal P w K mg base CX0 (8 + 12) "add_lines" ["book", "name", "blanks", "shown", "lines"] (sp_add K C CS CD 12)) : FnG P w K mg base (L2.CX P w) 21 f fd ["book", "dough"] (sp_treeX K C CS CD D) := by
  refine GfunX F sc_tree (fun vs H Q E h => ?_) (fun cdv A outer s H vs Q E hg hr h => ?_)
  · obtain ⟨x, v, y, ss, ds, rfl, _⟩ := h
    rfl
  · obtain ⟨x, v, y, ss, ds, rfl, bk, nd, hv, no, k⟩ := h
    refine ⟨_, (pss_cons (ps_set (i := 2) sc_tree.nd rfl (.inl rfl) (pe_lst (pa_cons (pe_meG0 (pe_meG (pv 0) Md (hr.mono (by decide)) hg (fun σ => passAt (takes_of rfl rfl rfl rfl) σ) (pa_cons (pv 1) pa_nil)) Mn (hr.mono (by decide)) hg (fun _ => pass_no)) pa_nil)))
      (pss_cons (ps_expr (pe_g C_add_lines (hr.mono (by decide)) hg (pa_cons (pv 0) (pa_cons (pv 1) (pa_cons pe_str (pa_cons (pe_lst pa_nil) (pa_cons (pv 2) pa_nil)))))))
      (pss_one (ps_ret (pv 2))))), ?_⟩
    obtain ⟨dx, ps, pd, I, kss, kds, h1, h2, h3, h4, h5, h6⟩ := id bk
    exact ⟨_, rfl, x, _, _, rfl, h1, rfl, _, rfl, x, v, y, ss, ds, rfl, bk, nd, hv, fun d hd e => absurd e (no d hd), fun _ => k⟩

/-! ### _law_is_refused -/
theorem sc__law_is_refused : FnScope ["_law_made_here", "_law_thing", "_law_found", "e"] ["_law_made_here", "_law_thing"] (defScope s__law_is_refused) := ⟨rfl, rfl, rfl, by decide +kernel, rfl, by decide +kernel, by decide +kernel⟩
def sp_isref (K : PySem.W.Frag) (C CS CD : Addr) : Sp := fun vs H Q _ => ∃ (x : Addr) (v : V) (y : PyData) (ss : List Sf) (ds : List Dm), vs = [.ref x, v] ∧ BkO K H C CS CD x ss ds ∧ (ds.map (·.z)).Nodup ∧ Dq K H v y ∧ (∀ d ∈ ds, y ≠ .str d.z) ∧ ∀ H', Same H H' → Q (.bl true) H'
theorem ok_isref {C CS CD cL f : Addr} {fd : FuncData} {DNoName fNoName ccNoName cdNoName : Addr} {fdNoName : FuncData} (M : Blt mg) (Mx : Bltx mg) (TN : XTn P K mg "NoName" "NoName.__init__" ["who"] sx_NoName DNoName fNoName fdNoName ccNoName cdNoName) (gL : mg "LoafError" = some (.ref cL)) (mL : PySem.W.exmOne K (.ref DNoName) (.ref cL) = some true)
    (F : Fun K "_law_is_refused" "_law_is_refused" s__law_is_refused f fd) (C_tree : Cal P w K mg base (L2.CX P w) 21 "tree" ["book", "dough"] (sp_treeX K C CS CD DNoName)) : FnG P w K mg base CX0 22 f fd ["_law_made_here", "_law_thing"] (sp_isref K C CS CD) := by
  refine Gfun F sc__law_is_refused (fun vs H Q E h => ?_) (fun cdv A outer s H vs Q E hg hr h => ?_)
  · obtain ⟨x, v, y, ss, ds, rfl, _⟩ := h
    rfl
  · obtain ⟨x, v, y, ss, ds, rfl, bk, nd, hv, no, k⟩ := h
    refine ⟨_, (pss_cons (ps_set (i := 2) sc__law_is_refused.nd rfl (.inl rfl) pe_non)
      (pss_cons (ps_try_as (i := 3) (n := "e") (c := .ref cL) (Wout := fun _ _ _ _ => False) rfl rfl sc__law_is_refused.nd rfl rfl ⟨rfl, by decide, Or.inl gL⟩ takes0
        (fun W pn xe tk _ => (pss_one (ps_expr (pe_gS C_tree (hr.mono (by decide)) hg (fun σ => passAt tk σ) (pa_cons (pv 0) (pa_cons (pv 1) pa_nil))))))
        (fun a oe cls d pn hz hf => (pss_one (ps_set (i := 2) sc__law_is_refused.nd rfl (.inl rfl) (pe_lst (pa_cons (pe_callB (call_isXK (K := K) TN.E hz hf) rfl Mx.isinstance bt_isinstance (pa_cons (pv 3) (pa_cons (pe_glob (v := .ref DNoName) rfl TN.g rfl) pa_nil))) (pa_cons (pe_ifExp (pt_val (pe_callB (call_isXK (K := K) TN.E hz hf) rfl Mx.isinstance bt_isinstance (pa_cons (pv 3) (pa_cons (pe_glob (v := .ref DNoName) rfl TN.g rfl) pa_nil)))) (pe_xf TN.X (TN.no _ (by simp)) hz hf (pv 3)) pe_non) pa_nil)))))))
      (pss_one (ps_ret (pe_cmpR (op_eqN (K := K) hr.units) (pv 2) (pe_lst (pa_cons pe_bl (pa_cons (pv 1) pa_nil))) (nomark _)))))), ?_⟩
    have kN : PySem.W.kitOne K (.ref DNoName) (.ref DNoName) = some true := by unfold PySem.W.kitOne; rw [if_pos (by simp)]
    refine ⟨_, rfl, _, rfl, x, v, y, ss, ds, rfl, bk, nd, hv, no, fun H2 d2 s2 n2 e2 => ?_⟩
    refine ⟨true, mL, fun _ a ha => ?_, fun z => Bool.noConfusion z⟩
    refine ⟨_, rfl, rfl, .inr ⟨d2, _, rfl, e2⟩, .ref DNoName, .ref DNoName, true, rfl, fun u r => r, kN, ?_⟩
    refine ⟨_, rfl, rfl, .inr ⟨d2, _, rfl, e2⟩, .ref DNoName, .ref DNoName, true, rfl, fun u r => r, kN, _, rfl, iteT ?_⟩
    refine ⟨_, rfl, rfl, rfl, d2, _, _, rfl, e2, rfl, len_show (Nat.le_of_ble_eq_true rfl), fun l3 n3 => ?_⟩
    have s3 : Same H2 (L2.upd H2 l3 (.lst [.bl true, v])) := same_new n3
    have e3 : L2.upd H2 l3 (.lst [.bl true, v]) l3 = some (.lst [.bl true, v]) := upd_same
    generalize L2.upd H2 l3 (.lst [.bl true, v]) = H3 at s3 e3 ⊢
    refine ⟨_, rfl, _, rfl, len_show (Nat.le_of_ble_eq_true rfl), fun l4 n4 => ?_⟩
    have s4 : Same H3 (L2.upd H3 l4 (.lst [.bl true, v])) := same_new n4
    have e4 : L2.upd H3 l4 (.lst [.bl true, v]) l4 = some (.lst [.bl true, v]) := upd_same
    generalize L2.upd H3 l4 (.lst [.bl true, v]) = H4 at s4 e4 ⊢
    have s04 := s2.trans (s3.trans s4)
    exact ⟨l3, l4, _, _, 1, rfl, rfl, .inl (.inl (s4 _ _ e3)), .inl (.inl e4), by decide, Nat.lt_of_le_of_lt (Nat.le_of_ble_eq_true rfl : _ ≤ 2) (by decide), .cons (.inl ⟨rfl, rfl⟩) (.cons (dq_self (hv.same s04)) .nil), k H4 s04⟩

end
end Lf

set_option Elab.async false
set_option linter.all false
set_option maxRecDepth 100000
set_option maxHeartbeats 4000000
set_option exponentiation.threshold 3000
namespace Lf
open PySem PySem.Spec PyProof.Rows L2
def gDef {α : Type} (us ds _ : List α) : List α := us ++ ds
/-- a model whose parts are of one of two sizes has room for small rows besides -/
theorem SzG.room {ds : List Dm} (h : SzG ds) (d10 : ds.length ≤ 10) : ∃ t b n, Szs t b n ∧ ds.length ≤ n ∧ (∀ d ∈ ds, ∀ r ∈ d.rs, PtC t b r.2) ∧ 9 ≤ t ∧ 1 ≤ b := by
  obtain ⟨g, pc, l3⟩ := h
  cases g with
  | false => exact ⟨30, 6, 10, ⟨by decide, by decide, by decide, by decide, by decide⟩, d10, pc, by decide, by decide⟩
  | true => exact ⟨999999, 999999, 3, ⟨by decide, by decide, by decide, by decide, by decide⟩, l3 rfl, pc, by decide, by decide⟩
/-- a dough put with one row, of a stuff -/
theorem MdOk.bare {ss : List Sf} {ds : List Dm} {d0 d : Dm} {s : Sf} {k : Int} (M : MdOk ss ds) (S : SzG ds) (h0 : d0 ∈ ds) (ez : d.z = d0.z) (en : d.n = 0) (hs : s ∈ ss) (er : d.rs = [(s.z, (k, 1))]) (k1 : 1 ≤ k) (k9 : k ≤ 9) : MdOk ss (putD ds d) := by
  have ndd := M.bk.ndd
  have hm : d.z ∈ ds.map (·.z) := by
    rw [ez]
    exact List.mem_map_of_mem h0
  obtain ⟨t, b, n, Z, hn, pc, t9, b1⟩ := S.room M.d10
  have ok0 := M.dg d0 h0
  have lo : IsF (k, (1 : Int)) := m1_f k
  have pd : ∀ r ∈ d.rs, PtC t b r.2 := fun r hr => by
    rw [er] at hr
    rw [List.mem_singleton.mp hr]
    exact ⟨lo, by show 0 < k; omega, by show k ≤ (t : Int); omega, by show (1 : Int) ≤ (b : Int); omega⟩
  have okd : DghOk d.z d.rs d.n := by
    refine ⟨by rw [ez]; exact ok0.nm, ⟨fun r hr => ?_, by rw [er]; exact Nat.le_refl 1, by rw [er]; exact Nat.le_of_ble_eq_true rfl, by rw [er]; simp, cmn_of_bt (k := 30) (fun f hf => ?_) (by rw [List.length_map, er]; exact Nat.le_of_ble_eq_true rfl) (by decide)⟩, by rw [en]; decide, by rw [en]; decide⟩
    · have hr' := hr
      rw [er] at hr'
      exact ⟨by rw [List.mem_singleton.mp hr']; exact (M.sf s hs).nm, (pd r hr).lo, (pd r hr).po⟩
    · obtain ⟨r, hr, rfl⟩ := List.mem_map.mp hf
      exact ⟨(pd r hr).lo, Int.le_of_lt (pd r hr).po, (pd r hr).bt Z.t1 Z.b1⟩
  refine ⟨M.sf, fun x hx => ?_, by rw [put_names hm]; exact M.nd, fun j x hx r hr => ?_, M.s1, M.fs, by rw [put_len hm]; exact M.d1, by rw [put_len hm]; exact M.fd, by rw [put_len hm]; exact M.d10, ⟨t, b, n, Z, by rw [put_len hm]; exact hn, fun x hx r hr => ?_⟩⟩
  · rcases put_mem hm hx with rfl | hx
    · exact okd
    · exact M.dg x hx
  · obtain ⟨y, hy, ey, c⟩ := put_get hm hx
    have tk : ((putD ds d).take j).map (·.z) = (ds.take j).map (·.z) := by
      rw [List.map_take, List.map_take, put_names hm]
    rw [tk]
    rcases c with ⟨c1, rfl⟩ | ⟨c1, rfl⟩
    · rw [er] at hr
      rw [List.mem_singleton.mp hr]
      exact .inl (List.mem_map_of_mem hs)
    · exact M.ln j x hy r hr
  · rcases put_mem hm hx with rfl | hx
    · exact pd r hr
    · exact pc x hx r hr
/-- trees of a model's book, its doughs in any order, can be told -/
theorem MdOk.tr {ss : List Sf} {ds ds' : List Dm} (M : MdOk ss ds) (p : ds'.Perm ds) : ∃ rk, TrOk ss ds' rk := by
  have B := M.bk.perm p
  obtain ⟨rk, R⟩ := B.rk
  exact ⟨rk, B, ⟨M.bn.s, fun e he => M.bn.d e (p.mem_iff.mp he)⟩, fun e he => M.dg e (p.mem_iff.mp he), R⟩
section
variable {P : Program} {w : World} {K : PySem.W.Frag} {mg : Str → Option Value} {base : Heap}
theorem dtwo_of {f : Addr} {fd : FuncData} (F : FunD K "__init__" "Dough.__init__" (defArgs s_dinit) (defBody s_dinit) (defScope s_dinit) [.int 0] [] f fd) : ∃ g, KBn K fd ["self", "name", "rows", "lead"] (2 + 1) [] g (fun vs zs => gDef vs [.int 0] zs) := by
  obtain ⟨its, hb⟩ := F.kbindsD (ps := ["self", "name", "rows", "lead"]) (2 + 1) [] (fun us ds ws => gDef us ds ws) (fun z => nomatch z) (fun r1 r2 r3 => r1.append r2) (fun T kV doc pm an cdv ct us its ws h1 h2 h3 => by
      match us, its, ws, h1, h2, h3 with
      | [_, _, _], [_], [], _, _, _ => exact ⟨_, rfl, rfl⟩)
  exact ⟨_, hb⟩

/-! ### _law_right -/
theorem sc__law_right : FnScope ["_law_pot_here", "_law_doughs", "_law_made_here", "_law_at", "_law_row", "_law_odd", "_law_others", "_law_stuffs", "_law_thing"] ["_law_pot_here"] (defScope s__law_right) := ⟨rfl, rfl, rfl, by decide +kernel, rfl, by decide +kernel, by decide +kernel⟩
def sp_right (K : PySem.W.Frag) : Sp := fun vs H Q _ => ∃ q : Addr, vs = [.ref q] ∧ Pot H q ∧ ∀ H', But q H H' → Q (.bl true) H'
set_option maxHeartbeats 16000000 in
theorem ok_right {f : Addr} {fd : FuncData} {C CS CD fD fp : Addr} {fdD fdp : FuncData} {gD : List Value → List Value → List Value} (hD2 : KBn K fdD ["self", "name", "rows", "lead"] (2 + 1) [] gD (fun vs zs => gDef vs [.int 0] zs)) (MD : MakG P w K mg base CX0 6 "Dough" CD fD fdD ["self", "name", "rows", "lead"] (sp_dinit K CD)) (Mp : MetG P w K mg base CX0 6 C "put" fp fdp ["self", "thing"] (sp_bput K C CS CD)) (M : Blt mg) (F : Fun K "_law_right" "_law_right" s__law_right f fd) (C__law_draw : Cal P w K mg base CX0 1 "_law_draw" ["_law_pot_here", "_law_many"] (sp_draw)) (C__law_model : Cal P w K mg base CX0 4 "_law_model" ["_law_pot_here"] (sp_lmodel K)) (C__law_turned : Cal P w K mg base CX0 2 "_law_turned" ["_law_pot_here", "_law_some_here"] (sp_turnG K)) (C__law_made : Cal P w K mg base CX0 12 "_law_made" ["_law_stuffs", "_law_doughs"] (sp_lmade K C CS CD)) (C__law_are_right : Cal P w K mg base CX0 22 "_law_are_right" ["_law_made_here", "_law_doughs"] (sp_aright K C CS CD)) (C__law_is_refused : Cal P w K mg base CX0 22 "_law_is_refused" ["_law_made_here", "_law_thing"] (sp_isref K C CS CD)) : FnG P w K mg base CX0 23 f fd ["_law_pot_here"] (sp_right K) := by
  refine Gfun F sc__law_right (fun vs H Q E h => ?_) (fun cdv A outer s H vs Q E hg hr h => ?_)
  · obtain ⟨q, rfl, _⟩ := h
    rfl
  · obtain ⟨q, rfl, P1, k⟩ := h
    refine ⟨_, (pss_cons (ps_asg (pe_g C__law_model (hr.mono (by decide)) hg (pa_cons (pv 0) pa_nil)) (pg_tup rfl (pgs_cons (pg_name (i := 7) sc__law_right.nd rfl (.inl rfl)) (pgs_cons (pg_name (i := 1) sc__law_right.nd rfl (.inl rfl)) pgs_nil))))
      (pss_cons (ps_set (i := 1) sc__law_right.nd rfl (.inl rfl) (pe_g C__law_turned (hr.mono (by decide)) hg (pa_cons (pv 0) (pa_cons (pv 1) pa_nil))))
      (pss_cons (ps_set (i := 2) sc__law_right.nd rfl (.inr rfl) (pe_g C__law_made (hr.mono (by decide)) hg (pa_cons (pv 7) (pa_cons (pv 1) pa_nil))))
      (pss_cons (ps_set (i := 3) sc__law_right.nd rfl (.inl rfl) (pe_g C__law_draw (hr.mono (by decide)) hg (pa_cons (pv 0) (pa_cons (pe_callB call_len_seq rfl M.len bt_len (pa_cons (pv 1) pa_nil)) pa_nil))))
      (pss_cons (ps_set (i := 4) sc__law_right.nd rfl (.inl rfl) (pe_tup (pa_cons (pe_ix ix_tup (pe_ix ix_list (pv 1) (pv 3) (fun _ _ => rfl)) pe_int (fun _ _ => rfl)) (pa_cons (pe_lst (pa_cons (pe_tup (pa_cons (pe_ix ix_tup (pe_ix ix_list (pv 7) (pe_g C__law_draw (hr.mono (by decide)) hg (pa_cons (pv 0) (pa_cons (pe_callB call_len_seq rfl M.len bt_len (pa_cons (pv 7) pa_nil)) pa_nil))) (fun _ _ => rfl)) pe_int (fun _ _ => rfl)) (pa_cons (pe_tup (pa_cons (pe_op op_add pe_int (pe_g C__law_draw (hr.mono (by decide)) hg (pa_cons (pv 0) (pa_cons pe_int pa_nil)))) (pa_cons pe_int pa_nil))) pa_nil))) pa_nil)) (pa_cons pe_int pa_nil)))))
      (pss_cons (ps_set (i := 5) sc__law_right.nd rfl (.inl rfl) (pe_lst (pa_cons (pe_ix ix_tup (pe_ix ix_list (pv 7) (pe_g C__law_draw (hr.mono (by decide)) hg (pa_cons (pv 0) (pa_cons (pe_callB call_len_seq rfl M.len bt_len (pa_cons (pv 7) pa_nil)) pa_nil))) (fun _ _ => rfl)) pe_int (fun _ _ => rfl)) (pa_cons pe_str (pa_cons pe_non (pa_cons pe_int (pa_cons (pe_lst (pa_cons (pe_ix ix_tup (pe_ix ix_list (pv 1) (pv 3) (fun _ _ => rfl)) pe_int (fun _ _ => rfl)) pa_nil)) (pa_cons (pe_tup (pa_cons (pe_ix ix_tup (pe_ix ix_list (pv 1) (pv 3) (fun _ _ => rfl)) pe_int (fun _ _ => rfl)) pa_nil)) (pa_cons pe_dnewK (pa_cons pe_str pa_nil))))))))))
      (pss_cons (ps_if (PW.pt (pw_or (pt_not (pt_val (pe_g C__law_are_right (hr.mono (by decide)) hg (pa_cons (pv 2) (pa_cons (pv 1) pa_nil))))) (pw_or1 (pt_not (pt_val (pe_callB (cr_all rfl) rfl M.all bt_all (pa_cons (pe_lc (own := [("_law_thing", 8)]) (g := gName 8) (tt := tYes) rfl sc__law_right.nd (pi_list (pv 5)) (blkOk_by (N := ["_law_pot_here", "_law_doughs", "_law_made_here", "_law_at", "_law_row", "_law_odd", "_law_others", "_law_stuffs", "_law_thing"]) (sc := defScope s__law_right) (by decide +kernel)) (fun _ _ _ _ _ => pg_name (i := 8) sc__law_right.nd rfl (Or.inl rfl)) (fun _ _ _ _ _ => pts_nil) (fun _ _ _ _ _ => (pe_g C__law_is_refused (hr.mono (by decide)) hg (pa_cons (pv 2) (pa_cons (pv 8) pa_nil))))) pa_nil)))))))
      (pss_one (ps_ret pe_bl))
      pss_nil)
      (pss_cons (ps_set (i := 6) sc__law_right.nd rfl (.inl rfl) (pe_op op_cat (pe_op op_cat (pe_slice sl_list (pv 1) po_none (po_some (pv 3))) (pe_lst (pa_cons (pv 4) pa_nil))) (pe_slice sl_list (pv 1) (po_some (pe_op op_add (pv 3) pe_int)) po_none)))
      (pss_cons (ps_if (pt_not (pt_val (pe_g C__law_are_right (hr.mono (by decide)) hg (pa_cons (pe_meG (pv 2) Mp (hr.mono (by decide)) hg (fun _ => pass_no) (pa_cons (pe_mkG MD hD2 (hr.mono (by decide)) hg (fun _ => pass_no) (pa_cons (pe_ix ix_tup (pv 4) pe_int (fun _ _ => rfl)) (pa_cons (pe_ix ix_tup (pv 4) pe_int (fun _ _ => rfl)) pa_nil))) pa_nil)) (pa_cons (pv 6) pa_nil)))))
      (pss_one (ps_ret pe_bl))
      pss_nil)
      (pss_one (ps_ret (pe_g C__law_are_right (hr.mono (by decide)) hg (pa_cons (pv 2) (pa_cons (pv 1) pa_nil)))))))))))))), ?_⟩
    refine ⟨_, rfl, q, rfl, P1, fun H2 vm ss ms md mo s2z szg P2 b2 => ?_⟩
    obtain ⟨p, pa, pb, xs, ys, rfl, h1, h2, h3, h4, h5⟩ := id md
    have l5 := plen h5
    have l3 := plen h3
    have d1 := mo.d1
    have fd := mo.fd
    have fs := mo.fs
    refine ⟨p, _, rfl, h1, rfl, _, _, rfl, _, _, rfl, rfl, ?_⟩
    refine ⟨_, rfl, _, rfl, q, pb, ys, rfl, P2, h4, dm_sure P2 h5 mo.dg, by omega, fun H3 l1 zs pz nl el P3 b3 => ?_⟩
    obtain ⟨ds, hz, pd⟩ := pperm pz h5
    have hz3 := L2.Paired.mapP hz fun _ _ => DmT.pot b3 P2
    have lz := plen hz
    have ld := pd.length_eq
    have nlq := pot_ne P2 nl
    have h23 : SqL K H3 pa xs := sql_pot b3 P2 (fun v hv => by
      obtain ⟨r, _, p, _, e, _⟩ := pmem h3 hv
      exact ⟨p, e⟩) h2
    have h33 := L2.Paired.mapP h3 fun _ _ => StT.pot b3 P2
    obtain ⟨rk, T⟩ := mo.tr pd
    refine ⟨_, rfl, _, rfl, pa, l1, xs, zs, ss, ds, rfl, h23, h33, .inl (.inl el), hz3, mo.sf, T.D, T.B, T.N, fun H4 x s4 bk => ?_⟩
    have P4 := pot_same P3 s4
    have el4 := s4 _ _ el
    refine ⟨_, rfl, _, rfl, l1, _, rfl, .inl (.inl (.inl el4)), q, _, rfl, by omega, Nat.lt_of_le_of_lt (show ((zs.length : Int)).natAbs ≤ 11 by omega) (by decide), P4, fun at_ H5 r0 r1 P5 b5 => ?_⟩
    obtain ⟨rn, rfl⟩ : ∃ rn : Nat, at_ = (rn : Int) := ⟨at_.toNat, by omega⟩
    have hrn : rn < zs.length := by omega
    have el5 := b5 _ _ nlq el4
    have b35 : But q H3 H5 := (But.same But.rfl s4).trans b5
    have hz5 := L2.Paired.mapP hz3 fun _ _ => DmT.pot b35 P3
    have h25 : SqL K H5 pa xs := sql_pot b35 P3 (fun v hv => by
      obtain ⟨r, _, p, _, e, _⟩ := pmem h33 hv
      exact ⟨p, e⟩) h23
    have h35 := L2.Paired.mapP h33 fun _ _ => StT.pot b35 P3
    have bk5 := bk.pot b5 P4
    obtain ⟨d0, hd0, pe, le, xe, ee, j1, j2, j3⟩ := pget hz5 (List.getElem?_eq_getElem hrn)
    have hze : zs[rn]? = some (.ref pe) := by rw [List.getElem?_eq_getElem hrn, ee]
    have s1l := mo.s1
    refine ⟨_, rfl, _, rfl, l1, _, _, _, rfl, rfl, .inl (.inl el5), atI_nat hze, pe, _, _, _, rfl, rfl, j1, atI_nat (j := 0) rfl, ?_⟩
    refine ⟨_, rfl, _, rfl, _, rfl, pa, _, rfl, .inl h25, q, _, rfl, by omega, Nat.lt_of_le_of_lt (show ((xs.length : Int)).natAbs ≤ 12 by omega) (by decide), P5, fun a2 H6 a0 a1 P6 b6 => ?_⟩
    obtain ⟨an, rfl⟩ : ∃ an : Nat, a2 = (an : Int) := ⟨a2.toNat, by omega⟩
    have han : an < xs.length := by omega
    have h26 : SqL K H6 pa xs := sql_pot b6 P5 (fun v hv => by
      obtain ⟨r, _, p, _, e, _⟩ := pmem h35 hv
      exact ⟨p, e⟩) h25
    have h36 := L2.Paired.mapP h35 fun _ _ => StT.pot b6 P5
    have hz6 := L2.Paired.mapP hz5 fun _ _ => DmT.pot b6 P5
    obtain ⟨sA, hsA, pA, vA, eA, qA, _⟩ := pget h36 (List.getElem?_eq_getElem han)
    have hxA : xs[an]? = some (.ref pA) := by rw [List.getElem?_eq_getElem han, eA]
    refine ⟨pa, _, _, _, rfl, rfl, h26, atI_nat hxA, pA, _, _, _, rfl, rfl, qA, atI_nat (j := 0) rfl, ?_⟩
    refine ⟨_, rfl, q, 9, rfl, by decide, by decide, P6, fun kk H7 k0 k1 P7 b7 => ?_⟩
    refine ⟨_, _, rfl, rfl, len_show (Nat.le_of_ble_eq_true rfl), fun p8 n8 => ?_⟩
    have s8 : Same H7 (L2.upd H7 p8 (.tup [.int (1 + kk), .int 1])) := same_new n8
    have a8 : AtK K (L2.upd H7 p8 (.tup [.int (1 + kk), .int 1])) (.ref p8) (1 + kk, 1) := AtK.of upd_same
    generalize L2.upd H7 p8 (.tup [.int (1 + kk), .int 1]) = H8 at s8 a8 ⊢
    refine ⟨len_show (Nat.le_of_ble_eq_true rfl), fun p9 n9 => ?_⟩
    have s9 : Same H8 (L2.upd H8 p9 (.tup [.str sA.z, .ref p8])) := same_new n9
    have e9 : L2.upd H8 p9 (.tup [.str sA.z, .ref p8]) p9 = some (.tup [.str sA.z, .ref p8]) := upd_same
    generalize L2.upd H8 p9 (.tup [.str sA.z, .ref p8]) = H9 at s9 e9 ⊢
    refine ⟨len_show (Nat.le_of_ble_eq_true rfl), fun l10 n10 => ?_⟩
    have s10 : Same H9 (L2.upd H9 l10 (.lst [.ref p9])) := same_new n10
    have e10 : L2.upd H9 l10 (.lst [.ref p9]) l10 = some (.lst [.ref p9]) := upd_same
    generalize L2.upd H9 l10 (.lst [.ref p9]) = H10 at s10 e10 ⊢
    refine ⟨len_show (Nat.le_of_ble_eq_true rfl), fun p11 n11 => ?_⟩
    have s11 : Same H10 (L2.upd H10 p11 (.tup [.str d0.z, .ref l10, .int 0])) := same_new n11
    have e11 : L2.upd H10 p11 (.tup [.str d0.z, .ref l10, .int 0]) p11 = some (.tup [.str d0.z, .ref l10, .int 0]) := upd_same
    generalize L2.upd H10 p11 (.tup [.str d0.z, .ref l10, .int 0]) = H11 at s11 e11 ⊢
    have s711 := s8.trans (s9.trans (s10.trans s11))
    have P11 := pot_same P7 s711
    have b511 : But q H5 H11 := b6.trans (b7.trans (But.same But.rfl s711))
    have hd0m := List.mem_of_getElem? hd0
    have hz11 := L2.Paired.mapP hz5 fun _ _ => DmT.pot b511 P5
    have h211 : SqL K H11 pa xs := sql_pot b511 P5 (fun v hv => by
      obtain ⟨r, _, p, _, e, _⟩ := pmem h35 hv
      exact ⟨p, e⟩) h25
    have h311 := L2.Paired.mapP h35 fun _ _ => StT.pot b511 P5
    have el11 := b511 _ _ nlq el5
    have j1_11 := sqt_pot b511 P5 j1
    -- the odd things
    refine ⟨_, rfl, _, rfl, _, rfl, pa, _, rfl, .inl h211, q, _, rfl, by omega, Nat.lt_of_le_of_lt (show ((xs.length : Int)).natAbs ≤ 12 by omega) (by decide), P11, fun a3 H12 a30 a31 P12 b12 => ?_⟩
    obtain ⟨cn, rfl⟩ : ∃ cn : Nat, a3 = (cn : Int) := ⟨a3.toNat, by omega⟩
    have hcn : cn < xs.length := by omega
    have h212 : SqL K H12 pa xs := sql_pot b12 P11 (fun v hv => by
      obtain ⟨r, _, p, _, e, _⟩ := pmem h311 hv
      exact ⟨p, e⟩) h211
    have h312 := L2.Paired.mapP h311 fun _ _ => StT.pot b12 P11
    obtain ⟨sB, hsB, pB, vB, eB, qB, _⟩ := pget h312 (List.getElem?_eq_getElem hcn)
    have hxB : xs[cn]? = some (.ref pB) := by rw [List.getElem?_eq_getElem hcn, eB]
    have el12 := b12 _ _ nlq el11
    have j1_12 := sqt_pot b12 P11 j1_11
    refine ⟨pa, _, _, _, rfl, rfl, h212, atI_nat hxB, pB, _, _, _, rfl, rfl, qB, atI_nat (j := 0) rfl, ?_⟩
    refine ⟨_, rfl, _, rfl, l1, _, _, _, rfl, rfl, .inl (.inl el12), atI_nat hze, pe, _, _, _, rfl, rfl, j1_12, atI_nat (j := 0) rfl, len_show (Nat.le_of_ble_eq_true rfl), fun o1 no1 => ?_⟩
    have s13 : Same H12 (L2.upd H12 o1 (.lst [.str d0.z])) := same_new no1
    have e13 : L2.upd H12 o1 (.lst [.str d0.z]) o1 = some (.lst [.str d0.z]) := upd_same
    generalize L2.upd H12 o1 (.lst [.str d0.z]) = H13 at s13 e13 ⊢
    have el13 := s13 _ _ el12
    refine ⟨_, rfl, _, rfl, l1, _, _, _, rfl, rfl, .inl (.inl el13), atI_nat hze, pe, _, _, _, rfl, rfl, sm_t s13 j1_12, atI_nat (j := 0) rfl, len_show (Nat.le_of_ble_eq_true rfl), fun o2 no2 => ?_⟩
    have s14 : Same H13 (L2.upd H13 o2 (.tup [.str d0.z])) := same_new no2
    have e14 : L2.upd H13 o2 (.tup [.str d0.z]) o2 = some (.tup [.str d0.z]) := upd_same
    generalize L2.upd H13 o2 (.tup [.str d0.z]) = H14 at s14 e14 ⊢
    refine fun o3 no3 => ?_
    have s15 : Same H14 (L2.upd H14 o3 (.dK [])) := same_new no3
    have e15 : L2.upd H14 o3 (.dK []) o3 = some (.dK []) := upd_same
    generalize L2.upd H14 o3 (.dK []) = H15 at s15 e15 ⊢
    refine ⟨len_show (Nat.le_of_ble_eq_true rfl), fun OD nOD => ?_⟩
    obtain ⟨odds, hodds⟩ : ∃ odds : List V, odds = [.str sB.z, .str (Str.ofString ""), .non, .int 7, .ref o1, .ref o2, .ref o3, .str (Str.ofString "abcdefghijk")] := ⟨_, rfl⟩
    rw [← hodds]
    have s16 : Same H15 (L2.upd H15 OD (.lst odds)) := same_new nOD
    have e16 : L2.upd H15 OD (.lst odds) OD = some (.lst odds) := upd_same
    generalize L2.upd H15 OD (.lst odds) = H16 at s16 e16 ⊢
    have s1216 := s13.trans (s14.trans (s15.trans s16))
    have P16 := pot_same P12 s1216
    have b516 : But q H5 H16 := b511.trans (b12.trans (But.same But.rfl s1216))
    have hz16 := L2.Paired.mapP hz5 fun _ _ => DmT.pot b516 P5
    have el16 := b516 _ _ nlq el5
    have bk16 := bk5.pot b516 P5
    have bd : BkO K H16 C CS CD x ss ds := bk16
    have hl11 : ds.length ≤ 11 := T.B.fd
    have same_ok : ∀ z ∈ ds.map (·.z), z ∈ ds.map (·.z) ∧ treeD ds z = treeD ds z := fun z h => ⟨h, rfl⟩
    have OK : ∀ v ∈ odds, ∃ y, Dq K H16 v y ∧ ∀ d ∈ ds, y ≠ .str d.z := by
      have n0 : (Str.ofString "").length = 0 := by rw [PySem.ofString_length]; rfl
      have n11 : (Str.ofString "abcdefghijk").length = 11 := by rw [PySem.ofString_length]; rfl
      have txt : ∀ t : Str, (∀ d ∈ ds, t ≠ d.z) → ∃ y, Dq K H16 (.str t) y ∧ ∀ d ∈ ds, y ≠ .str d.z := fun t h => ⟨.str t, .dp (.str t) (by simp [PyData.hasDict]), fun d hd e => h d hd (PyData.str.inj e)⟩
      intro v hv
      rw [hodds] at hv
      simp only [List.mem_cons, List.mem_nil_iff, or_false] at hv
      rcases hv with rfl | rfl | rfl | rfl | rfl | rfl | rfl | rfl
      · exact txt _ fun d hd e => T.B.nsd (List.mem_map_of_mem (List.mem_of_getElem? hsB)) (by rw [e]; exact List.mem_map_of_mem hd)
      · refine txt _ fun d hd e => ?_
        have := (T.D d hd).nm.l1
        rw [← e] at this
        omega
      · exact ⟨.none, .dp .non (by simp [PyData.hasDict]), fun d hd e => nomatch e⟩
      · exact ⟨.int 7, .dp (.int 7) (by simp [PyData.hasDict]), fun d hd e => nomatch e⟩
      · exact ⟨.list [.str d0.z], .dp (.lst (.inl (.inl (s16 _ _ (s15 _ _ (s14 _ _ e13))))) (.cons (.str _) .nil)) (by simp [PyData.hasDict, PyData.hasDictAll]), fun d hd e => nomatch e⟩
      · exact ⟨.tuple [.str d0.z], .dp (.tup (.inl (.inl (s16 _ _ (s15 _ _ e14)))) (.cons (.str _) .nil)) (by simp [PyData.hasDict, PyData.hasDictAll]), fun d hd e => nomatch e⟩
      · exact ⟨.dict [], .dic (s16 _ _ e15) .nil, fun d hd e => nomatch e⟩
      · refine txt _ fun d hd e => ?_
        have := (T.D d hd).nm.le
        rw [← e] at this
        omega
    have lodds : odds.length = 8 := by rw [hodds]; rfl
    refine ⟨_, rfl, _, rfl, x, l1, zs, ss, ds, ds, rk, rfl, bd, .inl (.inl el16), hz16, T, T, hl11, same_ok, fun H17 s17 => ⟨_, rfl, iteF ?_⟩⟩
    refine ⟨_, rfl, OD, rfl, ⟨odds, .inl (.inl (s17 _ _ e16))⟩, fun D18 n18 => ?_⟩
    refine lc_list (xs := odds) (fun i H' => Same H17 H' ∧ H' D18 = some (.lst ((List.replicate i true).map V.bl))) ⟨same_new n18, upd_same⟩ (fun i H' _ h => .inl (.inl (h.1 _ _ (s17 _ _ e16)))) ?_ ?_
    · rintro i v H19 hv ⟨s19, e19⟩
      have hil := (List.getElem?_eq_some_iff.mp hv).1
      obtain ⟨y, hy, no⟩ := OK v (List.mem_of_getElem? hv)
      have s1619 := s17.trans s19
      refine ⟨rfl, _, rfl, _, rfl, x, v, y, ss, ds, rfl, bd.same s1619, T.B.ndd, hy.same s1619, no, fun H20 s20 => ⟨_, s20 _ _ e19, by rw [List.length_map, List.length_replicate, sizeLine_eq]; omega, fun b o e => ?_, ?_⟩⟩
      · rw [upd_ne (ne_of_none e n18)]
        exact s20 _ _ (s19 _ _ e)
      · rw [upd_same, List.replicate_succ', List.map_append]
        rfl
    rintro H18 ⟨s18, e18⟩
    refine ⟨D18, List.replicate _ true, rfl, .inl (.inl e18), ?_⟩
    rw [show ∀ n, (List.replicate n true).all id = true from fun n => by simp]
    refine ⟨_, rfl, iteF ?_⟩
    have s1618 := s17.trans s18
    have el18 := s1618 _ _ el16
    have b518 : But q H5 H18 := fun b o nb e => s1618 _ _ (b516 _ _ nb e)
    -- the others
    refine ⟨_, rfl, _, rfl, _, rfl, l1, _, rfl, .inl (.inl el18), fun l4 n4 => ?_⟩
    rw [cutTo (k := rn) rfl]
    have s19 : Same H18 (L2.upd H18 l4 (.lst (zs.take rn))) := same_new n4
    have e19 : L2.upd H18 l4 (.lst (zs.take rn)) l4 = some (.lst (zs.take rn)) := upd_same
    generalize L2.upd H18 l4 (.lst (zs.take rn)) = H19 at s19 e19 ⊢
    refine ⟨_, rfl, len_show (Nat.le_of_ble_eq_true rfl), fun l6 n6 => ?_⟩
    have s20 : Same H19 (L2.upd H19 l6 (.lst [.ref p11])) := same_new n6
    have e20 : L2.upd H19 l6 (.lst [.ref p11]) l6 = some (.lst [.ref p11]) := upd_same
    generalize L2.upd H19 l6 (.lst [.ref p11]) = H20 at s20 e20 ⊢
    have lty : (zs.take rn).length ≤ 11 := by rw [List.length_take]; omega
    refine ⟨l4, l6, _, _, rfl, rfl, s20 _ _ e19, e20, by rw [sizeLine_eq]; have : ([V.ref p11] : List V).length = 1 := rfl; omega, fun l7 n7 => ?_⟩
    have s21 : Same H20 (L2.upd H20 l7 (.lst (zs.take rn ++ [.ref p11]))) := same_new n7
    have e21 : L2.upd H20 l7 (.lst (zs.take rn ++ [.ref p11])) l7 = some (.lst (zs.take rn ++ [.ref p11])) := upd_same
    generalize L2.upd H20 l7 (.lst (zs.take rn ++ [.ref p11])) = H21 at s21 e21 ⊢
    have s1821 := s19.trans (s20.trans s21)
    refine ⟨_, rfl, _, rfl, _, _, rfl, rfl, _, rfl, l1, _, rfl, .inl (.inl (s1821 _ _ el18)), fun l8 n8 => ?_⟩
    rw [cutFrom (i := (rn : Int) + 1) (k := rn + 1) rfl]
    have s22 : Same H21 (L2.upd H21 l8 (.lst (zs.drop (rn + 1)))) := same_new n8
    have e22 : L2.upd H21 l8 (.lst (zs.drop (rn + 1))) l8 = some (.lst (zs.drop (rn + 1))) := upd_same
    generalize L2.upd H21 l8 (.lst (zs.drop (rn + 1))) = H22 at s22 e22 ⊢
    refine ⟨l7, l8, _, _, rfl, rfl, s22 _ _ e21, e22, by rw [sizeLine_eq, List.length_append, List.length_drop]; have : ([V.ref p11] : List V).length = 1 := rfl; omega, fun l9 n9 => ?_⟩
    have s23 : Same H22 (L2.upd H22 l9 (.lst (zs.take rn ++ [.ref p11] ++ zs.drop (rn + 1)))) := same_new n9
    have e23 : L2.upd H22 l9 (.lst (zs.take rn ++ [.ref p11] ++ zs.drop (rn + 1))) l9 = some (.lst (zs.take rn ++ [.ref p11] ++ zs.drop (rn + 1))) := upd_same
    generalize L2.upd H22 l9 (.lst (zs.take rn ++ [.ref p11] ++ zs.drop (rn + 1))) = H23 at s23 e23 ⊢
    have s1823 := s1821.trans (s22.trans s23)
    have s1623 := s1618.trans s1823
    have b523 : But q H5 H23 := fun b o nb e => s1823 _ _ (b518 _ _ nb e)
    -- the dough that is put
    have hz23 := L2.Paired.mapP hz5 fun _ _ => DmT.pot b523 P5
    have bk23 := bk5.pot b523 P5
    obtain ⟨dd, hdd⟩ : ∃ dd : Dm, dd = ⟨d0.z, [(sA.z, (1 + kk, 1))], 0⟩ := ⟨_, rfl⟩
    have d0m : d0 ∈ ms := pd.mem_iff.mp hd0m
    have sAm : sA ∈ ss := List.mem_of_getElem? hsA
    have mo2 : MdOk ss (putD ms dd) := mo.bare szg d0m (by rw [hdd]) (by rw [hdd]) sAm (by rw [hdd]) (k := 1 + kk) (by omega) (by omega)
    have zd : dd.z = d0.z := by rw [hdd]
    have zm : dd.z ∈ ms.map (·.z) := by rw [zd]; exact List.mem_map_of_mem d0m
    have pd2 : (putD ds dd).Perm (putD ms dd) := put_perm pd zm
    obtain ⟨rk2, T2⟩ := mo2.tr pd2
    have P8 := pot_same P7 s8
    have P9 := pot_same P8 s9
    have P10 := pot_same P9 s10
    have b1123 : But q H11 H23 := b12.trans (But.same But.rfl (s1216.trans s1623))
    have t9 : SqT K H11 p9 [.str sA.z, .ref p8] := .inl (.inl (s11 _ _ (s10 _ _ e9)))
    have a811 : AtK K H11 (.ref p8) (1 + kk, 1) := a8.same (s9.trans (s10.trans s11))
    have t923 := sqt_pot b1123 P11 t9
    have a823 := atk_pot b1123 P11 a811
    have l1023 : H23 l10 = some (.lst [.ref p9]) := b1123 _ _ (pot_ne P9 n10) (s11 _ _ e10)
    have t1123 : SqT K H23 p11 [.str d0.z, .ref l10, .int 0] := sqt_pot b1123 P11 (.inl (.inl e11))
    have rwd : RwsAt K H23 [.ref p9] dd.rs := by
      rw [hdd]
      exact .cons ⟨p9, .ref p8, rfl, t923, a823⟩ .nil
    have ddm : dd ∈ putD ds dd := by
      have hz' : dd.z ∈ ds.map (·.z) := by rw [zd]; exact List.mem_map_of_mem hd0m
      unfold putD
      rw [if_pos hz']
      refine List.mem_map.mpr ⟨d0, hd0m, ?_⟩
      rw [if_pos zd.symm]
    have okd := T2.D dd ddm
    obtain ⟨bx, bps, bpd, bI, kss, kds, g1, _⟩ := id bk23
    refine ⟨_, rfl, x, _, _, rfl, g1, rfl, ?_⟩
    refine ⟨_, rfl, p11, _, _, _, rfl, rfl, t1123, atI_nat (j := 0) rfl, _, rfl, p11, _, _, _, rfl, rfl, t1123, atI_nat (j := 1) rfl, rfl, rfl, fun x' dx' nx nd hdx => ⟨x', dx', H23, dd.z, l10, [.ref p9], dd.rs, dd.n, by rw [hdd]; rfl, nx, nd, hdx, rfl, .inl (.inl (.inl l1023)), rwd, okd, fun H24 s24 dg => ⟨rfl, x, x', ss, ds, dd, rfl, bk23.same s24, dg, T.B, T2.B, T2.N, fun H25 x2 s25 bk25 => ?_⟩⟩⟩
    have s2325 := s24.trans s25
    have e25 := s2325 _ _ e23
    have hz25 := L2.Paired.mapP hz23 fun _ _ => DmT.same s2325
    have dmt : DmT K H25 (.ref p11) dd := ⟨p11, l10, [.ref p9], rfl, by rw [hdd]; exact sm_t s2325 t1123, .inl (.inl (s2325 _ _ l1023)), rwd.same s2325⟩
    have pz25 : Paired (DmT K H25) (zs.take rn ++ [.ref p11] ++ zs.drop (rn + 1)) (putD ds dd) := by
      rw [← set_put T.B.ndd hd0 zd]
      exact papp (papp (ptake rn hz25) (.cons dmt .nil)) (pdrop (rn + 1) hz25)
    have same_ok2 : ∀ z ∈ (putD ds dd).map (·.z), z ∈ (putD ds dd).map (·.z) ∧ treeD (putD ds dd) z = treeD (putD ds dd) z := fun z h => ⟨h, rfl⟩
    refine ⟨_, rfl, x2, l9, _, ss, putD ds dd, putD ds dd, rk2, rfl, bk25, .inl (.inl e25), pz25, T2, T2, T2.B.fd, same_ok2, fun H26 s26 => ⟨_, rfl, iteF ?_⟩⟩
    have s2326 := s2325.trans s26
    have s1626 := s1623.trans s2326
    refine ⟨_, rfl, _, rfl, x, l1, zs, ss, ds, ds, rk, rfl, bd.same s1626, .inl (.inl (s1626 _ _ el16)), L2.Paired.mapP hz16 fun _ _ => DmT.same s1626, T, T, hl11, same_ok, fun H27 s27 => k H27 fun b o nb e => s27 _ _ (s2326 _ _ (b523 _ _ nb (b5 _ _ nb (s4 _ _ (b3 _ _ nb (b2 _ _ nb e))))))⟩

end
end Lf

set_option Elab.async false
set_option linter.all false
set_option maxRecDepth 100000
set_option maxHeartbeats 4000000
set_option exponentiation.threshold 3000
namespace Lf
open PySem PySem.Spec PyProof.Rows L2
section
variable {P : Program} {w : World} {K : PySem.W.Frag} {mg : Str → Option Value} {base : Heap}

/-! ### law -/
theorem sc_law : FnScope ["_law_script", "_law_k"] ["_law_script"] (defScope s_law) := ⟨rfl, rfl, rfl, by decide +kernel, rfl, by decide +kernel, by decide +kernel⟩
def sp_law (K : PySem.W.Frag) : Sp := fun vs H Q _ => ∃ (a : Addr) (ns : List Int), vs = [.ref a] ∧ SqL K H a (ns.map V.int) ∧ ns.length ≤ 63 ∧ ∀ H', Q (.bl true) H'
theorem ok_law {f : Addr} {fd : FuncData} (M : Blt mg) (F : Fun K "law" "law" s_law f fd) (C__law_cell : Cal P w K mg base CX0 1 "_law_cell" ["_law_script", "_law_k"] (sp_cell K)) (C__law_pot : Cal P w K mg base CX0 1 "_law_pot" ["_law_cell_here"] (sp_pot)) (C__law_right : Cal P w K mg base CX0 23 "_law_right" ["_law_pot_here"] (sp_right K)) : FnG P w K mg base CX0 24 f fd ["_law_script"] (sp_law K) := by
  refine Gfun F sc_law (fun vs H Q E h => ?_) (fun cdv A outer s H vs Q E hg hr h => ?_)
  · obtain ⟨a, ns, rfl, _⟩ := h
    rfl
  · obtain ⟨a, ns, rfl, hS, hl, k⟩ := h
    refine ⟨_, (pss_one (ps_ret (pe_callB (cr_all rfl) rfl M.all bt_all (pa_cons (pe_lc (own := [("_law_k", 1)]) (g := gName 1) (tt := tYes) rfl sc_law.nd (pi_range1 rfl M.range (pa_cons (pe_callB (call_max2 rfl) rfl M.max bt_max (pa_cons pe_int (pa_cons (pe_callB (call_min2 rfl) rfl M.min bt_min (pa_cons (pe_callB call_len_seq rfl M.len bt_len (pa_cons (pv 0) pa_nil)) (pa_cons pe_int pa_nil))) pa_nil))) pa_nil)) (blkOk_by (N := ["_law_script", "_law_k"]) (sc := defScope s_law) (by decide +kernel)) (fun _ _ _ _ _ => pg_name (i := 1) sc_law.nd rfl (Or.inl rfl)) (fun _ _ _ _ _ => pts_nil) (fun _ _ _ _ _ => (pe_g C__law_right (hr.mono (by decide)) hg (pa_cons (pe_g C__law_pot (hr.mono (by decide)) hg (pa_cons (pe_g C__law_cell (hr.mono (by decide)) hg (pa_cons (pv 0) (pa_cons (pv 1) pa_nil))) pa_nil)) pa_nil)))) pa_nil)))), ?_⟩
    refine ⟨_, rfl, a, _, rfl, .inl hS, _, _, rfl, _, _, rfl, _, rfl, ?_, ?_, ?_⟩
    · split <;> split <;> omega
    · split <;> split <;> omega
    generalize hN : Int.toNat _ = N
    have hN2 : N ≤ 64 := by
      rw [← hN]
      split <;> split <;> omega
    intro D nD
    refine lc_range (lo := 0) (n := N) (fun i H' => Same H H' ∧ H' D = some (.lst ((List.replicate i true).map V.bl))) ⟨same_new nD, upd_same⟩ ?_ ?_
    · rintro i H1 hi ⟨s1, e1⟩
      refine ⟨rfl, _, rfl, _, rfl, a, ns, i, (by show [V.ref a, V.int (0 + (i : Int))] = _; rw [Int.zero_add]), sm_l s1 hS, by omega, fun c => ?_⟩
      refine ⟨c, rfl, fun x y q y0 yl nq => ?_⟩
      have P2 : Pot (L2.upd H1 q (.lst [.int x, .int y])) q := ⟨x, y, y0, yl, upd_same⟩
      have s2 : Same H1 (L2.upd H1 q (.lst [.int x, .int y])) := same_new nq
      generalize L2.upd H1 q (.lst [.int x, .int y]) = H2 at P2 s2 ⊢
      refine ⟨q, rfl, P2, fun H3 b3 => ⟨_, b3 _ _ (ne_of_none e1 nq) (s2 _ _ e1), by rw [List.length_map, List.length_replicate, sizeLine_eq]; omega, fun b o e => ?_, ?_⟩⟩
      · rw [upd_ne (ne_of_none e nD)]
        exact b3 _ _ (ne_of_none (s1 _ _ e) nq) (s2 _ _ (s1 _ _ e))
      · rw [upd_same, List.replicate_succ', List.map_append]
        rfl
    · rintro H1 ⟨s1, e1⟩
      refine ⟨D, List.replicate _ true, rfl, .inl (.inl e1), ?_⟩
      rw [show ∀ n, (List.replicate n true).all id = true from fun n => by simp]
      exact k H1

end
end Lf

set_option Elab.async false
set_option linter.all false
set_option maxRecDepth 100000
set_option maxHeartbeats 8000000
namespace Lf
open PySem PySem.Spec PyProof.Rows L2
theorem bp_0 {x q : Str} {p0 : Pos} {body : List Stmt} {sc : Scope} {kV doc pm : Value} {an : Option Addr} {cdv ct : Value} (s : Shared) (us : List Value) (hl : us.length = 1) : BindsTo s (PySem.W.fnOf x q (plainA [{ arg := "thing", annotation := none, pos := p0 }]) body sc .none kV doc pm an cdv ct) ⟨us, []⟩ ((["thing"] : List Str).zip us) := .of_eq (match us, hl with | [_], _ => rfl)
theorem df_is_whole {K : PySem.W.Frag} {mg : Str → Option Value} {f : Addr} {fd : FuncData} (F : FunD K "is_whole" "is_whole" (defArgs s_is_whole) (defBody s_is_whole) (defScope s_is_whole) [] [] f fd) (g : mg "is_whole" = some (.ref f)) : Df K mg "is_whole" s_is_whole ["thing"] f fd := by
  obtain ⟨kV, doc, pm, an, cdv, ct, rfl, F⟩ := fun_of F
  have ⟨p0, ea⟩ : ∃ p0 : Pos, defArgs s_is_whole = plainA [{ arg := "thing", annotation := none, pos := p0 }] := ⟨_, rfl⟩
  exact ⟨F, g, by rw [ea]; exact bp_0, no_kw (by decide +kernel), no_kw (by decide +kernel)⟩
theorem bp_1 {x q : Str} {p0 p1 : Pos} {body : List Stmt} {sc : Scope} {kV doc pm : Value} {an : Option Addr} {cdv ct : Value} (s : Shared) (us : List Value) (hl : us.length = 2) : BindsTo s (PySem.W.fnOf x q (plainA [{ arg := "one", annotation := none, pos := p0 }, { arg := "other", annotation := none, pos := p1 }]) body sc .none kV doc pm an cdv ct) ⟨us, []⟩ ((["one", "other"] : List Str).zip us) := .of_eq (match us, hl with | [_, _], _ => rfl)
theorem df_common {K : PySem.W.Frag} {mg : Str → Option Value} {f : Addr} {fd : FuncData} (F : FunD K "common" "common" (defArgs sCom) (defBody sCom) (defScope sCom) [] [] f fd) (g : mg "common" = some (.ref f)) : Df K mg "common" sCom ["one", "other"] f fd := by
  obtain ⟨kV, doc, pm, an, cdv, ct, rfl, F⟩ := fun_of F
  have ⟨p0, p1, ea⟩ : ∃ p0 p1 : Pos, defArgs sCom = plainA [{ arg := "one", annotation := none, pos := p0 }, { arg := "other", annotation := none, pos := p1 }] := ⟨_, _, rfl⟩
  exact ⟨F, g, by rw [ea]; exact bp_1, no_kw (by decide +kernel), no_kw (by decide +kernel)⟩
theorem bp_2 {x q : Str} {p0 p1 : Pos} {body : List Stmt} {sc : Scope} {kV doc pm : Value} {an : Option Addr} {cdv ct : Value} (s : Shared) (us : List Value) (hl : us.length = 2) : BindsTo s (PySem.W.fnOf x q (plainA [{ arg := "top", annotation := none, pos := p0 }, { arg := "bottom", annotation := none, pos := p1 }]) body sc .none kV doc pm an cdv ct) ⟨us, []⟩ ((["top", "bottom"] : List Str).zip us) := .of_eq (match us, hl with | [_, _], _ => rfl)
theorem df_fraction {K : PySem.W.Frag} {mg : Str → Option Value} {f : Addr} {fd : FuncData} (F : FunD K "fraction" "fraction" (defArgs sFrac) (defBody sFrac) (defScope sFrac) [] [] f fd) (g : mg "fraction" = some (.ref f)) : Df K mg "fraction" sFrac ["top", "bottom"] f fd := by
  obtain ⟨kV, doc, pm, an, cdv, ct, rfl, F⟩ := fun_of F
  have ⟨p0, p1, ea⟩ : ∃ p0 p1 : Pos, defArgs sFrac = plainA [{ arg := "top", annotation := none, pos := p0 }, { arg := "bottom", annotation := none, pos := p1 }] := ⟨_, _, rfl⟩
  exact ⟨F, g, by rw [ea]; exact bp_2, fun _ s us hl => .of_eq (match us, hl with | [_, _], _ => rfl), fun _ s us hl => .of_eq (match us, hl with | [_, _], _ => rfl)⟩
theorem df_plus {K : PySem.W.Frag} {mg : Str → Option Value} {f : Addr} {fd : FuncData} (F : FunD K "plus" "plus" (defArgs s_plus) (defBody s_plus) (defScope s_plus) [] [] f fd) (g : mg "plus" = some (.ref f)) : Df K mg "plus" s_plus ["one", "other"] f fd := by
  obtain ⟨kV, doc, pm, an, cdv, ct, rfl, F⟩ := fun_of F
  have ⟨p0, p1, ea⟩ : ∃ p0 p1 : Pos, defArgs s_plus = plainA [{ arg := "one", annotation := none, pos := p0 }, { arg := "other", annotation := none, pos := p1 }] := ⟨_, _, rfl⟩
  exact ⟨F, g, by rw [ea]; exact bp_1, fun _ s us hl => .of_eq (match us, hl with | [_, _], _ => rfl), fun _ s us hl => .of_eq (match us, hl with | [_, _], _ => rfl)⟩
theorem df_over {K : PySem.W.Frag} {mg : Str → Option Value} {f : Addr} {fd : FuncData} (F : FunD K "over" "over" (defArgs s_over) (defBody s_over) (defScope s_over) [] [] f fd) (g : mg "over" = some (.ref f)) : Df K mg "over" s_over ["one", "other"] f fd := by
  obtain ⟨kV, doc, pm, an, cdv, ct, rfl, F⟩ := fun_of F
  have ⟨p0, p1, ea⟩ : ∃ p0 p1 : Pos, defArgs s_over = plainA [{ arg := "one", annotation := none, pos := p0 }, { arg := "other", annotation := none, pos := p1 }] := ⟨_, _, rfl⟩
  exact ⟨F, g, by rw [ea]; exact bp_1, fun _ s us hl => .of_eq (match us, hl with | [_, _], _ => rfl), fun _ s us hl => .of_eq (match us, hl with | [_, _], _ => rfl)⟩
theorem bp_3 {x q : Str} {p0 : Pos} {body : List Stmt} {sc : Scope} {kV doc pm : Value} {an : Option Addr} {cdv ct : Value} (s : Shared) (us : List Value) (hl : us.length = 1) : BindsTo s (PySem.W.fnOf x q (plainA [{ arg := "ones", annotation := none, pos := p0 }]) body sc .none kV doc pm an cdv ct) ⟨us, []⟩ ((["ones"] : List Str).zip us) := .of_eq (match us, hl with | [_], _ => rfl)
theorem df_together {K : PySem.W.Frag} {mg : Str → Option Value} {f : Addr} {fd : FuncData} (F : FunD K "together" "together" (defArgs s_together) (defBody s_together) (defScope s_together) [] [] f fd) (g : mg "together" = some (.ref f)) : Df K mg "together" s_together ["ones"] f fd := by
  obtain ⟨kV, doc, pm, an, cdv, ct, rfl, F⟩ := fun_of F
  have ⟨p0, ea⟩ : ∃ p0 : Pos, defArgs s_together = plainA [{ arg := "ones", annotation := none, pos := p0 }] := ⟨_, rfl⟩
  exact ⟨F, g, by rw [ea]; exact bp_3, no_kw (by decide +kernel), no_kw (by decide +kernel)⟩
theorem df_is_less {K : PySem.W.Frag} {mg : Str → Option Value} {f : Addr} {fd : FuncData} (F : FunD K "is_less" "is_less" (defArgs s_is_less) (defBody s_is_less) (defScope s_is_less) [] [] f fd) (g : mg "is_less" = some (.ref f)) : Df K mg "is_less" s_is_less ["one", "other"] f fd := by
  obtain ⟨kV, doc, pm, an, cdv, ct, rfl, F⟩ := fun_of F
  have ⟨p0, p1, ea⟩ : ∃ p0 p1 : Pos, defArgs s_is_less = plainA [{ arg := "one", annotation := none, pos := p0 }, { arg := "other", annotation := none, pos := p1 }] := ⟨_, _, rfl⟩
  exact ⟨F, g, by rw [ea]; exact bp_1, fun _ s us hl => .of_eq (match us, hl with | [_, _], _ => rfl), fun _ s us hl => .of_eq (match us, hl with | [_, _], _ => rfl)⟩
theorem df_is_fraction {K : PySem.W.Frag} {mg : Str → Option Value} {f : Addr} {fd : FuncData} (F : FunD K "is_fraction" "is_fraction" (defArgs s_is_fraction) (defBody s_is_fraction) (defScope s_is_fraction) [] [] f fd) (g : mg "is_fraction" = some (.ref f)) : Df K mg "is_fraction" s_is_fraction ["thing"] f fd := by
  obtain ⟨kV, doc, pm, an, cdv, ct, rfl, F⟩ := fun_of F
  have ⟨p0, ea⟩ : ∃ p0 : Pos, defArgs s_is_fraction = plainA [{ arg := "thing", annotation := none, pos := p0 }] := ⟨_, rfl⟩
  exact ⟨F, g, by rw [ea]; exact bp_0, fun _ s us hl => .of_eq (match us, hl with | [_], _ => rfl), fun _ s us hl => .of_eq (match us, hl with | [_], _ => rfl)⟩
theorem df_is_above_0 {K : PySem.W.Frag} {mg : Str → Option Value} {f : Addr} {fd : FuncData} (F : FunD K "is_above_0" "is_above_0" (defArgs s_is_above_0) (defBody s_is_above_0) (defScope s_is_above_0) [] [] f fd) (g : mg "is_above_0" = some (.ref f)) : Df K mg "is_above_0" s_is_above_0 ["thing"] f fd := by
  obtain ⟨kV, doc, pm, an, cdv, ct, rfl, F⟩ := fun_of F
  have ⟨p0, ea⟩ : ∃ p0 : Pos, defArgs s_is_above_0 = plainA [{ arg := "thing", annotation := none, pos := p0 }] := ⟨_, rfl⟩
  exact ⟨F, g, by rw [ea]; exact bp_0, no_kw (by decide +kernel), no_kw (by decide +kernel)⟩
theorem bp_4 {x q : Str} {p0 : Pos} {body : List Stmt} {sc : Scope} {kV doc pm : Value} {an : Option Addr} {cdv ct : Value} (s : Shared) (us : List Value) (hl : us.length = 1) : BindsTo s (PySem.W.fnOf x q (plainA [{ arg := "one", annotation := none, pos := p0 }]) body sc .none kV doc pm an cdv ct) ⟨us, []⟩ ((["one"] : List Str).zip us) := .of_eq (match us, hl with | [_], _ => rfl)
theorem df_fraction_text {K : PySem.W.Frag} {mg : Str → Option Value} {f : Addr} {fd : FuncData} (F : FunD K "fraction_text" "fraction_text" (defArgs s_fraction_text) (defBody s_fraction_text) (defScope s_fraction_text) [] [] f fd) (g : mg "fraction_text" = some (.ref f)) : Df K mg "fraction_text" s_fraction_text ["one"] f fd := by
  obtain ⟨kV, doc, pm, an, cdv, ct, rfl, F⟩ := fun_of F
  have ⟨p0, ea⟩ : ∃ p0 : Pos, defArgs s_fraction_text = plainA [{ arg := "one", annotation := none, pos := p0 }] := ⟨_, rfl⟩
  exact ⟨F, g, by rw [ea]; exact bp_4, fun _ s us hl => .of_eq (match us, hl with | [_], _ => rfl), fun _ s us hl => .of_eq (match us, hl with | [_], _ => rfl)⟩
theorem df_is_name {K : PySem.W.Frag} {mg : Str → Option Value} {f : Addr} {fd : FuncData} (F : FunD K "is_name" "is_name" (defArgs s_is_name) (defBody s_is_name) (defScope s_is_name) [] [] f fd) (g : mg "is_name" = some (.ref f)) : Df K mg "is_name" s_is_name ["thing"] f fd := by
  obtain ⟨kV, doc, pm, an, cdv, ct, rfl, F⟩ := fun_of F
  have ⟨p0, ea⟩ : ∃ p0 : Pos, defArgs s_is_name = plainA [{ arg := "thing", annotation := none, pos := p0 }] := ⟨_, rfl⟩
  exact ⟨F, g, by rw [ea]; exact bp_0, fun _ s us hl => .of_eq (match us, hl with | [_], _ => rfl), fun _ s us hl => .of_eq (match us, hl with | [_], _ => rfl)⟩
theorem bp_5 {x q : Str} {p0 p1 : Pos} {body : List Stmt} {sc : Scope} {kV doc pm : Value} {an : Option Addr} {cdv ct : Value} (s : Shared) (us : List Value) (hl : us.length = 2) : BindsTo s (PySem.W.fnOf x q (plainA [{ arg := "thing", annotation := none, pos := p0 }, { arg := "names", annotation := none, pos := p1 }]) body sc .none kV doc pm an cdv ct) ⟨us, []⟩ ((["thing", "names"] : List Str).zip us) := .of_eq (match us, hl with | [_, _], _ => rfl)
theorem df_is_one_of {K : PySem.W.Frag} {mg : Str → Option Value} {f : Addr} {fd : FuncData} (F : FunD K "is_one_of" "is_one_of" (defArgs s_is_one_of) (defBody s_is_one_of) (defScope s_is_one_of) [] [] f fd) (g : mg "is_one_of" = some (.ref f)) : Df K mg "is_one_of" s_is_one_of ["thing", "names"] f fd := by
  obtain ⟨kV, doc, pm, an, cdv, ct, rfl, F⟩ := fun_of F
  have ⟨p0, p1, ea⟩ : ∃ p0 p1 : Pos, defArgs s_is_one_of = plainA [{ arg := "thing", annotation := none, pos := p0 }, { arg := "names", annotation := none, pos := p1 }] := ⟨_, _, rfl⟩
  exact ⟨F, g, by rw [ea]; exact bp_5, no_kw (by decide +kernel), no_kw (by decide +kernel)⟩
theorem bp_6 {x q : Str} {p0 p1 p2 p3 p4 : Pos} {body : List Stmt} {sc : Scope} {kV doc pm : Value} {an : Option Addr} {cdv ct : Value} (s : Shared) (us : List Value) (hl : us.length = 5) : BindsTo s (PySem.W.fnOf x q (plainA [{ arg := "book", annotation := none, pos := p0 }, { arg := "name", annotation := none, pos := p1 }, { arg := "blanks", annotation := none, pos := p2 }, { arg := "shown", annotation := none, pos := p3 }, { arg := "lines", annotation := none, pos := p4 }]) body sc .none kV doc pm an cdv ct) ⟨us, []⟩ ((["book", "name", "blanks", "shown", "lines"] : List Str).zip us) := .of_eq (match us, hl with | [_, _, _, _, _], _ => rfl)
theorem df_add_lines {K : PySem.W.Frag} {mg : Str → Option Value} {f : Addr} {fd : FuncData} (F : FunD K "add_lines" "add_lines" (defArgs s_add_lines) (defBody s_add_lines) (defScope s_add_lines) [] [] f fd) (g : mg "add_lines" = some (.ref f)) : Df K mg "add_lines" s_add_lines ["book", "name", "blanks", "shown", "lines"] f fd := by
  obtain ⟨kV, doc, pm, an, cdv, ct, rfl, F⟩ := fun_of F
  have ⟨p0, p1, p2, p3, p4, ea⟩ : ∃ p0 p1 p2 p3 p4 : Pos, defArgs s_add_lines = plainA [{ arg := "book", annotation := none, pos := p0 }, { arg := "name", annotation := none, pos := p1 }, { arg := "blanks", annotation := none, pos := p2 }, { arg := "shown", annotation := none, pos := p3 }, { arg := "lines", annotation := none, pos := p4 }] := ⟨_, _, _, _, _, rfl⟩
  exact ⟨F, g, by rw [ea]; exact bp_6, no_kw (by decide +kernel), no_kw (by decide +kernel)⟩
theorem bp_7 {x q : Str} {p0 p1 : Pos} {body : List Stmt} {sc : Scope} {kV doc pm : Value} {an : Option Addr} {cdv ct : Value} (s : Shared) (us : List Value) (hl : us.length = 2) : BindsTo s (PySem.W.fnOf x q (plainA [{ arg := "book", annotation := none, pos := p0 }, { arg := "dough", annotation := none, pos := p1 }]) body sc .none kV doc pm an cdv ct) ⟨us, []⟩ ((["book", "dough"] : List Str).zip us) := .of_eq (match us, hl with | [_, _], _ => rfl)
theorem df_tree {K : PySem.W.Frag} {mg : Str → Option Value} {f : Addr} {fd : FuncData} (F : FunD K "tree" "tree" (defArgs s_tree) (defBody s_tree) (defScope s_tree) [] [] f fd) (g : mg "tree" = some (.ref f)) : Df K mg "tree" s_tree ["book", "dough"] f fd := by
  obtain ⟨kV, doc, pm, an, cdv, ct, rfl, F⟩ := fun_of F
  have ⟨p0, p1, ea⟩ : ∃ p0 p1 : Pos, defArgs s_tree = plainA [{ arg := "book", annotation := none, pos := p0 }, { arg := "dough", annotation := none, pos := p1 }] := ⟨_, _, rfl⟩
  exact ⟨F, g, by rw [ea]; exact bp_7, fun _ s us hl => .of_eq (match us, hl with | [_, _], _ => rfl), fun _ s us hl => .of_eq (match us, hl with | [_, _], _ => rfl)⟩
theorem bp_8 {x q : Str} {p0 : Pos} {body : List Stmt} {sc : Scope} {kV doc pm : Value} {an : Option Addr} {cdv ct : Value} (s : Shared) (us : List Value) (hl : us.length = 1) : BindsTo s (PySem.W.fnOf x q (plainA [{ arg := "measure", annotation := none, pos := p0 }]) body sc .none kV doc pm an cdv ct) ⟨us, []⟩ ((["measure"] : List Str).zip us) := .of_eq (match us, hl with | [_], _ => rfl)
theorem df_measure_or_none_of_it {K : PySem.W.Frag} {mg : Str → Option Value} {f : Addr} {fd : FuncData} (F : FunD K "measure_or_none_of_it" "measure_or_none_of_it" (defArgs s_measure_or_none_of_it) (defBody s_measure_or_none_of_it) (defScope s_measure_or_none_of_it) [] [] f fd) (g : mg "measure_or_none_of_it" = some (.ref f)) : Df K mg "measure_or_none_of_it" s_measure_or_none_of_it ["measure"] f fd := by
  obtain ⟨kV, doc, pm, an, cdv, ct, rfl, F⟩ := fun_of F
  have ⟨p0, ea⟩ : ∃ p0 : Pos, defArgs s_measure_or_none_of_it = plainA [{ arg := "measure", annotation := none, pos := p0 }] := ⟨_, rfl⟩
  exact ⟨F, g, by rw [ea]; exact bp_8, no_kw (by decide +kernel), no_kw (by decide +kernel)⟩
theorem df_is_measure {K : PySem.W.Frag} {mg : Str → Option Value} {f : Addr} {fd : FuncData} (F : FunD K "is_measure" "is_measure" (defArgs s_is_measure) (defBody s_is_measure) (defScope s_is_measure) [] [] f fd) (g : mg "is_measure" = some (.ref f)) : Df K mg "is_measure" s_is_measure ["thing"] f fd := by
  obtain ⟨kV, doc, pm, an, cdv, ct, rfl, F⟩ := fun_of F
  have ⟨p0, ea⟩ : ∃ p0 : Pos, defArgs s_is_measure = plainA [{ arg := "thing", annotation := none, pos := p0 }] := ⟨_, rfl⟩
  exact ⟨F, g, by rw [ea]; exact bp_0, no_kw (by decide +kernel), no_kw (by decide +kernel)⟩
theorem bp_9 {x q : Str} {p0 p1 p2 : Pos} {body : List Stmt} {sc : Scope} {kV doc pm : Value} {an : Option Addr} {cdv ct : Value} (s : Shared) (us : List Value) (hl : us.length = 3) : BindsTo s (PySem.W.fnOf x q (plainA [{ arg := "flour", annotation := none, pos := p0 }, { arg := "water", annotation := none, pos := p1 }, { arg := "salt", annotation := none, pos := p2 }]) body sc .none kV doc pm an cdv ct) ⟨us, []⟩ ((["flour", "water", "salt"] : List Str).zip us) := .of_eq (match us, hl with | [_, _, _], _ => rfl)
theorem df_are_too_much {K : PySem.W.Frag} {mg : Str → Option Value} {f : Addr} {fd : FuncData} (F : FunD K "are_too_much" "are_too_much" (defArgs s_are_too_much) (defBody s_are_too_much) (defScope s_are_too_much) [] [] f fd) (g : mg "are_too_much" = some (.ref f)) : Df K mg "are_too_much" s_are_too_much ["flour", "water", "salt"] f fd := by
  obtain ⟨kV, doc, pm, an, cdv, ct, rfl, F⟩ := fun_of F
  have ⟨p0, p1, p2, ea⟩ : ∃ p0 p1 p2 : Pos, defArgs s_are_too_much = plainA [{ arg := "flour", annotation := none, pos := p0 }, { arg := "water", annotation := none, pos := p1 }, { arg := "salt", annotation := none, pos := p2 }] := ⟨_, _, _, rfl⟩
  exact ⟨F, g, by rw [ea]; exact bp_9, no_kw (by decide +kernel), no_kw (by decide +kernel)⟩
theorem bp_10 {x q : Str} {p0 p1 : Pos} {body : List Stmt} {sc : Scope} {kV doc pm : Value} {an : Option Addr} {cdv ct : Value} (s : Shared) (us : List Value) (hl : us.length = 2) : BindsTo s (PySem.W.fnOf x q (plainA [{ arg := "name", annotation := none, pos := p0 }, { arg := "measures", annotation := none, pos := p1 }]) body sc .none kV doc pm an cdv ct) ⟨us, []⟩ ((["name", "measures"] : List Str).zip us) := .of_eq (match us, hl with | [_, _], _ => rfl)
theorem df_first_wrong {K : PySem.W.Frag} {mg : Str → Option Value} {f : Addr} {fd : FuncData} (F : FunD K "first_wrong" "first_wrong" (defArgs s_first_wrong) (defBody s_first_wrong) (defScope s_first_wrong) [] [] f fd) (g : mg "first_wrong" = some (.ref f)) : Df K mg "first_wrong" s_first_wrong ["name", "measures"] f fd := by
  obtain ⟨kV, doc, pm, an, cdv, ct, rfl, F⟩ := fun_of F
  have ⟨p0, p1, ea⟩ : ∃ p0 p1 : Pos, defArgs s_first_wrong = plainA [{ arg := "name", annotation := none, pos := p0 }, { arg := "measures", annotation := none, pos := p1 }] := ⟨_, _, rfl⟩
  exact ⟨F, g, by rw [ea]; exact bp_10, no_kw (by decide +kernel), no_kw (by decide +kernel)⟩
theorem bp_11 {x q : Str} {p0 : Pos} {body : List Stmt} {sc : Scope} {kV doc pm : Value} {an : Option Addr} {cdv ct : Value} (s : Shared) (us : List Value) (hl : us.length = 1) : BindsTo s (PySem.W.fnOf x q (plainA [{ arg := "names", annotation := none, pos := p0 }]) body sc .none kV doc pm an cdv ct) ⟨us, []⟩ ((["names"] : List Str).zip us) := .of_eq (match us, hl with | [_], _ => rfl)
theorem df_refuse_twice {K : PySem.W.Frag} {mg : Str → Option Value} {f : Addr} {fd : FuncData} (F : FunD K "refuse_twice" "refuse_twice" (defArgs s_refuse_twice) (defBody s_refuse_twice) (defScope s_refuse_twice) [] [] f fd) (g : mg "refuse_twice" = some (.ref f)) : Df K mg "refuse_twice" s_refuse_twice ["names"] f fd := by
  obtain ⟨kV, doc, pm, an, cdv, ct, rfl, F⟩ := fun_of F
  have ⟨p0, ea⟩ : ∃ p0 : Pos, defArgs s_refuse_twice = plainA [{ arg := "names", annotation := none, pos := p0 }] := ⟨_, rfl⟩
  exact ⟨F, g, by rw [ea]; exact bp_11, no_kw (by decide +kernel), no_kw (by decide +kernel)⟩
theorem bp_12 {x q : Str} {p0 p1 : Pos} {body : List Stmt} {sc : Scope} {kV doc pm : Value} {an : Option Addr} {cdv ct : Value} (s : Shared) (us : List Value) (hl : us.length = 2) : BindsTo s (PySem.W.fnOf x q (plainA [{ arg := "doughs", annotation := none, pos := p0 }, { arg := "names", annotation := none, pos := p1 }]) body sc .none kV doc pm an cdv ct) ⟨us, []⟩ ((["doughs", "names"] : List Str).zip us) := .of_eq (match us, hl with | [_, _], _ => rfl)
theorem df_refuse_unknown {K : PySem.W.Frag} {mg : Str → Option Value} {f : Addr} {fd : FuncData} (F : FunD K "refuse_unknown" "refuse_unknown" (defArgs s_refuse_unknown) (defBody s_refuse_unknown) (defScope s_refuse_unknown) [] [] f fd) (g : mg "refuse_unknown" = some (.ref f)) : Df K mg "refuse_unknown" s_refuse_unknown ["doughs", "names"] f fd := by
  obtain ⟨kV, doc, pm, an, cdv, ct, rfl, F⟩ := fun_of F
  have ⟨p0, p1, ea⟩ : ∃ p0 p1 : Pos, defArgs s_refuse_unknown = plainA [{ arg := "doughs", annotation := none, pos := p0 }, { arg := "names", annotation := none, pos := p1 }] := ⟨_, _, rfl⟩
  exact ⟨F, g, by rw [ea]; exact bp_12, no_kw (by decide +kernel), no_kw (by decide +kernel)⟩
theorem bp_13 {x q : Str} {p0 : Pos} {body : List Stmt} {sc : Scope} {kV doc pm : Value} {an : Option Addr} {cdv ct : Value} (s : Shared) (us : List Value) (hl : us.length = 1) : BindsTo s (PySem.W.fnOf x q (plainA [{ arg := "doughs", annotation := none, pos := p0 }]) body sc .none kV doc pm an cdv ct) ⟨us, []⟩ ((["doughs"] : List Str).zip us) := .of_eq (match us, hl with | [_], _ => rfl)
theorem df_inner_doughs {K : PySem.W.Frag} {mg : Str → Option Value} {f : Addr} {fd : FuncData} (F : FunD K "inner_doughs" "inner_doughs" (defArgs s_inner_doughs) (defBody s_inner_doughs) (defScope s_inner_doughs) [] [] f fd) (g : mg "inner_doughs" = some (.ref f)) : Df K mg "inner_doughs" s_inner_doughs ["doughs"] f fd := by
  obtain ⟨kV, doc, pm, an, cdv, ct, rfl, F⟩ := fun_of F
  have ⟨p0, ea⟩ : ∃ p0 : Pos, defArgs s_inner_doughs = plainA [{ arg := "doughs", annotation := none, pos := p0 }] := ⟨_, rfl⟩
  exact ⟨F, g, by rw [ea]; exact bp_13, no_kw (by decide +kernel), no_kw (by decide +kernel)⟩
theorem bp_14 {x q : Str} {p0 p1 p2 : Pos} {body : List Stmt} {sc : Scope} {kV doc pm : Value} {an : Option Addr} {cdv ct : Value} (s : Shared) (us : List Value) (hl : us.length = 3) : BindsTo s (PySem.W.fnOf x q (plainA [{ arg := "waiting", annotation := none, pos := p0 }, { arg := "made", annotation := none, pos := p1 }, { arg := "inner", annotation := none, pos := p2 }]) body sc .none kV doc pm an cdv ct) ⟨us, []⟩ ((["waiting", "made", "inner"] : List Str).zip us) := .of_eq (match us, hl with | [_, _, _], _ => rfl)
theorem df_next_made {K : PySem.W.Frag} {mg : Str → Option Value} {f : Addr} {fd : FuncData} (F : FunD K "next_made" "next_made" (defArgs s_next_made) (defBody s_next_made) (defScope s_next_made) [] [] f fd) (g : mg "next_made" = some (.ref f)) : Df K mg "next_made" s_next_made ["waiting", "made", "inner"] f fd := by
  obtain ⟨kV, doc, pm, an, cdv, ct, rfl, F⟩ := fun_of F
  have ⟨p0, p1, p2, ea⟩ : ∃ p0 p1 p2 : Pos, defArgs s_next_made = plainA [{ arg := "waiting", annotation := none, pos := p0 }, { arg := "made", annotation := none, pos := p1 }, { arg := "inner", annotation := none, pos := p2 }] := ⟨_, _, _, rfl⟩
  exact ⟨F, g, by rw [ea]; exact bp_14, no_kw (by decide +kernel), no_kw (by decide +kernel)⟩
theorem bp_15 {x q : Str} {p0 p1 : Pos} {body : List Stmt} {sc : Scope} {kV doc pm : Value} {an : Option Addr} {cdv ct : Value} (s : Shared) (us : List Value) (hl : us.length = 2) : BindsTo s (PySem.W.fnOf x q (plainA [{ arg := "names", annotation := none, pos := p0 }, { arg := "inner", annotation := none, pos := p1 }]) body sc .none kV doc pm an cdv ct) ⟨us, []⟩ ((["names", "inner"] : List Str).zip us) := .of_eq (match us, hl with | [_, _], _ => rfl)
theorem df_making_order {K : PySem.W.Frag} {mg : Str → Option Value} {f : Addr} {fd : FuncData} (F : FunD K "making_order" "making_order" (defArgs s_making_order) (defBody s_making_order) (defScope s_making_order) [] [] f fd) (g : mg "making_order" = some (.ref f)) : Df K mg "making_order" s_making_order ["names", "inner"] f fd := by
  obtain ⟨kV, doc, pm, an, cdv, ct, rfl, F⟩ := fun_of F
  have ⟨p0, p1, ea⟩ : ∃ p0 p1 : Pos, defArgs s_making_order = plainA [{ arg := "names", annotation := none, pos := p0 }, { arg := "inner", annotation := none, pos := p1 }] := ⟨_, _, rfl⟩
  exact ⟨F, g, by rw [ea]; exact bp_15, no_kw (by decide +kernel), no_kw (by decide +kernel)⟩
theorem bp_16 {x q : Str} {p0 : Pos} {body : List Stmt} {sc : Scope} {kV doc pm : Value} {an : Option Addr} {cdv ct : Value} (s : Shared) (us : List Value) (hl : us.length = 1) : BindsTo s (PySem.W.fnOf x q (plainA [{ arg := "inner", annotation := none, pos := p0 }]) body sc .none kV doc pm an cdv ct) ⟨us, []⟩ ((["inner"] : List Str).zip us) := .of_eq (match us, hl with | [_], _ => rfl)
theorem df_refuse_rings {K : PySem.W.Frag} {mg : Str → Option Value} {f : Addr} {fd : FuncData} (F : FunD K "refuse_rings" "refuse_rings" (defArgs s_refuse_rings) (defBody s_refuse_rings) (defScope s_refuse_rings) [] [] f fd) (g : mg "refuse_rings" = some (.ref f)) : Df K mg "refuse_rings" s_refuse_rings ["inner"] f fd := by
  obtain ⟨kV, doc, pm, an, cdv, ct, rfl, F⟩ := fun_of F
  have ⟨p0, ea⟩ : ∃ p0 : Pos, defArgs s_refuse_rings = plainA [{ arg := "inner", annotation := none, pos := p0 }] := ⟨_, rfl⟩
  exact ⟨F, g, by rw [ea]; exact bp_16, no_kw (by decide +kernel), no_kw (by decide +kernel)⟩
theorem df_all_within {K : PySem.W.Frag} {mg : Str → Option Value} {f : Addr} {fd : FuncData} (F : FunD K "all_within" "all_within" (defArgs s_all_within) (defBody s_all_within) (defScope s_all_within) [] [] f fd) (g : mg "all_within" = some (.ref f)) : Df K mg "all_within" s_all_within ["names", "inner"] f fd := by
  obtain ⟨kV, doc, pm, an, cdv, ct, rfl, F⟩ := fun_of F
  have ⟨p0, p1, ea⟩ : ∃ p0 p1 : Pos, defArgs s_all_within = plainA [{ arg := "names", annotation := none, pos := p0 }, { arg := "inner", annotation := none, pos := p1 }] := ⟨_, _, rfl⟩
  exact ⟨F, g, by rw [ea]; exact bp_15, no_kw (by decide +kernel), no_kw (by decide +kernel)⟩
theorem df_is_row {K : PySem.W.Frag} {mg : Str → Option Value} {f : Addr} {fd : FuncData} (F : FunD K "is_row" "is_row" (defArgs s_is_row) (defBody s_is_row) (defScope s_is_row) [] [] f fd) (g : mg "is_row" = some (.ref f)) : Df K mg "is_row" s_is_row ["thing"] f fd := by
  obtain ⟨kV, doc, pm, an, cdv, ct, rfl, F⟩ := fun_of F
  have ⟨p0, ea⟩ : ∃ p0 : Pos, defArgs s_is_row = plainA [{ arg := "thing", annotation := none, pos := p0 }] := ⟨_, rfl⟩
  exact ⟨F, g, by rw [ea]; exact bp_0, no_kw (by decide +kernel), no_kw (by decide +kernel)⟩
theorem df_are_rows {K : PySem.W.Frag} {mg : Str → Option Value} {f : Addr} {fd : FuncData} (F : FunD K "are_rows" "are_rows" (defArgs s_are_rows) (defBody s_are_rows) (defScope s_are_rows) [] [] f fd) (g : mg "are_rows" = some (.ref f)) : Df K mg "are_rows" s_are_rows ["thing"] f fd := by
  obtain ⟨kV, doc, pm, an, cdv, ct, rfl, F⟩ := fun_of F
  have ⟨p0, ea⟩ : ∃ p0 : Pos, defArgs s_are_rows = plainA [{ arg := "thing", annotation := none, pos := p0 }] := ⟨_, rfl⟩
  exact ⟨F, g, by rw [ea]; exact bp_0, no_kw (by decide +kernel), no_kw (by decide +kernel)⟩
theorem df_is_lead {K : PySem.W.Frag} {mg : Str → Option Value} {f : Addr} {fd : FuncData} (F : FunD K "is_lead" "is_lead" (defArgs s_is_lead) (defBody s_is_lead) (defScope s_is_lead) [] [] f fd) (g : mg "is_lead" = some (.ref f)) : Df K mg "is_lead" s_is_lead ["thing"] f fd := by
  obtain ⟨kV, doc, pm, an, cdv, ct, rfl, F⟩ := fun_of F
  have ⟨p0, ea⟩ : ∃ p0 : Pos, defArgs s_is_lead = plainA [{ arg := "thing", annotation := none, pos := p0 }] := ⟨_, rfl⟩
  exact ⟨F, g, by rw [ea]; exact bp_0, no_kw (by decide +kernel), no_kw (by decide +kernel)⟩
theorem bp_17 {x q : Str} {p0 p1 : Pos} {body : List Stmt} {sc : Scope} {kV doc pm : Value} {an : Option Addr} {cdv ct : Value} (s : Shared) (us : List Value) (hl : us.length = 2) : BindsTo s (PySem.W.fnOf x q (plainA [{ arg := "_law_script", annotation := none, pos := p0 }, { arg := "_law_k", annotation := none, pos := p1 }]) body sc .none kV doc pm an cdv ct) ⟨us, []⟩ ((["_law_script", "_law_k"] : List Str).zip us) := .of_eq (match us, hl with | [_, _], _ => rfl)
theorem df__law_cell {K : PySem.W.Frag} {mg : Str → Option Value} {f : Addr} {fd : FuncData} (F : FunD K "_law_cell" "_law_cell" (defArgs s__law_cell) (defBody s__law_cell) (defScope s__law_cell) [] [] f fd) (g : mg "_law_cell" = some (.ref f)) : Df K mg "_law_cell" s__law_cell ["_law_script", "_law_k"] f fd := by
  obtain ⟨kV, doc, pm, an, cdv, ct, rfl, F⟩ := fun_of F
  have ⟨p0, p1, ea⟩ : ∃ p0 p1 : Pos, defArgs s__law_cell = plainA [{ arg := "_law_script", annotation := none, pos := p0 }, { arg := "_law_k", annotation := none, pos := p1 }] := ⟨_, _, rfl⟩
  exact ⟨F, g, by rw [ea]; exact bp_17, no_kw (by decide +kernel), no_kw (by decide +kernel)⟩
theorem bp_18 {x q : Str} {p0 : Pos} {body : List Stmt} {sc : Scope} {kV doc pm : Value} {an : Option Addr} {cdv ct : Value} (s : Shared) (us : List Value) (hl : us.length = 1) : BindsTo s (PySem.W.fnOf x q (plainA [{ arg := "_law_cell_here", annotation := none, pos := p0 }]) body sc .none kV doc pm an cdv ct) ⟨us, []⟩ ((["_law_cell_here"] : List Str).zip us) := .of_eq (match us, hl with | [_], _ => rfl)
theorem df__law_pot {K : PySem.W.Frag} {mg : Str → Option Value} {f : Addr} {fd : FuncData} (F : FunD K "_law_pot" "_law_pot" (defArgs s__law_pot) (defBody s__law_pot) (defScope s__law_pot) [] [] f fd) (g : mg "_law_pot" = some (.ref f)) : Df K mg "_law_pot" s__law_pot ["_law_cell_here"] f fd := by
  obtain ⟨kV, doc, pm, an, cdv, ct, rfl, F⟩ := fun_of F
  have ⟨p0, ea⟩ : ∃ p0 : Pos, defArgs s__law_pot = plainA [{ arg := "_law_cell_here", annotation := none, pos := p0 }] := ⟨_, rfl⟩
  exact ⟨F, g, by rw [ea]; exact bp_18, no_kw (by decide +kernel), no_kw (by decide +kernel)⟩
theorem bp_19 {x q : Str} {p0 p1 : Pos} {body : List Stmt} {sc : Scope} {kV doc pm : Value} {an : Option Addr} {cdv ct : Value} (s : Shared) (us : List Value) (hl : us.length = 2) : BindsTo s (PySem.W.fnOf x q (plainA [{ arg := "_law_pot_here", annotation := none, pos := p0 }, { arg := "_law_many", annotation := none, pos := p1 }]) body sc .none kV doc pm an cdv ct) ⟨us, []⟩ ((["_law_pot_here", "_law_many"] : List Str).zip us) := .of_eq (match us, hl with | [_, _], _ => rfl)
theorem df__law_draw {K : PySem.W.Frag} {mg : Str → Option Value} {f : Addr} {fd : FuncData} (F : FunD K "_law_draw" "_law_draw" (defArgs s__law_draw) (defBody s__law_draw) (defScope s__law_draw) [] [] f fd) (g : mg "_law_draw" = some (.ref f)) : Df K mg "_law_draw" s__law_draw ["_law_pot_here", "_law_many"] f fd := by
  obtain ⟨kV, doc, pm, an, cdv, ct, rfl, F⟩ := fun_of F
  have ⟨p0, p1, ea⟩ : ∃ p0 p1 : Pos, defArgs s__law_draw = plainA [{ arg := "_law_pot_here", annotation := none, pos := p0 }, { arg := "_law_many", annotation := none, pos := p1 }] := ⟨_, _, rfl⟩
  exact ⟨F, g, by rw [ea]; exact bp_19, no_kw (by decide +kernel), no_kw (by decide +kernel)⟩
theorem bp_20 {x q : Str} {p0 p1 : Pos} {body : List Stmt} {sc : Scope} {kV doc pm : Value} {an : Option Addr} {cdv ct : Value} (s : Shared) (us : List Value) (hl : us.length = 2) : BindsTo s (PySem.W.fnOf x q (plainA [{ arg := "_law_top", annotation := none, pos := p0 }, { arg := "_law_bottom", annotation := none, pos := p1 }]) body sc .none kV doc pm an cdv ct) ⟨us, []⟩ ((["_law_top", "_law_bottom"] : List Str).zip us) := .of_eq (match us, hl with | [_, _], _ => rfl)
theorem df__law_low {K : PySem.W.Frag} {mg : Str → Option Value} {f : Addr} {fd : FuncData} (F : FunD K "_law_low" "_law_low" (defArgs s__law_low) (defBody s__law_low) (defScope s__law_low) [] [] f fd) (g : mg "_law_low" = some (.ref f)) : Df K mg "_law_low" s__law_low ["_law_top", "_law_bottom"] f fd := by
  obtain ⟨kV, doc, pm, an, cdv, ct, rfl, F⟩ := fun_of F
  have ⟨p0, p1, ea⟩ : ∃ p0 p1 : Pos, defArgs s__law_low = plainA [{ arg := "_law_top", annotation := none, pos := p0 }, { arg := "_law_bottom", annotation := none, pos := p1 }] := ⟨_, _, rfl⟩
  exact ⟨F, g, by rw [ea]; exact bp_20, no_kw (by decide +kernel), no_kw (by decide +kernel)⟩
theorem bp_21 {x q : Str} {p0 p1 : Pos} {body : List Stmt} {sc : Scope} {kV doc pm : Value} {an : Option Addr} {cdv ct : Value} (s : Shared) (us : List Value) (hl : us.length = 2) : BindsTo s (PySem.W.fnOf x q (plainA [{ arg := "_law_one", annotation := none, pos := p0 }, { arg := "_law_other", annotation := none, pos := p1 }]) body sc .none kV doc pm an cdv ct) ⟨us, []⟩ ((["_law_one", "_law_other"] : List Str).zip us) := .of_eq (match us, hl with | [_, _], _ => rfl)
theorem df__law_sum {K : PySem.W.Frag} {mg : Str → Option Value} {f : Addr} {fd : FuncData} (F : FunD K "_law_sum" "_law_sum" (defArgs s__law_sum) (defBody s__law_sum) (defScope s__law_sum) [] [] f fd) (g : mg "_law_sum" = some (.ref f)) : Df K mg "_law_sum" s__law_sum ["_law_one", "_law_other"] f fd := by
  obtain ⟨kV, doc, pm, an, cdv, ct, rfl, F⟩ := fun_of F
  have ⟨p0, p1, ea⟩ : ∃ p0 p1 : Pos, defArgs s__law_sum = plainA [{ arg := "_law_one", annotation := none, pos := p0 }, { arg := "_law_other", annotation := none, pos := p1 }] := ⟨_, _, rfl⟩
  exact ⟨F, g, by rw [ea]; exact bp_21, no_kw (by decide +kernel), no_kw (by decide +kernel)⟩
theorem bp_22 {x q : Str} {p0 : Pos} {body : List Stmt} {sc : Scope} {kV doc pm : Value} {an : Option Addr} {cdv ct : Value} (s : Shared) (us : List Value) (hl : us.length = 1) : BindsTo s (PySem.W.fnOf x q (plainA [{ arg := "_law_some_here", annotation := none, pos := p0 }]) body sc .none kV doc pm an cdv ct) ⟨us, []⟩ ((["_law_some_here"] : List Str).zip us) := .of_eq (match us, hl with | [_], _ => rfl)
theorem df__law_total {K : PySem.W.Frag} {mg : Str → Option Value} {f : Addr} {fd : FuncData} (F : FunD K "_law_total" "_law_total" (defArgs s__law_total) (defBody s__law_total) (defScope s__law_total) [] [] f fd) (g : mg "_law_total" = some (.ref f)) : Df K mg "_law_total" s__law_total ["_law_some_here"] f fd := by
  obtain ⟨kV, doc, pm, an, cdv, ct, rfl, F⟩ := fun_of F
  have ⟨p0, ea⟩ : ∃ p0 : Pos, defArgs s__law_total = plainA [{ arg := "_law_some_here", annotation := none, pos := p0 }] := ⟨_, rfl⟩
  exact ⟨F, g, by rw [ea]; exact bp_22, no_kw (by decide +kernel), no_kw (by decide +kernel)⟩
theorem bp_23 {x q : Str} {p0 p1 : Pos} {body : List Stmt} {sc : Scope} {kV doc pm : Value} {an : Option Addr} {cdv ct : Value} (s : Shared) (us : List Value) (hl : us.length = 2) : BindsTo s (PySem.W.fnOf x q (plainA [{ arg := "_law_pot_here", annotation := none, pos := p0 }, { arg := "_law_taken", annotation := none, pos := p1 }]) body sc .none kV doc pm an cdv ct) ⟨us, []⟩ ((["_law_pot_here", "_law_taken"] : List Str).zip us) := .of_eq (match us, hl with | [_, _], _ => rfl)
theorem df__law_name {K : PySem.W.Frag} {mg : Str → Option Value} {f : Addr} {fd : FuncData} (F : FunD K "_law_name" "_law_name" (defArgs s__law_name) (defBody s__law_name) (defScope s__law_name) [] [] f fd) (g : mg "_law_name" = some (.ref f)) : Df K mg "_law_name" s__law_name ["_law_pot_here", "_law_taken"] f fd := by
  obtain ⟨kV, doc, pm, an, cdv, ct, rfl, F⟩ := fun_of F
  have ⟨p0, p1, ea⟩ : ∃ p0 p1 : Pos, defArgs s__law_name = plainA [{ arg := "_law_pot_here", annotation := none, pos := p0 }, { arg := "_law_taken", annotation := none, pos := p1 }] := ⟨_, _, rfl⟩
  exact ⟨F, g, by rw [ea]; exact bp_23, no_kw (by decide +kernel), no_kw (by decide +kernel)⟩
theorem df__law_names {K : PySem.W.Frag} {mg : Str → Option Value} {f : Addr} {fd : FuncData} (F : FunD K "_law_names" "_law_names" (defArgs s__law_names) (defBody s__law_names) (defScope s__law_names) [] [] f fd) (g : mg "_law_names" = some (.ref f)) : Df K mg "_law_names" s__law_names ["_law_pot_here", "_law_many"] f fd := by
  obtain ⟨kV, doc, pm, an, cdv, ct, rfl, F⟩ := fun_of F
  have ⟨p0, p1, ea⟩ : ∃ p0 p1 : Pos, defArgs s__law_names = plainA [{ arg := "_law_pot_here", annotation := none, pos := p0 }, { arg := "_law_many", annotation := none, pos := p1 }] := ⟨_, _, rfl⟩
  exact ⟨F, g, by rw [ea]; exact bp_19, no_kw (by decide +kernel), no_kw (by decide +kernel)⟩
theorem bp_24 {x q : Str} {p0 p1 p2 : Pos} {body : List Stmt} {sc : Scope} {kV doc pm : Value} {an : Option Addr} {cdv ct : Value} (s : Shared) (us : List Value) (hl : us.length = 3) : BindsTo s (PySem.W.fnOf x q (plainA [{ arg := "_law_pot_here", annotation := none, pos := p0 }, { arg := "_law_least", annotation := none, pos := p1 }, { arg := "_law_most", annotation := none, pos := p2 }]) body sc .none kV doc pm an cdv ct) ⟨us, []⟩ ((["_law_pot_here", "_law_least", "_law_most"] : List Str).zip us) := .of_eq (match us, hl with | [_, _, _], _ => rfl)
theorem df__law_some {K : PySem.W.Frag} {mg : Str → Option Value} {f : Addr} {fd : FuncData} (F : FunD K "_law_some" "_law_some" (defArgs s__law_some) (defBody s__law_some) (defScope s__law_some) [] [] f fd) (g : mg "_law_some" = some (.ref f)) : Df K mg "_law_some" s__law_some ["_law_pot_here", "_law_least", "_law_most"] f fd := by
  obtain ⟨kV, doc, pm, an, cdv, ct, rfl, F⟩ := fun_of F
  have ⟨p0, p1, p2, ea⟩ : ∃ p0 p1 p2 : Pos, defArgs s__law_some = plainA [{ arg := "_law_pot_here", annotation := none, pos := p0 }, { arg := "_law_least", annotation := none, pos := p1 }, { arg := "_law_most", annotation := none, pos := p2 }] := ⟨_, _, _, rfl⟩
  exact ⟨F, g, by rw [ea]; exact bp_24, no_kw (by decide +kernel), no_kw (by decide +kernel)⟩
theorem bp_25 {x q : Str} {p0 p1 : Pos} {body : List Stmt} {sc : Scope} {kV doc pm : Value} {an : Option Addr} {cdv ct : Value} (s : Shared) (us : List Value) (hl : us.length = 2) : BindsTo s (PySem.W.fnOf x q (plainA [{ arg := "_law_pot_here", annotation := none, pos := p0 }, { arg := "_law_name_here", annotation := none, pos := p1 }]) body sc .none kV doc pm an cdv ct) ⟨us, []⟩ ((["_law_pot_here", "_law_name_here"] : List Str).zip us) := .of_eq (match us, hl with | [_, _], _ => rfl)
theorem df__law_stuff {K : PySem.W.Frag} {mg : Str → Option Value} {f : Addr} {fd : FuncData} (F : FunD K "_law_stuff" "_law_stuff" (defArgs s__law_stuff) (defBody s__law_stuff) (defScope s__law_stuff) [] [] f fd) (g : mg "_law_stuff" = some (.ref f)) : Df K mg "_law_stuff" s__law_stuff ["_law_pot_here", "_law_name_here"] f fd := by
  obtain ⟨kV, doc, pm, an, cdv, ct, rfl, F⟩ := fun_of F
  have ⟨p0, p1, ea⟩ : ∃ p0 p1 : Pos, defArgs s__law_stuff = plainA [{ arg := "_law_pot_here", annotation := none, pos := p0 }, { arg := "_law_name_here", annotation := none, pos := p1 }] := ⟨_, _, rfl⟩
  exact ⟨F, g, by rw [ea]; exact bp_25, no_kw (by decide +kernel), no_kw (by decide +kernel)⟩
theorem bp_26 {x q : Str} {p0 p1 p2 p3 : Pos} {body : List Stmt} {sc : Scope} {kV doc pm : Value} {an : Option Addr} {cdv ct : Value} (s : Shared) (us : List Value) (hl : us.length = 4) : BindsTo s (PySem.W.fnOf x q (plainA [{ arg := "_law_pot_here", annotation := none, pos := p0 }, { arg := "_law_stuffs", annotation := none, pos := p1 }, { arg := "_law_ahead", annotation := none, pos := p2 }, { arg := "_law_great", annotation := none, pos := p3 }]) body sc .none kV doc pm an cdv ct) ⟨us, []⟩ ((["_law_pot_here", "_law_stuffs", "_law_ahead", "_law_great"] : List Str).zip us) := .of_eq (match us, hl with | [_, _, _, _], _ => rfl)
theorem df__law_rows {K : PySem.W.Frag} {mg : Str → Option Value} {f : Addr} {fd : FuncData} (F : FunD K "_law_rows" "_law_rows" (defArgs s__law_rows) (defBody s__law_rows) (defScope s__law_rows) [] [] f fd) (g : mg "_law_rows" = some (.ref f)) : Df K mg "_law_rows" s__law_rows ["_law_pot_here", "_law_stuffs", "_law_ahead", "_law_great"] f fd := by
  obtain ⟨kV, doc, pm, an, cdv, ct, rfl, F⟩ := fun_of F
  have ⟨p0, p1, p2, p3, ea⟩ : ∃ p0 p1 p2 p3 : Pos, defArgs s__law_rows = plainA [{ arg := "_law_pot_here", annotation := none, pos := p0 }, { arg := "_law_stuffs", annotation := none, pos := p1 }, { arg := "_law_ahead", annotation := none, pos := p2 }, { arg := "_law_great", annotation := none, pos := p3 }] := ⟨_, _, _, _, rfl⟩
  exact ⟨F, g, by rw [ea]; exact bp_26, no_kw (by decide +kernel), no_kw (by decide +kernel)⟩
theorem bp_27 {x q : Str} {p0 : Pos} {body : List Stmt} {sc : Scope} {kV doc pm : Value} {an : Option Addr} {cdv ct : Value} (s : Shared) (us : List Value) (hl : us.length = 1) : BindsTo s (PySem.W.fnOf x q (plainA [{ arg := "_law_pot_here", annotation := none, pos := p0 }]) body sc .none kV doc pm an cdv ct) ⟨us, []⟩ ((["_law_pot_here"] : List Str).zip us) := .of_eq (match us, hl with | [_], _ => rfl)
theorem df__law_model {K : PySem.W.Frag} {mg : Str → Option Value} {f : Addr} {fd : FuncData} (F : FunD K "_law_model" "_law_model" (defArgs s__law_model) (defBody s__law_model) (defScope s__law_model) [] [] f fd) (g : mg "_law_model" = some (.ref f)) : Df K mg "_law_model" s__law_model ["_law_pot_here"] f fd := by
  obtain ⟨kV, doc, pm, an, cdv, ct, rfl, F⟩ := fun_of F
  have ⟨p0, ea⟩ : ∃ p0 : Pos, defArgs s__law_model = plainA [{ arg := "_law_pot_here", annotation := none, pos := p0 }] := ⟨_, rfl⟩
  exact ⟨F, g, by rw [ea]; exact bp_27, no_kw (by decide +kernel), no_kw (by decide +kernel)⟩
theorem bp_28 {x q : Str} {p0 p1 : Pos} {body : List Stmt} {sc : Scope} {kV doc pm : Value} {an : Option Addr} {cdv ct : Value} (s : Shared) (us : List Value) (hl : us.length = 2) : BindsTo s (PySem.W.fnOf x q (plainA [{ arg := "_law_pot_here", annotation := none, pos := p0 }, { arg := "_law_some_here", annotation := none, pos := p1 }]) body sc .none kV doc pm an cdv ct) ⟨us, []⟩ ((["_law_pot_here", "_law_some_here"] : List Str).zip us) := .of_eq (match us, hl with | [_, _], _ => rfl)
theorem df__law_turned {K : PySem.W.Frag} {mg : Str → Option Value} {f : Addr} {fd : FuncData} (F : FunD K "_law_turned" "_law_turned" (defArgs s__law_turned) (defBody s__law_turned) (defScope s__law_turned) [] [] f fd) (g : mg "_law_turned" = some (.ref f)) : Df K mg "_law_turned" s__law_turned ["_law_pot_here", "_law_some_here"] f fd := by
  obtain ⟨kV, doc, pm, an, cdv, ct, rfl, F⟩ := fun_of F
  have ⟨p0, p1, ea⟩ : ∃ p0 p1 : Pos, defArgs s__law_turned = plainA [{ arg := "_law_pot_here", annotation := none, pos := p0 }, { arg := "_law_some_here", annotation := none, pos := p1 }] := ⟨_, _, rfl⟩
  exact ⟨F, g, by rw [ea]; exact bp_28, no_kw (by decide +kernel), no_kw (by decide +kernel)⟩
theorem bp_29 {x q : Str} {p0 : Pos} {body : List Stmt} {sc : Scope} {kV doc pm : Value} {an : Option Addr} {cdv ct : Value} (s : Shared) (us : List Value) (hl : us.length = 1) : BindsTo s (PySem.W.fnOf x q (plainA [{ arg := "_law_row", annotation := none, pos := p0 }]) body sc .none kV doc pm an cdv ct) ⟨us, []⟩ ((["_law_row"] : List Str).zip us) := .of_eq (match us, hl with | [_], _ => rfl)
theorem df__law_stuff_made {K : PySem.W.Frag} {mg : Str → Option Value} {f : Addr} {fd : FuncData} (F : FunD K "_law_stuff_made" "_law_stuff_made" (defArgs s__law_stuff_made) (defBody s__law_stuff_made) (defScope s__law_stuff_made) [] [] f fd) (g : mg "_law_stuff_made" = some (.ref f)) : Df K mg "_law_stuff_made" s__law_stuff_made ["_law_row"] f fd := by
  obtain ⟨kV, doc, pm, an, cdv, ct, rfl, F⟩ := fun_of F
  have ⟨p0, ea⟩ : ∃ p0 : Pos, defArgs s__law_stuff_made = plainA [{ arg := "_law_row", annotation := none, pos := p0 }] := ⟨_, rfl⟩
  exact ⟨F, g, by rw [ea]; exact bp_29, no_kw (by decide +kernel), no_kw (by decide +kernel)⟩
theorem bp_30 {x q : Str} {p0 p1 : Pos} {body : List Stmt} {sc : Scope} {kV doc pm : Value} {an : Option Addr} {cdv ct : Value} (s : Shared) (us : List Value) (hl : us.length = 2) : BindsTo s (PySem.W.fnOf x q (plainA [{ arg := "_law_stuffs", annotation := none, pos := p0 }, { arg := "_law_doughs", annotation := none, pos := p1 }]) body sc .none kV doc pm an cdv ct) ⟨us, []⟩ ((["_law_stuffs", "_law_doughs"] : List Str).zip us) := .of_eq (match us, hl with | [_, _], _ => rfl)
theorem df__law_made {K : PySem.W.Frag} {mg : Str → Option Value} {f : Addr} {fd : FuncData} (F : FunD K "_law_made" "_law_made" (defArgs s__law_made) (defBody s__law_made) (defScope s__law_made) [] [] f fd) (g : mg "_law_made" = some (.ref f)) : Df K mg "_law_made" s__law_made ["_law_stuffs", "_law_doughs"] f fd := by
  obtain ⟨kV, doc, pm, an, cdv, ct, rfl, F⟩ := fun_of F
  have ⟨p0, p1, ea⟩ : ∃ p0 p1 : Pos, defArgs s__law_made = plainA [{ arg := "_law_stuffs", annotation := none, pos := p0 }, { arg := "_law_doughs", annotation := none, pos := p1 }] := ⟨_, _, rfl⟩
  exact ⟨F, g, by rw [ea]; exact bp_30, no_kw (by decide +kernel), no_kw (by decide +kernel)⟩
theorem bp_31 {x q : Str} {p0 p1 p2 p3 : Pos} {body : List Stmt} {sc : Scope} {kV doc pm : Value} {an : Option Addr} {cdv ct : Value} (s : Shared) (us : List Value) (hl : us.length = 4) : BindsTo s (PySem.W.fnOf x q (plainA [{ arg := "_law_rows_of", annotation := none, pos := p0 }, { arg := "_law_name_here", annotation := none, pos := p1 }, { arg := "_law_ahead", annotation := none, pos := p2 }, { arg := "_law_shown", annotation := none, pos := p3 }]) body sc .none kV doc pm an cdv ct) ⟨us, []⟩ ((["_law_rows_of", "_law_name_here", "_law_ahead", "_law_shown"] : List Str).zip us) := .of_eq (match us, hl with | [_, _, _, _], _ => rfl)
theorem df__law_lines {K : PySem.W.Frag} {mg : Str → Option Value} {f : Addr} {fd : FuncData} (F : FunD K "_law_lines" "_law_lines" (defArgs s__law_lines) (defBody s__law_lines) (defScope s__law_lines) [] [] f fd) (g : mg "_law_lines" = some (.ref f)) : Df K mg "_law_lines" s__law_lines ["_law_rows_of", "_law_name_here", "_law_ahead", "_law_shown"] f fd := by
  obtain ⟨kV, doc, pm, an, cdv, ct, rfl, F⟩ := fun_of F
  have ⟨p0, p1, p2, p3, ea⟩ : ∃ p0 p1 p2 p3 : Pos, defArgs s__law_lines = plainA [{ arg := "_law_rows_of", annotation := none, pos := p0 }, { arg := "_law_name_here", annotation := none, pos := p1 }, { arg := "_law_ahead", annotation := none, pos := p2 }, { arg := "_law_shown", annotation := none, pos := p3 }] := ⟨_, _, _, _, rfl⟩
  exact ⟨F, g, by rw [ea]; exact bp_31, no_kw (by decide +kernel), no_kw (by decide +kernel)⟩
theorem bp_32 {x q : Str} {p0 p1 : Pos} {body : List Stmt} {sc : Scope} {kV doc pm : Value} {an : Option Addr} {cdv ct : Value} (s : Shared) (us : List Value) (hl : us.length = 2) : BindsTo s (PySem.W.fnOf x q (plainA [{ arg := "_law_doughs", annotation := none, pos := p0 }, { arg := "_law_name_here", annotation := none, pos := p1 }]) body sc .none kV doc pm an cdv ct) ⟨us, []⟩ ((["_law_doughs", "_law_name_here"] : List Str).zip us) := .of_eq (match us, hl with | [_, _], _ => rfl)
theorem df__law_due {K : PySem.W.Frag} {mg : Str → Option Value} {f : Addr} {fd : FuncData} (F : FunD K "_law_due" "_law_due" (defArgs s__law_due) (defBody s__law_due) (defScope s__law_due) [] [] f fd) (g : mg "_law_due" = some (.ref f)) : Df K mg "_law_due" s__law_due ["_law_doughs", "_law_name_here"] f fd := by
  obtain ⟨kV, doc, pm, an, cdv, ct, rfl, F⟩ := fun_of F
  have ⟨p0, p1, ea⟩ : ∃ p0 p1 : Pos, defArgs s__law_due = plainA [{ arg := "_law_doughs", annotation := none, pos := p0 }, { arg := "_law_name_here", annotation := none, pos := p1 }] := ⟨_, _, rfl⟩
  exact ⟨F, g, by rw [ea]; exact bp_32, no_kw (by decide +kernel), no_kw (by decide +kernel)⟩
theorem bp_33 {x q : Str} {p0 p1 : Pos} {body : List Stmt} {sc : Scope} {kV doc pm : Value} {an : Option Addr} {cdv ct : Value} (s : Shared) (us : List Value) (hl : us.length = 2) : BindsTo s (PySem.W.fnOf x q (plainA [{ arg := "_law_made_here", annotation := none, pos := p0 }, { arg := "_law_doughs", annotation := none, pos := p1 }]) body sc .none kV doc pm an cdv ct) ⟨us, []⟩ ((["_law_made_here", "_law_doughs"] : List Str).zip us) := .of_eq (match us, hl with | [_, _], _ => rfl)
theorem df__law_are_right {K : PySem.W.Frag} {mg : Str → Option Value} {f : Addr} {fd : FuncData} (F : FunD K "_law_are_right" "_law_are_right" (defArgs s__law_are_right) (defBody s__law_are_right) (defScope s__law_are_right) [] [] f fd) (g : mg "_law_are_right" = some (.ref f)) : Df K mg "_law_are_right" s__law_are_right ["_law_made_here", "_law_doughs"] f fd := by
  obtain ⟨kV, doc, pm, an, cdv, ct, rfl, F⟩ := fun_of F
  have ⟨p0, p1, ea⟩ : ∃ p0 p1 : Pos, defArgs s__law_are_right = plainA [{ arg := "_law_made_here", annotation := none, pos := p0 }, { arg := "_law_doughs", annotation := none, pos := p1 }] := ⟨_, _, rfl⟩
  exact ⟨F, g, by rw [ea]; exact bp_33, no_kw (by decide +kernel), no_kw (by decide +kernel)⟩
theorem bp_34 {x q : Str} {p0 p1 : Pos} {body : List Stmt} {sc : Scope} {kV doc pm : Value} {an : Option Addr} {cdv ct : Value} (s : Shared) (us : List Value) (hl : us.length = 2) : BindsTo s (PySem.W.fnOf x q (plainA [{ arg := "_law_made_here", annotation := none, pos := p0 }, { arg := "_law_thing", annotation := none, pos := p1 }]) body sc .none kV doc pm an cdv ct) ⟨us, []⟩ ((["_law_made_here", "_law_thing"] : List Str).zip us) := .of_eq (match us, hl with | [_, _], _ => rfl)
theorem df__law_is_refused {K : PySem.W.Frag} {mg : Str → Option Value} {f : Addr} {fd : FuncData} (F : FunD K "_law_is_refused" "_law_is_refused" (defArgs s__law_is_refused) (defBody s__law_is_refused) (defScope s__law_is_refused) [] [] f fd) (g : mg "_law_is_refused" = some (.ref f)) : Df K mg "_law_is_refused" s__law_is_refused ["_law_made_here", "_law_thing"] f fd := by
  obtain ⟨kV, doc, pm, an, cdv, ct, rfl, F⟩ := fun_of F
  have ⟨p0, p1, ea⟩ : ∃ p0 p1 : Pos, defArgs s__law_is_refused = plainA [{ arg := "_law_made_here", annotation := none, pos := p0 }, { arg := "_law_thing", annotation := none, pos := p1 }] := ⟨_, _, rfl⟩
  exact ⟨F, g, by rw [ea]; exact bp_34, no_kw (by decide +kernel), no_kw (by decide +kernel)⟩
theorem df__law_right {K : PySem.W.Frag} {mg : Str → Option Value} {f : Addr} {fd : FuncData} (F : FunD K "_law_right" "_law_right" (defArgs s__law_right) (defBody s__law_right) (defScope s__law_right) [] [] f fd) (g : mg "_law_right" = some (.ref f)) : Df K mg "_law_right" s__law_right ["_law_pot_here"] f fd := by
  obtain ⟨kV, doc, pm, an, cdv, ct, rfl, F⟩ := fun_of F
  have ⟨p0, ea⟩ : ∃ p0 : Pos, defArgs s__law_right = plainA [{ arg := "_law_pot_here", annotation := none, pos := p0 }] := ⟨_, rfl⟩
  exact ⟨F, g, by rw [ea]; exact bp_27, no_kw (by decide +kernel), no_kw (by decide +kernel)⟩
theorem bp_35 {x q : Str} {p0 : Pos} {body : List Stmt} {sc : Scope} {kV doc pm : Value} {an : Option Addr} {cdv ct : Value} (s : Shared) (us : List Value) (hl : us.length = 1) : BindsTo s (PySem.W.fnOf x q (plainA [{ arg := "_law_script", annotation := none, pos := p0 }]) body sc .none kV doc pm an cdv ct) ⟨us, []⟩ ((["_law_script"] : List Str).zip us) := .of_eq (match us, hl with | [_], _ => rfl)
theorem df_law {K : PySem.W.Frag} {mg : Str → Option Value} {f : Addr} {fd : FuncData} (F : FunD K "law" "law" (defArgs s_law) (defBody s_law) (defScope s_law) [] [] f fd) (g : mg "law" = some (.ref f)) : Df K mg "law" s_law ["_law_script"] f fd := by
  obtain ⟨kV, doc, pm, an, cdv, ct, rfl, F⟩ := fun_of F
  have ⟨p0, ea⟩ : ∃ p0 : Pos, defArgs s_law = plainA [{ arg := "_law_script", annotation := none, pos := p0 }] := ⟨_, rfl⟩
  exact ⟨F, g, by rw [ea]; exact bp_35, no_kw (by decide +kernel), no_kw (by decide +kernel)⟩
theorem mt_dname {K : PySem.W.Frag} {f : Addr} {fd : FuncData} (F : FunD K "name" "Dough.name" (defArgs s_dname) (defBody s_dname) (defScope s_dname) [] [] f fd) : Fun K "name" "Dough.name" s_dname f fd ∧ ∀ (s : Shared) (us : List Value), us.length = 1 → BindsTo s fd ⟨us, []⟩ ((["self"] : List Str).zip us) := by
  obtain ⟨kV, doc, pm, an, cdv, ct, rfl, F⟩ := fun_of F
  exact ⟨F, fun s us hl => .of_eq (match us, hl with | [_], _ => rfl)⟩
theorem mt_drows {K : PySem.W.Frag} {f : Addr} {fd : FuncData} (F : FunD K "rows" "Dough.rows" (defArgs s_drows) (defBody s_drows) (defScope s_drows) [] [] f fd) : Fun K "rows" "Dough.rows" s_drows f fd ∧ ∀ (s : Shared) (us : List Value), us.length = 1 → BindsTo s fd ⟨us, []⟩ ((["self"] : List Str).zip us) := by
  obtain ⟨kV, doc, pm, an, cdv, ct, rfl, F⟩ := fun_of F
  exact ⟨F, fun s us hl => .of_eq (match us, hl with | [_], _ => rfl)⟩
theorem mt_dlead {K : PySem.W.Frag} {f : Addr} {fd : FuncData} (F : FunD K "lead" "Dough.lead" (defArgs s_dlead) (defBody s_dlead) (defScope s_dlead) [] [] f fd) : Fun K "lead" "Dough.lead" s_dlead f fd ∧ ∀ (s : Shared) (us : List Value), us.length = 1 → BindsTo s fd ⟨us, []⟩ ((["self"] : List Str).zip us) := by
  obtain ⟨kV, doc, pm, an, cdv, ct, rfl, F⟩ := fun_of F
  exact ⟨F, fun s us hl => .of_eq (match us, hl with | [_], _ => rfl)⟩
theorem mt_dtotal {K : PySem.W.Frag} {f : Addr} {fd : FuncData} (F : FunD K "total" "Dough.total" (defArgs s_dtotal) (defBody s_dtotal) (defScope s_dtotal) [] [] f fd) : Fun K "total" "Dough.total" s_dtotal f fd ∧ ∀ (s : Shared) (us : List Value), us.length = 1 → BindsTo s fd ⟨us, []⟩ ((["self"] : List Str).zip us) := by
  obtain ⟨kV, doc, pm, an, cdv, ct, rfl, F⟩ := fun_of F
  exact ⟨F, fun s us hl => .of_eq (match us, hl with | [_], _ => rfl)⟩
theorem mt_sname {K : PySem.W.Frag} {f : Addr} {fd : FuncData} (F : FunD K "name" "Stuff.name" (defArgs s_sname) (defBody s_sname) (defScope s_sname) [] [] f fd) : Fun K "name" "Stuff.name" s_sname f fd ∧ ∀ (s : Shared) (us : List Value), us.length = 1 → BindsTo s fd ⟨us, []⟩ ((["self"] : List Str).zip us) := by
  obtain ⟨kV, doc, pm, an, cdv, ct, rfl, F⟩ := fun_of F
  exact ⟨F, fun s us hl => .of_eq (match us, hl with | [_], _ => rfl)⟩
theorem mt_bdough {K : PySem.W.Frag} {f : Addr} {fd : FuncData} (F : FunD K "dough" "Book.dough" (defArgs s_bdough) (defBody s_bdough) (defScope s_bdough) [] [] f fd) : Fun K "dough" "Book.dough" s_bdough f fd ∧ ∀ (s : Shared) (us : List Value), us.length = 2 → BindsTo s fd ⟨us, []⟩ ((["self", "name"] : List Str).zip us) := by
  obtain ⟨kV, doc, pm, an, cdv, ct, rfl, F⟩ := fun_of F
  exact ⟨F, fun s us hl => .of_eq (match us, hl with | [_, _], _ => rfl)⟩
theorem mt_bput {K : PySem.W.Frag} {f : Addr} {fd : FuncData} (F : FunD K "put" "Book.put" (defArgs s_bput) (defBody s_bput) (defScope s_bput) [] [] f fd) : Fun K "put" "Book.put" s_bput f fd ∧ ∀ (s : Shared) (us : List Value), us.length = 2 → BindsTo s fd ⟨us, []⟩ ((["self", "thing"] : List Str).zip us) := by
  obtain ⟨kV, doc, pm, an, cdv, ct, rfl, F⟩ := fun_of F
  exact ⟨F, fun s us hl => .of_eq (match us, hl with | [_, _], _ => rfl)⟩
theorem mt_bstuffs {K : PySem.W.Frag} {f : Addr} {fd : FuncData} (F : FunD K "stuffs" "Book.stuffs" (defArgs s_bstuffs) (defBody s_bstuffs) (defScope s_bstuffs) [] [] f fd) : Fun K "stuffs" "Book.stuffs" s_bstuffs f fd ∧ ∀ (s : Shared) (us : List Value), us.length = 1 → BindsTo s fd ⟨us, []⟩ ((["self"] : List Str).zip us) := by
  obtain ⟨kV, doc, pm, an, cdv, ct, rfl, F⟩ := fun_of F
  exact ⟨F, fun s us hl => .of_eq (match us, hl with | [_], _ => rfl)⟩
theorem mt_bdoughs {K : PySem.W.Frag} {f : Addr} {fd : FuncData} (F : FunD K "doughs" "Book.doughs" (defArgs s_bdoughs) (defBody s_bdoughs) (defScope s_bdoughs) [] [] f fd) : Fun K "doughs" "Book.doughs" s_bdoughs f fd ∧ ∀ (s : Shared) (us : List Value), us.length = 1 → BindsTo s fd ⟨us, []⟩ ((["self"] : List Str).zip us) := by
  obtain ⟨kV, doc, pm, an, cdv, ct, rfl, F⟩ := fun_of F
  exact ⟨F, fun s us hl => .of_eq (match us, hl with | [_], _ => rfl)⟩
theorem all_mk {l : PySem.W.OpenLaw} {w : World} {K : PySem.W.Frag} {h : Heap} {mg : Str → Option Value} {fa : Addr} (X : K.In h) (G : h.Ns mainGlobals mg) (hfa : mg "law" = some (.ref fa)) (c : SaysY hdFa hdFn K) (hfile : l.prog.main.file = FILE) (htop : (l.prog.main.scope.names.lookup ("super" : Str)).isSome = false) :
    ∃ fd : FuncData, (∀ (s : Shared) (v : Value), BindsTo s fd ⟨[v], []⟩ [("_law_script", v)]) ∧ ∀ base : Heap, K.In base → base.Ns mainGlobals mg → FnG l.prog w K mg base CX0 24 fa fd ["_law_script"] (sp_law K) := by
  have M : Blt mg := ⟨He.free_ok X G (c.fact 57), He.free_ok X G (c.fact 58), He.free_ok X G (c.fact 59), He.free_ok X G (c.fact 60), He.free_ok X G (c.fact 61), He.free_ok X G (c.fact 62), He.free_ok X G (c.fact 63), He.free_ok X G (c.fact 64), He.free_ok X G (c.fact 65), He.free_ok X G (c.fact 66)⟩
  obtain ⟨xC, kC, bC, tC⟩ := He.exc_ok (c.fact 67)
  have T : ExT K mg "NoFraction" (He.ga K "NoFraction") := ⟨He.glo_ok X G (c.fact 69), xC, kC, bC, tC, He.exm_ok (c.fact 68)⟩
  obtain ⟨t_LETTERS, g_LETTERS⟩ := He.str_ok X G (c.fact 70)
  obtain ⟨t_LONGEST_NAME, g_LONGEST_NAME⟩ := He.int_ok X G (c.fact 71)
  obtain ⟨t_MOST_ROWS, g_MOST_ROWS⟩ := He.int_ok X G (c.fact 72)
  obtain ⟨t_LONGEST_LEAD, g_LONGEST_LEAD⟩ := He.int_ok X G (c.fact 73)
  obtain ⟨fd0, FD0⟩ := c.def_ 13
  have D0 := df_is_whole FD0 (He.glo_ok X G (c.fact 74))
  obtain ⟨fd1, FD1⟩ := c.def_ 14
  have D1 := df_common FD1 (He.glo_ok X G (c.fact 75))
  obtain ⟨fd2, FD2⟩ := c.def_ 15
  have D2 := df_fraction FD2 (He.glo_ok X G (c.fact 76))
  obtain ⟨fd3, FD3⟩ := c.def_ 16
  have D3 := df_plus FD3 (He.glo_ok X G (c.fact 77))
  obtain ⟨fd4, FD4⟩ := c.def_ 17
  have D4 := df_over FD4 (He.glo_ok X G (c.fact 78))
  obtain ⟨fd5, FD5⟩ := c.def_ 18
  have D5 := df_together FD5 (He.glo_ok X G (c.fact 79))
  obtain ⟨fd6, FD6⟩ := c.def_ 19
  have D6 := df_is_less FD6 (He.glo_ok X G (c.fact 80))
  obtain ⟨fd7, FD7⟩ := c.def_ 20
  have D7 := df_is_fraction FD7 (He.glo_ok X G (c.fact 81))
  obtain ⟨fd8, FD8⟩ := c.def_ 21
  have D8 := df_is_above_0 FD8 (He.glo_ok X G (c.fact 82))
  obtain ⟨fd9, FD9⟩ := c.def_ 22
  have D9 := df_fraction_text FD9 (He.glo_ok X G (c.fact 83))
  obtain ⟨fd10, FD10⟩ := c.def_ 23
  have D10 := df_is_name FD10 (He.glo_ok X G (c.fact 84))
  obtain ⟨fd11, FD11⟩ := c.def_ 24
  have D11 := df_is_one_of FD11 (He.glo_ok X G (c.fact 85))
  obtain ⟨fd12, FD12⟩ := c.def_ 25
  have D12 := df_add_lines FD12 (He.glo_ok X G (c.fact 86))
  obtain ⟨fd13, FD13⟩ := c.def_ 26
  have D13 := df_tree FD13 (He.glo_ok X G (c.fact 87))
  obtain ⟨fd14, FD14⟩ := c.def_ 27
  have D14 := df_measure_or_none_of_it FD14 (He.glo_ok X G (c.fact 88))
  obtain ⟨fd15, FD15⟩ := c.def_ 28
  have D15 := df_is_measure FD15 (He.glo_ok X G (c.fact 89))
  obtain ⟨fd16, FD16⟩ := c.def_ 29
  have D16 := df_are_too_much FD16 (He.glo_ok X G (c.fact 90))
  obtain ⟨fd17, FD17⟩ := c.def_ 30
  have D17 := df_first_wrong FD17 (He.glo_ok X G (c.fact 91))
  obtain ⟨fd18, FD18⟩ := c.def_ 31
  have D18 := df_refuse_twice FD18 (He.glo_ok X G (c.fact 92))
  obtain ⟨fd19, FD19⟩ := c.def_ 32
  have D19 := df_refuse_unknown FD19 (He.glo_ok X G (c.fact 93))
  obtain ⟨fd20, FD20⟩ := c.def_ 33
  have D20 := df_inner_doughs FD20 (He.glo_ok X G (c.fact 94))
  obtain ⟨fd21, FD21⟩ := c.def_ 34
  have D21 := df_next_made FD21 (He.glo_ok X G (c.fact 95))
  obtain ⟨fd22, FD22⟩ := c.def_ 35
  have D22 := df_making_order FD22 (He.glo_ok X G (c.fact 96))
  obtain ⟨fd23, FD23⟩ := c.def_ 36
  have D23 := df_refuse_rings FD23 (He.glo_ok X G (c.fact 97))
  obtain ⟨fd24, FD24⟩ := c.def_ 37
  have D24 := df_all_within FD24 (He.glo_ok X G (c.fact 98))
  obtain ⟨fd25, FD25⟩ := c.def_ 38
  have D25 := df_is_row FD25 (He.glo_ok X G (c.fact 99))
  obtain ⟨fd26, FD26⟩ := c.def_ 39
  have D26 := df_are_rows FD26 (He.glo_ok X G (c.fact 100))
  obtain ⟨fd27, FD27⟩ := c.def_ 40
  have D27 := df_is_lead FD27 (He.glo_ok X G (c.fact 101))
  obtain ⟨fd28, FD28⟩ := c.def_ 41
  have D28 := df__law_cell FD28 (He.glo_ok X G (c.fact 102))
  obtain ⟨fd29, FD29⟩ := c.def_ 42
  have D29 := df__law_pot FD29 (He.glo_ok X G (c.fact 103))
  obtain ⟨fd30, FD30⟩ := c.def_ 43
  have D30 := df__law_draw FD30 (He.glo_ok X G (c.fact 104))
  obtain ⟨fd31, FD31⟩ := c.def_ 44
  have D31 := df__law_low FD31 (He.glo_ok X G (c.fact 105))
  obtain ⟨fd32, FD32⟩ := c.def_ 45
  have D32 := df__law_sum FD32 (He.glo_ok X G (c.fact 106))
  obtain ⟨fd33, FD33⟩ := c.def_ 46
  have D33 := df__law_total FD33 (He.glo_ok X G (c.fact 107))
  obtain ⟨fd34, FD34⟩ := c.def_ 47
  have D34 := df__law_name FD34 (He.glo_ok X G (c.fact 108))
  obtain ⟨fd35, FD35⟩ := c.def_ 48
  have D35 := df__law_names FD35 (He.glo_ok X G (c.fact 109))
  obtain ⟨fd36, FD36⟩ := c.def_ 49
  have D36 := df__law_some FD36 (He.glo_ok X G (c.fact 110))
  obtain ⟨fd37, FD37⟩ := c.def_ 50
  have D37 := df__law_stuff FD37 (He.glo_ok X G (c.fact 111))
  obtain ⟨fd38, FD38⟩ := c.def_ 51
  have D38 := df__law_rows FD38 (He.glo_ok X G (c.fact 112))
  obtain ⟨fd39, FD39⟩ := c.def_ 52
  have D39 := df__law_model FD39 (He.glo_ok X G (c.fact 113))
  obtain ⟨fd40, FD40⟩ := c.def_ 53
  have D40 := df__law_turned FD40 (He.glo_ok X G (c.fact 114))
  obtain ⟨fd41, FD41⟩ := c.def_ 54
  have D41 := df__law_stuff_made FD41 (He.glo_ok X G (c.fact 115))
  obtain ⟨fd42, FD42⟩ := c.def_ 55
  have D42 := df__law_made FD42 (He.glo_ok X G (c.fact 116))
  obtain ⟨fd43, FD43⟩ := c.def_ 56
  have D43 := df__law_lines FD43 (He.glo_ok X G (c.fact 117))
  obtain ⟨fd44, FD44⟩ := c.def_ 57
  have D44 := df__law_due FD44 (He.glo_ok X G (c.fact 118))
  obtain ⟨fd45, FD45⟩ := c.def_ 58
  have D45 := df__law_are_right FD45 (He.glo_ok X G (c.fact 119))
  obtain ⟨fd46, FD46⟩ := c.def_ 59
  have D46 := df__law_is_refused FD46 (He.glo_ok X G (c.fact 120))
  obtain ⟨fd47, FD47⟩ := c.def_ 60
  have D47 := df__law_right FD47 (He.glo_ok X G (c.fact 121))
  obtain ⟨fd48, FD48⟩ := c.def_ 61
  have D48 := df_law FD48 (He.glo_ok X G (c.fact 122))
  have e := hfa.symm.trans D48.g
  cases e
  refine ⟨_, fun s v => D48.b1 s [v] rfl, fun base _ _ => ?_⟩
  have Mx : Bltx mg := ⟨He.free_ok X G (c.fact 0), He.free_ok X G (c.fact 1), He.free_ok X G (c.fact 2)⟩
  have hn : PySem.W.specialIn K (.builtin "object.__class__") "__get__" = some (some (.builtin "getset_descriptor.__get__")) := of_decide_eq_true (c.fact 3)
  have htk : PySem.W.takesIn K (.builtin "object.__class__") = some true := of_decide_eq_true (c.fact 4)
  have Gc0 := He.glo_ok X G (c.fact 5)
  have Tc0 : ∀ H, SqT K H (He.ga K "NONE_OF_IT") [.int 0, .int 1] := fun H => He.tupB_ok (c.fact 6) H
  have Gc1 := He.glo_ok X G (c.fact 7)
  have Tc1 : ∀ H, SqT K H (He.ga K "ALL_OF_IT") [.int 1, .int 1] := fun H => He.tupB_ok (c.fact 8) H
  have Gcw := He.glo_ok X G (c.fact 9)
  have Tcw : ∀ H, SqT K H (He.ga K "WORDS") (words.map V.str) := fun H => He.tupB_ok (c.fact 10) H
  have CT3 : Cst3 K mg (He.ga K "NONE_OF_IT") (He.ga K "ALL_OF_IT") (He.ga K "WORDS") := ⟨Gc0, Gc1, Gcw, Tc0, Tc1, Tcw⟩
  obtain ⟨fdD, FDD⟩ := c.def_ 0
  have FDD : FunD K "__init__" "Dough.__init__" (defArgs s_dinit) (defBody s_dinit) (defScope s_dinit) [.int 0] [] (He.ma K (He.ga K "Dough") "__init__") fdD := FDD
  have MKD : Mk K (He.ga K "Dough") (He.ma K (He.ga K "Dough") "__init__") := He.mkr_ok (c.fact 11)
  have XKD : Cls K (He.ga K "Dough") := He.cls_ok (c.fact 12)
  have XD : DghF K (He.ga K "Dough") := ⟨XKD, He.noat_ok (c.fact 13), He.noat_ok (c.fact 14), He.noat_ok (c.fact 15)⟩
  have clD : PySem.W.findIn K (.ref (He.ga K "Dough")) "__class__" = some (some (.builtin "object.__class__")) := of_decide_eq_true (c.fact 16)
  have moD : PySem.W.mroIn K (He.ga K "Dough") (.type "object") = some true := of_decide_eq_true (c.fact 17)
  have YD : ClsX K (He.ga K "Dough") := ⟨XKD, clD, hn, htk, moD⟩
  have GCD := He.glo_ok X G (c.fact 18)
  obtain ⟨fd_dname, FD_dname⟩ := c.def_ 1
  have FM_dname := mt_dname FD_dname
  have ME_dname : Meth K (He.ga K "Dough") "name" (He.ma K (He.ga K "Dough") "name") := He.meth_ok (c.fact 19)
  obtain ⟨fd_drows, FD_drows⟩ := c.def_ 2
  have FM_drows := mt_drows FD_drows
  have ME_drows : Meth K (He.ga K "Dough") "rows" (He.ma K (He.ga K "Dough") "rows") := He.meth_ok (c.fact 20)
  obtain ⟨fd_dlead, FD_dlead⟩ := c.def_ 3
  have FM_dlead := mt_dlead FD_dlead
  have ME_dlead : Meth K (He.ga K "Dough") "lead" (He.ma K (He.ga K "Dough") "lead") := He.meth_ok (c.fact 21)
  obtain ⟨fd_dtotal, FD_dtotal⟩ := c.def_ 4
  have FM_dtotal := mt_dtotal FD_dtotal
  have ME_dtotal : Meth K (He.ga K "Dough") "total" (He.ma K (He.ga K "Dough") "total") := He.meth_ok (c.fact 22)
  obtain ⟨fdS, FDS⟩ := c.def_ 5
  have FDS : FunD K "__init__" "Stuff.__init__" (defArgs s_sinit) (defBody s_sinit) (defScope s_sinit) [.non, .non, .non, .non, .non] [] (He.ma K (He.ga K "Stuff") "__init__") fdS := FDS
  have MKS : Mk K (He.ga K "Stuff") (He.ma K (He.ga K "Stuff") "__init__") := He.mkr_ok (c.fact 23)
  have XKS : Cls K (He.ga K "Stuff") := He.cls_ok (c.fact 24)
  have XS : StF K (He.ga K "Stuff") := ⟨XKS, He.noat_ok (c.fact 25), He.noat_ok (c.fact 26)⟩
  have clS : PySem.W.findIn K (.ref (He.ga K "Stuff")) "__class__" = some (some (.builtin "object.__class__")) := of_decide_eq_true (c.fact 27)
  have moS : PySem.W.mroIn K (He.ga K "Stuff") (.type "object") = some true := of_decide_eq_true (c.fact 28)
  have YS : ClsX K (He.ga K "Stuff") := ⟨XKS, clS, hn, htk, moS⟩
  have GCS := He.glo_ok X G (c.fact 29)
  obtain ⟨fd_sname, FD_sname⟩ := c.def_ 6
  have FM_sname := mt_sname FD_sname
  have ME_sname : Meth K (He.ga K "Stuff") "name" (He.ma K (He.ga K "Stuff") "name") := He.meth_ok (c.fact 30)
  obtain ⟨fdB, FDB⟩ := c.def_ 7
  have FDB : FunD K "__init__" "Book.__init__" (defArgs s_binit) (defBody s_binit) (defScope s_binit) [] [] (He.ma K (He.ga K "Book") "__init__") fdB := FDB
  have MKB : Mk K (He.ga K "Book") (He.ma K (He.ga K "Book") "__init__") := He.mkr_ok (c.fact 31)
  have XKB : Cls K (He.ga K "Book") := He.cls_ok (c.fact 32)
  have XB : BkF K (He.ga K "Book") := ⟨XKB, He.noat_ok (c.fact 33), He.noat_ok (c.fact 34), He.noat_ok (c.fact 35)⟩
  have clB : PySem.W.findIn K (.ref (He.ga K "Book")) "__class__" = some (some (.builtin "object.__class__")) := of_decide_eq_true (c.fact 36)
  have moB : PySem.W.mroIn K (He.ga K "Book") (.type "object") = some true := of_decide_eq_true (c.fact 37)
  have YB : ClsX K (He.ga K "Book") := ⟨XKB, clB, hn, htk, moB⟩
  have GCB := He.glo_ok X G (c.fact 38)
  obtain ⟨fd_bdough, FD_bdough⟩ := c.def_ 8
  have FM_bdough := mt_bdough FD_bdough
  have ME_bdough : Meth K (He.ga K "Book") "dough" (He.ma K (He.ga K "Book") "dough") := He.meth_ok (c.fact 39)
  obtain ⟨fd_bput, FD_bput⟩ := c.def_ 9
  have FM_bput := mt_bput FD_bput
  have ME_bput : Meth K (He.ga K "Book") "put" (He.ma K (He.ga K "Book") "put") := He.meth_ok (c.fact 40)
  obtain ⟨fd_bstuffs, FD_bstuffs⟩ := c.def_ 10
  have FM_bstuffs := mt_bstuffs FD_bstuffs
  have ME_bstuffs : Meth K (He.ga K "Book") "stuffs" (He.ma K (He.ga K "Book") "stuffs") := He.meth_ok (c.fact 41)
  obtain ⟨fd_bdoughs, FD_bdoughs⟩ := c.def_ 11
  have FM_bdoughs := mt_bdoughs FD_bdoughs
  have ME_bdoughs : Meth K (He.ga K "Book") "doughs" (He.ma K (He.ga K "Book") "doughs") := He.meth_ok (c.fact 42)
  have ml := He.free_ok X G (c.fact 43)
  have ms := He.free_ok X G (c.fact 44)
  have mdi := He.free_ok X G (c.fact 45)
  have mso := He.free_ok X G (c.fact 46)
  have mrv := He.free_ok X G (c.fact 47)
  have mzi := He.free_ok X G (c.fact 48)
  have C1 : Cal l.prog w K mg base CX0 1 "common" ["one", "other"] (spCom) := D1.cal (ok_com D1.fn)
  have C2 : Cal l.prog w K mg base CX0 2 "fraction" ["top", "bottom"] (fun _ _ _ _ => False) := D2.cal FnG.no
  have C4 : Cal l.prog w K mg base CX0 4 "fraction" ["top", "bottom"] (spFrac true) := by
    have P1 : FnG l.prog w K mg base CX0 3 _ _ ["top", "bottom"] (spFrac false) := ok_frac (j := 1) false _ (fun n d H Q hd hs => by
      obtain ⟨n', d', e, _, hp, _⟩ := hs
      cases e
      have := hp rfl
      omega) M T D2.fn C1 C2
    have CR : Cal l.prog w K mg base CX0 3 "fraction" ["top", "bottom"] (spFrac false) := D2.cal P1
    exact D2.cal (ok_frac (j := 2) true _ (fun n d H Q hd hs => by
      obtain ⟨n', d', e, h0, _, h1, h2, q⟩ := hs
      cases e
      refine ⟨-n, -d, rfl, by omega, fun _ => by omega, ?_, ?_, ?_⟩
      · show (-n).natAbs < _
        rw [Int.natAbs_neg]
        exact h1
      · show (-d).natAbs < _
        rw [Int.natAbs_neg]
        exact h2
      · rw [low_neg]
        exact q) M T D2.fn C1 CR)
  have CPl : Cal l.prog w K mg base CX0 5 "plus" ["one", "other"] (sp_plus K) := D3.cal (ok_plus D3.fn C4)
  have COv : Cal l.prog w K mg base CX0 5 "over" ["one", "other"] (sp_over K) := D4.cal (ok_over D4.fn C4)
  have CL : Cal l.prog w K mg base CX0 1 "is_less" ["one", "other"] (sp_is_less K) := D6.cal (ok_is_less D6.fn)
  have CTg : Cal l.prog w K mg base CX0 6 "together" ["ones"] (sp_togL K) := D5.cal (ok_togL Gc0 Tc0 D5.fn CPl)
  have CW : Cal l.prog w K mg base CX0 1 "is_whole" ["thing"] (sp_whole K) := D0.cal (ok_whole M Mx D0.fn)
  have CF : Cal l.prog w K mg base CX0 2 "is_fraction" ["thing"] (sp_isfr K) := D7.cal (ok_isfr M Mx D7.fn CW C1)
  have CN : Cal l.prog w K mg base CX0 2 "is_name" ["thing"] (sp_isnm K) := D10.cal (ok_isnm M Mx g_LETTERS g_LONGEST_NAME D10.fn)
  have CA : Cal l.prog w K mg base CX0 3 "is_above_0" ["thing"] (sp_ab0 K) := D8.cal (ok_ab0 D8.fn CF)
  have CRo : Cal l.prog w K mg base CX0 4 "is_row" ["thing"] (sp_isrow K) := D25.cal (ok_isrow M Mx D25.fn CN CA)
  have CRs : Cal l.prog w K mg base CX0 5 "are_rows" ["thing"] (sp_arer K) := D26.cal (FnG.or (ok_arerL M Mx ml ms g_MOST_ROWS D26.fn CRo) (ok_arerT M Mx ml ms g_MOST_ROWS D26.fn CRo))
  have CLd : Cal l.prog w K mg base CX0 2 "is_lead" ["thing"] (sp_lead K) := D27.cal (ok_lead g_LONGEST_LEAD D27.fn CW)
  have FID := ok_dinit (P := l.prog) (w := w) (base := base) (mg := mg) Mx XD FDD CN CRs CLd
  have MPD : MakG l.prog w K mg base CX0 6 "Dough" (He.ga K "Dough") (He.ma K (He.ga K "Dough") "__init__") _ ["self", "name", "rows", "lead"] (sp_dinit K (He.ga K "Dough")) := ⟨MKD, FID, GCD⟩
  have DMn : MetG l.prog w K mg base CX0 1 (He.ga K "Dough") "name" (He.ma K (He.ga K "Dough") "name") fd_dname ["self"] (sp_dname K (He.ga K "Dough")) := ⟨XKD, ME_dname, ok_dname XD FM_dname.1, FM_dname.2⟩
  have DMr : MetG l.prog w K mg base CX0 1 (He.ga K "Dough") "rows" (He.ma K (He.ga K "Dough") "rows") fd_drows ["self"] (sp_drows K (He.ga K "Dough")) := ⟨XKD, ME_drows, ok_drows ml XD FM_drows.1, FM_drows.2⟩
  have DMl : MetG l.prog w K mg base CX0 1 (He.ga K "Dough") "lead" (He.ma K (He.ga K "Dough") "lead") fd_dlead ["self"] (sp_dlead K (He.ga K "Dough")) := ⟨XKD, ME_dlead, ok_dlead XD FM_dlead.1, FM_dlead.2⟩
  have DMt : MetG l.prog w K mg base CX0 7 (He.ga K "Dough") "total" (He.ma K (He.ga K "Dough") "total") fd_dtotal ["self"] (sp_dtotal K (He.ga K "Dough")) := ⟨XKD, ME_dtotal, ok_dtotal XD FM_dtotal.1 CTg, FM_dtotal.2⟩
  obtain ⟨dgall, dhall⟩ := dall_of FDD
  obtain ⟨dgtwo, dhtwo⟩ := dtwo_of FDD
  have COr : Cal l.prog w K mg base CX0 1 "measure_or_none_of_it" ["measure"] (sp_orG K) := D14.cal (ok_orG CT3 D14.fn)
  have CMs : Cal l.prog w K mg base CX0 3 "is_measure" ["thing"] (sp_isMf K) := D15.cal (ok_isMf D15.fn CF)
  have CTm : Cal l.prog w K mg base CX0 7 "are_too_much" ["flour", "water", "salt"] (sp_tooG K) := D16.cal (ok_tooG CT3 D16.fn CTg CL)
  have CFw : Cal l.prog w K mg base CX0 8 "first_wrong" ["name", "measures"] (sp_fwG K) := D17.cal (ok_fwG mzi CT3 D17.fn CN CMs CTm)
  have FIS := ok_sinit (P := l.prog) (w := w) (base := base) (mg := mg) M Mx XS FDS COr CFw
  have MPS : MakG l.prog w K mg base CX0 9 "Stuff" (He.ga K "Stuff") (He.ma K (He.ga K "Stuff") "__init__") _ ["self", "name", "flour", "water", "salt", "thirst", "price"] (sp_sinit K (He.ga K "Stuff")) := ⟨MKS, FIS, GCS⟩
  have SMn : MetG l.prog w K mg base CX0 1 (He.ga K "Stuff") "name" (He.ma K (He.ga K "Stuff") "name") fd_sname ["self"] (sp_sname K (He.ga K "Stuff")) := ⟨XKS, ME_sname, ok_sname XS FM_sname.1, FM_sname.2⟩
  obtain ⟨sgall, shall⟩ := sall_of FDS
  have CRt : Cal l.prog w K mg base CX0 1 "refuse_twice" ["names"] (sp_rtw K) := D18.cal (ok_rtw ms D18.fn)
  have CRu : Cal l.prog w K mg base CX0 2 "refuse_unknown" ["doughs", "names"] (sp_run K (He.ga K "Dough")) := D19.cal (ok_run DMn DMr D19.fn)
  have CIn : Cal l.prog w K mg base CX0 2 "inner_doughs" ["doughs"] (sp_inn K (He.ga K "Dough")) := D20.cal (ok_inn DMn DMr D20.fn)
  have CNx : Cal l.prog w K mg base CX0 1 "next_made" ["waiting", "made", "inner"] (sp_nxm K) := D21.cal (ok_nxm M D21.fn)
  have CMk : Cal l.prog w K mg base CX0 2 "making_order" ["names", "inner"] (sp_mko K) := D22.cal (ok_mko M ms mso D22.fn CNx)
  have CAw : Cal l.prog w K mg base CX0 1 "all_within" ["names", "inner"] (sp_awn K) := D24.cal (ok_awn M ml D24.fn)
  have CRr : Cal l.prog w K mg base CX0 3 "refuse_rings" ["inner"] (sp_rri K) := D23.cal (ok_rri M ml D23.fn CMk)
  have CIo : Cal l.prog w K mg base CX0 1 "is_one_of" ["thing", "names"] (sp_ioD) := D11.cal (ok_ioD M Mx D11.fn)
  have FIB := ok_binit (P := l.prog) (w := w) (base := base) (mg := mg) (fr := He.ga K "Book") (fdr := fdB) XB FDB SMn DMn CRt CRu CIn CRr
  have MPB : MakG l.prog w K mg base CX0 4 "Book" (He.ga K "Book") (He.ma K (He.ga K "Book") "__init__") _ ["self", "stuffs", "doughs"] (sp_binit K (He.ga K "Book") (He.ga K "Stuff") (He.ga K "Dough")) := ⟨MKB, FIB, GCB⟩
  obtain ⟨bgall, bhall⟩ := ball_of FDB
  have BMd : MetG l.prog w K mg base CX0 2 (He.ga K "Book") "dough" (He.ma K (He.ga K "Book") "dough") fd_bdough ["self", "name"] (sp_bdough K (He.ga K "Book") (He.ga K "Stuff") (He.ga K "Dough")) := ⟨XKB, ME_bdough, ok_bdough XB FM_bdough.1 CIo, FM_bdough.2⟩
  have kSD : PySem.W.kitOne K (.ref (He.ga K "Dough")) (.ref (He.ga K "Stuff")) = some false := of_decide_eq_true (c.fact 49)
  have BMp : MetG l.prog w K mg base CX0 6 (He.ga K "Book") "put" (He.ma K (He.ga K "Book") "put") fd_bput ["self", "thing"] (sp_bput K (He.ga K "Book") (He.ga K "Stuff") (He.ga K "Dough")) := ⟨XKB, ME_bput, ok_bput Mx mdi ml GCS kSD YD XB bhall MPB DMn FM_bput.1, FM_bput.2⟩
  have B1 : Cal l.prog w K mg base CX0 1 "_law_cell" ["_law_script", "_law_k"] (sp_cell K) := D28.cal (ok_cell M D28.fn)
  have B2 : Cal l.prog w K mg base CX0 1 "_law_pot" ["_law_cell_here"] (sp_pot) := D29.cal (ok_pot M D29.fn)
  have B3 : Cal l.prog w K mg base CX0 1 "_law_draw" ["_law_pot_here", "_law_many"] (sp_draw) := D30.cal (ok_draw M D30.fn)
  have B4 : Cal l.prog w K mg base CX0 1 "_law_low" ["_law_top", "_law_bottom"] (sp_low) := D31.cal (ok_low M D31.fn)
  have B5 : Cal l.prog w K mg base CX0 2 "_law_name" ["_law_pot_here", "_law_taken"] (sp_name K) := D34.cal (ok_name M D34.fn B3)
  have B6 : Cal l.prog w K mg base CX0 3 "_law_names" ["_law_pot_here", "_law_many"] (sp_names K) := D35.cal (ok_names M D35.fn B5)
  have BS : Cal l.prog w K mg base CX0 2 "_law_sum" ["_law_one", "_law_other"] (sp_plus K) := D32.cal (ok_lsum D32.fn B4)
  have BT : Cal l.prog w K mg base CX0 3 "_law_total" ["_law_some_here"] (sp_togL K) := D33.cal (ok_ltotal D33.fn BS)
  have B7 : Cal l.prog w K mg base CX0 2 "_law_some" ["_law_pot_here", "_law_least", "_law_most"] (sp_lsome K) := D36.cal (ok_lsome D36.fn B3 B4)
  have B8 : Cal l.prog w K mg base CX0 3 "_law_stuff" ["_law_pot_here", "_law_name_here"] (sp_lstuff K) := D37.cal (ok_lstuff M Mx D37.fn B3 B4 B7)
  have B9 : Cal l.prog w K mg base CX0 2 "_law_rows" ["_law_pot_here", "_law_stuffs", "_law_ahead", "_law_great"] (sp_lrows K) := D38.cal (ok_lrows M ml mrv D38.fn B3 B4)
  have B10 : Cal l.prog w K mg base CX0 4 "_law_model" ["_law_pot_here"] (sp_lmodel K) := D39.cal (ok_lmodel M D39.fn B3 B6 B8 B9)
  have B11 : Cal l.prog w K mg base CX0 2 "_law_turned" ["_law_pot_here", "_law_some_here"] (sp_turnG K) := D40.cal (ok_turnG M ml D40.fn B3)
  have gL := He.glo_ok X G (c.fact 50)
  have MV := He.free_ok X G (c.fact 51)
  obtain ⟨e_TN, o_TN⟩ := c.at_ 12 rfl
  obtain ⟨fdNoName, TN⟩ := xtB_ok (mg := mg) (ps := ["who"]) (st := sx_NoName) (qual := "NoName.__init__") hfile htop (He.glo_ok X G (c.fact 53)) (He.free_ok X G (c.fact 54)) (c.fact 52) e_TN o_TN rfl (fun cc kV doc pm an cdv ct us hl => match us, hl with | [_, _], _ => rfl)
  have mLN := He.exm_ok (c.fact 55)
  have kVN : PySem.W.kitOne K (.ref (He.ga K "NoName")) (.type "ValueError") = some true := of_decide_eq_true (c.fact 56)
  have CFt : Cal l.prog w K mg base CX0 1 "fraction_text" ["one"] (sp_fraction_text K) := D9.cal (ok_fraction_text D9.fn)
  have CIx : Cal l.prog w K mg base CX0 1 "is_one_of" ["thing", "names"] (sp_ioX K) := D11.cal (ok_ioX M Mx D11.fn)
  have BMdX : MetG l.prog w K mg base (L2.CX l.prog w) 3 (He.ga K "Book") "dough" (He.ma K (He.ga K "Book") "dough") fd_bdough ["self", "name"] (sp_bdoughX K (He.ga K "Book") (He.ga K "Stuff") (He.ga K "Dough") (He.ga K "NoName")) := ⟨XKB, ME_bdough, ok_bdoughX TN XB FM_bdough.1 CIx, FM_bdough.2⟩
  have BMn : MetG l.prog w K mg base CX0 1 (He.ga K "Book") "doughs" (He.ma K (He.ga K "Book") "doughs") fd_bdoughs ["self"] (sp_bdoughs K (He.ga K "Book") (He.ga K "Stuff") (He.ga K "Dough")) := ⟨XKB, ME_bdoughs, ok_bdoughs ml XB FM_bdoughs.1, FM_bdoughs.2⟩
  have ADN := ok_addN BMd DMt DMr BMn D12.cal D12.fn COv CFt 12
  have CTr : Cal l.prog w K mg base CX0 21 "tree" ["book", "dough"] (sp_tree K (He.ga K "Book") (He.ga K "Stuff") (He.ga K "Dough")) := D13.cal (ok_tree BMd DMn D13.fn ADN)
  have CTx : Cal l.prog w K mg base (L2.CX l.prog w) 21 "tree" ["book", "dough"] (sp_treeX K (He.ga K "Book") (He.ga K "Stuff") (He.ga K "Dough") (He.ga K "NoName")) := D13.cal (ok_treeX D13.fn BMdX DMn ADN)
  have LIN := ok_linesN M D43.cal D43.fn BT B4 12
  have LD : Cal l.prog w K mg base CX0 17 "_law_due" ["_law_doughs", "_law_name_here"] (sp_ldue K) := D44.cal (ok_ldue mdi D44.fn LIN)
  have LA : Cal l.prog w K mg base CX0 22 "_law_are_right" ["_law_made_here", "_law_doughs"] (sp_aright K (He.ga K "Book") (He.ga K "Stuff") (He.ga K "Dough")) := D45.cal (ok_aright M Mx ml D45.fn CTr LD)
  have LR : Cal l.prog w K mg base CX0 22 "_law_is_refused" ["_law_made_here", "_law_thing"] (sp_isref K (He.ga K "Book") (He.ga K "Stuff") (He.ga K "Dough")) := D46.cal (ok_isref M Mx TN gL mLN D46.fn CTx)
  have LS : Cal l.prog w K mg base CX0 11 "_law_stuff_made" ["_law_row"] (sp_smade K (He.ga K "Stuff")) := D41.cal (ok_smade shall MPS D41.fn)
  have LM : Cal l.prog w K mg base CX0 12 "_law_made" ["_law_stuffs", "_law_doughs"] (sp_lmade K (He.ga K "Book") (He.ga K "Stuff") (He.ga K "Dough")) := D42.cal (ok_lmade dhall MPD bhall MPB D42.fn LS)
  have LT : Cal l.prog w K mg base CX0 23 "_law_right" ["_law_pot_here"] (sp_right K) := D47.cal (ok_right dhtwo MPD BMp M D47.fn B3 B10 B11 LM LA LR)
  exact ok_law M D48.fn B1 B2 LT
end Lf

set_option Elab.async false
set_option linter.all false
set_option maxRecDepth 100000
set_option maxHeartbeats 0
namespace Lf
open PySem PySem.Spec PyProof.Rows L2
end Lf
open PySem PySem.W PySem.Calls PyProof.Rows
theorem PySem.Challenge.cw_loafshares_k73_trees_holds : PySem.Challenge.rw_loafshares_k73_trees.Holds := by
  w_on; o_law
  refine HandSHeadRun.head_any (r := OpenLaw.row PySem.Challenge.rw_loafshares_k73_trees) (q := view (OpenLaw.row PySem.Challenge.rw_loafshares_k73_trees).prog [74]) (H := Lf.hdK) (ob := Lf.hdOb) (M := 14000) (loose := Lf.hdLoose) (d := HandSHeadRun.topDef (OpenLaw.row PySem.Challenge.rw_loafshares_k73_trees).prog 74) (kwd := []) Lf.hdOb_eq
    (by kernel_rfl) (fun s => by kernel_rfl) Lf.hdRun (by kernel_rfl) (by kernel_rfl) (by kernel_rfl) (by rfl) (by first | assumption | decide +kernel) (by decide +kernel) ⟨rfl, rfl, rfl, rfl, rfl, by decide +kernel⟩ ?hw ?hc
  case hw => w_witness2
  case hc =>
    refine Lf.walkX (l := PySem.Challenge.rw_loafshares_k73_trees) (n := 63) (k := 24) (x := "_law_script") (sp := Lf.sp_law) rfl (by decide) (by kernel_rfl) ⟨rfl, by decide, by decide⟩ ?F (fun K H a ns hl _ hS => ⟨a, ns, rfl, hS, hl, fun _ => rfl⟩)
    intro w mg fa h Y G hmg0
    obtain ⟨K, KX, c⟩ := Y
    have hmg : mg ("law" : PySem.Str) = some (.ref fa) := by
      have e : (HandSHeadRun.topDef (OpenLaw.row PySem.Challenge.rw_loafshares_k73_trees).prog 74).name = ("law" : PySem.Str) := by kernel_rfl
      rw [← e]
      exact hmg0
    obtain ⟨fd, hb, hF⟩ := Lf.all_mk (l := PySem.Challenge.rw_loafshares_k73_trees) (w := w) KX G hmg c (by kernel_rfl) (by kernel_rfl)
    exact ⟨K, KX, fd, hb, hF⟩
