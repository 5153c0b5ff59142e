import PyProof.Rows.All
import Wide.All
import OpenK.AllK
import Wide.FinOn
import HandS.ForExc
import HandS.Comp
import HandS.Wide
import KE.KStateDown
import HandS.Ends
import HandS.More
import HandS.Defaults
import HandS.Head0
import HandS.Head1
import HandS.Head2
import HandS.HeadEnd
import HandS.HeadHook1
import HandS.HeadHook2
import KE.KExcSuper
import HandS.Nested
import HandS.ExcInit
import KE.KIsAll
import KE.KExcIs
import KE.KTryMore
import HandS.Base
import HandS.Call
import HandS.Exc
import HandS.ExcIs
import HandS.ExcField
import HandS.ExcOwn
import HandS.FStr
import HandS.CallLocal
import HandS.WideBits
import HandS.Text
import HandS.IsInst
import HandS.Dict
import HandS.Steps
import HandS.Walk
import HandS.Deep
import PyProof.CallFns
import PyProof.ReprBulk
import HandS.MakeKw
import HandS.Strs
import PyProof.Rows.SetFrom
import PyProof.SetKind
import PyProof.WalksS
import HandS.OwnEq
import PyProof.FactsAll.object_2
import PyProof.FactsAll.NoneType_1
import PyProof.FactsAll.str_1
import PyProof.FactsAll.str_2
import PyProof.FactsAll.int_1
import PyProof.FactsAll.int_3
import PyProof.FactsAll.list_1
import PyProof.FactsAll.list_2
import PyProof.FactsAll.tuple_1
import PyProof.FactsAll.tuple_2
import HandS.Star
import PyProof.Rows.AssignMoreSeq
import HandS.Iter
import HandS.TryMany
import KE.DataMinMax
import HandS.HotCalls
import HandS.Conv
import KE.KDictDisplayH
import KE.KDictCopyH
import PySem.Challenge.RW_loafshares_k57_pans_refused
set_option Elab.async false
set_option linter.all false
set_option maxRecDepth 100000
set_option maxHeartbeats 4000000
/-! Defs that show data by repr: the promise FnG holds where nothing is being shown (no guard stands), as it is behind a law's call. -/
namespace Lf
open PySem PySem.Spec PyProof.Rows L2
/-- a def's promise where no guard stands -/
structure FnG (P : Program) (w : World) (K : PySem.W.Frag) (mg : Str → Option Value) (base : Heap) (CX : CXT) (k : Nat) (f : Addr) (fd : FuncData) (ps : List Str) (sp : Sp) : Prop where
  size : ∀ vs H Q E, sp vs H Q E → vs.length = ps.length
  goes : ∀ (B : Around) (out : List Env) (s : Shared) (H : Hp) (ar : Args) (us : List Value) (vs : List V) (Q : VK) (E : XK),
    Room k B → B.guards = some [] → Env0 P w K mg base B out s H → BindsTo s fd ar (ps.zip us) → Vals vs us → sp vs H Q E →
      codeAny (model P w) B (.call (.ref f) ar) (CR CX out P w H s Q E) s
section
variable {P : Program} {w : World} {K : PySem.W.Frag} {mg : Str → Option Value} {base : Heap} {CX : CXT} {k : Nat} {f : Addr} {fd : FuncData} {ps : List Str} {sp : Sp}
theorem FnG.mono {j : Nat} (F : FnG P w K mg base CX j f fd ps sp) (h : j ≤ k) : FnG P w K mg base CX k f fd ps sp :=
  ⟨F.size, fun B out s H ar us vs Q E r => F.goes B out s H ar us vs Q E (r.mono h)⟩
theorem FnG.of (F : FnOk P w K mg base CX k f fd ps sp) : FnG P w K mg base CX k f fd ps sp :=
  ⟨F.len, fun B out s H ar us vs Q E r _ => F.run B out s H ar us vs Q E r⟩
/-- by its body: behind the entry no guard stands either -/
theorem GfunX {x qual : Str} {st : Stmt} {N : List Str} (F : Fun K x qual st f fd) (S : FnScope N ps (defScope st)) (size : ∀ vs H Q E, sp vs H Q E → vs.length = ps.length)
    (body : ∀ (cdv : Value) (B : Around) (out : List Env) (s : Shared) (H : Hp) (vs : List V) (Q : VK) (E : XK), B.guards = some [] →
      Room k (B.deeper (envOfC qual (defScope st) s.heap.objs.size f cdv)) → sp vs H Q E →
      ∃ t, PSs (cxOf CX P w K mg base N qual (defScope st) f cdv B out s H E) (defBody st) t ∧
        t { nx := fun _ H' => Q .non H', rt := Q } (start N vs) H) : FnG P w K mg base CX (k + 1) f fd ps sp := by
  obtain ⟨oc, od, kV, doc, pm, an, cdv, ct, osl, rfl, lk, hcd⟩ := F.ex
  refine ⟨size, fun B out s H ar us vs Q E hr hg e0 hb r hs => ?_⟩
  have old : ∀ b o, base.get? b = some o → s.heap.get? b = some o := fun b o e => (e0.bs b o e).1
  have kin : K.In s.heap := e0.mod.kin.keeps old
  refine codeAny_call_function hr.depth (kin _ _ lk) rfl S.co S.gen rfl (PySem.W.codeRec_of kin hcd) (hb _ _ _ _ ?_)
  refine wpAny_newFunctionEnv_cells S.kind (fun ⟨n, v⟩ hy => ?_) fun env he s1 x => ?_
  · rcases S.par n (List.of_mem_zip hy).1 with q | q
    · exact Or.inl q
    · exact Or.inr ⟨q, PySem.W.cellsFrom_some _ _ _ (Or.inl q)⟩
  · subst he
    refine ⟨(e0.mod.nolimit.keeps old).keeps x.toInCall.keep, codeAny_func ?_⟩
    obtain ⟨t, ht, hq⟩ := body cdv B out s H vs Q E hg (hr.deeper _) hs
    have I := inv_start (CX := CX) (N := N) (qual := qual) (cd := cdv) (E := E) S hr.hd e0 (size _ _ _ _ hs) r x
    refine wpAny_mono (ht.run [] s1 (start N vs) H _ I hq) (fun fl s' hs' => ?_) fun e s' z => z
    cases fl with
    | ret u =>
      obtain ⟨v, σ', H', J, rv, q⟩ := hs'
      exact ⟨v, H', J.os, J.bare, J.base, J.hok, rv, q⟩
    | next =>
      obtain ⟨σ', H', J, q⟩ := hs'
      exact ⟨V.non, H', J.os, J.bare, J.base, J.hok, rfl, q⟩
    | brk =>
      obtain ⟨_, _, _, q⟩ := hs'
      exact q.elim
    | cont =>
      obtain ⟨_, _, _, q⟩ := hs'
      exact q.elim
theorem Gfun {x qual : Str} {st : Stmt} {N : List Str} (F : Fun K x qual st f fd) (S : FnScope N ps (defScope st)) (size : ∀ vs H Q E, sp vs H Q E → vs.length = ps.length)
    (body : ∀ (cdv : Value) (B : Around) (out : List Env) (s : Shared) (H : Hp) (vs : List V) (Q : VK) (E : XK), B.guards = some [] →
      Room k (B.deeper (envOfC qual (defScope st) s.heap.objs.size f cdv)) → sp vs H Q E →
      ∃ t, PSs (cxOf CX0 P w K mg base N qual (defScope st) f cdv B out s H E).nox (defBody st) t ∧
        t { nx := fun _ H' => Q .non H', rt := Q } (start N vs) H) : FnG P w K mg base CX0 (k + 1) f fd ps sp :=
  GfunX F S size fun cdv B out s H vs Q E hg hr hs => by
    obtain ⟨t, ht, hq⟩ := body cdv B out s H vs Q E hg hr hs
    exact ⟨t, ht.nox, hq⟩
end
/-- the names that are called by their arguments' names -/
def kwNamesA : List Str := ["aims", "book_text", "by_shares", "changed", "cost", "dough_for", "feel", "fraction", "fraction_text", "is_fraction", "is_less", "is_name", "left", "loaves", "measured", "minus", "moves", "opened"]
def kwNamesB : List Str := ["over", "pan_for", "paper", "parting", "plus", "read_book", "rejoined", "rounded", "row_shares", "scaled", "shares", "sheet", "shows", "times", "tree", "weighed", "worst_of"]
def kwNames : List Str := kwNamesA ++ kwNamesB
def kwN (x : Str) : Bool := kwNames.any fun y => y == x
/-- a def of the module's name x that keeps sp, by level k -/
structure Cal (P : Program) (w : World) (K : PySem.W.Frag) (mg : Str → Option Value) (base : Heap) (CX : CXT) (k : Nat) (x : Str) (ps : List Str) (sp : Sp) : Prop where
  ex : ∃ (f : Addr) (fd : FuncData), FnG P w K mg base CX k f fd ps sp ∧ (∀ (s : Shared) (us : List Value), us.length = ps.length → BindsTo s fd ⟨us, []⟩ (ps.zip us)) ∧
    (kwN x = true → ∀ (s : Shared) (us : List Value), us.length = ps.length → BindsTo s fd ⟨[], ps.zip us⟩ (ps.zip us)) ∧
    (kwN x = true → ∀ (s : Shared) (us : List Value), us.length = ps.length → BindsTo s fd ⟨[], ps.reverse.zip us⟩ (ps.zip us.reverse)) ∧ mg x = some (.ref f) ∧ PySem.W.keepIn K (.ref f) = true
theorem paired_rev {α β : Type} {R : α → β → Prop} : ∀ {xs : List α} {ys : List β}, Paired R xs ys → Paired R xs.reverse ys.reverse := by
  have app : ∀ {xs : List α} {ys : List β} {x : α} {y : β}, Paired R xs ys → R x y → Paired R (xs ++ [x]) (ys ++ [y]) := by
    intro xs ys x y h r
    induction h with
    | nil => exact .cons r .nil
    | cons q _ ih => exact .cons q ih
  intro xs ys h
  induction h with
  | nil => exact .nil
  | cons r _ ih =>
    rw [List.reverse_cons, List.reverse_cons]
    exact app ih r
section
variable {X : Cx} {CX : CXT} {k i : Nat} {f : Addr} {fd : FuncData} {ps : List Str} {sp : Sp} {x : Str} {p pos : Pos} {e : Expr} {es : List Expr} {kws : List Keyword} {t : TA}
/-- what is raised is wished for at the caller's slots -/
theorem run_g {pins : List (Addr × Obj)} {σ : L2.St} {H : Hp} {s : Shared} {Q : VK} {us : List Value} {vs : List V} {ar : Args} {E : XK} (F : FnG X.prog X.w X.K X.mg X.base CX k f fd ps sp) (hr : Room k X.A) (hG : X.A.guards = some [])
    (hx : PassesAt CX X σ E) (I : Inv X pins σ H s) (hb : BindsTo s fd ar (ps.zip us)) (r : Vals vs us) (h : sp vs H Q E) : wpAny (model X.prog X.w) X.A (call (.ref f) ar.pos ar.kw) (EP X pins σ Q) X.xe s := by
  refine wpAny_call (codeAny_mono (F.goes X.A X.stack s H ar us vs Q E hr hG I.env0 hb r h) fun z s' hq => ?_)
  cases z with
  | error e => exact hx pins H s e s' I hq
  | ok fl =>
    cases fl with
    | ret u => exact I.after hq
    | next => exact False.elim hq
    | brk => exact False.elim hq
    | cont => exact False.elim hq
/-- f(e, ..); E: what is wished of an exception at the slots -/
def tG (sp : Sp) (E : L2.St → XK) (t : TA) : TE := fun σ H Q => t σ H fun vs H1 => sp vs H1 Q (E σ)
theorem pe_gS {E : L2.St → XK} (C : Cal X.prog X.w X.K X.mg X.base CX k x ps sp) (hr : Room k X.A) (hG : X.A.guards = some []) (hx : ∀ σ, PassesAt CX X σ (E σ)) (ha : PA X (e :: es) t) (hg : Gl X x := by rfl)
    (hdb : (x == ("__debug__" : Str)) = false := by decide) (he : starEach (e :: es) X.env = (false, eval e X.env) :: starEach es X.env := by rfl)
    (hpl : (backTo pos (starEach es X.env)).any (·.1) = false := by rfl) : PE X (.Call (.Name x p) (e :: es) [] pos) (tG sp E t) := by
  obtain ⟨f, fd, F, hb, _, _, hm, hk⟩ := C.ex
  refine ⟨fun pins s σ H Q I h => wpAny_Call_Name_kw (ld_glob I hg hm (PySem.W.callWith_K (h₀ := X.base) I.ok.mod.kin hk
    (thn (ha.run pos pins s σ H _ I h) fun us s1 ⟨vs, H1, I1, r, q⟩ => ⟨I1.kIn, ?_⟩) he hpl) hdb)⟩
  exact run_g (ar := ⟨us, []⟩) F hr hG (hx σ) I1 (hb s1 us (r.length.symm.trans (F.size _ _ _ _ q))) r q
theorem pass_no {σ : L2.St} : PassesAt CX0 X σ E0 := fun _ _ _ _ _ _ z => z.elim
theorem pe_g (C : Cal X.prog X.w X.K X.mg X.base CX0 k x ps sp) (hr : Room k X.A) (hG : X.A.guards = some []) (ha : PA X (e :: es) t) (hg : Gl X x := by rfl)
    (hdb : (x == ("__debug__" : Str)) = false := by decide) (he : starEach (e :: es) X.env = (false, eval e X.env) :: starEach es X.env := by rfl)
    (hpl : (backTo pos (starEach es X.env)).any (·.1) = false := by rfl) : PE X (.Call (.Name x p) (e :: es) [] pos) (tG sp (fun _ => E0) t) :=
  pe_gS C hr hG (fun _ => pass_no) ha hg hdb he hpl
/-- f(a = e, ..): all by names, in the parameters' order -/
theorem pe_gk (C : Cal X.prog X.w X.K X.mg X.base CX0 k x ps sp) (hr : Room k X.A) (hG : X.A.guards = some []) (ha : PK X kws t) (hks : (backToKw pos (keywordEach kws X.env)).filterMap (·.1) = ps := by rfl) (hg : Gl X x := by rfl)
    (hall : (backToKw pos (keywordEach kws X.env)).all (·.1.isSome) = true := by rfl) (hdb : (x == ("__debug__" : Str)) = false := by decide)
    (hpl : ((backTo pos (starEach [] X.env)).any (·.1) || (backToKw pos (keywordEach kws X.env)).any (·.1.isNone)) = false := by rfl) (hkw : kwN x = true := by decide +kernel) : PE X (.Call (.Name x p) [] kws pos) (tG sp (fun _ => E0) t) := by
  obtain ⟨f, fd, F, _, hb, _, hm, hk⟩ := C.ex
  refine ⟨fun pins s σ H Q I h => wpAny_Call_Name_kw (ld_glob I hg hm (PySem.W.callWith_KW0 (h₀ := X.base) I.ok.mod.kin hk hall (thn (ha.run pos pins s σ H _ I h) fun us s1 ⟨vs, H1, I1, r, q⟩ => ⟨I1.kIn, ?_⟩) hpl) hdb)⟩
  rw [hks]
  exact run_g (ar := ⟨[], ps.zip us⟩) F hr hG pass_no I1 (hb hkw s1 us (r.length.symm.trans (F.size _ _ _ _ q))) r q
/-- f(b = e, a = ..): all by names, from the last parameter to the first -/
def tGr (sp : Sp) (t : TA) : TE := fun σ H Q => t σ H fun vs H1 => sp vs.reverse H1 Q E0
theorem pe_gr (C : Cal X.prog X.w X.K X.mg X.base CX0 k x ps sp) (hr : Room k X.A) (hG : X.A.guards = some []) (ha : PK X kws t) (hks : (backToKw pos (keywordEach kws X.env)).filterMap (·.1) = ps.reverse := by rfl) (hg : Gl X x := by rfl)
    (hall : (backToKw pos (keywordEach kws X.env)).all (·.1.isSome) = true := by rfl) (hdb : (x == ("__debug__" : Str)) = false := by decide)
    (hpl : ((backTo pos (starEach [] X.env)).any (·.1) || (backToKw pos (keywordEach kws X.env)).any (·.1.isNone)) = false := by rfl) (hkw : kwN x = true := by decide +kernel) : PE X (.Call (.Name x p) [] kws pos) (tGr sp t) := by
  obtain ⟨f, fd, F, _, _, hb, hm, hk⟩ := C.ex
  refine ⟨fun pins s σ H Q I h => wpAny_Call_Name_kw (ld_glob I hg hm (PySem.W.callWith_KW0 (h₀ := X.base) I.ok.mod.kin hk hall (thn (ha.run pos pins s σ H _ I h) fun us s1 ⟨vs, H1, I1, r, q⟩ => ⟨I1.kIn, ?_⟩) hpl) hdb)⟩
  rw [hks]
  have hl : us.length = ps.length := r.length.symm.trans ((List.length_reverse (as := vs)).symm.trans (F.size _ _ _ _ q))
  exact run_g (ar := ⟨[], ps.reverse.zip us⟩) (us := us.reverse) (vs := vs.reverse) F hr hG pass_no I1 (hb hkw s1 us hl) (paired_rev r) q
/-- d(e, ..) where the i-th slot holds the def of the module's name y -/
def tGl (i : Nat) (mg : Str → Option Value) (y : Str) (sp : Sp) (E : L2.St → XK) (t : TA) : TE := fun σ H Q => ∃ f, mg y = some (.ref f) ∧ σ[i]? = some (some (.ref f)) ∧ t σ H fun vs H1 => sp vs H1 Q (E σ)
theorem pe_gl {E : L2.St → XK} {y : Str} (C : Cal X.prog X.w X.K X.mg X.base CX k y ps sp) (hr : Room k X.A) (hG : X.A.guards = some []) (hx : ∀ σ, PassesAt CX X σ (E σ)) (ha : PA X (e :: es) t) (hN : X.N[i]? = some x := by rfl)
    (hv : Vis X.env.scope x := by first | exact Or.inl rfl | exact Or.inr (Or.inl rfl) | exact Or.inr (Or.inr rfl))
    (hdb : (x == ("__debug__" : Str)) = false := by decide) (hcd : (x == ("__classdict__" : Str)) = false := by decide) (he : starEach (e :: es) X.env = (false, eval e X.env) :: starEach es X.env := by rfl)
    (hpl : (backTo pos (starEach es X.env)).any (·.1) = false := by rfl) : PE X (.Call (.Name x p) (e :: es) [] pos) (tGl i X.mg y sp E t) := by
  obtain ⟨f, fd, F, hb, _, _, hm, hk⟩ := C.ex
  refine ⟨fun pins s σ H Q I h => ?_⟩
  obtain ⟨f', hf', hs, ht⟩ := h
  obtain rfl : f' = f := by
    rw [hm] at hf'
    cases hf'
    rfl
  refine wpAny_Call_Name_kw (thn ((pe_var (pos := p) hN hv hdb hcd).run pins s σ H (fun v H1 => v = .ref f' ∧ H1 = H) I ⟨.ref f', hs, rfl, rfl⟩) fun u s1 ⟨v, H1, I1, r1, q1⟩ => ?_)
  obtain ⟨rfl, rfl⟩ := q1
  cases r1
  refine PySem.W.callWith_K (h₀ := X.base) I.ok.mod.kin hk (thn (ha.run pos pins s1 σ _ _ I1 ht) fun us s2 ⟨vs, H2, I2, r, q⟩ => ⟨I2.kIn, ?_⟩) he hpl
  exact run_g (ar := ⟨us, []⟩) F hr hG (hx σ) I2 (hb s2 us (r.length.symm.trans (F.size _ _ _ _ q))) r q
end
/-! ### repr of data -/
section
variable {X : Cx}
def rShow (K : PySem.W.Frag) : List V → Hp → VK → Prop := fun xs H Q => ∃ (a : Addr) (d : PyData), xs = [.ref a] ∧ Dp K H (.ref a) d ∧
  d.showable = true ∧ d.hasDict = false ∧ d.depth ≤ 30 ∧ d.shown.length ≤ sizeLine ∧ Q (.str d.shown) H
theorem call_show (hG : X.A.guards = some []) {k : Nat} (hr : Room k X.A) : CallR X (.builtin "repr") (rShow X.K) := by
  intro pins s σ H xs us Q I r h
  obtain ⟨a, d, rfl, hd, hs, hn, h30, hz, q⟩ := h
  cases r with
  | cons r1 r2 =>
    cases r2
    obtain ⟨as, rd⟩ := Dp.reads I d _ _ hd r1
    cases r1
    have hu := hr.units
    exact repr_of_reads' rd hs (PyData.noDict_hsm hn) hG (by omega) (fun _ _ z => z) (fun h' u tk hk => ⟨.str d.shown, H, I.kept hk, ⟨u, rfl⟩, q⟩) hz
/-- // by any divisor but 0 -/
def CDivN (_ j : Int) : Prop := j ≠ 0 ∧ j.natAbs.log2 < 9000
theorem op_fdivN : OpR X (binaryOp .FloorDiv) (rI CDivN fun i j => .int (i.fdiv j)) := opI fun i j _ _ _ _ _ hc q =>
  floordiv_int hc.1 q (.inl (PyProof.noPylong_of_log2 hc.2))
end
/-! ### the end of a law's row -/
theorem at_caller {P : Program} {w : World} {K : PySem.W.Frag} {mg mb : Str → Option Value} {k : Nat} {fa a : Addr} {fd : FuncData} {x : Str} {sp : Sp} {s : Shared} {us : List Value} {ns : List Int}
    (KX : K.In s.heap) (hns : s.heap.Ns mainGlobals mg) (hb : s.heap.Ns builtinsNs mb) (hbb : ∀ x : Str, x ≠ "__name__" → mb x = bootBuiltins x) (hlim : s.heap.NoLimit) (hgen : s.gens = #[])
    (ha : s.heap.get? a = some { cls := .type "list", data := .seq us.toArray }) (hi : IntsAre us ns) (hl : ns.length ≤ sizeLine) (hr : Room k callerA)
    (F : ∀ base : Heap, K.In base → base.Ns mainGlobals mg → FnG P w K mg base CX0 k fa fd [x] sp) (hbind : ∀ (s : Shared) (u : Value), BindsTo s fd ⟨[u], []⟩ [(x, u)])
    (hsp : ∀ H : Hp, Only H → SqL K H a (ns.map V.int) → sp [.ref a] H (fun v _ => v = .bl true) E0) :
    codeAny (model P w) callerA (.call (.ref fa) ⟨[.ref a], []⟩) (fun r s' => r = .ok (.ret (.bool true)) ∧ OldK s.heap s'.heap ∧ s'.os = s.os ∧ AllBare s'.gens) s := by
  -- from a heap that tracks at most the script
  have go : ∀ H : Hp, Only H → SqL K H a (ns.map V.int) → HOk P w H s.heap → (∀ b, H b ≠ none → b = a) → (H a ≠ none → K.lookup a = none) →
      codeAny (model P w) callerA (.call (.ref fa) ⟨[.ref a], []⟩) (fun r s' => r = .ok (.ret (.bool true)) ∧ OldK s.heap s'.heap ∧ s'.os = s.os ∧ AllBare s'.gens) s := by
    intro H only sq hok one key
    have keep : ∀ {b : Addr} {o : Obj}, s.heap.get? b = some o → (∀ vs n, o.data ≠ .seq vs n) → (hidT s.heap H).get? b = some o := by
      intro b o e hd
      refine hidT_get e ?_
      cases q : H b with
      | none => rfl
      | some u =>
        obtain rfl : b = a := one b (by rw [q]; exact fun z => nomatch z)
        rw [ha] at e
        cases e
        exact absurd rfl (hd _ _)
    have names : ∀ {b : Addr} {m : Str → Option Value}, s.heap.Ns b m → (hidT s.heap H).Ns b m := by
      rintro b m ⟨o, es, ep, e, d, r⟩
      exact ⟨o, es, ep, keep e (fun vs n z => by rw [d] at z; cases z), d, r⟩
    have kin : K.In (hidT s.heap H) := by
      intro b o e
      refine hidT_get (KX b o e) ?_
      cases q : H b with
      | none => rfl
      | some u =>
        have nn : H b ≠ none := by rw [q]; exact fun z => nomatch z
        obtain rfl : b = a := one b nn
        rw [key nn] at e
        cases e
    have md : Mod K mg (hidT s.heap H) := ⟨kin, names hns, ⟨mb, names hb, hbb⟩, by obtain ⟨mc, h1, h2⟩ := hlim; exact ⟨mc, names h1, h2⟩⟩
    have none_in : ∀ b : Addr, b ∉ frs [] := fun b z => absurd (show b ∈ ([] : List Addr) from z) (by simp)
    have e0 : Env0 P w K mg (hidT s.heap H) callerA [] s H := { frames := rfl, mod := md, bs := fun b o e => of_hidT e, bsz := Nat.le_of_eq (hidT_size _ _), funs := trivial, frf := fun b z => absurd z (none_in b), hok := hok, bare := .of_eq hgen }
    refine codeAny_mono ((F _ kin (names hns)).goes callerA [] s H ⟨[.ref a], []⟩ [.ref a] [.ref a] _ _ hr rfl e0 (hbind s (.ref a)) (.cons rfl .nil) (hsp H only sq)) fun r s' h => ?_
    cases r with
    | error e => exact False.elim h
    | ok fl =>
      cases fl with
      | next => exact False.elim h
      | brk => exact False.elim h
      | cont => exact False.elim h
      | ret u =>
        obtain ⟨v, H', os, bare, un, hok', rv, q⟩ := h
        obtain rfl : v = .bl true := q
        obtain rfl : u = Value.bool true := rv
        refine ⟨rfl, OldK.of_keep fun b o e => ?_, os, bare⟩
        cases q : H b with
        | none => exact un.keep b o e q (none_in b) (by simp)
        | some y =>
          rcases only b with z | ⟨ob, xs, z⟩
          · rw [q] at z
            cases z
          · obtain ⟨e1, _⟩ := hok b _ z
            obtain ⟨e2, _⟩ := hok' b _ (un.frzs b ob _ z)
            rw [e] at e1
            cases e1
            exact e2
  have rv := vals_ints hi
  cases hk : K.lookup a with
  | some o =>
    have e := KX a o hk
    rw [ha] at e
    cases e
    exact go (fun _ => none) (fun _ => Or.inl rfl) (Or.inr ⟨_, us.toArray, _, hk, rfl, rfl, rfl, by rw [List.size_toArray, hi.length]; exact hl, by simpa using rv⟩)
      (fun b u z => by cases (show (none : Option HO) = some u from z)) (fun b z => absurd rfl z) (fun z => absurd rfl z)
  | none =>
    refine go (fun b => if b = a then some (.frz { cls := .type "list", data := .seq us.toArray } (.lst (ns.map V.int))) else none) ?_ (Or.inl (Or.inr ⟨_, if_pos rfl⟩)) ?_ ?_ (fun _ => hk)
    · intro b
      by_cases h : b = a
      · exact Or.inr ⟨_, _, if_pos h⟩
      · exact Or.inl (if_neg h)
    · intro b u z
      by_cases h : b = a
      · cases (if_pos h).symm.trans z
        subst h
        exact ⟨ha, by rw [List.length_map]; exact hl, us, _, rv, ha⟩
      · cases (if_neg h).symm.trans z
    · intro b z
      by_cases h : b = a
      · exact h
      · exact absurd (if_neg h) z
theorem walkG {l : PySem.W.OpenLaw} {n k : Nat} {q : Program} {loose : List Str} {XP : (Str → Option Value) → Heap → Prop} {YP : World → Heap → Prop} {d : DefRec} {K : Params → PySem.W.Frag} {sp : PySem.W.Frag → Sp} {x : Str}
    (hn : l.most = some n) (hn2 : n ≤ sizeLine) (hdf : d.params.defaults = []) (hr : Room k callerA) (hY : ∀ (w : World) (h : Heap), YP w h → (K w.params).In h)
    (F : ∀ (w : World) (mg : Str → Option Value) (fa : Addr) (h : Heap), (K w.params).In h → h.Ns mainGlobals mg → mg d.name = some (.ref fa) →
      ∃ fd : FuncData, (∀ (s : Shared) (u : Value), BindsTo s fd ⟨[u], []⟩ [(x, u)]) ∧ ∀ base : Heap, (K w.params).In base → base.Ns mainGlobals mg → FnG l.prog w (K w.params) mg base CX0 k fa fd [x] (sp (K w.params)))
    (hsp : ∀ (K : PySem.W.Frag) (H : Hp) (a : Addr) (ns : List Int), ns.length ≤ n → Only H → SqL K H a (ns.map V.int) → sp K [.ref a] H (fun v _ => v = .bl true) E0) :
    PySem.W.WalkO q loose XP YP l.row.toRowW d [] (fun f vs => PySem.call f vs) := by
  refine Att.attach_call hn hdf fun w s0 s mg mb fa o pm cd doc a us ns G Y ho hd hcd hmg hobj hints hlen hg => ?_
  obtain ⟨fd, hb, hF⟩ := F w mg fa _ (hY w _ Y) G.T.g hmg
  exact at_caller (hY w _ Y) G.T.g G.T.b G.T.builtins G.T.nolimit hg hobj hints (Nat.le_trans hlen hn2) hr hF hb fun H hO hS => hsp _ H a ns hlen hO hS
end Lf

set_option Elab.async false
set_option linter.all false
set_option maxRecDepth 100000
set_option maxHeartbeats 4000000
/-! The head by one kernel run, with facts of any form: a fact is a Bool of the part of the heap that the module's names reach. -/
namespace Lf
open PySem PySem.Spec PyProof.Rows L2
abbrev Fct : Type := PySem.W.Frag → Bool
def obsX (fa : List Fct) (fn : List He.DefD) (K : PySem.W.Frag) : He.AlD := ((fa.all fun f => f K) && fn.all fun d => d.ok K, fn.map fun d => He.fnW K d.at_)
def SaysX (fa : List Fct) (fn : List He.DefD) (K : PySem.W.Frag) : Prop := obsX fa fn K = He.valD fn
def obsXG (n : Nat) (fa : List Fct) (fn : List He.DefD) (g : Addr → Option Obj) : He.AlD := obsX fa fn (He.frG g (He.asD g n))
def hookX (n : Nat) (fa : List Fct) (fn : List He.DefD) : PySem.W.Hook where
  α := He.AlD
  obs := fun s => obsXG n fa fn s.heap.get?
  val := fun _ => He.valD fn
  says := fun _ h => ∃ K : PySem.W.Frag, K.In h ∧ SaysX fa fn K
  of := fun _ _ e => ⟨_, He.frG_in, e⟩
  keeps := fun _ _ _ ⟨K, hK, c⟩ k => ⟨K, PySem.W.Frag.In.keeps hK k, c⟩
theorem obsXG_eq {n : Nat} {fa : List Fct} {fn : List He.DefD} {g : Addr → Option Obj} {s : Shared} (h : ∀ a, g a = s.heap.get? a) : obsXG n fa fn g = (hookX n fa fn).obs s := by
  have e : g = s.heap.get? := funext h
  rw [e] <;> rfl
section
variable {fa : List Fct} {fn : List He.DefD} {K : PySem.W.Frag}
theorem SaysX.all (c : SaysX fa fn K) : (fa.all fun f => f K) = true := (He.ba (show ((fa.all fun f => f K) && fn.all fun d => d.ok K) = true from congrArg (fun z : He.AlD => z.1) c)).1
theorem SaysX.fact (c : SaysX fa fn K) (i : Nat) {f : Fct} (h : fa[i]? = some f := by rfl) : f K = true := List.all_eq_true.mp c.all f (List.mem_of_getElem? h)
theorem SaysX.def_ (c : SaysX fa fn K) (i : Nat) {d : He.DefD} (h : fn[i]? = some d := by rfl) : ∃ fd, FunD K d.name d.qual d.params d.body d.scope (d.dvs K) (d.kws K) (He.fAd K d.at_) fd := by
  have c2 := (He.ba (show ((fa.all fun f => f K) && fn.all fun d => d.ok K) = true from congrArg (fun z : He.AlD => z.1) c)).2
  have e : fn.map (fun d => He.fnW K d.at_) = fn.map He.DefD.val := congrArg (fun z : He.AlD => z.2) c
  have e2 : (fn.map fun d => He.fnW K d.at_)[i]? = (fn.map He.DefD.val)[i]? := by rw [e]
  rw [List.getElem?_map, List.getElem?_map, h] at e2
  exact He.DefD.funD (Option.some.inj e2) (List.all_eq_true.mp c2 d (List.mem_of_getElem? h))
end
/-- a def without defaults as the machine has it -/
theorem fun_of {K : PySem.W.Frag} {x qual : Str} {st : Stmt} {f : Addr} {fd : FuncData} (F : FunD K x qual (defArgs st) (defBody st) (defScope st) [] [] f fd) :
    ∃ (kV doc pm : Value) (an : Option Addr) (cdv ct : Value), fd = PySem.W.fnOf x qual (defArgs st) (defBody st) (defScope st) .none kV doc pm an cdv ct ∧ Fun K x qual st f fd := by
  obtain ⟨oc, od, dV, kV, doc, pm, an, cdv, ct, osl, rfl, lk, hcd, dv, _⟩ := F.ex
  obtain rfl : dV = .none := (dv.resolve_right fun z => z.1 rfl).2
  exact ⟨kV, doc, pm, an, cdv, ct, rfl, fun_mk lk hcd F.kp⟩
/-- a def as the top left it, and how its arguments come to it -/
structure Df (K : PySem.W.Frag) (mg : Str → Option Value) (x : Str) (st : Stmt) (ps : List Str) (f : Addr) (fd : FuncData) : Prop where
  fn : Fun K x x st f fd
  g : mg x = some (.ref f)
  b1 : ∀ (s : Shared) (us : List Value), us.length = ps.length → BindsTo s fd ⟨us, []⟩ (ps.zip us)
  b2 : kwN x = true → ∀ (s : Shared) (us : List Value), us.length = ps.length → BindsTo s fd ⟨[], ps.zip us⟩ (ps.zip us)
  b3 : kwN x = true → ∀ (s : Shared) (us : List Value), us.length = ps.length → BindsTo s fd ⟨[], ps.reverse.zip us⟩ (ps.zip us.reverse)
theorem Df.cal {P : Program} {w : World} {K : PySem.W.Frag} {mg : Str → Option Value} {base : Heap} {CX : CXT} {k : Nat} {x : Str} {st : Stmt} {ps : List Str} {f : Addr} {fd : FuncData} {sp : Sp} (D : Df K mg x st ps f fd) (F : FnG P w K mg base CX k f fd ps sp) : Cal P w K mg base CX k x ps sp :=
  ⟨f, fd, F, D.b1, D.b2, D.b3, D.g, D.fn.kp⟩
/-- nothing keeps the promise of nothing -/
theorem FnG.no {P : Program} {w : World} {K : PySem.W.Frag} {mg : Str → Option Value} {base : Heap} {CX : CXT} {k : Nat} {f : Addr} {fd : FuncData} {ps : List Str} : FnG P w K mg base CX k f fd ps (fun _ _ _ _ => False) :=
  ⟨fun _ _ _ _ h => h.elim, fun _ _ _ _ _ _ _ _ _ _ _ _ _ _ h => h.elim⟩
/-- how plain arguments are bound: by the names alone -/
def plainA (as : List Arg) : Arguments := { posonlyargs := [], args := as, vararg := none, kwonlyargs := [], kw_defaults := [], kwarg := none, defaults := [] }
theorem no_kw {x : Str} {p : Prop} (h : kwN x = false) : kwN x = true → p := fun z => by
  rw [h] at z
  cases z
/-- the law's walk, the module's part given with it -/
theorem walkX {l : PySem.W.OpenLaw} {n k : Nat} {q : Program} {loose : List Str} {XP : (Str → Option Value) → Heap → Prop} {YP : World → Heap → Prop} {d : DefRec} {sp : PySem.W.Frag → Sp} {x : Str}
    (hn : l.most = some n) (hn2 : n ≤ sizeLine) (hdf : d.params.defaults = []) (hr : Room k callerA)
    (F : ∀ (w : World) (mg : Str → Option Value) (fa : Addr) (h : Heap), YP w h → h.Ns mainGlobals mg → mg d.name = some (.ref fa) →
      ∃ K : PySem.W.Frag, K.In h ∧ ∃ fd : FuncData, (∀ (s : Shared) (u : Value), BindsTo s fd ⟨[u], []⟩ [(x, u)]) ∧ ∀ base : Heap, K.In base → base.Ns mainGlobals mg → FnG l.prog w K mg base CX0 k fa fd [x] (sp K))
    (hsp : ∀ (K : PySem.W.Frag) (H : Hp) (a : Addr) (ns : List Int), ns.length ≤ n → Only H → SqL K H a (ns.map V.int) → sp K [.ref a] H (fun v _ => v = .bl true) E0) :
    PySem.W.WalkO q loose XP YP l.row.toRowW d [] (fun f vs => PySem.call f vs) := by
  refine Att.attach_call hn hdf fun w s0 s mg mb fa o pm cd doc a us ns G Y ho hd hcd hmg hobj hints hlen hg => ?_
  obtain ⟨K, KX, fd, hb, hF⟩ := F w mg fa _ Y G.T.g hmg
  exact at_caller KX G.T.g G.T.b G.T.builtins G.T.nolimit hg hobj hints (Nat.le_trans hlen hn2) hr hF hb fun H hO hS => hsp _ H a ns hlen hO hS
end Lf

set_option Elab.async false
set_option linter.all false
set_option maxRecDepth 100000
set_option maxHeartbeats 4000000
/-! An own exception over ValueError whose __init__ begins by super().__init__(..): its body's rule, and its promise FnOk. -/
namespace Lf
open PySem PySem.Spec PyProof.Rows L2 NdefX
/-- what the written part says of a class D whose __init__ at f says super().__init__ : the cell, the code -/
structure SupC (P : Program) (K : PySem.W.Frag) (D f cc cda : Addr) (fd : FuncData) : Prop where
  fn : ∃ (oc : Value) (od : Option Addr) (osl : Array (Option Value)), K.lookup f = some ⟨oc, od, .func fd, osl⟩
  code : ∃ (ccl : Value) (cdd : Option Addr) (vs : Array Value) (ccs : Array (Option Value)) (file : Str) (tf : Tok), K.lookup cda = some ⟨ccl, cdd, .fields vs, ccs⟩ ∧ vs[2]? = some (.str file tf) ∧ ((P.main.file : Str) == file) = true
  cell : ∃ (cl : Value) (cld : Option Addr) (csl : Array (Option Value)), K.lookup cc = some ⟨cl, cld, .cell (some (.ref D)), csl⟩
  sup : PySem.W.ks_superIn K D D "__init__" = some (some (.builtin "ValueError.__init__"))
  sub : PySem.W.mroIn K D (.ref D) = some true
  ve : PySem.W.subIn K (.ref D) (.type "ValueError") = some true
  stat : PySem.W.nsIn K cStatics "thirdparty.any" = some none
  top : (P.main.scope.names.lookup ("super" : Str)).isSome = false
/-- what a body that begins by super().__init__(..) asks: the self is the exception that is being made -/
def tSup (K : PySem.W.Frag) (D : Addr) (ta : TA) (t : TS) : TS := fun E σ H => ∃ a, σ[0]? = some (some (.ref a)) ∧ H a = some (exo a D none) ∧ ta σ H fun vs H1 => vs.length ≤ 1000 ∧ H1 a = some (exo a D none) ∧ t E σ H1
section
variable {X : Cx} {D f cc cda : Addr} {fd : FuncData} {ar : Arg} {e : Expr} {es : List Expr} {rest body : List Stmt} {ta : TA} {t : TS} {p0 p1 p2 p3 pos : Pos} {x0 : Str}
theorem call_sup {pins : List (Addr × Obj)} {σ : L2.St} {H : Hp} {s : Shared} {a u : Addr} {us : List Value} {Q : Value → Shared → Prop} {E : Value → Shared → Prop} {A : Around} (T : OexC X.K D) (I : Inv X pins σ H s) (ea : H a = some (exo a D none))
    (hu : s.heap.get? u = some (PySem.W.kxs_mw "ValueError.__init__" a)) (hl : us.length ≤ sizeLine) (h : ∀ s', Inv X pins σ H s' → Q .none s') : wpAny (model X.prog X.w) A (call (.ref u) us) Q E s := by
  obtain ⟨nm, q, N, bs, bm, sn, sub, ab, col, dd, k0, k1, k2, k3, k5, hC, hbm⟩ := T.cls
  obtain ⟨t1, ho⟩ := exo_at I.hok ea
  obtain ⟨hp, g, d, tk, os⟩ := s
  refine wpAny_call (codeAny_of_tree ?_)
  show wpAny _ A.in1 (callAny (.ref u) ⟨us, []⟩) _ _ _
  simp only [callAny]
  refine wpAny_bind (wpAny_load hu ?_)
  simp only [PySem.W.kxs_mw, show (Value.type "method-wrapper" == Value.type "method" || Value.type "method-wrapper" == Value.type "builtin_function_or_method" || Value.type "method-wrapper" == Value.type "method-wrapper") = true by decide, if_true]
  refine PySem.W.KFB.if_so (by decide) ?_
  refine wpAny_bind (PySem.W.check_bound_init F.excBase_ValueError.toExcCallFacts (I.kIn _ _ hC) ho rfl ?_)
  refine wpAny_bind (wpAny_pure (wpAny_pure ?_))
  refine ⟨plainId_quiet F.excBase_ValueError.init.plain _, codeAny_builtin F.excBase_ValueError.initEntry ?_⟩
  refine PySem.W.exc_init_tree (cls := .ref D) (t0 := t1) (dv := none) (c2 := .none) (c3 := .none) (b4 := .bool false) ho hl fun h' k e' _ => ?_
  have J := I.write (t' := tk) (x := a) (e := a) (o := exo a D none) (by rw [ea]; exact True.intro) (.inl rfl) k ⟨_, e'⟩ (exo_ok e')
  have eu : upd H a (exo a D none) = H := by
    funext b
    by_cases hb : b = a
    · rw [hb, upd_same, ea]
    · rw [upd_ne hb]
  rw [eu] at J
  exact h _ J
/-- the body's rule -/
theorem body_sup {pins : List (Addr × Obj)} {σ : L2.St} {H : Hp} {s : Shared} {E : Ends} (S : SupC X.prog X.K D f cc cda fd) (T : OexC X.K D) (hm : X.mg "super" = none) (hA : PA X (e :: es) ta) (hR : PSs X rest t) (I : Inv X pins σ H s) (h : tSup X.K D ta t E σ H)
    (hp : (fd.params.posonlyargs ++ fd.params.args).head? = some ar) (hN : X.N[0]? = some ar.arg) (hka : X.env.kindOf ar.arg = some .local) (hvis : Vis X.env.scope ar.arg)
    (hks : X.env.kindOf "super" = some .globalImplicit) (hkc : X.env.kindOf "__class__" = some .free) (hfu : X.env.func = some f) (hco : X.env.code = .ref cda) (hcl : X.env.cells.lookup ("__class__" : Str) = some cc)
    (hc : ∀ pl : Unit, ∃ pl : Sem Bool, eval (.Call (.Attribute (.Call (.Name "super" p0) [] [] p1) "__init__" p2) (e :: es) [] pos) X.env = (do
      let ov ← attributeBase (.Call (.Name "super" p0) [] [] p1) "__init__" X.env (eval (.Call (.Name "super" p0) [] [] p1) X.env)
      standAt p2.atName
      let (f, first) ← holding [ov] (getMethod ov "__init__" pl)
      callWith pos f first (backTo pos (starEach (e :: es) X.env)) []))
    (hs : swapsWith (.Call (.Attribute (.Call (.Name "super" p0) [] [] p1) "__init__" p2) (e :: es) [] pos) none p3.line X.env = pure false)
    (he : starEach (e :: es) X.env = (false, eval e X.env) :: starEach es X.env) (hpl : (backTo pos (starEach es X.env)).any (·.1) = false) :
    PySem.wpAt (model X.prog X.w) X.A (.func body X.env) (execs (.Expr (.Call (.Attribute (.Call (.Name "super" p0) [] [] p1) "__init__" p2) (e :: es) [] pos) p3 :: rest) X.env) (SP X pins E) X.xe s := by
  obtain ⟨pl, hc⟩ := hc ()
  refine ks_wpAt_execs_cons (ks_wpAt_Expr_any (ks_wpAt_MethodCall (pl := pl) ?_ hc) I.quiet hs)
  have KX := I.kIn
  obtain ⟨oc, od, osl, hf⟩ := S.fn
  obtain ⟨ccl, cdd, vs, ccs, file, tf, hcode, hvs, hfile⟩ := S.code
  obtain ⟨cl, cld, csl, hcell⟩ := S.cell
  obtain ⟨a, hs0, ea, hta⟩ := h
  obtain ⟨t1, ho⟩ := exo_at I.hok ea
  obtain ⟨nm, qn, Nn, bs, bm, sn, sub, ab, col, dd, k0, k1, k2, k3, k5, hC, hbm⟩ := T.cls
  have hcls : PySem.W.clsIn X.K D = some { name := nm, bases := bs, mro := .ref D :: bm, ns := Nn, qualname := qn, hasDict := true, slotNames := sn, subclasses := sub, abstract := ab, collection := col, hasDel := false } := by unfold PySem.W.clsIn; rw [hC] <;> rfl
  have hat : (("__init__" : Str) == ("__class__" : Str)) = false := by decide
  refine ks_wpAt_super_base (env := X.env) hks hkc hat hfu (KX _ _ hf) rfl hp hco (KX _ _ hcode) rfl hvs hfile S.top ?_
  obtain ⟨mb, b1, b2⟩ := I.mod.blt
  refine PySem.W.ks_loadName_global I.ok.kind hks (Calls.loadGlobal_builtin (by rw [I.ok.glob]; exact I.mod.glob.keeps I.bk) hm (by rw [I.ok.blt]; exact b1.keeps I.bk) ((b2 _ (by decide)).trans (PyProof.Rows.Boot.«super»)) ⟨rfl, ?_⟩)
  refine wpAny_loadName_free I.ok.kind hkc hcl ⟨_, KX _ _ hcell, rfl⟩ ?_
  obtain ⟨m, hns, hsl⟩ := I.loc
  obtain ⟨u0, ru0, lk⟩ := hsl 0 ar.arg (.ref a) hN hs0 hvis
  cases ru0
  have hm0 : m ar.arg = some (.ref a) := by
    rcases lk with ⟨_, e⟩ | ⟨e | e, _⟩
    · exact e
    · rw [hka] at e; cases e
    · rw [hka] at e; cases e
  refine wpAny_loadName_local I.ok.kind hka hns hm0 ?_
  refine ks_wpAny_isType_cls (KX _ _ hC) rfl ⟨rfl, ?_⟩
  have II : PySem.W.InstAt s.heap a { cls := .ref D, dict := none, data := .fields #[.ref t1, .none, .none, .none, .bool false, .none] } D none := ⟨ho, rfl, rfl, trivial⟩
  obtain ⟨hp', g, d, tk, os⟩ := s
  refine ks_wpAny_call_super (KX _ _ hC) rfl ho rfl (fun c e => by cases e) (PySem.W.looks_mroIn KX S.sub) (fun h1 e1 kk1 => ?_)
  have I1 : Inv X pins σ H ⟨h1, g, d, tk, os⟩ := I.kept (t' := tk) kk1
  have KX1 := I1.kIn
  have II1 : PySem.W.InstAt h1 a { cls := .ref D, dict := none, data := .fields #[.ref t1, .none, .none, .none, .bool false, .none] } D none := ⟨kk1 _ _ ho, rfl, rfl, trivial⟩
  have sup := S.sup
  unfold PySem.W.ks_superIn at sup
  rw [hcls] at sup
  refine PySem.W.kxs_getMethod PySem.W.kxs_ValueError e1 (PySem.W.looks_opaque KX1 S.stat) (l₀ := .ref D :: bm) (fun A Q E s k q => wpAny_bind ((PySem.W.looks_clsIn KX1 hcls) A _ E s k (wpAny_pure q))) rfl KX1 sup (II1.type.andThen (PySem.W.looks_subIn KX1 S.ve)) (PySem.W.ks_ne KX1 II1 hcls) hat ?_
  show wpAny _ _ (callWith pos (.ref h1.objs.size) [] (backTo pos (starEach (e :: es) X.env)) []) _ _ _
  have kk2 : ∀ b o, h1.get? b = some o → (h1.push (PySem.W.kxs_mw "ValueError.__init__" a)).get? b = some o := fun b o e => Heap.get?_push_of_some _ e
  have I2 : Inv X pins σ H ⟨h1.push (PySem.W.kxs_mw "ValueError.__init__" a), g, d, tk + 1, os⟩ := I1.kept (t' := tk + 1) kk2
  have eu : (h1.push (PySem.W.kxs_mw "ValueError.__init__" a)).get? h1.objs.size = some (PySem.W.kxs_mw "ValueError.__init__" a) := Heap.get?_push_at rfl rfl
  have hnu : H h1.objs.size = none := I1.hok.fresh (Nat.le_refl _)
  have I3 : Inv X ((h1.objs.size, PySem.W.kxs_mw "ValueError.__init__" a) :: pins) σ H ⟨h1.push (PySem.W.kxs_mw "ValueError.__init__" a), g, d, tk + 1, os⟩ := by
    refine I2.pins_of fun p hp => ?_
    rcases List.mem_cons.mp hp with rfl | hp
    · exact ⟨eu, hnu, Ne.symm (Nat.ne_of_lt I1.lt), I1.nofs (Nat.le_refl _), fun v z => by cases z⟩
    · exact I2.pin p (List.mem_append_right _ hp)
  have key := thn (Q' := fun us s4 => PySem.W.KxsAt "ValueError.__init__" h1.objs.size a s4.heap ∧ wpAny (model X.prog X.w) X.A (call (.ref h1.objs.size) ([] ++ us) []) (fun _ s' => PySem.wpAt (model X.prog X.w) X.A (.func body X.env) (execs rest X.env) (SP X pins E) X.xe s') X.xe s4)
      (hA.run pos _ _ σ H _ I3 hta) fun us s4 ⟨vs4, H4, I4, r4, hz, ea4, q4⟩ => by
    have hu4 := (I4.pin _ (List.mem_append_right _ (List.mem_cons_self ..))).1
    have I5 : Inv X pins σ H4 s4 := I4.pins_of fun p hp => I4.pin p (List.mem_append_right _ (List.mem_cons_of_mem _ hp))
    refine ⟨hu4, ?_⟩
    exact call_sup T I5 ea4 hu4 (by rw [List.nil_append, ← Paired.length r4, sizeLine_eq]; omega) fun s' J => wpAt_of_wpAny (hR.run pins s' σ H4 E J q4)
  rw [he] at key ⊢
  refine PySem.W.kxs_callWith (i := "ValueError.__init__") (x := a) (by show (false || (backTo pos (starEach es X.env)).any (·.1)) = false; rw [hpl]; rfl) ?_
  exact PySem.Calls.evalArgs_plain key
end
/-- an own exception's __init__ as it stands behind the top -/
structure XFun (P : Program) (K : PySem.W.Frag) (qual : Str) (st : Stmt) (D f : Addr) (fd : FuncData) (cc cda : Addr) : Prop where
  ex : ∃ (dV kV doc pm : Value) (an : Option Addr) (ct : Value), fd = PySem.W.fnX "__init__" qual (defArgs st) (defBody st) (defScope st) [("__class__", cc)] dV kV doc pm an (.ref cda) ct
  sup : SupC P K D f cc cda fd
  code : PySem.W.codeIn K (.ref cda) qual = true
/-- the context of its body -/
abbrev xcx (CX : CXT) (P : Program) (w : World) (K : PySem.W.Frag) (mg : Str → Option Value) (base : Heap) (N : List Str) (qual : Str) (st : Stmt) (f cc cda : Addr) (A : Around) (outer : List Env) (s : Shared) (H : Hp) (E : XK) : Cx :=
  ncx CX P w K mg base N ⟨"__init__", qual, defArgs st, defBody st, defScope st, [("__class__", cc)], cda⟩ f A outer s H E
section
variable {CX : CXT} {P : Program} {w : World} {K : PySem.W.Frag} {mg : Str → Option Value} {base : Heap} {qual : Str} {st : Stmt} {D f cc cda : Addr} {fd : FuncData} {N ps : List Str} {k : Nat} {sp : Sp} {ar : Arg} {p0 p1 p2 p3 pos : Pos} {e : Expr} {es : List Expr} {rest : List Stmt}
theorem xok (F : XFun P K qual st D f fd cc cda) (T : OexC K D) (hm : mg "super" = none) (S : NScope N ps ["__class__"] (defScope st)) (len : ∀ vs H Q E, sp vs H Q E → vs.length = ps.length)
    (hb : defBody st = .Expr (.Call (.Attribute (.Call (.Name "super" p0) [] [] p1) "__init__" p2) (e :: es) [] pos) p3 :: rest)
    (hp : ((defArgs st).posonlyargs ++ (defArgs st).args).head? = some ar) (hN : N[0]? = some ar.arg) (hka : (defScope st).names.lookup ar.arg = some .local)
    (hks : (defScope st).names.lookup ("super" : Str) = some .globalImplicit)
    (hc : ∀ L : Addr, ∃ pl : Sem Bool, eval (.Call (.Attribute (.Call (.Name "super" p0) [] [] p1) "__init__" p2) (e :: es) [] pos) (PySem.W.envX qual (defScope st) L f (.ref cda) [("__class__", cc)]) = (do
      let ov ← attributeBase (.Call (.Name "super" p0) [] [] p1) "__init__" (PySem.W.envX qual (defScope st) L f (.ref cda) [("__class__", cc)]) (eval (.Call (.Name "super" p0) [] [] p1) (PySem.W.envX qual (defScope st) L f (.ref cda) [("__class__", cc)]))
      standAt p2.atName
      let (g, first) ← holding [ov] (getMethod ov "__init__" pl)
      callWith pos g first (backTo pos (starEach (e :: es) (PySem.W.envX qual (defScope st) L f (.ref cda) [("__class__", cc)]))) []))
    (hs : ∀ L : Addr, swapsWith (.Call (.Attribute (.Call (.Name "super" p0) [] [] p1) "__init__" p2) (e :: es) [] pos) none p3.line (PySem.W.envX qual (defScope st) L f (.ref cda) [("__class__", cc)]) = pure false)
    (he : ∀ L : Addr, starEach (e :: es) (PySem.W.envX qual (defScope st) L f (.ref cda) [("__class__", cc)]) = (false, eval e (PySem.W.envX qual (defScope st) L f (.ref cda) [("__class__", cc)])) :: starEach es (PySem.W.envX qual (defScope st) L f (.ref cda) [("__class__", cc)]))
    (hpl : ∀ L : Addr, (backTo pos (starEach es (PySem.W.envX qual (defScope st) L f (.ref cda) [("__class__", cc)]))).any (·.1) = false)
    (body : ∀ (A : Around) (outer : List Env) (s : Shared) (H : Hp) (vs : List V) (Q : VK) (E : XK), Room k (A.deeper (PySem.W.envX qual (defScope st) s.heap.objs.size f (.ref cda) [("__class__", cc)])) → sp vs H Q E →
      ∃ ta t, PA (xcx CX P w K mg base N qual st f cc cda A outer s H E) (e :: es) ta ∧ PSs (xcx CX P w K mg base N qual st f cc cda A outer s H E) rest t ∧
        tSup K D ta t { nx := fun _ H' => Q .non H', rt := Q } (startF N vs [none]) H) : FnOk P w K mg base CX (k + 1) f fd ps sp := by
  obtain ⟨dV, kV, doc, pm, an, ct, rfl⟩ := F.ex
  obtain ⟨oc, od, osl, hf⟩ := F.sup.fn
  obtain ⟨cl, cld, csl, hcell⟩ := F.sup.cell
  refine ⟨len, fun A outer s H ar' us vs Q E hr e0 hbi r hsp => ?_⟩
  have hl := len _ _ _ _ hsp
  have old : ∀ b o, base.get? b = some o → s.heap.get? b = some o := fun b o e => (e0.bs b o e).1
  have kin : K.In s.heap := e0.mod.kin.keeps old
  have hcc : H cc = none := (e0.bs _ _ (e0.mod.kin _ _ hcell)).2
  refine codeAny_call_function hr.depth (kin _ _ hf) rfl S.co S.gen rfl (PySem.W.codeRec_of kin F.code) (hbi _ _ _ _ ?_)
  refine wpAny_newFunctionEnv S.nocell (fun ⟨n, _⟩ hy => S.par n (List.of_mem_zip hy).1) (fun h₁ hns hsb => ⟨(e0.mod.nolimit.keeps old).fresh _ hsb, ?_⟩) S.kind
  have kp : ∀ b o, s.heap.get? b = some o → h₁.get? b = some o := fun b o e => hsb.extBut b o (Nat.ne_of_lt (Heap.lt_size e)) (Heap.get?_push_of_some _ e)
  obtain ⟨ta, t, hA, hR, hq⟩ := body A outer s H vs Q E (hr.deeper _) hsp
  have C : CellsAt [("__class__", cc)] ["__class__"] [none] s.heap H := by
    have lk : ∀ {y : Str} {c : Addr}, ([(("__class__" : Str), cc)] : List (Str × Addr)).lookup y = some c → y = "__class__" ∧ c = cc := by
      intro y c e
      rw [List.lookup_cons] at e
      cases hy : (y == ("__class__" : Str)) with
      | true =>
        rw [hy] at e
        exact ⟨by simpa using hy, (Option.some.inj e).symm⟩
      | false =>
        rw [hy] at e
        cases e
    refine ⟨rfl, fun y c e => ?_, fun x y c e1 e2 => ?_, fun i y e => ?_⟩
    · obtain ⟨_, rfl⟩ := lk e
      exact ⟨hcc, _, _, kin _ _ hcell, rfl⟩
    · rw [(lk e1).1, (lk e2).1]
    · match i, e with
      | 0, e =>
        cases e
        exact ⟨cc, by simp [List.lookup], fun v z => by cases z⟩
  have I : Inv (xcx CX P w K mg base N qual st f cc cda A outer s H E) [] (startF N vs [none]) H { s with heap := h₁, toks := s.toks + (ps.zip us).length } :=
    inv_startN (F := ⟨"__init__", qual, defArgs st, defBody st, defScope st, [("__class__", cc)], cda⟩) S hr.hd e0 hl r C hns kp
  show codeAny _ _ (.func (defBody st) (PySem.W.envX qual (defScope st) s.heap.objs.size f (.ref cda) [("__class__", cc)])) _ _
  refine ks_codeAny_funcAt ?_
  have B := body_sup (X := xcx CX P w K mg base N qual st f cc cda A outer s H E) (body := defBody st) (cc := cc) (cda := cda) (p3 := p3) F.sup T hm hA hR I hq hp hN hka (.inl hka) hks (S.frk _ (List.mem_cons_self ..)) rfl rfl (show ([(("__class__" : Str), cc)] : List (Str × Addr)).lookup ("__class__" : Str) = some cc by simp [List.lookup]) (fun _ => hc _) (hs _) (he _) (hpl _)
  rw [← hb] at B
  refine ks_wpAt_mono B (fun fl s' hs' => ?_) fun e s' z => z
  have fin : ∀ {σ' : L2.St} {H' : Hp} {v : V} {u : Value}, Inv (xcx CX P w K mg base N qual st f cc cda A outer s H E) [] σ' H' s' → L2.RelV v u → Q v H' → CE outer P w H s Q u s' :=
    fun {σ' H' v u} J rv q => ⟨v, H', J.os, J.bare, J.base, J.hok, rv, q⟩
  cases fl with
  | ret u =>
    obtain ⟨v, σ', H', J, rv, q⟩ := hs'
    exact fin J rv q
  | next =>
    obtain ⟨σ', H', J, q⟩ := hs'
    exact fin (v := V.non) (u := Value.none) J rfl q
  | brk =>
    obtain ⟨_, _, _, q⟩ := hs'
    exact False.elim q
  | cont =>
    obtain ⟨_, _, _, q⟩ := hs'
    exact False.elim q
end
end Lf

set_option Elab.async false
set_option linter.all false
set_option maxRecDepth 100000
set_option maxHeartbeats 4000000
/-! isinstance of a caught error that has fields of its own, in the suite that caught it. -/
namespace Lf
open PySem PySem.Spec PySem.Calls PyProof.Rows PySem.W
/-- the library's fact of an own error, asked of the facts that L2.ExcC holds: with or without a dict of its own -/
theorem kit_own {K : Frag} {x D : Addr} {ox : Obj} {od : Option Obj} (T : L2.ExcC K D) : KitX K (.ref x) (.ref D) (fun h => InstAt h x ox D od) :=
  kitx_exc (gt := none) (match any_some T.hd with | ⟨_, hc, _⟩ => by rw [hc]; rfl) T.hg T.hk T.hs T.ha T.hn T.ht T.hm
end Lf
namespace Lf
open PySem PySem.Spec PyProof.Rows L2
/-- isinstance(e, c), e what the suite caught: its class is D, its fields stand -/
def rIsX (K : PySem.W.Frag) (D a : Addr) (cls : Value) (d : Option Addr) : List V → Hp → VK → Prop := fun xs H Q => cls = .ref D ∧ (d = none ∨ ∃ (dd : Addr) (fs : List (Str × V)), d = some dd ∧ H dd = some (.xd fs)) ∧
  ∃ (c : V) (cv : Value) (b : Bool), xs = [.ref a, c] ∧ (∀ u, RelV c u → u = cv) ∧ PySem.W.kitOne K (.ref D) cv = some b ∧ Q (.bl b) H
theorem call_isX {X : Cx} {a D : Addr} {oe : Obj} {cls : Value} {d : Option Addr} {pn : List (Addr × Obj)} (C : ExcC X.K D) (hz : Zc cls d oe) (hf : ∃ vs, oe.data = .fields vs) : CallR (X.suite a ((a, oe) :: pn)) (.builtin "isinstance") (rIsX X.K D a cls d) := by
  intro pins s σ H xs us Q I r h
  obtain ⟨ec, hd, c, cv, b, rfl, hcv, e, q⟩ := h
  cases r with
  | cons rx rr =>
    cases rr with
    | cons rt rr =>
      cases rr
      cases rx
      have ecv := hcv _ rt
      subst ecv
      obtain ⟨hget, _⟩ := I.pin (a, oe) (List.mem_append.mpr (.inl List.mem_cons_self))
      obtain ⟨vs, hv⟩ := hf
      have J : ∃ od, PySem.W.InstAt s.heap a oe D od := by
        rcases hd with hd | ⟨dd, fs, hd, hH⟩
        · exact ⟨none, hget, by rw [hz.1, ec], by unfold PySem.W.notCls; rw [hv] <;> rfl, by rw [hz.2, hd]; trivial⟩
        · have hx : ObjOk X.prog X.w H s.heap dd (.xd fs) := I.hok dd _ hH
          obtain ⟨o, ho⟩ := objOk_get hx
          exact ⟨some o, hget, by rw [hz.1, ec], by unfold PySem.W.notCls; rw [hv] <;> rfl, by rw [hz.2, hd]; exact ho⟩
      obtain ⟨od, J⟩ := J
      exact PySem.W.kia_one (kit_own (od := od) C) I.kIn J e (fun z => nomatch z) fun tk => ⟨.bl b, H, I.kept (t' := tk) fun _ _ z => z, rfl, q⟩
end Lf

set_option Elab.async false
set_option linter.all false
set_option maxRecDepth 100000
set_option maxHeartbeats 4000000
/-! The head by kernel runs, with the __init__ of own exceptions (a def that holds its class in a cell) among the defs, and the facts of such exceptions. -/
namespace Lf
open PySem PySem.Spec PyProof.Rows L2
abbrev FnV : Type := Option (Str × Str × Arguments × FuncBody × Scope × Addr × List Str × Addr)
def fnV (K : PySem.W.Frag) (p : Str × Option Str) : FnV := match K.lookup (He.fAd K p) with
  | some ⟨_, _, .func fd, _⟩ => some (fd.name, fd.qualname, fd.params, fd.body, fd.scope, fd.globals, fd.closure.map (·.1), fd.builtins)
  | _ => none
/-- a def, and the names that it holds in cells -/
structure DefY where
  d : He.DefD
  cl : List Str := []
def DefY.val (y : DefY) : FnV := some (y.d.name, y.d.qual, y.d.params, .stmts y.d.body, y.d.scope, mainGlobals, y.cl, builtinsNs)
abbrev AlY : Type := Bool × List FnV
def obsY (fa : List Fct) (fn : List DefY) (K : PySem.W.Frag) : AlY := ((fa.all fun f => f K) && fn.all fun y => y.d.ok K, fn.map fun y => fnV K y.d.at_)
def valY (fn : List DefY) : AlY := (true, fn.map DefY.val)
def SaysY (fa : List Fct) (fn : List DefY) (K : PySem.W.Frag) : Prop := obsY fa fn K = valY fn
def obsYG (n : Nat) (fa : List Fct) (fn : List DefY) (g : Addr → Option Obj) : AlY := obsY fa fn (He.frG g (He.asD g n ++ [cStatics]))
def hookY (n : Nat) (fa : List Fct) (fn : List DefY) : PySem.W.Hook where
  α := AlY
  obs := fun s => obsYG n fa fn s.heap.get?
  val := fun _ => valY fn
  says := fun _ h => ∃ K : PySem.W.Frag, K.In h ∧ SaysY fa fn K
  of := fun _ _ e => ⟨_, He.frG_in, e⟩
  keeps := fun _ _ _ ⟨K, hK, c⟩ k => ⟨K, PySem.W.Frag.In.keeps hK k, c⟩
theorem obsYG_eq {n : Nat} {fa : List Fct} {fn : List DefY} {g : Addr → Option Obj} {s : Shared} (h : ∀ a, g a = s.heap.get? a) : obsYG n fa fn g = (hookY n fa fn).obs s := by
  have e : g = s.heap.get? := funext h
  rw [e] <;> rfl
section
variable {fa : List Fct} {fn : List DefY} {K : PySem.W.Frag}
theorem SaysY.fact (c : SaysY fa fn K) (i : Nat) {f : Fct} (h : fa[i]? = some f := by rfl) : f K = true :=
  List.all_eq_true.mp (He.ba (show ((fa.all fun f => f K) && fn.all fun y => y.d.ok K) = true from congrArg (fun z : AlY => z.1) c)).1 f (List.mem_of_getElem? h)
theorem SaysY.at_ (c : SaysY fa fn K) (i : Nat) {y : DefY} (h : fn[i]? = some y) : fnV K y.d.at_ = y.val ∧ y.d.ok K = true := by
  have c2 := (He.ba (show ((fa.all fun f => f K) && fn.all fun y => y.d.ok K) = true from congrArg (fun z : AlY => z.1) c)).2
  have e : fn.map (fun y => fnV K y.d.at_) = fn.map DefY.val := congrArg (fun z : AlY => z.2) c
  have e2 : (fn.map fun y => fnV K y.d.at_)[i]? = (fn.map DefY.val)[i]? := by rw [e]
  rw [List.getElem?_map, List.getElem?_map, h] at e2
  exact ⟨Option.some.inj e2, List.all_eq_true.mp c2 y (List.mem_of_getElem? h)⟩
/-- the def itself, as the part has it -/
theorem DefY.here {y : DefY} (e : fnV K y.d.at_ = y.val) (c : y.d.ok K = true) : ∃ (oc : Value) (od : Option Addr) (cl : List (Str × Addr)) (dV kV doc pm : Value) (an : Option Addr) (cdv ct : Value) (osl : Array (Option Value)),
    K.lookup (He.fAd K y.d.at_) = some ⟨oc, od, .func (PySem.W.fnX y.d.name y.d.qual y.d.params y.d.body y.d.scope cl dV kV doc pm an cdv ct), osl⟩ ∧ cl.map (·.1) = y.cl ∧ PySem.W.codeIn K cdv y.d.qual = true ∧ PySem.W.keepIn K (.ref (He.fAd K y.d.at_)) = true ∧ He.dflB K dV (y.d.dvs K) = true := by
  obtain ⟨kp, c2⟩ := He.ba c
  unfold fnV at e
  cases q : K.lookup (He.fAd K y.d.at_) with
  | none =>
    rw [q] at c2
    cases c2
  | some o =>
    obtain ⟨oc, od, dt, osl⟩ := o
    rw [q] at c2 e
    cases dt with
    | func fd =>
      obtain ⟨n1, n2, n3, n4, n5, n6, n7, n8, n9, n10, n11, n12, n13, n14, n15⟩ := fd
      have e2 : (some (n1, n2, n3, n4, n5, n6, n7.map (·.1), n15) : FnV) = some (y.d.name, y.d.qual, y.d.params, .stmts y.d.body, y.d.scope, mainGlobals, y.cl, builtinsNs) := e
      simp only [Option.some.injEq, Prod.mk.injEq] at e2
      obtain ⟨h1, h2, h3, h4, h5, h6, h7, h8⟩ := e2
      subst h1 h2 h3 h4 h5 h6 h8
      have c3 : (PySem.W.codeIn K n13 y.d.qual && (He.dflB K n8 (y.d.dvs K) && He.kwdB K n9 (y.d.kws K))) = true := c2
      exact ⟨oc, od, n7, n8, n9, n10, n11, n12, n13, n14, osl, rfl, h7, (He.ba c3).1, kp, (He.ba (He.ba c3).2).1⟩
    | _ => cases c2
theorem SaysY.def_ (c : SaysY fa fn K) (i : Nat) {y : DefY} (h : fn[i]? = some y := by rfl) (hc : y.cl = [] := by rfl) : ∃ fd, FunD K y.d.name y.d.qual y.d.params y.d.body y.d.scope (y.d.dvs K) (y.d.kws K) (He.fAd K y.d.at_) fd := by
  obtain ⟨e, ok⟩ := c.at_ i h
  refine He.DefD.funD ?_ ok
  obtain ⟨oc, od, cl, dV, kV, doc, pm, an, cdv, ct, osl, lk, ec, _⟩ := DefY.here e ok
  rw [hc] at ec
  cases cl with
  | nil =>
    show He.fnW K y.d.at_ = _
    unfold He.fnW
    rw [lk]
    rfl
  | cons a b => cases ec
end
/-! ### several runs -/
section
open PySem.W HandSHeadRun
theorem obsY_app {fa fb : List Fct} {fn gn : List DefY} {K : PySem.W.Frag} (h : obsY fa fn K = valY fn) (k : obsY fb gn K = valY gn) : obsY (fa ++ fb) (fn ++ gn) K = valY (fn ++ gn) := by
  have a := He.ba (show ((fa.all fun f => f K) && fn.all fun y => y.d.ok K) = true from congrArg (fun z : AlY => z.1) h)
  have b := He.ba (show ((fb.all fun f => f K) && gn.all fun y => y.d.ok K) = true from congrArg (fun z : AlY => z.1) k)
  have h2 : fn.map (fun y => fnV K y.d.at_) = fn.map DefY.val := congrArg (fun z : AlY => z.2) h
  have k2 : gn.map (fun y => fnV K y.d.at_) = gn.map DefY.val := congrArg (fun z : AlY => z.2) k
  show (((fa ++ fb).all fun f => f K) && (fn ++ gn).all fun y => y.d.ok K, (fn ++ gn).map fun y => fnV K y.d.at_) = (true, (fn ++ gn).map DefY.val)
  rw [List.all_append, List.all_append, a.1, a.2, b.1, b.2, List.map_append, List.map_append, h2, k2]
  rfl
def RunPartY (r : OpenRow) (n M : Nat) (fa : List Fct) (fn : List DefY) (w : World) : Prop := ∀ os : OsState, (endF (stepQ (denQ tabQ) r.prog w) M r.prog w os).map (fun s => obsYG n fa fn (getT s)) = some (valY fn)
def RunLooksY (r : OpenRow) (q : Program) (M : Nat) (loose : List PySem.Str) (w : World) : Prop := ∀ os : OsState, (endF (stepQ (denQ tabQ) r.prog w) M r.prog w os).map (fun s => (looksF r.prog (boot_heap w.params) s.abs, seenQ q loose (importedModules r.prog.main.body) (fun s => xlAt q [] s && recOk r.toRowW.records s) s.abs)) = some (true, openGood q loose)
theorem RunPartY.app {r : OpenRow} {n M : Nat} {fa fb : List Fct} {fn gn : List DefY} {w : World} (h : RunPartY r n M fa fn w) (k : RunPartY r n M fb gn w) : RunPartY r n M (fa ++ fb) (fn ++ gn) w := fun os => by
  have h' := h os
  have k' := k os
  cases e : endF (stepQ (denQ tabQ) r.prog w) M r.prog w os with
  | none =>
    rw [e] at h'
    cases h'
  | some s =>
    rw [e] at h' k'
    exact congrArg some (obsY_app (Option.some.inj h') (Option.some.inj k'))
theorem runY_of {r : OpenRow} {q : Program} {n M : Nat} {loose : List PySem.Str} {fa : List Fct} {fn : List DefY} {w : World} (h : RunLooksY r q M loose w) (k : RunPartY r n M fa fn w) : RunEq r q (hookY n fa fn) (fun s => obsYG n fa fn (getT s)) M loose w := fun os => by
  have h' := h os
  have k' := k os
  cases e : endF (stepQ (denQ tabQ) r.prog w) M r.prog w os with
  | none =>
    rw [e] at h'
    cases h'
  | some s =>
    rw [e] at h' k'
    have h1 := Option.some.inj h'
    have k1 : obsYG n fa fn (getT s) = valY fn := Option.some.inj k'
    refine congrArg some ?_
    show (looksF r.prog (boot_heap w.params) s.abs, seenQ q loose (importedModules r.prog.main.body) (fun s => xlAt q [] s && recOk r.toRowW.records s) s.abs, obsYG n fa fn (getT s)) = (true, openGood q loose, valY fn)
    rw [k1, (Prod.mk.inj h1).1, (Prod.mk.inj h1).2]
end
/-! ### own exceptions -/
/-- an own exception with fields, under its name: ps are the parameters of its __init__, st the def -/
structure XTn (P : Program) (K : PySem.W.Frag) (mg : Str → Option Value) (x qual : Str) (ps : List Str) (st : Stmt) (D fI : Addr) (fdI : FuncData) (cc cda : Addr) : Prop where
  g : mg x = some (.ref D)
  T : OexC K D
  iC : PySem.W.findIn K (.ref D) "__init__" = some (some (.ref fI))
  tI : PySem.W.typeIn K (.ref fI) = some (.type "function")
  F : XFun P K qual st D fI fdI cc cda
  b : Binds K fdI (("self" : Str) :: ps) []
  sup : mg "super" = none
  no : ∀ f ∈ ps, PySem.W.findIn K (.ref D) f = some none
  E : ExcC K D
  X : XfC K D
section
variable {K : PySem.W.Frag} {D : Addr}
def oexB (K : PySem.W.Frag) (D : Addr) : Bool := match K.lookup D with
  | some ⟨.type t, _, .cls cd, sl⟩ => t == "type" && (cd.hasDict && (!cd.hasDel && (match cd.mro, sl.toList with
    | .ref C' :: bm, [_, _, _, _, some (.builtin n), _] => C' == D && (n == "ValueError.__new__" && PySem.HandSPX.refsVE bm)
    | _, _ => false)))
  | _ => false
theorem oexB_ok (hz : oexB K D = true) : ∃ nm q N bs bm sn sub ab col dd k0 k1 k2 k3 k5, K.lookup D = some (excClassObj nm q D N bs bm true sn sub ab col dd k0 k1 k2 k3 k5 "ValueError.__new__") ∧ PySem.HandSPX.refsVE bm = true := by
  unfold oexB at hz
  split at hz
  · rename_i t dd cd sl hl
    obtain ⟨h1, ha⟩ := He.ba hz
    obtain ⟨h2, hb⟩ := He.ba ha
    obtain ⟨h3, hc⟩ := He.ba hb
    clear ha hb hz
    obtain ⟨nm, bs, mro, N, q, hdct, sn, sub, ab, col, hdel⟩ := cd
    obtain ⟨sl⟩ := sl
    have e2 : hdct = true := h2
    have e3 : hdel = false := by
      cases hdel with
      | false => rfl
      | true => cases h3
    subst e2 e3
    have e1 : t = "type" := by simpa using h1
    subst e1
    split at hc
    · rename_i C' bm k0 k1 k2 k3 n k5 hm hs
      obtain ⟨h4, hd⟩ := He.ba hc
      obtain ⟨h5, h6⟩ := He.ba hd
      have e4 : C' = D := by simpa using h4
      have e5 : n = "ValueError.__new__" := by simpa using h5
      subst e4 e5
      have hm : mro = .ref C' :: bm := hm
      have hs : sl = [k0, k1, k2, k3, some (.builtin "ValueError.__new__"), k5] := hs
      subst hm hs
      exact ⟨nm, q, N, bs, bm, sn, sub, ab, col, dd, k0, k1, k2, k3, k5, hl, h6⟩
    · cases hc
  · cases hz
/-- the facts of an own exception over ValueError, with or without an __init__ of its own -/
def excB (K : PySem.W.Frag) (D : Addr) : Bool := decide (PySem.W.findIn K (.ref D) "__getattribute__" = some (some (.builtin "BaseException.__getattribute__"))) && (decide (PySem.W.findIn K (.ref D) "__getattr__" = some none) && (decide (PySem.W.subIn K (.ref D) (.type "BaseException") = some true) && (PySem.W.hasDictIn K D &&
  (decide (PySem.W.findIn K (.ref D) "__class__" = some (some (.builtin "object.__class__"))) && (decide (PySem.W.specialIn K (.builtin "object.__class__") "__get__" = some (some (.builtin "getset_descriptor.__get__"))) && (decide (PySem.W.takesIn K (.builtin "object.__class__") = some true) && decide (PySem.W.mroIn K D (.type "object") = some true)))))))
theorem excB_ok (h : excB K D = true) : ExcC K D ∧ XfC K D := by
  obtain ⟨h1, h⟩ := He.ba h
  obtain ⟨h2, h⟩ := He.ba h
  obtain ⟨h3, h⟩ := He.ba h
  obtain ⟨h4, h⟩ := He.ba h
  obtain ⟨h5, h⟩ := He.ba h
  obtain ⟨h6, h⟩ := He.ba h
  obtain ⟨h7, h8⟩ := He.ba h
  exact ⟨⟨of_decide_eq_true h1, of_decide_eq_true h2, of_decide_eq_true h3, h4, of_decide_eq_true h5, of_decide_eq_true h6, of_decide_eq_true h7, of_decide_eq_true h8⟩, ⟨of_decide_eq_true h1, of_decide_eq_true h2, of_decide_eq_true h3, h4⟩⟩
/-- the cell's place, the code's place, of a def that holds its class -/
def ccOf (K : PySem.W.Frag) (f : Addr) : Addr := match K.lookup f with
  | some ⟨_, _, .func fd, _⟩ => (match fd.closure with | [(_, a)] => a | _ => 0)
  | _ => 0
def cdOf (K : PySem.W.Frag) (f : Addr) : Addr := match K.lookup f with
  | some ⟨_, _, .func fd, _⟩ => (match fd.code with | .ref a => a | _ => 0)
  | _ => 0
def codeB (K : PySem.W.Frag) (file : Str) (c : Addr) : Bool := match K.lookup c with
  | some ⟨_, _, .fields vs, _⟩ => (match (vs[2]? : Option Value) with | some (.str z _) => file == z | _ => false)
  | _ => false
def cellB (K : PySem.W.Frag) (c D : Addr) : Bool := match K.lookup c with
  | some ⟨_, _, .cell (some (.ref a)), _⟩ => a == D
  | _ => false
def xtB (file x : Str) (ps : List Str) (K : PySem.W.Frag) : Bool := oexB K (He.ga K x) && (excB K (He.ga K x) && (codeB K file (cdOf K (He.ma K (He.ga K x) "__init__")) && (cellB K (ccOf K (He.ma K (He.ga K x) "__init__")) (He.ga K x) &&
  (decide (PySem.W.findIn K (.ref (He.ga K x)) "__setattr__" = some (some (.builtin "object.__setattr__"))) && (decide (PySem.W.typeIn K (.ref (He.ga K x)) = some (.type "type")) && (PySem.W.keepIn K (.ref (He.ga K x)) &&
  (decide (PySem.W.findIn K (.ref (He.ga K x)) "__init__" = some (some (.ref (He.ma K (He.ga K x) "__init__")))) && (decide (PySem.W.typeIn K (.ref (He.ma K (He.ga K x) "__init__")) = some (.type "function")) &&
  (decide (PySem.W.ks_superIn K (He.ga K x) (He.ga K x) "__init__" = some (some (.builtin "ValueError.__init__"))) && (decide (PySem.W.mroIn K (He.ga K x) (.ref (He.ga K x)) = some true) && (decide (PySem.W.subIn K (.ref (He.ga K x)) (.type "ValueError") = some true) &&
  (decide (PySem.W.nsIn K cStatics "thirdparty.any" = some none) && (ps.all fun f => decide (PySem.W.findIn K (.ref (He.ga K x)) f = some none))))))))))))))
theorem xtB_ok {P : Program} {mg : Str → Option Value} {x : Str} {ps : List Str} {st : Stmt} {qual file : Str} (hf : P.main.file = file) (htop : (P.main.scope.names.lookup ("super" : Str)).isSome = false) (g : mg x = some (.ref (He.ga K x))) (sup : mg "super" = none) (h : xtB file x ps K = true)
    {y : DefY} (e : fnV K y.d.at_ = y.val) (c : y.d.ok K = true) (ey : y = ⟨⟨(x, some "__init__"), "__init__", qual, defArgs st, defBody st, defScope st, [], []⟩, ["__class__"]⟩)
    (hb : ∀ (cc : Addr) (kV doc pm : Value) (an : Option Addr) (cdv ct : Value) (us : List Value), us.length = (("self" : Str) :: ps).length → bindArgs (PySem.W.fnX "__init__" qual (defArgs st) (defBody st) (defScope st) [("__class__", cc)] .none kV doc pm an cdv ct) ⟨us, []⟩ = pure ((("self" : Str) :: ps).zip us)) :
    ∃ fd, XTn P K mg x qual ps st (He.ga K x) (He.ma K (He.ga K x) "__init__") fd (ccOf K (He.ma K (He.ga K x) "__init__")) (cdOf K (He.ma K (He.ga K x) "__init__")) := by
  subst ey
  obtain ⟨h1, h⟩ := He.ba h
  obtain ⟨h2, h⟩ := He.ba h
  obtain ⟨h3, h⟩ := He.ba h
  obtain ⟨h4, h⟩ := He.ba h
  obtain ⟨h5, h⟩ := He.ba h
  obtain ⟨h6, h⟩ := He.ba h
  obtain ⟨h7, h⟩ := He.ba h
  obtain ⟨h8, h⟩ := He.ba h
  obtain ⟨h9, h⟩ := He.ba h
  obtain ⟨h10, h⟩ := He.ba h
  obtain ⟨h11, h⟩ := He.ba h
  obtain ⟨h12, h⟩ := He.ba h
  obtain ⟨h13, h14⟩ := He.ba h
  obtain ⟨E, Xf⟩ := excB_ok h2
  obtain ⟨oc, od, cl, dV, kV, doc, pm, an, cdv, ct, osl, lk, ec, hcd, kp, dfl⟩ := DefY.here e c
  obtain rfl : dV = .none := ((He.dflB_ok dfl).resolve_right fun z => z.1 rfl).2
  have lk : K.lookup (He.ma K (He.ga K x) "__init__") = some ⟨oc, od, .func (PySem.W.fnX "__init__" qual (defArgs st) (defBody st) (defScope st) cl .none kV doc pm an cdv ct), osl⟩ := lk
  obtain ⟨cc, rfl⟩ : ∃ cc, cl = [(("__class__" : Str), cc)] := by
    match cl, ec with
    | [(a, b)], ec =>
      have : a = ("__class__" : Str) := (List.cons.inj ec).1
      exact ⟨b, by rw [this]⟩
  have ecc : ccOf K (He.ma K (He.ga K x) "__init__") = cc := by
    unfold ccOf
    rw [lk]
  have hcd : PySem.W.codeIn K cdv qual = true := hcd
  obtain ⟨cda, rfl⟩ : ∃ cda, cdv = .ref cda := by
    unfold PySem.W.codeIn at hcd
    split at hcd
    · exact ⟨_, rfl⟩
    · cases hcd
  have ecd : cdOf K (He.ma K (He.ga K x) "__init__") = cda := by
    unfold cdOf
    rw [lk]
  rw [ecd] at h3 ⊢
  rw [ecc] at h4 ⊢
  refine ⟨_, g, ⟨oexB_ok h1, of_decide_eq_true h5, E.hs, of_decide_eq_true h6, h7⟩, of_decide_eq_true h8, of_decide_eq_true h9, ⟨⟨.none, kV, doc, pm, an, ct, rfl⟩, ⟨⟨oc, od, osl, lk⟩, ?_, ?_, of_decide_eq_true h10, of_decide_eq_true h11, of_decide_eq_true h12, of_decide_eq_true h13, htop⟩, hcd⟩, .all fun us hl => hb _ _ _ _ _ _ _ us hl, sup, fun f hf => of_decide_eq_true (List.all_eq_true.mp h14 f hf), E, Xf⟩
  · unfold codeB at h3
    split at h3
    · rename_i a1 a2 vs a3 hl
      split at h3
      · rename_i z tz hz
        exact ⟨a1, a2, vs, a3, z, tz, hl, hz, by rw [hf]; exact h3⟩
      · cases h3
    · cases h3
  · unfold cellB at h4
    split at h4
    · rename_i a1 a2 a a3 hl
      have : a = He.ga K x := by simpa using h4
      subst this
      exact ⟨a1, a2, a3, hl⟩
    · cases h4
end
end Lf

set_option linter.all false
/-! Lowest terms: plain arithmetic. -/
namespace Lf
/-- the fraction of two whole numbers, d not 0 -/
def low (n d : Int) : Int × Int := ((n * d.sign) / (Nat.gcd n.natAbs d.natAbs : Nat), (d.natAbs : Int) / (Nat.gcd n.natAbs d.natAbs : Nat))
def IsLow (t b : Int) : Prop := 0 < b ∧ Nat.Coprime t.natAbs b.natAbs
theorem gcd_pos {n d : Int} (h : d ≠ 0) : 0 < Nat.gcd n.natAbs d.natAbs := Nat.gcd_pos_of_pos_right _ (by omega)
theorem low_parts {n d : Int} (h : d ≠ 0) : ∃ (u : Int) (v : Nat), n * d.sign = u * (Nat.gcd n.natAbs d.natAbs : Nat) ∧ d.natAbs = v * Nat.gcd n.natAbs d.natAbs ∧ low n d = (u, (v : Int)) ∧ 0 < v ∧ Nat.Coprime u.natAbs v := by
  have hg := gcd_pos (n := n) h
  obtain ⟨v, hv⟩ := Nat.gcd_dvd_right n.natAbs d.natAbs
  obtain ⟨u, hu⟩ : ∃ u : Int, n * d.sign = (Nat.gcd n.natAbs d.natAbs : Nat) * u := by
    obtain ⟨x, hx⟩ := Nat.gcd_dvd_left n.natAbs d.natAbs
    rcases Int.natAbs_eq n with e | e
    · exact ⟨x * d.sign, by rw [← Int.mul_assoc, ← Int.natCast_mul, ← hx, ← e]⟩
    · exact ⟨-(x : Int) * d.sign, by rw [← Int.mul_assoc, Int.mul_neg, ← Int.natCast_mul, ← hx, ← e]⟩
  have hn : n.natAbs = Nat.gcd n.natAbs d.natAbs * u.natAbs := by
    have := congrArg Int.natAbs hu
    rw [Int.natAbs_mul, Int.natAbs_mul, Int.natAbs_sign_of_ne_zero h, Nat.mul_one, Int.natAbs_natCast] at this
    exact this
  have hvp : 0 < v := by
    rcases Nat.eq_zero_or_pos v with e | e
    · rw [e, Nat.mul_zero] at hv
      omega
    · exact e
  have hgi : ((Nat.gcd n.natAbs d.natAbs : Nat) : Int) ≠ 0 := by omega
  refine ⟨u, v, by rw [hu, Int.mul_comm], by rw [Nat.mul_comm]; exact hv, ?_, hvp, ?_⟩
  · unfold low
    rw [hu, Int.mul_ediv_cancel_left _ hgi]
    have : (d.natAbs : Int) = (Nat.gcd n.natAbs d.natAbs : Nat) * (v : Int) := by rw [← Int.natCast_mul, ← hv]
    rw [this, Int.mul_ediv_cancel_left _ hgi]
  · have e : Nat.gcd n.natAbs d.natAbs = Nat.gcd n.natAbs d.natAbs * Nat.gcd u.natAbs v := by
      rw [← Nat.gcd_mul_left, ← hn, ← hv]
    have e' : Nat.gcd n.natAbs d.natAbs * 1 = Nat.gcd n.natAbs d.natAbs * Nat.gcd u.natAbs v := by rw [Nat.mul_one]; exact e
    exact (Nat.eq_of_mul_eq_mul_left hg e').symm
theorem sign_mul_natAbs' (d : Int) : d.sign * (d.natAbs : Int) = d := Int.sign_mul_natAbs d
theorem low_is {n d : Int} (h : d ≠ 0) : IsLow (low n d).1 (low n d).2 := by
  obtain ⟨u, v, _, _, e, hv, hc⟩ := low_parts (n := n) h
  rw [e]
  exact ⟨by show (0 : Int) < v; omega, hc⟩
theorem low_cross {n d : Int} (h : d ≠ 0) : (low n d).1 * d = n * (low n d).2 := by
  obtain ⟨u, v, h1, h2, e, hv, hc⟩ := low_parts (n := n) h
  rw [e]
  show u * d = n * v
  have hg := gcd_pos (n := n) h
  have hgi : ((Nat.gcd n.natAbs d.natAbs : Nat) : Int) ≠ 0 := by omega
  have hs : d.sign * d.sign = 1 := by
    rcases Int.lt_or_gt_of_ne h with q | q
    · rw [Int.sign_eq_neg_one_of_neg q]
      rfl
    · rw [Int.sign_eq_one_of_pos q]
      rfl
  have ed : d = d.sign * ((v : Int) * (Nat.gcd n.natAbs d.natAbs : Nat)) := by
    rw [← Int.natCast_mul, ← h2]
    exact (sign_mul_natAbs' d).symm
  have : (u * d) * ((Nat.gcd n.natAbs d.natAbs : Nat) : Int) = (n * v) * (Nat.gcd n.natAbs d.natAbs : Nat) := by
    have e1 : (u * d) * ((Nat.gcd n.natAbs d.natAbs : Nat) : Int) = (u * (Nat.gcd n.natAbs d.natAbs : Nat)) * d := by
      rw [Int.mul_assoc, Int.mul_assoc, Int.mul_comm d]
    rw [e1, ← h1]
    generalize hG : ((Nat.gcd n.natAbs d.natAbs : Nat) : Int) = G at *
    calc n * d.sign * d = n * d.sign * (d.sign * (v * G)) := by rw [← ed]
      _ = n * (d.sign * d.sign) * (v * G) := by simp only [Int.mul_assoc]
      _ = n * v * G := by rw [hs]; simp only [Int.mul_one, Int.mul_assoc]
  exact Int.eq_of_mul_eq_mul_right hgi this
theorem low_uniq {t b t' b' : Int} (h : IsLow t b) (h' : IsLow t' b') (e : t * b' = t' * b) : t = t' ∧ b = b' := by
  obtain ⟨hb, hc⟩ := h
  obtain ⟨hb', hc'⟩ := h'
  have e1 : t.natAbs * b'.natAbs = t'.natAbs * b.natAbs := by
    have := congrArg Int.natAbs e
    rwa [Int.natAbs_mul, Int.natAbs_mul] at this
  have d1 : b.natAbs ∣ b'.natAbs := by
    have q : b.natAbs ∣ t.natAbs * b'.natAbs := by
      rw [e1]
      exact Nat.dvd_mul_left _ _
    exact Nat.Coprime.dvd_of_dvd_mul_left hc.symm q
  have d2 : b'.natAbs ∣ b.natAbs := by
    have q : b'.natAbs ∣ t'.natAbs * b.natAbs := by
      rw [← e1]
      exact Nat.dvd_mul_left _ _
    exact Nat.Coprime.dvd_of_dvd_mul_left hc'.symm q
  have eb : b.natAbs = b'.natAbs := Nat.dvd_antisymm d1 d2
  have eb' : b = b' := by omega
  subst eb'
  exact ⟨Int.eq_of_mul_eq_mul_right (by omega) e, rfl⟩
/-- the fraction is the one in lowest terms -/
theorem low_eq {n d t b : Int} (h : d ≠ 0) (hl : IsLow t b) (e : t * d = n * b) : low n d = (t, b) := by
  have hi := low_is (n := n) h
  have hx := low_cross (n := n) h
  have key : (low n d).1 * b = t * (low n d).2 := by
    have q : ((low n d).1 * b) * d = (t * (low n d).2) * d := by
      calc ((low n d).1 * b) * d = ((low n d).1 * d) * b := by rw [Int.mul_assoc, Int.mul_comm b d, Int.mul_assoc]
        _ = (n * (low n d).2) * b := by rw [hx]
        _ = (n * b) * (low n d).2 := by rw [Int.mul_assoc, Int.mul_comm _ b, Int.mul_assoc]
        _ = (t * d) * (low n d).2 := by rw [e]
        _ = (t * (low n d).2) * d := by rw [Int.mul_assoc, Int.mul_comm d, Int.mul_assoc]
    exact Int.eq_of_mul_eq_mul_right h q
  obtain ⟨e1, e2⟩ := low_uniq hi hl key
  exact Prod.ext e1 e2
theorem low_self {t b : Int} (h : IsLow t b) : low t b = (t, b) := low_eq (by have := h.1; omega) h rfl
/-- bounds -/
theorem low_top_le {n d : Int} (h : d ≠ 0) : (low n d).1.natAbs ≤ n.natAbs := by
  obtain ⟨u, v, h1, h2, e, hv, hc⟩ := low_parts (n := n) h
  rw [e]
  show u.natAbs ≤ n.natAbs
  have hg := gcd_pos (n := n) h
  have := congrArg Int.natAbs h1
  rw [Int.natAbs_mul, Int.natAbs_mul, Int.natAbs_sign_of_ne_zero h, Nat.mul_one, Int.natAbs_natCast] at this
  rw [this]
  exact Nat.le_mul_of_pos_right _ hg
theorem low_bottom_le {n d : Int} (h : d ≠ 0) : (low n d).2.natAbs ≤ d.natAbs := by
  obtain ⟨u, v, h1, h2, e, hv, hc⟩ := low_parts (n := n) h
  rw [e]
  show (v : Int).natAbs ≤ d.natAbs
  have hg := gcd_pos (n := n) h
  rw [h2, Int.natAbs_natCast]
  exact Nat.le_mul_of_pos_right _ hg
/-- the program's way: over a bottom above 0 -/
theorem low_pos {n d : Int} (h : 0 < d) : low n d = (n / (Nat.gcd n.natAbs d.natAbs : Nat), d / (Nat.gcd n.natAbs d.natAbs : Nat)) := by
  unfold low
  rw [Int.sign_eq_one_of_pos h, Int.mul_one, show (d.natAbs : Int) = d by omega]
theorem low_neg (n d : Int) : low (-n) (-d) = low n d := by
  unfold low
  rw [Int.sign_neg, Int.natAbs_neg, Int.natAbs_neg, Int.neg_mul_neg]
/-- the law's way: by the greatest common one, below 0 where the bottom is -/
theorem low_fdiv_pos {n d : Int} (h : 0 < d) : (n.fdiv (Nat.gcd n.natAbs d.natAbs : Nat), d.fdiv (Nat.gcd n.natAbs d.natAbs : Nat)) = low n d := by
  rw [low_pos h, Int.fdiv_eq_ediv_of_nonneg _ (by omega), Int.fdiv_eq_ediv_of_nonneg _ (by omega)]
theorem low_fdiv_neg {n d : Int} (h : d < 0) : (n.fdiv (-(Nat.gcd n.natAbs d.natAbs : Nat)), d.fdiv (-(Nat.gcd n.natAbs d.natAbs : Nat))) = low n d := by
  have q := low_fdiv_pos (n := -n) (d := -d) (by omega)
  rw [Int.natAbs_neg, Int.natAbs_neg, low_neg] at q
  rw [← q, ← Int.neg_fdiv_neg, ← Int.neg_fdiv_neg d, Int.neg_neg]
/-- the sum less the other one is the one -/
theorem low_back {a b c d : Int} (hl : IsLow a b) (hd : 0 < d) :
    low ((low (a * d + c * b) (b * d)).1 * d - c * (low (a * d + c * b) (b * d)).2) ((low (a * d + c * b) (b * d)).2 * d) = (a, b) := by
  have hb := hl.1
  have h0 : b * d ≠ 0 := Int.ne_of_gt (Int.mul_pos hb hd)
  have hi := low_is (n := a * d + c * b) h0
  have hx := low_cross (n := a * d + c * b) h0
  generalize (low (a * d + c * b) (b * d)).1 = x at *
  generalize (low (a * d + c * b) (b * d)).2 = y at *
  refine low_eq (Int.ne_of_gt (Int.mul_pos hi.1 hd)) hl ?_
  have : x * (b * d) = x * d * b := by rw [Int.mul_comm b d, Int.mul_assoc]
  rw [this] at hx
  rw [Int.sub_mul, hx, Int.add_mul]
  have e1 : c * y * b = c * b * y := by rw [Int.mul_assoc, Int.mul_comm y b, Int.mul_assoc]
  have e2 : a * (y * d) = a * d * y := by rw [Int.mul_comm y d, Int.mul_assoc]
  rw [e1, e2]
  omega
/-- Euclid's steps keep the greatest common one -/
theorem gcd_step (a b : Int) (hb : 0 < b) (ha : 0 ≤ a) : Nat.gcd b.natAbs (a % b).natAbs = Nat.gcd a.natAbs b.natAbs := by
  have e : (a % b).natAbs = a.natAbs % b.natAbs := by
    rw [Int.natAbs_emod_of_nonneg ha]
  rw [e, Nat.gcd_comm b.natAbs, ← Nat.gcd_rec, Nat.gcd_comm]
end Lf

set_option Elab.async false
set_option linter.all false
set_option maxRecDepth 100000
set_option maxHeartbeats 4000000
set_option exponentiation.threshold 3000
/-! What repr shows of data, and that it fits. -/
namespace Lf
open PySem PySem.Spec PyProof.Rows L2
/-- below 2 ^ 900 -/
def Sm (n : Int) : Prop := n.natAbs < 2 ^ 900
theorem Sm.log {n : Int} (h : Sm n) : n.natAbs.log2 < 900 := PySem.Flt.log2_lt_of (by decide) h
theorem Sm.text {n : Int} (h : Sm n) : (Str.ofString (toString n)).length ≤ 901 := by
  rw [PySem.ofString_length]
  exact int_text_length_le (by decide) h.log
/-- data that can be shown: its weight, its depth -/
structure Ft (w k : Nat) (d : PyData) : Prop where
  sh : d.showable = true
  nd : d.hasDict = false
  dp : d.depth ≤ k
  lv : d.leavesShort 1000 = true
  wt : d.weight ≤ w
structure FtA (w k : Nat) (ds : List PyData) : Prop where
  sh : PyData.showableAll ds = true
  nd : PyData.hasDictAll ds = false
  dp : PyData.depthAll ds ≤ k
  lv : PyData.leavesShortAll 1000 ds = true
  wt : PyData.weightAll ds ≤ w
theorem Ft.int {n : Int} (h : Sm n) : Ft 900 0 (.int n) := by
  have hl := h.log
  refine ⟨?_, ?_, ?_, ?_, ?_⟩
  · simp only [PyData.showable, decide_eq_true_eq]
    omega
  · simp only [PyData.hasDict]
  · simp only [PyData.depth, Nat.le_refl]
  · simp only [PyData.leavesShort, decide_eq_true_eq, PyData.shown]
    exact decide_eq_true (Nat.le_trans h.text (show 901 ≤ 1000 by decide))
  · simp only [PyData.weight]
    split <;> omega
theorem Ft.bool (b : Bool) : Ft 0 0 (.bool b) := ⟨by simp only [PyData.showable], by simp only [PyData.hasDict], by simp only [PyData.depth, Nat.le_refl], by simp only [PyData.leavesShort], by simp only [PyData.weight, Nat.le_refl]⟩
theorem Ft.none : Ft 0 0 .none := ⟨by simp only [PyData.showable], by simp only [PyData.hasDict], by simp only [PyData.depth, Nat.le_refl], by simp only [PyData.leavesShort], by simp only [PyData.weight, Nat.le_refl]⟩
/-- a text whose signs are signs -/
def Sg (x : Str) : Prop := ∀ c ∈ x.cps.toList, c < 16 ^ 8
theorem Sg.of (s : String) : Sg (Str.ofString s) := by
  intro c hc
  rw [Str.ofString_eq_toList] at hc
  obtain ⟨ch, _, rfl⟩ := List.mem_map.mp (show c ∈ s.toList.map Char.toNat from hc)
  exact ch.val.toNat_lt
theorem Sg.app {x y : Str} (h : Sg x) (k : Sg y) : Sg (x ++ y) := by
  intro c hc
  have e : (x ++ y).cps.toList = x.cps.toList ++ y.cps.toList := by
    rw [show (x ++ y).cps = x.cps ++ y.cps from rfl, Array.toList_append]
  rw [e] at hc
  rcases List.mem_append.mp hc with q | q
  · exact h c q
  · exact k c q
theorem Ft.str {w : Nat} {x : Str} (h : Sg x) (hw : x.length ≤ w) : Ft w 0 (.str x) := ⟨by simp only [PyData.showable], by simp only [PyData.hasDict], by simp only [PyData.depth, Nat.le_refl],
  by simp only [PyData.leavesShort, List.all_eq_true, decide_eq_true_eq]; exact h, by simp only [PyData.weight]; exact hw⟩
theorem FtA.nil : FtA 0 0 [] := ⟨by simp only [PyData.showableAll], by simp only [PyData.hasDictAll], by simp only [PyData.depthAll, Nat.le_refl], by simp only [PyData.leavesShortAll], by simp only [PyData.weightAll, Nat.le_refl]⟩
theorem FtA.cons {w k w' k' : Nat} {d : PyData} {ds : List PyData} (h : Ft w k d) (r : FtA w' k' ds) : FtA (w + 1 + w') (max k k') (d :: ds) := by
  refine ⟨?_, ?_, ?_, ?_, ?_⟩
  · simp only [PyData.showableAll, h.sh, r.sh, Bool.and_self]
  · simp only [PyData.hasDictAll, h.nd, r.nd, Bool.or_self]
  · simp only [PyData.depthAll]
    have := h.dp
    have := r.dp
    omega
  · simp only [PyData.leavesShortAll, h.lv, r.lv, Bool.and_self]
  · simp only [PyData.weightAll]
    have := h.wt
    have := r.wt
    omega
theorem Ft.list {w k : Nat} {ds : List PyData} (r : FtA w k ds) : Ft w (k + 1) (.list ds) :=
  ⟨by simp only [PyData.showable]; exact r.sh, by simp only [PyData.hasDict]; exact r.nd, by simp only [PyData.depth]; exact Nat.succ_le_succ r.dp, by simp only [PyData.leavesShort]; exact r.lv, by simp only [PyData.weight]; exact r.wt⟩
theorem Ft.tuple {w k : Nat} {ds : List PyData} (r : FtA w k ds) : Ft w (k + 1) (.tuple ds) :=
  ⟨by simp only [PyData.showable]; exact r.sh, by simp only [PyData.hasDict]; exact r.nd, by simp only [PyData.depth]; exact Nat.succ_le_succ r.dp, by simp only [PyData.leavesShort]; exact r.lv, by simp only [PyData.weight]; exact r.wt⟩
/-- what repr asks -/
structure Showy (d : PyData) : Prop where
  sh : d.showable = true
  nd : d.hasDict = false
  dp : d.depth ≤ 30
  ln : d.shown.length ≤ sizeLine
theorem Ft.showy {w k : Nat} {d : PyData} (h : Ft w k d) (hk : k ≤ 30 := by decide) (hw : w ≤ 16000 := by decide) : Showy d := by
  refine ⟨h.sh, h.nd, Nat.le_trans h.dp hk, ?_⟩
  have e := PyData.shown_le 1000 (by decide) d h.lv
  have e2 := h.wt
  have e3 : (1000 + 2) * d.weight ≤ 1002 * 16000 := Nat.mul_le_mul (Nat.le_refl _) (Nat.le_trans e2 hw)
  have e4 := sizeLine_eq
  omega
/-- a fraction -/
def tD (t : Int × Int) : PyData := .tuple [.int t.1, .int t.2]
theorem Ft.two {t : Int × Int} (h : Sm t.1) (k : Sm t.2) : Ft 1802 1 (tD t) := Ft.tuple (.cons (.int h) (.cons (.int k) .nil))
theorem dp2 {K : PySem.W.Frag} {H : Hp} {p : Addr} {x y : Int} (h : SqT K H p [.int x, .int y]) : Dp K H (.ref p) (tD (x, y)) := .tup h (.cons (.int x) (.cons (.int y) .nil))
theorem dp2' {K : PySem.W.Frag} {H : Hp} {p : Addr} {t : Int × Int} (h : H p = some (.tup [.int t.1, .int t.2])) : Dp K H (.ref p) (tD t) := .tup (.inl (.inl h)) (.cons (.int _) (.cons (.int _) .nil))
mutual
theorem Dp.same {K : PySem.W.Frag} {H H' : Hp} (s : Same H H') : ∀ (d : PyData) (v : V), Dp K H v d → Dp K H' v d
  | .none, _, h => by cases h; exact .non
  | .bool b, _, h => by cases h; exact .bl b
  | .int i, _, h => by cases h; exact .int i
  | .str x, _, h => by cases h; exact .str x
  | .list ds, _, h => by
    cases h with
    | lst h1 h2 => exact .lst (s.seq h1) (DpAll.same s ds _ h2)
  | .tuple ds, _, h => by
    cases h with
    | tup h1 h2 =>
      refine .tup ?_ (DpAll.same s ds _ h2)
      rcases h1 with (h | ⟨o, h⟩) | h
      · exact .inl (.inl (s _ _ h))
      · exact .inl (.inr ⟨o, s _ _ h⟩)
      · exact .inr h
  | .dict _, _, h => by cases h
theorem DpAll.same {K : PySem.W.Frag} {H H' : Hp} (s : Same H H') : ∀ (ds : List PyData) (vs : List V), DpAll K H vs ds → DpAll K H' vs ds
  | [], _, h => by cases h; exact .nil
  | d :: ds, _, h => by
    cases h with
    | cons h1 h2 => exact .cons (Dp.same s d _ h1) (DpAll.same s ds _ h2)
end
end Lf

set_option Elab.async false
set_option linter.all false
set_option maxRecDepth 100000
set_option maxHeartbeats 4000000
namespace Lf
open PySem PySem.Spec PyProof.Rows L2
theorem same_new {H : Hp} {p : Addr} {o : HO} (h : H p = none) : Same H (upd H p o) := fun b x e => by
  rw [upd_ne (ne_of_none e h)]
  exact e
theorem same_rfl {H : Hp} : Same H H := fun _ _ e => e
theorem bt_abs : bootBuiltins "abs" = some (.builtin "abs") := by decide +kernel
theorem bt_len : bootBuiltins "len" = some (.builtin "len") := by decide +kernel
theorem bt_max : bootBuiltins "max" = some (.builtin "max") := by decide +kernel
theorem bt_min : bootBuiltins "min" = some (.builtin "min") := by decide +kernel
theorem bt_divmod : bootBuiltins "divmod" = some (.builtin "divmod") := by decide +kernel
theorem bt_repr : bootBuiltins "repr" = some (.builtin "repr") := by decide +kernel
theorem bt_all : bootBuiltins "all" = some (.builtin "all") := by decide +kernel
theorem bt_int : bootBuiltins "int" = some (.type "int") := by decide +kernel
theorem bt_str : bootBuiltins "str" = some (.type "str") := by decide +kernel
/-- the built-in names that nothing of the text hides -/
structure Blt (mg : Str → Option Value) : Prop where
  abs : mg "abs" = none
  len : mg "len" = none
  max : mg "max" = none
  min : mg "min" = none
  divmod : mg "divmod" = none
  repr : mg "repr" = none
  all : mg "all" = none
  int : mg "int" = none
  str : mg "str" = none
  range : mg "range" = none
/-- an own class under ValueError -/
structure ExT (K : PySem.W.Frag) (mg : Str → Option Value) (x : Str) (C : Addr) : Prop where
  g : mg x = some (.ref C)
  x : PySem.W.excIn K C [.type "ValueError", .type "Exception", .type "BaseException", .type "object"] "ValueError.__new__" = true
  k : PySem.W.keepIn K (.ref C) = true
  b : PySem.W.subIn K (.ref C) (.type "BaseException") = some true
  t : PySem.W.typeIn K (.ref C) = some (.type "type")
  m : PySem.W.exmOne K (.ref C) (.ref C) = some true
section
variable {K : PySem.W.Frag} {H : Hp} {p : Addr} {x y : V} {Q : VK}
theorem ixT0 (h : SqT K H p [x, y]) (q : Q x H) : rIxT K (.ref p) (.int 0) H Q := ⟨p, _, 0, _, rfl, rfl, h, rfl, q⟩
theorem ixT1 (h : SqT K H p [x, y]) (q : Q y H) : rIxT K (.ref p) (.int 1) H Q := ⟨p, _, 1, _, rfl, rfl, h, rfl, q⟩
theorem ixL0 (h : SqL K H p [x, y]) (q : Q x H) : rIxL K (.ref p) (.int 0) H Q := ⟨p, _, 0, _, rfl, rfl, h, rfl, q⟩
theorem ixL1 (h : SqL K H p [x, y]) (q : Q y H) : rIxL K (.ref p) (.int 1) H Q := ⟨p, _, 1, _, rfl, rfl, h, rfl, q⟩
theorem tup2 {a b : V} (q : ∀ p, H p = none → Q (.ref p) (upd H p (.tup [a, b]))) : [a, b].length ≤ sizeLine ∧ ∀ p, H p = none → Q (.ref p) (upd H p (.tup [a, b])) := ⟨by show 2 ≤ sizeLine; decide, q⟩
theorem lst2 {a b : V} (q : ∀ p, H p = none → Q (.ref p) (upd H p (.lst [a, b]))) : [a, b].length ≤ sizeLine ∧ ∀ p, H p = none → Q (.ref p) (upd H p (.lst [a, b])) := ⟨by show 2 ≤ sizeLine; decide, q⟩
end
theorem sm_t {K : PySem.W.Frag} {H H' : Hp} {a : Addr} {xs : List V} (s : Same H H') (h : SqT K H a xs) : SqT K H' a xs := by
  rcases h with (h | ⟨o, h⟩) | h
  · exact .inl (.inl (s _ _ h))
  · exact .inl (.inr ⟨o, s _ _ h⟩)
  · exact .inr h
def topS (i : Nat) : Stmt := PySem.Challenge.pw_loafshares_k57_pans_refused.main.body.getD i (.Pass ⟨0, 0, 0, 0⟩)
section
variable {P : Program} {w : World} {K : PySem.W.Frag} {mg : Str → Option Value} {base : Heap}
/-! ### common -/
abbrev sCom : Stmt := topS 17
theorem scCom : FnScope ["one", "other"] ["one", "other"] (defScope sCom) := ⟨rfl, rfl, rfl, by decide +kernel, rfl, by decide +kernel, by decide +kernel⟩
def spCom : Sp := fun vs H Q _ => ∃ (a b : Int), vs = [.int a, .int b] ∧ 0 ≤ a ∧ 0 ≤ b ∧ Q (.int (Nat.gcd a.natAbs b.natAbs : Nat)) H
theorem ok_com {f : Addr} {fd : FuncData} (F : Fun K "common" "common" sCom f fd) : FnG P w K mg base CX0 1 f fd ["one", "other"] spCom := by
  refine Gfun F scCom (fun vs H Q E h => ?_) (fun cdv A outer s H vs Q E hg hr h => ?_)
  · obtain ⟨a, b, rfl, _⟩ := h
    rfl
  · obtain ⟨a, b, rfl, ha, hb, q⟩ := h
    refine ⟨_, pss_cons (ps_while PassesOwn.never (pt_cmpR op_ne (pv 1) pe_int (nomark _))
        (pss_one (ps_par (i := 0) (j := 1) rfl scCom.nd rfl rfl (by decide) rfl rfl (pa_cons (pv 1) (pa_cons (pe_op op_mod (pv 0) (pv 1)) pa_nil)) (by rfl))))
      (pss_one (ps_ret (pv 0))), ?_⟩
    refine while_by (fun σ H' => ∃ x y : Int, σ = [some (.int x), some (.int y)] ∧ 0 ≤ x ∧ 0 ≤ y ∧ Nat.gcd x.natAbs y.natAbs = Nat.gcd a.natAbs b.natAbs ∧ H' = H)
      (fun σ _ => match σ with | [_, some (.int y)] => y.toNat | _ => 0) ⟨a, b, rfl, ha, hb, rfl, rfl⟩ ?_ ?_
    · rintro σ H1 ⟨x, y, rfl, hx, hy, hg, rfl⟩
      refine ⟨_, rfl, rfl, _, rfl, ite2 (fun e => ?_) (fun e => ?_)⟩
      · have hy0 : y ≠ 0 := fun z => by
          rw [z] at e
          exact absurd e (by decide)
        have hyp : 0 < y := by omega
        refine ⟨_, rfl, _, rfl, _, rfl, x, y, rfl, rfl, hyp, _, _, rfl, ⟨y, x % y, rfl, hy, Int.emod_nonneg _ hy0, (gcd_step x y hyp hx).trans hg, rfl⟩, ?_⟩
        show (x % y).toNat < y.toNat
        have := Int.emod_lt_of_pos x hyp
        omega
      · have hy0 : y = 0 := by
          by_cases z : y = 0
          · exact z
          · exact absurd (by rw [decide_eq_false (fun q => z (V.int.inj q))]; rfl) e
        subst hy0
        refine ⟨_, rfl, ?_⟩
        rw [← hg, Int.natAbs_zero, Nat.gcd_zero_right] at q
        rw [show (x.natAbs : Int) = x by omega] at q
        exact q
    · rintro σ H1 Q1 Q2 hq ⟨u, hu, h1, h2, h3, h4⟩
      exact ⟨u, hu, h1, h2, h3, hq _ _ h4⟩
/-! ### fraction -/
abbrev sFrac : Stmt := topS 18
theorem scFrac : FnScope ["top", "bottom", "shared"] ["top", "bottom"] (defScope sFrac) := ⟨rfl, rfl, rfl, by decide +kernel, rfl, by decide +kernel, by decide +kernel⟩
/-- below 2 ^ 2000 -/
def Mid (n : Int) : Prop := n.natAbs < 2 ^ 2000
theorem Mid.log {n : Int} (h : Mid n) : n.natAbs.log2 < 9000 := Nat.lt_of_lt_of_le (PySem.Flt.log2_lt_of (by decide) h) (by decide)
/-- a new tuple of two ints -/
def Two (H : Hp) (Q : VK) (t : Int × Int) : Prop := ∀ H' p, Same H H' → H' p = some (.tup [.int t.1, .int t.2]) → Q (.ref p) H'
def spFrac (neg : Bool) : Sp := fun vs H Q _ => ∃ (n d : Int), vs = [.int n, .int d] ∧ d ≠ 0 ∧ (neg = false → 0 < d) ∧ Mid n ∧ Mid d ∧ Two H Q (low n d)
theorem gcd_mid {n d : Int} (h : d ≠ 0) (hd : Mid d) : Mid ((Nat.gcd n.natAbs d.natAbs : Nat) : Int) := by
  unfold Mid at hd ⊢
  rw [Int.natAbs_natCast]
  exact Nat.lt_of_le_of_lt (Nat.le_of_dvd (by omega) (Nat.gcd_dvd_right _ _)) hd
theorem abs_is (n : Int) : (if n < 0 then -n else n) = (n.natAbs : Int) := by
  split <;> omega
theorem ok_frac {j : Nat} {f : Addr} {fd : FuncData} {C : Addr} (neg : Bool) (R : Sp) (hR : ∀ n d H Q, d < 0 → spFrac neg [.int n, .int d] H Q E0 → R [.int (-n), .int (-d)] H Q E0) (M : Blt mg) (X : ExT K mg "NoFraction" C) (F : Fun K "fraction" "fraction" sFrac f fd)
    (C_common : Cal P w K mg base CX0 1 "common" ["one", "other"] spCom) (C_fraction : Cal P w K mg base CX0 (j + 1) "fraction" ["top", "bottom"] R) : FnG P w K mg base CX0 (j + 2) f fd ["top", "bottom"] (spFrac neg) := by
  refine Gfun F scFrac (fun vs H Q E h => ?_) (fun cdv A outer s H vs Q E hg hr h => ?_)
  · obtain ⟨a, b, rfl, _⟩ := h
    rfl
  · obtain ⟨n, d, rfl, hd, hneg, hn2, hd2, q⟩ := h
    refine ⟨_, pss_cons (ps_if (pt_cmpR op_eq (pv 1) pe_int (nomark _)) (pss_one (ps_raise rfl takes0 (pmk_own PySem.F.excBase_ValueError X.x X.g X.k (raises_own X.b X.t) rfl))) pss_nil)
      (pss_cons (ps_if (pt_cmpR op_lt (pv 1) pe_int (nomark _)) (pss_one (ps_ret (pe_g C_fraction (hr.mono (by omega)) hg (pa_cons (pe_un un_neg (pv 0)) (pa_cons (pe_un un_neg (pv 1)) pa_nil))))) pss_nil)
      (pss_cons (ps_set (i := 2) scFrac.nd rfl (.inl rfl) (pe_g C_common (hr.mono (by omega)) hg (pa_cons (pe_callB call_abs rfl M.abs bt_abs (pa_cons (pv 0) pa_nil)) (pa_cons (pv 1) pa_nil))))
      (pss_one (ps_ret (pe_tup (pa_cons (pe_op op_fdivN (pv 0) (pv 2)) (pa_cons (pe_op op_fdivN (pv 1) (pv 2)) pa_nil))))))), ?_⟩
    refine ⟨_, rfl, rfl, _, rfl, ite2 (fun e => ?_) (fun _ => ?_)⟩
    · exact absurd (V.int.inj (of_decide_eq_true e)) hd
    refine ⟨_, rfl, _, _, rfl, rfl, _, rfl, ite2 (fun e => ?_) (fun e => ?_)⟩
    · have e' : d < 0 := of_decide_eq_true e
      refine ⟨_, rfl, _, rfl, _, rfl, _, rfl, ?_⟩
      exact hR n d H Q e' ⟨n, d, rfl, hd, hneg, hn2, hd2, q⟩
    · have e' : 0 < d := by
        have : ¬ d < 0 := fun z => e (decide_eq_true z)
        omega
      refine ⟨_, rfl, _, rfl, _, rfl, _, d, rfl, ?_, Int.le_of_lt e', ?_⟩
      · rw [abs_is]
        omega
      · rw [abs_is, Int.natAbs_natCast]
        have hgz : ((Nat.gcd n.natAbs d.natAbs : Nat) : Int) ≠ 0 := by
          have := gcd_pos (n := n) hd
          omega
        have hm : CDivN n ((Nat.gcd n.natAbs d.natAbs : Nat) : Int) := ⟨hgz, (gcd_mid hd hd2).log⟩
        refine ⟨_, rfl, _, rfl, n, _, rfl, rfl, hm, _, rfl, _, rfl, d, _, rfl, rfl, hm, tup2 fun p hp => ?_⟩
        refine q _ p (same_new hp) ?_
        have := low_fdiv_pos (n := n) (d := d) e'
        rw [← this]
        exact upd_same
end
end Lf

set_option Elab.async false
set_option linter.all false
set_option maxRecDepth 100000
set_option maxHeartbeats 0
namespace Lf
open PySem PySem.Spec PyProof.Rows L2
def inCls (st : Stmt) (j : Nat) : Stmt := match st with
  | .ClassDef (body := b) .. => b.getD j (.Pass ⟨0, 0, 0, 0⟩)
  | _ => .Pass ⟨0, 0, 0, 0⟩
abbrev s_plus : Stmt := topS 19
abbrev s_minus : Stmt := topS 20
abbrev s_times : Stmt := topS 21
abbrev s_over : Stmt := topS 22
abbrev s_is_less : Stmt := topS 24
abbrev s_is_whole : Stmt := topS 16
abbrev s__law_is_whole : Stmt := topS 59
abbrev s_is_fraction : Stmt := topS 26
abbrev s_is_name : Stmt := topS 28
abbrev s__law_cell : Stmt := topS 51
abbrev s__law_pot : Stmt := topS 52
abbrev s__law_draw : Stmt := topS 53
abbrev s__law_low : Stmt := topS 54
abbrev s_together : Stmt := topS 23
abbrev s_is_above_0 : Stmt := topS 27
abbrev s_is_row : Stmt := topS 32
abbrev s_are_rows : Stmt := topS 33
abbrev s_is_lead : Stmt := topS 34
abbrev s_dinit : Stmt := inCls (topS 35) 0
abbrev s_dname : Stmt := inCls (topS 35) 4
abbrev s_dlead : Stmt := inCls (topS 35) 6
abbrev s_drows : Stmt := inCls (topS 35) 5
abbrev s_dlen : Stmt := inCls (topS 35) 2
abbrev s_dtotal : Stmt := inCls (topS 35) 7
abbrev s_deq : Stmt := inCls (topS 35) 1
abbrev s_drepr : Stmt := inCls (topS 35) 3
abbrev s_floor_of : Stmt := topS 25
abbrev s_refuse_no_weight : Stmt := topS 37
abbrev s_measure_or_none_of_it : Stmt := topS 40
abbrev s_is_measure : Stmt := topS 41
abbrev s_is_loss : Stmt := topS 43
abbrev s_refuse_no_pan : Stmt := topS 44
abbrev s_pinit : Stmt := inCls (topS 45) 0
abbrev s_pname : Stmt := inCls (topS 45) 3
abbrev s_pholds : Stmt := inCls (topS 45) 4
abbrev s_ploss : Stmt := inCls (topS 45) 5
abbrev s_pbaked : Stmt := inCls (topS 45) 6
abbrev s_peq : Stmt := inCls (topS 45) 1
abbrev s_prepr : Stmt := inCls (topS 45) 2
abbrev s_loaves : Stmt := topS 46
abbrev s_dough_for : Stmt := topS 47
abbrev s_pan_for : Stmt := topS 48
abbrev s_weighed_rows : Stmt := topS 38
abbrev s_scaled : Stmt := topS 49
abbrev s__law_some : Stmt := topS 55
abbrev sx_NoPan : Stmt := inCls (topS 5) 0
abbrev s__law_odd_name : Stmt := topS 56
abbrev s__law_odd_weight : Stmt := topS 57
abbrev s__law_odd_count : Stmt := topS 58
abbrev s__law_is_name : Stmt := topS 60
abbrev s__law_is_fraction : Stmt := topS 61
abbrev s__law_is_weight : Stmt := topS 62
abbrev s__law_wrong : Stmt := topS 63
abbrev s__law_of_fault : Stmt := topS 64
abbrev s__law_done : Stmt := topS 65
abbrev s__law_deeds_right : Stmt := topS 66
abbrev s_law : Stmt := topS 67
def FILE : Str := "/claim/cut.py"
def hdFa_0 : List Fct := [fun K => (He.Fa.free "isinstance").ok K,
  fun K => (He.Fa.free "bool").ok K,
  fun K => (He.Fa.free "tuple").ok K,
  fun K => decide (PySem.W.specialIn K (.builtin "object.__class__") "__get__" = some (some (.builtin "getset_descriptor.__get__"))),
  fun K => decide (PySem.W.takesIn K (.builtin "object.__class__") = some true),
  fun K => (He.Fa.free "list").ok K,
  fun K => (He.Fa.free "set").ok K,
  fun K => (He.Fa.glo "NONE_OF_IT").ok K,
  fun K => He.tupB K "NONE_OF_IT" [.int 0, .int 1],
  fun K => (He.Fa.glo "ALL_OF_IT").ok K,
  fun K => He.tupB K "ALL_OF_IT" [.int 1, .int 1],
  fun K => (He.Fa.mkr "Dough").ok K,
  fun K => (He.Fa.cls "Dough").ok K,
  fun K => (He.Fa.noat "Dough" "own_name").ok K,
  fun K => (He.Fa.noat "Dough" "own_rows").ok K,
  fun K => (He.Fa.noat "Dough" "own_lead").ok K,
  fun K => decide (PySem.W.findIn K (.ref (He.ga K "Dough")) "__class__" = some (some (.builtin "object.__class__"))),
  fun K => decide (PySem.W.mroIn K (He.ga K "Dough") (.type "object") = some true),
  fun K => (He.Fa.glo "Dough").ok K,
  fun K => (He.Fa.meth "Dough" "name").ok K,
  fun K => (He.Fa.meth "Dough" "rows").ok K,
  fun K => (He.Fa.meth "Dough" "lead").ok K,
  fun K => (He.Fa.meth "Dough" "total").ok K,
  fun K => (He.Fa.meth "Dough" "__eq__").ok K,
  fun K => (He.Fa.meth "Dough" "__repr__").ok K,
  fun K => (He.Fa.meth "Dough" "__len__").ok K,
  fun K => decide (PySem.W.findIn K (.ref (He.ga K "Dough")) "__ne__" = some (some (.builtin "object.__ne__"))),
  fun K => decide (PySem.W.subIn K (.ref (He.ga K "Dough")) (.type "object") = some true),
  fun K => decide (PySem.W.kitOne K (.type "NoneType") (.ref (He.ga K "Dough")) = some false),
  fun K => decide (PySem.W.notFirst K (He.ga K "Dough") (.type "NoneType") = true),
  fun K => decide (PySem.W.subIn K (.ref (He.ga K "Dough")) (.type "NoneType") = some false),
  fun K => decide (PySem.W.kitOne K (.type "int") (.ref (He.ga K "Dough")) = some false),
  fun K => decide (PySem.W.notFirst K (He.ga K "Dough") (.type "int") = true),
  fun K => decide (PySem.W.subIn K (.ref (He.ga K "Dough")) (.type "int") = some false),
  fun K => decide (PySem.W.kitOne K (.type "str") (.ref (He.ga K "Dough")) = some false),
  fun K => decide (PySem.W.notFirst K (He.ga K "Dough") (.type "str") = true),
  fun K => decide (PySem.W.subIn K (.ref (He.ga K "Dough")) (.type "str") = some false),
  fun K => decide (PySem.W.kitOne K (.type "list") (.ref (He.ga K "Dough")) = some false),
  fun K => decide (PySem.W.notFirst K (He.ga K "Dough") (.type "list") = true),
  fun K => decide (PySem.W.subIn K (.ref (He.ga K "Dough")) (.type "list") = some false),
  fun K => decide (PySem.W.kitOne K (.type "tuple") (.ref (He.ga K "Dough")) = some false),
  fun K => decide (PySem.W.notFirst K (He.ga K "Dough") (.type "tuple") = true),
  fun K => decide (PySem.W.subIn K (.ref (He.ga K "Dough")) (.type "tuple") = some false),
  fun K => (He.Fa.mkr "Pan").ok K,
  fun K => (He.Fa.cls "Pan").ok K,
  fun K => (He.Fa.noat "Pan" "own_name").ok K,
  fun K => (He.Fa.noat "Pan" "own_holds").ok K,
  fun K => (He.Fa.noat "Pan" "own_loss").ok K,
  fun K => decide (PySem.W.findIn K (.ref (He.ga K "Pan")) "__class__" = some (some (.builtin "object.__class__"))),
  fun K => decide (PySem.W.mroIn K (He.ga K "Pan") (.type "object") = some true),
  fun K => (He.Fa.glo "Pan").ok K,
  fun K => (He.Fa.meth "Pan" "name").ok K,
  fun K => (He.Fa.meth "Pan" "holds").ok K,
  fun K => (He.Fa.meth "Pan" "loss").ok K,
  fun K => (He.Fa.meth "Pan" "baked").ok K,
  fun K => (He.Fa.meth "Pan" "__eq__").ok K,
  fun K => (He.Fa.meth "Pan" "__repr__").ok K,
  fun K => decide (PySem.W.findIn K (.ref (He.ga K "Pan")) "__ne__" = some (some (.builtin "object.__ne__"))),
  fun K => decide (PySem.W.subIn K (.ref (He.ga K "Pan")) (.type "object") = some true),
  fun K => decide (PySem.W.kitOne K (.type "NoneType") (.ref (He.ga K "Pan")) = some false),
  fun K => decide (PySem.W.notFirst K (He.ga K "Pan") (.type "NoneType") = true),
  fun K => decide (PySem.W.subIn K (.ref (He.ga K "Pan")) (.type "NoneType") = some false),
  fun K => decide (PySem.W.kitOne K (.type "int") (.ref (He.ga K "Pan")) = some false),
  fun K => decide (PySem.W.notFirst K (He.ga K "Pan") (.type "int") = true),
  fun K => decide (PySem.W.subIn K (.ref (He.ga K "Pan")) (.type "int") = some false),
  fun K => decide (PySem.W.kitOne K (.type "str") (.ref (He.ga K "Pan")) = some false),
  fun K => decide (PySem.W.notFirst K (He.ga K "Pan") (.type "str") = true),
  fun K => decide (PySem.W.subIn K (.ref (He.ga K "Pan")) (.type "str") = some false),
  fun K => decide (PySem.W.kitOne K (.type "list") (.ref (He.ga K "Pan")) = some false),
  fun K => decide (PySem.W.notFirst K (He.ga K "Pan") (.type "list") = true),
  fun K => decide (PySem.W.subIn K (.ref (He.ga K "Pan")) (.type "list") = some false),
  fun K => decide (PySem.W.kitOne K (.type "tuple") (.ref (He.ga K "Pan")) = some false),
  fun K => decide (PySem.W.notFirst K (He.ga K "Pan") (.type "tuple") = true),
  fun K => decide (PySem.W.subIn K (.ref (He.ga K "Pan")) (.type "tuple") = some false),
  fun K => (He.Fa.glo "pan_for").ok K,
  fun K => (He.Fa.glo "LoafError").ok K,
  fun K => (He.Fa.free "ValueError").ok K,
  xtB FILE "NoPan" ["field"],
  fun K => (He.Fa.glo "NoPan").ok K,
  fun K => (He.Fa.free "super").ok K,
  fun K => (He.Fa.exc "NoWeight").ok K,
  fun K => (He.Fa.exm "NoWeight" "NoWeight" true).ok K,
  fun K => excB K (He.ga K "NoWeight"),
  fun K => (He.Fa.glo "NoWeight").ok K,
  fun K => (He.Fa.exc "NoCount").ok K]
def hdFa_1 : List Fct := [fun K => (He.Fa.exm "NoCount" "NoCount" true).ok K,
  fun K => excB K (He.ga K "NoCount"),
  fun K => (He.Fa.glo "NoCount").ok K,
  fun K => (He.Fa.glo "NoDough").ok K,
  fun K => (He.Fa.glo "NoFraction").ok K,
  fun K => (He.Fa.glo "NoName").ok K,
  fun K => (He.Fa.glo "NoStep").ok K,
  fun K => (He.Fa.glo "NoStuff").ok K,
  fun K => (He.Fa.glo "NoWeights").ok K,
  fun K => decide (PySem.W.kitAny K (.ref (He.ga K "NoPan")) [.ref (He.ga K "NoDough"), .ref (He.ga K "NoFraction"), .ref (He.ga K "NoName"), .ref (He.ga K "NoStep"), .ref (He.ga K "NoStuff"), .ref (He.ga K "NoWeights")] = some false),
  fun K => decide (PySem.W.kitOne K (.ref (He.ga K "NoPan")) (.type "ValueError") = some true),
  fun K => decide (PySem.W.exmOne K (.ref (He.ga K "NoPan")) (.ref (He.ga K "LoafError")) = some true),
  fun K => decide (PySem.W.kitOne K (.ref (He.ga K "NoPan")) (.ref (He.ga K "NoPan")) = some true),
  fun K => decide (PySem.W.kitOne K (.ref (He.ga K "NoPan")) (.ref (He.ga K "NoWeight")) = some false),
  fun K => decide (PySem.W.kitOne K (.ref (He.ga K "NoPan")) (.ref (He.ga K "NoCount")) = some false),
  fun K => decide (PySem.W.kitAny K (.ref (He.ga K "NoWeight")) [.ref (He.ga K "NoDough"), .ref (He.ga K "NoFraction"), .ref (He.ga K "NoName"), .ref (He.ga K "NoStep"), .ref (He.ga K "NoStuff"), .ref (He.ga K "NoWeights")] = some false),
  fun K => decide (PySem.W.kitOne K (.ref (He.ga K "NoWeight")) (.type "ValueError") = some true),
  fun K => decide (PySem.W.exmOne K (.ref (He.ga K "NoWeight")) (.ref (He.ga K "LoafError")) = some true),
  fun K => decide (PySem.W.kitOne K (.ref (He.ga K "NoWeight")) (.ref (He.ga K "NoPan")) = some false),
  fun K => decide (PySem.W.kitOne K (.ref (He.ga K "NoWeight")) (.ref (He.ga K "NoWeight")) = some true),
  fun K => decide (PySem.W.kitOne K (.ref (He.ga K "NoWeight")) (.ref (He.ga K "NoCount")) = some false),
  fun K => decide (PySem.W.kitAny K (.ref (He.ga K "NoCount")) [.ref (He.ga K "NoDough"), .ref (He.ga K "NoFraction"), .ref (He.ga K "NoName"), .ref (He.ga K "NoStep"), .ref (He.ga K "NoStuff"), .ref (He.ga K "NoWeights")] = some false),
  fun K => decide (PySem.W.kitOne K (.ref (He.ga K "NoCount")) (.type "ValueError") = some true),
  fun K => decide (PySem.W.exmOne K (.ref (He.ga K "NoCount")) (.ref (He.ga K "LoafError")) = some true),
  fun K => decide (PySem.W.kitOne K (.ref (He.ga K "NoCount")) (.ref (He.ga K "NoPan")) = some false),
  fun K => decide (PySem.W.kitOne K (.ref (He.ga K "NoCount")) (.ref (He.ga K "NoWeight")) = some false),
  fun K => decide (PySem.W.kitOne K (.ref (He.ga K "NoCount")) (.ref (He.ga K "NoCount")) = some true),
  fun K => (He.Fa.free "abs").ok K,
  fun K => (He.Fa.free "len").ok K,
  fun K => (He.Fa.free "max").ok K,
  fun K => (He.Fa.free "min").ok K,
  fun K => (He.Fa.free "divmod").ok K,
  fun K => (He.Fa.free "repr").ok K,
  fun K => (He.Fa.free "all").ok K,
  fun K => (He.Fa.free "int").ok K,
  fun K => (He.Fa.free "str").ok K,
  fun K => (He.Fa.free "range").ok K,
  fun K => (He.Fa.exc "NoFraction").ok K,
  fun K => (He.Fa.exm "NoFraction" "NoFraction" true).ok K,
  fun K => (He.Fa.str "LETTERS" (Str.ofString "abcdefghijklmnopqrstuvwxyz")).ok K,
  fun K => (He.Fa.int "LONGEST_NAME" 10).ok K,
  fun K => (He.Fa.int "MOST_ROWS" 8).ok K,
  fun K => (He.Fa.int "LONGEST_LEAD" 99).ok K,
  fun K => (He.Fa.glo "is_whole").ok K,
  fun K => (He.Fa.glo "common").ok K,
  fun K => (He.Fa.glo "fraction").ok K,
  fun K => (He.Fa.glo "plus").ok K,
  fun K => (He.Fa.glo "minus").ok K,
  fun K => (He.Fa.glo "times").ok K,
  fun K => (He.Fa.glo "over").ok K,
  fun K => (He.Fa.glo "together").ok K,
  fun K => (He.Fa.glo "is_less").ok K,
  fun K => (He.Fa.glo "floor_of").ok K,
  fun K => (He.Fa.glo "is_fraction").ok K,
  fun K => (He.Fa.glo "is_above_0").ok K,
  fun K => (He.Fa.glo "is_name").ok K,
  fun K => (He.Fa.glo "is_row").ok K,
  fun K => (He.Fa.glo "are_rows").ok K,
  fun K => (He.Fa.glo "is_lead").ok K,
  fun K => (He.Fa.glo "refuse_no_weight").ok K,
  fun K => (He.Fa.glo "weighed_rows").ok K,
  fun K => (He.Fa.glo "measure_or_none_of_it").ok K,
  fun K => (He.Fa.glo "is_measure").ok K,
  fun K => (He.Fa.glo "is_loss").ok K,
  fun K => (He.Fa.glo "refuse_no_pan").ok K,
  fun K => (He.Fa.glo "loaves").ok K,
  fun K => (He.Fa.glo "dough_for").ok K,
  fun K => (He.Fa.glo "scaled").ok K,
  fun K => (He.Fa.glo "_law_cell").ok K,
  fun K => (He.Fa.glo "_law_pot").ok K,
  fun K => (He.Fa.glo "_law_draw").ok K,
  fun K => (He.Fa.glo "_law_low").ok K,
  fun K => (He.Fa.glo "_law_some").ok K,
  fun K => (He.Fa.glo "_law_odd_name").ok K,
  fun K => (He.Fa.glo "_law_odd_weight").ok K,
  fun K => (He.Fa.glo "_law_odd_count").ok K,
  fun K => (He.Fa.glo "_law_is_whole").ok K,
  fun K => (He.Fa.glo "_law_is_name").ok K,
  fun K => (He.Fa.glo "_law_is_fraction").ok K,
  fun K => (He.Fa.glo "_law_is_weight").ok K,
  fun K => (He.Fa.glo "_law_wrong").ok K,
  fun K => (He.Fa.glo "_law_of_fault").ok K,
  fun K => (He.Fa.glo "_law_done").ok K,
  fun K => (He.Fa.glo "_law_deeds_right").ok K,
  fun K => (He.Fa.glo "law").ok K]
def hdFa : List Fct := hdFa_0 ++ hdFa_1
def hdFn_0 : List DefY := [⟨⟨("Dough", some "__init__"), "__init__", "Dough.__init__", defArgs s_dinit, defBody s_dinit, defScope s_dinit, [.int 0], []⟩, []⟩,
  ⟨⟨("Dough", some "name"), "name", "Dough.name", defArgs s_dname, defBody s_dname, defScope s_dname, [], []⟩, []⟩,
  ⟨⟨("Dough", some "rows"), "rows", "Dough.rows", defArgs s_drows, defBody s_drows, defScope s_drows, [], []⟩, []⟩,
  ⟨⟨("Dough", some "lead"), "lead", "Dough.lead", defArgs s_dlead, defBody s_dlead, defScope s_dlead, [], []⟩, []⟩,
  ⟨⟨("Dough", some "total"), "total", "Dough.total", defArgs s_dtotal, defBody s_dtotal, defScope s_dtotal, [], []⟩, []⟩,
  ⟨⟨("Dough", some "__eq__"), "__eq__", "Dough.__eq__", defArgs s_deq, defBody s_deq, defScope s_deq, [], []⟩, []⟩,
  ⟨⟨("Dough", some "__repr__"), "__repr__", "Dough.__repr__", defArgs s_drepr, defBody s_drepr, defScope s_drepr, [], []⟩, []⟩,
  ⟨⟨("Dough", some "__len__"), "__len__", "Dough.__len__", defArgs s_dlen, defBody s_dlen, defScope s_dlen, [], []⟩, []⟩,
  ⟨⟨("Pan", some "__init__"), "__init__", "Pan.__init__", defArgs s_pinit, defBody s_pinit, defScope s_pinit, [.non], []⟩, []⟩,
  ⟨⟨("Pan", some "name"), "name", "Pan.name", defArgs s_pname, defBody s_pname, defScope s_pname, [], []⟩, []⟩,
  ⟨⟨("Pan", some "holds"), "holds", "Pan.holds", defArgs s_pholds, defBody s_pholds, defScope s_pholds, [], []⟩, []⟩,
  ⟨⟨("Pan", some "loss"), "loss", "Pan.loss", defArgs s_ploss, defBody s_ploss, defScope s_ploss, [], []⟩, []⟩,
  ⟨⟨("Pan", some "baked"), "baked", "Pan.baked", defArgs s_pbaked, defBody s_pbaked, defScope s_pbaked, [], []⟩, []⟩,
  ⟨⟨("Pan", some "__eq__"), "__eq__", "Pan.__eq__", defArgs s_peq, defBody s_peq, defScope s_peq, [], []⟩, []⟩,
  ⟨⟨("Pan", some "__repr__"), "__repr__", "Pan.__repr__", defArgs s_prepr, defBody s_prepr, defScope s_prepr, [], []⟩, []⟩,
  ⟨⟨("pan_for", none), "pan_for", "pan_for", defArgs s_pan_for, defBody s_pan_for, defScope s_pan_for, [.non], []⟩, []⟩,
  ⟨⟨("NoPan", some "__init__"), "__init__", "NoPan.__init__", defArgs sx_NoPan, defBody sx_NoPan, defScope sx_NoPan, [], []⟩, ["__class__"]⟩,
  ⟨⟨("is_whole", none), "is_whole", "is_whole", defArgs s_is_whole, defBody s_is_whole, defScope s_is_whole, [], []⟩, []⟩,
  ⟨⟨("common", none), "common", "common", defArgs sCom, defBody sCom, defScope sCom, [], []⟩, []⟩,
  ⟨⟨("fraction", none), "fraction", "fraction", defArgs sFrac, defBody sFrac, defScope sFrac, [], []⟩, []⟩,
  ⟨⟨("plus", none), "plus", "plus", defArgs s_plus, defBody s_plus, defScope s_plus, [], []⟩, []⟩,
  ⟨⟨("minus", none), "minus", "minus", defArgs s_minus, defBody s_minus, defScope s_minus, [], []⟩, []⟩,
  ⟨⟨("times", none), "times", "times", defArgs s_times, defBody s_times, defScope s_times, [], []⟩, []⟩,
  ⟨⟨("over", none), "over", "over", defArgs s_over, defBody s_over, defScope s_over, [], []⟩, []⟩,
  ⟨⟨("together", none), "together", "together", defArgs s_together, defBody s_together, defScope s_together, [], []⟩, []⟩,
  ⟨⟨("is_less", none), "is_less", "is_less", defArgs s_is_less, defBody s_is_less, defScope s_is_less, [], []⟩, []⟩,
  ⟨⟨("floor_of", none), "floor_of", "floor_of", defArgs s_floor_of, defBody s_floor_of, defScope s_floor_of, [], []⟩, []⟩,
  ⟨⟨("is_fraction", none), "is_fraction", "is_fraction", defArgs s_is_fraction, defBody s_is_fraction, defScope s_is_fraction, [], []⟩, []⟩,
  ⟨⟨("is_above_0", none), "is_above_0", "is_above_0", defArgs s_is_above_0, defBody s_is_above_0, defScope s_is_above_0, [], []⟩, []⟩,
  ⟨⟨("is_name", none), "is_name", "is_name", defArgs s_is_name, defBody s_is_name, defScope s_is_name, [], []⟩, []⟩]
def hdFn_1 : List DefY := [⟨⟨("is_row", none), "is_row", "is_row", defArgs s_is_row, defBody s_is_row, defScope s_is_row, [], []⟩, []⟩,
  ⟨⟨("are_rows", none), "are_rows", "are_rows", defArgs s_are_rows, defBody s_are_rows, defScope s_are_rows, [], []⟩, []⟩,
  ⟨⟨("is_lead", none), "is_lead", "is_lead", defArgs s_is_lead, defBody s_is_lead, defScope s_is_lead, [], []⟩, []⟩,
  ⟨⟨("refuse_no_weight", none), "refuse_no_weight", "refuse_no_weight", defArgs s_refuse_no_weight, defBody s_refuse_no_weight, defScope s_refuse_no_weight, [], []⟩, []⟩,
  ⟨⟨("weighed_rows", none), "weighed_rows", "weighed_rows", defArgs s_weighed_rows, defBody s_weighed_rows, defScope s_weighed_rows, [], []⟩, []⟩,
  ⟨⟨("measure_or_none_of_it", none), "measure_or_none_of_it", "measure_or_none_of_it", defArgs s_measure_or_none_of_it, defBody s_measure_or_none_of_it, defScope s_measure_or_none_of_it, [], []⟩, []⟩,
  ⟨⟨("is_measure", none), "is_measure", "is_measure", defArgs s_is_measure, defBody s_is_measure, defScope s_is_measure, [], []⟩, []⟩,
  ⟨⟨("is_loss", none), "is_loss", "is_loss", defArgs s_is_loss, defBody s_is_loss, defScope s_is_loss, [], []⟩, []⟩,
  ⟨⟨("refuse_no_pan", none), "refuse_no_pan", "refuse_no_pan", defArgs s_refuse_no_pan, defBody s_refuse_no_pan, defScope s_refuse_no_pan, [], []⟩, []⟩,
  ⟨⟨("loaves", none), "loaves", "loaves", defArgs s_loaves, defBody s_loaves, defScope s_loaves, [], []⟩, []⟩,
  ⟨⟨("dough_for", none), "dough_for", "dough_for", defArgs s_dough_for, defBody s_dough_for, defScope s_dough_for, [], []⟩, []⟩,
  ⟨⟨("scaled", none), "scaled", "scaled", defArgs s_scaled, defBody s_scaled, defScope s_scaled, [], []⟩, []⟩,
  ⟨⟨("_law_cell", none), "_law_cell", "_law_cell", defArgs s__law_cell, defBody s__law_cell, defScope s__law_cell, [], []⟩, []⟩,
  ⟨⟨("_law_pot", none), "_law_pot", "_law_pot", defArgs s__law_pot, defBody s__law_pot, defScope s__law_pot, [], []⟩, []⟩,
  ⟨⟨("_law_draw", none), "_law_draw", "_law_draw", defArgs s__law_draw, defBody s__law_draw, defScope s__law_draw, [], []⟩, []⟩,
  ⟨⟨("_law_low", none), "_law_low", "_law_low", defArgs s__law_low, defBody s__law_low, defScope s__law_low, [], []⟩, []⟩,
  ⟨⟨("_law_some", none), "_law_some", "_law_some", defArgs s__law_some, defBody s__law_some, defScope s__law_some, [], []⟩, []⟩,
  ⟨⟨("_law_odd_name", none), "_law_odd_name", "_law_odd_name", defArgs s__law_odd_name, defBody s__law_odd_name, defScope s__law_odd_name, [], []⟩, []⟩,
  ⟨⟨("_law_odd_weight", none), "_law_odd_weight", "_law_odd_weight", defArgs s__law_odd_weight, defBody s__law_odd_weight, defScope s__law_odd_weight, [], []⟩, []⟩,
  ⟨⟨("_law_odd_count", none), "_law_odd_count", "_law_odd_count", defArgs s__law_odd_count, defBody s__law_odd_count, defScope s__law_odd_count, [], []⟩, []⟩,
  ⟨⟨("_law_is_whole", none), "_law_is_whole", "_law_is_whole", defArgs s__law_is_whole, defBody s__law_is_whole, defScope s__law_is_whole, [], []⟩, []⟩,
  ⟨⟨("_law_is_name", none), "_law_is_name", "_law_is_name", defArgs s__law_is_name, defBody s__law_is_name, defScope s__law_is_name, [], []⟩, []⟩,
  ⟨⟨("_law_is_fraction", none), "_law_is_fraction", "_law_is_fraction", defArgs s__law_is_fraction, defBody s__law_is_fraction, defScope s__law_is_fraction, [], []⟩, []⟩,
  ⟨⟨("_law_is_weight", none), "_law_is_weight", "_law_is_weight", defArgs s__law_is_weight, defBody s__law_is_weight, defScope s__law_is_weight, [], []⟩, []⟩,
  ⟨⟨("_law_wrong", none), "_law_wrong", "_law_wrong", defArgs s__law_wrong, defBody s__law_wrong, defScope s__law_wrong, [], []⟩, []⟩,
  ⟨⟨("_law_of_fault", none), "_law_of_fault", "_law_of_fault", defArgs s__law_of_fault, defBody s__law_of_fault, defScope s__law_of_fault, [], []⟩, []⟩,
  ⟨⟨("_law_done", none), "_law_done", "_law_done", defArgs s__law_done, defBody s__law_done, defScope s__law_done, [], []⟩, []⟩,
  ⟨⟨("_law_deeds_right", none), "_law_deeds_right", "_law_deeds_right", defArgs s__law_deeds_right, defBody s__law_deeds_right, defScope s__law_deeds_right, [], []⟩, []⟩,
  ⟨⟨("law", none), "law", "law", defArgs s_law, defBody s_law, defScope s_law, [], []⟩, []⟩]
def hdFn : List DefY := hdFn_0 ++ hdFn_1
def hdLoose_0 : List Str := ["LoafError",
  "NoFraction",
  "NoStuff",
  "NoDough",
  "NoPan",
  "NoName",
  "NoWeight",
  "NoWeights",
  "NoStep",
  "NoCount",
  "NONE_OF_IT",
  "ALL_OF_IT",
  "LETTERS",
  "LONGEST_NAME",
  "is_whole",
  "common",
  "fraction",
  "plus",
  "minus",
  "times",
  "over",
  "together",
  "is_less",
  "floor_of",
  "is_fraction",
  "is_above_0",
  "is_name",
  "MOST_ROWS",
  "LONGEST_LEAD",
  "is_row"]
def hdLoose_1 : List Str := ["are_rows",
  "is_lead",
  "Dough",
  "refuse_no_weight",
  "weighed_rows",
  "measure_or_none_of_it",
  "is_measure",
  "is_loss",
  "refuse_no_pan",
  "Pan",
  "loaves",
  "dough_for",
  "pan_for",
  "scaled",
  "_law_cell",
  "_law_pot",
  "_law_draw",
  "_law_low",
  "_law_some",
  "_law_odd_name",
  "_law_odd_weight",
  "_law_odd_count",
  "_law_is_whole",
  "_law_is_name",
  "_law_is_fraction",
  "_law_is_weight",
  "_law_wrong",
  "_law_of_fault",
  "_law_done",
  "_law_deeds_right"]
def hdLoose : List Str := hdLoose_0 ++ hdLoose_1
abbrev hdR : PySem.W.OpenRow := PySem.W.OpenLaw.row PySem.Challenge.rw_loafshares_k57_pans_refused
abbrev hdK : PySem.W.Hook := hookY 5 hdFa hdFn
def hdOb (s : PySem.W.SharedT) : AlY := obsYG 5 hdFa hdFn (HandSHeadRun.getT s)
theorem hdOb_eq (s : PySem.W.SharedT) : hdOb s = hdK.obs s.abs := obsYG_eq (HandSHeadRun.getT_eq s)
theorem hdLooks (w : World) : RunLooksY hdR (PySem.W.view hdR.prog [67]) 20000 hdLoose w := by
  intro os
  kernel_rfl
theorem hdPart_0 (w : World) : RunPartY hdR 5 20000 hdFa_0 hdFn_0 w := by
  intro os
  kernel_rfl
theorem hdPart_1 (w : World) : RunPartY hdR 5 20000 hdFa_1 hdFn_1 w := by
  intro os
  kernel_rfl
theorem hdRun (w : World) : HandSHeadRun.RunEq hdR (PySem.W.view hdR.prog [67]) hdK hdOb 20000 hdLoose w := runY_of (hdLooks w) ((hdPart_0 w).app (hdPart_1 w))
end Lf

set_option Elab.async false
set_option linter.all false
set_option maxRecDepth 100000
set_option maxHeartbeats 4000000
set_option exponentiation.threshold 3000
namespace Lf
open PySem PySem.Spec PyProof.Rows L2
theorem Sm.mid {n : Int} (h : Sm n) : Mid n := Nat.lt_of_lt_of_le h (Nat.pow_le_pow_right (by decide) (by decide))
theorem Sm.mulW {a b : Int} (ha : Sm a) (hb : Sm b) : CMulW a b := by
  have := ha.log
  have := hb.log
  unfold CMulW
  omega
theorem Sm.prod {a b : Int} (ha : Sm a) (hb : Sm b) : (a * b).natAbs < 2 ^ 1800 := by
  rw [Int.natAbs_mul, show (2 : Nat) ^ 1800 = 2 ^ 900 * 2 ^ 900 by rw [← Nat.pow_add]]
  exact Nat.mul_lt_mul'' ha hb
theorem Sm.mul {a b : Int} (ha : Sm a) (hb : Sm b) : Mid (a * b) := Nat.lt_of_lt_of_le (Sm.prod ha hb) (Nat.pow_le_pow_right (by decide) (by decide))
theorem two_pow : (2 : Nat) ^ 1800 + 2 ^ 1800 = 2 ^ 1801 := (Nat.two_pow_succ 1800).symm
theorem Sm.add {a b c d : Int} (ha : Sm a) (hb : Sm b) (hc : Sm c) (hd : Sm d) : Mid (a * b + c * d) := by
  have h1 := Sm.prod ha hb
  have h2 := Sm.prod hc hd
  have h3 := Int.natAbs_add_le (a * b) (c * d)
  have h4 : (2 : Nat) ^ 1801 ≤ 2 ^ 2000 := Nat.pow_le_pow_right (by decide) (by decide)
  have h5 := two_pow
  unfold Mid
  omega
theorem Sm.sub {a b c d : Int} (ha : Sm a) (hb : Sm b) (hc : Sm c) (hd : Sm d) : Mid (a * b - c * d) := by
  have h1 := Sm.prod ha hb
  have h2 := Sm.prod hc hd
  have h3 := Int.natAbs_sub_le (a * b) (c * d)
  have h4 : (2 : Nat) ^ 1801 ≤ 2 ^ 2000 := Nat.pow_le_pow_right (by decide) (by decide)
  have h5 := two_pow
  unfold Mid
  omega
/-- two handed fractions -/
structure Pr (K : PySem.W.Frag) (H : Hp) (vs : List V) (a b c d : Int) : Prop where
  ex : ∃ p q, vs = [.ref p, .ref q] ∧ SqT K H p [.int a, .int b] ∧ SqT K H q [.int c, .int d]
  hb : b ≠ 0
  hd : d ≠ 0
  a1 : Sm a
  b1 : Sm b
  c1 : Sm c
  d1 : Sm d
theorem mul_ne {a b : Int} (ha : a ≠ 0) (hb : b ≠ 0) : a * b ≠ 0 := Int.mul_ne_zero ha hb
section
variable {P : Program} {w : World} {K : PySem.W.Frag} {mg : Str → Option Value} {base : Heap}
/-! ### fraction of a bottom 0 -/
def spFrac0 (C : Addr) : Sp := fun vs H Q E => ∃ n : Int, vs = [.int n, .int 0] ∧ E (.ref C) none H
theorem ok_frac0 {f : Addr} {fd : FuncData} {C : Addr} {R : Sp} (M : Blt mg) (X : ExT K mg "NoFraction" C) (F : Fun K "fraction" "fraction" sFrac f fd)
    (C_common : Cal P w K mg base CX0 1 "common" ["one", "other"] spCom) (C_fraction : Cal P w K mg base CX0 2 "fraction" ["top", "bottom"] R) : FnG P w K mg base (L2.CX P w) 3 f fd ["top", "bottom"] (spFrac0 C) := by
  refine GfunX F scFrac (fun vs H Q E h => ?_) (fun cdv A outer s H vs Q E hg hr h => ?_)
  · obtain ⟨n, rfl, _⟩ := h
    rfl
  · obtain ⟨n, rfl, q⟩ := h
    refine ⟨_, pss_cons (ps_if (pt_cmpR op_eq (pv 1) pe_int (nomark _)) (pss_one (ps_raise rfl (takes_of rfl rfl rfl rfl) (pmk_own PySem.F.excBase_ValueError X.x X.g X.k (raises_own X.b X.t) rfl))) pss_nil)
      (pss_cons (ps_if (pt_cmpR op_lt (pv 1) pe_int (nomark _)) (pss_one (ps_ret (pe_g C_fraction (hr.mono (by decide)) hg (pa_cons (pe_un un_neg (pv 0)) (pa_cons (pe_un un_neg (pv 1)) pa_nil))))) pss_nil)
      (pss_cons (ps_set (i := 2) scFrac.nd rfl (.inl rfl) (pe_g C_common (hr.mono (by decide)) hg (pa_cons (pe_callB call_abs rfl M.abs bt_abs (pa_cons (pv 0) pa_nil)) (pa_cons (pv 1) pa_nil))))
      (pss_one (ps_ret (pe_tup (pa_cons (pe_op op_fdivN (pv 0) (pv 2)) (pa_cons (pe_op op_fdivN (pv 1) (pv 2)) pa_nil))))))), ?_⟩
    exact ⟨_, rfl, rfl, _, rfl, iteT q⟩

/-! ### plus -/
theorem sc_plus : FnScope ["one", "other"] ["one", "other"] (defScope s_plus) := ⟨rfl, rfl, rfl, by decide +kernel, rfl, by decide +kernel, by decide +kernel⟩
def sp_plus (K : PySem.W.Frag) : Sp := fun vs H Q _ => ∃ a b c d : Int, Pr K H vs a b c d ∧ Two H Q (low (a * d + c * b) (b * d))
theorem ok_plus {f : Addr} {fd : FuncData} (F : Fun K "plus" "plus" s_plus f fd) (C_fraction : Cal P w K mg base CX0 4 "fraction" ["top", "bottom"] (spFrac true)) : FnG P w K mg base CX0 5 f fd ["one", "other"] (sp_plus K) := by
  refine Gfun F sc_plus (fun vs H Q E h => ?_) (fun cdv A outer s H vs Q E hg hr h => ?_)
  · obtain ⟨a, b, c, d, h, _⟩ := h
    obtain ⟨p, q, rfl, _⟩ := h.ex
    rfl
  · obtain ⟨a, b, c, d, h, k⟩ := h
    obtain ⟨p, q, rfl, hp, hq⟩ := h.ex
    refine ⟨_, (pss_one (ps_ret (pe_g C_fraction (hr.mono (by decide)) hg (pa_cons (pe_op op_add (pe_op op_mulW (pe_ix ix_tup (pv 0) pe_int (fun _ _ => rfl)) (pe_ix ix_tup (pv 1) pe_int (fun _ _ => rfl))) (pe_op op_mulW (pe_ix ix_tup (pv 1) pe_int (fun _ _ => rfl)) (pe_ix ix_tup (pv 0) pe_int (fun _ _ => rfl)))) (pa_cons (pe_op op_mulW (pe_ix ix_tup (pv 0) pe_int (fun _ _ => rfl)) (pe_ix ix_tup (pv 1) pe_int (fun _ _ => rfl))) pa_nil))))), ?_⟩
    refine ⟨_, rfl, p, _, _, _, rfl, rfl, hp, rfl, _, rfl, q, _, _, _, rfl, rfl, hq, rfl, _, _, rfl, rfl, Sm.mulW h.a1 h.d1, ?_⟩
    refine ⟨_, rfl, q, _, _, _, rfl, rfl, hq, rfl, _, rfl, p, _, _, _, rfl, rfl, hp, rfl, _, _, rfl, rfl, Sm.mulW h.c1 h.b1, ?_⟩
    refine ⟨_, _, rfl, rfl, ?_⟩
    refine ⟨_, rfl, p, _, _, _, rfl, rfl, hp, rfl, _, rfl, q, _, _, _, rfl, rfl, hq, rfl, _, _, rfl, rfl, Sm.mulW h.b1 h.d1, ?_⟩
    exact ⟨_, _, rfl, mul_ne h.hb h.hd, (fun z => Bool.noConfusion z), Sm.add h.a1 h.d1 h.c1 h.b1, Sm.mul h.b1 h.d1, k⟩

/-! ### minus -/
theorem sc_minus : FnScope ["one", "other"] ["one", "other"] (defScope s_minus) := ⟨rfl, rfl, rfl, by decide +kernel, rfl, by decide +kernel, by decide +kernel⟩
def sp_minus (K : PySem.W.Frag) : Sp := fun vs H Q _ => ∃ a b c d : Int, Pr K H vs a b c d ∧ Two H Q (low (a * d - c * b) (b * d))
theorem ok_minus {f : Addr} {fd : FuncData} (F : Fun K "minus" "minus" s_minus f fd) (C_fraction : Cal P w K mg base CX0 4 "fraction" ["top", "bottom"] (spFrac true)) : FnG P w K mg base CX0 5 f fd ["one", "other"] (sp_minus K) := by
  refine Gfun F sc_minus (fun vs H Q E h => ?_) (fun cdv A outer s H vs Q E hg hr h => ?_)
  · obtain ⟨a, b, c, d, h, _⟩ := h
    obtain ⟨p, q, rfl, _⟩ := h.ex
    rfl
  · obtain ⟨a, b, c, d, h, k⟩ := h
    obtain ⟨p, q, rfl, hp, hq⟩ := h.ex
    refine ⟨_, (pss_one (ps_ret (pe_g C_fraction (hr.mono (by decide)) hg (pa_cons (pe_op op_sub (pe_op op_mulW (pe_ix ix_tup (pv 0) pe_int (fun _ _ => rfl)) (pe_ix ix_tup (pv 1) pe_int (fun _ _ => rfl))) (pe_op op_mulW (pe_ix ix_tup (pv 1) pe_int (fun _ _ => rfl)) (pe_ix ix_tup (pv 0) pe_int (fun _ _ => rfl)))) (pa_cons (pe_op op_mulW (pe_ix ix_tup (pv 0) pe_int (fun _ _ => rfl)) (pe_ix ix_tup (pv 1) pe_int (fun _ _ => rfl))) pa_nil))))), ?_⟩
    refine ⟨_, rfl, p, _, _, _, rfl, rfl, hp, rfl, _, rfl, q, _, _, _, rfl, rfl, hq, rfl, _, _, rfl, rfl, Sm.mulW h.a1 h.d1, ?_⟩
    refine ⟨_, rfl, q, _, _, _, rfl, rfl, hq, rfl, _, rfl, p, _, _, _, rfl, rfl, hp, rfl, _, _, rfl, rfl, Sm.mulW h.c1 h.b1, ?_⟩
    refine ⟨_, _, rfl, rfl, ?_⟩
    refine ⟨_, rfl, p, _, _, _, rfl, rfl, hp, rfl, _, rfl, q, _, _, _, rfl, rfl, hq, rfl, _, _, rfl, rfl, Sm.mulW h.b1 h.d1, ?_⟩
    exact ⟨_, _, rfl, mul_ne h.hb h.hd, (fun z => Bool.noConfusion z), Sm.sub h.a1 h.d1 h.c1 h.b1, Sm.mul h.b1 h.d1, k⟩

/-! ### times -/
theorem sc_times : FnScope ["one", "other"] ["one", "other"] (defScope s_times) := ⟨rfl, rfl, rfl, by decide +kernel, rfl, by decide +kernel, by decide +kernel⟩
def sp_times (K : PySem.W.Frag) : Sp := fun vs H Q _ => ∃ a b c d : Int, Pr K H vs a b c d ∧ Two H Q (low (a * c) (b * d))
theorem ok_times {f : Addr} {fd : FuncData} (F : Fun K "times" "times" s_times f fd) (C_fraction : Cal P w K mg base CX0 4 "fraction" ["top", "bottom"] (spFrac true)) : FnG P w K mg base CX0 5 f fd ["one", "other"] (sp_times K) := by
  refine Gfun F sc_times (fun vs H Q E h => ?_) (fun cdv A outer s H vs Q E hg hr h => ?_)
  · obtain ⟨a, b, c, d, h, _⟩ := h
    obtain ⟨p, q, rfl, _⟩ := h.ex
    rfl
  · obtain ⟨a, b, c, d, h, k⟩ := h
    obtain ⟨p, q, rfl, hp, hq⟩ := h.ex
    refine ⟨_, (pss_one (ps_ret (pe_g C_fraction (hr.mono (by decide)) hg (pa_cons (pe_op op_mulW (pe_ix ix_tup (pv 0) pe_int (fun _ _ => rfl)) (pe_ix ix_tup (pv 1) pe_int (fun _ _ => rfl))) (pa_cons (pe_op op_mulW (pe_ix ix_tup (pv 0) pe_int (fun _ _ => rfl)) (pe_ix ix_tup (pv 1) pe_int (fun _ _ => rfl))) pa_nil))))), ?_⟩
    refine ⟨_, rfl, p, _, _, _, rfl, rfl, hp, rfl, _, rfl, q, _, _, _, rfl, rfl, hq, rfl, _, _, rfl, rfl, Sm.mulW h.a1 h.c1, ?_⟩
    refine ⟨_, rfl, p, _, _, _, rfl, rfl, hp, rfl, _, rfl, q, _, _, _, rfl, rfl, hq, rfl, _, _, rfl, rfl, Sm.mulW h.b1 h.d1, ?_⟩
    exact ⟨_, _, rfl, mul_ne h.hb h.hd, (fun z => Bool.noConfusion z), Sm.mul h.a1 h.c1, Sm.mul h.b1 h.d1, k⟩

/-! ### over -/
theorem sc_over : FnScope ["one", "other"] ["one", "other"] (defScope s_over) := ⟨rfl, rfl, rfl, by decide +kernel, rfl, by decide +kernel, by decide +kernel⟩
def sp_over (K : PySem.W.Frag) : Sp := fun vs H Q _ => ∃ a b c d : Int, Pr K H vs a b c d ∧ c ≠ 0 ∧ Two H Q (low (a * d) (b * c))
theorem ok_over {f : Addr} {fd : FuncData} (F : Fun K "over" "over" s_over f fd) (C_fraction : Cal P w K mg base CX0 4 "fraction" ["top", "bottom"] (spFrac true)) : FnG P w K mg base CX0 5 f fd ["one", "other"] (sp_over K) := by
  refine Gfun F sc_over (fun vs H Q E h => ?_) (fun cdv A outer s H vs Q E hg hr h => ?_)
  · obtain ⟨a, b, c, d, h, _⟩ := h
    obtain ⟨p, q, rfl, _⟩ := h.ex
    rfl
  · obtain ⟨a, b, c, d, h, hc, k⟩ := h
    obtain ⟨p, q, rfl, hp, hq⟩ := h.ex
    refine ⟨_, (pss_one (ps_ret (pe_g C_fraction (hr.mono (by decide)) hg (pa_cons (pe_op op_mulW (pe_ix ix_tup (pv 0) pe_int (fun _ _ => rfl)) (pe_ix ix_tup (pv 1) pe_int (fun _ _ => rfl))) (pa_cons (pe_op op_mulW (pe_ix ix_tup (pv 0) pe_int (fun _ _ => rfl)) (pe_ix ix_tup (pv 1) pe_int (fun _ _ => rfl))) pa_nil))))), ?_⟩
    refine ⟨_, rfl, p, _, _, _, rfl, rfl, hp, rfl, _, rfl, q, _, _, _, rfl, rfl, hq, rfl, _, _, rfl, rfl, Sm.mulW h.a1 h.d1, ?_⟩
    refine ⟨_, rfl, p, _, _, _, rfl, rfl, hp, rfl, _, rfl, q, _, _, _, rfl, rfl, hq, rfl, _, _, rfl, rfl, Sm.mulW h.b1 h.c1, ?_⟩
    exact ⟨_, _, rfl, mul_ne h.hb hc, (fun z => Bool.noConfusion z), Sm.mul h.a1 h.d1, Sm.mul h.b1 h.c1, k⟩

/-! ### over 0 -/
def sp_over0 (K : PySem.W.Frag) (C : Addr) : Sp := fun vs H Q E => ∃ a b d : Int, Pr K H vs a b 0 d ∧ E (.ref C) none H
theorem ok_over0 {f : Addr} {fd : FuncData} {C : Addr} (F : Fun K "over" "over" s_over f fd) (C_fraction : Cal P w K mg base (L2.CX P w) 3 "fraction" ["top", "bottom"] (spFrac0 C)) : FnG P w K mg base (L2.CX P w) 5 f fd ["one", "other"] (sp_over0 K C) := by
  refine GfunX F sc_over (fun vs H Q E h => ?_) (fun cdv A outer s H vs Q E hg hr h => ?_)
  · obtain ⟨a, b, d, h, _⟩ := h
    obtain ⟨p, q, rfl, _⟩ := h.ex
    rfl
  · obtain ⟨a, b, d, h, k⟩ := h
    obtain ⟨p, q, rfl, hp, hq⟩ := h.ex
    refine ⟨_, (pss_one (ps_ret (pe_gS C_fraction (hr.mono (by decide)) hg (fun σ => passAt (takes_of rfl rfl rfl rfl) σ) (pa_cons (pe_op op_mulW (pe_ix ix_tup (pv 0) pe_int (fun _ _ => rfl)) (pe_ix ix_tup (pv 1) pe_int (fun _ _ => rfl))) (pa_cons (pe_op op_mulW (pe_ix ix_tup (pv 0) pe_int (fun _ _ => rfl)) (pe_ix ix_tup (pv 1) pe_int (fun _ _ => rfl))) pa_nil))))), ?_⟩
    refine ⟨_, rfl, p, _, _, _, rfl, rfl, hp, rfl, _, rfl, q, _, _, _, rfl, rfl, hq, rfl, _, _, rfl, rfl, Sm.mulW h.a1 h.d1, ?_⟩
    refine ⟨_, rfl, p, _, _, _, rfl, rfl, hp, rfl, _, rfl, q, _, _, _, rfl, rfl, hq, rfl, _, _, rfl, rfl, Sm.mulW h.b1 h.c1, ?_⟩
    exact ⟨a * d, by show [V.int (a * d), V.int (b * 0)] = _; rw [Int.mul_zero], k⟩

/-! ### is_less -/
theorem sc_is_less : FnScope ["one", "other"] ["one", "other"] (defScope s_is_less) := ⟨rfl, rfl, rfl, by decide +kernel, rfl, by decide +kernel, by decide +kernel⟩
def sp_is_less (K : PySem.W.Frag) : Sp := fun vs H Q _ => ∃ a b c d : Int, Pr K H vs a b c d ∧ Q (.bl (decide (a * d < c * b))) H
theorem ok_is_less {f : Addr} {fd : FuncData} (F : Fun K "is_less" "is_less" s_is_less f fd) : FnG P w K mg base CX0 1 f fd ["one", "other"] (sp_is_less K) := by
  refine Gfun F sc_is_less (fun vs H Q E h => ?_) (fun cdv A outer s H vs Q E hg hr h => ?_)
  · obtain ⟨a, b, c, d, h, _⟩ := h
    obtain ⟨p, q, rfl, _⟩ := h.ex
    rfl
  · obtain ⟨a, b, c, d, h, k⟩ := h
    obtain ⟨p, q, rfl, hp, hq⟩ := h.ex
    refine ⟨_, (pss_one (ps_ret (pe_cmpR op_lt (pe_op op_mulW (pe_ix ix_tup (pv 0) pe_int (fun _ _ => rfl)) (pe_ix ix_tup (pv 1) pe_int (fun _ _ => rfl))) (pe_op op_mulW (pe_ix ix_tup (pv 1) pe_int (fun _ _ => rfl)) (pe_ix ix_tup (pv 0) pe_int (fun _ _ => rfl))) (nomark _)))), ?_⟩
    refine ⟨_, rfl, p, _, _, _, rfl, rfl, hp, rfl, _, rfl, q, _, _, _, rfl, rfl, hq, rfl, _, _, rfl, rfl, Sm.mulW h.a1 h.d1, ?_⟩
    refine ⟨_, rfl, q, _, _, _, rfl, rfl, hq, rfl, _, rfl, p, _, _, _, rfl, rfl, hp, rfl, _, _, rfl, rfl, Sm.mulW h.c1 h.b1, ?_⟩
    exact ⟨_, _, rfl, rfl, k⟩

end
end Lf

set_option Elab.async false
set_option linter.all false
set_option maxRecDepth 100000
set_option maxHeartbeats 4000000
set_option exponentiation.threshold 3000
/-! Things of any kind: data without dicts, and dicts of plain things. -/
namespace Lf
open PySem PySem.Spec PyProof.Rows L2
def kD : Key → PyData
  | .inl i => .int i
  | .inr x => .str x
inductive Sc : V → PyData → Prop
  | non : Sc .non .none
  | bl (b : Bool) : Sc (.bl b) (.bool b)
  | int (i : Int) : Sc (.int i) (.int i)
  | str (x : Str) : Sc (.str x) (.str x)
/-- a thing: data, or a dict of plain things -/
inductive Dq (K : PySem.W.Frag) (H : Hp) : V → PyData → Prop
  | dp {v : V} {d : PyData} (h : Dp K H v d) (n : d.hasDict = false) : Dq K H v d
  | dic {a : Addr} {kvs : List (Key × V)} {ds : List (PyData × PyData)} (h : H a = some (.dK kvs)) (p : Paired (fun (kv : Key × V) (d : PyData × PyData) => d.1 = kD kv.1 ∧ Sc kv.2 d.2) kvs ds) : Dq K H (.ref a) (.dict ds)
theorem Dq.same {K : PySem.W.Frag} {H H' : Hp} {v : V} {d : PyData} (s : Same H H') (h : Dq K H v d) : Dq K H' v d := by
  cases h with
  | dp h n => exact .dp (Dp.same s _ _ h) n
  | dic h p => exact .dic (s _ _ h) p
section
variable {X : Cx} {pins : List (Addr × Obj)} {σ : L2.St} {H : Hp} {s : Shared}
theorem Sc.reads {v : V} {d : PyData} {u : Value} {h : Heap} (k : Sc v d) (r : RelV v u) : Reads h u d [] := by
  cases k with
  | non => cases r; exact .none
  | bl b => cases r; exact .bool b
  | int i => obtain ⟨t, rfl⟩ := r; exact .int i t
  | str x => obtain ⟨t, rfl⟩ := r; exact .str x t
theorem dic_reads {P : Program} {w : World} {h : Heap} : ∀ {es : List DictEntry} {vs : List (Key × Value)} {kvs : List (Key × V)} {ds : List (PyData × PyData)}, Pairs (mixKind P w) es vs → KV kvs vs →
    Paired (fun (kv : Key × V) (d : PyData × PyData) => d.1 = kD kv.1 ∧ Sc kv.2 d.2) kvs ds → ReadsAll h (es.map (·.key)) (ds.map (·.1)) [] ∧ ReadsAll h (es.map (·.val)) (ds.map (·.2)) []
  | _, _, _, _, .nil, kv, p => by
    cases kv
    cases p
    exact ⟨.nil, .nil⟩
  | _, _, _, _, .cons (e := e) hk hv r, kv, p => by
    cases kv with
    | cons q kv =>
      cases p with
      | cons z p =>
        obtain ⟨i1, i2⟩ := dic_reads r kv p
        obtain ⟨q1, q2⟩ := q
        obtain ⟨z1, z2⟩ := z
        refine ⟨?_, ?_⟩
        · rw [List.map_cons, List.map_cons]
          refine ReadsAll.cons (as := []) (bs := []) ?_ i1
          rw [z1, q1]
          rcases keyIs_shape (show keyIs _ e.key = true from hk) with ⟨i, t, e1, e2⟩ | ⟨x, t, e1, e2⟩
          · rw [e1, e2]
            exact .int i t
          · rw [e1, e2]
            exact .str x t
        · rw [List.map_cons, List.map_cons]
          refine ReadsAll.cons (as := []) (bs := []) ?_ i2
          rw [hv]
          exact z2.reads q2
theorem Dq.reads (I : Inv X pins σ H s) {v : V} {d : PyData} {u : Value} (h : Dq X.K H v d) (r : RelV v u) : ∃ as, Reads s.heap u d as ∧ (d.hasDict = true → sysModules ∉ as) := by
  cases h with
  | dp h n =>
    obtain ⟨as, q⟩ := Dp.reads I d v u h r
    exact ⟨as, q, fun z => by rw [n] at z; cases z⟩
  | @dic a kvs ds h p =>
    cases r
    obtain ⟨hz, hs, vs, kv, o, es, ep, h1, h2, h3, h4, h5, h6⟩ := (show ObjOk X.prog X.w H s.heap a (.dK kvs) from I.hok a _ h)
    obtain ⟨i1, i2⟩ := dic_reads (h := s.heap) h5 kv p
    refine ⟨_, Reads.dict h1 h2.1 h3 i1 i2, fun _ hm => ?_⟩
    have : sysModules = a := by simpa using hm
    rw [this] at hs
    simp at hs
/-- the built-in type of a thing -/
def tyN : PyData → String
  | .none => "NoneType"
  | .bool _ => "bool"
  | .int _ => "int"
  | .str _ => "str"
  | .list _ => "list"
  | .tuple _ => "tuple"
  | .dict _ => "dict"
theorem Dp.ty {K : PySem.W.Frag} {v : V} {d : PyData} (h : Dp K H v d) : TyX K H v (.type (tyN d)) := by
  cases h with
  | non => exact .base .non
  | bl b => exact .base (.bl b)
  | int i => exact .base (.int i)
  | str x => exact .base (.str x)
  | lst h1 _ =>
    rcases h1 with (h | ⟨o, h⟩) | ⟨o, arr, n, hk, hc, _⟩
    · exact .base (.lst h)
    · exact .base (.frz h)
    · exact .kList hk hc
  | tup h1 _ =>
    rcases h1 with (h | ⟨o, h⟩) | ⟨o, arr, n, hk, hc, _⟩
    · exact .base (.tup h)
    · exact .fTuple h
    · exact .kTuple hk hc
theorem Dq.ty {K : PySem.W.Frag} {v : V} {d : PyData} (h : Dq K H v d) : TyX K H v (.type (tyN d)) := by
  cases h with
  | dp h _ => exact Lf.Dp.ty h
  | dic h _ => exact .base (.dK h)
/-! ### repr of a list of things -/
inductive DqAll (K : PySem.W.Frag) (H : Hp) : List V → List PyData → Prop
  | nil : DqAll K H [] []
  | cons {v : V} {vs : List V} {d : PyData} {ds : List PyData} : Dq K H v d → DqAll K H vs ds → DqAll K H (v :: vs) (d :: ds)
theorem DqAll.same {K : PySem.W.Frag} {H H' : Hp} (s : Same H H') : ∀ {vs : List V} {ds : List PyData}, DqAll K H vs ds → DqAll K H' vs ds
  | _, _, .nil => .nil
  | _, _, .cons a r => .cons (a.same s) (DqAll.same s r)
theorem DqAll.get {K : PySem.W.Frag} {H : Hp} : ∀ {vs : List V} {ds : List PyData} {i : Nat} {v : V}, DqAll K H vs ds → vs[i]? = some v → ∃ d, ds[i]? = some d ∧ Dq K H v d
  | _, _, _, _, .nil, e => by simp at e
  | _, _, 0, _, .cons a _, e => by
    simp at e
    subst e
    exact ⟨_, rfl, a⟩
  | _, _, i + 1, v, .cons _ r, e => by
    obtain ⟨d, h1, h2⟩ := DqAll.get (i := i) (v := v) r (by simpa using e)
    exact ⟨d, by simpa using h1, h2⟩
theorem DqAll.app {K : PySem.W.Frag} {H : Hp} : ∀ {vs us : List V} {ds es : List PyData}, DqAll K H vs ds → DqAll K H us es → DqAll K H (vs ++ us) (ds ++ es)
  | _, _, _, _, .nil, h => h
  | _, _, _, _, .cons a r, h => .cons a (DqAll.app r h)
theorem DqAll.length {K : PySem.W.Frag} {H : Hp} : ∀ {vs : List V} {ds : List PyData}, DqAll K H vs ds → vs.length = ds.length
  | _, _, .nil => rfl
  | _, _, .cons _ r => congrArg Nat.succ (DqAll.length r)
theorem dq_repr (I : Inv X pins σ H s) : ∀ {vs : List V} {ds : List PyData} {us : List Value}, DqAll X.K H vs ds → Vals vs us → PyData.showableAll ds = true → (∀ t ∈ PyData.shownAll ds, t.length ≤ sizeLine) →
    ∃ bs as, ReadAtMost s.heap (PyData.depthAll ds) bs ∧ ReprAllK X.prog X.w bs s.heap (PyData.depthAll ds) us (PyData.shownAll ds) ∧ ReadsAll s.heap us ds as
  | _, _, _, .nil, r, _, _ => by
    cases r
    exact ⟨[], [], (fun _ h => nomatch h), by simp only [PyData.shownAll]; exact .nil, .nil⟩
  | _, _, _, .cons (d := d) (ds := ds) a q, r, hs, hz => by
    cases r with
    | cons r1 r2 =>
      have hs' : d.showable = true ∧ PyData.showableAll ds = true := by simpa [PyData.showableAll] using hs
      have hz' : d.shown.length ≤ sizeLine ∧ ∀ t ∈ PyData.shownAll ds, t.length ≤ sizeLine := by
        simp only [PyData.shownAll] at hz
        exact ⟨hz _ List.mem_cons_self, fun t ht => hz t (List.mem_cons_of_mem _ ht)⟩
      obtain ⟨as1, rd, hsm⟩ := a.reads I r1
      obtain ⟨b1, m1, k1⟩ := ReprK.of_reads (prog := X.prog) (w := X.w) rd hs'.1 hsm hz'.1
      obtain ⟨b2, as2, m2, k2, rd2⟩ := dq_repr I q r2 hs'.2 hz'.2
      have l1 : d.depth ≤ PyData.depthAll (d :: ds) := by simp only [PyData.depthAll]; omega
      have l2 : PyData.depthAll ds ≤ PyData.depthAll (d :: ds) := by simp only [PyData.depthAll]; omega
      refine ⟨b1 ++ b2, as1 ++ as2, ?_, ?_, .cons rd rd2⟩
      · intro b hb
        rcases List.mem_append.mp hb with z | z
        · obtain ⟨d', as', r', e'⟩ := m1 b z
          exact ⟨d', as', r', Nat.le_trans e' l1⟩
        · obtain ⟨d', as', r', e'⟩ := m2 b z
          exact ⟨d', as', r', Nat.le_trans e' l2⟩
      · simp only [PyData.shownAll]
        exact .cons ((k1.more (fun b hb => List.mem_append_left _ hb)).level_le l1) (k2.more_le (fun b hb => List.mem_append_right _ hb) l2)
def rShowQ (K : PySem.W.Frag) : List V → Hp → VK → Prop := fun xs H Q => ∃ (a : Addr) (v : V) (vs : List V) (ds : List PyData), xs = [.ref a] ∧ SqL K H a (v :: vs) ∧ DqAll K H (v :: vs) ds ∧
  PyData.showableAll ds = true ∧ PyData.depthAll ds ≤ 29 ∧ (PyData.shown (.list ds)).length ≤ sizeLine ∧ Q (.str (PyData.shown (.list ds))) H
theorem call_showQ (hG : X.A.guards = some []) {k : Nat} (hr : Room k X.A) : CallR X (.builtin "repr") (rShowQ X.K) := by
  intro pins s σ H xs us Q I r h
  obtain ⟨a, v, vs, ds, rfl, hS, hd, hs, h30, hz, q⟩ := h
  cases r with
  | cons r1 r2 =>
    cases r2
    cases r1
    have hu := hr.units
    obtain ⟨its, rv, ⟨o, n, ho, hc, _, hdt⟩, _⟩ := I.list hS
    have hz' : (listText (PyData.shownAll ds)).length ≤ sizeLine := by simpa only [PyData.shown] using hz
    obtain ⟨bs, as, m, k, rd⟩ := dq_repr I hd rv hs (fun t ht => Nat.le_trans (listText_mem_le ht) hz')
    have rl : Reads s.heap (.ref a) (.list ds) (a :: as) := Reads.list ho hc hdt rd
    have hna : a ∉ bs := not_mem_of_deeper rl (by simp only [PyData.depth]; omega) m
    cases its with
    | nil => cases rv
    | cons u us' =>
      refine call_repr_slot (T := "list") (by omega) ⟨o, ho, hc⟩ F.slot_list_repr.toG ?_
      refine call_list_reprK ho hc hdt hna (by simpa using k.length_eq) (fun i y e => k.item i y (by simpa using e)) hG (fun b _ => Clear.nil b) (by show X.A.units + 1 + (PyData.depthAll ds + 1) < cLine; omega) (fun _ _ z => z) (fun h' u tk hk => ?_) hz'
      refine ⟨_, _, rfl, ⟨.str (PyData.shown (.list ds)), H, I.kept hk, ⟨u, ?_⟩, q⟩⟩
      simp only [PyData.shown]
end
/-- a statement and the rest, what follows shown once from what holds between them -/
def tMid (t u : TS) : TS := fun D σ H => ∃ Md : L2.St → Hp → Prop, t { D with nx := Md } σ H ∧ ∀ σ' H', Md σ' H' → u D σ' H'
theorem pss_mid {X : Cx} {st : Stmt} {more : List Stmt} {t u : TS} (h1 : PS X st t) (h2 : PSs X more u) : PSs X (st :: more) (tMid t u) := by
  refine ⟨fun pins s σ H D I ⟨Md, hm, hu⟩ => wpAny_execs_cons (thn (h1.run pins s σ H { D with nx := Md } I hm) fun f s1 q => ?_)⟩
  cases f with
  | next =>
    obtain ⟨σ', H', I', q⟩ := q
    exact h2.run pins s1 σ' H' D I' (hu σ' H' q)
  | ret v => exact q
  | brk => exact q
  | cont => exact q
/-- what repr asks of a list of things -/
structure ShowA (ds : List PyData) : Prop where
  sh : PyData.showableAll ds = true
  dp : PyData.depthAll ds ≤ 29
  ln : (PyData.shown (.list ds)).length ≤ sizeLine
end Lf

set_option Elab.async false
set_option linter.all false
set_option maxRecDepth 100000
set_option maxHeartbeats 4000000
set_option exponentiation.threshold 3000
namespace Lf
open PySem PySem.Spec PyProof.Rows L2
theorem bt_isinstance : bootBuiltins "isinstance" = some (.builtin "isinstance") := by decide +kernel
theorem bt_bool : bootBuiltins "bool" = some (.type "bool") := by decide +kernel
theorem bt_tuple : bootBuiltins "tuple" = some (.type "tuple") := by decide +kernel
structure Bltx (mg : Str → Option Value) : Prop where
  isinstance : mg "isinstance" = none
  bool : mg "bool" = none
  tuple : mg "tuple" = none
theorem len_show {n : Nat} (h : n ≤ 1000) : n ≤ sizeLine := by
  rw [sizeLine_eq]
  omega
theorem u65 {k : Nat} {A : Around} (r : Room k A) : A.units + 65 < cLine := by
  have := r.un
  omega
theorem iteN {c A B : Prop} [Decidable c] (hc : ¬ c) (h : A) : if (!decide c) = true then A else B := by
  rw [decide_eq_false hc]
  exact iteT h
def isI : PyData → Bool
  | .int _ => true
  | .bool _ => true
  | _ => false
def isB : PyData → Bool
  | .bool _ => true
  | _ => false
def isT : PyData → Bool
  | .tuple _ => true
  | _ => false
def isS : PyData → Bool
  | .str _ => true
  | _ => false
def isW : PyData → Bool
  | .int _ => true
  | _ => false
theorem ki_none : kitB "NoneType" "int" = some false := by decide +kernel
theorem ki_bool : kitB "bool" "int" = some true := by decide +kernel
theorem ki_int : kitB "int" "int" = some true := by decide +kernel
theorem ki_str : kitB "str" "int" = some false := by decide +kernel
theorem ki_list : kitB "list" "int" = some false := by decide +kernel
theorem ki_tuple : kitB "tuple" "int" = some false := by decide +kernel
theorem ki_dict : kitB "dict" "int" = some false := by decide +kernel
theorem ki (d : PyData) : kitB (tyN d) "int" = some (isI d) :=
  match d with
  | .none => ki_none
  | .bool _ => ki_bool
  | .int _ => ki_int
  | .str _ => ki_str
  | .list _ => ki_list
  | .tuple _ => ki_tuple
  | .dict _ => ki_dict
theorem kb_none : kitB "NoneType" "bool" = some false := by decide +kernel
theorem kb_bool : kitB "bool" "bool" = some true := by decide +kernel
theorem kb_int : kitB "int" "bool" = some false := by decide +kernel
theorem kb_str : kitB "str" "bool" = some false := by decide +kernel
theorem kb_list : kitB "list" "bool" = some false := by decide +kernel
theorem kb_tuple : kitB "tuple" "bool" = some false := by decide +kernel
theorem kb_dict : kitB "dict" "bool" = some false := by decide +kernel
theorem kb (d : PyData) : kitB (tyN d) "bool" = some (isB d) :=
  match d with
  | .none => kb_none
  | .bool _ => kb_bool
  | .int _ => kb_int
  | .str _ => kb_str
  | .list _ => kb_list
  | .tuple _ => kb_tuple
  | .dict _ => kb_dict
theorem kt_none : kitB "NoneType" "tuple" = some false := by decide +kernel
theorem kt_bool : kitB "bool" "tuple" = some false := by decide +kernel
theorem kt_int : kitB "int" "tuple" = some false := by decide +kernel
theorem kt_str : kitB "str" "tuple" = some false := by decide +kernel
theorem kt_list : kitB "list" "tuple" = some false := by decide +kernel
theorem kt_tuple : kitB "tuple" "tuple" = some true := by decide +kernel
theorem kt_dict : kitB "dict" "tuple" = some false := by decide +kernel
theorem kt (d : PyData) : kitB (tyN d) "tuple" = some (isT d) :=
  match d with
  | .none => kt_none
  | .bool _ => kt_bool
  | .int _ => kt_int
  | .str _ => kt_str
  | .list _ => kt_list
  | .tuple _ => kt_tuple
  | .dict _ => kt_dict
theorem ks_none : kitB "NoneType" "str" = some false := by decide +kernel
theorem ks_bool : kitB "bool" "str" = some false := by decide +kernel
theorem ks_int : kitB "int" "str" = some false := by decide +kernel
theorem ks_str : kitB "str" "str" = some true := by decide +kernel
theorem ks_list : kitB "list" "str" = some false := by decide +kernel
theorem ks_tuple : kitB "tuple" "str" = some false := by decide +kernel
theorem ks_dict : kitB "dict" "str" = some false := by decide +kernel
theorem ks (d : PyData) : kitB (tyN d) "str" = some (isS d) :=
  match d with
  | .none => ks_none
  | .bool _ => ks_bool
  | .int _ => ks_int
  | .str _ => ks_str
  | .list _ => ks_list
  | .tuple _ => ks_tuple
  | .dict _ => ks_dict
def fr2 : PyData → PyData → Bool
  | .int a, .int b => decide (0 < b) && decide (Nat.gcd a.natAbs b.natAbs = 1)
  | _, _ => false
def frL : List PyData → Bool
  | [x, y] => fr2 x y
  | _ => false
def isFr : PyData → Bool
  | .tuple ds => frL ds
  | _ => false
def lets : Str := Str.ofString "abcdefghijklmnopqrstuvwxyz"
def inL (c : Nat) : Bool := decide (c ∈ lets.cps.toList)
def isNm : PyData → Bool
  | .str z => decide (1 ≤ z.length) && decide (z.length ≤ 10) && z.cps.toList.all inL
  | _ => false
section
variable {P : Program} {w : World} {K : PySem.W.Frag} {mg : Str → Option Value} {base : Heap}
theorem Dq.tup {H : Hp} {v : V} {d : PyData} (h : Dq K H v d) (e : isT d = true) : ∃ (a : Addr) (xs : List V) (ds : List PyData), v = .ref a ∧ d = .tuple ds ∧ SqT K H a xs ∧ DpAll K H xs ds ∧ PyData.hasDictAll ds = false := by
  cases h with
  | dp h n =>
    cases h with
    | tup h1 h2 => exact ⟨_, _, _, rfl, rfl, h1, h2, by simpa [PyData.hasDict] using n⟩
    | non => cases e
    | bl _ => cases e
    | int _ => cases e
    | str _ => cases e
    | lst _ _ => cases e
  | dic _ _ => cases e
theorem Dq.txt {H : Hp} {v : V} {d : PyData} (h : Dq K H v d) (e : isS d = true) : ∃ z, v = .str z ∧ d = .str z := by
  cases h with
  | dp h n =>
    cases h with
    | str z => exact ⟨z, rfl, rfl⟩
    | non => cases e
    | bl _ => cases e
    | int _ => cases e
    | tup _ _ => cases e
    | lst _ _ => cases e
  | dic _ _ => cases e
theorem Dq.whole {H : Hp} {v : V} {d : PyData} (h : Dq K H v d) (e : isW d = true) : ∃ i, v = .int i ∧ d = .int i := by
  cases h with
  | dp h n =>
    cases h with
    | int i => exact ⟨i, rfl, rfl⟩
    | non => cases e
    | bl _ => cases e
    | str _ => cases e
    | tup _ _ => cases e
    | lst _ _ => cases e
  | dic _ _ => cases e

def sp_whole (K : PySem.W.Frag) : Sp := fun vs H Q _ => ∃ (v : V) (d : PyData), vs = [v] ∧ Dq K H v d ∧ Q (.bl (isW d)) H
/-! ### is_whole -/
theorem sc_is_whole : FnScope ["thing"] ["thing"] (defScope s_is_whole) := ⟨rfl, rfl, rfl, by decide +kernel, rfl, by decide +kernel, by decide +kernel⟩
theorem ok_whole {f : Addr} {fd : FuncData} (M : Blt mg) (Mx : Bltx mg) (F : Fun K "is_whole" "is_whole" s_is_whole f fd) : FnG P w K mg base CX0 1 f fd ["thing"] (sp_whole K) := by
  refine Gfun F sc_is_whole (fun vs H Q E h => ?_) (fun cdv A outer s H vs Q E hg hr h => ?_)
  · obtain ⟨v, d, rfl, _⟩ := h
    rfl
  · obtain ⟨v, d, rfl, hq, k⟩ := h
    refine ⟨_, (pss_one (ps_ret (pe_and (pe_callB call_isi rfl Mx.isinstance bt_isinstance (pa_cons (pv 0) (pa_cons (pe_bltn (v := .ty "int") rfl M.int bt_int rfl) pa_nil))) (pe_one (pe_not (pe_callB call_isi rfl Mx.isinstance bt_isinstance (pa_cons (pv 0) (pa_cons (pe_bltn (v := .ty "bool") rfl Mx.bool bt_bool rfl) pa_nil)))))))), ?_⟩
    refine ⟨_, rfl, _, _, _, _, _, rfl, .ty "int", hq.ty, kit_ty (ki d), _, rfl, ite2 (fun e => ?_) (fun e => ?_)⟩
    · refine ⟨_, rfl, _, _, _, _, _, rfl, .ty "bool", hq.ty, kit_ty (kb d), _, rfl, ?_⟩
      have : isW d = !isB d := by cases d <;> first | rfl | (cases e)
      rw [← this]
      exact k
    · have : isW d = false := by cases d <;> first | rfl | (exact absurd rfl e)
      rw [this] at k
      exact k

/-! ### _law_is_whole -/
theorem sc__law_is_whole : FnScope ["_law_thing"] ["_law_thing"] (defScope s__law_is_whole) := ⟨rfl, rfl, rfl, by decide +kernel, rfl, by decide +kernel, by decide +kernel⟩
theorem ok_lwhole {f : Addr} {fd : FuncData} (M : Blt mg) (Mx : Bltx mg) (F : Fun K "_law_is_whole" "_law_is_whole" s__law_is_whole f fd) : FnG P w K mg base CX0 1 f fd ["_law_thing"] (sp_whole K) := by
  refine Gfun F sc__law_is_whole (fun vs H Q E h => ?_) (fun cdv A outer s H vs Q E hg hr h => ?_)
  · obtain ⟨v, d, rfl, _⟩ := h
    rfl
  · obtain ⟨v, d, rfl, hq, k⟩ := h
    refine ⟨_, (pss_one (ps_ret (pe_and (pe_callB call_isi rfl Mx.isinstance bt_isinstance (pa_cons (pv 0) (pa_cons (pe_bltn (v := .ty "int") rfl M.int bt_int rfl) pa_nil))) (pe_one (pe_not (pe_callB call_isi rfl Mx.isinstance bt_isinstance (pa_cons (pv 0) (pa_cons (pe_bltn (v := .ty "bool") rfl Mx.bool bt_bool rfl) pa_nil)))))))), ?_⟩
    refine ⟨_, rfl, _, _, _, _, _, rfl, .ty "int", hq.ty, kit_ty (ki d), _, rfl, ite2 (fun e => ?_) (fun e => ?_)⟩
    · refine ⟨_, rfl, _, _, _, _, _, rfl, .ty "bool", hq.ty, kit_ty (kb d), _, rfl, ?_⟩
      have : isW d = !isB d := by cases d <;> first | rfl | (cases e)
      rw [← this]
      exact k
    · have : isW d = false := by cases d <;> first | rfl | (exact absurd rfl e)
      rw [this] at k
      exact k

/-! ### is_fraction -/
theorem sc_is_fraction : FnScope ["thing", "top", "bottom"] ["thing"] (defScope s_is_fraction) := ⟨rfl, rfl, rfl, by decide +kernel, rfl, by decide +kernel, by decide +kernel⟩
def sp_isfr (K : PySem.W.Frag) : Sp := fun vs H Q _ => ∃ (v : V) (d : PyData), vs = [v] ∧ Dq K H v d ∧ Q (.bl (isFr d)) H
theorem isFr_len {ds : List PyData} (h : ds.length ≠ 2) : isFr (.tuple ds) = false := by
  match ds, h with
  | [], _ => rfl
  | [_], _ => rfl
  | [_, _], h => exact absurd rfl h
  | _ :: _ :: _ :: _, _ => rfl
theorem isFr_no {d e : PyData} (h : isW d = false ∨ isW e = false) : isFr (.tuple [d, e]) = false := by
  cases d <;> cases e <;> first | rfl | (rcases h with h | h <;> cases h)
theorem isFr_two {a b : Int} : isFr (.tuple [.int a, .int b]) = (decide (0 < b) && decide (Nat.gcd a.natAbs b.natAbs = 1)) := rfl
theorem DpAll.len {H : Hp} : ∀ {vs : List V} {ds : List PyData}, DpAll K H vs ds → vs.length = ds.length
  | _, _, .nil => rfl
  | _, _, .cons _ r => congrArg Nat.succ (DpAll.len r)
theorem two_of {H : Hp} {xs : List V} {ds : List PyData} (h : DpAll K H xs ds) (hl : xs.length = 2) : ∃ x y d1 d2, xs = [x, y] ∧ ds = [d1, d2] ∧ Dp K H x d1 ∧ Dp K H y d2 := by
  match xs, ds, h, hl with
  | _, _, .cons h1 (.cons h2 .nil), _ => exact ⟨_, _, _, _, rfl, rfl, h1, h2⟩
  | _, _, .nil, e => cases e
  | _, _, .cons _ .nil, e => cases e
  | _, _, .cons _ (.cons _ (.cons _ _)), e => simp at e
theorem ok_isfr {f : Addr} {fd : FuncData} (M : Blt mg) (Mx : Bltx mg) (F : Fun K "is_fraction" "is_fraction" s_is_fraction f fd) (C_is_whole : Cal P w K mg base CX0 1 "is_whole" ["thing"] (sp_whole K)) (C_common : Cal P w K mg base CX0 1 "common" ["one", "other"] spCom) :
    FnG P w K mg base CX0 2 f fd ["thing"] (sp_isfr K) := by
  refine Gfun F sc_is_fraction (fun vs H Q E h => ?_) (fun cdv A outer s H vs Q E hg hr h => ?_)
  · obtain ⟨v, d, rfl, _⟩ := h
    rfl
  · obtain ⟨v, d, rfl, hq, k⟩ := h
    refine ⟨_, (pss_cons (ps_if (PW.pt (pw_or (pt_not (pt_val (pe_callB call_isi rfl Mx.isinstance bt_isinstance (pa_cons (pv 0) (pa_cons (pe_bltn (v := .ty "tuple") rfl Mx.tuple bt_tuple rfl) pa_nil))))) (pw_or1 (pt_cmpR op_ne (pe_callB call_len_seq rfl M.len bt_len (pa_cons (pv 0) pa_nil)) pe_int (nomark _)))))
      (pss_one (ps_ret pe_bl))
      pss_nil)
      (pss_cons (ps_asg (pv 0) (pg_tup rfl (pgs_cons (pg_name (i := 1) sc_is_fraction.nd rfl (.inl rfl)) (pgs_cons (pg_name (i := 2) sc_is_fraction.nd rfl (.inl rfl)) pgs_nil))))
      (pss_cons (ps_if (PW.pt (pw_or (pt_not (pt_val (pe_g C_is_whole (hr.mono (by decide)) hg (pa_cons (pv 1) pa_nil)))) (pw_or1 (pt_not (pt_val (pe_g C_is_whole (hr.mono (by decide)) hg (pa_cons (pv 2) pa_nil)))))))
      (pss_one (ps_ret pe_bl))
      pss_nil)
      (pss_one (ps_ret (pe_and (pe_cmpR op_gt (pv 2) pe_int (nomark _)) (pe_one (pe_cmpR op_eq (pe_g C_common (hr.mono (by decide)) hg (pa_cons (pe_callB call_abs rfl M.abs bt_abs (pa_cons (pv 1) pa_nil)) (pa_cons (pv 2) pa_nil))) pe_int (nomark _))))))))), ?_⟩
    refine ⟨_, rfl, _, _, _, _, _, rfl, .ty "tuple", hq.ty, kit_ty (kt d), _, rfl, ?_⟩
    by_cases ht : isT d = true
    · rw [ht]
      refine iteF ?_
      obtain ⟨a, xs, ds, rfl, rfl, hS, hA, hn⟩ := hq.tup ht
      refine ⟨_, rfl, a, xs, rfl, .inr hS, rfl, _, rfl, ?_⟩
      by_cases hl : xs.length = 2
      · refine iteNS (show V.int (xs.length : Int) = V.int 2 by rw [hl]; rfl) ?_
        obtain ⟨x, y, d1, d2, rfl, rfl, h1, h2⟩ := two_of hA hl
        refine ⟨_, rfl, a, _, rfl, hS, rfl, _, _, rfl, _, _, rfl, rfl, ?_⟩
        have hn' : d1.hasDict = false ∧ d2.hasDict = false := by simpa [PyData.hasDictAll] using hn
        have q1 : Dq K H x d1 := .dp h1 hn'.1
        have q2 : Dq K H y d2 := .dp h2 hn'.2
        refine ⟨_, rfl, x, d1, rfl, q1, _, rfl, ?_⟩
        by_cases w1 : isW d1 = true
        · rw [w1]
          refine iteF ?_
          refine ⟨_, rfl, y, d2, rfl, q2, _, rfl, ?_⟩
          by_cases w2 : isW d2 = true
          · rw [w2]
            refine iteF ?_
            obtain ⟨p, rfl, rfl⟩ := q1.whole w1
            obtain ⟨b, rfl, rfl⟩ := q2.whole w2
            rw [isFr_two] at k
            refine ⟨_, rfl, _, _, rfl, rfl, _, rfl, ite2 (fun e => ?_) (fun e => ?_)⟩
            · have hb : 0 < b := of_decide_eq_true e
              refine ⟨_, rfl, _, rfl, _, rfl, _, b, rfl, ?_, Int.le_of_lt hb, rfl, ?_⟩
              · rw [abs_is]
                omega
              · rw [abs_is, Int.natAbs_natCast]
                rw [decide_eq_true hb, Bool.true_and] at k
                have e2 : decide (V.int ((Nat.gcd p.natAbs b.natAbs : Nat) : Int) = V.int 1) = decide (Nat.gcd p.natAbs b.natAbs = 1) := by
                  by_cases z : Nat.gcd p.natAbs b.natAbs = 1
                  · rw [decide_eq_true z, z]
                    rfl
                  · rw [decide_eq_false z]
                    exact decide_eq_false fun q => z (by have := V.int.inj q; omega)
                rw [e2]
                exact k
            · rw [show decide (0 < b) = false from Bool.eq_false_iff.mpr e, Bool.false_and] at k
              exact k
          · have w2' : isW d2 = false := by cases h : isW d2 <;> first | rfl | exact absurd h w2
            rw [w2']
            refine iteT ?_
            rw [isFr_no (.inr w2')] at k
            exact k
        · have w1' : isW d1 = false := by cases h : isW d1 <;> first | rfl | exact absurd h w1
          rw [w1']
          refine iteT ?_
          rw [isFr_no (.inl w1')] at k
          exact k
      · refine iteN (fun z => hl (by have := V.int.inj z; omega)) ?_
        have hl2 : ds.length ≠ 2 := by rw [← DpAll.len hA]; exact hl
        rw [isFr_len hl2] at k
        exact k
    · have ht' : isT d = false := by cases h : isT d <;> first | rfl | exact absurd h ht
      rw [ht']
      refine iteT ?_
      have : isFr d = false := by
        cases d <;> first | rfl | exact absurd rfl ht
      rw [this] at k
      exact k

/-! ### is_name -/
theorem sc_is_name : FnScope ["thing", "sign"] ["thing"] (defScope s_is_name) := ⟨rfl, rfl, rfl, by decide +kernel, rfl, by decide +kernel, by decide +kernel⟩
def sp_isnm (K : PySem.W.Frag) : Sp := fun vs H Q _ => ∃ (v : V) (d : PyData), vs = [v] ∧ Dq K H v d ∧ (∀ z, d = .str z → z.length ≤ 1000) ∧ ∀ H', Same H H' → Q (.bl (isNm d)) H'
theorem isNm_no {d : PyData} (h : isS d = false) : isNm d = false := by cases d <;> first | rfl | cases h
theorem ok_isnm {f : Addr} {fd : FuncData} {tl tn : Tok} (M : Blt mg) (Mx : Bltx mg) (G_LETTERS : mg "LETTERS" = some (.str lets tl)) (G_LONGEST_NAME : mg "LONGEST_NAME" = some (.int 10 tn)) (F : Fun K "is_name" "is_name" s_is_name f fd) :
    FnG P w K mg base CX0 2 f fd ["thing"] (sp_isnm K) := by
  refine Gfun F sc_is_name (fun vs H Q E h => ?_) (fun cdv A outer s H vs Q E hg hr h => ?_)
  · obtain ⟨v, d, rfl, _⟩ := h
    rfl
  · obtain ⟨v, d, rfl, hq, hz, k⟩ := h
    refine ⟨_, (pss_cons (ps_if (PW.pt (pw_or (pt_not (pt_val (pe_callB call_isi rfl Mx.isinstance bt_isinstance (pa_cons (pv 0) (pa_cons (pe_bltn (v := .ty "str") rfl M.str bt_str rfl) pa_nil))))) (pw_or1 (pt_not (pt_chain op_le op_le pe_int (pe_callB call_len_str rfl M.len bt_len (pa_cons (pv 0) pa_nil)) (pe_glob (v := .int 10) rfl G_LONGEST_NAME ⟨_, rfl⟩))))))
      (pss_one (ps_ret pe_bl))
      pss_nil)
      (pss_one (ps_ret (pe_callB (cr_all rfl) rfl M.all bt_all (pa_cons (pe_lc (own := [("sign", 1)]) (g := gName 1) (tt := tYes) rfl sc_is_name.nd (pi_str (pv 0)) (blkOk_by (N := ["thing", "sign"]) (sc := defScope s_is_name) (by decide +kernel)) (fun _ _ _ _ _ => pg_name (i := 1) sc_is_name.nd rfl (Or.inl rfl)) (fun _ _ _ _ _ => pts_nil) (fun _ _ _ _ _ => (pe_cmpR op_inS (pv 1) (pe_glob (v := .str lets) rfl G_LETTERS ⟨_, rfl⟩) rfl))) pa_nil))))), ?_⟩
    refine ⟨_, rfl, _, _, _, _, _, rfl, .ty "str", hq.ty, kit_ty (ks d), _, rfl, ?_⟩
    by_cases ht : isS d = true
    · rw [ht]
      refine iteF ?_
      obtain ⟨z, rfl, rfl⟩ := hq.txt ht
      have hzl := hz z rfl
      have hnm : isNm (.str z) = (decide (1 ≤ z.length) && decide (z.length ≤ 10) && z.cps.toList.all inL) := rfl
      have fin : ∀ b : Bool, isNm (.str z) = b → ∀ H', Same H H' → Q (.bl b) H' := fun b e H' s => e ▸ k H' s
      refine ⟨_, rfl, z, rfl, len_show hzl, _, _, rfl, rfl, _, rfl, ?_⟩
      by_cases h1 : (1 : Int) ≤ (z.length : Int)
      · rw [decide_eq_true h1]
        refine iteT ⟨_, _, rfl, rfl, _, rfl, ?_⟩
        by_cases h2 : (z.length : Int) ≤ 10
        · rw [decide_eq_true h2]
          refine iteF ?_
          refine ⟨_, rfl, z, rfl, fun D hD => lc_it walk_str (fun i H' => H' D = some (.lst ((z.cps.toList.take i).map fun c => .bl (inL c))) ∧ Same H H') ⟨upd_same, same_new hD⟩ (fun _ _ _ _ => trivial) ?_ ?_⟩
          · rintro i x H1 H2 hi ⟨eD, sm⟩ ⟨rfl, c, hc, rfl⟩
            have hsz : z.cps.size ≤ 1000 := hzl
            refine ⟨rfl, _, rfl, c, lets, rfl, rfl, _, eD, ?_, ?_, fun b o e => ?_⟩
            · rw [List.length_map, List.length_take, sizeLine_eq]
              omega
            · rw [upd_same, List.take_add_one, Array.getElem?_toList, hc, List.map_append]
              rfl
            · rw [upd_ne (ne_of_none e hD)]
              exact sm _ _ e
          · rintro H1 ⟨eD, sm⟩
            rw [show z.cps.size = z.cps.toList.length from Array.length_toList.symm, List.take_length] at eD
            refine ⟨D, z.cps.toList.map inL, rfl, .inl (.inl ?_), ?_⟩
            · rw [eD, List.map_map]
              rfl
            · refine fin _ ?_ H1 sm
              rw [hnm, decide_eq_true (show 1 ≤ z.length by omega), decide_eq_true (show z.length ≤ 10 by omega), List.all_map]
              rfl
        · rw [decide_eq_false h2]
          refine iteT (fin false ?_ H same_rfl)
          rw [hnm, show decide (z.length ≤ 10) = false from decide_eq_false (by omega), Bool.and_false, Bool.false_and]
      · rw [decide_eq_false h1]
        refine iteF ⟨_, rfl, iteT (fin false ?_ H same_rfl)⟩
        rw [hnm, show decide (1 ≤ z.length) = false from decide_eq_false (by omega), Bool.false_and, Bool.false_and]
    · have ht' : isS d = false := by cases h : isS d <;> first | rfl | exact absurd h ht
      rw [ht']
      refine iteT ?_
      have := k H same_rfl
      rw [isNm_no ht'] at this
      exact this

end
end Lf

set_option Elab.async false
set_option linter.all false
set_option maxRecDepth 100000
set_option maxHeartbeats 4000000
set_option exponentiation.threshold 3000
namespace Lf
open PySem PySem.Spec PyProof.Rows L2
theorem sm_l {K : PySem.W.Frag} {H H' : Hp} {a : Addr} {xs : List V} (s : Same H H') (h : SqL K H a xs) : SqL K H' a xs := s.seq h
theorem small30 {n : Int} (h : 0 ≤ n) (h2 : n < 2147483648) : Sm n := Nat.lt_of_lt_of_le (show n.natAbs < 2 ^ 31 by omega) (Nat.pow_le_pow_right (by decide) (by decide))
section
variable {P : Program} {w : World} {K : PySem.W.Frag} {mg : Str → Option Value} {base : Heap}

/-! ### _law_cell -/
theorem sc__law_cell : FnScope ["_law_script", "_law_k"] ["_law_script", "_law_k"] (defScope s__law_cell) := ⟨rfl, rfl, rfl, by decide +kernel, rfl, by decide +kernel, by decide +kernel⟩
def sp_cell (K : PySem.W.Frag) : Sp := fun vs H Q _ => ∃ (a : Addr) (ns : List Int) (k : Nat), vs = [.ref a, .int k] ∧ SqL K H a (ns.map V.int) ∧ k < 2 ^ 62 ∧ ∀ n : Int, Q (.int n) H
theorem ok_cell {f : Addr} {fd : FuncData} (M : Blt mg) (F : Fun K "_law_cell" "_law_cell" s__law_cell f fd) : FnG P w K mg base CX0 1 f fd ["_law_script", "_law_k"] (sp_cell K) := by
  refine Gfun F sc__law_cell (fun vs H Q E h => ?_) (fun cdv A outer s H vs Q E hg hr h => ?_)
  · obtain ⟨a, ns, k, rfl, _⟩ := h
    rfl
  · obtain ⟨a, ns, k, rfl, hS, hk, q⟩ := h
    refine ⟨_, (pss_one (ps_ret (pe_ifExp (pt_cmpR op_lt (pv 1) (pe_callB call_len_seq rfl M.len bt_len (pa_cons (pv 0) pa_nil)) (nomark _)) (pe_ix ix_list (pv 0) (pv 1) (fun _ _ => rfl)) pe_int))), ?_⟩
    refine ⟨_, rfl, _, rfl, a, _, rfl, .inl hS, _, _, rfl, rfl, _, rfl, ite2 (fun e => ?_) (fun e => ?_)⟩
    · have e' : (k : Int) < (((ns.map V.int).length : Nat) : Int) := of_decide_eq_true e
      rw [List.length_map] at e'
      have hlt : k < ns.length := by omega
      refine ⟨_, rfl, _, rfl, a, _, _, .int ns[k], rfl, rfl, hS, atI_nat ?_, q _⟩
      rw [List.getElem?_map, List.getElem?_eq_getElem hlt]
      rfl
    · exact q 0

/-! ### _law_pot -/
theorem sc__law_pot : FnScope ["_law_cell_here"] ["_law_cell_here"] (defScope s__law_pot) := ⟨rfl, rfl, rfl, by decide +kernel, rfl, by decide +kernel, by decide +kernel⟩
def sp_pot : Sp := fun vs H Q _ => ∃ n : Int, vs = [.int n] ∧ ∀ (x y : Int) (p : Addr), 0 ≤ y → y < 2147483648 → H p = none → Q (.ref p) (upd H p (.lst [.int x, .int y]))
theorem ok_pot {f : Addr} {fd : FuncData} (M : Blt mg) (F : Fun K "_law_pot" "_law_pot" s__law_pot f fd) : FnG P w K mg base CX0 1 f fd ["_law_cell_here"] sp_pot := by
  refine Gfun F sc__law_pot (fun vs H Q E h => ?_) (fun cdv A outer s H vs Q E hg hr h => ?_)
  · obtain ⟨n, rfl, _⟩ := h
    rfl
  · obtain ⟨n, rfl, q⟩ := h
    refine ⟨_, (pss_one (ps_ret (pe_lst (pa_cons (pe_callB (call_max2 rfl) rfl M.max bt_max (pa_cons pe_int (pa_cons (pe_op op_sub (pv 0) (pe_op op_pow pe_int pe_int)) pa_nil))) (pa_cons (pe_op op_mod (pe_op op_add (pe_op op_mulW (pe_op op_mod (pv 0) pe_int) pe_int) pe_int) pe_int) pa_nil))))), ?_⟩
    refine ⟨_, rfl, 10, 18, rfl, rfl, ⟨by decide, by decide, by decide⟩, _, _, rfl, rfl, _, _, rfl, ?_⟩
    have h1 := Int.emod_nonneg n (show (2147483629 : Int) ≠ 0 by decide)
    have h2 := Int.emod_lt_of_pos n (show (0 : Int) < 2147483629 by decide)
    refine ⟨_, rfl, _, _, rfl, rfl, (by show (0 : Int) < 2147483629; decide), _, _, rfl, rfl, Sm.mulW (small30 h1 (by omega)) (small30 (by decide) (by decide)), _, _, rfl, rfl, _, _, rfl, rfl, (by show (0 : Int) < 2147483647; decide), lst2 fun p hp => ?_⟩
    have h3 := Int.emod_nonneg (n % 2147483629 * 48271 + 7919) (show (2147483647 : Int) ≠ 0 by decide)
    have h4 := Int.emod_lt_of_pos (n % 2147483629 * 48271 + 7919) (show (0 : Int) < 2147483647 by decide)
    exact q _ _ p h3 (by omega) hp

/-! ### _law_draw -/
theorem sc__law_draw : FnScope ["_law_pot_here", "_law_many", "_law_digit"] ["_law_pot_here", "_law_many"] (defScope s__law_draw) := ⟨rfl, rfl, rfl, by decide +kernel, rfl, by decide +kernel, by decide +kernel⟩
/-- all but the pot at q stands as before -/
def But (q : Addr) (H H' : Hp) : Prop := ∀ b o, b ≠ q → H b = some o → H' b = some o
theorem But.rfl {q : Addr} {H : Hp} : But q H H := fun _ _ _ e => e
theorem But.trans {q : Addr} {H H1 H2 : Hp} (h : But q H H1) (k : But q H1 H2) : But q H H2 := fun b o n e => k b o n (h b o n e)
theorem But.same {q : Addr} {H H1 H2 : Hp} (h : But q H H1) (k : Same H1 H2) : But q H H2 := fun b o n e => k b o (h b o n e)
/-- a pot of draws at q -/
def Pot (H : Hp) (q : Addr) : Prop := ∃ x y : Int, 0 ≤ y ∧ y < 2147483648 ∧ H q = some (.lst [.int x, .int y])
def Drawn (H : Hp) (q : Addr) (Q : VK) (m : Int) : Prop := ∀ (r : Int) (H' : Hp), 0 ≤ r → r < m → Pot H' q → But q H H' → Q (.int r) H'
def sp_draw : Sp := fun vs H Q _ => ∃ (q : Addr) (m : Int), vs = [.ref q, .int m] ∧ 0 < m ∧ m.natAbs < 2 ^ 900 ∧ Pot H q ∧ Drawn H q Q m
theorem ok_draw {f : Addr} {fd : FuncData} (M : Blt mg) (F : Fun K "_law_draw" "_law_draw" s__law_draw f fd) : FnG P w K mg base CX0 1 f fd ["_law_pot_here", "_law_many"] sp_draw := by
  refine Gfun F sc__law_draw (fun vs H Q E h => ?_) (fun cdv A outer s H vs Q E hg hr h => ?_)
  · obtain ⟨q, m, rfl, _⟩ := h
    rfl
  · obtain ⟨q, m, rfl, hm, hm2, ⟨x, y, hy0, hy1, hP⟩, k⟩ := h
    refine ⟨_, (pss_cons (ps_if (pt_cmpR op_gt (pe_ix ix_list (pv 0) pe_int (fun _ _ => rfl)) pe_int (nomark _))
      (pss_cons (ps_asg (pe_callB call_divmodW rfl M.divmod bt_divmod (pa_cons (pe_ix ix_list (pv 0) pe_int (fun _ _ => rfl)) (pa_cons (pv 1) pa_nil))) (pg_tup rfl (pgs_cons (pg_sub (pv 0) pe_int set_list) (pgs_cons (pg_name (i := 2) sc__law_draw.nd rfl (.inl rfl)) pgs_nil))))
      (pss_one (ps_ret (pv 2))))
      pss_nil)
      (pss_cons (ps_asg (pe_op op_mod (pe_op op_add (pe_op op_mulW (pe_ix ix_list (pv 0) pe_int (fun _ _ => rfl)) pe_int) pe_int) pe_int) (pg_sub (pv 0) pe_int set_list))
      (pss_one (ps_ret (pe_op op_mod (pe_op op_fdivN (pe_op op_mod (pe_op op_mulW (pe_ix ix_list (pv 0) pe_int (fun _ _ => rfl)) (pe_ix ix_list (pv 0) pe_int (fun _ _ => rfl))) pe_int) pe_int) (pv 1)))))), ?_⟩
    refine ⟨_, rfl, q, _, _, _, rfl, rfl, .inl (.inl hP), rfl, _, _, rfl, rfl, _, rfl, ite2 (fun e => ?_) (fun e => ?_)⟩
    · refine ⟨_, rfl, q, _, _, _, rfl, rfl, .inl (.inl hP), rfl, _, rfl, x, m, rfl, ⟨hm, PyProof.noPylong_of_log2 (Nat.lt_of_lt_of_le (PySem.Flt.log2_lt_of (by decide) hm2) (by decide))⟩, fun p hp => ?_⟩
      have nq : q ≠ p := ne_of_none hP hp
      have hP2 : upd H p (.tup [.int (x / m), .int (x % m)]) q = some (.lst [.int x, .int y]) := by
        rw [upd_ne nq]
        exact hP
      refine ⟨p, _, rfl, .inl (.inl upd_same), rfl, _, _, rfl, ?_⟩
      refine ⟨_, rfl, q, _, _, _, rfl, rfl, hP2, rfl, ?_⟩
      refine ⟨_, _, rfl, rfl, ?_⟩
      refine ⟨_, rfl, k (x % m) _ (Int.emod_nonneg _ (by omega)) (Int.emod_lt_of_pos _ hm) ⟨x / m, y, hy0, hy1, upd_same⟩ fun b o nb eb => ?_⟩
      rw [upd_ne nb, upd_ne (ne_of_none eb hp)]
      exact eb
    · refine ⟨_, rfl, q, _, _, _, rfl, rfl, .inl (.inl hP), rfl, _, _, rfl, rfl, Sm.mulW (small30 hy0 hy1) (small30 (by decide) (by decide)), _, _, rfl, rfl, _, _, rfl, rfl, (by show (0 : Int) < 2147483587; decide), ?_⟩
      refine ⟨_, rfl, q, _, _, _, rfl, rfl, hP, rfl, ?_⟩
      have h3 := Int.emod_nonneg (y * 39373 + 8191) (show (2147483587 : Int) ≠ 0 by decide)
      have h4 := Int.emod_lt_of_pos (y * 39373 + 8191) (show (0 : Int) < 2147483587 by decide)
      have sz : Sm ((y * 39373 + 8191) % 2147483587) := small30 h3 (by omega)
      refine ⟨_, rfl, q, _, _, _, rfl, rfl, .inl (.inl upd_same), rfl, _, rfl, q, _, _, _, rfl, rfl, .inl (.inl upd_same), rfl, _, _, rfl, rfl, Sm.mulW sz sz, _, _, rfl, rfl, (by show (0 : Int) < 2147483543; decide), ?_⟩
      refine ⟨_, _, rfl, rfl, ⟨by decide, by decide⟩, _, rfl, _, _, rfl, rfl, hm, ?_⟩
      refine k _ _ (Int.emod_nonneg _ (by omega)) (Int.emod_lt_of_pos _ hm) ⟨x, _, h3, by omega, upd_same⟩ fun b o nb eb => ?_
      rw [upd_ne nb]
      exact eb

/-! ### _law_low -/
theorem sc__law_low : FnScope ["_law_top", "_law_bottom", "_law_one", "_law_other"] ["_law_top", "_law_bottom"] (defScope s__law_low) := ⟨rfl, rfl, rfl, by decide +kernel, rfl, by decide +kernel, by decide +kernel⟩
def sp_low : Sp := fun vs H Q _ => ∃ (n d : Int), vs = [.int n, .int d] ∧ d ≠ 0 ∧ Mid d ∧ Two H Q (low n d)
theorem ok_low {f : Addr} {fd : FuncData} (M : Blt mg) (F : Fun K "_law_low" "_law_low" s__law_low f fd) : FnG P w K mg base CX0 1 f fd ["_law_top", "_law_bottom"] sp_low := by
  refine Gfun F sc__law_low (fun vs H Q E h => ?_) (fun cdv A outer s H vs Q E hg hr h => ?_)
  · obtain ⟨n, d, rfl, _⟩ := h
    rfl
  · obtain ⟨n, d, rfl, hd, hd2, q⟩ := h
    refine ⟨_, (pss_cons (ps_par (i := 2) (j := 3) rfl sc__law_low.nd rfl rfl (by decide) rfl rfl (pa_cons (pe_callB call_abs rfl M.abs bt_abs (pa_cons (pv 0) pa_nil)) (pa_cons (pe_callB call_abs rfl M.abs bt_abs (pa_cons (pv 1) pa_nil)) pa_nil)) (by rfl))
      (pss_cons (ps_while PassesOwn.never (pt_cmpR op_gt (pv 3) pe_int (nomark _))
      (pss_one (ps_par (i := 2) (j := 3) rfl sc__law_low.nd rfl rfl (by decide) rfl rfl (pa_cons (pv 3) (pa_cons (pe_op op_mod (pv 2) (pv 3)) pa_nil)) (by rfl))))
      (pss_cons (ps_if (pt_cmpR op_lt (pv 1) pe_int (nomark _))
      (pss_one (ps_set (i := 2) sc__law_low.nd rfl (.inl rfl) (pe_un un_neg (pv 2))))
      pss_nil)
      (pss_one (ps_ret (pe_tup (pa_cons (pe_op op_fdivN (pv 0) (pv 2)) (pa_cons (pe_op op_fdivN (pv 1) (pv 2)) pa_nil)))))))), ?_⟩
    refine ⟨_, rfl, _, rfl, _, rfl, _, rfl, _, _, rfl, ?_⟩
    refine while_by (fun σ H' => ∃ x y : Int, σ = [some (.int n), some (.int d), some (.int x), some (.int y)] ∧ 0 ≤ x ∧ 0 ≤ y ∧ Nat.gcd x.natAbs y.natAbs = Nat.gcd n.natAbs d.natAbs ∧ H' = H)
      (fun σ _ => match σ with | [_, _, _, some (.int y)] => y.toNat | _ => 0) ⟨_, _, rfl, ?_, ?_, ?_, rfl⟩ ?_ ?_
    · rw [abs_is]
      omega
    · rw [abs_is]
      omega
    · rw [abs_is, abs_is, Int.natAbs_natCast, Int.natAbs_natCast]
    · rintro σ H1 ⟨x, y, rfl, hx, hy, hgc, rfl⟩
      refine ⟨_, rfl, _, _, rfl, rfl, _, rfl, ite2 (fun e => ?_) (fun e => ?_)⟩
      · have hyp : 0 < y := of_decide_eq_true e
        refine ⟨_, rfl, _, rfl, _, rfl, x, y, rfl, rfl, hyp, _, _, rfl, ⟨y, x % y, rfl, hy, Int.emod_nonneg _ (by omega), (gcd_step x y hyp hx).trans hgc, rfl⟩, ?_⟩
        show (x % y).toNat < y.toNat
        have := Int.emod_lt_of_pos x hyp
        omega
      · have hy0 : y = 0 := by
          have : ¬ 0 < y := fun z => e (decide_eq_true z)
          omega
        subst hy0
        rw [Int.natAbs_zero, Nat.gcd_zero_right] at hgc
        have ex : x = ((Nat.gcd n.natAbs d.natAbs : Nat) : Int) := by omega
        subst ex
        have hgz : ((Nat.gcd n.natAbs d.natAbs : Nat) : Int) ≠ 0 := by
          have := gcd_pos (n := n) hd
          omega
        have hlg := (gcd_mid (n := n) hd hd2).log
        refine ⟨_, rfl, _, _, rfl, rfl, _, rfl, ite2 (fun e => ?_) (fun e => ?_)⟩
        · have e' : d < 0 := of_decide_eq_true e
          have hm : ∀ i, CDivN i (-((Nat.gcd n.natAbs d.natAbs : Nat) : Int)) := fun i => ⟨by omega, by rw [Int.natAbs_neg]; exact hlg⟩
          refine ⟨_, rfl, _, rfl, _, rfl, _, rfl, n, _, rfl, rfl, hm n, _, rfl, _, rfl, d, _, rfl, rfl, hm d, (by show 2 ≤ sizeLine; decide), fun p hp => ?_⟩
          refine q _ p (same_new hp) ?_
          rw [← low_fdiv_neg (n := n) e']
          exact upd_same
        · have e' : 0 < d := by
            have : ¬ d < 0 := fun z => e (decide_eq_true z)
            omega
          have hm : ∀ i, CDivN i ((Nat.gcd n.natAbs d.natAbs : Nat) : Int) := fun i => ⟨hgz, hlg⟩
          refine ⟨_, rfl, _, rfl, n, _, rfl, rfl, hm n, _, rfl, _, rfl, d, _, rfl, rfl, hm d, (by show 2 ≤ sizeLine; decide), fun p hp => ?_⟩
          refine q _ p (same_new hp) ?_
          rw [← low_fdiv_pos (n := n) e']
          exact upd_same
    · rintro σ H1 Q1 Q2 hq ⟨u, hu, i, j, h1, h2, k, h3, h4⟩
      exact ⟨u, hu, i, j, h1, h2, k, h3, hq _ _ h4⟩

end
end Lf

set_option linter.all false
/-! Sums and products of fractions in any order, by rational numbers. -/
namespace Lf
def rv (f : Int × Int) : Rat := Rat.divInt f.1 f.2
def IsF (f : Int × Int) : Prop := IsLow f.1 f.2
theorem IsF.ne {f : Int × Int} (h : IsF f) : f.2 ≠ 0 := by
  have : 0 < f.2 := h.1
  omega
theorem rv_inj {f g : Int × Int} (hf : IsF f) (hg : IsF g) (e : rv f = rv g) : f = g := by
  have q := (Rat.divInt_eq_divInt_iff hf.ne hg.ne).mp e
  obtain ⟨e1, e2⟩ := low_uniq hf hg q
  exact Prod.ext e1 e2
theorem low_f {n d : Int} (h : d ≠ 0) : IsF (low n d) := low_is h
theorem rv_low {n d : Int} (h : d ≠ 0) : rv (low n d) = Rat.divInt n d :=
  (Rat.divInt_eq_divInt_iff (low_f (n := n) h).ne h).mpr (low_cross h)
def fadd (f g : Int × Int) : Int × Int := low (f.1 * g.2 + g.1 * f.2) (f.2 * g.2)
def fsub (f g : Int × Int) : Int × Int := low (f.1 * g.2 - g.1 * f.2) (f.2 * g.2)
def fmul (f g : Int × Int) : Int × Int := low (f.1 * g.1) (f.2 * g.2)
def fdiv (f g : Int × Int) : Int × Int := low (f.1 * g.2) (f.2 * g.1)
section
variable {f g : Int × Int}
theorem fadd_f (hf : IsF f) (hg : IsF g) : IsF (fadd f g) := low_f (Int.mul_ne_zero hf.ne hg.ne)
theorem fsub_f (hf : IsF f) (hg : IsF g) : IsF (fsub f g) := low_f (Int.mul_ne_zero hf.ne hg.ne)
theorem fmul_f (hf : IsF f) (hg : IsF g) : IsF (fmul f g) := low_f (Int.mul_ne_zero hf.ne hg.ne)
theorem fdiv_f (hf : IsF f) (h0 : g.1 ≠ 0) : IsF (fdiv f g) := low_f (Int.mul_ne_zero hf.ne h0)
theorem rv_add (hf : IsF f) (hg : IsF g) : rv (fadd f g) = rv f + rv g := by
  unfold fadd
  rw [rv_low (Int.mul_ne_zero hf.ne hg.ne)]
  exact (Rat.divInt_add_divInt _ _ hf.ne hg.ne).symm
theorem rv_sub (hf : IsF f) (hg : IsF g) : rv (fsub f g) = rv f - rv g := by
  unfold fsub
  rw [rv_low (Int.mul_ne_zero hf.ne hg.ne)]
  exact (Rat.divInt_sub_divInt _ _ hf.ne hg.ne).symm
theorem rv_mul (hf : IsF f) (hg : IsF g) : rv (fmul f g) = rv f * rv g := by
  unfold fmul
  rw [rv_low (Int.mul_ne_zero hf.ne hg.ne)]
  exact (Rat.divInt_mul_divInt _ _).symm
theorem rv_div (hf : IsF f) (h0 : g.1 ≠ 0) : rv (fdiv f g) = rv f * (rv g)⁻¹ := by
  unfold fdiv
  rw [rv_low (Int.mul_ne_zero hf.ne h0)]
  unfold rv
  rw [Rat.inv_divInt, Rat.divInt_mul_divInt]
end
def f0 : Int × Int := (0, 1)
def f1 : Int × Int := (1, 1)
theorem f0_f : IsF f0 := ⟨by decide, by decide⟩
theorem f1_f : IsF f1 := ⟨by decide, by decide⟩
theorem rv0 : rv f0 = 0 := Rat.zero_divInt 1
theorem rv1 : rv f1 = 1 := Rat.divInt_self' (by decide)
theorem rv_zero {f : Int × Int} (h : IsF f) : rv f = 0 ↔ f.1 = 0 := by
  constructor
  · intro e
    have := rv_inj h f0_f (e.trans rv0.symm)
    rw [this]
    rfl
  · intro e
    unfold rv
    rw [e, Rat.zero_divInt]
theorem is0 {f : Int × Int} (h : IsF f) : f.1 = 0 ↔ f = f0 := by
  constructor
  · intro e
    exact rv_inj h f0_f (((rv_zero h).mpr e).trans rv0.symm)
  · intro e
    rw [e]
    rfl
def rsum : List (Int × Int) → Rat
  | [] => 0
  | f :: r => rv f + rsum r
def rprod : List (Int × Int) → Rat
  | [] => 1
  | f :: r => rv f * rprod r
theorem rsum_perm {l m : List (Int × Int)} (p : l.Perm m) : rsum l = rsum m := by
  induction p with
  | nil => rfl
  | cons x _ ih => exact congrArg (rv x + ·) ih
  | swap x y l =>
    show rv y + (rv x + rsum l) = rv x + (rv y + rsum l)
    rw [← Rat.add_assoc, ← Rat.add_assoc, Rat.add_comm (rv y)]
  | trans _ _ h1 h2 => exact h1.trans h2
theorem rprod_perm {l m : List (Int × Int)} (p : l.Perm m) : rprod l = rprod m := by
  induction p with
  | nil => rfl
  | cons x _ ih => exact congrArg (rv x * ·) ih
  | swap x y l =>
    show rv y * (rv x * rprod l) = rv x * (rv y * rprod l)
    rw [← Rat.mul_assoc, ← Rat.mul_assoc, Rat.mul_comm (rv y)]
  | trans _ _ h1 h2 => exact h1.trans h2
def AllF (l : List (Int × Int)) : Prop := ∀ f ∈ l, IsF f
theorem AllF.tl {f : Int × Int} {l : List (Int × Int)} (h : AllF (f :: l)) : AllF l := fun g hg => h g (List.mem_cons_of_mem _ hg)
theorem AllF.hd {f : Int × Int} {l : List (Int × Int)} (h : AllF (f :: l)) : IsF f := h f List.mem_cons_self
theorem sum_fold : ∀ (l : List (Int × Int)) (a : Int × Int), IsF a → AllF l → IsF (l.foldl fadd a) ∧ rv (l.foldl fadd a) = rv a + rsum l
  | [], a, ha, _ => ⟨ha, (Rat.add_zero _).symm⟩
  | f :: l, a, ha, h => by
    obtain ⟨h1, h2⟩ := sum_fold l (fadd a f) (fadd_f ha h.hd) h.tl
    refine ⟨h1, ?_⟩
    show rv (l.foldl fadd (fadd a f)) = rv a + (rv f + rsum l)
    rw [h2, rv_add ha h.hd, Rat.add_assoc]
theorem mul_fold : ∀ (l : List (Int × Int)) (a : Int × Int), IsF a → AllF l → IsF (l.foldl fmul a) ∧ rv (l.foldl fmul a) = rv a * rprod l
  | [], a, ha, _ => ⟨ha, (Rat.mul_one _).symm⟩
  | f :: l, a, ha, h => by
    obtain ⟨h1, h2⟩ := mul_fold l (fmul a f) (fmul_f ha h.hd) h.tl
    refine ⟨h1, ?_⟩
    show rv (l.foldl fmul (fmul a f)) = rv a * (rv f * rprod l)
    rw [h2, rv_mul ha h.hd, Rat.mul_assoc]
theorem sub_fold : ∀ (l : List (Int × Int)) (a : Int × Int), IsF a → AllF l → IsF (l.foldl fsub a) ∧ rv (l.foldl fsub a) = rv a - rsum l
  | [], a, ha, _ => ⟨ha, by show rv a = rv a - 0; rw [Rat.sub_eq_add_neg, show -(0 : Rat) = 0 from rfl, Rat.add_zero]⟩
  | f :: l, a, ha, h => by
    obtain ⟨h1, h2⟩ := sub_fold l (fsub a f) (fsub_f ha h.hd) h.tl
    refine ⟨h1, ?_⟩
    show rv (l.foldl fsub (fsub a f)) = rv a - (rv f + rsum l)
    rw [h2, rv_sub ha h.hd, Rat.sub_eq_add_neg, Rat.sub_eq_add_neg, Rat.sub_eq_add_neg, Rat.neg_add, Rat.add_assoc]
/-- one division, where it is one -/
def ddiv (a f : Int × Int) : Int × Int := if f.1 ≠ 0 ∧ a.1 ≠ 0 then fdiv a f else a
theorem ddiv_f {a f : Int × Int} (ha : IsF a) (hf : IsF f) : IsF (ddiv a f) := by
  unfold ddiv
  split
  · exact fdiv_f ha (by rename_i h; exact h.1)
  · exact ha
theorem div_fold0 : ∀ (l : List (Int × Int)) (a : Int × Int), a.1 = 0 → l.foldl ddiv a = a
  | [], _, _ => rfl
  | f :: l, a, h => by
    show l.foldl ddiv (ddiv a f) = a
    have e : ddiv a f = a := if_neg fun z => z.2 h
    rw [e]
    exact div_fold0 l a h
theorem div_fold : ∀ (l : List (Int × Int)) (a : Int × Int), IsF a → AllF l → (∀ f ∈ l, f.1 ≠ 0) → a.1 ≠ 0 → IsF (l.foldl ddiv a) ∧ rv (l.foldl ddiv a) * rprod l = rv a
  | [], a, ha, _, _, _ => ⟨ha, Rat.mul_one _⟩
  | f :: l, a, ha, h, h0, ha0 => by
    have hf0 : f.1 ≠ 0 := h0 f List.mem_cons_self
    have e : ddiv a f = fdiv a f := if_pos ⟨hf0, ha0⟩
    have hq := fdiv_f (g := f) ha hf0
    have rq := rv_div (g := f) ha hf0
    have rf0 : rv f ≠ 0 := fun z => hf0 ((rv_zero h.hd).mp z)
    have hb : rv (fdiv a f) * rv f = rv a := by rw [rq, Rat.mul_assoc, Rat.inv_mul_cancel _ rf0, Rat.mul_one]
    have hq0 : (fdiv a f).1 ≠ 0 := fun z => by
      have := (rv_zero hq).mpr z
      rw [this, Rat.zero_mul] at hb
      exact ha0 ((rv_zero ha).mp hb.symm)
    obtain ⟨h1, h2⟩ := div_fold l (fdiv a f) hq h.tl (fun g hg => h0 g (List.mem_cons_of_mem _ hg)) hq0
    show IsF (l.foldl ddiv (ddiv a f)) ∧ rv (l.foldl ddiv (ddiv a f)) * (rv f * rprod l) = rv a
    rw [e]
    refine ⟨h1, ?_⟩
    rw [Rat.mul_comm (rv f), ← Rat.mul_assoc, h2, hb]
theorem rprod0 : ∀ {l : List (Int × Int)}, AllF l → (rprod l = 0 ↔ ∃ f ∈ l, f.1 = 0)
  | [], _ => ⟨fun e => absurd e (by decide), fun ⟨_, h, _⟩ => nomatch h⟩
  | f :: l, h => by
    show rv f * rprod l = 0 ↔ _
    rw [Rat.mul_eq_zero, rv_zero h.hd, rprod0 h.tl]
    constructor
    · rintro (e | ⟨g, hg, e⟩)
      · exact ⟨f, List.mem_cons_self, e⟩
      · exact ⟨g, List.mem_cons_of_mem _ hg, e⟩
    · rintro ⟨g, hg, e⟩
      rcases List.mem_cons.mp hg with z | z
      · exact Or.inl (z ▸ e)
      · exact Or.inr ⟨g, z, e⟩
/-- told in two orders the same -/
theorem sum_same {l m : List (Int × Int)} (p : l.Perm m) (h : AllF l) : l.foldl fadd f0 = m.foldl fadd f0 := by
  have hm : AllF m := fun f hf => h f (p.mem_iff.mpr hf)
  obtain ⟨a1, a2⟩ := sum_fold l f0 f0_f h
  obtain ⟨b1, b2⟩ := sum_fold m f0 f0_f hm
  exact rv_inj a1 b1 (by rw [a2, b2, rsum_perm p])
theorem mul_same {l m : List (Int × Int)} (p : l.Perm m) (h : AllF l) : l.foldl fmul f1 = m.foldl fmul f1 := by
  have hm : AllF m := fun f hf => h f (p.mem_iff.mpr hf)
  obtain ⟨a1, a2⟩ := mul_fold l f1 f1_f h
  obtain ⟨b1, b2⟩ := mul_fold m f1 f1_f hm
  exact rv_inj a1 b1 (by rw [a2, b2, rprod_perm p])
theorem sub_none {l m : List (Int × Int)} (p : l.Perm m) (h : AllF l) : m.foldl fsub (l.foldl fadd f0) = f0 := by
  have hm : AllF m := fun f hf => h f (p.mem_iff.mpr hf)
  obtain ⟨a1, a2⟩ := sum_fold l f0 f0_f h
  obtain ⟨b1, b2⟩ := sub_fold m _ a1 hm
  exact rv_inj b1 f0_f (by rw [b2, a2, rv0, Rat.zero_add, rsum_perm p, Rat.sub_self])
theorem div_none {l m : List (Int × Int)} (p : l.Perm m) (h : AllF l) : m.foldl ddiv (l.foldl fmul f1) = if f0 ∈ l then f0 else f1 := by
  have hm : AllF m := fun f hf => h f (p.mem_iff.mpr hf)
  obtain ⟨a1, a2⟩ := mul_fold l f1 f1_f h
  rw [rv1, Rat.one_mul] at a2
  by_cases hz : f0 ∈ l
  · rw [if_pos hz]
    have z : rprod l = 0 := (rprod0 h).mpr ⟨f0, hz, rfl⟩
    have z1 : (l.foldl fmul f1).1 = 0 := (rv_zero a1).mp (a2.trans z)
    rw [div_fold0 _ _ z1]
    exact (is0 a1).mp z1
  · rw [if_neg hz]
    have nz : ∀ f ∈ l, f.1 ≠ 0 := fun f hf e => hz ((is0 (h f hf)).mp e ▸ hf)
    have np : rprod l ≠ 0 := fun e => by
      obtain ⟨f, hf, e'⟩ := (rprod0 h).mp e
      exact nz f hf e'
    have n1 : (l.foldl fmul f1).1 ≠ 0 := fun e => np (a2.symm.trans ((rv_zero a1).mpr e))
    obtain ⟨b1, b2⟩ := div_fold m _ a1 hm (fun f hf => nz f (p.mem_iff.mpr hf)) n1
    refine rv_inj b1 f1_f ?_
    rw [a2, rprod_perm p] at b2
    have np' : rprod m ≠ 0 := by rw [← rprod_perm p]; exact np
    have : rv (m.foldl ddiv (l.foldl fmul f1)) * rprod m * (rprod m)⁻¹ = rprod m * (rprod m)⁻¹ := by rw [b2]
    rw [Rat.mul_assoc, Rat.mul_inv_cancel _ np', Rat.mul_one] at this
    rw [this, rv1]
/-- one fraction times a sum is the sum of its products -/
theorem spread_fold (x : Int × Int) (hx : IsF x) : ∀ (l : List (Int × Int)) (a : Int × Int), IsF a → AllF l → IsF (l.foldl (fun a f => fadd a (fmul x f)) a) ∧ rv (l.foldl (fun a f => fadd a (fmul x f)) a) = rv a + rv x * rsum l
  | [], a, ha, _ => ⟨ha, by show rv a = rv a + rv x * 0; rw [Rat.mul_zero, Rat.add_zero]⟩
  | f :: l, a, ha, h => by
    obtain ⟨h1, h2⟩ := spread_fold x hx l (fadd a (fmul x f)) (fadd_f ha (fmul_f hx h.hd)) h.tl
    refine ⟨h1, ?_⟩
    show rv (l.foldl (fun a f => fadd a (fmul x f)) (fadd a (fmul x f))) = rv a + rv x * (rv f + rsum l)
    rw [h2, rv_add ha (fmul_f hx h.hd), rv_mul hx h.hd, Rat.mul_add, Rat.add_assoc]
theorem spread_same {x : Int × Int} {l : List (Int × Int)} (hx : IsF x) (h : AllF l) : l.foldl (fun a f => fadd a (fmul x f)) f0 = fmul (fmul f1 x) (l.foldl fadd f0) := by
  obtain ⟨a1, a2⟩ := spread_fold x hx l f0 f0_f h
  obtain ⟨b1, b2⟩ := sum_fold l f0 f0_f h
  have c := fmul_f f1_f hx
  refine rv_inj a1 (fmul_f c b1) ?_
  rw [a2, rv_mul c b1, rv_mul f1_f hx, b2, rv0, rv1, Rat.one_mul, Rat.zero_add, Rat.zero_add]
/-! sizes -/
def Bt (k : Nat) (f : Int × Int) : Prop := f.1.natAbs < 2 ^ k ∧ f.2.natAbs < 2 ^ k
theorem Bt.mono {j k : Nat} {f : Int × Int} (h : Bt j f) (hk : j ≤ k) : Bt k f :=
  ⟨Nat.lt_of_lt_of_le h.1 (Nat.pow_le_pow_right (by decide) hk), Nat.lt_of_lt_of_le h.2 (Nat.pow_le_pow_right (by decide) hk)⟩
theorem mul_lt {a b : Int} {j k : Nat} (ha : a.natAbs < 2 ^ j) (hb : b.natAbs < 2 ^ k) : (a * b).natAbs < 2 ^ (j + k) := by
  rw [Int.natAbs_mul, Nat.pow_add]
  exact Nat.mul_lt_mul'' ha hb
theorem low_bt {n d : Int} {k : Nat} (h : d ≠ 0) (hn : n.natAbs < 2 ^ k) (hd : d.natAbs < 2 ^ k) : Bt k (low n d) :=
  ⟨Nat.lt_of_le_of_lt (low_top_le h) hn, Nat.lt_of_le_of_lt (low_bottom_le h) hd⟩
section
variable {f g : Int × Int} {j k : Nat}
theorem fadd_bt (hf : IsF f) (hg : IsF g) (a : Bt k f) (b : Bt j g) : Bt (k + j + 1) (fadd f g) := by
  have h1 := mul_lt a.1 b.2
  have h2 := mul_lt a.2 b.1
  have h3 := mul_lt a.2 b.2
  have h4 := Int.natAbs_add_le (f.1 * g.2) (g.1 * f.2)
  rw [Int.mul_comm g.1] at h4
  have h5 : (2 : Nat) ^ (k + j + 1) = 2 ^ (k + j) + 2 ^ (k + j) := Nat.two_pow_succ _
  refine low_bt (Int.mul_ne_zero hf.ne hg.ne) ?_ (by omega)
  rw [Int.mul_comm g.1]
  omega
theorem fsub_bt (hf : IsF f) (hg : IsF g) (a : Bt k f) (b : Bt j g) : Bt (k + j + 1) (fsub f g) := by
  have h1 := mul_lt a.1 b.2
  have h2 := mul_lt a.2 b.1
  have h3 := mul_lt a.2 b.2
  have h4 := Int.natAbs_sub_le (f.1 * g.2) (g.1 * f.2)
  rw [Int.mul_comm g.1] at h4
  have h5 : (2 : Nat) ^ (k + j + 1) = 2 ^ (k + j) + 2 ^ (k + j) := Nat.two_pow_succ _
  refine low_bt (Int.mul_ne_zero hf.ne hg.ne) ?_ (by omega)
  rw [Int.mul_comm g.1]
  omega
theorem fmul_bt (hf : IsF f) (hg : IsF g) (a : Bt k f) (b : Bt j g) : Bt (k + j) (fmul f g) :=
  low_bt (Int.mul_ne_zero hf.ne hg.ne) (mul_lt a.1 b.1) (mul_lt a.2 b.2)
theorem fdiv_bt (hf : IsF f) (h0 : g.1 ≠ 0) (a : Bt k f) (b : Bt j g) : Bt (k + j) (fdiv f g) :=
  low_bt (Int.mul_ne_zero hf.ne h0) (mul_lt a.1 b.2) (mul_lt a.2 b.1)
theorem ddiv_bt (hf : IsF f) (a : Bt k f) (b : Bt j g) : Bt (k + j) (ddiv f g) := by
  unfold ddiv
  split
  · rename_i h
    exact fdiv_bt hf h.1 a b
  · exact a.mono (Nat.le_add_right _ _)
end
end Lf

set_option Elab.async false
set_option linter.all false
set_option maxRecDepth 100000
set_option maxHeartbeats 4000000
set_option exponentiation.threshold 3000
/-! Fractions that stand in the heap or among the module's constants, and rows of them. -/
namespace Lf
open PySem PySem.Spec PyProof.Rows L2
/-- a fraction stands at v -/
def AtK (K : PySem.W.Frag) (H : Hp) (v : V) (f : Int × Int) : Prop := ∃ p, v = .ref p ∧ SqT K H p [.int f.1, .int f.2]
theorem AtK.same {K : PySem.W.Frag} {H H' : Hp} {v : V} {f : Int × Int} (s : Same H H') (h : AtK K H v f) : AtK K H' v f := by
  obtain ⟨p, e, h⟩ := h
  refine ⟨p, e, ?_⟩
  rcases h with (h | ⟨o, h⟩) | h
  · exact .inl (.inl (s _ _ h))
  · exact .inl (.inr ⟨o, s _ _ h⟩)
  · exact .inr h
theorem AtK.of {K : PySem.W.Frag} {H : Hp} {p : Addr} {f : Int × Int} (h : H p = some (.tup [.int f.1, .int f.2])) : AtK K H (.ref p) f := ⟨p, rfl, .inl (.inl h)⟩
/-- fractions stand at vs -/
def AtKs (K : PySem.W.Frag) (H : Hp) (vs : List V) (fs : List (Int × Int)) : Prop := Paired (AtK K H) vs fs
theorem AtKs.map {K : PySem.W.Frag} {H H' : Hp} (s : ∀ v f, AtK K H v f → AtK K H' v f) : ∀ {vs : List V} {fs : List (Int × Int)}, AtKs K H vs fs → AtKs K H' vs fs
  | _, _, .nil => .nil
  | _, _, .cons a r => .cons (s _ _ a) (AtKs.map s r)
theorem AtKs.same {K : PySem.W.Frag} {H H' : Hp} (s : Same H H') {vs : List V} {fs : List (Int × Int)} (h : AtKs K H vs fs) : AtKs K H' vs fs := h.map fun _ _ => AtK.same s
theorem AtKs.get {K : PySem.W.Frag} {H : Hp} : ∀ {vs : List V} {fs : List (Int × Int)} {i : Nat} {v : V}, AtKs K H vs fs → vs[i]? = some v → ∃ f, fs[i]? = some f ∧ AtK K H v f
  | _, _, _, _, .nil, e => by simp at e
  | _, _, 0, _, .cons a _, e => by
    simp at e
    subst e
    exact ⟨_, rfl, a⟩
  | _, _, i + 1, v, .cons _ r, e => by
    obtain ⟨f, h1, h2⟩ := AtKs.get (i := i) (v := v) r (by simpa using e)
    exact ⟨f, by simpa using h1, h2⟩
theorem AtKs.getF {K : PySem.W.Frag} {H : Hp} : ∀ {vs : List V} {fs : List (Int × Int)} {i : Nat} {f : Int × Int}, AtKs K H vs fs → fs[i]? = some f → ∃ v, vs[i]? = some v ∧ AtK K H v f
  | _, _, _, _, .nil, e => by simp at e
  | _, _, 0, _, .cons a _, e => by
    simp at e
    subst e
    exact ⟨_, rfl, a⟩
  | _, _, i + 1, f, .cons _ r, e => by
    obtain ⟨v, h1, h2⟩ := AtKs.getF (i := i) (f := f) r (by simpa using e)
    exact ⟨v, by simpa using h1, h2⟩
theorem AtKs.length {K : PySem.W.Frag} {H : Hp} {vs : List V} {fs : List (Int × Int)} (h : AtKs K H vs fs) : vs.length = fs.length := Paired.length h
theorem AtKs.app {K : PySem.W.Frag} {H : Hp} : ∀ {vs us : List V} {fs gs : List (Int × Int)}, AtKs K H vs fs → AtKs K H us gs → AtKs K H (vs ++ us) (fs ++ gs)
  | _, _, _, _, .nil, h => h
  | _, _, _, _, .cons a r, h => .cons a (AtKs.app r h)
theorem fold_take {α β : Type} (g : β → α → β) (a : β) {l : List α} {i : Nat} {x : α} (h : l[i]? = some x) : (l.take (i + 1)).foldl g a = g ((l.take i).foldl g a) x := by
  rw [List.take_add_one, h, List.foldl_append]
  rfl
theorem take_all {l : List (Int × Int)} (h : AllF l) (i : Nat) : AllF (l.take i) := fun f hf => h f (List.mem_of_mem_take hf)
def AllB (b : Nat) (l : List (Int × Int)) : Prop := ∀ f ∈ l, Bt b f
theorem add_bt {b : Nat} : ∀ (l : List (Int × Int)) (k : Nat) (a : Int × Int), IsF a → AllF l → Bt k a → AllB b l → Bt (k + (b + 1) * l.length) (l.foldl fadd a)
  | [], _, _, _, _, h, _ => h
  | f :: l, k, a, ha, h, hk, hb => by
    have := add_bt l (k + b + 1) (fadd a f) (fadd_f ha h.hd) h.tl (fadd_bt ha h.hd hk (hb f List.mem_cons_self)) (fun g hg => hb g (List.mem_cons_of_mem _ hg))
    refine this.mono ?_
    rw [List.length_cons, Nat.mul_succ]
    omega
theorem bt01 : Bt 1 f0 ∧ Bt 1 f1 := ⟨⟨by decide, by decide⟩, ⟨by decide, by decide⟩⟩
theorem fadd_0 {f : Int × Int} (h : IsF f) : fadd f0 f = f := by
  refine rv_inj (fadd_f f0_f h) h ?_
  rw [rv_add f0_f h, rv0]
  exact Rat.zero_add _
/-- what holds by two promises holds by either -/
theorem FnG.or {P : Program} {w : World} {K : PySem.W.Frag} {mg : Str → Option Value} {base : Heap} {CX : CXT} {k : Nat} {f : Addr} {fd : FuncData} {ps : List Str} {sp sq : Sp} (F : FnG P w K mg base CX k f fd ps sp) (G : FnG P w K mg base CX k f fd ps sq) :
    FnG P w K mg base CX k f fd ps (fun vs H Q E => sp vs H Q E ∨ sq vs H Q E) :=
  ⟨fun vs H Q E h => h.elim (F.size vs H Q E) (G.size vs H Q E), fun B out s H ar us vs Q E r hg e0 hb hv h => h.elim (F.goes B out s H ar us vs Q E r hg e0 hb hv) (G.goes B out s H ar us vs Q E r hg e0 hb hv)⟩
end Lf

set_option Elab.async false
set_option linter.all false
set_option maxRecDepth 100000
set_option maxHeartbeats 4000000
set_option exponentiation.threshold 3000
/-! repr of data with dicts at any depth: of what stands for d in a heap, and what repr tells of it. -/
namespace Lf
open PySem PySem.Spec PyProof.Rows L2
section
variable {P : Program} {w : World} {h : Heap}
/-- a row's texts can be told, none of them within one of the row's own objects -/
def RowSays (P : Program) (w : World) (h : Heap) (us : List Value) (ds : List PyData) : Prop :=
  PyData.showableAll ds = true → (∀ t ∈ PyData.shownAll ds, t.length ≤ sizeLine) → ∃ bs, ReadAtMost h (PyData.depthAll ds) bs ∧ ReprAllK P w bs h (PyData.depthAll ds) us (PyData.shownAll ds)
structure Row (P : Program) (w : World) (h : Heap) (us : List Value) (ds : List PyData) : Prop where
  rd : ∃ as, ReadsAll h us ds as
  say : RowSays P w h us ds
/-- u stands for d: it is read so, told so within another one, and, where it is an object, by its type's own repr -/
structure One (P : Program) (w : World) (h : Heap) (u : Value) (d : PyData) : Prop where
  rd : ∃ as, Reads h u d as
  say : d.showable = true → d.shown.length ≤ sizeLine → ∃ bs, ReadAtMost h d.depth bs ∧ ReprK P w bs h d.depth u d.shown
  top : d.showable = true → d.shown.length ≤ sizeLine → ∀ a, u = .ref a → ∃ T idr, ShowsBy P w h a d T idr
theorem One.plain {u : Value} {d : PyData} {as : List Addr} (r : Reads h u d as) (n : d.hasDict = false) : One P w h u d :=
  ⟨⟨as, r⟩, fun a b => ReprK.of_reads r a (PyData.noDict_hsm n) b, fun a b c e => showsBy_of_reads (e ▸ r) a (PyData.noDict_hsm n) b⟩
theorem Row.nil : Row P w h [] [] := ⟨⟨[], .nil⟩, fun _ _ => ⟨[], fun b hb => absurd hb List.not_mem_nil, by unfold PyData.shownAll; exact .nil⟩⟩
theorem Row.cons {u : Value} {us : List Value} {d : PyData} {ds : List PyData} (a : One P w h u d) (r : Row P w h us ds) : Row P w h (u :: us) (d :: ds) where
  rd := a.rd.elim fun _ ra => r.rd.elim fun _ rr => ⟨_, .cons ra rr⟩
  say := fun hs hz => by
    unfold PyData.showableAll at hs
    unfold PyData.shownAll at hz
    have both := Bool.and_eq_true_iff.mp hs
    obtain ⟨b1, m1, k1⟩ := a.say both.1 (hz d.shown (List.Mem.head _))
    obtain ⟨b2, m2, k2⟩ := r.say both.2 fun t ht => hz t (List.Mem.tail _ ht)
    have e : PyData.depthAll (d :: ds) = max d.depth (PyData.depthAll ds) := by rw [PyData.depthAll]
    refine ⟨b1 ++ b2, ?_, ?_⟩
    · rw [e]
      exact (m1.mono (Nat.le_max_left ..)).append (m2.mono (Nat.le_max_right ..))
    · rw [e]
      unfold PyData.shownAll
      refine .cons (ReprK.level_le (k1.more fun b hb => List.mem_append.mpr (.inl hb)) (Nat.le_max_left ..)) ?_
      exact ReprAllK.more_le (fun b hb => List.mem_append.mpr (.inr hb)) (Nat.le_max_right ..) k2
section
variable {a : Addr} {o : Obj} {n : Nat} {us : List Value} {ds : List PyData} {kvs : List (PyData × PyData)} {es : Array DictEntry}
/-- what a list's and a tuple's parts have to be -/
theorem parts_fit {f : List Str → Str} (hf : ∀ ts t, t ∈ ts → t.length ≤ (f ts).length) (hz : (f (PyData.shownAll ds)).length ≤ sizeLine) : ∀ t ∈ PyData.shownAll ds, t.length ≤ sizeLine := fun t ht => Nat.le_trans (hf _ _ ht) hz
theorem One.lst (ho : h.get? a = some o) (hc : o.cls = .type "list") (hd : o.data = .seq us.toArray n) (r : Row P w h us ds) : One P w h (.ref a) (.list ds) := by
  obtain ⟨as, ra⟩ := r.rd
  have ro : Reads h (.ref a) (.list ds) (a :: as) := .list ho hc hd ra
  have e1 : PyData.depth (.list ds) = PyData.depthAll ds + 1 := by unfold PyData.depth; rfl
  have e2 : PyData.shown (.list ds) = listText (PyData.shownAll ds) := by unfold PyData.shown; rfl
  have e3 : PyData.showable (.list ds) = PyData.showableAll ds := by unfold PyData.showable; rfl
  have in_ : PyData.showable (.list ds) = true → (PyData.shown (.list ds)).length ≤ sizeLine → ∃ bs, ReadAtMost h (PyData.depthAll ds) bs ∧ ReprAllK P w bs h (PyData.depthAll ds) us (PyData.shownAll ds) := fun hs hz => by
    rw [e3] at hs
    rw [e2] at hz
    exact r.say hs (parts_fit (fun _ _ => listText_mem_le) hz)
  have out : ∀ bs, ReadAtMost h (PyData.depthAll ds) bs → a ∉ bs := fun bs hb => not_mem_of_deeper ro (by rw [e1]; exact Nat.lt_succ_self _) hb
  cases us with
  | nil =>
    have e4 : ds = [] := by cases ra; rfl
    subst e4
    have e5 : PyData.hasDict (.list []) = false := by unfold PyData.hasDict PyData.hasDictAll; rfl
    exact One.plain ro e5
  | cons u us =>
    refine ⟨⟨_, ro⟩, fun hs hz => ?_, fun hs hz c ec => ?_⟩
    · obtain ⟨bs, hb, hk⟩ := in_ hs hz
      refine ⟨a :: bs, ReadAtMost.cons ro (by rw [e1]; exact Nat.le_succ _) hb, ?_⟩
      rw [e1, e2]
      exact ReprK.list ho hc hd (out bs hb) (by rw [List.size_toArray]; exact hk.length_eq) fun i y q => hk.item i y (by rw [List.getElem?_toArray] at q; exact q)
    · cases ec
      obtain ⟨bs, hb, hk⟩ := in_ hs hz
      rw [e2] at hz
      refine ⟨"list", "list.__repr__", ⟨F.slot_list_repr.toG, F.slot_list_str, F.slot_list_format, fun s k0 => ⟨o, k0 _ _ ho, hc⟩, fun A E s Q hg hu k0 q => ?_⟩⟩
      rw [e1] at hu
      rw [e2] at q
      exact call_list_reprK ho hc hd (out bs hb) (by rw [List.size_toArray]; exact hk.length_eq) (fun i y q => hk.item i y (by rw [List.getElem?_toArray] at q; exact q)) hg (fun b _ => Clear.nil b) hu k0 q hz
theorem One.tup (ho : h.get? a = some o) (hc : o.cls = .type "tuple") (hd : o.data = .seq us.toArray n) (r : Row P w h us ds) : One P w h (.ref a) (.tuple ds) := by
  obtain ⟨as, ra⟩ := r.rd
  have ro : Reads h (.ref a) (.tuple ds) as := .tuple ho hc hd ra
  have e1 : PyData.depth (.tuple ds) = PyData.depthAll ds + 1 := by unfold PyData.depth; rfl
  have e2 : PyData.shown (.tuple ds) = tupleText (PyData.shownAll ds) := by unfold PyData.shown; rfl
  have e3 : PyData.showable (.tuple ds) = PyData.showableAll ds := by unfold PyData.showable; rfl
  have in_ : PyData.showable (.tuple ds) = true → (PyData.shown (.tuple ds)).length ≤ sizeLine → ∃ bs, a ∉ bs ∧ ReadAtMost h (PyData.depthAll ds) bs ∧ ReprAllK P w bs h (PyData.depthAll ds) us (PyData.shownAll ds) := fun hs hz => by
    rw [e3] at hs
    rw [e2] at hz
    obtain ⟨bs, hb, hk⟩ := r.say hs (parts_fit (fun _ _ => tupleText_mem_le) hz)
    exact ⟨bs, not_mem_of_deeper ro (by rw [e1]; exact Nat.lt_succ_self _) hb, hb, hk⟩
  refine ⟨⟨_, ro⟩, fun hs hz => ?_, fun hs hz c ec => ?_⟩
  · obtain ⟨bs, na, hb, hk⟩ := in_ hs hz
    refine ⟨a :: bs, ReadAtMost.cons ro (by rw [e1]; exact Nat.le_succ _) hb, ?_⟩
    rw [e1, e2]
    exact ReprK.tuple ho hc hd na hk
  · cases ec
    obtain ⟨bs, na, hb, hk⟩ := in_ hs hz
    rw [e2] at hz
    refine ⟨"tuple", "tuple.__repr__", ⟨F.slot_tuple_repr, F.slot_tuple_str, F.slot_tuple_format, fun s k0 => ⟨o, k0 _ _ ho, hc⟩, fun A E s Q hg hu k0 q => ?_⟩⟩
    rw [e1] at hu
    rw [e2] at q
    exact call_tuple_reprK ho hc hd na hk hg (fun b _ => Clear.nil b) hu k0 q hz
theorem One.dic (ho : h.get? a = some o) (hc : o.cls = .type "dict") (hd : o.data = .dict es n) (sys : (a == sysModules) = false) (rk : Row P w h (es.toList.map (·.key)) (kvs.map (·.1))) (rv : Row P w h (es.toList.map (·.val)) (kvs.map (·.2))) : One P w h (.ref a) (.dict kvs) := by
  obtain ⟨as, ra⟩ := rk.rd
  obtain ⟨cs, rc⟩ := rv.rd
  have ro : Reads h (.ref a) (.dict kvs) (a :: as ++ cs) := .dict ho hc hd ra rc
  have e1 : PyData.depth (.dict kvs) = PyData.depthKv kvs + 1 := by unfold PyData.depth; rfl
  have e2 : PyData.shown (.dict kvs) = dictText (PyData.shownKv kvs) := by unfold PyData.shown; rfl
  have e3 : PyData.showable (.dict kvs) = PyData.showableKv kvs := by unfold PyData.showable; rfl
  have in_ : PyData.showable (.dict kvs) = true → (PyData.shown (.dict kvs)).length ≤ sizeLine → ∃ bs, a ∉ bs ∧ ReadAtMost h (PyData.depthKv kvs) bs ∧ ReprEntriesK P w bs h (PyData.depthKv kvs) es.toList (PyData.shownKv kvs) := fun hs hz => by
    rw [e3] at hs
    rw [e2] at hz
    have two := PyData.showableKv_split kvs hs
    have fits : ∀ t p : Str, p ∈ PyData.shownKv kvs → t.length ≤ p.length → t.length ≤ sizeLine := fun t p hp hl => Nat.le_trans hl (Nat.le_trans (dictText_mem_le hp) hz)
    obtain ⟨b1, m1, k1⟩ := rk.say two.1 fun t ht => by
      obtain ⟨p, hp, hl⟩ := PyData.shownKv_key_le kvs t ht
      exact fits t p hp hl
    obtain ⟨b2, m2, k2⟩ := rv.say two.2 fun t ht => by
      obtain ⟨p, hp, hl⟩ := PyData.shownKv_val_le kvs t ht
      exact fits t p hp hl
    have hb := (m1.mono (PyData.depthAll_keys_le kvs)).append (m2.mono (PyData.depthAll_vals_le kvs))
    refine ⟨b1 ++ b2, not_mem_of_deeper ro (by rw [e1]; exact Nat.lt_succ_self _) hb, hb, ?_⟩
    rw [PyData.shownKv_eq]
    refine ReprEntriesK.of_two _ _ _ (ReprAllK.more_le ?_ (PyData.depthAll_keys_le kvs) k1) (ReprAllK.more_le ?_ (PyData.depthAll_vals_le kvs) k2)
    · exact fun b hb => List.mem_append.mpr (.inl hb)
    · exact fun b hb => List.mem_append.mpr (.inr hb)
  refine ⟨⟨_, ro⟩, fun hs hz => ?_, fun hs hz c ec => ?_⟩
  · obtain ⟨bs, na, hb, hk⟩ := in_ hs hz
    refine ⟨a :: bs, ReadAtMost.cons ro (by rw [e1]; exact Nat.le_succ _) hb, ?_⟩
    rw [e1, e2]
    exact ReprK.dict ho hc hd sys na hk
  · cases ec
    obtain ⟨bs, na, hb, hk⟩ := in_ hs hz
    rw [e2] at hz
    refine ⟨"dict", "dict.__repr__", ⟨F.slot_dict_repr, F.slot_dict_str, F.slot_dict_format, fun s k0 => ⟨o, k0 _ _ ho, hc⟩, fun A E s Q hg hu k0 q => ?_⟩⟩
    rw [e1] at hu
    rw [e2] at q
    exact call_dict_reprK ho hc hd sys na hk hg (fun b _ => Clear.nil b) hu k0 q hz
end
end
/-! ### data of the abstract heap, dicts among them -/
mutual
inductive Dg (K : PySem.W.Frag) (H : Hp) : V → PyData → Prop
  | non : Dg K H .non .none
  | bl (b : Bool) : Dg K H (.bl b) (.bool b)
  | int (i : Int) : Dg K H (.int i) (.int i)
  | str (x : Str) : Dg K H (.str x) (.str x)
  | lst {a : Addr} {xs : List V} {ds : List PyData} : SqL K H a xs → DgAll K H xs ds → Dg K H (.ref a) (.list ds)
  | tup {a : Addr} {xs : List V} {ds : List PyData} : SqT K H a xs → DgAll K H xs ds → Dg K H (.ref a) (.tuple ds)
  | dk {a : Addr} {kvs : List (Key × V)} {ds : List (PyData × PyData)} : H a = some (.dK kvs) → DgKv K H kvs ds → Dg K H (.ref a) (.dict ds)
  | dt {a : Addr} {kvs : List (List Key × V)} {ds : List (PyData × PyData)} : H a = some (.dT kvs) → DgKt K H kvs ds → Dg K H (.ref a) (.dict ds)
inductive DgAll (K : PySem.W.Frag) (H : Hp) : List V → List PyData → Prop
  | nil : DgAll K H [] []
  | cons {v : V} {vs : List V} {d : PyData} {ds : List PyData} : Dg K H v d → DgAll K H vs ds → DgAll K H (v :: vs) (d :: ds)
inductive DgKv (K : PySem.W.Frag) (H : Hp) : List (Key × V) → List (PyData × PyData) → Prop
  | nil : DgKv K H [] []
  | cons {k : Key} {v : V} {vs : List (Key × V)} {d : PyData} {ds : List (PyData × PyData)} : Dg K H v d → DgKv K H vs ds → DgKv K H ((k, v) :: vs) ((kD k, d) :: ds)
inductive DgKt (K : PySem.W.Frag) (H : Hp) : List (List Key × V) → List (PyData × PyData) → Prop
  | nil : DgKt K H [] []
  | cons {k : List Key} {v : V} {vs : List (List Key × V)} {d : PyData} {ds : List (PyData × PyData)} : Dg K H v d → DgKt K H vs ds → DgKt K H ((k, v) :: vs) ((.tuple (k.map kD), d) :: ds)
end
mutual
theorem Dg.of {K : PySem.W.Frag} {H : Hp} : ∀ {d : PyData} {v : V}, Dp K H v d → Dg K H v d
  | _, _, .non => .non
  | _, _, .bl b => .bl b
  | _, _, .int i => .int i
  | _, _, .str x => .str x
  | _, _, .lst h r => .lst h (DgAll.of r)
  | _, _, .tup h r => .tup h (DgAll.of r)
theorem DgAll.of {K : PySem.W.Frag} {H : Hp} : ∀ {ds : List PyData} {vs : List V}, DpAll K H vs ds → DgAll K H vs ds
  | _, _, .nil => .nil
  | _, _, .cons a r => .cons (Dg.of a) (DgAll.of r)
end
theorem sqT_same {K : PySem.W.Frag} {H H' : Hp} (s : Same H H') {a : Addr} {xs : List V} (h : SqT K H a xs) : SqT K H' a xs := by
  rcases h with (h | ⟨o, h⟩) | h
  · exact .inl (.inl (s _ _ h))
  · exact .inl (.inr ⟨o, s _ _ h⟩)
  · exact .inr h
mutual
theorem Dg.same {K : PySem.W.Frag} {H H' : Hp} (s : Same H H') : ∀ {d : PyData} {v : V}, Dg K H v d → Dg K H' v d
  | _, _, .non => .non
  | _, _, .bl b => .bl b
  | _, _, .int i => .int i
  | _, _, .str x => .str x
  | _, _, .lst h r => .lst (s.seq h) (DgAll.same s r)
  | _, _, .tup h r => .tup (sqT_same s h) (DgAll.same s r)
  | _, _, .dk h r => .dk (s _ _ h) (DgKv.same s r)
  | _, _, .dt h r => .dt (s _ _ h) (DgKt.same s r)
theorem DgAll.same {K : PySem.W.Frag} {H H' : Hp} (s : Same H H') : ∀ {ds : List PyData} {vs : List V}, DgAll K H vs ds → DgAll K H' vs ds
  | _, _, .nil => .nil
  | _, _, .cons a r => .cons (Dg.same s a) (DgAll.same s r)
theorem DgKv.same {K : PySem.W.Frag} {H H' : Hp} (s : Same H H') : ∀ {ds : List (PyData × PyData)} {vs : List (Key × V)}, DgKv K H vs ds → DgKv K H' vs ds
  | _, _, .nil => .nil
  | _, _, .cons a r => .cons (Dg.same s a) (DgKv.same s r)
theorem DgKt.same {K : PySem.W.Frag} {H H' : Hp} (s : Same H H') : ∀ {ds : List (PyData × PyData)} {vs : List (List Key × V)}, DgKt K H vs ds → DgKt K H' vs ds
  | _, _, .nil => .nil
  | _, _, .cons a r => .cons (Dg.same s a) (DgKt.same s r)
end
section
variable {X : Cx} {pins : List (Addr × Obj)} {σ : L2.St} {H : Hp} {s : Shared}
theorem key_one {P : Program} {w : World} {h : Heap} {k : Key} {u : Value} (hk : keyIs k u = true) : One P w h u (kD k) := by
  rcases keyIs_shape hk with ⟨i, t, e1, e2⟩ | ⟨x, t, e1, e2⟩
  · rw [e1, e2]
    exact .plain (.int i t) (by unfold kD PyData.hasDict; rfl)
  · rw [e1, e2]
    exact .plain (.str x t) (by unfold kD PyData.hasDict; rfl)
theorem key_row {P : Program} {w : World} {h : Heap} : ∀ (ks : List Key) (us : List Value), Vals (ks.map kV) us → Row P w h us (ks.map kD)
  | [], _, r => by
    cases r
    exact .nil
  | .inl i :: ks, _, r => by
    cases r with
    | cons r1 r2 =>
      obtain ⟨t, rfl⟩ := r1
      exact .cons (.plain (.int i t) (by unfold kD PyData.hasDict; rfl)) (key_row ks _ r2)
  | .inr x :: ks, _, r => by
    cases r with
    | cons r1 r2 =>
      obtain ⟨t, rfl⟩ := r1
      exact .cons (.plain (.str x t) (by unfold kD PyData.hasDict; rfl)) (key_row ks _ r2)
mutual
theorem Dg.one (I : Inv X pins σ H s) : ∀ {d : PyData} {v : V} {u : Value}, Dg X.K H v d → RelV v u → One X.prog X.w s.heap u d
  | _, _, _, .non, r => by cases r; exact .plain .none (by unfold PyData.hasDict; rfl)
  | _, _, _, .bl b, r => by cases r; exact .plain (.bool b) (by unfold PyData.hasDict; rfl)
  | _, _, _, .int i, r => by obtain ⟨t, rfl⟩ := r; exact .plain (.int i t) (by unfold PyData.hasDict; rfl)
  | _, _, _, .str x, r => by obtain ⟨t, rfl⟩ := r; exact .plain (.str x t) (by unfold PyData.hasDict; rfl)
  | _, _, _, .lst h q, r => by
    cases r
    obtain ⟨its, rv, ⟨o, n, ho, hc, _, hd⟩, _⟩ := I.list h
    exact .lst ho hc hd (DgAll.row I q rv)
  | _, _, _, .tup h q, r => by
    cases r
    obtain ⟨its, rv, ⟨o, ho, hc, n, hd⟩, _⟩ := I.tuple h
    exact .tup ho hc hd (DgAll.row I q rv)
  | _, _, _, .dk (a := a) (kvs := kvs) h q, r => by
    cases r
    obtain ⟨_, sys, vs, kv, o, es, ep, h1, h2, h3, h4, h5, h6⟩ := (show ObjOk X.prog X.w H s.heap a (.dK kvs) from I.hok a _ h)
    obtain ⟨i1, i2⟩ := DgKv.rows I h5 kv q
    exact .dic h1 h2.1 h3 sys i1 i2
  | _, _, _, .dt (a := a) (kvs := kvs) h q, r => by
    cases r
    obtain ⟨_, sys, xs, hp, o, es, ep, h1, h2, h3, h4, h5⟩ := (show ObjOk X.prog X.w H s.heap a (.dT kvs) from I.hok a _ h)
    obtain ⟨i1, i2⟩ := DgKt.rows I q hp
    refine .dic h1 h2.1 h3 sys ?_ ?_
    · rw [h4, List.map_map]
      exact i1
    · rw [h4, List.map_map]
      exact i2
theorem DgAll.row (I : Inv X pins σ H s) : ∀ {ds : List PyData} {vs : List V} {us : List Value}, DgAll X.K H vs ds → Vals vs us → Row X.prog X.w s.heap us ds
  | _, _, _, .nil, r => by cases r; exact .nil
  | _, _, _, .cons a q, r => by
    cases r with
    | cons r1 r2 => exact .cons (Dg.one I a r1) (DgAll.row I q r2)
theorem DgKv.rows (I : Inv X pins σ H s) : ∀ {ds : List (PyData × PyData)} {kvs : List (Key × V)} {es : List DictEntry} {vs : List (Key × Value)}, Pairs (mixKind X.prog X.w) es vs → KV kvs vs → DgKv X.K H kvs ds →
    Row X.prog X.w s.heap (es.map (·.key)) (ds.map (·.1)) ∧ Row X.prog X.w s.heap (es.map (·.val)) (ds.map (·.2))
  | _, _, _, _, p, kv, .nil => by
    cases kv
    cases p
    exact ⟨.nil, .nil⟩
  | _, _, _, _, p, kv, .cons a q => by
    cases kv with
    | cons z kv =>
      cases p with
      | cons hk hv p =>
        obtain ⟨i1, i2⟩ := DgKv.rows I p kv q
        obtain ⟨z1, z2⟩ := z
        refine ⟨.cons ?_ i1, .cons ?_ i2⟩
        · simp only at z1
          rw [z1]
          exact key_one hk
        · show One _ _ _ (DictEntry.val _) _
          rw [hv]
          exact Dg.one I a z2
theorem DgKt.rows (I : Inv X pins σ H s) : ∀ {ds : List (PyData × PyData)} {kvs : List (List Key × V)} {xs : List (List Key × Addr × Value)}, DgKt X.K H kvs ds → Paired (fun (p : List Key × V) (q : List Key × Addr × Value) => p.1 = q.1 ∧ H q.2.1 = some (.tup (p.1.map kV)) ∧ RelV p.2 q.2.2) kvs xs →
    Row X.prog X.w s.heap (xs.map ((·.key) ∘ entryOfKey (tupleKind (mixKind X.prog X.w)))) (ds.map (·.1)) ∧ Row X.prog X.w s.heap (xs.map ((·.val) ∘ entryOfKey (tupleKind (mixKind X.prog X.w)))) (ds.map (·.2))
  | _, _, _, .nil, p => by
    cases p
    exact ⟨.nil, .nil⟩
  | _, _, _, .cons (k := k) a q, p => by
    cases p with
    | cons z p =>
      obtain ⟨i1, i2⟩ := DgKt.rows I q p
      obtain ⟨z1, z2, z3⟩ := z
      refine ⟨.cons ?_ i1, .cons (Dg.one I a z3) i2⟩
      have hk : ∀ {c : Addr}, H c = some (.tup (k.map kV)) → One X.prog X.w s.heap (.ref c) (.tuple (k.map kD)) := fun {c} e => by
        obtain ⟨its, rv, ⟨o, ho, hc, n, hd⟩, _⟩ := I.tuple (.inl (.inl e))
        exact .tup ho hc hd (key_row k its rv)
      exact hk z2
end
def rShowG (K : PySem.W.Frag) : List V → Hp → VK → Prop := fun xs H Q => ∃ (v : V) (d : PyData), xs = [v] ∧ Dg K H v d ∧
  d.showable = true ∧ d.depth ≤ 30 ∧ d.shown.length ≤ sizeLine ∧ Q (.str d.shown) H
/-- repr of data, dicts let -/
theorem call_showG (hG : X.A.guards = some []) {k : Nat} (hr : Room k X.A) : CallR X (.builtin "repr") (rShowG X.K) := by
  intro pins s σ H xs us Q I r h
  obtain ⟨v, d, rfl, hd, hs, h30, hz, q⟩ := h
  obtain ⟨u, rfl, r1⟩ := vals1 r
  have on := hd.one I r1
  have hu := hr.units
  have obj : ∀ a, u = .ref a → wpAny (model X.prog X.w) X.A (call (.builtin "repr") [u]) (EP X pins σ Q) X.xe s := fun a e => by
    subst e
    obtain ⟨T, idr, S⟩ := on.top hs hz a rfl
    refine call_repr_slot (by omega) (S.typeIs s fun _ _ z => z) S.slotRepr (S.call X.A.in1 _ s _ hG ?_ (fun _ _ z => z) fun h' u tk hk => ⟨_, _, rfl, ⟨.str _, H, I.kept hk, ⟨u, rfl⟩, q⟩⟩)
    show X.A.units + 1 + _ < cLine
    omega
  cases hd with
  | non =>
    cases r1
    unfold PyData.shown at q
    exact PySem.P.repr_of_none ⟨.str _, H, I.tok _, ⟨_, rfl⟩, q⟩
  | bl b =>
    cases r1
    unfold PyData.shown at q
    exact PySem.P.repr_of_bool ⟨.str _, H, I.tok _, ⟨_, rfl⟩, q⟩
  | int i =>
    obtain ⟨t, rfl⟩ := r1
    unfold PyData.shown at q
    unfold PyData.showable at hs
    exact PySem.P.repr_of_int (of_decide_eq_true hs) ⟨.str _, H, I.tok _, ⟨_, rfl⟩, q⟩
  | str x =>
    obtain ⟨t, rfl⟩ := r1
    unfold PyData.shown at q hz
    exact PySem.P.repr_of_str ⟨.str _, H, I.tok _, ⟨_, rfl⟩, q⟩ hz
  | lst _ _ => exact obj _ r1
  | tup _ _ => exact obj _ r1
  | dk _ _ => exact obj _ r1
  | dt _ _ => exact obj _ r1
/-- the same, the module's part given -/
theorem call_showK {K : PySem.W.Frag} (hG : X.A.guards = some []) {k : Nat} (hr : Room k X.A) (hK : X.K = K := by rfl) : CallR X (.builtin "repr") (rShowG K) := by
  subst hK
  exact call_showG hG hr
end
/-- what repr asks of a thing, dicts let -/
structure ShowG (d : PyData) : Prop where
  sh : d.showable = true
  dp : d.depth ≤ 30
  ln : d.shown.length ≤ sizeLine
theorem Ft.g {w k : Nat} {d : PyData} (h : Ft w k d) (hk : k ≤ 30 := by decide) (hw : w ≤ 16000 := by decide) : ShowG d := by
  have := h.showy hk hw
  exact ⟨this.sh, this.dp, this.ln⟩
/-- data that fits, dicts let -/
structure Fg (w k : Nat) (d : PyData) : Prop where
  sh : d.showable = true
  dp : d.depth ≤ k
  lv : d.leavesShort 1000 = true
  wt : d.weight ≤ w
structure FgA (w k : Nat) (ds : List PyData) : Prop where
  sh : PyData.showableAll ds = true
  dp : PyData.depthAll ds ≤ k
  lv : PyData.leavesShortAll 1000 ds = true
  wt : PyData.weightAll ds ≤ w
structure FgK (w k : Nat) (ds : List (PyData × PyData)) : Prop where
  sh : PyData.showableKv ds = true
  dp : PyData.depthKv ds ≤ k
  lv : PyData.leavesShortKv 1000 ds = true
  wt : PyData.weightKv ds ≤ w
theorem Ft.fg {w k : Nat} {d : PyData} (h : Ft w k d) : Fg w k d := ⟨h.sh, h.dp, h.lv, h.wt⟩
theorem FtA.fg {w k : Nat} {ds : List PyData} (h : FtA w k ds) : FgA w k ds := ⟨h.sh, h.dp, h.lv, h.wt⟩
theorem Fg.le {w k w' k' : Nat} {d : PyData} (h : Fg w k d) (hw : w ≤ w') (hk : k ≤ k') : Fg w' k' d := ⟨h.sh, Nat.le_trans h.dp hk, h.lv, Nat.le_trans h.wt hw⟩
theorem FgA.le {w k w' k' : Nat} {ds : List PyData} (h : FgA w k ds) (hw : w ≤ w') (hk : k ≤ k') : FgA w' k' ds := ⟨h.sh, Nat.le_trans h.dp hk, h.lv, Nat.le_trans h.wt hw⟩
theorem FgA.nil : FgA 0 0 [] := FtA.nil.fg
theorem FgA.cons {w k w' k' : Nat} {d : PyData} {ds : List PyData} (h : Fg w k d) (r : FgA w' k' ds) : FgA (w + 1 + w') (max k k') (d :: ds) := by
  refine ⟨?_, ?_, ?_, ?_⟩
  · simp only [PyData.showableAll, h.sh, r.sh, Bool.and_self]
  · simp only [PyData.depthAll]
    have := h.dp
    have := r.dp
    omega
  · simp only [PyData.leavesShortAll, h.lv, r.lv, Bool.and_self]
  · simp only [PyData.weightAll]
    have := h.wt
    have := r.wt
    omega
theorem FgA.all {w k : Nat} : ∀ {ds : List PyData}, (∀ d ∈ ds, Fg w k d) → FgA ((w + 1) * ds.length) k ds
  | [], _ => FgA.nil.le (Nat.zero_le _) (Nat.zero_le _)
  | d :: ds, h => by
    have r := FgA.cons (h d List.mem_cons_self) (FgA.all fun x hx => h x (List.mem_cons_of_mem _ hx))
    refine r.le ?_ (by omega)
    rw [List.length_cons, Nat.mul_succ]
    omega
theorem Fg.list {w k : Nat} {ds : List PyData} (r : FgA w k ds) : Fg w (k + 1) (.list ds) :=
  ⟨by simp only [PyData.showable]; exact r.sh, by simp only [PyData.depth]; exact Nat.succ_le_succ r.dp, by simp only [PyData.leavesShort]; exact r.lv, by simp only [PyData.weight]; exact r.wt⟩
theorem Fg.tuple {w k : Nat} {ds : List PyData} (r : FgA w k ds) : Fg w (k + 1) (.tuple ds) :=
  ⟨by simp only [PyData.showable]; exact r.sh, by simp only [PyData.depth]; exact Nat.succ_le_succ r.dp, by simp only [PyData.leavesShort]; exact r.lv, by simp only [PyData.weight]; exact r.wt⟩
theorem FgK.nil : FgK 0 0 [] := ⟨by simp only [PyData.showableKv], by simp only [PyData.depthKv, Nat.le_refl], by simp only [PyData.leavesShortKv], by simp only [PyData.weightKv, Nat.le_refl]⟩
theorem FgK.cons {w k w1 k1 w' k' : Nat} {d e : PyData} {ds : List (PyData × PyData)} (h : Fg w k d) (h1 : Fg w1 k1 e) (r : FgK w' k' ds) : FgK (w + w1 + 2 + w') (max (max k k1) k') ((d, e) :: ds) := by
  refine ⟨?_, ?_, ?_, ?_⟩
  · simp only [PyData.showableKv, h.sh, h1.sh, r.sh, Bool.and_self]
  · simp only [PyData.depthKv]
    have := h.dp
    have := h1.dp
    have := r.dp
    omega
  · simp only [PyData.leavesShortKv, h.lv, h1.lv, r.lv, Bool.and_self]
  · simp only [PyData.weightKv]
    have := h.wt
    have := h1.wt
    have := r.wt
    omega
theorem Fg.dict {w k : Nat} {ds : List (PyData × PyData)} (r : FgK w k ds) : Fg w (k + 1) (.dict ds) :=
  ⟨by simp only [PyData.showable]; exact r.sh, by simp only [PyData.depth]; exact Nat.succ_le_succ r.dp, by simp only [PyData.leavesShort]; exact r.lv, by simp only [PyData.weight]; exact r.wt⟩
theorem Fg.g {w k : Nat} {d : PyData} (h : Fg w k d) (hk : k ≤ 30 := by decide) (hw : w ≤ 16000 := by decide) : ShowG d := by
  refine ⟨h.sh, Nat.le_trans h.dp hk, ?_⟩
  have e := PyData.shown_le 1000 (by decide) d h.lv
  have e2 := h.wt
  have e3 : (1000 + 2) * d.weight ≤ 1002 * 16000 := Nat.mul_le_mul (Nat.le_refl _) (Nat.le_trans e2 hw)
  have e4 := sizeLine_eq
  omega
end Lf

set_option Elab.async false
set_option linter.all false
set_option maxRecDepth 100000
set_option maxHeartbeats 4000000
set_option exponentiation.threshold 3000
/-! Weights, steps, how often a step goes into weights, aims. -/
namespace Lf
theorem low_b {n d : Int} (hd : 0 < d) : 0 < (low n d).2 := (low_is (n := n) (by omega)).1
theorem low_top_pos {n d : Int} (hd : 0 < d) (hn : 0 < n) : 0 < (low n d).1 := by
  have h := low_cross (n := n) (d := d) (by omega)
  have hb := low_b (n := n) hd
  have : 0 < (low n d).1 * d := by rw [h]; exact Int.mul_pos hn hb
  exact Int.pos_of_mul_pos_left this hd
theorem low_top_nn {n d : Int} (hd : 0 < d) (hn : 0 ≤ n) : 0 ≤ (low n d).1 := by
  have h := low_cross (n := n) (d := d) (by omega)
  have hb := low_b (n := n) hd
  have h2 : 0 ≤ (low n d).1 * d := by rw [h]; exact Int.mul_nonneg hn (Int.le_of_lt hb)
  exact Int.nonneg_of_mul_nonneg_left h2 hd
theorem fdiv_pos_eq {a b : Int} (h : 0 < b) : a.fdiv b = a / b := Int.fdiv_eq_ediv_of_nonneg a (Int.le_of_lt h)
theorem low_fl {n d : Int} (hd : 0 < d) : (low n d).1.fdiv (low n d).2 = n.fdiv d := by
  have h := low_cross (n := n) (d := d) (by omega)
  have hb := low_b (n := n) hd
  rw [fdiv_pos_eq hb, fdiv_pos_eq hd]
  have e1 : d * (low n d).1 / (d * (low n d).2) = (low n d).1 / (low n d).2 := Int.mul_ediv_mul_of_pos _ _ hd
  have e2 : (low n d).2 * n / ((low n d).2 * d) = n / d := Int.mul_ediv_mul_of_pos _ _ hb
  rw [← e1, ← e2, Int.mul_comm d (low n d).1, h, Int.mul_comm n, Int.mul_comm d]
/-- at most c -/
def Vb (c : Int) (f : Int × Int) : Prop := f.1 ≤ c * f.2
theorem vb_low {n d c : Int} (hd : 0 < d) (h : n ≤ c * d) : Vb c (low n d) := by
  have hc := low_cross (n := n) (d := d) (by omega)
  have hb := low_b (n := n) hd
  unfold Vb
  have h1 : (low n d).1 * d ≤ (c * (low n d).2) * d := by
    rw [hc]
    have := Int.mul_le_mul_of_nonneg_right h (Int.le_of_lt hb)
    have e : c * d * (low n d).2 = c * (low n d).2 * d := by grind
    omega
  exact Int.le_of_mul_le_mul_right h1 hd
theorem vb_add {f g : Int × Int} {c e : Int} (hf : IsF f) (hg : IsF g) (h : Vb c f) (k : Vb e g) : Vb (c + e) (fadd f g) := by
  have h2 : 0 < f.2 := hf.1
  have k2 : 0 < g.2 := hg.1
  refine vb_low (Int.mul_pos h2 k2) ?_
  have a := Int.mul_le_mul_of_nonneg_right h (Int.le_of_lt k2)
  have b := Int.mul_le_mul_of_nonneg_right k (Int.le_of_lt h2)
  have e1 : c * f.2 * g.2 + e * g.2 * f.2 = (c + e) * (f.2 * g.2) := by grind
  omega
theorem vb_fold {C : Int} : ∀ (l : List (Int × Int)) (c : Int) (a : Int × Int), IsF a → AllF l → Vb c a → (∀ f ∈ l, Vb C f) → Vb (c + C * l.length) (l.foldl fadd a)
  | [], c, a, _, _, h, _ => by simpa using h
  | f :: l, c, a, ha, h, hk, hb => by
    have := vb_fold l (c + C) (fadd a f) (fadd_f ha h.hd) h.tl (vb_add ha h.hd hk (hb f List.mem_cons_self)) (fun g hg => hb g (List.mem_cons_of_mem _ hg))
    rw [List.length_cons]
    have e : c + C + C * (l.length : Int) = c + C * ((l.length + 1 : Nat) : Int) := by
      rw [Int.natCast_add, Int.mul_add]
      omega
    rw [← e]
    exact this
/-- a weight -/
structure Wt (f : Int × Int) : Prop where
  lo : IsF f
  po : 0 < f.1
  bt : Bt 41 f
theorem Wt.vb {f : Int × Int} (h : Wt f) : Vb (2 ^ 41) f := by
  unfold Vb
  have h1 := h.bt.1
  have h2 : 0 < f.2 := h.lo.1
  have h3 : f.1 < 2 ^ 41 := by
    have := h.po
    omega
  have : (2 : Int) ^ 41 * 1 ≤ 2 ^ 41 * f.2 := Int.mul_le_mul_of_nonneg_left (by omega) (by decide)
  omega
/-- weights -/
structure Wts (fs : List (Int × Int)) : Prop where
  all : ∀ f ∈ fs, Wt f
  one : 1 ≤ fs.length
  few : fs.length ≤ 12
theorem Wts.f {fs : List (Int × Int)} (h : Wts fs) : AllF fs := fun f hf => (h.all f hf).lo
theorem Wts.b {fs : List (Int × Int)} (h : Wts fs) : AllB 41 fs := fun f hf => (h.all f hf).bt
def tot (fs : List (Int × Int)) : Int × Int := fs.foldl fadd f0
theorem tot_f {fs : List (Int × Int)} (h : AllF fs) : IsF (tot fs) := (sum_fold fs f0 f0_f h).1
theorem tot_bt {fs : List (Int × Int)} (h : Wts fs) : Bt 505 (tot fs) := by
  have := add_bt (b := 41) fs 1 f0 f0_f h.f bt01.1 h.b
  refine this.mono ?_
  have := h.few
  omega
theorem fold_pos : ∀ (l : List (Int × Int)) (a : Int × Int), IsF a → AllF l → (∀ f ∈ l, 0 < f.1) → 0 ≤ a.1 → (l ≠ [] ∨ 0 < a.1) → 0 < (l.foldl fadd a).1
  | [], a, _, _, _, _, h => h.elim (fun z => absurd rfl z) id
  | f :: l, a, ha, hF, hp, h0, _ => by
    have h2 : 0 < a.2 := ha.1
    have k2 : 0 < f.2 := hF.hd.1
    have hpos : 0 < (fadd a f).1 := by
      refine low_top_pos (Int.mul_pos h2 k2) ?_
      have a1 := Int.mul_nonneg h0 (Int.le_of_lt k2)
      have a2 := Int.mul_pos (hp f List.mem_cons_self) h2
      omega
    exact fold_pos l (fadd a f) (fadd_f ha hF.hd) hF.tl (fun g hg => hp g (List.mem_cons_of_mem _ hg)) (Int.le_of_lt hpos) (.inr hpos)
theorem tot_pos {fs : List (Int × Int)} (h : Wts fs) : 0 < (tot fs).1 := by
  refine fold_pos fs f0 f0_f h.f (fun f hf => (h.all f hf).po) (by decide) (.inl fun z => ?_)
  have := h.one
  rw [z] at this
  cases this
theorem tot_vb {fs : List (Int × Int)} (h : Wts fs) : Vb (2 ^ 45) (tot fs) := by
  have v := vb_fold (C := 2 ^ 41) fs 0 f0 f0_f h.f (by unfold Vb; decide) (fun f hf => (h.all f hf).vb)
  unfold Vb at v ⊢
  have hb : 0 < (tot fs).2 := (tot_f h.f).1
  have h12 : (0 : Int) + 2 ^ 41 * (fs.length : Int) ≤ 2 ^ 45 := by
    have := h.few
    omega
  have := Int.mul_le_mul_of_nonneg_right h12 (Int.le_of_lt hb)
  show (tot fs).1 ≤ _
  have v' : (tot fs).1 ≤ (0 + 2 ^ 41 * (fs.length : Int)) * (tot fs).2 := v
  omega
/-- how often the step goes into the weights -/
def many (fs : List (Int × Int)) (st : Int × Int) : Int := ((tot fs).1 * st.2).fdiv ((tot fs).2 * st.1)
theorem many_nn {fs : List (Int × Int)} {st : Int × Int} (h : Wts fs) (hs : Wt st) : 0 ≤ many fs st := by
  have hb : 0 < (tot fs).2 := (tot_f h.f).1
  have hd := Int.mul_pos hb hs.po
  unfold many
  rw [fdiv_pos_eq hd]
  exact Int.ediv_nonneg (Int.mul_nonneg (Int.le_of_lt (tot_pos h)) (Int.le_of_lt hs.lo.1)) (Int.le_of_lt hd)
theorem many_lt {fs : List (Int × Int)} {st : Int × Int} (h : Wts fs) (hs : Wt st) : (many fs st).natAbs < 2 ^ 90 := by
  have hb : 0 < (tot fs).2 := (tot_f h.f).1
  have hd := Int.mul_pos hb hs.po
  have h0 := many_nn h hs
  have hv : (tot fs).1 ≤ 2 ^ 45 * (tot fs).2 := tot_vb h
  have s2 : 0 < st.2 := hs.lo.1
  have s1 := hs.po
  have key : many fs st ≤ 2 ^ 45 * st.2 := by
    unfold many
    rw [fdiv_pos_eq hd]
    refine Int.ediv_le_of_le_mul hd ?_
    have a := Int.mul_le_mul_of_nonneg_right hv (Int.le_of_lt s2)
    have b : 2 ^ 45 * (tot fs).2 * st.2 * 1 ≤ 2 ^ 45 * (tot fs).2 * st.2 * st.1 := Int.mul_le_mul_of_nonneg_left (by omega) (Int.mul_nonneg (Int.mul_nonneg (by decide) (Int.le_of_lt hb)) (Int.le_of_lt s2))
    have e : 2 ^ 45 * (tot fs).2 * st.2 * st.1 = 2 ^ 45 * st.2 * ((tot fs).2 * st.1) := by grind
    omega
  have hb2 := hs.bt.2
  omega
theorem many_is {fs : List (Int × Int)} {st : Int × Int} (h : Wts fs) (hs : Wt st) : (fdiv (tot fs) st).1.fdiv (fdiv (tot fs) st).2 = many fs st := low_fl (Int.mul_pos (tot_f h.f).1 hs.po)
/-- all weights by how many steps -/
def factor (fs : List (Int × Int)) (st : Int × Int) : Int × Int := fdiv (many fs st, 1) (tot fs)
theorem m1_f (m : Int) : IsF (m, 1) := ⟨by show (0 : Int) < 1; decide, by show Nat.Coprime m.natAbs 1; exact Nat.coprime_one_right _⟩
theorem factor_f {fs : List (Int × Int)} {st : Int × Int} (h : Wts fs) : IsF (factor fs st) := fdiv_f (m1_f _) (by have := tot_pos h; omega)
theorem many_bt {fs : List (Int × Int)} {st : Int × Int} (h : Wts fs) (hs : Wt st) : Bt 90 (many fs st, 1) := ⟨many_lt h hs, by show (1 : Int).natAbs < 2 ^ 90; decide⟩
theorem factor_bt {fs : List (Int × Int)} {st : Int × Int} (h : Wts fs) (hs : Wt st) : Bt 595 (factor fs st) := fdiv_bt (m1_f _) (by have := tot_pos h; omega) (many_bt h hs) (tot_bt h)
def aim (fs : List (Int × Int)) (st f : Int × Int) : Int × Int := fmul f (factor fs st)
theorem aim_f {fs : List (Int × Int)} {st f : Int × Int} (h : Wts fs) (hf : Wt f) : IsF (aim fs st f) := fmul_f hf.lo (factor_f h)
theorem aim_bt {fs : List (Int × Int)} {st f : Int × Int} (h : Wts fs) (hs : Wt st) (hf : Wt f) : Bt 636 (aim fs st f) := fmul_bt hf.lo (factor_f h) hf.bt (factor_bt h hs)
/-- the aim as the law reckons it -/
theorem aim_low {fs : List (Int × Int)} {st f : Int × Int} (h : Wts fs) (hf : Wt f) : aim fs st f = low (f.1 * (tot fs).2 * many fs st) (f.2 * (tot fs).1) := by
  have t1 : (tot fs).1 ≠ 0 := by have := tot_pos h; omega
  have hd : f.2 * (tot fs).1 ≠ 0 := Int.mul_ne_zero hf.lo.ne t1
  refine rv_inj (aim_f h hf) (low_f hd) ?_
  have e : rv (aim fs st f) = rv f * rv (factor fs st) := rv_mul hf.lo (factor_f (st := st) h)
  have e2 : rv (factor fs st) = rv (many fs st, 1) * (rv (tot fs))⁻¹ := rv_div (m1_f _) t1
  rw [e, e2, rv_low hd]
  unfold rv
  rw [Rat.inv_divInt, Rat.divInt_mul_divInt, Rat.divInt_mul_divInt]
  congr 1 <;> grind
end Lf

set_option Elab.async false
set_option linter.all false
/-! The order of fractions as that of rationals. -/
namespace Lf
theorem rv_le {f g : Int × Int} (hf : IsF f) (hg : IsF g) : rv f ≤ rv g ↔ f.1 * g.2 ≤ g.1 * f.2 := by
  have h1 : 0 < f.2 := hf.1
  have h2 : 0 < g.2 := hg.1
  rw [Rat.le_iff_sub_nonneg, ← rv_sub hg hf]
  unfold fsub
  rw [rv_low (Int.mul_ne_zero hg.ne hf.ne), Rat.divInt_nonneg_iff_of_pos_right (Int.mul_pos h2 h1)]
  omega
theorem rv_lt {f g : Int × Int} (hf : IsF f) (hg : IsF g) : rv f < rv g ↔ f.1 * g.2 < g.1 * f.2 := by
  rw [← Rat.not_le, rv_le hg hf]
  omega
theorem rv_nn {f : Int × Int} (hf : IsF f) : 0 ≤ rv f ↔ 0 ≤ f.1 := by
  have h1 : 0 < f.2 := hf.1
  unfold rv
  rw [Rat.divInt_nonneg_iff_of_pos_right h1]
theorem rv_le1 {f : Int × Int} (hf : IsF f) : rv f ≤ 1 ↔ f.1 ≤ f.2 := by
  rw [← rv1, rv_le hf f1_f]
  show f.1 * 1 ≤ 1 * f.2 ↔ _
  omega
/-- half of it -/
def half (f : Int × Int) : Int × Int := low f.1 (2 * f.2)
theorem half_f {f : Int × Int} (hf : IsF f) : IsF (half f) := low_f (by have := hf.ne; omega)
theorem half_cross {f : Int × Int} (hf : IsF f) : (half f).1 * (2 * f.2) = f.1 * (half f).2 := low_cross (by have := hf.ne; omega)
theorem half_nn {f : Int × Int} (hf : IsF f) (h : 0 ≤ f.1) : 0 ≤ (half f).1 := low_top_nn (by have := hf.1; omega) h
theorem half_le {f : Int × Int} (hf : IsF f) (h : 0 ≤ f.1) : rv (half f) ≤ rv f := by
  rw [rv_le (half_f hf) hf, ← half_cross hf]
  have h1 : 0 ≤ (half f).1 * f.2 := Int.mul_nonneg (half_nn hf h) (Int.le_of_lt hf.1)
  have e : (half f).1 * (2 * f.2) = 2 * ((half f).1 * f.2) := by rw [Int.mul_left_comm]
  omega
theorem half_ne {f : Int × Int} (hf : IsF f) (h : f.1 ≠ 0) : half f ≠ f := by
  intro e
  have c := half_cross hf
  rw [e] at c
  have e2 : f.1 * (2 * f.2) = 2 * (f.1 * f.2) := by rw [Int.mul_left_comm]
  have : f.1 * f.2 ≠ 0 := Int.mul_ne_zero h hf.ne
  omega
end Lf

set_option Elab.async false
set_option linter.all false
set_option maxRecDepth 100000
set_option maxHeartbeats 4000000
set_option exponentiation.threshold 3000
/-! Data by its bulk; fractions of one bottom. -/
namespace Lf
open PySem PySem.Spec PyProof.Rows L2
structure Fb (w k : Nat) (d : PyData) : Prop where
  sh : d.showable = true
  dp : d.depth ≤ k
  lv : d.leavesShort 1000 = true
  bk : d.bulk ≤ w
structure FbA (w k : Nat) (ds : List PyData) : Prop where
  sh : PyData.showableAll ds = true
  dp : PyData.depthAll ds ≤ k
  lv : PyData.leavesShortAll 1000 ds = true
  bk : PyData.bulkAll ds ≤ w
structure FbK (w k : Nat) (ds : List (PyData × PyData)) : Prop where
  sh : PyData.showableKv ds = true
  dp : PyData.depthKv ds ≤ k
  lv : PyData.leavesShortKv 1000 ds = true
  bk : PyData.bulkKv ds ≤ w
theorem Fb.le {w k w' k' : Nat} {d : PyData} (h : Fb w k d) (hw : w ≤ w') (hk : k ≤ k') : Fb w' k' d := ⟨h.sh, Nat.le_trans h.dp hk, h.lv, Nat.le_trans h.bk hw⟩
theorem FbA.le {w k w' k' : Nat} {ds : List PyData} (h : FbA w k ds) (hw : w ≤ w') (hk : k ≤ k') : FbA w' k' ds := ⟨h.sh, Nat.le_trans h.dp hk, h.lv, Nat.le_trans h.bk hw⟩
theorem FbK.le {w k w' k' : Nat} {ds : List (PyData × PyData)} (h : FbK w k ds) (hw : w ≤ w') (hk : k ≤ k') : FbK w' k' ds := ⟨h.sh, Nat.le_trans h.dp hk, h.lv, Nat.le_trans h.bk hw⟩
theorem Fb.int {n : Int} (h : Sm n) : Fb 0 0 (.int n) := ⟨(Ft.int h).sh, (Ft.int h).dp, (Ft.int h).lv, by simp only [PyData.bulk, Nat.le_refl]⟩
theorem Fb.bool (b : Bool) : Fb 0 0 (.bool b) := ⟨(Ft.bool b).sh, (Ft.bool b).dp, (Ft.bool b).lv, by simp only [PyData.bulk, Nat.le_refl]⟩
theorem Fb.none : Fb 0 0 .none := ⟨Ft.none.sh, Ft.none.dp, Ft.none.lv, by simp only [PyData.bulk, Nat.le_refl]⟩
theorem Fb.str {w : Nat} {x : Str} (h : Sg x) (hw : x.length ≤ w) : Fb w 0 (.str x) := ⟨(Ft.str h hw).sh, (Ft.str h hw).dp, (Ft.str h hw).lv, by simp only [PyData.bulk]; exact hw⟩
theorem FbA.nil : FbA 0 0 [] := ⟨by simp only [PyData.showableAll], by simp only [PyData.depthAll, Nat.le_refl], by simp only [PyData.leavesShortAll], by simp only [PyData.bulkAll, Nat.le_refl]⟩
theorem FbA.cons {w k w' k' : Nat} {d : PyData} {ds : List PyData} (h : Fb w k d) (r : FbA w' k' ds) : FbA (w + 1 + w') (max k k') (d :: ds) := by
  refine ⟨?_, ?_, ?_, ?_⟩
  · simp only [PyData.showableAll, h.sh, r.sh, Bool.and_self]
  · simp only [PyData.depthAll]
    have := h.dp
    have := r.dp
    omega
  · simp only [PyData.leavesShortAll, h.lv, r.lv, Bool.and_self]
  · simp only [PyData.bulkAll]
    have := h.bk
    have := r.bk
    omega
theorem FbA.all {w k : Nat} : ∀ {ds : List PyData}, (∀ d ∈ ds, Fb w k d) → FbA ((w + 1) * ds.length) k ds
  | [], _ => FbA.nil.le (Nat.zero_le _) (Nat.zero_le _)
  | d :: ds, h => by
    have r := FbA.cons (h d List.mem_cons_self) (FbA.all fun x hx => h x (List.mem_cons_of_mem _ hx))
    refine r.le ?_ (by omega)
    rw [List.length_cons, Nat.mul_succ]
    omega
theorem Fb.list {w k : Nat} {ds : List PyData} (r : FbA w k ds) : Fb w (k + 1) (.list ds) :=
  ⟨by simp only [PyData.showable]; exact r.sh, by simp only [PyData.depth]; exact Nat.succ_le_succ r.dp, by simp only [PyData.leavesShort]; exact r.lv, by simp only [PyData.bulk]; exact r.bk⟩
theorem Fb.tuple {w k : Nat} {ds : List PyData} (r : FbA w k ds) : Fb w (k + 1) (.tuple ds) :=
  ⟨by simp only [PyData.showable]; exact r.sh, by simp only [PyData.depth]; exact Nat.succ_le_succ r.dp, by simp only [PyData.leavesShort]; exact r.lv, by simp only [PyData.bulk]; exact r.bk⟩
theorem FbK.nil : FbK 0 0 [] := ⟨by simp only [PyData.showableKv], by simp only [PyData.depthKv, Nat.le_refl], by simp only [PyData.leavesShortKv], by simp only [PyData.bulkKv, Nat.le_refl]⟩
theorem FbK.cons {w k w1 k1 w' k' : Nat} {d e : PyData} {ds : List (PyData × PyData)} (h : Fb w k d) (h1 : Fb w1 k1 e) (r : FbK w' k' ds) : FbK (w + w1 + 2 + w') (max (max k k1) k') ((d, e) :: ds) := by
  refine ⟨?_, ?_, ?_, ?_⟩
  · simp only [PyData.showableKv, h.sh, h1.sh, r.sh, Bool.and_self]
  · simp only [PyData.depthKv]
    have := h.dp
    have := h1.dp
    have := r.dp
    omega
  · simp only [PyData.leavesShortKv, h.lv, h1.lv, r.lv, Bool.and_self]
  · simp only [PyData.bulkKv]
    have := h.bk
    have := h1.bk
    have := r.bk
    omega
theorem Fb.dict {w k : Nat} {ds : List (PyData × PyData)} (r : FbK w k ds) : Fb w (k + 1) (.dict ds) :=
  ⟨by simp only [PyData.showable]; exact r.sh, by simp only [PyData.depth]; exact Nat.succ_le_succ r.dp, by simp only [PyData.leavesShort]; exact r.lv, by simp only [PyData.bulk]; exact r.bk⟩
theorem Fb.len {w k : Nat} {d : PyData} (h : Fb w k d) : d.shown.length ≤ 1002 * w + 1000 := by
  have e := PyData.shown_le_bulk 1000 (by decide) d h.lv
  have e2 : (1000 + 2) * d.bulk ≤ 1002 * w := Nat.mul_le_mul (Nat.le_refl _) h.bk
  omega
theorem Fb.g {w k : Nat} {d : PyData} (h : Fb w k d) (hk : k ≤ 30 := by decide) (hw : w ≤ 16000 := by decide) : ShowG d := by
  refine ⟨h.sh, Nat.le_trans h.dp hk, ?_⟩
  have e := h.len
  have e3 : 1002 * w ≤ 1002 * 16000 := Nat.mul_le_mul (Nat.le_refl _) hw
  have e4 := sizeLine_eq
  omega
theorem Fb.two {t : Int × Int} (h : Sm t.1) (k : Sm t.2) : Fb 2 1 (tD t) := Fb.tuple (.cons (.int h) (.cons (.int k) .nil))
/-! ### fractions of one bottom -/
/-- a fraction from 0 to c whose bottom goes into N -/
structure Qn (N c : Nat) (f : Int × Int) : Prop where
  lo : IsF f
  nn : 0 ≤ f.1
  dn : f.2 ∣ (N : Int)
  vb : f.1 ≤ c * f.2
theorem dn_of {f : Int × Int} {a M : Int} (hf : IsF f) (h : f.1 * M = a * f.2) : f.2 ∣ M := by
  have e1 : f.1.natAbs * M.natAbs = a.natAbs * f.2.natAbs := by
    have := congrArg Int.natAbs h
    rwa [Int.natAbs_mul, Int.natAbs_mul] at this
  have q : f.2.natAbs ∣ f.1.natAbs * M.natAbs := by
    rw [e1]
    exact Nat.dvd_mul_left _ _
  exact Int.natAbs_dvd_natAbs.mp (Nat.Coprime.dvd_of_dvd_mul_left hf.2.symm q)
theorem low_dn {n d a M : Int} (hd : d ≠ 0) (h : n * M = a * d) : (low n d).2 ∣ M := by
  refine dn_of (a := a) (low_f hd) ?_
  have c := low_cross (n := n) hd
  refine Int.eq_of_mul_eq_mul_right hd ?_
  grind
/-- the bottom of what is a by M -/
theorem rv_dn {f : Int × Int} {a M : Int} (hf : IsF f) (hM : M ≠ 0) (h : rv f = Rat.divInt a M) : f.2 ∣ M := dn_of hf ((Rat.divInt_eq_divInt_iff hf.ne hM).mp h)
theorem Qn.mono {N N' c c' : Nat} {f : Int × Int} (h : Qn N c f) (hN : N ∣ N') (hc : c ≤ c') : Qn N' c' f := by
  have p : 0 < f.2 := h.lo.1
  refine ⟨h.lo, h.nn, Int.dvd_trans h.dn (Int.natCast_dvd_natCast.mpr hN), Int.le_trans h.vb ?_⟩
  exact Int.mul_le_mul_of_nonneg_right (by omega) (Int.le_of_lt p)
theorem Qn.le_N {N c : Nat} {f : Int × Int} (h : Qn N c f) (hN : 0 < N) : f.2 ≤ N := Int.le_of_dvd (by omega) h.dn
theorem Qn.bt {N c k : Nat} {f : Int × Int} (h : Qn N c f) (hN : 0 < N) (h1 : c * N < 2 ^ k) (h2 : N < 2 ^ k) : Bt k f := by
  have p : 0 < f.2 := h.lo.1
  have l := h.le_N hN
  have v := h.vb
  have n0 := h.nn
  have m : (c : Int) * f.2 ≤ c * N := Int.mul_le_mul_of_nonneg_left l (by omega)
  have e : ((c * N : Nat) : Int) = (c : Int) * N := Int.natCast_mul ..
  constructor
  · omega
  · omega
theorem Qn.add {N c e : Nat} {f g : Int × Int} (h : Qn N c f) (k : Qn N e g) : Qn N (c + e) (fadd f g) := by
  have h2 : 0 < f.2 := h.lo.1
  have k2 : 0 < g.2 := k.lo.1
  have p := Int.mul_pos h2 k2
  refine ⟨fadd_f h.lo k.lo, ?_, ?_, ?_⟩
  · refine low_top_nn p ?_
    have a := Int.mul_nonneg h.nn (Int.le_of_lt k2)
    have b := Int.mul_nonneg k.nn (Int.le_of_lt h2)
    omega
  · obtain ⟨s, hs⟩ := h.dn
    obtain ⟨t, ht⟩ := k.dn
    refine low_dn (a := f.1 * s + g.1 * t) (by omega) ?_
    grind
  · have := vb_add (c := c) (e := e) h.lo k.lo h.vb k.vb
    exact this
theorem Qn.mul {N M c e : Nat} {f g : Int × Int} (h : Qn N c f) (k : Qn M e g) : Qn (N * M) (c * e) (fmul f g) := by
  have h2 : 0 < f.2 := h.lo.1
  have k2 : 0 < g.2 := k.lo.1
  have p := Int.mul_pos h2 k2
  refine ⟨fmul_f h.lo k.lo, low_top_nn p (Int.mul_nonneg h.nn k.nn), ?_, ?_⟩
  · obtain ⟨s, hs⟩ := h.dn
    obtain ⟨t, ht⟩ := k.dn
    refine low_dn (a := f.1 * s * (g.1 * t)) (by omega) ?_
    rw [Int.natCast_mul]
    grind
  · refine vb_low (c := ((c * e : Nat) : Int)) p ?_
    have a : f.1 * g.1 ≤ (c * f.2) * (e * g.2) := Int.mul_le_mul h.vb k.vb k.nn (Int.mul_nonneg (by omega) (Int.le_of_lt h2))
    rw [Int.natCast_mul]
    have e1 : (c : Int) * f.2 * (e * g.2) = c * e * (f.2 * g.2) := by grind
    omega
theorem qn_f0 (N c : Nat) : Qn N c f0 := ⟨f0_f, by decide, ⟨N, (Int.one_mul _).symm⟩, by show (0 : Int) ≤ c * 1; omega⟩
theorem qn_f1 (N : Nat) : Qn N 1 f1 := ⟨f1_f, by decide, ⟨N, (Int.one_mul _).symm⟩, by decide⟩
theorem Qn.fold {N c : Nat} : ∀ (l : List (Int × Int)) (e : Nat) (a : Int × Int), Qn N e a → (∀ f ∈ l, Qn N c f) → Qn N (e + c * l.length) (l.foldl fadd a)
  | [], e, a, ha, _ => by simpa using ha
  | f :: l, e, a, ha, h => by
    have := Qn.fold l (e + c) (fadd a f) (ha.add (h f List.mem_cons_self)) (fun g hg => h g (List.mem_cons_of_mem _ hg))
    rw [List.length_cons, Nat.mul_succ]
    rw [show e + (c * l.length + c) = e + c + c * l.length by omega]
    exact this
theorem Qn.sum {N c n : Nat} {l : List (Int × Int)} (h : ∀ f ∈ l, Qn N c f) (hn : l.length ≤ n) : Qn N (c * n) (l.foldl fadd f0) := by
  have := Qn.fold l 0 f0 (qn_f0 N 0) h
  rw [Nat.zero_add] at this
  exact this.mono (Nat.dvd_refl _) (Nat.mul_le_mul_left _ hn)
theorem qn_of_bt {k : Nat} {f : Int × Int} (h : IsF f) (h0 : 0 ≤ f.1) (b : Bt k f) : Qn f.2.toNat (2 ^ k) f := by
  have p : 0 < f.2 := h.1
  refine ⟨h, h0, by rw [Int.toNat_of_nonneg (Int.le_of_lt p)]; exact Int.dvd_refl _, ?_⟩
  have b1 := b.1
  have e : ((2 ^ k : Nat) : Int) * 1 ≤ ((2 ^ k : Nat) : Int) * f.2 := Int.mul_le_mul_of_nonneg_left (by omega) (by omega)
  omega
/-- all bottoms, multiplied -/
def botP (l : List (Int × Int)) : Nat := l.foldr (fun f a => f.2.toNat * a) 1
theorem botP_pos : ∀ l : List (Int × Int), (∀ f ∈ l, IsF f) → 0 < botP l
  | [], _ => by decide
  | f :: l, h => Nat.mul_pos (by have := (h f List.mem_cons_self).1; omega) (botP_pos l fun g hg => h g (List.mem_cons_of_mem _ hg))
theorem botP_dvd : ∀ (l : List (Int × Int)) (f : Int × Int), f ∈ l → f.2.toNat ∣ botP l
  | g :: l, f, h => by
    rcases List.mem_cons.mp h with rfl | h
    · exact ⟨botP l, rfl⟩
    · obtain ⟨t, ht⟩ := botP_dvd l f h
      refine ⟨g.2.toNat * t, ?_⟩
      show g.2.toNat * botP l = _
      rw [ht, Nat.mul_left_comm]
theorem botP_lt {k : Nat} : ∀ (l : List (Int × Int)), (∀ f ∈ l, Bt k f) → botP l ≤ 2 ^ (k * l.length)
  | [], _ => by simp [botP]
  | f :: l, h => by
    have ih := botP_lt l fun g hg => h g (List.mem_cons_of_mem _ hg)
    have b := (h f List.mem_cons_self).2
    show f.2.toNat * botP l ≤ _
    rw [List.length_cons, Nat.mul_succ, Nat.add_comm, Nat.pow_add]
    exact Nat.mul_le_mul (by omega) ih
/-- fractions above 0 of one bottom, whose sums are small -/
def Cmn (fs : List (Int × Int)) : Prop := ∃ N V : Nat, 0 < N ∧ 0 < V ∧ 8 * V * N < 2 ^ 880 ∧ ∀ f ∈ fs, Qn N V f
theorem cmn_of_bt {k : Nat} {fs : List (Int × Int)} (h : ∀ f ∈ fs, IsF f ∧ 0 ≤ f.1 ∧ Bt k f) (hl : fs.length ≤ 8) (hk : 9 * k + 3 < 880) : Cmn fs := by
  have b := botP_lt (k := k) fs fun f hf => (h f hf).2.2
  have p := botP_pos fs fun f hf => (h f hf).1
  have b2 : botP fs ≤ 2 ^ (8 * k) := Nat.le_trans b (Nat.pow_le_pow_right (by decide) (by rw [Nat.mul_comm 8]; exact Nat.mul_le_mul_left _ hl))
  refine ⟨botP fs, 2 ^ k, p, Nat.two_pow_pos _, ?_, fun f hf => (qn_of_bt (h f hf).1 (h f hf).2.1 (h f hf).2.2).mono (botP_dvd fs f hf) (Nat.le_refl _)⟩
  have e : 8 * 2 ^ k * 2 ^ (8 * k) = 2 ^ (3 + k + 8 * k) := by
    rw [Nat.pow_add, Nat.pow_add]
  calc 8 * 2 ^ k * botP fs ≤ 8 * 2 ^ k * 2 ^ (8 * k) := Nat.mul_le_mul_left _ b2
    _ = 2 ^ (3 + k + 8 * k) := e
    _ < 2 ^ 880 := Nat.pow_lt_pow_right (by decide) (by omega)
theorem Cmn.bt {fs : List (Int × Int)} (h : Cmn fs) {f : Int × Int} (hf : f ∈ fs) : Bt 880 f := by
  obtain ⟨N, V, p, v, l, q⟩ := h
  have e : V * N ≤ 8 * V * N := by rw [Nat.mul_assoc]; omega
  have e2 : 1 * N ≤ V * N := Nat.mul_le_mul_right _ v
  exact (q f hf).bt p (by omega) (by omega)
theorem Cmn.part {fs : List (Int × Int)} (h : Cmn fs) (hl : fs.length ≤ 8) (i : Nat) : Bt 880 ((fs.take i).foldl fadd f0) := by
  obtain ⟨N, V, p, v, l, q⟩ := h
  have s := Qn.sum (n := 8) (l := fs.take i) (fun f hf => q f (List.mem_of_mem_take hf)) (by rw [List.length_take]; omega)
  have e2 : 1 * N ≤ V * N := Nat.mul_le_mul_right _ v
  have e3 : V * 8 * N = 8 * V * N := by rw [Nat.mul_comm V]
  have e : V * N ≤ 8 * V * N := by rw [Nat.mul_assoc]; omega
  exact s.bt p (by omega) (by omega)
theorem Cmn.tot {fs : List (Int × Int)} (h : Cmn fs) (hl : fs.length ≤ 8) : Bt 880 (fs.foldl fadd f0) := by
  have := h.part hl fs.length
  rwa [List.take_length] at this
end Lf

set_option Elab.async false
set_option linter.all false
set_option maxRecDepth 100000
set_option maxHeartbeats 4000000
set_option exponentiation.threshold 3000
namespace Lf
open PySem PySem.Spec PyProof.Rows L2
theorem Bt.sm {k : Nat} {f : Int × Int} (h : Bt k f) (hk : k ≤ 900) : Sm f.1 ∧ Sm f.2 := ⟨(h.mono hk).1, (h.mono hk).2⟩
theorem pr_sq {K : PySem.W.Frag} {H : Hp} {p q : Addr} {f g : Int × Int} {j k : Nat} (hp : SqT K H p [.int f.1, .int f.2]) (hq : SqT K H q [.int g.1, .int g.2]) (hf : IsF f) (hg : IsF g) (bf : Bt j f) (bg : Bt k g) (hj : j ≤ 900) (hk : k ≤ 900) : Pr K H [.ref p, .ref q] f.1 f.2 g.1 g.2 :=
  ⟨⟨p, q, rfl, hp, hq⟩, hf.ne, hg.ne, (bf.sm hj).1, (bf.sm hj).2, (bg.sm hk).1, (bg.sm hk).2⟩
theorem pr_atk {K : PySem.W.Frag} {H : Hp} {v u : V} {f g : Int × Int} {j k : Nat} (hv : AtK K H v f) (hu : AtK K H u g) (hf : IsF f) (hg : IsF g) (bf : Bt j f) (bg : Bt k g) (hj : j ≤ 900) (hk : k ≤ 900) : Pr K H [v, u] f.1 f.2 g.1 g.2 := by
  obtain ⟨p, rfl, hp⟩ := hv
  obtain ⟨q, rfl, hq⟩ := hu
  exact pr_sq hp hq hf hg bf bg hj hk
section
variable {P : Program} {w : World} {K : PySem.W.Frag} {mg : Str → Option Value} {base : Heap}

/-- fractions of a row, added up -/
def sp_togL (K : PySem.W.Frag) : Sp := fun vs H Q _ => ∃ (L : Addr) (xs : List V) (fs : List (Int × Int)), vs = [.ref L] ∧ SqL K H L xs ∧ AtKs K H xs fs ∧ AllF fs ∧ AllB 900 fs ∧ (∀ i, Bt 900 ((fs.take i).foldl fadd f0)) ∧
  ∀ (H' : Hp) (v : V), Same H H' → AtK K H' v (fs.foldl fadd f0) → Q v H'
/-! ### together -/
theorem sc_together : FnScope ["ones", "told", "one"] ["ones"] (defScope s_together) := ⟨rfl, rfl, rfl, by decide +kernel, rfl, by decide +kernel, by decide +kernel⟩
theorem ok_togL {f c0 : Addr} {fd : FuncData} (g0 : mg "NONE_OF_IT" = some (.ref c0)) (t0 : ∀ H, SqT K H c0 [.int 0, .int 1]) (F : Fun K "together" "together" s_together f fd) (C_plus : Cal P w K mg base CX0 5 "plus" ["one", "other"] (sp_plus K)) : FnG P w K mg base CX0 6 f fd ["ones"] (sp_togL K) := by
  refine Gfun F sc_together (fun vs H Q E h => ?_) (fun cdv A outer s H vs Q E hg hr h => ?_)
  · obtain ⟨L, xs, fs, rfl, _⟩ := h
    rfl
  · obtain ⟨L, xs, fs, rfl, hS, hA, hF, hB, hP, k⟩ := h
    refine ⟨_, (pss_cons (ps_set (i := 1) sc_together.nd rfl (.inl rfl) (pe_glob (v := .ref c0) rfl g0 rfl))
      (pss_cons (ps_for PassesOwn.never rfl (pi_list (pv 0)) (pg_name (i := 2) sc_together.nd rfl (.inl rfl))
      (pss_one (ps_set (i := 1) sc_together.nd rfl (.inl rfl) (pe_g C_plus (hr.mono (by decide)) hg (pa_cons (pv 1) (pa_cons (pv 2) pa_nil))))))
      (pss_one (ps_ret (pv 1))))), ?_⟩
    refine ⟨_, rfl, L, rfl, ⟨_, hS⟩, for_list (K := K) (a := L) (xs := xs) (fun i σ H' => ∃ (v : Option V) (t : V), σ = [some (.ref L), some t, v] ∧ Same H H' ∧ AtK K H' t ((fs.take i).foldl fadd f0))
      ⟨none, .ref c0, rfl, same_rfl, ⟨c0, rfl, t0 H⟩⟩ (fun i σ H' _ ⟨_, _, _, sm, _⟩ => sm.seq hS) ?_ ?_⟩
    · rintro i x σ H' hi ⟨v, t, rfl, sm, ht⟩
      obtain ⟨g, hgi, hx0⟩ := hA.get hi
      have hx := hx0.same sm
      have hgf : IsF g := hF g (List.mem_of_getElem? hgi)
      have bg : Bt 900 g := hB g (List.mem_of_getElem? hgi)
      have fa := (sum_fold (fs.take i) f0 f0_f (take_all hF i)).1
      refine ⟨_, rfl, _, rfl, _, _, _, _, pr_atk ht hx fa hgf (hP i) bg (Nat.le_refl _) (Nat.le_refl _), fun H2 t' s2 e2 => ?_⟩
      refine ⟨some x, _, rfl, sm.trans s2, ?_⟩
      rw [fold_take _ _ hgi]
      exact AtK.of e2
    · rintro σ H' ⟨v, t, rfl, sm, ht⟩
      refine ⟨_, rfl, k H' t sm ?_⟩
      rw [hA.length, List.take_length] at ht
      exact ht

end
end Lf

set_option Elab.async false
set_option linter.all false
set_option maxRecDepth 100000
set_option maxHeartbeats 4000000
set_option exponentiation.threshold 3000
namespace Lf
open PySem PySem.Spec PyProof.Rows L2
theorem op_notInK {X : Cx} {K : PySem.W.Frag} (h : X.A.units + 65 < cLine) (hK : X.K = K := by rfl) : OpR X (compareOp .NotIn) (rNotInD K) := by
  subst hK
  exact op_notInD h
def AllL (z : Str) : Prop := ∀ c ∈ z.cps.toList, inL c = true
theorem al_app {x y : Str} (h : AllL x) (k : AllL y) : AllL (x ++ y) := by
  intro c hc
  have e : (x ++ y).cps.toList = x.cps.toList ++ y.cps.toList := by
    rw [show (x ++ y).cps = x.cps ++ y.cps from rfl, Array.toList_append]
  rw [e] at hc
  rcases List.mem_append.mp hc with q | q
  · exact h c q
  · exact k c q
theorem nm_join : ∀ ys : List Str, (∀ y ∈ ys, y.length = 1 ∧ AllL y) → ys ≠ [] → (Str.join (Str.ofString "") ys).length = ys.length ∧ AllL (Str.join (Str.ofString "") ys)
  | [], _, h => absurd rfl h
  | [x], h, _ => h x List.mem_cons_self
  | x :: y :: r, h, _ => by
    obtain ⟨l, a⟩ := nm_join (y :: r) (fun z hz => h z (List.mem_cons_of_mem _ hz)) (by simp)
    obtain ⟨l1, a1⟩ := h x List.mem_cons_self
    have e : Str.join (Str.ofString "") (x :: y :: r) = x ++ Str.ofString "" ++ Str.join (Str.ofString "") (y :: r) := rfl
    have e0 : AllL (Str.ofString "") := fun c hc => by
      have : (Str.ofString "").cps.toList = [] := by decide +kernel
      rw [this] at hc
      cases hc
    rw [e]
    refine ⟨?_, al_app (al_app a1 e0) a⟩
    rw [PySem.Str.length_append, PySem.Str.length_append, l1, l, show (Str.ofString "").length = 0 by decide +kernel, List.length_cons (a := x)]
    omega
theorem pot_same {H H' : Hp} {q : Addr} (h : Pot H q) (s : Same H H') : Pot H' q := by
  obtain ⟨x, y, a, b, e⟩ := h
  exact ⟨x, y, a, b, s _ _ e⟩
theorem inL_lt {c : Nat} (h : inL c = true) : c < 0x110000 := by
  have hc : c ∈ lets.cps.toList := of_decide_eq_true h
  have all : ∀ x ∈ lets.cps.toList, x < 0x110000 := by decide +kernel
  exact all c hc
theorem al_cut {z : Str} (lo hi : Option Int) (h : AllL z) : AllL (cutS z lo hi) := fun c hc => h c (List.mem_of_mem_drop (List.mem_of_mem_take (show c ∈ ((z.cps.toList.drop _).take _) by simpa [cutS] using hc)))
theorem al_shaped {z : Str} (h : AllL z) : SeqAt.shaped (.str z) = true := by
  unfold SeqAt.shaped
  rw [Bool.and_eq_true]
  refine ⟨?_, decide_eq_true ?_⟩
  · simp only [PyData.canLay0, PyData.strOk]
    simp
    intro c hc
    exact inL_lt (h _ (by simp))
  · simp only [PyData.depth]
    omega
theorem sq_but {K : PySem.W.Frag} {H H' : Hp} {q t : Addr} {xs : List V} (b : But q H H') (n : t ≠ q) (h : SqL K H t xs) : SqL K H' t xs := by
  rcases h with (h | ⟨o, h⟩) | h
  · exact .inl (.inl (b _ _ n h))
  · exact .inl (.inr ⟨o, b _ _ n h⟩)
  · exact .inr h
theorem ones_sum : ∀ ys : List Str, (∀ y ∈ ys, y.length = 1 ∧ AllL y) → (ys.map (·.length)).sum = ys.length
  | [], _ => rfl
  | y :: r, h => by
    rw [List.map_cons, List.sum_cons, (h y List.mem_cons_self).1, ones_sum r fun z hz => h z (List.mem_cons_of_mem _ hz), List.length_cons]
    omega
/-- the letter at a place -/
def letC (i : Nat) : Nat := ((Str.ofString "abcdefghijklmnopqrstuvwxyz").cps[i]?).getD 0
/-- the i-th of the other names that are tried -/
def cand (z : Str) (i : Nat) : Str := cutS z none (some 8) ++ ⟨#[letC i]⟩ ++ Str.ofString "q"
theorem cand_inj {z : Str} {i j : Nat} (hi : i < 26) (hj : j < 26) (e : cand z i = cand z j) : i = j := by
  have e2 := congrArg (fun x : Str => x.cps.toList) e
  have tl : ∀ k, (cand z k).cps.toList = (cutS z none (some 8)).cps.toList ++ [letC k] ++ (Str.ofString "q").cps.toList := fun k => by
    unfold cand
    rw [show ∀ x y : Str, (x ++ y).cps = x.cps ++ y.cps from fun _ _ => rfl, Array.toList_append, show ∀ x y : Str, (x ++ y).cps = x.cps ++ y.cps from fun _ _ => rfl, Array.toList_append]
  simp only [tl] at e2
  have e3 := List.append_cancel_left (List.append_cancel_right e2)
  have e4 : letC i = letC j := (List.cons.inj e3).1
  have all : ∀ a < 26, ∀ b < 26, letC a = letC b → a = b := by decide +kernel
  exact all i hi j hj e4
theorem nodup_le {α : Type} [DecidableEq α] : ∀ (l m : List α), l.Nodup → (∀ x ∈ l, x ∈ m) → l.length ≤ m.length
  | [], _, _, _ => Nat.zero_le _
  | x :: l, m, hn, h => by
    have hx := h x List.mem_cons_self
    have r := nodup_le l (m.erase x) (List.nodup_cons.mp hn).2 fun y hy => by
      have ny : y ≠ x := fun z => (List.nodup_cons.mp hn).1 (by rw [← z]; exact hy)
      exact (List.mem_erase_of_ne ny).mpr (h y (List.mem_cons_of_mem _ hy))
    rw [List.length_erase_of_mem hx] at r
    have : 0 < m.length := List.length_pos_of_mem hx
    rw [List.length_cons]
    omega
/-- one of the names that are tried is not taken -/
theorem one_free {z : Str} {ts : List Str} (h : ts.length ≤ 25) : ∃ i, i < 26 ∧ cand z i ∉ ts := by
  apply Classical.byContradiction
  intro no
  have all : ∀ i, i < 26 → cand z i ∈ ts := fun i hi => Classical.byContradiction fun q => no ⟨i, hi, q⟩
  have nd : ((List.range 26).map (cand z)).Nodup := by
    refine List.Pairwise.map _ ?_ (List.Pairwise.and_mem.mp (List.nodup_range (n := 26)))
    rintro a b ⟨ha, hb, hab⟩ e
    exact hab (cand_inj (List.mem_range.mp ha) (List.mem_range.mp hb) e)
  have := nodup_le _ ts nd fun x hx => by
    obtain ⟨i, hi, rfl⟩ := List.mem_map.mp hx
    exact all i (List.mem_range.mp hi)
  rw [List.length_map, List.length_range] at this
  omega
theorem strs_dp {K : PySem.W.Frag} {H : Hp} : ∀ ts : List Str, DpAll K H (ts.map V.str) (ts.map PyData.str)
  | [] => .nil
  | t :: ts => .cons (.str t) (strs_dp ts)
theorem strs_shaped {ts : List Str} (h : ∀ t ∈ ts, AllL t) : SeqAt.shaped (.list (ts.map PyData.str)) = true := by
  have key : ∀ ts : List Str, (∀ t ∈ ts, AllL t) → PyData.canLayAll0 (ts.map PyData.str) = true ∧ PyData.depthAll (ts.map PyData.str) = 0 := by
    intro ts
    induction ts with
    | nil => exact fun _ => ⟨by simp only [List.map_nil, PyData.canLayAll0], by simp only [List.map_nil, PyData.depthAll]⟩
    | cons t ts ih =>
      intro h
      obtain ⟨i1, i2⟩ := ih fun x hx => h x (List.mem_cons_of_mem _ hx)
      have a := SeqAt.canLay_of_shaped (al_shaped (h t List.mem_cons_self))
      exact ⟨by simp only [List.map_cons, PyData.canLayAll0, i1, a, Bool.and_self], by simp only [List.map_cons, PyData.depthAll, PyData.depth, i2, Nat.max_self]⟩
  obtain ⟨i1, i2⟩ := key ts h
  unfold SeqAt.shaped
  rw [Bool.and_eq_true]
  refine ⟨by simp only [PyData.canLay0]; exact i1, decide_eq_true ?_⟩
  simp only [PyData.depth, i2]
  omega
theorem strs_any (y : Str) : ∀ ts : List Str, ((ts.map PyData.str).any fun d => PyData.eqv d (.str y)) = decide (y ∈ ts)
  | [] => by simp
  | t :: ts => by
    rw [List.map_cons, List.any_cons, strs_any y ts]
    have e : PyData.eqv (.str t) (.str y) = decide (t = y) := by
      simp only [PyData.eqv]
      by_cases h : t = y
      · subst h
        simp
      · simp [h]
    rw [e]
    by_cases h : t = y
    · subst h
      simp
    · have h' : ¬ y = t := fun z => h z.symm
      simp [h, h']
theorem nm_al {z : Str} (h : isNm (.str z) = true) : AllL z ∧ 1 ≤ z.length ∧ z.length ≤ 10 := by
  have h' : (decide (1 ≤ z.length) && decide (z.length ≤ 10) && List.all z.cps.toList inL) = true := h
  rw [Bool.and_eq_true, Bool.and_eq_true] at h'
  exact ⟨fun c hc => List.all_eq_true.mp h'.2 c hc, of_decide_eq_true h'.1.1, of_decide_eq_true h'.1.2⟩
theorem al_nm {z : Str} (h : AllL z) (h1 : 1 ≤ z.length) (h2 : z.length ≤ 10) : isNm (.str z) = true := by
  show (decide (1 ≤ _) && decide (_ ≤ 10) && List.all _ inL) = true
  rw [decide_eq_true h1, decide_eq_true h2, Bool.and_self, Bool.true_and, List.all_eq_true]
  exact h
end Lf

set_option Elab.async false
set_option linter.all false
/-! Heaps without what stands at a place, and what is new in a heap. -/
namespace Lf
open PySem PySem.Spec PyProof.Rows L2
def wo (q : Addr) (H : Hp) : Hp := fun b => if b = q then none else H b
theorem wo_at {q p : Addr} {H : Hp} {o : HO} (n : p ≠ q) (e : H p = some o) : wo q H p = some o := by
  unfold wo
  rw [if_neg n]
  exact e
theorem wo_le {q : Addr} {H : Hp} : Same (wo q H) H := fun b o e => by
  unfold wo at e
  split at e
  · cases e
  · exact e
theorem wo_not {q p : Addr} {H : Hp} {o : HO} (e : wo q H p = some o) : p ≠ q := fun z => by
  unfold wo at e
  rw [if_pos z] at e
  cases e
theorem wo_wo {q : Addr} {H H' : Hp} (s : Same H H') : Same (wo q H) (wo q H') := fun b o e => wo_at (wo_not e) (s _ _ (wo_le _ _ e))
theorem wo_upd {q : Addr} {H : Hp} {o : HO} : Same (wo q H) (wo q (upd H q o)) := fun b o e => wo_at (wo_not e) (by rw [upd_ne (wo_not e)]; exact wo_le _ _ e)
/-- what is new -/
def nw (H H' : Hp) : Hp := fun b => match H b with | none => H' b | some _ => none
theorem nw_at {H H' : Hp} {p : Addr} {o : HO} (m : H p = none) (e : H' p = some o) : nw H H' p = some o := by
  unfold nw
  rw [m]
  exact e
theorem nw_of {H H' : Hp} {p : Addr} {o : HO} (e : nw H H' p = some o) : H p = none ∧ H' p = some o := by
  unfold nw at e
  cases h : H p with
  | none =>
    rw [h] at e
    exact ⟨rfl, e⟩
  | some u =>
    rw [h] at e
    cases e
theorem upd_twice {H : Hp} {a : Addr} {o o' : HO} : upd (upd H a o) a o' = upd H a o' := by
  funext b
  by_cases h : b = a
  · rw [h, upd_same, upd_same]
  · rw [upd_ne h, upd_ne h, upd_ne h]
theorem same_none {H H' : Hp} {a : Addr} (s : Same H H') (h : H' a = none) : H a = none := by
  cases e : H a with
  | none => rfl
  | some o =>
    rw [s _ _ e] at h
    cases h
end Lf

set_option Elab.async false
set_option linter.all false
set_option maxRecDepth 100000
set_option maxHeartbeats 4000000
/-! Own classes made, and their methods called, where no guard stands (FnG). -/
namespace Lf
open PySem PySem.Spec PyProof.Rows L2
theorem make_guards {A : Around} (h : A.guards = some []) (C : Addr) (us : List Value) (kw : List (Str × Value)) : (A.under (.builtin "type.__call__" ⟨.ref C :: us, kw⟩)).guards = some [] := by
  show pushGuards (Code.guards (.builtin "type.__call__" ⟨.ref C :: us, kw⟩)) A.guards = some []
  rw [h]
  rfl
section
variable {X : Cx} {CX : CXT} {k n : Nat} {f C : Addr} {fd : FuncData} {ps ks : List Str} {sp : Sp} {x m : Str} {p pos apos : Pos} {e o : Expr} {es : List Expr} {kws : List Keyword} {ta : TE} {t tk : TA} {g : List Value → List Value → List Value} {gV : List V → List V → List V}
/-- an __init__ runs on a new object -/
theorem run_mkG {pins : List (Addr × Obj)} {σ : L2.St} {H : Hp} {s : Shared} {Q : VK} {us ws : List Value} {vs zs : List V} {E : XK} (M : Mk X.K C f) (F : FnG X.prog X.w X.K X.mg X.base CX k f fd ps sp) (hr : Room (k + 1) X.A) (hG : X.A.guards = some []) (hb : KBn X.K fd ps (n + 1) ks g gV)
    (hx : PassesAt CX X σ E) (I : Inv X pins σ H s) (r : Vals vs us) (rz : Vals zs ws) (l1 : vs.length = n) (l2 : zs.length = ks.length)
    (h : ∀ x dx, H x = none → H dx = none → dx ≠ x → sp (gV (.ref x :: vs) zs) (upd (upd H dx (.own x)) x (.ins C dx [])) (fun v H2 => v = .non ∧ Q (.ref x) H2) E) :
    wpAny (model X.prog X.w) X.A (call (.ref C) us (ks.zip ws)) (EP X pins σ Q) X.xe s := by
  have hq := h (s.heap.objs.size + 1) s.heap.objs.size (I.hok.fresh (Nat.le_succ _)) (I.hok.fresh (Nat.le_refl _)) (Nat.ne_of_lt (Nat.lt_succ_self _))
  have I2 := Inv.made (C := C) I
  have r1 : Vals (V.ref (s.heap.objs.size + 1) :: vs) (Value.ref (s.heap.objs.size + 1) :: us) := .cons rfl r
  have r2 := hb.rel r1 rz
  have lu : (Value.ref (s.heap.objs.size + 1) :: us).length = n + 1 := by
    rw [List.length_cons, ← Paired.length r, l1]
  have lw : ws.length = ks.length := by rw [← Paired.length rz, l2]
  refine wpAny_call (make_map (f := f) I.kIn M.makes M.init (beq_iff_eq.mp M.fn) (codeAny_mono (F.goes _ X.stack _ _ ⟨Value.ref (s.heap.objs.size + 1) :: us, ks.zip ws⟩ _ _ _ E (hr.make C us (ks.zip ws)) (make_guards hG C us (ks.zip ws))
    (I2.env0.make C us (ks.zip ws)) (hb.to _ _ _ I2.kIn lu lw) r2 hq) fun r s' hq' => ?_))
  cases r with
  | error e => exact hx pins _ _ e s' I2 hq'
  | ok fl =>
    cases fl with
    | ret u =>
      obtain ⟨v, H', I3, rv, ev, q3⟩ := I2.after hq'
      subst ev
      exact ⟨rv, ⟨V.ref (s.heap.objs.size + 1), H', I3, rfl, q3⟩⟩
    | next => exact False.elim hq'
    | brk => exact False.elim hq'
    | cont => exact False.elim hq'
/-- C(e, ..), C(e, .., k = v, ..) -/
def tMkG (C : Addr) (n m : Nat) (sp : Sp) (gV : List V → List V → List V) (E : L2.St → XK) (t tk : TA) : TE := fun σ H Q => t σ H fun vs H1 => tk σ H1 fun zs H2 => vs.length = n ∧ zs.length = m ∧ ∀ x dx, H2 x = none → H2 dx = none → dx ≠ x →
  sp (gV (.ref x :: vs) zs) (upd (upd H2 dx (.own x)) x (.ins C dx [])) (fun v H3 => v = .non ∧ Q (.ref x) H3) (E σ)
/-- the class of the module's name x can be made; sp: its __init__ -/
structure MakG (P : Program) (w : World) (K : PySem.W.Frag) (mg : Str → Option Value) (base : Heap) (CX : CXT) (k : Nat) (x : Str) (C f : Addr) (fd : FuncData) (ps : List Str) (sp : Sp) : Prop where
  mks : Mk K C f
  fn : FnG P w K mg base CX k f fd ps sp
  g : mg x = some (.ref C)
theorem pe_mkG {E : L2.St → XK} (M : MakG X.prog X.w X.K X.mg X.base CX k x C f fd ps sp) (hb : KBn X.K fd ps (n + 1) [] g gV) (hr : Room (k + 1) X.A) (hG : X.A.guards = some []) (hx : ∀ σ, PassesAt CX X σ (E σ))
    (ha : PA X (e :: es) t) (hg : Gl X x := by rfl) (hdb : (x == ("__debug__" : Str)) = false := by decide) (he : starEach (e :: es) X.env = (false, eval e X.env) :: starEach es X.env := by rfl) (hpl : (backTo pos (starEach es X.env)).any (·.1) = false := by rfl) :
    PE X (.Call (.Name x p) (e :: es) [] pos) (tMkG C n 0 sp gV E t tNil) := by
  refine ⟨fun pins s σ H Q I h => ?_⟩
  refine wpAny_Call_Name_kw (ld_glob I hg M.g ?_ hdb)
  refine PySem.W.callWith_K (h₀ := X.base) I.ok.mod.kin M.mks.kp (thn (ha.run pos pins s σ H _ I h) fun us s1 ⟨vs, H1, I1, r, l1, l2, q⟩ => ⟨I1.kIn, ?_⟩) he hpl
  exact run_mkG (ws := []) (zs := []) M.mks M.fn hr hG hb (hx σ) I1 r .nil l1 l2 q
theorem pe_mkGK {E : L2.St → XK} (M : MakG X.prog X.w X.K X.mg X.base CX k x C f fd ps sp) (hb : KBn X.K fd ps (n + 1) ks g gV) (hr : Room (k + 1) X.A) (hG : X.A.guards = some []) (hx : ∀ σ, PassesAt CX X σ (E σ))
    (ha : PA X (e :: es) t) (hkw : PK X kws tk) (hks : (backToKw pos (keywordEach kws X.env)).filterMap (·.1) = ks := by rfl) (hg : Gl X x := by rfl) (hall : (backToKw pos (keywordEach kws X.env)).all (·.1.isSome) = true := by rfl)
    (hdb : (x == ("__debug__" : Str)) = false := by decide) (he : starEach (e :: es) X.env = (false, eval e X.env) :: starEach es X.env := by rfl)
    (hpl : ((backTo pos (starEach (e :: es) X.env)).any (·.1) || (backToKw pos (keywordEach kws X.env)).any (·.1.isNone)) = false := by rfl) :
    PE X (.Call (.Name x p) (e :: es) kws pos) (tMkG C n ks.length sp gV E t tk) := by
  refine ⟨fun pins s σ H Q I h => ?_⟩
  refine wpAny_Call_Name_kw (ld_glob I hg M.g ?_ hdb)
  refine PySem.W.callWith_KW (h₀ := X.base) I.ok.mod.kin M.mks.kp hall (thn (ha.run pos pins s σ H _ I h) fun us s1 ⟨vs, H1, I1, r, q⟩ => ?_) hpl he
  refine thn (hkw.run pos pins s1 σ H1 _ I1 q) fun ws s2 ⟨zs, H2, I2, rz, l1, l2, q2⟩ => ⟨I2.kIn, ?_⟩
  rw [hks]
  exact run_mkG M.mks M.fn hr hG hb (hx σ) I2 r rz l1 l2 q2
theorem pe_mkGN {E : L2.St → XK} (M : MakG X.prog X.w X.K X.mg X.base CX k x C f fd ps sp) (hb : KBn X.K fd ps (0 + 1) ks g gV) (hr : Room (k + 1) X.A) (hG : X.A.guards = some []) (hx : ∀ σ, PassesAt CX X σ (E σ))
    (hkw : PK X kws tk) (hks : (backToKw pos (keywordEach kws X.env)).filterMap (·.1) = ks := by rfl) (hg : Gl X x := by rfl) (hall : (backToKw pos (keywordEach kws X.env)).all (·.1.isSome) = true := by rfl)
    (hdb : (x == ("__debug__" : Str)) = false := by decide)
    (hpl : ((backTo pos (starEach [] X.env)).any (·.1) || (backToKw pos (keywordEach kws X.env)).any (·.1.isNone)) = false := by rfl) :
    PE X (.Call (.Name x p) [] kws pos) (tMkG C 0 ks.length sp gV E tNil tk) := by
  refine ⟨fun pins s σ H Q I h => ?_⟩
  refine wpAny_Call_Name_kw (ld_glob I hg M.g ?_ hdb)
  refine PySem.W.callWith_KW0 (h₀ := X.base) I.ok.mod.kin M.mks.kp hall (thn (hkw.run pos pins s σ H _ I h) fun ws s2 ⟨zs, H2, I2, rz, l1, l2, q2⟩ => ⟨I2.kIn, ?_⟩) hpl
  rw [hks]
  exact run_mkG (us := []) (vs := []) M.mks M.fn hr hG hb (hx σ) I2 .nil rz l1 l2 q2
/-- o.m(e, ..) where no guard stands -/
def tMeG (C : Addr) (m : Str) (sp : Sp) (E : L2.St → XK) (ta : TE) (t : TA) : TE := fun σ H Q => ta σ H fun x H1 => ∃ a dx fs, x = .ref a ∧ H1 a = some (.ins C dx fs) ∧ fs.lookup m = none ∧ t σ H1 fun vs H2 => sp (.ref a :: vs) H2 Q (E σ)
structure MetG (P : Program) (w : World) (K : PySem.W.Frag) (mg : Str → Option Value) (base : Heap) (CX : CXT) (k : Nat) (C : Addr) (m : Str) (f : Addr) (fd : FuncData) (ps : List Str) (sp : Sp) : Prop where
  c : Cls K C
  m : Meth K C m f
  fn : FnG P w K mg base CX k f fd ps sp
  b : ∀ (s : Shared) (us : List Value), us.length = ps.length → BindsTo s fd ⟨us, []⟩ (ps.zip us)
theorem pe_meG {pl : Sem Bool} {E : L2.St → XK} (he : PE X o ta) (M : MetG X.prog X.w X.K X.mg X.base CX k C m f fd ps sp) (hr : Room k X.A) (hG : X.A.guards = some []) (hx : ∀ σ, PassesAt CX X σ (E σ)) (ha : PA X (e :: es) t)
    (hst : starEach (e :: es) X.env = (false, eval e X.env) :: starEach es X.env := by rfl) (hpl : (backTo pos (starEach es X.env)).any (·.1) = false := by rfl)
    (ht : eval (.Call (.Attribute o m apos) (e :: es) [] pos) X.env = (do
      let ov ← eval o X.env
      standAt apos.atName
      let (f, first) ← holding [ov] (getMethod ov m pl)
      callWith pos f first (backTo pos (starEach (e :: es) X.env)) (backToKw pos (keywordEach [] X.env))) := by rfl) :
    PE X (.Call (.Attribute o m apos) (e :: es) [] pos) (tMeG C m sp E ta t) := by
  refine ⟨fun pins s σ H Q I h => ?_⟩
  refine PySem.W.methodCall_KW (pl := pl) (thn (he.run pins s σ H _ I h) fun u s1 ⟨x, H1, I1, rx, a, dx, fs, ex, ea, l, q⟩ => ?_) ht
  subst ex
  obtain rfl : u = Value.ref a := rx
  refine getmeth_ok I1 ea M.c M.m l ?_
  refine PySem.W.callWith_K (first := [.ref a]) (h₀ := X.base) I.ok.mod.kin M.m.kp (thn (ha.run pos pins s1 σ H1 _ I1 q) fun us s2 ⟨vs, H2, I2, r, q2⟩ => ⟨I2.kIn, ?_⟩) hst hpl
  have r' : Vals (V.ref a :: vs) (Value.ref a :: us) := .cons rfl r
  exact run_g (ar := ⟨.ref a :: us, []⟩) M.fn hr hG (hx σ) I2 (M.b s2 _ ((Paired.length r').symm.trans (M.fn.size _ _ _ _ q2))) r' q2
theorem pe_meG0 {pl : Sem Bool} {E : L2.St → XK} (he : PE X o ta) (M : MetG X.prog X.w X.K X.mg X.base CX k C m f fd ps sp) (hr : Room k X.A) (hG : X.A.guards = some []) (hx : ∀ σ, PassesAt CX X σ (E σ))
    (ht : eval (.Call (.Attribute o m apos) [] [] pos) X.env = (do
      let ov ← eval o X.env
      standAt apos.atName
      let (f, first) ← holding [ov] (getMethod ov m pl)
      callWith pos f first (backTo pos (starEach [] X.env)) (backToKw pos (keywordEach [] X.env))) := by rfl) :
    PE X (.Call (.Attribute o m apos) [] [] pos) (tMeG C m sp E ta tNil) := by
  refine ⟨fun pins s σ H Q I h => ?_⟩
  refine PySem.W.methodCall_KW (pl := pl) (thn (he.run pins s σ H _ I h) fun u s1 ⟨x, H1, I1, rx, a, dx, fs, ex, ea, l, q⟩ => ?_) ht
  subst ex
  obtain rfl : u = Value.ref a := rx
  refine getmeth_ok I1 ea M.c M.m l ?_
  have r' : Vals [V.ref a] [Value.ref a] := .cons rfl .nil
  exact PySem.W.callWith_K0 (first := [.ref a]) I1.kIn M.m.kp (run_g (ar := ⟨[.ref a], []⟩) M.fn hr hG (hx σ) I1 (M.b s1 _ ((Paired.length r').symm.trans (M.fn.size _ _ _ _ q))) r' q)
end
section
variable {P : Program} {w : World} {K : PySem.W.Frag} {mg : Str → Option Value} {base : Heap} {CX : CXT} {k : Nat} {f : Addr} {fd : FuncData} {ps : List Str} {sp : Sp} {x qual : Str} {st : Stmt} {N : List Str} {dvs : List V} {kws : List (Str × V)}
/-- a def with defaults, by its body -/
theorem GfunDX (F : FunD K x qual (defArgs st) (defBody st) (defScope st) dvs kws f fd) (S : FnScope N ps (defScope st)) (size : ∀ vs H Q E, sp vs H Q E → vs.length = ps.length)
    (body : ∀ (cdv : Value) (B : Around) (out : List Env) (s : Shared) (H : Hp) (vs : List V) (Q : VK) (E : XK), B.guards = some [] →
      Room k (B.deeper (envOfC qual (defScope st) s.heap.objs.size f cdv)) → sp vs H Q E →
      ∃ t, PSs (cxOf CX P w K mg base N qual (defScope st) f cdv B out s H E) (defBody st) t ∧
        t { nx := fun _ H' => Q .non H', rt := Q } (start N vs) H) : FnG P w K mg base CX (k + 1) f fd ps sp := by
  obtain ⟨oc, od, dV, kV, doc, pm, an, cdv, ct, osl, rfl, lk, hcd, _, _⟩ := F.ex
  refine ⟨size, fun B out s H ar us vs Q E hr hg e0 hb r hs => ?_⟩
  have old : ∀ b o, base.get? b = some o → s.heap.get? b = some o := fun b o e => (e0.bs b o e).1
  have kin : K.In s.heap := e0.mod.kin.keeps old
  refine codeAny_call_function hr.depth (kin _ _ lk) rfl S.co S.gen rfl (PySem.W.codeRec_of kin hcd) (hb _ _ _ _ ?_)
  refine wpAny_newFunctionEnv_cells S.kind (fun ⟨n, v⟩ hy => ?_) fun env he s1 x => ?_
  · rcases S.par n (List.of_mem_zip hy).1 with q | q
    · exact Or.inl q
    · exact Or.inr ⟨q, PySem.W.cellsFrom_some _ _ _ (Or.inl q)⟩
  · subst he
    refine ⟨(e0.mod.nolimit.keeps old).keeps x.toInCall.keep, codeAny_func ?_⟩
    obtain ⟨t, ht, hq⟩ := body cdv B out s H vs Q E hg (hr.deeper _) hs
    have I := inv_start (CX := CX) (N := N) (qual := qual) (cd := cdv) (E := E) S hr.hd e0 (size _ _ _ _ hs) r x
    refine wpAny_mono (ht.run [] s1 (start N vs) H _ I hq) (fun fl s' hs' => ?_) fun e s' z => z
    cases fl with
    | ret u =>
      obtain ⟨v, σ', H', J, rv, q⟩ := hs'
      exact ⟨v, H', J.os, J.bare, J.base, J.hok, rv, q⟩
    | next =>
      obtain ⟨σ', H', J, q⟩ := hs'
      exact ⟨V.non, H', J.os, J.bare, J.base, J.hok, rfl, q⟩
    | brk =>
      obtain ⟨_, _, _, q⟩ := hs'
      exact q.elim
    | cont =>
      obtain ⟨_, _, _, q⟩ := hs'
      exact q.elim
end
end Lf

set_option Elab.async false
set_option linter.all false
set_option maxRecDepth 100000
set_option maxHeartbeats 4000000
/-! set(texts) of any number of texts, and how many there are. -/
namespace Lf
open PySem PySem.Spec PyProof.Rows
/-- a set of texts: just those of T, and T has each once -/
def TxtSet (prog : Program) (w : World) (h : Heap) (a : Addr) (T : List Str) : Prop := h.SetOf (PySem.strKind prog w) a (fun x => decide (x ∈ T)) T.length
/-- one more text -/
def into (T : List Str) (k : Str) : List Str := if k ∈ T then T else k :: T
theorem into_len (T : List Str) (k : Str) : (into T k).length ≤ T.length + 1 := by
  unfold into
  split
  · omega
  · simp
section
variable {prog : Program} {w : World} {A : Around} {E : Value → Shared → Prop} {R : Result → Shared → Prop} {s : Shared} {a : Addr} {T : List Str} {k : Str} {t : Tok}
theorem TxtSet.keep {h h' : Heap} (X : TxtSet prog w h a T) (e : ∀ o, h.get? a = some o → h'.get? a = some o) : TxtSet prog w h' a T := by
  obtain ⟨o, es, ep, tb, ho, r⟩ := X
  exact ⟨o, es, ep, tb, e o ho, r⟩
theorem put_txt {Q : Bool → Shared → Prop} (X : TxtSet prog w s.heap a T) (room : T.length + 1 < scanBound) (h : ∀ (b : Bool) (h' : Heap) (n : Nat), s.toks ≤ n → Heap.SameBut a s.heap h' → TxtSet prog w h' a (into T k) → Q b { s with heap := h', toks := n }) :
    wpAny (model prog w) A (setAdd a (.str k t)) Q E s := by
  have is : (PySem.strKind prog w).is k (.str k t) = true := by show Value.isStrOf k (.str k t) = true; simp [Value.isStrOf]
  unfold setAdd
  refine wpAny_holding (wpAny_bind ((PySem.strKind prog w).pyHash (k := k) is ?_))
  refine wpAny_setAddHashed_of (knd := PySem.strKind prog w) is rfl (S := fun x => decide (x ∈ T)) (n := T.length) X room fun h' sb X' => ?_
  refine h _ h' _ (by first | exact Nat.le_succ _ | exact Nat.le_refl _) sb ?_
  unfold TxtSet into
  by_cases hk : k ∈ T
  · rw [if_pos hk]
    refine SetOf_congr X' (fun x => ?_) (by simp [hk])
    by_cases hx : x ∈ T
    · simp [hx]
    · have : ¬ x = k := fun e => hx (e ▸ hk)
      simp [hx, this]
  · rw [if_neg hk]
    refine SetOf_congr X' (fun x => ?_) (by simp [hk])
    by_cases hx : x ∈ T
    · simp [hx]
    · simp [hx]
variable {I : Addr} {fp wr : List Addr} {G : Array GenState → Array GenState → Prop} {n : Nat} {P : Nat → Value → Prop} {St : Nat → Shared → Prop}
/-- all that is left to walk goes in -/
theorem fill_txt (W : WalksS prog w A.in1 I fp wr G n P St) (hf : a ∉ fp) (val : Nat → Str) (hv : ∀ i v, P i v → ∃ t, v = .str (val i) t) (hb : n + 1 < scanBound) : ∀ (m i : Nat) (T : List Str) (s : Shared), i + m = n → T.length ≤ i → St i s → TxtSet prog w s.heap a T →
    (∀ s', Moved (a :: wr) G s s' → TxtSet prog w s'.heap a ((List.range' i m).foldl (fun T j => into T (val j)) T) → R (.ok (.ret .none)) s') → codeAny (model prog w) A (.builtin "set.update.loop" ⟨[.ref a, .ref I], []⟩) R s := by
  have hw : a ∉ wr := fun z => hf (W.sub _ z)
  have more : ∀ b ∈ wr, b ∈ a :: wr := fun b z => List.mem_cons_of_mem _ z
  intro m
  induction m with
  | zero =>
    intro i T s e hl st X fin
    have ei : i = n := by omega
    subst ei
    apply codeAny_builtin PyProof.Rows.F.entry_set_update_loop
    rw [Around.under_plainId PyProof.Rows.F.plain_set_update_loop _]
    change wpAny _ A.in1 (pyNext (.ref I) >>= _) _ _ s
    exact wpAny_bind (W.done s _ _ st fun s' mv => wpAny_pure (fin s' (mv.mono more) (X.keep fun o ho => mv.heap a o hw ho)))
  | succ m ih =>
    intro i T s e hl st X fin
    apply codeAny_builtin PyProof.Rows.F.entry_set_update_loop
    rw [Around.under_plainId PyProof.Rows.F.plain_set_update_loop _]
    change wpAny _ A.in1 (pyNext (.ref I) >>= _) _ _ s
    apply wpAny_bind
    apply W.item i s _ _ (by omega) st
    intro v s1 hp st1 mv
    obtain ⟨t, rfl⟩ := hv i v hp
    change wpAny _ A.in1 (holding [Value.str (val i) t] (setAdd a (.str (val i) t)) >>= _) _ _ s1
    apply wpAny_bind
    apply wpAny_holding
    apply put_txt (X.keep fun o ho => mv.heap a o hw ho) (by omega)
    intro b h2 tk htk sb X2
    apply wpAny_pure
    refine ⟨plainId_quiet PyProof.Rows.F.plain_set_update_loop _, ih (i + 1) (into T (val i)) _ (by omega) (by have := into_len T (val i); omega) ?_ X2 ?_⟩
    · refine W.frame _ s1 _ _ st1 htk fun c hc o eo => ?_
      rw [sb.2 c (fun z => hf (z ▸ hc))]
      exact eo
    · intro s3 mv3 X3
      refine fin s3 (Moved.trans W.gtrans ((mv.mono more).then_heap htk fun c o hc eo => ?_) mv3) X3
      rw [sb.2 c (fun z => hc (z ▸ List.mem_cons_self))]
      exact eo
end
end Lf

set_option Elab.async false
set_option linter.all false
set_option maxRecDepth 100000
set_option maxHeartbeats 4000000
namespace Lf
open PySem PySem.Spec PyProof.Rows
/-- a new set, nothing in it -/
def emptySet (led : Bool) : Obj := { cls := .type "set", dict := none, data := .set #[] 0 (.fresh 0 0 led) }
/-- what n texts leave -/
def gone (val : Nat → Str) (n : Nat) : List Str := (List.range' 0 n).foldl (fun T j => into T (val j)) []
section
variable {prog : Program} {w : World} {A : Around} {E : Value → Shared → Prop} {s : Shared} {S l : Addr} {items : Array Value}
/-- set.__init__ of an empty set and a list of texts -/
theorem init_txt {Q : Value → Shared → Prop} {val : Nat → Str} {led : Bool} (hh : A.handled = none) (hS : s.heap.get? S = some (emptySet led)) (hl : s.heap.IsList l items) (ne : S ≠ l) (hv : ∀ i v, items[i]? = some v → ∃ t, v = Value.str (val i) t) (hb : items.size + 1 < scanBound)
    (h : ∀ h' tk, TxtSet prog w h' S (gone val items.size) → (∀ b o, b ≠ S → s.heap.get? b = some o → h'.get? b = some o) → Q .none { s with heap := h', toks := tk }) :
    codeAny (model prog w) A (.call (.builtin "set.__init__") ⟨[.ref S, .ref l], []⟩) (wants Q E) s := by
  have hT : s.TypeIs (.ref S) "set" := ⟨_, hS, rfl⟩
  have lS := Heap.lt_size hS
  apply codeAny_call_builtin PySem.F.called_set.init.plain PySem.F.entry_set_init
  apply check_set_init_1 hT
  obtain ⟨ol, hol, hcl, nl, hdl⟩ := id hl
  have ll := Heap.lt_size hol
  have tl : s.TypeIs (.ref l) "list" := ⟨ol, hol, hcl⟩
  have f1 := PySem.F.sub_list_set
  have f2 := PySem.F.sub_list_frozenset
  have f3 : (Value.type "list" == Value.type "dict") = false := by decide
  unfold Builtin.«set.__init__» noKeywords Builtin.Frozenset.updateFrom
  generalize hPI : pyIter = PI
  wp_walk
  subst hPI
  apply wpAny_pyIter_list hl
  apply wpAny_bind
  apply wpAny_runValue
  have hi : A.in1.in1.handled = none := by simp [hh]
  have nI : l ≠ s.heap.objs.size := Nat.ne_of_lt ll
  have off : S ∉ [s.heap.objs.size, l] := by
    simp only [List.mem_cons, List.not_mem_nil, or_false, not_or]
    exact ⟨Nat.ne_of_lt lS, ne⟩
  have X0 : TxtSet prog w (s.heap.push { cls := .type "list_iterator", data := .fields #[.ref l, .int 0 0] }) S [] := SetOf_congr ((setObjOf_fresh (knd := PySem.strKind prog w) led).setOf (Heap.get?_push_of_some _ hS) (by unfold scanBound; omega)) (fun _ => by simp) rfl
  refine fill_txt ((Walks.list hi _ l nI items).toS) off val hv hb items.size 0 [] _ (Nat.zero_add _) (Nat.le_refl _) ⟨⟨_, Heap.get?_push_size _ rfl, rfl, rfl⟩, hl.push _⟩ X0 fun s2 mv X2 => ?_
  have e2 : s2 = { s with heap := s2.heap, toks := s2.toks } := by
    have g := mv.gens
    have d := mv.drawn
    have o := mv.os
    cases s2
    cases g
    cases d
    cases o
    rfl
  change wpAny _ _ (pure ()) _ _ s2
  apply wpAny_pure
  change wpAny _ _ (ret Value.none) _ _ s2
  apply wpAny_pure
  change Q Value.none s2
  rw [e2]
  refine h s2.heap s2.toks X2 fun b o nb eb => ?_
  refine mv.heap b o ?_ (Heap.get?_push_of_some _ eb)
  simp only [List.mem_cons, List.not_mem_nil, or_false, not_or]
  exact ⟨nb, Nat.ne_of_lt (Heap.lt_size eb)⟩
/-- set(l) -/
theorem set_txt {Q : Value → Shared → Prop} {val : Nat → Str} (hh : A.handled = none) (hl : s.heap.IsList l items) (hv : ∀ i v, items[i]? = some v → ∃ t, v = Value.str (val i) t) (hb : items.size + 1 < scanBound)
    (h : ∀ h' tk, TxtSet prog w h' s.heap.objs.size (gone val items.size) → (∀ b o, s.heap.get? b = some o → h'.get? b = some o) → Q (.ref s.heap.objs.size) { s with heap := h', toks := tk }) : wpAny (model prog w) A (call (.type "set") [.ref l]) Q E s := by
  obtain ⟨c, tl, hmro⟩ := PySem.F.called_set.mro
  have k1 := PySem.F.called_set.made
  have k2 := PySem.F.called_set.sub
  have k3 := PySem.F.called_set.notType
  have k4 := PySem.F.called_set.canCreate
  have k5 := PySem.F.typeCall_set_1 (.ref l)
  have k6 := PySem.F.called_set.init.lookup
  apply wpAny_call
  apply codeAny_of_tree
  change wpAny _ _ (callAny (.type "set") _) _ _ _
  apply wpAny_pure
  refine ⟨Code.quiet_builtin _ (by decide +kernel), codeAny_builtin PySem.F.entry_type_call ?_⟩
  rw [Around.under_plain (weight_type_call_type "set" [.ref l] []) rfl]
  repeat (any_goals (first | assumption | wp_step))
  refine codeAny_mono (code_set_new_1 (.ref l) (E := E) (Q₁ := fun v s1 => ∃ led, v = .ref s.heap.objs.size ∧ s1 = { s with heap := s.heap.push (emptySet led) }) fun led => ⟨led, rfl, rfl⟩) ?_
  intro r s1 hr
  match r, hr with
  | .error e, hr => exact hr
  | .ok (.ret v), hr =>
    obtain ⟨led, rfl, rfl⟩ := hr
    have new : (s.heap.push (emptySet led)).get? s.heap.objs.size = some (emptySet led) := Heap.get?_push_size _ rfl
    have hT : Shared.TypeIs { s with heap := s.heap.push (emptySet led) } (.ref s.heap.objs.size) "set" := ⟨_, new, rfl⟩
    have k7 := PySem.F.called_set.init.bind (.ref s.heap.objs.size)
    have ll : l < s.heap.objs.size := by
      obtain ⟨ol, hol, _⟩ := id hl
      exact Heap.lt_size hol
    have run := init_txt (prog := prog) (w := w) (A := A.in1) (E := E) (s := { s with heap := s.heap.push (emptySet led) }) (Q := fun v s2 => v = .none ∧ Q (.ref s.heap.objs.size) s2) (by simp [hh]) new (hl.push _) (Nat.ne_of_gt ll) hv hb
      fun h' tk X' keep => ⟨rfl, h h' tk X' fun b o e => keep b o (Nat.ne_of_lt (Heap.lt_size e)) (Heap.get?_push_of_some _ e)⟩
    repeat (any_goals (first | assumption | wp_step))
    refine codeAny_mono run ?_
    intro r2 s2 hr2
    match r2, hr2 with
    | .error e, hr2 => exact hr2
    | .ok (.ret v2), hr2 =>
      obtain ⟨rfl, q⟩ := hr2
      repeat (any_goals (first | assumption | wp_step))
end
end Lf

set_option Elab.async false
set_option linter.all false
set_option maxRecDepth 100000
set_option maxHeartbeats 4000000
/-! len(set(texts)) -/
namespace Lf
open PySem PySem.Spec PyProof.Rows L2
/-- each text once -/
def once (xs : List Str) : List Str := xs.foldl into []
theorem once_go : ∀ (xs T : List Str), xs.Nodup → (∀ x ∈ xs, x ∉ T) → (xs.foldl into T).length = T.length + xs.length
  | [], T, _, _ => rfl
  | x :: xs, T, nd, h => by
    rw [List.foldl_cons, show into T x = x :: T from if_neg (h x List.mem_cons_self), once_go xs (x :: T) (List.nodup_cons.mp nd).2 fun y hy => ?_, List.length_cons, List.length_cons]
    · omega
    · rw [List.mem_cons, not_or]
      exact ⟨fun e => (List.nodup_cons.mp nd).1 (e ▸ hy), h y (List.mem_cons_of_mem _ hy)⟩
theorem once_all {xs : List Str} (nd : xs.Nodup) : (once xs).length = xs.length := by
  have := once_go xs [] nd fun _ _ z => nomatch z
  rw [List.length_nil, Nat.zero_add] at this
  exact this
theorem gone_once (xs : List Str) : gone (fun i => xs.getD i Str.empty) xs.length = once xs := by
  have e : (List.range' 0 xs.length).map (fun i => xs.getD i Str.empty) = xs := by
    apply List.ext_getElem
    · simp
    · intro i h1 h2
      rw [List.getElem_map, List.getElem_range', List.getD_eq_getElem?_getD]
      simp at h1
      simp [h1]
  unfold gone once
  conv => rhs; rw [← e]
  rw [List.foldl_map]
def tLenTxt (K : PySem.W.Frag) (ta : TE) : TE := fun σ H Q => ta σ H fun x H1 => ∃ (l : Addr) (xs : List Str), x = .ref l ∧ SqL K H1 l (xs.map V.str) ∧ xs.length ≤ 1000 ∧ Q (.int ((once xs).length : Nat)) H1
theorem once_le : ∀ (xs T : List Str), (xs.foldl into T).length ≤ T.length + xs.length
  | [], T => Nat.le_refl _
  | x :: xs, T => by
    have h1 := once_le xs (into T x)
    have h2 := into_len T x
    rw [List.foldl_cons, List.length_cons]
    omega
theorem strs_at : ∀ {xs : List Str} {us : List Value}, Vals (xs.map V.str) us → ∀ (i : Nat) (v : Value), us[i]? = some v → ∃ t, v = Value.str (xs.getD i Str.empty) t
  | [], _, .nil, i, v, h => by simp at h
  | x :: xs, _, .cons r t, 0, v, h => by
    obtain ⟨k, rfl⟩ := r
    simp at h
    exact ⟨k, h.symm⟩
  | x :: xs, _, .cons r t, i + 1, v, h => by
    obtain ⟨k, e⟩ := strs_at t i v (by simpa using h)
    exact ⟨k, by simpa using e⟩
theorem pe_lenTxt {X : Cx} {a : Expr} {ta : TE} {p p2 q pos : Pos} (hm : X.mg "len" = none) (hm2 : X.mg "set" = none) (ha : PE X a ta) (hg : Gl X "len" := by rfl) (hg2 : Gl X "set" := by rfl) (hc : X.calm = true := by rfl) (na : starEach [a] X.env = (false, eval a X.env) :: starEach [] X.env := by rfl) :
    PE X (.Call (.Name "len" p) [.Call (.Name "set" p2) [a] [] q] [] pos) (tLenTxt X.K ta) := by
  constructor
  intro pins s σ H Q I h
  refine Call_ ?_
  apply ld_blt I hg hm boot_len
  apply callWith_builtin1 _ rfl rfl
  apply args_cons _ rfl
  refine Call_ ?_
  apply ld_blt I hg2 hm2 boot_set
  apply callWith_type1 _ na rfl
  apply args_cons _ na
  apply thn (ha.run pins s σ H _ I h)
  rintro v s1 ⟨x, H1, I1, r1, l, xs, rfl, hq, hl, q1⟩
  cases (show v = Value.ref l from r1)
  apply args_nil
  obtain ⟨its, r, pl, hz⟩ := I1.list hq
  have hn : its.toArray.size = xs.length := by
    have := r.length
    rw [List.length_map] at this
    simp [this]
  refine set_txt (val := fun i => xs.getD i Str.empty) (I1.ok.hd hc) pl.isList (fun i v hv => strs_at r i v (by simpa using hv)) (by rw [hn]; unfold scanBound; omega) ?_
  intro h' tk X' keep
  rw [hn, gone_once] at X'
  apply args_nil
  obtain ⟨o, es, ep, t, ho, hex, hd, _, _, _, hf, he⟩ := X'
  have I2 : Inv X pins σ H1 { s1 with heap := h', toks := tk } := I1.kept keep
  have ob := once_le xs []
  rw [List.length_nil, Nat.zero_add] at ob
  have ob' : (once xs).length ≤ xs.length := ob
  exact call_len_set ho hex hd hf (by rw [he]; omega) ⟨.int ((once xs).length : Nat), H1, I2.tok _, ⟨_, by rw [he]⟩, q1⟩
end Lf

set_option Elab.async false
set_option linter.all false
set_option maxRecDepth 100000
set_option maxHeartbeats 4000000
set_option exponentiation.threshold 3000
/-! Rows of fractions as data: shown, compared. -/
namespace Lf
open PySem PySem.Spec PyProof.Rows L2
section
variable {K : PySem.W.Frag}
theorem tD_shaped (f : Int × Int) : SeqAt.shaped (tD f) = true := by
  unfold SeqAt.shaped
  rw [Bool.and_eq_true]
  refine ⟨by simp only [tD, PyData.canLay0, PyData.canLayAll0, Bool.and_self], decide_eq_true ?_⟩
  simp only [tD, PyData.depth, PyData.depthAll]
  omega
theorem AtK.dp {H : Hp} {v : V} {f : Int × Int} (h : AtK K H v f) : Dp K H v (tD f) := by
  obtain ⟨p, rfl, hp⟩ := h
  exact dp2 hp
theorem AtKs.dpAll {H : Hp} : ∀ {vs : List V} {fs : List (Int × Int)}, AtKs K H vs fs → DpAll K H vs (fs.map tD)
  | _, _, .nil => .nil
  | _, _, .cons ⟨p, e, h⟩ r => by
    subst e
    exact .cons (dp2 h) (AtKs.dpAll r)
theorem row_lay : ∀ fs : List (Int × Int), PyData.canLayAll0 (fs.map tD) = true ∧ PyData.depthAll (fs.map tD) ≤ 1
  | [] => ⟨by simp only [List.map_nil, PyData.canLayAll0], by simp only [List.map_nil, PyData.depthAll]; omega⟩
  | f :: fs => by
    obtain ⟨i1, i2⟩ := row_lay fs
    refine ⟨?_, ?_⟩
    · simp only [List.map_cons, PyData.canLayAll0, i1, tD, PyData.canLay0, Bool.and_self]
    · simp only [List.map_cons, PyData.depthAll, tD, PyData.depth]
      omega
theorem row_shaped (fs : List (Int × Int)) : SeqAt.shaped (.list (fs.map tD)) = true := by
  obtain ⟨i1, i2⟩ := row_lay fs
  unfold SeqAt.shaped
  rw [Bool.and_eq_true]
  refine ⟨by simp only [PyData.canLay0]; exact i1, decide_eq_true ?_⟩
  simp only [PyData.depth]
  omega
theorem eqv_tD (f g : Int × Int) : PyData.eqv (tD f) (tD g) = decide (f = g) := by
  obtain ⟨a, b⟩ := f
  obtain ⟨c, d⟩ := g
  simp only [tD, PyData.eqv, PyData.eqvAll, Bool.and_true]
  by_cases h : (a, b) = (c, d)
  · rw [decide_eq_true h]
    cases h
    simp
  · rw [decide_eq_false h]
    by_cases h1 : a = c
    · by_cases h2 : b = d
      · exact absurd (by rw [h1, h2]) h
      · simp [h2]
    · simp [h1]
theorem row_eqv : ∀ fs : List (Int × Int), PyData.eqvAll (fs.map tD) (fs.map tD) = true
  | [] => by simp only [List.map_nil, PyData.eqvAll]
  | f :: fs => by simp only [List.map_cons, PyData.eqvAll, eqv_tD, row_eqv fs, decide_true, Bool.and_self]
theorem rowD_eqv (fs : List (Int × Int)) : PyData.eqv (.list (fs.map tD)) (.list (fs.map tD)) = true := by
  simp only [PyData.eqv]
  exact row_eqv fs
theorem Ft.intB {k : Nat} {n : Int} (h : n.natAbs < 2 ^ k) (hk : k ≤ 900) (h0 : 0 < k) : Ft k 0 (.int n) := by
  have f := Ft.int (n := n) (Nat.lt_of_lt_of_le h (Nat.pow_le_pow_right (by decide) hk))
  refine ⟨f.sh, f.nd, f.dp, f.lv, ?_⟩
  simp only [PyData.weight]
  have := PySem.Flt.log2_lt_of (by omega) h
  split <;> omega
theorem row_ft {k : Nat} (hk : k ≤ 900) (h0 : 0 < k) : ∀ fs : List (Int × Int), (∀ f ∈ fs, Bt k f) → FtA ((2 * k + 3) * fs.length) 1 (fs.map tD)
  | [], _ => by
    have := FtA.nil
    exact ⟨this.sh, this.nd, Nat.le_trans this.dp (by decide), this.lv, by simpa using this.wt⟩
  | f :: fs, h => by
    have hb := h f List.mem_cons_self
    have f1 : Ft _ _ (tD f) := Ft.tuple (.cons (Ft.intB hb.1 hk h0) (.cons (Ft.intB hb.2 hk h0) .nil))
    have r := FtA.cons f1 (row_ft hk h0 fs fun g hg => h g (List.mem_cons_of_mem _ hg))
    rw [List.map_cons]
    refine ⟨r.sh, r.nd, Nat.le_trans r.dp (by decide), r.lv, Nat.le_trans r.wt ?_⟩
    rw [List.length_cons, Nat.mul_succ]
    omega
theorem cut_last (ys : List V) (x : V) : cutV (ys ++ [x]) none (some (-1)) = ys := by
  unfold cutV
  have h1 : HT.sIx (ys ++ [x]).length 0 none = 0 := by simp [HT.sIx]
  have h2 : HT.sIx (ys ++ [x]).length (ys ++ [x]).length (some (-1)) = ys.length := by
    simp [HT.sIx]
    omega
  rw [h1, h2]
  simp
theorem rowD {H : Hp} {l : Addr} {xs : List V} {fs : List (Int × Int)} (h : SqL K H l xs) (a : AtKs K H xs fs) : Dp K H (.ref l) (.list (fs.map tD)) := .lst h a.dpAll
theorem pg_tupK {X : Cx} {K : PySem.W.Frag} {es : List Expr} {k : Nat} {t : TGs} {n : Nat} {pos : Pos} (hc : X.calm = true) (h : PGs X es t)
    (hn : (assignEach es X.env).length = n := by rfl) (hst : (assignEach es X.env).findIdx? (·.1) = none := by rfl) (hK : X.K = K := by rfl) : PG X (.Tuple es k pos) (gTup K n t) := hK ▸ pg_tup hc h hn hst
end
end Lf


set_option Elab.async false
set_option linter.all false
set_option maxRecDepth 100000
set_option maxHeartbeats 4000000
set_option exponentiation.threshold 3000
namespace Lf
open PySem PySem.Spec PyProof.Rows L2
theorem bt_list : bootBuiltins "list" = some (.type "list") := by decide +kernel
theorem ix_tupK {X : Cx} {K : PySem.W.Frag} (hK : X.K = K := by rfl) : IxR X (rIxT K) := hK ▸ ix_tup
/-- a statement that is never come to -/
theorem ps_dead {X : Cx} {st : Stmt} : PS X st (fun _ _ _ => False) := ⟨fun _ _ _ _ _ _ h => h.elim⟩
section
variable {P : Program} {w : World} {K : PySem.W.Frag} {mg : Str → Option Value} {base : Heap} {c0 c1 : Addr}
theorem isfr_t {f : Int × Int} (h : IsF f) : isFr (tD f) = true := by
  show (decide (0 < f.2) && decide (Nat.gcd f.1.natAbs f.2.natAbs = 1)) = true
  rw [decide_eq_true h.1, decide_eq_true h.2]
  rfl
theorem AtK.dq {H : Hp} {v : V} {f : Int × Int} (h : AtK K H v f) : Dq K H v (tD f) := by
  obtain ⟨p, rfl, hp⟩ := h
  exact .dp (dp2 hp) (by rfl)
theorem nm_is {z : Str} (h : AllL z) (l1 : 1 ≤ z.length) (le : z.length ≤ 10) : isNm (.str z) = true := by
  show (decide (1 ≤ z.length) && decide (z.length ≤ 10) && z.cps.toList.all inL) = true
  rw [decide_eq_true l1, decide_eq_true le]
  exact List.all_eq_true.mpr h
/-- a name -/
structure Nm (z : Str) : Prop where
  al : AllL z
  l1 : 1 ≤ z.length
  le : z.length ≤ 10
/-- a row: a name and a fraction above 0 -/
structure RwOk (r : Str × (Int × Int)) : Prop where
  nm : Nm r.1
  lo : IsF r.2
  po : 0 < r.2.1
def RwAt (K : PySem.W.Frag) (H : Hp) (v : V) (r : Str × (Int × Int)) : Prop := ∃ p vf, v = .ref p ∧ SqT K H p [.str r.1, vf] ∧ AtK K H vf r.2
theorem RwAt.same {H H' : Hp} {v : V} {r : Str × (Int × Int)} (s : Same H H') (h : RwAt K H v r) : RwAt K H' v r := by
  obtain ⟨p, vf, e, h1, h2⟩ := h
  exact ⟨p, vf, e, sm_t s h1, h2.same s⟩
def RwsAt (K : PySem.W.Frag) (H : Hp) (xs : List V) (rs : List (Str × (Int × Int))) : Prop := Paired (RwAt K H) xs rs
theorem RwsAt.same {H H' : Hp} (s : Same H H') : ∀ {xs : List V} {rs : List (Str × (Int × Int))}, RwsAt K H xs rs → RwsAt K H' xs rs
  | _, _, .nil => .nil
  | _, _, .cons a r => .cons (a.same s) (RwsAt.same s r)
theorem RwsAt.get {H : Hp} : ∀ {xs : List V} {rs : List (Str × (Int × Int))} {i : Nat} {v : V}, RwsAt K H xs rs → xs[i]? = some v → ∃ r, rs[i]? = some r ∧ RwAt K H v r
  | _, _, _, _, .nil, e => by simp at e
  | _, _, 0, _, .cons a _, e => by simp at e; subst e; exact ⟨_, rfl, a⟩
  | _, _, i + 1, v, .cons _ r, e => by
    obtain ⟨x, h1, h2⟩ := RwsAt.get (i := i) (v := v) r (by simpa using e)
    exact ⟨x, by simpa using h1, h2⟩
/-- rows: one to eight, each of another name -/
structure RwsOk (rs : List (Str × (Int × Int))) : Prop where
  all : ∀ r ∈ rs, RwOk r
  one : 1 ≤ rs.length
  few : rs.length ≤ 8
  nd : (rs.map (·.1)).Nodup
  cm : Cmn (rs.map (·.2))
theorem RwsOk.bt {rs : List (Str × (Int × Int))} (h : RwsOk rs) {r : Str × (Int × Int)} (hr : r ∈ rs) : Bt 880 r.2 := h.cm.bt (List.mem_map_of_mem hr)

/-! ### is_above_0 -/
theorem sc_is_above_0 : FnScope ["thing"] ["thing"] (defScope s_is_above_0) := ⟨rfl, rfl, rfl, by decide +kernel, rfl, by decide +kernel, by decide +kernel⟩
def sp_ab0 (K : PySem.W.Frag) : Sp := fun vs H Q _ => ∃ (v : V) (f : Int × Int), vs = [v] ∧ AtK K H v f ∧ IsF f ∧ Q (.bl (decide (0 < f.1))) H
theorem ok_ab0 {f : Addr} {fd : FuncData} (F : Fun K "is_above_0" "is_above_0" s_is_above_0 f fd) (C_is_fraction : Cal P w K mg base CX0 2 "is_fraction" ["thing"] (sp_isfr K)) : FnG P w K mg base CX0 3 f fd ["thing"] (sp_ab0 K) := by
  refine Gfun F sc_is_above_0 (fun vs H Q E h => ?_) (fun cdv A outer s H vs Q E hg hr h => ?_)
  · obtain ⟨v, d, rfl, _⟩ := h
    rfl
  · obtain ⟨v, d, rfl, hv, hf, k⟩ := h
    refine ⟨_, (pss_one (ps_ret (pe_and (pe_g C_is_fraction (hr.mono (by decide)) hg (pa_cons (pv 0) pa_nil)) (pe_one (pe_cmpR op_gt (pe_ix ix_tup (pv 0) pe_int (fun _ _ => rfl)) pe_int (nomark _)))))), ?_⟩
    refine ⟨_, rfl, v, tD d, rfl, hv.dq, ?_⟩
    rw [isfr_t hf]
    refine ⟨_, rfl, iteT ?_⟩
    obtain ⟨p, rfl, hp⟩ := hv
    exact ⟨_, rfl, p, _, _, _, rfl, rfl, hp, atI_nat (j := 0) rfl, _, _, rfl, rfl, k⟩

/-! ### is_row -/
theorem sc_is_row : FnScope ["thing"] ["thing"] (defScope s_is_row) := ⟨rfl, rfl, rfl, by decide +kernel, rfl, by decide +kernel, by decide +kernel⟩
def sp_isrow (K : PySem.W.Frag) : Sp := fun vs H Q _ => ∃ (v : V) (r : Str × (Int × Int)), vs = [v] ∧ RwAt K H v r ∧ RwOk r ∧ ∀ H', Same H H' → Q (.bl true) H'
theorem ok_isrow {f : Addr} {fd : FuncData} (M : Blt mg) (Mx : Bltx mg) (F : Fun K "is_row" "is_row" s_is_row f fd) (C_is_name : Cal P w K mg base CX0 2 "is_name" ["thing"] (sp_isnm K)) (C_is_above_0 : Cal P w K mg base CX0 3 "is_above_0" ["thing"] (sp_ab0 K)) : FnG P w K mg base CX0 4 f fd ["thing"] (sp_isrow K) := by
  refine Gfun F sc_is_row (fun vs H Q E h => ?_) (fun cdv A outer s H vs Q E hg hr h => ?_)
  · obtain ⟨v, r, rfl, _⟩ := h
    rfl
  · obtain ⟨_, r, rfl, ⟨p, vf, rfl, hp, hf⟩, ok, k⟩ := h
    refine ⟨_, (pss_cons (ps_if (PW.pt (pw_or (pt_not (pt_val (pe_callB call_isi rfl Mx.isinstance bt_isinstance (pa_cons (pv 0) (pa_cons (pe_bltn (v := .ty "tuple") rfl Mx.tuple bt_tuple rfl) pa_nil))))) (pw_or1 (pt_cmpR op_ne (pe_callB call_len_seq rfl M.len bt_len (pa_cons (pv 0) pa_nil)) pe_int (nomark _)))))
      (pss_one (ps_ret pe_bl))
      pss_nil)
      (pss_one (ps_ret (pe_and (pe_g C_is_name (hr.mono (by decide)) hg (pa_cons (pe_ix ix_tup (pv 0) pe_int (fun _ _ => rfl)) pa_nil)) (pe_one (pe_g C_is_above_0 (hr.mono (by decide)) hg (pa_cons (pe_ix ix_tup (pv 0) pe_int (fun _ _ => rfl)) pa_nil))))))), ?_⟩
    have ty : TyX K H (.ref p) (.type "tuple") := by
      rcases hp with (h | ⟨o, h⟩) | ⟨o, arr, n, hk, hc, _⟩
      · exact .base (.tup h)
      · exact .fTuple h
      · exact .kTuple hk hc
    refine ⟨_, rfl, _, _, _, _, _, rfl, .ty "tuple", ty, kit_ty (show kitB "tuple" "tuple" = some true by decide +kernel), _, rfl, iteF ?_⟩
    refine ⟨_, rfl, p, _, rfl, .inr hp, rfl, _, rfl, iteF ?_⟩
    refine ⟨_, rfl, p, _, _, _, rfl, rfl, hp, atI_nat (j := 0) rfl, .str r.1, .str r.1, rfl, .dp (.str r.1) (by rfl), fun z' e => by cases e; exact Nat.le_trans ok.nm.le (by decide), fun H1 s1 => ?_⟩
    rw [nm_is ok.nm.al ok.nm.l1 ok.nm.le]
    refine ⟨_, rfl, iteT ?_⟩
    refine ⟨_, rfl, p, _, _, _, rfl, rfl, sm_t s1 hp, atI_nat (j := 1) rfl, vf, r.2, rfl, hf.same s1, ok.lo, ?_⟩
    rw [decide_eq_true ok.po]
    exact k _ s1

/-! ### are_rows -/
theorem sc_are_rows : FnScope ["thing", "row"] ["thing"] (defScope s_are_rows) := ⟨rfl, rfl, rfl, by decide +kernel, rfl, by decide +kernel, by decide +kernel⟩
def sp_arerL (K : PySem.W.Frag) : Sp := fun vs H Q _ => ∃ (a : Addr) (xs : List V) (rs : List (Str × (Int × Int))), vs = [.ref a] ∧ SqL K H a xs ∧ RwsAt K H xs rs ∧ RwsOk rs ∧ ∀ H', Same H H' → Q (.bl true) H'
theorem ok_arerL {f : Addr} {fd : FuncData} {tk : Tok} (M : Blt mg) (Mx : Bltx mg) (ml : mg "list" = none) (ms : mg "set" = none) (G_MOST : mg "MOST_ROWS" = some (.int 8 tk)) (F : Fun K "are_rows" "are_rows" s_are_rows f fd) (C_is_row : Cal P w K mg base CX0 4 "is_row" ["thing"] (sp_isrow K)) : FnG P w K mg base CX0 5 f fd ["thing"] (sp_arerL K) := by
  refine Gfun F sc_are_rows (fun vs H Q E h => ?_) (fun cdv A outer s H vs Q E hg hr h => ?_)
  · obtain ⟨a, xs, rs, rfl, _⟩ := h
    rfl
  · obtain ⟨a, xs, rs, rfl, hS, hA, ok, k⟩ := h
    refine ⟨_, (pss_cons (ps_if (PW.pt (pw_or (pt_not (pt_val (pe_callB call_isiT rfl Mx.isinstance bt_isinstance (pa_cons (pv 0) (pa_cons (pe_tup (pa_cons (pe_bltn (v := .ty "list") rfl ml bt_list rfl) (pa_cons (pe_bltn (v := .ty "tuple") rfl Mx.tuple bt_tuple rfl) pa_nil))) pa_nil))))) (pw_or1 (pt_not (pt_chain op_le op_le pe_int (pe_callB call_len_seq rfl M.len bt_len (pa_cons (pv 0) pa_nil)) (pe_glob (v := .int 8) rfl G_MOST ⟨_, rfl⟩))))))
      (pss_one (ps_ret pe_bl))
      pss_nil)
      (pss_cons (ps_if (pt_not (pt_val (pe_callB (cr_all rfl) rfl M.all bt_all (pa_cons (pe_lc (own := [("row", 1)]) (g := gName 1) (tt := tYes) rfl sc_are_rows.nd (pi_list (pv 0)) (blkOk_by (N := ["thing", "row"]) (sc := defScope s_are_rows) (by decide +kernel)) (fun _ _ _ _ _ => pg_name (i := 1) sc_are_rows.nd rfl (Or.inl rfl)) (fun _ _ _ _ _ => pts_nil) (fun _ _ _ _ _ => (pe_g C_is_row (hr.mono (by decide)) hg (pa_cons (pv 1) pa_nil)))) pa_nil))))
      (pss_one (ps_ret pe_bl))
      pss_nil)
      (pss_one (ps_ret (pe_cmpR op_eq (pe_lenTxt M.len ms (pe_lc (own := [("row", 1)]) (g := gName 1) (tt := tYes) rfl sc_are_rows.nd (pi_list (pv 0)) (blkOk_by (N := ["thing", "row"]) (sc := defScope s_are_rows) (by decide +kernel)) (fun _ _ _ _ _ => pg_name (i := 1) sc_are_rows.nd rfl (Or.inl rfl)) (fun _ _ _ _ _ => pts_nil) (fun _ _ _ _ _ => (pe_ix (ix_tupK (K := K)) (pv 1) pe_int (fun _ _ => rfl))))) (pe_callB call_len_seq rfl M.len bt_len (pa_cons (pv 0) pa_nil)) (nomark _)))))), ?_⟩
    refine ⟨_, rfl, len_show (Nat.le_of_ble_eq_true rfl), fun tp nt => ?_⟩
    have s1 : Same H (L2.upd H tp (.tup [.ty "list", .ty "tuple"])) := same_new nt
    have ty : TyX K (L2.upd H tp (.tup [.ty "list", .ty "tuple"])) (.ref a) (.type "list") := by
      rcases hS with (h | ⟨o, h⟩) | ⟨o, arr, n, hk, hc, _⟩
      · exact .base (.lst (same_new nt _ _ h))
      · exact .base (.frz (same_new nt _ _ h))
      · exact .kList hk hc
    refine ⟨_, tp, _, _, _, true, rfl, upd_same, .cons (.ty "list") (.cons (.ty "tuple") .nil), ty, kitAny_cons (kit_ty (show kitB "list" "list" = some true by decide +kernel)) (fun z => nomatch z) (fun _ => rfl), _, rfl, ?_⟩
    generalize L2.upd H tp (.tup [.ty "list", .ty "tuple"]) = H1 at s1 ⊢
    refine iteF ?_
    have hl : xs.length = rs.length := Paired.length hA
    have h1 := ok.one
    have h8 := ok.few
    refine ⟨_, rfl, a, xs, rfl, .inl (sm_l s1 hS), _, _, rfl, rfl, _, rfl, ?_⟩
    rw [decide_eq_true (show (1 : Int) ≤ (xs.length : Int) by omega)]
    refine iteT ⟨_, _, rfl, rfl, _, rfl, ?_⟩
    rw [decide_eq_true (show (xs.length : Int) ≤ 8 by omega)]
    refine iteF ?_
    refine ⟨_, rfl, a, rfl, ⟨_, sm_l s1 hS⟩, fun D hD => lc_list (xs := xs) (fun i H' => H' D = some (.lst (List.replicate i (.bl true))) ∧ Same H1 H') ⟨upd_same, same_new hD⟩ (fun i H' _ h => sm_l (s1.trans h.2) hS) ?_ ?_⟩
    · rintro i x H2 hx ⟨eD, sm⟩
      obtain ⟨g, hgi, hg0⟩ := hA.get hx
      have hw := ok.all g (List.mem_of_getElem? hgi)
      have hi : i < xs.length := (List.getElem?_eq_some_iff.mp hx).1
      refine ⟨rfl, _, rfl, x, g, rfl, hg0.same (s1.trans sm), hw, fun H3 s3 => ?_⟩
      refine ⟨_, s3 _ _ eD, ?_, ?_, fun b o e => ?_⟩
      · rw [List.length_replicate, sizeLine_eq]
        omega
      · rw [upd_same, List.replicate_succ']
      · rw [upd_ne (ne_of_none e hD)]
        exact s3 _ _ (sm _ _ e)
    · rintro H2 ⟨eD, sm⟩
      refine ⟨D, List.replicate xs.length true, rfl, .inl (.inl (by rw [eD, List.map_replicate])), ?_⟩
      have ha : (List.replicate xs.length true).all id = true := by
        rw [List.all_eq_true]
        intro b hb
        rw [(List.mem_replicate.mp hb).2]
        rfl
      rw [ha]
      refine ⟨_, rfl, iteF ?_⟩
      refine ⟨_, rfl, a, rfl, ⟨_, sm_l (s1.trans sm) hS⟩, fun D2 hD2 => lc_list (xs := xs) (fun i H' => H' D2 = some (.lst (((rs.map (·.1)).take i).map V.str)) ∧ Same H2 H') ⟨upd_same, same_new hD2⟩ (fun i H' _ h => sm_l (s1.trans (sm.trans h.2)) hS) ?_ ?_⟩
      · rintro i x H3 hx ⟨e3, sm3⟩
        obtain ⟨g, hgi, ⟨p, vf, rfl, hp, hf⟩⟩ := hA.get hx
        have hi : i < xs.length := (List.getElem?_eq_some_iff.mp hx).1
        refine ⟨rfl, _, rfl, p, _, _, _, rfl, rfl, sm_t (s1.trans (sm.trans sm3)) hp, atI_nat (j := 0) rfl, _, e3, ?_, ?_, fun b o e => ?_⟩
        · rw [List.length_map, List.length_take, sizeLine_eq]
          omega
        · have hg2 : (rs.map (·.1))[i]? = some g.1 := by rw [List.getElem?_map, hgi]; rfl
          rw [upd_same, List.take_succ, hg2, List.map_append]
          rfl
        · rw [upd_ne (ne_of_none e hD2)]
          exact sm3 _ _ e
      · rintro H3 ⟨e3, sm3⟩
        rw [List.take_of_length_le (by rw [List.length_map]; omega)] at e3
        refine ⟨D2, rs.map (·.1), rfl, .inl (.inl e3), by rw [List.length_map]; omega, ?_⟩
        refine ⟨_, rfl, a, xs, rfl, .inl (sm_l (s1.trans (sm.trans sm3)) hS), rfl, ?_⟩
        have el : decide (V.int ((once (rs.map (·.1))).length : Nat) = V.int (xs.length : Nat)) = true := decide_eq_true (by rw [once_all ok.nd, List.length_map, hl])
        rw [el]
        exact k _ (s1.trans (sm.trans sm3))

def sp_arerT (K : PySem.W.Frag) : Sp := fun vs H Q _ => ∃ (a : Addr) (xs : List V) (rs : List (Str × (Int × Int))), vs = [.ref a] ∧ SqT K H a xs ∧ RwsAt K H xs rs ∧ RwsOk rs ∧ ∀ H', Same H H' → Q (.bl true) H'
theorem ok_arerT {f : Addr} {fd : FuncData} {tk : Tok} (M : Blt mg) (Mx : Bltx mg) (ml : mg "list" = none) (ms : mg "set" = none) (G_MOST : mg "MOST_ROWS" = some (.int 8 tk)) (F : Fun K "are_rows" "are_rows" s_are_rows f fd) (C_is_row : Cal P w K mg base CX0 4 "is_row" ["thing"] (sp_isrow K)) : FnG P w K mg base CX0 5 f fd ["thing"] (sp_arerT K) := by
  refine Gfun F sc_are_rows (fun vs H Q E h => ?_) (fun cdv A outer s H vs Q E hg hr h => ?_)
  · obtain ⟨a, xs, rs, rfl, _⟩ := h
    rfl
  · obtain ⟨a, xs, rs, rfl, hS, hA, ok, k⟩ := h
    refine ⟨_, (pss_cons (ps_if (PW.pt (pw_or (pt_not (pt_val (pe_callB call_isiT rfl Mx.isinstance bt_isinstance (pa_cons (pv 0) (pa_cons (pe_tup (pa_cons (pe_bltn (v := .ty "list") rfl ml bt_list rfl) (pa_cons (pe_bltn (v := .ty "tuple") rfl Mx.tuple bt_tuple rfl) pa_nil))) pa_nil))))) (pw_or1 (pt_not (pt_chain op_le op_le pe_int (pe_callB call_len_seq rfl M.len bt_len (pa_cons (pv 0) pa_nil)) (pe_glob (v := .int 8) rfl G_MOST ⟨_, rfl⟩))))))
      (pss_one (ps_ret pe_bl))
      pss_nil)
      (pss_cons (ps_if (pt_not (pt_val (pe_callB (cr_all rfl) rfl M.all bt_all (pa_cons (pe_lc (own := [("row", 1)]) (g := gName 1) (tt := tYes) rfl sc_are_rows.nd (pi_tup (pv 0)) (blkOk_by (N := ["thing", "row"]) (sc := defScope s_are_rows) (by decide +kernel)) (fun _ _ _ _ _ => pg_name (i := 1) sc_are_rows.nd rfl (Or.inl rfl)) (fun _ _ _ _ _ => pts_nil) (fun _ _ _ _ _ => (pe_g C_is_row (hr.mono (by decide)) hg (pa_cons (pv 1) pa_nil)))) pa_nil))))
      (pss_one (ps_ret pe_bl))
      pss_nil)
      (pss_one (ps_ret (pe_cmpR op_eq (pe_lenTxt M.len ms (pe_lc (own := [("row", 1)]) (g := gName 1) (tt := tYes) rfl sc_are_rows.nd (pi_tup (pv 0)) (blkOk_by (N := ["thing", "row"]) (sc := defScope s_are_rows) (by decide +kernel)) (fun _ _ _ _ _ => pg_name (i := 1) sc_are_rows.nd rfl (Or.inl rfl)) (fun _ _ _ _ _ => pts_nil) (fun _ _ _ _ _ => (pe_ix (ix_tupK (K := K)) (pv 1) pe_int (fun _ _ => rfl))))) (pe_callB call_len_seq rfl M.len bt_len (pa_cons (pv 0) pa_nil)) (nomark _)))))), ?_⟩
    refine ⟨_, rfl, len_show (Nat.le_of_ble_eq_true rfl), fun tp nt => ?_⟩
    have s1 : Same H (L2.upd H tp (.tup [.ty "list", .ty "tuple"])) := same_new nt
    have ty : TyX K (L2.upd H tp (.tup [.ty "list", .ty "tuple"])) (.ref a) (.type "tuple") := by
      rcases hS with (h | ⟨o, h⟩) | ⟨o, arr, n, hk, hc, _⟩
      · exact .base (.tup (same_new nt _ _ h))
      · exact .fTuple (same_new nt _ _ h)
      · exact .kTuple hk hc
    refine ⟨_, tp, _, _, _, true, rfl, upd_same, .cons (.ty "list") (.cons (.ty "tuple") .nil), ty, kitAny_cons (kit_ty (show kitB "tuple" "list" = some false by decide +kernel)) (fun _ => kitAny_cons (kit_ty (show kitB "tuple" "tuple" = some true by decide +kernel)) (fun z => nomatch z) (fun _ => rfl)) (fun z => nomatch z), _, rfl, ?_⟩
    generalize L2.upd H tp (.tup [.ty "list", .ty "tuple"]) = H1 at s1 ⊢
    refine iteF ?_
    have hl : xs.length = rs.length := Paired.length hA
    have h1 := ok.one
    have h8 := ok.few
    refine ⟨_, rfl, a, xs, rfl, .inr (sm_t s1 hS), _, _, rfl, rfl, _, rfl, ?_⟩
    rw [decide_eq_true (show (1 : Int) ≤ (xs.length : Int) by omega)]
    refine iteT ⟨_, _, rfl, rfl, _, rfl, ?_⟩
    rw [decide_eq_true (show (xs.length : Int) ≤ 8 by omega)]
    refine iteF ?_
    refine ⟨_, rfl, a, rfl, ⟨_, sm_t s1 hS⟩, fun D hD => lc_tup (xs := xs) (fun i H' => H' D = some (.lst (List.replicate i (.bl true))) ∧ Same H1 H') ⟨upd_same, same_new hD⟩ (fun i H' _ h => sm_t (s1.trans h.2) hS) ?_ ?_⟩
    · rintro i x H2 hx ⟨eD, sm⟩
      obtain ⟨g, hgi, hg0⟩ := hA.get hx
      have hw := ok.all g (List.mem_of_getElem? hgi)
      have hi : i < xs.length := (List.getElem?_eq_some_iff.mp hx).1
      refine ⟨rfl, _, rfl, x, g, rfl, hg0.same (s1.trans sm), hw, fun H3 s3 => ?_⟩
      refine ⟨_, s3 _ _ eD, ?_, ?_, fun b o e => ?_⟩
      · rw [List.length_replicate, sizeLine_eq]
        omega
      · rw [upd_same, List.replicate_succ']
      · rw [upd_ne (ne_of_none e hD)]
        exact s3 _ _ (sm _ _ e)
    · rintro H2 ⟨eD, sm⟩
      refine ⟨D, List.replicate xs.length true, rfl, .inl (.inl (by rw [eD, List.map_replicate])), ?_⟩
      have ha : (List.replicate xs.length true).all id = true := by
        rw [List.all_eq_true]
        intro b hb
        rw [(List.mem_replicate.mp hb).2]
        rfl
      rw [ha]
      refine ⟨_, rfl, iteF ?_⟩
      refine ⟨_, rfl, a, rfl, ⟨_, sm_t (s1.trans sm) hS⟩, fun D2 hD2 => lc_tup (xs := xs) (fun i H' => H' D2 = some (.lst (((rs.map (·.1)).take i).map V.str)) ∧ Same H2 H') ⟨upd_same, same_new hD2⟩ (fun i H' _ h => sm_t (s1.trans (sm.trans h.2)) hS) ?_ ?_⟩
      · rintro i x H3 hx ⟨e3, sm3⟩
        obtain ⟨g, hgi, ⟨p, vf, rfl, hp, hf⟩⟩ := hA.get hx
        have hi : i < xs.length := (List.getElem?_eq_some_iff.mp hx).1
        refine ⟨rfl, _, rfl, p, _, _, _, rfl, rfl, sm_t (s1.trans (sm.trans sm3)) hp, atI_nat (j := 0) rfl, _, e3, ?_, ?_, fun b o e => ?_⟩
        · rw [List.length_map, List.length_take, sizeLine_eq]
          omega
        · have hg2 : (rs.map (·.1))[i]? = some g.1 := by rw [List.getElem?_map, hgi]; rfl
          rw [upd_same, List.take_succ, hg2, List.map_append]
          rfl
        · rw [upd_ne (ne_of_none e hD2)]
          exact sm3 _ _ e
      · rintro H3 ⟨e3, sm3⟩
        rw [List.take_of_length_le (by rw [List.length_map]; omega)] at e3
        refine ⟨D2, rs.map (·.1), rfl, .inl (.inl e3), by rw [List.length_map]; omega, ?_⟩
        refine ⟨_, rfl, a, xs, rfl, .inr (sm_t (s1.trans (sm.trans sm3)) hS), rfl, ?_⟩
        have el : decide (V.int ((once (rs.map (·.1))).length : Nat) = V.int (xs.length : Nat)) = true := decide_eq_true (by rw [once_all ok.nd, List.length_map, hl])
        rw [el]
        exact k _ (s1.trans (sm.trans sm3))

end
end Lf

set_option Elab.async false
set_option linter.all false
set_option maxRecDepth 100000
set_option maxHeartbeats 4000000
set_option exponentiation.threshold 3000
/-! == by an own __eq__ that tells True or False, repr by an own __repr__, where no guard stands. -/
namespace Lf
open PySem PySem.Spec PyProof.Rows L2
/-- the special method m of the class at C, and what it promises -/
structure OwnM (P : Program) (w : World) (K : PySem.W.Frag) (mg : Str → Option Value) (base : Heap) (k : Nat) (C : Addr) (m : Str) (f : Addr) (fd : FuncData) (ps : List Str) (sp : Sp) : Prop where
  at_ : PySem.W.findIn K (.ref C) m = some (some (.ref f))
  isf : PySem.W.isFn K (.ref f) = true
  fn : FnG P w K mg base CX0 k f fd ps sp
  b : ∀ (s : Shared) (us : List Value), us.length = ps.length → BindsTo s fd ⟨us, []⟩ (ps.zip us)
section
variable {X : Cx} {k : Nat} {f C : Addr} {fd : FuncData} {ps : List Str} {sp : Sp} {m : Str}
/-- a special method runs on an object, in the caller's around or just below it -/
theorem OwnM.run (M : OwnM X.prog X.w X.K X.mg X.base k C m f fd ps sp) {B : Around} (hr : Room k B) (hG : B.guards = some []) (hf : B.frames = X.A.frames) {pins : List (Addr × Obj)} {σ : L2.St} {H : Hp} {s : Shared} {Q : VK} {us : List Value} {vs : List V}
    (I : Inv X pins σ H s) (r : Vals vs us) (h : sp vs H Q E0) : wpAny (model X.prog X.w) B (call (.ref f) us) (EP X pins σ Q) X.xe s := by
  have e := I.env0
  have e0 : Env0 X.prog X.w X.K X.mg X.base B X.stack s H := { frames := hf ▸ e.frames, mod := e.mod, bs := e.bs, bsz := e.bsz, funs := e.funs, frf := e.frf, hok := e.hok, bare := e.bare }
  have hl : us.length = ps.length := r.length ▸ M.fn.size _ _ _ _ h
  refine wpAny_call (codeAny_mono (M.fn.goes B X.stack s H ⟨us, []⟩ us vs Q E0 hr hG e0 (M.b s us hl) r h) fun z s' q => ?_)
  match z, q with
  | .ok (.ret u), q => exact I.after q
/-- the object's class, as the library looks at it -/
theorem ins_at {pins : List (Addr × Obj)} {σ : L2.St} {H : Hp} {s : Shared} {a dx : Addr} {fs : List (Str × V)} (I : Inv X pins σ H s) (e : H a = some (.ins C dx fs)) : ∃ od, PySem.W.InstAt s.heap a (PySem.W.instObj C dx) C (some od) := by
  obtain ⟨mA, J, _⟩ := ins_get I.hok e
  obtain ⟨od, J, _⟩ := J.look
  exact ⟨od, J⟩
/-- x == y, x an object of the class at C -/
def rEqO (K : PySem.W.Frag) (C : Addr) (sp : Sp) : R2 := fun x y H Q => ∃ (a dx : Addr) (fs : List (Str × V)) (t : Value), x = .ref a ∧ H a = some (.ins C dx fs) ∧ TyX K H y t ∧ PySem.W.notFirst K C t = true ∧ sp [x, y] H (fun v H' => ∃ b, v = .bl b ∧ Q (.bl b) H') E0
theorem op_eqO (M : OwnM X.prog X.w X.K X.mg X.base k C "__eq__" f fd ps sp) (hr : Room k X.A) (hG : X.A.guards = some []) : OpR X (compareOp .Eq) (rEqO X.K C sp) := by
  rintro pins s σ H x y v u Q I rx ry ⟨a, dx, fs, t, rfl, ea, ty, hn, q⟩
  cases (show v = Value.ref a from rx)
  obtain ⟨od, J⟩ := ins_at I ea
  obtain ⟨m, hF⟩ := I.fr
  obtain ⟨T, kit, hT, _⟩ := kit_of I ry ty
  refine PySem.W.cmp_K (op := .Eq) hr.units0 hF I.ok.mod.kin J (kit.ty _ _ I.kIn hT) hn M.at_ M.isf ?_
  refine wpAny_mono (M.run (vs := [V.ref a, y]) hr hG rfl I (.cons rfl (.cons ry .nil)) q) (fun z s' hz => ?_) fun _ _ e => e
  obtain ⟨zv, H', I', rz, b, rfl, hq⟩ := hz
  cases rz
  exact ⟨.bl b, H', I', rfl, hq⟩
/-- the same, the module's part given -/
theorem op_eqOK {K : PySem.W.Frag} (M : OwnM X.prog X.w X.K X.mg X.base k C "__eq__" f fd ps sp) (hr : Room k X.A) (hG : X.A.guards = some []) (hK : X.K = K := by rfl) : OpR X (compareOp .Eq) (rEqO K C sp) := hK ▸ op_eqO M hr hG
/-- repr(x), x an object of the class at C -/
def rReprO (C : Addr) (sp : Sp) : List V → Hp → VK → Prop := fun xs H Q => ∃ (a dx : Addr) (fs : List (Str × V)), xs = [.ref a] ∧ H a = some (.ins C dx fs) ∧ sp [.ref a] H (fun v H' => ∃ t, v = .str t ∧ Q (.str t) H') E0
theorem call_reprO (M : OwnM X.prog X.w X.K X.mg X.base k C "__repr__" f fd ps sp) (hr : Room (k + 1) X.A) (hG : X.A.guards = some []) : CallR X (.builtin "repr") (rReprO C sp) := by
  rintro pins s σ H xs us Q I r ⟨a, dx, fs, rfl, ea, q⟩
  obtain ⟨u, rfl, r1⟩ := vals1 r
  cases (show u = Value.ref a from r1)
  obtain ⟨od, J⟩ := ins_at I ea
  obtain ⟨m, hF⟩ := I.fr
  refine PySem.W.repr_K hr.in1.units0 hF I.ok.mod.kin J M.at_ M.isf ?_
  refine wpAny_mono (M.run (vs := [V.ref a]) hr.in1 hG rfl I (.cons rfl .nil) q) (fun z s' hz => ?_) fun _ _ e => e
  obtain ⟨zv, H', I', rz, t, rfl, hq⟩ := hz
  obtain ⟨tk, rfl⟩ := rz
  exact ⟨.str t, H', I', ⟨tk, rfl⟩, hq⟩
/-- o.m(k = e, ..): by names alone, in the parameters' order -/
theorem pe_meGK {pl : Sem Bool} {ks : List Str} {o : Expr} {kws : List Keyword} {ta : TE} {tk : TA} {pos apos : Pos} (he : PE X o ta) (M : MetG X.prog X.w X.K X.mg X.base CX0 k C m f fd ps sp) (hb : ∀ (s : Shared) (u : Value) (us : List Value), us.length = ks.length → BindsTo s fd ⟨[u], ks.zip us⟩ (ps.zip (u :: us))) (hr : Room k X.A) (hG : X.A.guards = some []) (hp : ps.length = ks.length + 1)
    (hk : PK X kws tk) (hks : (backToKw pos (keywordEach kws X.env)).filterMap (·.1) = ks := by rfl) (hall : (backToKw pos (keywordEach kws X.env)).all (·.1.isSome) = true := by rfl)
    (hpl : ((backTo pos (starEach [] X.env)).any (·.1) || (backToKw pos (keywordEach kws X.env)).any (·.1.isNone)) = false := by rfl)
    (ht : eval (.Call (.Attribute o m apos) [] kws pos) X.env = (do
      let ov ← eval o X.env
      standAt apos.atName
      let (g, first) ← holding [ov] (getMethod ov m pl)
      callWith pos g first (backTo pos (starEach [] X.env)) (backToKw pos (keywordEach kws X.env))) := by rfl) : PE X (.Call (.Attribute o m apos) [] kws pos) (tMeG C m sp (fun _ => E0) ta tk) := by
  refine ⟨fun pins s σ H Q I h => PySem.W.methodCall_KW (pl := pl) (thn (he.run pins s σ H _ I h) fun u s1 ⟨x, H1, I1, rx, a, dx, fs, ex, ea, l, q⟩ => ?_) ht⟩
  subst ex
  cases (show u = Value.ref a from rx)
  refine getmeth_ok I1 ea M.c M.m l (PySem.W.callWith_KW0 (first := [.ref a]) (h₀ := X.base) I.ok.mod.kin M.m.kp hall (thn (hk.run pos pins s1 σ H1 _ I1 q) fun us s2 ⟨vs, H2, I2, r, q2⟩ => ⟨I2.kIn, ?_⟩) hpl)
  rw [hks]
  have hl := M.fn.size _ _ _ _ q2
  have hl2 : us.length = ks.length := by
    have := r.length
    rw [List.length_cons] at hl
    omega
  exact run_g (ar := ⟨[.ref a], ks.zip us⟩) (us := .ref a :: us) (vs := .ref a :: vs) M.fn hr hG pass_no I2 (hb s2 (.ref a) us hl2) (.cons rfl r) q2
end
end Lf

set_option Elab.async false
set_option linter.all false
set_option maxRecDepth 100000
set_option maxHeartbeats 4000000
/-! x != y by an own __eq__, and y == x, y != x where y is of a built-in type. -/
namespace Lf
open PySem PySem.Spec PySem.Calls PyProof.Rows PySem.W
section
variable {prog : Program} {w : World} {A : Around} {E : Value → Shared → Prop} {s : Shared} {K : Frag} {x C f : Addr} {ox : Obj} {od : Option Obj} {b tb : Value}
/-- one side's word on a comparison, as a value -/
def Says (prog : Program) (w : World) (A : Around) (E : Value → Shared → Prop) (s : Shared) (a : Value) (nm : Str) (b : Value) (Q : Value → Shared → Prop) : Prop :=
  wpAny (model prog w) A (tryCompare a nm b) (fun r s' => ∃ v, r = some v ∧ Q v s') E s
/-- one side has no word -/
def Mute (prog : Program) (w : World) (A : Around) (E : Value → Shared → Prop) (s : Shared) (a : Value) (nm : Str) (b : Value) : Prop :=
  ∀ Q : Option Value → Shared → Prop, Q none s → wpAny (model prog w) A (tryCompare a nm b) Q E s
/-- the left side says -/
theorem rich_left {op : CmpOp} {a ta : Value} {Q : Value → Shared → Prop} (hu : A.units < cLine) (h1 : oneThing? op a b = none) (hta : Looks (model prog w) s.heap (typeOf a) ta) (htb : Looks (model prog w) s.heap (typeOf b) tb)
    (hn : ta = tb ∨ Looks (model prog w) s.heap (isSubtype tb ta) false) (h : Says prog w A E s a (cmpInfo op).2.1 b Q) : wpAny (model prog w) A (richCompare op a b) Q E s := by
  have fin : ∀ {k : Option Value → Sem Value}, (∀ v, k (some v) = pure v) → wpAny (model prog w) A (tryCompare a (cmpInfo op).2.1 b >>= k) Q E s := fun hk =>
    wpAny_bind (wpAny_mono h (fun r s' z => by obtain ⟨v, rfl, q⟩ := z; rw [hk]; exact wpAny_pure q) fun _ _ e => e)
  unfold richCompare
  rw [h1]
  refine wpAny_holding (wpAny_bind (wpAny_cRoomFor hu (wpAny_bind (hta.here (wpAny_bind (htb.here ?_))))))
  by_cases e : ta = tb
  · subst e
    simp only [bne_self_eq_false, Bool.false_eq_true, if_false]
    refine wpAny_bind (wpAny_pure ?_)
    simp only [Bool.false_eq_true, if_false]
    exact fin fun v => rfl
  · have hl := hn.resolve_left e
    have e2 : (ta != tb) = true := bne_iff_ne.mpr e
    simp only [e2, if_true]
    refine wpAny_bind (hl.here ?_)
    simp only [Bool.false_eq_true, if_false]
    exact fin fun v => rfl
/-- the left side has no word, the right one says -/
theorem rich_right {op : CmpOp} {a ta : Value} {Q : Value → Shared → Prop} (hu : A.units < cLine) (h1 : oneThing? op a b = none) (hta : Looks (model prog w) s.heap (typeOf a) ta) (htb : Looks (model prog w) s.heap (typeOf b) tb)
    (hn : Looks (model prog w) s.heap (isSubtype tb ta) false) (ne : ta ≠ tb) (m : Mute prog w A E s a (cmpInfo op).2.1 b)
    (h : Says prog w A E s b (cmpInfo op).2.2 a Q) : wpAny (model prog w) A (richCompare op a b) Q E s := by
  unfold richCompare
  rw [h1]
  refine wpAny_holding (wpAny_bind (wpAny_cRoomFor hu (wpAny_bind (hta.here (wpAny_bind (htb.here ?_))))))
  have e2 : (ta != tb) = true := bne_iff_ne.mpr ne
  simp only [e2, if_true]
  refine wpAny_bind (hn.here ?_)
  simp only [Bool.false_eq_true, if_false]
  refine wpAny_bind (m _ ?_)
  simp only [Bool.not_false, if_true]
  refine wpAny_bind (wpAny_mono h (fun r s' z => ?_) fun _ _ e => e)
  obtain ⟨v, rfl, q⟩ := z
  exact wpAny_pure q
/-- an own function says by what it tells -/
theorem says_own {nm : Str} {Q : Value → Shared → Prop} (X : K.In s.heap) (I : InstAt s.heap x ox C od) (hs : findIn K (.ref C) nm = some (some (.ref f))) (hf : isFn K (.ref f) = true)
    (h : wpAny (model prog w) A (call (.ref f) [.ref x, b]) (fun v s' => ∃ r, v = .bool r ∧ Q (.bool r) s') E s) : Says prog w A E s (.ref x) nm b Q := by
  unfold Says tryCompare
  refine wpAny_bind (ifBound_K X I hs hf (wpAny_mono h (fun v s' z => ?_) fun _ _ e => e))
  obtain ⟨r, rfl, q⟩ := z
  exact wpAny_pure ⟨_, rfl, q⟩
/-- a slot of object, where the class and its elders have no other -/
theorem bound_slot {M : Model} {nm : Str} {id : String} {args : List Value} {Q : Option Value → Shared → Prop} (X : K.In s.heap) (I : InstAt s.heap x ox C od) (hs : findIn K (.ref C) nm = some (some (.builtin id))) (hb : ∀ v, bindSpecial (.builtin id) v = pure (.builtin id, [v]))
    (h : wpAny M A (call (.builtin id) (.ref x :: args)) (fun v s' => Q (some v) s') E s) : wpAny M A (callSpecialIfBound? (.ref x) nm args) Q E s := by
  have last : wpAny M A (call (.builtin id) ([.ref x] ++ args) >>= fun v => pure (some v)) Q E s := wpAny_bind (wpAny_mono h (fun _ _ z => wpAny_pure z) fun _ _ z => z)
  have look : Looks M s.heap (specialOf (.ref x) nm) (some (.builtin id)) := I.type.andThen (looks_findIn X hs)
  unfold callSpecialIfBound? bindSpecialIfBound?
  refine wpAny_holding (wpAny_bind (wpAny_bind (look.here (wpAny_bind (wpAny_askSetting (wpAny_ite ?_))))))
  simp only [hb]
  split
  · exact wpAny_bind (wpAny_pure (wpAny_pure last))
  · exact wpAny_tryCatch (wpAny_bind (wpAny_pure (wpAny_pure last)))
/-- object.__ne__ says the other of what the own __eq__ says -/
theorem says_ne {Q : Value → Shared → Prop} (X : K.In s.heap) (I : InstAt s.heap x ox C od) (hu : A.units + 1 < cLine) (hne : findIn K (.ref C) "__ne__" = some (some (.builtin "object.__ne__"))) (hm : subIn K (.ref C) (.type "object") = some true)
    (hs : findIn K (.ref C) "__eq__" = some (some (.ref f))) (hf : isFn K (.ref f) = true)
    (h : wpAny (model prog w) A.in1 (call (.ref f) [.ref x, b]) (fun v s' => ∃ r, v = .bool r ∧ Q (.bool !r) s') E s) : Says prog w A E s (.ref x) "__ne__" b Q := by
  unfold Says tryCompare
  refine wpAny_bind (bound_slot X I hne PySem.F.slot_object_ne.bind ?_)
  have inst : Looks (model prog w) s.heap (isInstance (.ref x) (.type "object")) true := I.type.andThen (looks_subIn X hm)
  refine wpAny_call (codeAny_call_builtin PySem.F.slot_object_ne.plain PySem.F.entry_object_ne (check_slot (owner := "object") (n := "__ne__") (by decide +kernel) (by decide +kernel) inst (PySem.F.args_object_ne_2 _ _) ?_))
  unfold Builtin.«object.__ne__»
  refine wpAny_bind (wpAny_of_eq (a := ((Value.ref x : Value), [b])) (by first | rfl | (simp only [slotArgs]; rfl)) ?_)
  refine wpAny_bind (wpAny_cRoomFor hu (wpAny_bind (ifBound_K X I hs hf (wpAny_mono h (fun v s' z => ?_) fun _ _ z => z))))
  obtain ⟨r, rfl, q⟩ := z
  refine wpAny_bind (wpAny_truthy_bool (wpAny_pure ?_))
  exact wpAny_pure ⟨_, rfl, q⟩
end
end Lf

set_option Elab.async false
set_option linter.all false
set_option maxRecDepth 100000
set_option maxHeartbeats 4000000
/-! A thing of a built-in type has no word on an own object. -/
namespace Lf
open PySem PySem.Spec PySem.Calls PyProof.Rows PySem.W
/-- told: this built-in, of this thing and an object of an own class, answers that it has no word -/
def NoWord (id : String) (B : Builtin) (a : Value) (x : Addr) : Prop :=
  ∀ (prog : Program) (w : World) (A : Around) (E : Value → Shared → Prop) (s : Shared) (K : Frag) (C dx : Addr) (od : Option Obj) (Q : Fin → Shared → Prop), K.In s.heap → InstAt s.heap x (instObj C dx) C od →
    subIn K (.ref C) (.type "list") = some false → subIn K (.ref C) (.type "tuple") = some false → Q (.done (.ret .notImplemented)) s → wpAny (model prog w) A (B ⟨[a, .ref x], []⟩) Q E s
theorem none_eq {x : Addr} : NoWord "NoneType.__eq__" Builtin.«NoneType.__eq__» .none x := fun prog w A E s K C dx od Q X I hl ht q => by
  have e : Builtin.«NoneType.__eq__» ⟨[.none, .ref x], []⟩ = pure (.done (.ret .notImplemented)) := rfl
  rw [e]
  exact wpAny_pure q
theorem none_ne {x : Addr} : NoWord "NoneType.__ne__" Builtin.«NoneType.__ne__» .none x := fun prog w A E s K C dx od Q X I hl ht q => by
  have e : Builtin.«NoneType.__ne__» ⟨[.none, .ref x], []⟩ = pure (.done (.ret .notImplemented)) := rfl
  rw [e]
  exact wpAny_pure q
theorem list_eq {a : Value} {x : Addr} : NoWord "list.__eq__" Builtin.«list.__eq__» a x := fun prog w A E s K C dx od Q X I hl ht q => by
  obtain ⟨k, e, e2⟩ : ∃ k : Bool → Sem Fin, Builtin.«list.__eq__» ⟨[a, .ref x], []⟩ = isInstance (.ref x) (.type "list") >>= k ∧ k false = pure (.done (.ret .notImplemented)) := ⟨_, rfl, rfl⟩
  rw [e]
  refine wpAny_bind ((I.type.andThen (looks_subIn X hl) : Looks (model prog w) s.heap (isInstance (.ref x) (.type "list")) false).here ?_)
  rw [e2]
  exact wpAny_pure q
theorem list_ne {a : Value} {x : Addr} : NoWord "list.__ne__" Builtin.«list.__ne__» a x := fun prog w A E s K C dx od Q X I hl ht q => by
  obtain ⟨k, e, e2⟩ : ∃ k : Bool → Sem Fin, Builtin.«list.__ne__» ⟨[a, .ref x], []⟩ = isInstance (.ref x) (.type "list") >>= k ∧ k false = pure (.done (.ret .notImplemented)) := ⟨_, rfl, rfl⟩
  rw [e]
  refine wpAny_bind ((I.type.andThen (looks_subIn X hl) : Looks (model prog w) s.heap (isInstance (.ref x) (.type "list")) false).here ?_)
  rw [e2]
  exact wpAny_pure q
theorem tup_eq {a : Value} {x : Addr} : NoWord "tuple.__eq__" Builtin.«tuple.__eq__» a x := fun prog w A E s K C dx od Q X I hl ht q => by
  obtain ⟨k, e, e2⟩ : ∃ k : Bool → Sem Fin, Builtin.«tuple.__eq__» ⟨[a, .ref x], []⟩ = isInstance (.ref x) (.type "tuple") >>= k ∧ k false = pure (.done (.ret .notImplemented)) := ⟨_, rfl, rfl⟩
  rw [e]
  refine wpAny_bind ((I.type.andThen (looks_subIn X ht) : Looks (model prog w) s.heap (isInstance (.ref x) (.type "tuple")) false).here ?_)
  rw [e2]
  exact wpAny_pure q
theorem tup_ne {a : Value} {x : Addr} : NoWord "tuple.__ne__" Builtin.«tuple.__ne__» a x := fun prog w A E s K C dx od Q X I hl ht q => by
  obtain ⟨k, e, e2⟩ : ∃ k : Bool → Sem Fin, Builtin.«tuple.__ne__» ⟨[a, .ref x], []⟩ = isInstance (.ref x) (.type "tuple") >>= k ∧ k false = pure (.done (.ret .notImplemented)) := ⟨_, rfl, rfl⟩
  rw [e]
  refine wpAny_bind ((I.type.andThen (looks_subIn X ht) : Looks (model prog w) s.heap (isInstance (.ref x) (.type "tuple")) false).here ?_)
  rw [e2]
  exact wpAny_pure q
theorem str_eq {t : Str} {u : Tok} {x : Addr} : NoWord "str.__eq__" Builtin.«str.__eq__» (.str t u) x := fun prog w A E s K C dx od Q X I hl ht q => by
  obtain ⟨k, e, tag, e2⟩ : ∃ k : Obj → Sem Fin, Builtin.«str.__eq__» ⟨[.str t u, .ref x], []⟩ = load x >>= k ∧ ∃ tag, k (instObj C dx) = (rule tag >>= fun _ => pure (.done (.ret .notImplemented))) := ⟨_, rfl, _, rfl⟩
  rw [e]
  refine wpAny_bind (wpAny_load I.1 ?_)
  rw [e2]
  exact wpAny_bind (wpAny_rule (wpAny_pure q))
theorem str_ne {t : Str} {u : Tok} {x : Addr} : NoWord "str.__ne__" Builtin.«str.__ne__» (.str t u) x := fun prog w A E s K C dx od Q X I hl ht q => by
  obtain ⟨k, e, tag, e2⟩ : ∃ k : Obj → Sem Fin, Builtin.«str.__ne__» ⟨[.str t u, .ref x], []⟩ = load x >>= k ∧ ∃ tag, k (instObj C dx) = (rule tag >>= fun _ => pure (.done (.ret .notImplemented))) := ⟨_, rfl, _, rfl⟩
  rw [e]
  refine wpAny_bind (wpAny_load I.1 ?_)
  rw [e2]
  exact wpAny_bind (wpAny_rule (wpAny_pure q))
theorem int_eq {n : Int} {u : Tok} {x : Addr} : NoWord "int.__eq__" Builtin.«int.__eq__» (.int n u) x := fun prog w A E s K C dx od Q X I hl ht q => by
  obtain ⟨k, e, tag, e2⟩ : ∃ k : Obj → Sem Fin, Builtin.«int.__eq__» ⟨[.int n u, .ref x], []⟩ = load x >>= k ∧ ∃ tag, k (instObj C dx) = (rule tag >>= fun _ => pure (.done (.ret .notImplemented))) := ⟨_, rfl, _, rfl⟩
  rw [e]
  refine wpAny_bind (wpAny_load I.1 ?_)
  rw [e2]
  exact wpAny_bind (wpAny_rule (wpAny_pure q))
theorem int_ne {n : Int} {u : Tok} {x : Addr} : NoWord "int.__ne__" Builtin.«int.__ne__» (.int n u) x := fun prog w A E s K C dx od Q X I hl ht q => by
  obtain ⟨k, e, tag, e2⟩ : ∃ k : Obj → Sem Fin, Builtin.«int.__ne__» ⟨[.int n u, .ref x], []⟩ = load x >>= k ∧ ∃ tag, k (instObj C dx) = (rule tag >>= fun _ => pure (.done (.ret .notImplemented))) := ⟨_, rfl, _, rfl⟩
  rw [e]
  refine wpAny_bind (wpAny_load I.1 ?_)
  rw [e2]
  exact wpAny_bind (wpAny_rule (wpAny_pure q))
/-- the slot of a built-in type: how it is found, bound and entered -/
structure SlotB (T : String) (nm : Str) (id : String) (B : Builtin) : Prop where
  slot : Slot T nm id
  entry : entryFor table id = some B
  kind : builtinKind id = some .slot
  split : ∃ n, splitId id = some (T, n)
  sub : isSubtype (.type T) (.type T) = pure true
  args : ∀ a b, argsOk id ⟨[a, b], []⟩
section
variable {prog : Program} {w : World} {A : Around} {E : Value → Shared → Prop} {s : Shared} {K : Frag} {x C dx : Addr} {od : Option Obj}
theorem mute {T : String} {nm : Str} {id : String} {B : Builtin} {a : Value} (S : SlotB T nm id B) (N : NoWord id B a x) (hta : Looks (model prog w) s.heap (typeOf a) (.type T)) (X : K.In s.heap) (I : InstAt s.heap x (instObj C dx) C od)
    (hl : subIn K (.ref C) (.type "list") = some false) (ht : subIn K (.ref C) (.type "tuple") = some false) : Mute prog w A E s a nm (.ref x) := by
  intro Q h
  obtain ⟨n, hn⟩ := S.split
  have last : ∀ R : Option Value → Shared → Prop, R (some Value.notImplemented) s → wpAny (model prog w) A (call (Value.builtin id) ([a] ++ [Value.ref x]) >>= fun v => pure (some v)) R E s := fun R q => by
    have inst : Looks (model prog w) s.heap (isInstance a (.type T)) true := hta.andThen (.of_pure S.sub)
    refine wpAny_bind (wpAny_call (codeAny_call_builtin S.slot.plain S.entry (check_slot S.kind hn inst (S.args _ _) ?_)))
    exact N _ _ _ _ s K C dx od _ X I hl ht (wpAny_pure q)
  have look : Looks (model prog w) s.heap (specialOf a nm) (some (.builtin id)) := hta.andThen (.of_pure S.slot.lookup)
  unfold tryCompare callSpecialIfBound? bindSpecialIfBound?
  refine wpAny_bind (wpAny_holding (wpAny_bind (wpAny_bind (look.here (wpAny_bind (wpAny_askSetting (wpAny_ite ?_)))))))
  simp only [S.slot.bind]
  split
  · exact wpAny_bind (wpAny_pure (wpAny_pure (last _ (wpAny_pure h))))
  · exact wpAny_tryCatch (wpAny_bind (wpAny_pure (wpAny_pure (last _ (wpAny_pure h)))))
end
theorem sb_none_eq : SlotB "NoneType" "__eq__" "NoneType.__eq__" Builtin.«NoneType.__eq__» := ⟨PySem.F.slot_NoneType_eq, PySem.F.entry_NoneType_eq, by decide +kernel, ⟨"__eq__", by decide +kernel⟩, by rw [isSubtype_type]; kernel_rfl, fun _ _ => PySem.F.args_NoneType_eq_2 _ _⟩
theorem sb_none_ne : SlotB "NoneType" "__ne__" "NoneType.__ne__" Builtin.«NoneType.__ne__» := ⟨PySem.F.slot_NoneType_ne, PySem.F.entry_NoneType_ne, by decide +kernel, ⟨"__ne__", by decide +kernel⟩, by rw [isSubtype_type]; kernel_rfl, fun _ _ => PySem.F.args_NoneType_ne_2 _ _⟩
theorem sb_str_eq : SlotB "str" "__eq__" "str.__eq__" Builtin.«str.__eq__» := ⟨PySem.F.slot_str_eq, PySem.F.entry_str_eq, by decide +kernel, ⟨"__eq__", by decide +kernel⟩, by rw [isSubtype_type]; kernel_rfl, fun _ _ => PySem.F.args_str_eq_2 _ _⟩
theorem sb_str_ne : SlotB "str" "__ne__" "str.__ne__" Builtin.«str.__ne__» := ⟨PySem.F.slot_str_ne, PySem.F.entry_str_ne, by decide +kernel, ⟨"__ne__", by decide +kernel⟩, by rw [isSubtype_type]; kernel_rfl, fun _ _ => PySem.F.args_str_ne_2 _ _⟩
theorem sb_int_eq : SlotB "int" "__eq__" "int.__eq__" Builtin.«int.__eq__» := ⟨PySem.F.slot_int_eq, PySem.F.entry_int_eq, by decide +kernel, ⟨"__eq__", by decide +kernel⟩, by rw [isSubtype_type]; kernel_rfl, fun _ _ => PySem.F.args_int_eq_2 _ _⟩
theorem sb_int_ne : SlotB "int" "__ne__" "int.__ne__" Builtin.«int.__ne__» := ⟨PySem.F.slot_int_ne, PySem.F.entry_int_ne, by decide +kernel, ⟨"__ne__", by decide +kernel⟩, by rw [isSubtype_type]; kernel_rfl, fun _ _ => PySem.F.args_int_ne_2 _ _⟩
theorem sb_list_eq : SlotB "list" "__eq__" "list.__eq__" Builtin.«list.__eq__» := ⟨PySem.F.slot_list_eq, PySem.F.entry_list_eq, by decide +kernel, ⟨"__eq__", by decide +kernel⟩, by rw [isSubtype_type]; kernel_rfl, fun _ _ => PySem.F.args_list_eq_2 _ _⟩
theorem sb_list_ne : SlotB "list" "__ne__" "list.__ne__" Builtin.«list.__ne__» := ⟨PySem.F.slot_list_ne, PySem.F.entry_list_ne, by decide +kernel, ⟨"__ne__", by decide +kernel⟩, by rw [isSubtype_type]; kernel_rfl, fun _ _ => PySem.F.args_list_ne_2 _ _⟩
theorem sb_tup_eq : SlotB "tuple" "__eq__" "tuple.__eq__" Builtin.«tuple.__eq__» := ⟨PySem.F.slot_tuple_eq, PySem.F.entry_tuple_eq, by decide +kernel, ⟨"__eq__", by decide +kernel⟩, by rw [isSubtype_type]; kernel_rfl, fun _ _ => PySem.F.args_tuple_eq_2 _ _⟩
theorem sb_tup_ne : SlotB "tuple" "__ne__" "tuple.__ne__" Builtin.«tuple.__ne__» := ⟨PySem.F.slot_tuple_ne, PySem.F.entry_tuple_ne, by decide +kernel, ⟨"__ne__", by decide +kernel⟩, by rw [isSubtype_type]; kernel_rfl, fun _ _ => PySem.F.args_tuple_ne_2 _ _⟩
end Lf
namespace Lf
open PySem PySem.Spec PyProof.Rows L2
/-- a thing of a built-in type that stands on the left of == and != -/
inductive Lft (K : PySem.W.Frag) (H : Hp) : V → String → Prop where
  | non : Lft K H .non "NoneType"
  | str (t : Str) : Lft K H (.str t) "str"
  | int (n : Int) : Lft K H (.int n) "int"
  | lst {a : Addr} (h : TyX K H (.ref a) (.type "list")) : Lft K H (.ref a) "list"
  | tup {a : Addr} (h : TyX K H (.ref a) (.type "tuple")) : Lft K H (.ref a) "tuple"
theorem Lft.ty {K : PySem.W.Frag} {H : Hp} {y : V} {T : String} (h : Lft K H y T) : TyX K H y (.type T) := by
  cases h with
  | non => exact .base .non
  | str t => exact .base (.str t)
  | int n => exact .base (.int n)
  | lst h => exact h
  | tup h => exact h
/-- the class is under none of them -/
structure Apart (K : PySem.W.Frag) (C : Addr) : Prop where
  li : PySem.W.subIn K (.ref C) (.type "list") = some false
  tu : PySem.W.subIn K (.ref C) (.type "tuple") = some false
  no : PySem.W.subIn K (.ref C) (.type "NoneType") = some false
  st : PySem.W.subIn K (.ref C) (.type "str") = some false
  nu : PySem.W.subIn K (.ref C) (.type "int") = some false
theorem Apart.of {K : PySem.W.Frag} {H : Hp} {C : Addr} {y : V} {T : String} (P : Apart K C) (h : Lft K H y T) : PySem.W.subIn K (.ref C) (.type T) = some false := by
  cases h with
  | non => exact P.no
  | str t => exact P.st
  | int n => exact P.nu
  | lst h => exact P.li
  | tup h => exact P.tu
section
variable {X : Cx} {k : Nat} {f C : Addr} {fd : FuncData} {ps : List Str} {sp : Sp}
theorem mute_eq {pins : List (Addr × Obj)} {σ : L2.St} {H : Hp} {s : Shared} {A : Around} {E : Value → Shared → Prop} {y : V} {u : Value} {T : String} {x dx : Addr} {od : Option Obj} (I : Inv X pins σ H s) (P : Apart X.K C) (L : Lft X.K H y T) (r : RelV y u)
    (hta : PySem.W.Looks (model X.prog X.w) s.heap (typeOf u) (.type T)) (J : PySem.W.InstAt s.heap x (PySem.W.instObj C dx) C od) : Mute X.prog X.w A E s u "__eq__" (.ref x) := by
  cases L with
  | non => cases (show u = Value.none from r); exact mute sb_none_eq none_eq hta I.kIn J P.li P.tu
  | str t => obtain ⟨tk, rfl⟩ := r; exact mute sb_str_eq str_eq hta I.kIn J P.li P.tu
  | int n => obtain ⟨tk, rfl⟩ := r; exact mute sb_int_eq int_eq hta I.kIn J P.li P.tu
  | lst h => exact mute sb_list_eq list_eq hta I.kIn J P.li P.tu
  | tup h => exact mute sb_tup_eq tup_eq hta I.kIn J P.li P.tu
theorem mute_ne {pins : List (Addr × Obj)} {σ : L2.St} {H : Hp} {s : Shared} {A : Around} {E : Value → Shared → Prop} {y : V} {u : Value} {T : String} {x dx : Addr} {od : Option Obj} (I : Inv X pins σ H s) (P : Apart X.K C) (L : Lft X.K H y T) (r : RelV y u)
    (hta : PySem.W.Looks (model X.prog X.w) s.heap (typeOf u) (.type T)) (J : PySem.W.InstAt s.heap x (PySem.W.instObj C dx) C od) : Mute X.prog X.w A E s u "__ne__" (.ref x) := by
  cases L with
  | non => cases (show u = Value.none from r); exact mute sb_none_ne none_ne hta I.kIn J P.li P.tu
  | str t => obtain ⟨tk, rfl⟩ := r; exact mute sb_str_ne str_ne hta I.kIn J P.li P.tu
  | int n => obtain ⟨tk, rfl⟩ := r; exact mute sb_int_ne int_ne hta I.kIn J P.li P.tu
  | lst h => exact mute sb_list_ne list_ne hta I.kIn J P.li P.tu
  | tup h => exact mute sb_tup_ne tup_ne hta I.kIn J P.li P.tu
theorem lft_one {K : PySem.W.Frag} {H : Hp} {y : V} {T : String} {u b : Value} {op : CmpOp} (L : Lft K H y T) (r : RelV y u) : oneThing? op u b = none := by
  cases L with
  | non => cases (show u = Value.none from r); rfl
  | str t => obtain ⟨tk, rfl⟩ := r; rfl
  | int n => obtain ⟨tk, rfl⟩ := r; rfl
  | lst h => cases (show u = Value.ref _ from r); exact oneThing_ref _ _ _
  | tup h => cases (show u = Value.ref _ from r); exact oneThing_ref _ _ _
/-- y == x, y of a built-in type, x an object of the class at C -/
def rEqR (K : PySem.W.Frag) (C : Addr) (sp : Sp) : R2 := fun y x H Q => ∃ (a dx : Addr) (fs : List (Str × V)) (T : String), x = .ref a ∧ H a = some (.ins C dx fs) ∧ Lft K H y T ∧ sp [.ref a, y] H (fun v H' => ∃ b, v = .bl b ∧ Q (.bl b) H') E0
theorem op_eqR (M : OwnM X.prog X.w X.K X.mg X.base k C "__eq__" f fd ps sp) (P : Apart X.K C) (hr : Room k X.A) (hG : X.A.guards = some []) : OpR X (compareOp .Eq) (rEqR X.K C sp) := by
  rintro pins s σ H y x u v Q I ry rx ⟨a, dx, fs, T, rfl, ea, L, q⟩
  cases (show v = Value.ref a from rx)
  obtain ⟨od, J⟩ := ins_at I ea
  obtain ⟨W, kit, hT, _⟩ := kit_of I ry L.ty
  have hta := kit.ty (model X.prog X.w) _ I.kIn hT
  refine rich_right hr.units0 (lft_one L ry) hta J.type (PySem.W.looks_subIn I.kIn (P.of L)) (fun z => nomatch z) (mute_eq I P L ry hta J) (says_own I.kIn J M.at_ M.isf ?_)
  refine wpAny_mono (M.run (vs := [V.ref a, y]) hr hG rfl I (.cons rfl (.cons ry .nil)) q) (fun z s' hz => ?_) fun _ _ e => e
  obtain ⟨zv, H', I', rz, b, rfl, hq⟩ := hz
  cases (show z = Value.bool b from rz)
  exact ⟨b, rfl, .bl b, H', I', rfl, hq⟩
/-- y != x -/
def rNeR (K : PySem.W.Frag) (C : Addr) (sp : Sp) : R2 := fun y x H Q => ∃ (a dx : Addr) (fs : List (Str × V)) (T : String), x = .ref a ∧ H a = some (.ins C dx fs) ∧ Lft K H y T ∧ sp [.ref a, y] H (fun v H' => ∃ b, v = .bl b ∧ Q (.bl (!b)) H') E0
/-- the class has object's __ne__ -/
structure NeOb (K : PySem.W.Frag) (C : Addr) : Prop where
  at_ : PySem.W.findIn K (.ref C) "__ne__" = some (some (.builtin "object.__ne__"))
  ob : PySem.W.subIn K (.ref C) (.type "object") = some true
theorem op_neR (M : OwnM X.prog X.w X.K X.mg X.base k C "__eq__" f fd ps sp) (P : Apart X.K C) (N : NeOb X.K C) (hr : Room (k + 1) X.A) (hG : X.A.guards = some []) : OpR X (compareOp .NotEq) (rNeR X.K C sp) := by
  rintro pins s σ H y x u v Q I ry rx ⟨a, dx, fs, T, rfl, ea, L, q⟩
  cases (show v = Value.ref a from rx)
  obtain ⟨od, J⟩ := ins_at I ea
  obtain ⟨W, kit, hT, _⟩ := kit_of I ry L.ty
  have hta := kit.ty (model X.prog X.w) _ I.kIn hT
  show wpAny _ _ (richCompare .NotEq u (.ref a)) _ _ _
  refine rich_right hr.units0 (lft_one L ry) hta J.type (PySem.W.looks_subIn I.kIn (P.of L)) (fun z => nomatch z) (mute_ne I P L ry hta J) (says_ne I.kIn J hr.in1.units0 N.at_ N.ob M.at_ M.isf ?_)
  refine wpAny_mono (M.run (vs := [V.ref a, y]) hr.in1 hG rfl I (.cons rfl (.cons ry .nil)) q) (fun z s' hz => ?_) fun _ _ e => e
  obtain ⟨zv, H', I', rz, b, rfl, hq⟩ := hz
  cases (show z = Value.bool b from rz)
  exact ⟨b, rfl, .bl (!b), H', I', rfl, hq⟩
/-- x != y, x an object of the class at C -/
def rNeO (K : PySem.W.Frag) (C : Addr) (sp : Sp) : R2 := fun x y H Q => ∃ (a dx : Addr) (fs : List (Str × V)) (t : Value), x = .ref a ∧ H a = some (.ins C dx fs) ∧ TyX K H y t ∧ PySem.W.notFirst K C t = true ∧ sp [.ref a, y] H (fun v H' => ∃ b, v = .bl b ∧ Q (.bl (!b)) H') E0
theorem op_neO (M : OwnM X.prog X.w X.K X.mg X.base k C "__eq__" f fd ps sp) (N : NeOb X.K C) (hr : Room (k + 1) X.A) (hG : X.A.guards = some []) : OpR X (compareOp .NotEq) (rNeO X.K C sp) := by
  rintro pins s σ H x y v u Q I rx ry ⟨a, dx, fs, t, rfl, ea, ty, hn, q⟩
  cases (show v = Value.ref a from rx)
  obtain ⟨od, J⟩ := ins_at I ea
  obtain ⟨W, kit, hT, _⟩ := kit_of I ry ty
  show wpAny _ _ (richCompare .NotEq (.ref a) u) _ _ _
  refine rich_left hr.units0 (oneThing_ref _ _ _) J.type (kit.ty _ _ I.kIn hT) ?_ (says_ne I.kIn J hr.in1.units0 N.at_ N.ob M.at_ M.isf ?_)
  · unfold PySem.W.notFirst at hn
    rcases Bool.or_eq_true_iff.mp hn with e | e
    · exact .inl (beq_iff_eq.mp e).symm
    · exact .inr (PySem.W.looks_subIn I.kIn (beq_iff_eq.mp e))
  refine wpAny_mono (M.run (vs := [V.ref a, y]) hr.in1 hG rfl I (.cons rfl (.cons ry .nil)) q) (fun z s' hz => ?_) fun _ _ e => e
  obtain ⟨zv, H', I', rz, b, rfl, hq⟩ := hz
  cases (show z = Value.bool b from rz)
  exact ⟨b, rfl, .bl (!b), H', I', rfl, hq⟩
end
end Lf

set_option Elab.async false
set_option linter.all false
set_option maxRecDepth 100000
set_option maxHeartbeats 4000000
set_option exponentiation.threshold 3000
namespace Lf
open PySem PySem.Spec PyProof.Rows L2
section
variable {P : Program} {w : World} {K : PySem.W.Frag} {mg : Str → Option Value} {base : Heap} {c0 c1 : Addr}

/-! ### is_lead -/
theorem sc_is_lead : FnScope ["thing"] ["thing"] (defScope s_is_lead) := ⟨rfl, rfl, rfl, by decide +kernel, rfl, by decide +kernel, by decide +kernel⟩
def sp_lead (K : PySem.W.Frag) : Sp := fun vs H Q _ => ∃ n : Int, vs = [.int n] ∧ 0 ≤ n ∧ n ≤ 99 ∧ Q (.bl true) H
theorem ok_lead {f : Addr} {fd : FuncData} {tk : Tok} (G_LEAD : mg "LONGEST_LEAD" = some (.int 99 tk)) (F : Fun K "is_lead" "is_lead" s_is_lead f fd) (C_is_whole : Cal P w K mg base CX0 1 "is_whole" ["thing"] (sp_whole K)) : FnG P w K mg base CX0 2 f fd ["thing"] (sp_lead K) := by
  refine Gfun F sc_is_lead (fun vs H Q E h => ?_) (fun cdv A outer s H vs Q E hg hr h => ?_)
  · obtain ⟨n, rfl, _⟩ := h
    rfl
  · obtain ⟨n, rfl, h0, h9, k⟩ := h
    refine ⟨_, (pss_one (ps_ret (pe_and (pe_g C_is_whole (hr.mono (by decide)) hg (pa_cons (pv 0) pa_nil)) (pe_one (pe_chain op_le op_le pe_int (pv 0) (pe_glob (v := .int 99) rfl G_LEAD ⟨_, rfl⟩)))))), ?_⟩
    refine ⟨_, rfl, .int n, .int n, rfl, .dp (.int n) (by rfl), _, rfl, iteT ?_⟩
    refine ⟨_, rfl, _, _, rfl, rfl, _, rfl, ?_⟩
    rw [decide_eq_true h0]
    refine iteT ⟨_, _, rfl, rfl, ?_⟩
    change Q (V.bl (decide (n ≤ 99))) H
    rw [decide_eq_true h9]
    exact k
/-- a dough of the name z, the rows rs and the lead n -/
def Dgh (K : PySem.W.Frag) (H : Hp) (C x : Addr) (z : Str) (rs : List (Str × (Int × Int))) (n : Int) : Prop := ∃ (dx pr : Addr) (xs : List V), H x = some (.ins C dx [("own_name", .str z), ("own_rows", .ref pr), ("own_lead", .int n)]) ∧ SqT K H pr xs ∧ RwsAt K H xs rs
theorem Dgh.same {H H' : Hp} {C x : Addr} {z : Str} {rs : List (Str × (Int × Int))} {n : Int} (s : Same H H') (p : Dgh K H C x z rs n) : Dgh K H' C x z rs n := by
  obtain ⟨dx, pr, xs, h1, h2, h3⟩ := p
  exact ⟨dx, pr, xs, s _ _ h1, sm_t s h2, h3.same s⟩
structure DghF (K : PySem.W.Frag) (C : Addr) : Prop where
  c : Cls K C
  n1 : NoAttr K C "own_name"
  n2 : NoAttr K C "own_rows"
  n3 : NoAttr K C "own_lead"
structure DghOk (z : Str) (rs : List (Str × (Int × Int))) (n : Int) : Prop where
  nm : Nm z
  rw_ : RwsOk rs
  n0 : 0 ≤ n
  n9 : n ≤ 99

/-! ### Dough.__init__ -/
theorem sc_dinit : FnScope ["self", "name", "rows", "lead"] ["self", "name", "rows", "lead"] (defScope s_dinit) := ⟨rfl, rfl, rfl, by decide +kernel, rfl, by decide +kernel, by decide +kernel⟩
def sp_arer (K : PySem.W.Frag) : Sp := fun vs H Q E => sp_arerL K vs H Q E ∨ sp_arerT K vs H Q E
def sp_dinit (K : PySem.W.Frag) (C : Addr) : Sp := fun vs H Q _ => ∃ (x dx : Addr) (H0 : Hp) (z : Str) (a : Addr) (xs : List V) (rs : List (Str × (Int × Int))) (n : Int), vs = [.ref x, .str z, .ref a, .int n] ∧ H0 x = none ∧ H0 dx = none ∧ dx ≠ x ∧ H = L2.upd (L2.upd H0 dx (.own x)) x (.ins C dx []) ∧
  (SqL K H0 a xs ∨ SqT K H0 a xs) ∧ RwsAt K H0 xs rs ∧ DghOk z rs n ∧ ∀ H', Same H0 H' → Dgh K H' C x z rs n → Q .non H'
theorem ok_dinit {C f : Addr} {fd : FuncData} {dvs : List V} {kws : List (Str × V)} (Mx : Bltx mg) (X : DghF K C) (F : FunD K "__init__" "Dough.__init__" (defArgs s_dinit) (defBody s_dinit) (defScope s_dinit) dvs kws f fd)
    (C_is_name : Cal P w K mg base CX0 2 "is_name" ["thing"] (sp_isnm K)) (C_are_rows : Cal P w K mg base CX0 5 "are_rows" ["thing"] (sp_arer K)) (C_is_lead : Cal P w K mg base CX0 2 "is_lead" ["thing"] (sp_lead K)) : FnG P w K mg base CX0 6 f fd ["self", "name", "rows", "lead"] (sp_dinit K C) := by
  refine GfunDX F sc_dinit (fun vs H Q E h => ?_) (fun cdv A outer s H vs Q E hg hr h => ?_)
  · obtain ⟨x, dx, H0, z, a, xs, rs, n, rfl, _⟩ := h
    rfl
  · obtain ⟨x, dx, H0, z, a, xs, rs, n, rfl, nx, nd, hdx, rfl, hS, hA, ok, k⟩ := h
    refine ⟨_, (pss_cons (ps_if (pt_not (pt_val (pe_g C_is_name (hr.mono (by decide)) hg (pa_cons (pv 1) pa_nil))))
      (pss_one ps_dead)
      pss_nil)
      (pss_cons (ps_if (pt_not (pt_val (pe_g C_are_rows (hr.mono (by decide)) hg (pa_cons (pv 2) pa_nil))))
      (pss_one ps_dead)
      pss_nil)
      (pss_cons (ps_if (pt_not (pt_val (pe_g C_is_lead (hr.mono (by decide)) hg (pa_cons (pv 3) pa_nil))))
      (pss_one ps_dead)
      pss_nil)
      (pss_cons (ps_fld (pv 0) (pv 1) rfl)
      (pss_cons (ps_fld (pv 0) (pe_callTy call_tuple_of rfl Mx.tuple bt_tuple (pa_cons (pv 2) pa_nil)) rfl)
      (pss_one (ps_fld (pv 0) (pv 3) rfl))))))), ?_⟩
    have s01 : Same H0 (L2.upd (L2.upd H0 dx (.own x)) x (.ins C dx [])) := fun b o e => by
      rw [upd_ne (ne_of_none e nx), upd_ne (ne_of_none e nd)]
      exact e
    have hx1 : L2.upd (L2.upd H0 dx (.own x)) x (.ins C dx []) x = some (.ins C dx []) := upd_same
    generalize L2.upd (L2.upd H0 dx (.own x)) x (.ins C dx []) = H1 at s01 hx1 ⊢
    refine ⟨_, rfl, .str z, .str z, rfl, .dp (.str z) (by rfl), fun z' e => by cases e; exact Nat.le_trans ok.nm.le (by decide), fun H2 s12 => ?_⟩
    rw [nm_is ok.nm.al ok.nm.l1 ok.nm.le]
    refine ⟨_, rfl, iteF ?_⟩
    have s02 := s01.trans s12
    have key : ∀ Q', (∀ H', Same H2 H' → Q' (.bl true) H') → sp_arer K [.ref a] H2 Q' E0 := fun Q' q => by
      rcases hS with hS | hS
      · exact .inl ⟨a, xs, rs, rfl, sm_l s02 hS, hA.same s02, ok.rw_, q⟩
      · exact .inr ⟨a, xs, rs, rfl, sm_t s02 hS, hA.same s02, ok.rw_, q⟩
    refine ⟨_, rfl, key _ fun H3 s23 => ⟨_, rfl, iteF ?_⟩⟩
    have s03 := s02.trans s23
    refine ⟨_, rfl, n, rfl, ok.n0, ok.n9, _, rfl, iteF ?_⟩
    have hx3 := (s12.trans s23) _ _ hx1
    refine ⟨_, rfl, _, rfl, x, C, dx, [], rfl, hx3, X.c, X.n1, by decide, ?_⟩
    have s04 : Same H0 (L2.upd H3 x (.ins C dx (putF "own_name" (.str z) []))) := fun b o e => by
      rw [upd_ne (ne_of_none e nx)]
      exact s03 _ _ e
    have hx4 : L2.upd H3 x (.ins C dx (putF "own_name" (.str z) [])) x = some (.ins C dx (putF "own_name" (.str z) [])) := upd_same
    generalize L2.upd H3 x (.ins C dx (putF "own_name" (.str z) [])) = H4 at s04 hx4 ⊢
    have fin : ∀ (H5 : Hp) (pr : Addr) (_ : Same H0 H5) (_ : H5 x = some (.ins C dx (putF "own_name" (.str z) []))) (_ : SqT K H5 pr xs), Same H0 (L2.upd (L2.upd H5 x (.ins C dx (putF "own_rows" (.ref pr) (putF "own_name" (.str z) [])))) x (.ins C dx (putF "own_lead" (.int n) (putF "own_rows" (.ref pr) (putF "own_name" (.str z) []))))) ∧
        Dgh K (L2.upd (L2.upd H5 x (.ins C dx (putF "own_rows" (.ref pr) (putF "own_name" (.str z) [])))) x (.ins C dx (putF "own_lead" (.int n) (putF "own_rows" (.ref pr) (putF "own_name" (.str z) []))))) C x z rs n := fun H5 pr s5 hx5 ht => by
      have s6 : Same H0 (L2.upd (L2.upd H5 x (.ins C dx (putF "own_rows" (.ref pr) (putF "own_name" (.str z) [])))) x (.ins C dx (putF "own_lead" (.int n) (putF "own_rows" (.ref pr) (putF "own_name" (.str z) []))))) := fun b o e => by
        rw [upd_ne (ne_of_none e nx), upd_ne (ne_of_none e nx)]
        exact s5 _ _ e
      refine ⟨s6, dx, pr, xs, upd_same, ?_, hA.same s6⟩
      rcases ht with (h | ⟨o, h⟩) | h
      · have ne : pr ≠ x := fun e => by rw [e, hx5] at h; cases h
        exact .inl (.inl (by rw [upd_ne ne, upd_ne ne]; exact h))
      · have ne : pr ≠ x := fun e => by rw [e, hx5] at h; cases h
        exact .inl (.inr ⟨o, by rw [upd_ne ne, upd_ne ne]; exact h⟩)
      · exact .inr h
    rcases hS with hS | hS
    · refine ⟨_, rfl, a, xs, rfl, .inl ⟨sm_l s04 hS, fun l nl => ?_⟩⟩
      have s5 : Same H4 (L2.upd H4 l (.tup xs)) := same_new nl
      have hx5 := s5 _ _ hx4
      have t5 : SqT K (L2.upd H4 l (.tup xs)) l xs := .inl (.inl upd_same)
      generalize L2.upd H4 l (.tup xs) = H5 at s5 hx5 t5 ⊢
      obtain ⟨f1, f2⟩ := fin H5 l (s04.trans s5) hx5 t5
      refine ⟨_, rfl, x, C, dx, _, rfl, hx5, X.c, X.n2, by show 1 < 1000; decide, ?_⟩
      refine ⟨_, rfl, _, rfl, x, C, dx, _, rfl, upd_same, X.c, X.n3, by show 2 < 1000; decide, ?_⟩
      exact k _ f1 f2
    · refine ⟨_, rfl, a, xs, rfl, .inr ⟨sm_t s04 hS, ?_⟩⟩
      obtain ⟨f1, f2⟩ := fin H4 a s04 hx4 (sm_t s04 hS)
      refine ⟨_, rfl, x, C, dx, _, rfl, hx4, X.c, X.n2, by show 1 < 1000; decide, ?_⟩
      refine ⟨_, rfl, _, rfl, x, C, dx, _, rfl, upd_same, X.c, X.n3, by show 2 < 1000; decide, ?_⟩
      exact k _ f1 f2

/-! ### Dough.name -/
theorem sc_dname : FnScope ["self"] ["self"] (defScope s_dname) := ⟨rfl, rfl, rfl, by decide +kernel, rfl, by decide +kernel, by decide +kernel⟩
def sp_dname (K : PySem.W.Frag) (C : Addr) : Sp := fun vs H Q _ => ∃ (x : Addr) (z : Str) (rs : List (Str × (Int × Int))) (n : Int), vs = [.ref x] ∧ Dgh K H C x z rs n ∧ Q (.str z) H
theorem ok_dname {C f : Addr} {fd : FuncData} (X : DghF K C) (F : Fun K "name" "Dough.name" s_dname f fd) : FnG P w K mg base CX0 1 f fd ["self"] (sp_dname K C) := by
  refine Gfun F sc_dname (fun vs H Q E h => ?_) (fun cdv A outer s H vs Q E hg hr h => ?_)
  · obtain ⟨x, z, rs, n, rfl, _⟩ := h
    rfl
  · obtain ⟨x, z, rs, n, rfl, ⟨dx, pr, xs, h1, h2, h3⟩, k⟩ := h
    exact ⟨_, (pss_one (ps_ret (pe_fld (pv 0) rfl))), _, rfl, x, C, dx, _, _, rfl, h1, X.c, X.n1, rfl, k⟩

/-! ### Dough.lead -/
theorem sc_dlead : FnScope ["self"] ["self"] (defScope s_dlead) := ⟨rfl, rfl, rfl, by decide +kernel, rfl, by decide +kernel, by decide +kernel⟩
def sp_dlead (K : PySem.W.Frag) (C : Addr) : Sp := fun vs H Q _ => ∃ (x : Addr) (z : Str) (rs : List (Str × (Int × Int))) (n : Int), vs = [.ref x] ∧ Dgh K H C x z rs n ∧ Q (.int n) H
theorem ok_dlead {C f : Addr} {fd : FuncData} (X : DghF K C) (F : Fun K "lead" "Dough.lead" s_dlead f fd) : FnG P w K mg base CX0 1 f fd ["self"] (sp_dlead K C) := by
  refine Gfun F sc_dlead (fun vs H Q E h => ?_) (fun cdv A outer s H vs Q E hg hr h => ?_)
  · obtain ⟨x, z, rs, n, rfl, _⟩ := h
    rfl
  · obtain ⟨x, z, rs, n, rfl, ⟨dx, pr, xs, h1, h2, h3⟩, k⟩ := h
    exact ⟨_, (pss_one (ps_ret (pe_fld (pv 0) rfl))), _, rfl, x, C, dx, _, _, rfl, h1, X.c, X.n3, rfl, k⟩

/-! ### Dough.rows -/
theorem sc_drows : FnScope ["self"] ["self"] (defScope s_drows) := ⟨rfl, rfl, rfl, by decide +kernel, rfl, by decide +kernel, by decide +kernel⟩
def sp_drows (K : PySem.W.Frag) (C : Addr) : Sp := fun vs H Q _ => ∃ (x : Addr) (z : Str) (rs : List (Str × (Int × Int))) (n : Int), vs = [.ref x] ∧ Dgh K H C x z rs n ∧ ∀ l xs, H l = none → RwsAt K H xs rs → Q (.ref l) (L2.upd H l (.lst xs))
theorem ok_drows {C f : Addr} {fd : FuncData} (ml : mg "list" = none) (X : DghF K C) (F : Fun K "rows" "Dough.rows" s_drows f fd) : FnG P w K mg base CX0 1 f fd ["self"] (sp_drows K C) := by
  refine Gfun F sc_drows (fun vs H Q E h => ?_) (fun cdv A outer s H vs Q E hg hr h => ?_)
  · obtain ⟨x, z, rs, n, rfl, _⟩ := h
    rfl
  · obtain ⟨x, z, rs, n, rfl, ⟨dx, pr, xs, h1, h2, h3⟩, k⟩ := h
    exact ⟨_, (pss_one (ps_ret (pe_callTy call_list_of rfl ml bt_list (pa_cons (pe_fld (pv 0) rfl) pa_nil)))), _, rfl, x, C, dx, _, _, rfl, h1, X.c, X.n2, rfl, pr, xs, rfl, .inr h2, fun l nl => k l xs nl h3⟩

/-! ### Dough.__len__ -/
theorem sc_dlen : FnScope ["self"] ["self"] (defScope s_dlen) := ⟨rfl, rfl, rfl, by decide +kernel, rfl, by decide +kernel, by decide +kernel⟩
def sp_dlen (K : PySem.W.Frag) (C : Addr) : Sp := fun vs H Q _ => ∃ (x : Addr) (z : Str) (rs : List (Str × (Int × Int))) (n : Int), vs = [.ref x] ∧ Dgh K H C x z rs n ∧ Q (.int (rs.length : Nat)) H
theorem ok_dlen {C f : Addr} {fd : FuncData} (M : Blt mg) (X : DghF K C) (F : Fun K "__len__" "Dough.__len__" s_dlen f fd) : FnG P w K mg base CX0 1 f fd ["self"] (sp_dlen K C) := by
  refine Gfun F sc_dlen (fun vs H Q E h => ?_) (fun cdv A outer s H vs Q E hg hr h => ?_)
  · obtain ⟨x, z, rs, n, rfl, _⟩ := h
    rfl
  · obtain ⟨x, z, rs, n, rfl, ⟨dx, pr, xs, h1, h2, h3⟩, k⟩ := h
    have hl : xs.length = rs.length := Paired.length h3
    rw [← hl] at k
    exact ⟨_, (pss_one (ps_ret (pe_callB call_len_seq rfl M.len bt_len (pa_cons (pe_fld (pv 0) rfl) pa_nil)))), _, rfl, x, C, dx, _, _, rfl, h1, X.c, X.n2, rfl, pr, xs, rfl, .inr h2, k⟩

/-! ### Dough.total -/
theorem sc_dtotal : FnScope ["self", "thing", "parts"] ["self"] (defScope s_dtotal) := ⟨rfl, rfl, rfl, by decide +kernel, rfl, by decide +kernel, by decide +kernel⟩
theorem RwsAt.len {H : Hp} {xs : List V} {rs : List (Str × (Int × Int))} (h : RwsAt K H xs rs) : xs.length = rs.length := Paired.length h
/-- the parts of the rows together -/
def totR (rs : List (Str × (Int × Int))) : Int × Int := (rs.map (·.2)).foldl fadd f0
def sp_dtotal (K : PySem.W.Frag) (C : Addr) : Sp := fun vs H Q _ => ∃ (x : Addr) (z : Str) (rs : List (Str × (Int × Int))) (n : Int), vs = [.ref x] ∧ Dgh K H C x z rs n ∧ RwsOk rs ∧ ∀ H' v, Same H H' → AtK K H' v (totR rs) → Q v H'
theorem ok_dtotal {C f : Addr} {fd : FuncData} (X : DghF K C) (F : Fun K "total" "Dough.total" s_dtotal f fd) (C_together : Cal P w K mg base CX0 6 "together" ["ones"] (sp_togL K)) : FnG P w K mg base CX0 7 f fd ["self"] (sp_dtotal K C) := by
  refine Gfun F sc_dtotal (fun vs H Q E h => ?_) (fun cdv A outer s H vs Q E hg hr h => ?_)
  · obtain ⟨x, z, rs, n, rfl, _⟩ := h
    rfl
  · obtain ⟨x, z, rs, n, rfl, ⟨dx, pr, xs, h1, h2, h3⟩, ok, k⟩ := h
    refine ⟨_, (pss_one (ps_ret (pe_g C_together (hr.mono (by decide)) hg (pa_cons (pe_lc (own := [("thing", 1), ("parts", 2)]) (g := gTup K 2 (gCons (gName 1) (gCons (gName 2) (gNil)))) (tt := tYes) rfl sc_dtotal.nd (pi_tup (pe_fld (pv 0) rfl)) (blkOk_by (N := ["self", "thing", "parts"]) (sc := defScope s_dtotal) (by decide +kernel)) (fun _ _ _ _ _ => pg_tupK (K := K) rfl (pgs_cons (pg_name (i := 1) sc_dtotal.nd rfl (Or.inl rfl)) (pgs_cons (pg_name (i := 2) sc_dtotal.nd rfl (Or.inl rfl)) pgs_nil))) (fun _ _ _ _ _ => pts_nil) (fun _ _ _ _ _ => (pv 2))) pa_nil)))), ?_⟩
    have hl := h3.len
    have h8 := ok.few
    refine ⟨_, rfl, x, C, dx, _, _, rfl, h1, X.c, X.n2, rfl, pr, rfl, ⟨_, h2⟩, fun D hD => lc_tup (xs := xs) (fun i H' => Same H H' ∧ ∃ acc, H' D = some (.lst acc) ∧ AtKs K H acc ((rs.map (·.2)).take i)) ⟨same_new hD, [], upd_same, .nil⟩ (fun i H' _ h => sm_t h.1 h2) ?_ ?_⟩
    · rintro i y H2 hy ⟨s2, acc, eacc, hacc⟩
      obtain ⟨r, hr1, ⟨p, vf, rfl, hp, hf⟩⟩ := h3.get hy
      have hi : i < xs.length := (List.getElem?_eq_some_iff.mp hy).1
      have hal := hacc.length
      rw [List.length_take, List.length_map] at hal
      refine ⟨p, [.str r.1, vf], rfl, sm_t s2 hp, rfl, _, _, rfl, _, _, rfl, rfl, ?_⟩
      refine ⟨rfl, _, rfl, acc, eacc, ?_, fun b o e => ?_, acc ++ [vf], upd_same, ?_⟩
      · rw [sizeLine_eq]
        omega
      · rw [upd_ne (ne_of_none e hD)]
        exact s2 _ _ e
      · have hg2 : (rs.map (·.2))[i]? = some r.2 := by rw [List.getElem?_map, hr1]; rfl
        rw [List.take_succ, hg2]
        exact hacc.app (.cons hf .nil)
    · rintro H2 ⟨s2, acc, eacc, hacc⟩
      rw [List.take_of_length_le (by rw [List.length_map]; omega)] at hacc
      refine ⟨D, acc, rs.map (fun r : Str × (Int × Int) => r.2), rfl, .inl (.inl eacc), hacc.same s2, ?_, ?_, ?_, fun H3 v s3 hv => k H3 v (s2.trans s3) hv⟩
      · intro f hf
        obtain ⟨r, hr1, rfl⟩ := List.mem_map.mp hf
        exact (ok.all r hr1).lo
      · intro f hf
        obtain ⟨r, hr1, rfl⟩ := List.mem_map.mp hf
        exact (ok.bt hr1).mono (by decide)
      · exact fun i => (ok.cm.part (by rw [List.length_map]; exact h8) i).mono (by decide)

/-! ### Dough.__eq__ -/
theorem sc_deq : FnScope ["self", "other"] ["self", "other"] (defScope s_deq) := ⟨rfl, rfl, rfl, by decide +kernel, rfl, by decide +kernel, by decide +kernel⟩
/-- a row as data -/
def rwD (r : Str × (Int × Int)) : PyData := .tuple [.str r.1, tD r.2]
theorem RwAt.dp {H : Hp} {v : V} {r : Str × (Int × Int)} (h : RwAt K H v r) : Dp K H v (rwD r) := by
  obtain ⟨p, vf, rfl, h1, h2⟩ := h
  exact .tup h1 (.cons (.str r.1) (.cons h2.dp .nil))
theorem RwsAt.dps {H : Hp} : ∀ {xs : List V} {rs : List (Str × (Int × Int))}, RwsAt K H xs rs → DpAll K H xs (rs.map rwD)
  | _, _, .nil => .nil
  | _, _, .cons a r => .cons a.dp (RwsAt.dps r)
theorem nm_strOk {z : Str} (h : AllL z) : PyData.strOk z = true := by
  show z.cps.all (· < 0x110000) = true
  rw [← Array.all_toList]
  exact List.all_eq_true.mpr fun c hc => decide_eq_true (Nat.lt_of_lt_of_le (inL_lt (h c hc)) (by decide))
theorem rws_lay : ∀ rs : List (Str × (Int × Int)), (∀ r ∈ rs, RwOk r) → PyData.canLayAll0 (rs.map rwD) = true ∧ PyData.depthAll (rs.map rwD) ≤ 2
  | [], _ => ⟨by simp only [List.map_nil, PyData.canLayAll0], by simp only [List.map_nil, PyData.depthAll]; omega⟩
  | r :: rs, h => by
    obtain ⟨i1, i2⟩ := rws_lay rs fun x hx => h x (List.mem_cons_of_mem _ hx)
    have e := nm_strOk (h r List.mem_cons_self).nm.al
    refine ⟨?_, ?_⟩
    · simp only [List.map_cons, PyData.canLayAll0, i1, rwD, tD, PyData.canLay0, e, Bool.and_self]
    · simp only [List.map_cons, PyData.depthAll, rwD, tD, PyData.depth]
      omega
theorem rws_shaped {rs : List (Str × (Int × Int))} (h : RwsOk rs) : SeqAt.shaped (.tuple (rs.map rwD)) = true := by
  obtain ⟨i1, i2⟩ := rws_lay rs h.all
  unfold SeqAt.shaped
  rw [Bool.and_eq_true]
  refine ⟨by simp only [PyData.canLay0]; exact i1, decide_eq_true ?_⟩
  simp only [PyData.depth]
  omega
theorem rw_eqv (r s : Str × (Int × Int)) : PyData.eqv (rwD r) (rwD s) = decide (r = s) := by
  have e := eqv_tD r.2 s.2
  simp only [rwD, PyData.eqv, PyData.eqvAll, Bool.and_true] at e ⊢
  rw [e]
  by_cases h : r = s
  · subst h
    simp
  · rw [decide_eq_false h]
    by_cases h1 : r.1 = s.1
    · have h2 : ¬ r.2 = s.2 := fun q => h (Prod.ext h1 q)
      simp [h1, h2]
    · simp [h1]
theorem rws_eqv : ∀ rs ss : List (Str × (Int × Int)), PyData.eqvAll (rs.map rwD) (ss.map rwD) = decide (rs = ss)
  | [], [] => by simp [PyData.eqvAll]
  | [], _ :: _ => by simp [PyData.eqvAll]
  | _ :: _, [] => by simp [PyData.eqvAll]
  | r :: rs, s :: ss => by
    rw [List.map_cons, List.map_cons, PyData.eqvAll, rw_eqv, rws_eqv rs ss]
    by_cases h : r = s
    · subst h
      simp
    · simp [h]
/-- what is of another type -/
def Alien (K : PySem.W.Frag) (H : Hp) (C : Addr) (y : V) : Prop := ∃ T : String, TyX K H y (.type T) ∧ PySem.W.kitOne K (.type T) (.ref C) = some false
/-- the class at C, as isinstance asks it -/
structure ClsX (K : PySem.W.Frag) (C : Addr) : Prop where
  c : Cls K C
  ha : PySem.W.findIn K (.ref C) "__class__" = some (some (.builtin "object.__class__"))
  hn : PySem.W.specialIn K (.builtin "object.__class__") "__get__" = some (some (.builtin "getset_descriptor.__get__"))
  ht : PySem.W.takesIn K (.builtin "object.__class__") = some true
  hm : PySem.W.mroIn K C (.type "object") = some true
theorem ClsX.ty {H : Hp} {C a dx : Addr} {fs : List (Str × V)} (c : ClsX K C) (e : H a = some (.ins C dx fs)) : TyX K H (.ref a) (.ref C) := .base (.ins e c.c c.ha c.hn c.ht c.hm)
theorem kit_self (C : Addr) : PySem.W.kitOne K (.ref C) (.ref C) = some true := by unfold PySem.W.kitOne; rw [if_pos (by simp)]
def sp_deq (K : PySem.W.Frag) (C : Addr) : Sp := fun vs H Q _ => ∃ (x : Addr) (y : V) (z : Str) (rs : List (Str × (Int × Int))) (n : Int), vs = [.ref x, y] ∧ Dgh K H C x z rs n ∧ RwsOk rs ∧
  ((Alien K H C y ∧ Q (.bl false) H) ∨ ∃ (x' : Addr) (z' : Str) (rs' : List (Str × (Int × Int))) (n' : Int), y = .ref x' ∧ Dgh K H C x' z' rs' n' ∧ RwsOk rs' ∧ Q (.bl (decide (z = z' ∧ rs = rs' ∧ n = n'))) H)
theorem ok_deq {C f : Addr} {fd : FuncData} (Mx : Bltx mg) (Y : ClsX K C) (X : DghF K C) (gP : mg "Dough" = some (.ref C)) (F : Fun K "__eq__" "Dough.__eq__" s_deq f fd) : FnG P w K mg base CX0 1 f fd ["self", "other"] (sp_deq K C) := by
  refine Gfun F sc_deq (fun vs H Q E h => ?_) (fun cdv A outer s H vs Q E hg hr h => ?_)
  · obtain ⟨x, y, z, rs, n, rfl, _⟩ := h
    rfl
  · obtain ⟨x, y, z, rs, n, rfl, ⟨dx, pr, xs, h1, h2, h3⟩, ok, k⟩ := h
    refine ⟨_, (pss_cons (ps_if (PW.pt (pw_or (pt_not (pt_val (pe_callB call_isi rfl Mx.isinstance bt_isinstance (pa_cons (pv 1) (pa_cons (pe_glob (v := .ref C) rfl gP rfl) pa_nil))))) (pw_or1 (pt_cmpR op_ne (pe_fld (pv 0) rfl) (pe_fld (pv 1) rfl) (nomark _)))))
      (pss_one (ps_ret pe_bl))
      pss_nil)
      (pss_one (ps_ret (pe_and (pe_cmpR (op_eqD hr.units) (pe_fld (pv 0) rfl) (pe_fld (pv 1) rfl) (nomark _)) (pe_one (pe_cmpR op_eq (pe_fld (pv 0) rfl) (pe_fld (pv 1) rfl) (nomark _))))))), ?_⟩
    rcases k with ⟨⟨T, hT, hk⟩, k⟩ | ⟨x', z', rs', n', rfl, ⟨dx', pr', xs', h1', h2', h3'⟩, ok', k⟩
    · exact ⟨_, rfl, _, _, _, _, _, rfl, .own C, hT, hk, _, rfl, iteT k⟩
    · refine ⟨_, rfl, _, _, _, _, _, rfl, .own C, Y.ty h1', kit_self C, _, rfl, iteF ?_⟩
      refine ⟨_, rfl, x, C, dx, _, _, rfl, h1, X.c, X.n1, rfl, _, rfl, x', C, dx', _, _, rfl, h1', X.c, X.n1, rfl, rfl, _, rfl, ite2 (fun e => ?_) (fun e => ?_)⟩
      · have nz : ¬ z = z' := fun q => by subst q; simp at e
        rw [decide_eq_false (fun q => nz q.1)] at k
        exact k
      · have ez : z = z' := by
          by_cases q : z = z'
          · exact q
          · exact absurd (by simp [q]) e
        subst ez
        refine ⟨_, rfl, x, C, dx, _, _, rfl, h1, X.c, X.n2, rfl, _, rfl, x', C, dx', _, _, rfl, h1', X.c, X.n2, rfl, ?_⟩
        refine ⟨.tuple (rs.map rwD), .tuple (rs'.map rwD), .tup h2 h3.dps, .tup h2' h3'.dps, rws_shaped ok, rws_shaped ok', ?_⟩
        have ee : PyData.eqv (.tuple (rs.map rwD)) (.tuple (rs'.map rwD)) = decide (rs = rs') := by
          simp only [PyData.eqv]
          exact rws_eqv rs rs'
        rw [ee]
        refine ⟨_, rfl, ite2 (fun e2 => ?_) (fun e2 => ?_)⟩
        · have eh : rs = rs' := of_decide_eq_true e2
          subst eh
          refine ⟨_, rfl, x, C, dx, _, _, rfl, h1, X.c, X.n3, rfl, _, rfl, x', C, dx', _, _, rfl, h1', X.c, X.n3, rfl, rfl, ?_⟩
          have e3 : decide (V.int n = V.int n') = decide (z = z ∧ rs = rs ∧ n = n') := by
            by_cases q : n = n' <;> simp [q]
          rw [e3]
          exact k
        · have nh : ¬ rs = rs' := fun q => e2 (decide_eq_true q)
          rw [decide_eq_false (fun q => nh q.2.1)] at k
          exact k

/-! ### Dough.__repr__ -/
theorem sc_drepr : FnScope ["self", "words", "told"] ["self"] (defScope s_drepr) := ⟨rfl, rfl, rfl, by decide +kernel, rfl, by decide +kernel, by decide +kernel⟩
theorem empty_app (x : Str) : Str.empty ++ x = x := by
  show (⟨#[] ++ x.cps⟩ : Str) = x
  simp
theorem al_sg {z : Str} (h : AllL z) : Sg z := fun c hc => Nat.lt_of_lt_of_le (inL_lt (h c hc)) (by decide)
theorem rw_fb {r : Str × (Int × Int)} (h : RwOk r) (b : Bt 880 r.2) : Fb 14 2 (rwD r) := Fb.tuple (.cons (Fb.str (al_sg h.nm.al) h.nm.le) (.cons (Fb.two ((b.mono (by decide : 880 ≤ 900)).1) ((b.mono (by decide : 880 ≤ 900)).2)) .nil))
theorem rws_fb {rs : List (Str × (Int × Int))} (h : RwsOk rs) : Fb 120 3 (.list (rs.map rwD)) := by
  have a : FbA ((14 + 1) * (rs.map rwD).length) 2 (rs.map rwD) := FbA.all fun d hd => by
    obtain ⟨r, hr, rfl⟩ := List.mem_map.mp hd
    exact rw_fb (h.all r hr) (h.bt hr)
  rw [List.length_map] at a
  exact (Fb.list a).le (by have := h.few; omega) (by decide)
/-- the three of a dough -/
def dghDs (z : Str) (rs : List (Str × (Int × Int))) (n : Int) : List PyData := [.str z, .list (rs.map rwD), .int n]
def dghText (z : Str) (rs : List (Str × (Int × Int))) (n : Int) : Str := Str.ofString "Dough(" ++ Txt.join (Str.ofString ", ") ((dghDs z rs n).map PyData.shown) ++ Str.ofString ")"
theorem DghOk.ft {z : Str} {rs : List (Str × (Int × Int))} {n : Int} (ok : DghOk z rs n) : ∀ d ∈ dghDs z rs n, Fb 120 3 d := by
  intro d hd
  simp only [dghDs, List.mem_cons, List.not_mem_nil, or_false] at hd
  rcases hd with rfl | rfl | rfl
  · exact (Fb.str (al_sg ok.nm.al) ok.nm.le).le (by decide) (by decide)
  · exact rws_fb ok.rw_
  · have h0 := ok.n0
    have h9 := ok.n9
    exact (Fb.int (Nat.lt_of_lt_of_le (show n.natAbs < 2 ^ 7 by omega) (Nat.pow_le_pow_right (by decide) (by decide)))).le (by decide) (by decide)
theorem dw_len {z : Str} {rs : List (Str × (Int × Int))} {n : Int} (ok : DghOk z rs n) : ∀ t ∈ (dghDs z rs n).map PyData.shown, t.length ≤ 121240 := by
  intro t ht
  obtain ⟨d, hd, rfl⟩ := List.mem_map.mp ht
  have := (ok.ft d hd).len
  omega
theorem sum_len_le {b : Nat} : ∀ ts : List Str, (∀ t ∈ ts, t.length ≤ b) → (ts.map (·.length)).sum ≤ b * ts.length
  | [], _ => by simp
  | t :: ts, h => by
    have := sum_len_le ts fun x hx => h x (List.mem_cons_of_mem _ hx)
    have h1 := h t List.mem_cons_self
    rw [List.map_cons, List.sum_cons, List.length_cons, Nat.mul_succ]
    omega
theorem join_len : ∀ (ts : List Str), (Str.join (Str.ofString ", ") ts).length ≤ (ts.map (·.length)).sum + 2 * ts.length
  | [] => by decide
  | [x] => by
    show x.length ≤ _
    simp
  | x :: y :: r => by
    have e : Str.join (Str.ofString ", ") (x :: y :: r) = x ++ Str.ofString ", " ++ Str.join (Str.ofString ", ") (y :: r) := rfl
    have := join_len (y :: r)
    rw [e, PySem.Str.length_append, PySem.Str.length_append, List.map_cons, List.sum_cons, List.length_cons, show (Str.ofString ", ").length = 2 by decide +kernel]
    omega
theorem dw_sum {z : Str} {rs : List (Str × (Int × Int))} {n : Int} (ok : DghOk z rs n) : (((dghDs z rs n).map PyData.shown).map (·.length)).sum ≤ 363720 := by
  have := sum_len_le _ (dw_len ok)
  rw [List.length_map] at this
  exact this
theorem dj_len {z : Str} {rs : List (Str × (Int × Int))} {n : Int} (ok : DghOk z rs n) : (Txt.join (Str.ofString ", ") ((dghDs z rs n).map PyData.shown)).length ≤ 363726 := by
  have h1 := join_len ((dghDs z rs n).map PyData.shown)
  have h2 := dw_sum ok
  rw [List.length_map, show (dghDs z rs n).length = 3 from rfl] at h1
  have e : Txt.join (Str.ofString ", ") ((dghDs z rs n).map PyData.shown) = Str.join (Str.ofString ", ") ((dghDs z rs n).map PyData.shown) := StrLaws.glued_eq_join _ _
  rw [e]
  omega
/-- data told one by one -/
def DpsAt (K : PySem.W.Frag) (H : Hp) (vs : List V) (ds : List PyData) : Prop := ∀ (i : Nat) (v : V), vs[i]? = some v → ∃ d, ds[i]? = some d ∧ Dp K H v d
def sp_drepr (K : PySem.W.Frag) (C : Addr) : Sp := fun vs H Q _ => ∃ (x : Addr) (z : Str) (rs : List (Str × (Int × Int))) (n : Int), vs = [.ref x] ∧ Dgh K H C x z rs n ∧ DghOk z rs n ∧ ∀ H', Same H H' → Q (.str (dghText z rs n)) H'
theorem ok_drepr {C f : Addr} {fd : FuncData} (M : Blt mg) (ml : mg "list" = none) (X : DghF K C) (F : Fun K "__repr__" "Dough.__repr__" s_drepr f fd) : FnG P w K mg base CX0 1 f fd ["self"] (sp_drepr K C) := by
  refine Gfun F sc_drepr (fun vs H Q E h => ?_) (fun cdv A outer s H vs Q E hg hr h => ?_)
  · obtain ⟨x, z, rs, n, rfl, _⟩ := h
    rfl
  · obtain ⟨x, z, rs, n, rfl, ⟨dx, pr, xs, h1, h2, h3⟩, ok, k⟩ := h
    refine ⟨_, (pss_cons (ps_setLc (i := 1) (own := [("told", 2)]) (g := gName 2) (tt := tYes) rfl sc_drepr.nd rfl rfl (sw_true rfl rfl rfl (by decide +kernel)) (pi_tup (pe_tup (pa_cons (pe_fld (pv 0) rfl) (pa_cons (pe_callTy call_list_of rfl ml bt_list (pa_cons (pe_fld (pv 0) rfl) pa_nil)) (pa_cons (pe_fld (pv 0) rfl) pa_nil))))) (blkOk_by (N := ["self", "words", "told"]) (sc := defScope s_drepr) (by decide +kernel)) (fun _ _ _ _ _ => pg_name (i := 2) sc_drepr.nd rfl (Or.inl rfl)) (fun _ _ _ _ _ => pts_nil) (fun _ _ _ _ _ => (pe_callB (call_showK (K := K) hg hr) rfl M.repr bt_repr (pa_cons (pv 2) pa_nil))))
      (pss_one (ps_ret (pe_joined (PJ.cons pe_str (PJ.cons (pe_fmt (pe_bm PySem.F.plainAttrs_str PySem.F.slot_str_join PySem.F.type_str_join mt_join pe_str (pa_cons (pv 1) pa_nil))) (PJ.cons pe_str PJ.nil))))))), ?_⟩
    refine ⟨_, rfl, x, C, dx, _, _, rfl, h1, X.c, X.n1, rfl, _, rfl, x, C, dx, _, _, rfl, h1, X.c, X.n2, rfl, pr, xs, rfl, .inr h2, fun l nl => ?_⟩
    have s0 : Same H (L2.upd H l (.lst xs)) := same_new nl
    have e0 : L2.upd H l (.lst xs) l = some (.lst xs) := upd_same
    generalize L2.upd H l (.lst xs) = H0 at s0 e0 ⊢
    refine ⟨_, rfl, x, C, dx, _, _, rfl, s0 _ _ h1, X.c, X.n3, rfl, len_show (Nat.le_of_ble_eq_true rfl), fun p hp => ?_⟩
    have s1 : Same H0 (L2.upd H0 p (.tup [.str z, .ref l, .int n])) := same_new hp
    have t1 : SqT K (L2.upd H0 p (.tup [.str z, .ref l, .int n])) p [.str z, .ref l, .int n] := .inl (.inl upd_same)
    generalize L2.upd H0 p (.tup [.str z, .ref l, .int n]) = H1 at s1 t1 ⊢
    have six : DpsAt K H1 [.str z, .ref l, .int n] (dghDs z rs n) := by
      intro i v hi
      match i, hi with
      | 0, hi => cases hi; exact ⟨_, rfl, .str z⟩
      | 1, hi => cases hi; exact ⟨_, rfl, .lst (.inl (.inl (s1 _ _ e0))) (RwsAt.dps (h3.same (s0.trans s1)))⟩
      | 2, hi => cases hi; exact ⟨_, rfl, .int n⟩
      | i + 3, hi => simp at hi
    refine ⟨p, rfl, ⟨_, t1⟩, fun D hD => lc_tup (xs := [.str z, .ref l, .int n]) (fun i H' => Same H1 H' ∧ H' D = some (.lst ((((dghDs z rs n).map PyData.shown).take i).map V.str))) ⟨same_new hD, upd_same⟩ (fun i H' _ h => sm_t h.1 t1) ?_ ?_⟩
    · rintro i y H2 hy ⟨s2, e2⟩
      obtain ⟨d, hd, hdp⟩ := six i y hy
      have hi : i < 3 := (List.getElem?_eq_some_iff.mp hy).1
      have sh := (ok.ft d (List.mem_of_getElem? hd)).g
      refine ⟨rfl, _, rfl, y, d, rfl, .of (Dp.same s2 _ _ hdp), sh.sh, sh.dp, sh.ln, _, e2, ?_, fun b o e => ?_, ?_⟩
      · rw [List.length_map, List.length_take, sizeLine_eq]
        omega
      · rw [upd_ne (ne_of_none e hD)]
        exact s2 _ _ e
      · have hg2 : ((dghDs z rs n).map PyData.shown)[i]? = some d.shown := by rw [List.getElem?_map, hd]; rfl
        rw [upd_same, List.take_succ, hg2, List.map_append]
        rfl
    · rintro H2 ⟨s2, e2⟩
      rw [List.take_of_length_le (by rw [List.length_map]; exact Nat.le_refl _)] at e2
      have zl := sizeLine_eq
      have jl := dj_len ok
      have l1 : (Str.ofString "Dough(").length = 6 := by decide +kernel
      have l2 : (Str.ofString ")").length = 1 := by decide +kernel
      refine ⟨Str.ofString "Dough(", rfl, ?_, ?_⟩
      · rw [empty_app]
        omega
      rw [empty_app]
      refine ⟨rfl, _, rfl, _, D, (dghDs z rs n).map PyData.shown, rfl, rfl, .inl (.inl (.inl e2)), ?_, .inl ⟨_, rfl, by omega, _, rfl, ?_, Str.ofString ")", rfl, ?_, k H2 ((s0.trans s1).trans s2)⟩⟩
      · have := dw_sum ok
        rw [List.length_map, show (dghDs z rs n).length = 3 from rfl, show (Str.ofString ", ").length = 2 by decide +kernel]
        omega
      · rw [PySem.Str.length_append]
        omega
      · rw [PySem.Str.length_append, PySem.Str.length_append]
        omega

end
end Lf

set_option Elab.async false
set_option linter.all false
set_option maxRecDepth 100000
set_option maxHeartbeats 4000000
set_option exponentiation.threshold 3000
namespace Lf
open PySem PySem.Spec PyProof.Rows L2
section
variable {P : Program} {w : World} {K : PySem.W.Frag} {mg : Str → Option Value} {base : Heap} {c0 c1 : Addr}
/-- the module's two fractions -/
structure Cs2 (K : PySem.W.Frag) (mg : Str → Option Value) (c0 c1 : Addr) : Prop where
  g0 : mg "NONE_OF_IT" = some (.ref c0)
  g1 : mg "ALL_OF_IT" = some (.ref c1)
  t0 : ∀ H, SqT K H c0 [.int 0, .int 1]
  t1 : ∀ H, SqT K H c1 [.int 1, .int 1]
theorem Cs2.a0 (T : Cs2 K mg c0 c1) (H : Hp) : AtK K H (.ref c0) f0 := ⟨c0, rfl, T.t0 H⟩
theorem Cs2.a1 (T : Cs2 K mg c0 c1) (H : Hp) : AtK K H (.ref c1) f1 := ⟨c1, rfl, T.t1 H⟩

/-! ### is_above_0 -/
/-! ### floor_of -/
theorem sc_floor_of : FnScope ["one"] ["one"] (defScope s_floor_of) := ⟨rfl, rfl, rfl, by decide +kernel, rfl, by decide +kernel, by decide +kernel⟩
def sp_floor (K : PySem.W.Frag) : Sp := fun vs H Q _ => ∃ (v : V) (f : Int × Int), vs = [v] ∧ AtK K H v f ∧ f.2 ≠ 0 ∧ Mid f.2 ∧ Q (.int (f.1.fdiv f.2)) H
theorem ok_floor {f : Addr} {fd : FuncData} (F : Fun K "floor_of" "floor_of" s_floor_of f fd) : FnG P w K mg base CX0 1 f fd ["one"] (sp_floor K) := by
  refine Gfun F sc_floor_of (fun vs H Q E h => ?_) (fun cdv A outer s H vs Q E hg hr h => ?_)
  · obtain ⟨v, d, rfl, _⟩ := h
    rfl
  · obtain ⟨v, d, rfl, hv, h0, hm, k⟩ := h
    refine ⟨_, (pss_one (ps_ret (pe_op op_fdivN (pe_ix ix_tup (pv 0) pe_int (fun _ _ => rfl)) (pe_ix ix_tup (pv 0) pe_int (fun _ _ => rfl))))), ?_⟩
    obtain ⟨p, rfl, hp⟩ := hv
    exact ⟨_, rfl, p, _, _, _, rfl, rfl, hp, atI_nat (j := 0) rfl, _, rfl, p, _, _, _, rfl, rfl, hp, atI_nat (j := 1) rfl, _, _, rfl, rfl, ⟨h0, hm.log⟩, k⟩

/-! ### refuse_no_weight -/
theorem sc_refuse_no_weight : FnScope ["thing"] ["thing"] (defScope s_refuse_no_weight) := ⟨rfl, rfl, rfl, by decide +kernel, rfl, by decide +kernel, by decide +kernel⟩
def sp_refw (K : PySem.W.Frag) : Sp := fun vs H Q _ => ∃ (v : V) (f : Int × Int), vs = [v] ∧ AtK K H v f ∧ IsF f ∧ 0 < f.1 ∧ Q .non H
theorem ok_refw {f : Addr} {fd : FuncData} (F : Fun K "refuse_no_weight" "refuse_no_weight" s_refuse_no_weight f fd) (C_is_above_0 : Cal P w K mg base CX0 3 "is_above_0" ["thing"] (sp_ab0 K)) : FnG P w K mg base CX0 4 f fd ["thing"] (sp_refw K) := by
  refine Gfun F sc_refuse_no_weight (fun vs H Q E h => ?_) (fun cdv A outer s H vs Q E hg hr h => ?_)
  · obtain ⟨v, d, rfl, _⟩ := h
    rfl
  · obtain ⟨v, d, rfl, hv, hf, hp, k⟩ := h
    refine ⟨_, (pss_one (ps_if (pt_not (pt_val (pe_g C_is_above_0 (hr.mono (by decide)) hg (pa_cons (pv 0) pa_nil))))
      (pss_one ps_dead)
      pss_nil)), ?_⟩
    refine ⟨_, rfl, v, d, rfl, hv, hf, _, rfl, ?_⟩
    rw [decide_eq_true hp]
    exact iteF k

/-! ### measure_or_none_of_it -/
theorem sc_measure_or_none_of_it : FnScope ["measure"] ["measure"] (defScope s_measure_or_none_of_it) := ⟨rfl, rfl, rfl, by decide +kernel, rfl, by decide +kernel, by decide +kernel⟩
/-- None for 0, or a fraction -/
def Opt (K : PySem.W.Frag) (H : Hp) (v : V) (f : Int × Int) : Prop := (v = .non ∧ f = f0) ∨ AtK K H v f
theorem Opt.same {H H' : Hp} {v : V} {f : Int × Int} (s : Same H H') (h : Opt K H v f) : Opt K H' v f := h.imp id (AtK.same s)
def sp_orN (K : PySem.W.Frag) : Sp := fun vs H Q _ => ∃ (v : V) (f : Int × Int), vs = [v] ∧ Opt K H v f ∧ ∀ v', (∀ H2, Opt K H2 v f → AtK K H2 v' f) → Q v' H
theorem ok_orN {f : Addr} {fd : FuncData} (T : Cs2 K mg c0 c1) (F : Fun K "measure_or_none_of_it" "measure_or_none_of_it" s_measure_or_none_of_it f fd) : FnG P w K mg base CX0 1 f fd ["measure"] (sp_orN K) := by
  refine Gfun F sc_measure_or_none_of_it (fun vs H Q E h => ?_) (fun cdv A outer s H vs Q E hg hr h => ?_)
  · obtain ⟨v, d, rfl, _⟩ := h
    rfl
  · obtain ⟨v, d, rfl, ho, k⟩ := h
    refine ⟨_, (pss_cons (ps_if (pt_cmp (pc_isN (pv 0)))
      (pss_one (ps_ret (pe_glob (v := .ref c0) rfl T.g0 rfl)))
      pss_nil)
      (pss_one (ps_ret (pv 0)))), ?_⟩
    rcases ho with ⟨rfl, rfl⟩ | ho
    · exact ⟨_, rfl, _, rfl, iteT (k _ fun H2 _ => T.a0 H2)⟩
    · obtain ⟨p, rfl, hp⟩ := ho
      exact ⟨_, rfl, _, rfl, iteF ⟨_, rfl, k _ fun H2 h2 => h2.elim (fun z => nomatch z.1) id⟩⟩

/-! ### is_measure -/
theorem sc_is_measure : FnScope ["thing"] ["thing"] (defScope s_is_measure) := ⟨rfl, rfl, rfl, by decide +kernel, rfl, by decide +kernel, by decide +kernel⟩
def sp_isMf (K : PySem.W.Frag) : Sp := fun vs H Q _ => ∃ (v : V) (f : Int × Int), vs = [v] ∧ AtK K H v f ∧ IsF f ∧ Q (.bl (decide (0 ≤ f.1))) H
theorem ok_isMf {f : Addr} {fd : FuncData} (F : Fun K "is_measure" "is_measure" s_is_measure f fd) (C_is_fraction : Cal P w K mg base CX0 2 "is_fraction" ["thing"] (sp_isfr K)) : FnG P w K mg base CX0 3 f fd ["thing"] (sp_isMf K) := by
  refine Gfun F sc_is_measure (fun vs H Q E h => ?_) (fun cdv A outer s H vs Q E hg hr h => ?_)
  · obtain ⟨v, d, rfl, _⟩ := h
    rfl
  · obtain ⟨v, d, rfl, hv, hf, k⟩ := h
    refine ⟨_, (pss_one (ps_ret (pe_and (pe_g C_is_fraction (hr.mono (by decide)) hg (pa_cons (pv 0) pa_nil)) (pe_one (pe_cmpR op_ge (pe_ix ix_tup (pv 0) pe_int (fun _ _ => rfl)) pe_int (nomark _)))))), ?_⟩
    refine ⟨_, rfl, v, tD d, rfl, hv.dq, ?_⟩
    rw [isfr_t hf]
    refine ⟨_, rfl, iteT ?_⟩
    obtain ⟨p, rfl, hp⟩ := hv
    exact ⟨_, rfl, p, _, _, _, rfl, rfl, hp, atI_nat (j := 0) rfl, _, _, rfl, rfl, k⟩

/-! ### is_loss -/
theorem sc_is_loss : FnScope ["thing"] ["thing"] (defScope s_is_loss) := ⟨rfl, rfl, rfl, by decide +kernel, rfl, by decide +kernel, by decide +kernel⟩
/-- a loss: from 0 on, below 1 -/
structure Lo (l : Int × Int) : Prop where
  f : IsF l
  nn : 0 ≤ l.1
  lt : l.1 < l.2
  bt : Bt 41 l
def sp_loss (K : PySem.W.Frag) : Sp := fun vs H Q _ => ∃ (v : V) (f : Int × Int), vs = [v] ∧ AtK K H v f ∧ Lo f ∧ Q (.bl true) H
theorem ok_loss {f : Addr} {fd : FuncData} (T : Cs2 K mg c0 c1) (F : Fun K "is_loss" "is_loss" s_is_loss f fd) (C_is_measure : Cal P w K mg base CX0 3 "is_measure" ["thing"] (sp_isMf K)) (C_is_less : Cal P w K mg base CX0 1 "is_less" ["one", "other"] (sp_is_less K)) : FnG P w K mg base CX0 4 f fd ["thing"] (sp_loss K) := by
  refine Gfun F sc_is_loss (fun vs H Q E h => ?_) (fun cdv A outer s H vs Q E hg hr h => ?_)
  · obtain ⟨v, d, rfl, _⟩ := h
    rfl
  · obtain ⟨v, d, rfl, hv, hl, k⟩ := h
    refine ⟨_, (pss_one (ps_ret (pe_and (pe_g C_is_measure (hr.mono (by decide)) hg (pa_cons (pv 0) pa_nil)) (pe_one (pe_g C_is_less (hr.mono (by decide)) hg (pa_cons (pv 0) (pa_cons (pe_glob (v := .ref c1) rfl T.g1 rfl) pa_nil))))))), ?_⟩
    refine ⟨_, rfl, v, d, rfl, hv, hl.f, ?_⟩
    rw [decide_eq_true hl.nn]
    refine ⟨_, rfl, iteT ?_⟩
    refine ⟨_, rfl, _, _, _, _, pr_atk hv (T.a1 H) hl.f f1_f hl.bt bt01.2 (by decide) (by decide), ?_⟩
    have e : decide (d.1 * f1.2 < f1.1 * d.2) = true := decide_eq_true (by show d.1 * 1 < 1 * d.2; have := hl.lt; omega)
    rw [e]
    exact k

/-! ### refuse_no_pan -/
theorem sc_refuse_no_pan : FnScope ["name", "weight", "loss"] ["name", "weight", "loss"] (defScope s_refuse_no_pan) := ⟨rfl, rfl, rfl, by decide +kernel, rfl, by decide +kernel, by decide +kernel⟩
/-- what a pan is made of -/
structure PanOk (z : Str) (h l : Int × Int) : Prop where
  nm : AllL z
  l1 : 1 ≤ z.length
  le : z.length ≤ 10
  hf : IsF h
  hp : 0 < h.1
  hb : Bt 130 h
  lo : Lo l
def sp_refp (K : PySem.W.Frag) : Sp := fun vs H Q _ => ∃ (z : Str) (vh vl : V) (h l : Int × Int), vs = [.str z, vh, vl] ∧ AtK K H vh h ∧ AtK K H vl l ∧ PanOk z h l ∧ ∀ H', Same H H' → Q .non H'
theorem ok_refp {f : Addr} {fd : FuncData} (F : Fun K "refuse_no_pan" "refuse_no_pan" s_refuse_no_pan f fd) (C_is_name : Cal P w K mg base CX0 2 "is_name" ["thing"] (sp_isnm K)) (C_is_above_0 : Cal P w K mg base CX0 3 "is_above_0" ["thing"] (sp_ab0 K)) (C_is_loss : Cal P w K mg base CX0 4 "is_loss" ["thing"] (sp_loss K)) : FnG P w K mg base CX0 5 f fd ["name", "weight", "loss"] (sp_refp K) := by
  refine Gfun F sc_refuse_no_pan (fun vs H Q E h => ?_) (fun cdv A outer s H vs Q E hg hr h => ?_)
  · obtain ⟨z, vh, vl, h, l, rfl, _⟩ := h
    rfl
  · obtain ⟨z, vh, vl, h, l, rfl, hh, hl, ok, k⟩ := h
    refine ⟨_, (pss_cons (ps_if (pt_not (pt_val (pe_g C_is_name (hr.mono (by decide)) hg (pa_cons (pv 0) pa_nil))))
      (pss_one ps_dead)
      pss_nil)
      (pss_cons (ps_if (pt_not (pt_val (pe_g C_is_above_0 (hr.mono (by decide)) hg (pa_cons (pv 1) pa_nil))))
      (pss_one ps_dead)
      pss_nil)
      (pss_one (ps_if (pt_not (pt_val (pe_g C_is_loss (hr.mono (by decide)) hg (pa_cons (pv 2) pa_nil))))
      (pss_one ps_dead)
      pss_nil)))), ?_⟩
    refine ⟨_, rfl, .str z, .str z, rfl, .dp (.str z) (by rfl), fun z' e => by cases e; exact Nat.le_trans ok.le (by decide), fun H1 s1 => ?_⟩
    rw [nm_is ok.nm ok.l1 ok.le]
    refine ⟨_, rfl, iteF ?_⟩
    refine ⟨_, rfl, vh, h, rfl, hh.same s1, ok.hf, _, rfl, ?_⟩
    rw [decide_eq_true ok.hp]
    refine iteF ?_
    exact ⟨_, rfl, vl, l, rfl, hl.same s1, ok.lo, _, rfl, iteF (k _ s1)⟩

end
end Lf

set_option Elab.async false
set_option linter.all false
set_option maxRecDepth 100000
set_option maxHeartbeats 4000000
set_option exponentiation.threshold 3000
namespace Lf
open PySem PySem.Spec PyProof.Rows L2
section
variable {P : Program} {w : World} {K : PySem.W.Frag} {mg : Str → Option Value} {base : Heap} {c0 c1 : Addr}
/-- a pan of the name z that holds h and loses l -/
def Pn (K : PySem.W.Frag) (H : Hp) (C x : Addr) (z : Str) (h l : Int × Int) : Prop := ∃ (dx : Addr) (vh vl : V), H x = some (.ins C dx [("own_name", .str z), ("own_holds", vh), ("own_loss", vl)]) ∧ AtK K H vh h ∧ AtK K H vl l
theorem Pn.same {H H' : Hp} {C x : Addr} {z : Str} {h l : Int × Int} (s : Same H H') (p : Pn K H C x z h l) : Pn K H' C x z h l := by
  obtain ⟨dx, vh, vl, h1, h2, h3⟩ := p
  exact ⟨dx, vh, vl, s _ _ h1, h2.same s, h3.same s⟩
/-- the three fields have no other holder -/
structure PanF (K : PySem.W.Frag) (C : Addr) : Prop where
  c : Cls K C
  n1 : NoAttr K C "own_name"
  n2 : NoAttr K C "own_holds"
  n3 : NoAttr K C "own_loss"

/-! ### Pan.__init__ -/
theorem sc_pinit : FnScope ["self", "name", "holds", "loss", "less"] ["self", "name", "holds", "loss"] (defScope s_pinit) := ⟨rfl, rfl, rfl, by decide +kernel, rfl, by decide +kernel, by decide +kernel⟩
/-- H0: the heap ahead of the object -/
def sp_pinit (K : PySem.W.Frag) (C : Addr) : Sp := fun vs H Q _ => ∃ (x dx : Addr) (H0 : Hp) (z : Str) (vh vo : V) (h l : Int × Int), vs = [.ref x, .str z, vh, vo] ∧ H0 x = none ∧ H0 dx = none ∧ dx ≠ x ∧ H = upd (upd H0 dx (.own x)) x (.ins C dx []) ∧
  AtK K H0 vh h ∧ Opt K H0 vo l ∧ PanOk z h l ∧ ∀ H', Same H0 H' → Pn K H' C x z h l → Q .non H'
theorem ok_pinit {C f : Addr} {fd : FuncData} {dvs : List V} {kws : List (Str × V)} (X : PanF K C) (F : FunD K "__init__" "Pan.__init__" (defArgs s_pinit) (defBody s_pinit) (defScope s_pinit) dvs kws f fd)
    (C_measure_or_none_of_it : Cal P w K mg base CX0 1 "measure_or_none_of_it" ["measure"] (sp_orN K)) (C_refuse_no_pan : Cal P w K mg base CX0 5 "refuse_no_pan" ["name", "weight", "loss"] (sp_refp K)) : FnG P w K mg base CX0 6 f fd ["self", "name", "holds", "loss"] (sp_pinit K C) := by
  refine GfunDX F sc_pinit (fun vs H Q E h => ?_) (fun cdv A outer s H vs Q E hg hr h => ?_)
  · obtain ⟨x, dx, H0, z, vh, vo, h, l, rfl, _⟩ := h
    rfl
  · obtain ⟨x, dx, H0, z, vh, vo, h, l, rfl, nx, nd, hdx, rfl, hh, ho, ok, k⟩ := h
    refine ⟨_, (pss_cons (ps_set (i := 4) sc_pinit.nd rfl (.inl rfl) (pe_g C_measure_or_none_of_it (hr.mono (by decide)) hg (pa_cons (pv 3) pa_nil)))
      (pss_cons (ps_expr (pe_g C_refuse_no_pan (hr.mono (by decide)) hg (pa_cons (pv 1) (pa_cons (pv 2) (pa_cons (pv 4) pa_nil)))))
      (pss_cons (ps_fld (pv 0) (pv 1) rfl)
      (pss_cons (ps_fld (pv 0) (pv 2) rfl)
      (pss_one (ps_fld (pv 0) (pv 4) rfl)))))), ?_⟩
    have s01 : Same H0 (upd (upd H0 dx (.own x)) x (.ins C dx [])) := fun b o e => by
      rw [upd_ne (ne_of_none e nx), upd_ne (ne_of_none e nd)]
      exact e
    have hx1 : upd (upd H0 dx (.own x)) x (.ins C dx []) x = some (.ins C dx []) := upd_same
    generalize upd (upd H0 dx (.own x)) x (.ins C dx []) = H1 at s01 hx1 ⊢
    refine ⟨_, rfl, vo, l, rfl, ho.same s01, fun vl hvl => ?_⟩
    have hl0 := hvl H0 ho
    refine ⟨_, rfl, _, rfl, _, rfl, z, vh, vl, h, l, rfl, hh.same s01, hl0.same s01, ok, fun H2 s12 => ?_⟩
    have hx2 := s12 _ _ hx1
    have s02 := s01.trans s12
    refine ⟨_, rfl, _, rfl, x, C, dx, [], rfl, hx2, X.c, X.n1, by decide, ?_⟩
    refine ⟨_, rfl, _, rfl, x, C, dx, _, rfl, upd_same, X.c, X.n2, by show 1 < 1000; decide, ?_⟩
    refine ⟨_, rfl, _, rfl, x, C, dx, _, rfl, upd_same, X.c, X.n3, by show 2 < 1000; decide, ?_⟩
    have s03 : Same H0 (upd (upd (upd H2 x (.ins C dx (putF "own_name" (.str z) []))) x (.ins C dx (putF "own_holds" vh (putF "own_name" (.str z) [])))) x (.ins C dx (putF "own_loss" vl (putF "own_holds" vh (putF "own_name" (.str z) []))))) := fun b o e => by
      rw [upd_ne (ne_of_none e nx), upd_ne (ne_of_none e nx), upd_ne (ne_of_none e nx)]
      exact s02 _ _ e
    exact k _ s03 ⟨dx, vh, vl, upd_same, hh.same s03, hl0.same s03⟩

/-! ### Pan.name -/
theorem sc_pname : FnScope ["self"] ["self"] (defScope s_pname) := ⟨rfl, rfl, rfl, by decide +kernel, rfl, by decide +kernel, by decide +kernel⟩
def sp_pname (K : PySem.W.Frag) (C : Addr) : Sp := fun vs H Q _ => ∃ (x : Addr) (z : Str) (h l : Int × Int), vs = [.ref x] ∧ Pn K H C x z h l ∧ Q (.str z) H
theorem ok_pname {C f : Addr} {fd : FuncData} (X : PanF K C) (F : Fun K "name" "Pan.name" s_pname f fd) : FnG P w K mg base CX0 1 f fd ["self"] (sp_pname K C) := by
  refine Gfun F sc_pname (fun vs H Q E h => ?_) (fun cdv A outer s H vs Q E hg hr h => ?_)
  · obtain ⟨x, z, h, l, rfl, _⟩ := h
    rfl
  · obtain ⟨x, z, h, l, rfl, ⟨dx, vh, vl, h1, h2, h3⟩, k⟩ := h
    exact ⟨_, (pss_one (ps_ret (pe_fld (pv 0) rfl))), _, rfl, x, C, dx, _, _, rfl, h1, X.c, X.n1, rfl, k⟩

/-! ### Pan.holds -/
theorem sc_pholds : FnScope ["self"] ["self"] (defScope s_pholds) := ⟨rfl, rfl, rfl, by decide +kernel, rfl, by decide +kernel, by decide +kernel⟩
def sp_pholds (K : PySem.W.Frag) (C : Addr) : Sp := fun vs H Q _ => ∃ (x : Addr) (z : Str) (h l : Int × Int), vs = [.ref x] ∧ Pn K H C x z h l ∧ ∀ v, AtK K H v h → Q v H
theorem ok_pholds {C f : Addr} {fd : FuncData} (X : PanF K C) (F : Fun K "holds" "Pan.holds" s_pholds f fd) : FnG P w K mg base CX0 1 f fd ["self"] (sp_pholds K C) := by
  refine Gfun F sc_pholds (fun vs H Q E h => ?_) (fun cdv A outer s H vs Q E hg hr h => ?_)
  · obtain ⟨x, z, h, l, rfl, _⟩ := h
    rfl
  · obtain ⟨x, z, h, l, rfl, ⟨dx, vh, vl, h1, h2, h3⟩, k⟩ := h
    exact ⟨_, (pss_one (ps_ret (pe_fld (pv 0) rfl))), _, rfl, x, C, dx, _, _, rfl, h1, X.c, X.n2, rfl, k _ h2⟩

/-! ### Pan.loss -/
theorem sc_ploss : FnScope ["self"] ["self"] (defScope s_ploss) := ⟨rfl, rfl, rfl, by decide +kernel, rfl, by decide +kernel, by decide +kernel⟩
def sp_ploss (K : PySem.W.Frag) (C : Addr) : Sp := fun vs H Q _ => ∃ (x : Addr) (z : Str) (h l : Int × Int), vs = [.ref x] ∧ Pn K H C x z h l ∧ ∀ v, AtK K H v l → Q v H
theorem ok_ploss {C f : Addr} {fd : FuncData} (X : PanF K C) (F : Fun K "loss" "Pan.loss" s_ploss f fd) : FnG P w K mg base CX0 1 f fd ["self"] (sp_ploss K C) := by
  refine Gfun F sc_ploss (fun vs H Q E h => ?_) (fun cdv A outer s H vs Q E hg hr h => ?_)
  · obtain ⟨x, z, h, l, rfl, _⟩ := h
    rfl
  · obtain ⟨x, z, h, l, rfl, ⟨dx, vh, vl, h1, h2, h3⟩, k⟩ := h
    exact ⟨_, (pss_one (ps_ret (pe_fld (pv 0) rfl))), _, rfl, x, C, dx, _, _, rfl, h1, X.c, X.n3, rfl, k _ h3⟩

/-! ### Pan.baked -/
theorem sc_pbaked : FnScope ["self"] ["self"] (defScope s_pbaked) := ⟨rfl, rfl, rfl, by decide +kernel, rfl, by decide +kernel, by decide +kernel⟩
/-- what is left of h when l of it is lost -/
def bakedF (h l : Int × Int) : Int × Int := fmul h (fsub f1 l)
theorem Lo.sub {l : Int × Int} (h : Lo l) : IsF (fsub f1 l) ∧ Bt 43 (fsub f1 l) ∧ 0 < (fsub f1 l).1 := by
  refine ⟨fsub_f f1_f h.f, fsub_bt f1_f h.f bt01.2 h.bt, ?_⟩
  have h1 := h.f.1
  have h2 := h.lt
  exact low_top_pos (by show 0 < 1 * l.2; omega) (by show 0 < 1 * l.2 - l.1 * 1; omega)
def sp_pbaked (K : PySem.W.Frag) (C : Addr) : Sp := fun vs H Q _ => ∃ (x : Addr) (z : Str) (h l : Int × Int), vs = [.ref x] ∧ Pn K H C x z h l ∧ PanOk z h l ∧ ∀ (H' : Hp) (v : V), Same H H' → AtK K H' v (bakedF h l) → Q v H'
theorem ok_pbaked {C f : Addr} {fd : FuncData} (T : Cs2 K mg c0 c1) (X : PanF K C) (F : Fun K "baked" "Pan.baked" s_pbaked f fd) (C_times : Cal P w K mg base CX0 5 "times" ["one", "other"] (sp_times K)) (C_minus : Cal P w K mg base CX0 5 "minus" ["one", "other"] (sp_minus K)) : FnG P w K mg base CX0 6 f fd ["self"] (sp_pbaked K C) := by
  refine Gfun F sc_pbaked (fun vs H Q E h => ?_) (fun cdv A outer s H vs Q E hg hr h => ?_)
  · obtain ⟨x, z, h, l, rfl, _⟩ := h
    rfl
  · obtain ⟨x, z, h, l, rfl, ⟨dx, vh, vl, h1, h2, h3⟩, ok, k⟩ := h
    refine ⟨_, (pss_one (ps_ret (pe_g C_times (hr.mono (by decide)) hg (pa_cons (pe_fld (pv 0) rfl) (pa_cons (pe_g C_minus (hr.mono (by decide)) hg (pa_cons (pe_glob (v := .ref c1) rfl T.g1 rfl) (pa_cons (pe_fld (pv 0) rfl) pa_nil))) pa_nil))))), ?_⟩
    obtain ⟨sf, sb, _⟩ := ok.lo.sub
    refine ⟨_, rfl, x, C, dx, _, _, rfl, h1, X.c, X.n2, rfl, _, rfl, x, C, dx, _, _, rfl, h1, X.c, X.n3, rfl, ?_⟩
    refine ⟨_, _, _, _, pr_atk (T.a1 H) h3 f1_f ok.lo.f bt01.2 ok.lo.bt (by decide) (by decide), fun H1 p s1 e1 => ?_⟩
    refine ⟨_, _, _, _, pr_atk (h2.same s1) (AtK.of e1) ok.hf sf ok.hb sb (by decide) (by decide), fun H2 p2 s2 e2 => ?_⟩
    exact k H2 _ (s1.trans s2) (AtK.of e2)

/-! ### Pan.__eq__ -/
theorem sc_peq : FnScope ["self", "other"] ["self", "other"] (defScope s_peq) := ⟨rfl, rfl, rfl, by decide +kernel, rfl, by decide +kernel, by decide +kernel⟩
def sp_peq (K : PySem.W.Frag) (C : Addr) : Sp := fun vs H Q _ => ∃ (x : Addr) (y : V) (z : Str) (h l : Int × Int), vs = [.ref x, y] ∧ Pn K H C x z h l ∧
  ((Alien K H C y ∧ Q (.bl false) H) ∨ ∃ (x' : Addr) (z' : Str) (h' l' : Int × Int), y = .ref x' ∧ Pn K H C x' z' h' l' ∧ Q (.bl (decide (z = z' ∧ h = h' ∧ l = l'))) H)
theorem two_shaped (f : Int × Int) : SeqAt.shaped (tD f) = true := rfl
theorem ok_peq {C f : Addr} {fd : FuncData} (Mx : Bltx mg) (Y : ClsX K C) (X : PanF K C) (gP : mg "Pan" = some (.ref C)) (F : Fun K "__eq__" "Pan.__eq__" s_peq f fd) : FnG P w K mg base CX0 1 f fd ["self", "other"] (sp_peq K C) := by
  refine Gfun F sc_peq (fun vs H Q E h => ?_) (fun cdv A outer s H vs Q E hg hr h => ?_)
  · obtain ⟨x, y, z, h, l, rfl, _⟩ := h
    rfl
  · obtain ⟨x, y, z, h, l, rfl, ⟨dx, vh, vl, h1, h2, h3⟩, k⟩ := h
    refine ⟨_, (pss_cons (ps_if (PW.pt (pw_or (pt_not (pt_val (pe_callB call_isi rfl Mx.isinstance bt_isinstance (pa_cons (pv 1) (pa_cons (pe_glob (v := .ref C) rfl gP rfl) pa_nil))))) (pw_or1 (pt_cmpR op_ne (pe_fld (pv 0) rfl) (pe_fld (pv 1) rfl) (nomark _)))))
      (pss_one (ps_ret pe_bl))
      pss_nil)
      (pss_one (ps_ret (pe_and (pe_cmpR (op_eqD hr.units) (pe_fld (pv 0) rfl) (pe_fld (pv 1) rfl) (nomark _)) (pe_one (pe_cmpR (op_eqD hr.units) (pe_fld (pv 0) rfl) (pe_fld (pv 1) rfl) (nomark _))))))), ?_⟩
    rcases k with ⟨⟨T, hT, hk⟩, k⟩ | ⟨x', z', h', l', rfl, ⟨dx', vh', vl', h1', h2', h3'⟩, k⟩
    · exact ⟨_, rfl, _, _, _, _, _, rfl, .own C, hT, hk, _, rfl, iteT k⟩
    · refine ⟨_, rfl, _, _, _, _, _, rfl, .own C, Y.ty h1', kit_self C, _, rfl, iteF ?_⟩
      refine ⟨_, rfl, x, C, dx, _, _, rfl, h1, X.c, X.n1, rfl, _, rfl, x', C, dx', _, _, rfl, h1', X.c, X.n1, rfl, rfl, _, rfl, ite2 (fun e => ?_) (fun e => ?_)⟩
      · have nz : ¬ z = z' := fun q => by subst q; simp at e
        rw [decide_eq_false (fun q => nz q.1)] at k
        exact k
      · have ez : z = z' := by
          by_cases q : z = z'
          · exact q
          · exact absurd (by simp [q]) e
        subst ez
        refine ⟨_, rfl, x, C, dx, _, _, rfl, h1, X.c, X.n2, rfl, _, rfl, x', C, dx', _, _, rfl, h1', X.c, X.n2, rfl, ?_⟩
        refine ⟨_, _, h2.dp, h2'.dp, two_shaped h, two_shaped h', ?_⟩
        rw [eqv_tD]
        refine ⟨_, rfl, ite2 (fun e2 => ?_) (fun e2 => ?_)⟩
        · have eh : h = h' := of_decide_eq_true e2
          subst eh
          refine ⟨_, rfl, x, C, dx, _, _, rfl, h1, X.c, X.n3, rfl, _, rfl, x', C, dx', _, _, rfl, h1', X.c, X.n3, rfl, ?_⟩
          refine ⟨_, _, h3.dp, h3'.dp, two_shaped l, two_shaped l', ?_⟩
          rw [eqv_tD]
          have e3 : decide (z = z ∧ h = h ∧ l = l') = decide (l = l') := by
            by_cases q : l = l' <;> simp [q]
          rw [e3] at k
          exact k
        · have nh : ¬ h = h' := fun q => e2 (decide_eq_true q)
          rw [decide_eq_false (fun q => nh q.2.1)] at k
          exact k

/-! ### Pan.__repr__ -/
theorem sc_prepr : FnScope ["self", "words", "told"] ["self"] (defScope s_prepr) := ⟨rfl, rfl, rfl, by decide +kernel, rfl, by decide +kernel, by decide +kernel⟩
theorem shown_len {w k : Nat} {d : PyData} (h : Ft w k d) : d.shown.length ≤ 1002 * w + 1000 := by
  have e := PyData.shown_le 1000 (by decide) d h.lv
  have e2 : (1000 + 2) * d.weight ≤ 1002 * w := Nat.mul_le_mul (Nat.le_refl _) h.wt
  omega
/-- the three of a pan -/
def panDs (z : Str) (h l : Int × Int) : List PyData := [.str z, tD h, tD l]
def panText (z : Str) (h l : Int × Int) : Str := Str.ofString "Pan(" ++ Txt.join (Str.ofString ", ") ((panDs z h l).map PyData.shown) ++ Str.ofString ")"
theorem PanOk.ft {z : Str} {h l : Int × Int} (ok : PanOk z h l) : ∀ d ∈ panDs z h l, ∃ w, Ft w 1 d ∧ w ≤ 1802 := by
  intro d hd
  simp only [panDs, List.mem_cons, List.not_mem_nil, or_false] at hd
  rcases hd with rfl | rfl | rfl
  · have f : Ft 10 0 (.str z) := Ft.str (al_sg ok.nm) ok.le
    exact ⟨10, ⟨f.sh, f.nd, Nat.le_trans f.dp (by decide), f.lv, f.wt⟩, by decide⟩
  · exact ⟨1802, Ft.two (ok.hb.sm (by decide)).1 (ok.hb.sm (by decide)).2, Nat.le_refl _⟩
  · exact ⟨1802, Ft.two (ok.lo.bt.sm (by decide)).1 (ok.lo.bt.sm (by decide)).2, Nat.le_refl _⟩
theorem pw_len {z : Str} {h l : Int × Int} (ok : PanOk z h l) : ∀ t ∈ (panDs z h l).map PyData.shown, t.length ≤ 1806604 := by
  intro t ht
  obtain ⟨d, hd, rfl⟩ := List.mem_map.mp ht
  obtain ⟨w, hw, hw2⟩ := ok.ft d hd
  have := shown_len hw
  have : 1002 * w ≤ 1002 * 1802 := Nat.mul_le_mul_left _ hw2
  omega
theorem pw_sum {z : Str} {h l : Int × Int} (ok : PanOk z h l) : (((panDs z h l).map PyData.shown).map (·.length)).sum ≤ 5419812 := by
  have := sum_len_le _ (pw_len ok)
  rw [List.length_map] at this
  exact this
theorem pj_len {z : Str} {h l : Int × Int} (ok : PanOk z h l) : (Txt.join (Str.ofString ", ") ((panDs z h l).map PyData.shown)).length ≤ 5419818 := by
  have h1 := join_len ((panDs z h l).map PyData.shown)
  have h2 := pw_sum ok
  rw [List.length_map, show (panDs z h l).length = 3 from rfl] at h1
  have e : Txt.join (Str.ofString ", ") ((panDs z h l).map PyData.shown) = Str.join (Str.ofString ", ") ((panDs z h l).map PyData.shown) := StrLaws.glued_eq_join _ _
  rw [e]
  omega
def sp_prepr (K : PySem.W.Frag) (C : Addr) : Sp := fun vs H Q _ => ∃ (x : Addr) (z : Str) (h l : Int × Int), vs = [.ref x] ∧ Pn K H C x z h l ∧ PanOk z h l ∧ ∀ H', Same H H' → Q (.str (panText z h l)) H'
theorem ok_prepr {C f : Addr} {fd : FuncData} (M : Blt mg) (X : PanF K C) (F : Fun K "__repr__" "Pan.__repr__" s_prepr f fd) : FnG P w K mg base CX0 1 f fd ["self"] (sp_prepr K C) := by
  refine Gfun F sc_prepr (fun vs H Q E h => ?_) (fun cdv A outer s H vs Q E hg hr h => ?_)
  · obtain ⟨x, z, h, l, rfl, _⟩ := h
    rfl
  · obtain ⟨x, z, h, l, rfl, ⟨dx, vh, vl, h1, h2, h3⟩, ok, k⟩ := h
    refine ⟨_, (pss_cons (ps_setLc (i := 1) (own := [("told", 2)]) (g := gName 2) (tt := tYes) rfl sc_prepr.nd rfl rfl (sw_true rfl rfl rfl (by decide +kernel)) (pi_tup (pe_tup (pa_cons (pe_fld (pv 0) rfl) (pa_cons (pe_fld (pv 0) rfl) (pa_cons (pe_fld (pv 0) rfl) pa_nil))))) (blkOk_by (N := ["self", "words", "told"]) (sc := defScope s_prepr) (by decide +kernel)) (fun _ _ _ _ _ => pg_name (i := 2) sc_prepr.nd rfl (Or.inl rfl)) (fun _ _ _ _ _ => pts_nil) (fun _ _ _ _ _ => (pe_callB (call_showK (K := K) hg hr) rfl M.repr bt_repr (pa_cons (pv 2) pa_nil))))
      (pss_one (ps_ret (pe_joined (PJ.cons pe_str (PJ.cons (pe_fmt (pe_bm PySem.F.plainAttrs_str PySem.F.slot_str_join PySem.F.type_str_join mt_join pe_str (pa_cons (pv 1) pa_nil))) (PJ.cons pe_str PJ.nil))))))), ?_⟩
    refine ⟨_, rfl, x, C, dx, _, _, rfl, h1, X.c, X.n1, rfl, _, rfl, x, C, dx, _, _, rfl, h1, X.c, X.n2, rfl, _, rfl, x, C, dx, _, _, rfl, h1, X.c, X.n3, rfl, len_show (Nat.le_of_ble_eq_true rfl), fun p hp => ?_⟩
    have s1 : Same H (L2.upd H p (.tup [.str z, vh, vl])) := same_new hp
    have t1 : SqT K (L2.upd H p (.tup [.str z, vh, vl])) p [.str z, vh, vl] := .inl (.inl upd_same)
    generalize L2.upd H p (.tup [.str z, vh, vl]) = H1 at s1 t1 ⊢
    have six : DpsAt K H1 [.str z, vh, vl] (panDs z h l) := by
      intro i v hi
      match i, hi with
      | 0, hi => cases hi; exact ⟨_, rfl, .str z⟩
      | 1, hi => cases hi; exact ⟨_, rfl, (h2.same s1).dp⟩
      | 2, hi => cases hi; exact ⟨_, rfl, (h3.same s1).dp⟩
      | i + 3, hi => simp at hi
    refine ⟨p, rfl, ⟨_, t1⟩, fun D hD => lc_tup (xs := [.str z, vh, vl]) (fun i H' => Same H1 H' ∧ H' D = some (.lst ((((panDs z h l).map PyData.shown).take i).map V.str))) ⟨same_new hD, upd_same⟩ (fun i H' _ h => sm_t h.1 t1) ?_ ?_⟩
    · rintro i y H2 hy ⟨s2, e2⟩
      obtain ⟨d, hd, hdp⟩ := six i y hy
      obtain ⟨w, hw, hw2⟩ := ok.ft d (List.mem_of_getElem? hd)
      have hi : i < 3 := (List.getElem?_eq_some_iff.mp hy).1
      have sh := hw.g (by decide) (by omega)
      refine ⟨rfl, _, rfl, y, d, rfl, .of (Dp.same s2 _ _ hdp), sh.sh, sh.dp, sh.ln, _, e2, ?_, fun b o e => ?_, ?_⟩
      · rw [List.length_map, List.length_take, sizeLine_eq]
        omega
      · rw [upd_ne (ne_of_none e hD)]
        exact s2 _ _ e
      · have hg2 : ((panDs z h l).map PyData.shown)[i]? = some d.shown := by rw [List.getElem?_map, hd]; rfl
        rw [upd_same, List.take_succ, hg2, List.map_append]
        rfl
    · rintro H2 ⟨s2, e2⟩
      rw [List.take_of_length_le (by rw [List.length_map]; exact Nat.le_refl _)] at e2
      have zl := sizeLine_eq
      have jl := pj_len ok
      have l1 : (Str.ofString "Pan(").length = 4 := by decide +kernel
      have l2 : (Str.ofString ")").length = 1 := by decide +kernel
      refine ⟨Str.ofString "Pan(", rfl, ?_, ?_⟩
      · rw [empty_app]
        omega
      rw [empty_app]
      refine ⟨rfl, _, rfl, _, D, (panDs z h l).map PyData.shown, rfl, rfl, .inl (.inl (.inl e2)), ?_, .inl ⟨_, rfl, by omega, _, rfl, ?_, Str.ofString ")", rfl, ?_, k H2 (s1.trans s2)⟩⟩
      · have := pw_sum ok
        rw [List.length_map, show (panDs z h l).length = 3 from rfl, show (Str.ofString ", ").length = 2 by decide +kernel]
        omega
      · rw [PySem.Str.length_append]
        omega
      · rw [PySem.Str.length_append, PySem.Str.length_append]
        omega

end
end Lf

set_option Elab.async false
set_option linter.all false
set_option maxRecDepth 100000
set_option maxHeartbeats 4000000
set_option exponentiation.threshold 3000
namespace Lf
open PySem PySem.Spec PyProof.Rows L2
/-- the entries at these places -/
def pick {α : Type} (l : List α) : List Nat → List α
  | [] => []
  | i :: is => (match l[i]? with | some x => [x] | none => []) ++ pick l is
theorem pick_rel {vs : List V} {us : List Value} (r : Vals vs us) : ∀ is, Vals (pick vs is) (pick us is)
  | [] => .nil
  | i :: is => by
    have ih := pick_rel r is
    unfold pick
    by_cases h : i < vs.length
    · obtain ⟨u, hu, ru⟩ := r.get (List.getElem?_eq_getElem h)
      rw [List.getElem?_eq_getElem h, hu]
      exact .cons ru ih
    · have h2 : us[i]? = none := List.getElem?_eq_none (by have := r.length; omega)
      rw [List.getElem?_eq_none (by omega), h2]
      exact ih
def nons : List V := [.non, .non, .non, .non, .non]
def gAll {α : Type} (us _ _ : List α) : List α := us
def gDef {α : Type} (us ds _ : List α) : List α := us ++ ds
def gNamP {α : Type} (us _ ws : List α) : List α := us ++ pick ws [1, 2, 0]
def gMix {α : Type} (us _ ws : List α) : List α := us ++ pick ws [0, 1]
/-- all the ways a pan's arguments are bound -/
structure PWays (K : PySem.W.Frag) (fd : FuncData) : Prop where
  all : ∃ g, KBn K fd ["self", "name", "holds", "loss"] (3 + 1) [] g (fun vs zs => gAll vs [.non] zs)
  nam : ∃ g, KBn K fd ["self", "name", "holds", "loss"] (0 + 1) ["loss", "name", "holds"] g (fun vs zs => gNamP vs [.non] zs)
  two : ∃ g, KBn K fd ["self", "name", "holds", "loss"] (2 + 1) [] g (fun vs zs => gDef vs [.non] zs)
  mix : ∃ g, KBn K fd ["self", "name", "holds", "loss"] (1 + 1) ["holds", "loss"] g (fun vs zs => gMix vs [.non] zs)
theorem pways_of {K : PySem.W.Frag} {f : Addr} {fd : FuncData} (F : FunD K "__init__" "Pan.__init__" (defArgs s_pinit) (defBody s_pinit) (defScope s_pinit) [.non] [] f fd) : PWays K fd := by
  refine ⟨?_, ?_, ?_, ?_⟩
  · obtain ⟨its, hb⟩ := F.kbindsD (ps := ["self", "name", "holds", "loss"]) (3 + 1) [] (fun us ds ws => gAll us ds ws) (fun z => nomatch z) (fun r1 r2 r3 => r1) (fun T kV doc pm an cdv ct us its ws h1 h2 h3 => by
      match us, its, ws, h1, h2, h3 with
      | [_, _, _, _], [_], [], _, _, _ => exact ⟨_, rfl, rfl⟩)
    exact ⟨_, hb⟩
  · obtain ⟨its, hb⟩ := F.kbindsD (ps := ["self", "name", "holds", "loss"]) (0 + 1) ["loss", "name", "holds"] (fun us ds ws => gNamP us ds ws) (fun z => nomatch z) (fun r1 r2 r3 => r1.append (pick_rel r3 _)) (fun T kV doc pm an cdv ct us its ws h1 h2 h3 => by
      match us, its, ws, h1, h2, h3 with
      | [_], [_], [_, _, _], _, _, _ => exact ⟨_, rfl, rfl⟩)
    exact ⟨_, hb⟩
  · obtain ⟨its, hb⟩ := F.kbindsD (ps := ["self", "name", "holds", "loss"]) (2 + 1) [] (fun us ds ws => gDef us ds ws) (fun z => nomatch z) (fun r1 r2 r3 => r1.append r2) (fun T kV doc pm an cdv ct us its ws h1 h2 h3 => by
      match us, its, ws, h1, h2, h3 with
      | [_, _, _], [_], [], _, _, _ => exact ⟨_, rfl, rfl⟩)
    exact ⟨_, hb⟩
  · obtain ⟨its, hb⟩ := F.kbindsD (ps := ["self", "name", "holds", "loss"]) (1 + 1) ["holds", "loss"] (fun us ds ws => gMix us ds ws) (fun z => nomatch z) (fun r1 r2 r3 => r1.append (pick_rel r3 _)) (fun T kV doc pm an cdv ct us its ws h1 h2 h3 => by
      match us, its, ws, h1, h2, h3 with
      | [_, _], [_], [_, _], _, _, _ => exact ⟨_, rfl, rfl⟩)
    exact ⟨_, hb⟩
/-- a def of the module that is called with less than all of its arguments -/
structure CalN (P : Program) (w : World) (K : PySem.W.Frag) (mg : Str → Option Value) (base : Heap) (k n : Nat) (x : Str) (ps : List Str) (gV : List V → List V → List V) (sp : Sp) : Prop where
  ex : ∃ (f : Addr) (fd : FuncData) (g : List Value → List Value → List Value), FnG P w K mg base CX0 k f fd ps sp ∧ KBn K fd ps n [] g gV ∧ mg x = some (.ref f) ∧ PySem.W.keepIn K (.ref f) = true
def tGN (n : Nat) (sp : Sp) (gV : List V → List V → List V) (t : TA) : TE := fun σ H Q => t σ H fun vs H1 => vs.length = n ∧ sp (gV vs []) H1 Q E0
theorem pe_gN {X : Cx} {k n : Nat} {x : Str} {ps : List Str} {gV : List V → List V → List V} {sp : Sp} {e : Expr} {es : List Expr} {t : TA} {p pos : Pos} (C : CalN X.prog X.w X.K X.mg X.base k n x ps gV sp) (hr : Room k X.A) (hG : X.A.guards = some []) (ha : PA X (e :: es) t) (hg : Gl X x := by rfl)
    (hdb : (x == ("__debug__" : Str)) = false := by decide) (hst : starEach (e :: es) X.env = (false, eval e X.env) :: starEach es X.env := by rfl) (hpl : (backTo pos (starEach es X.env)).any (·.1) = false := by rfl) :
    PE X (.Call (.Name x p) (e :: es) [] pos) (tGN n sp gV t) := by
  obtain ⟨f, fd, g, F, hb, hm, hk⟩ := C.ex
  constructor
  intro pins s σ H Q I h
  apply wpAny_Call_Name_kw
  apply ld_glob I hg hm _ hdb
  apply PySem.W.callWith_K (h₀ := X.base) I.ok.mod.kin hk _ hst hpl
  apply thn (ha.run pos pins s σ H _ I h)
  rintro us s1 ⟨vs, H1, I1, r, hl, q⟩
  exact ⟨I1.kIn, run_g (ar := ⟨us, []⟩) F hr hG pass_no I1 (hb.to s1 us [] I1.kIn (r.length ▸ hl) rfl) (hb.rel r .nil) q⟩
section
variable {P : Program} {w : World} {K : PySem.W.Frag} {mg : Str → Option Value} {base : Heap} {c0 c1 : Addr}

/-! ### loaves -/
theorem sc_loaves : FnScope ["weight", "pan", "count"] ["weight", "pan"] (defScope s_loaves) := ⟨rfl, rfl, rfl, by decide +kernel, rfl, by decide +kernel, by decide +kernel⟩
/-- how often h goes into a weight, and what is left -/
def cntF (wt h : Int × Int) : Int := (fdiv wt h).1.fdiv (fdiv wt h).2
def rstF (wt h : Int × Int) : Int × Int := fsub wt (fmul (cntF wt h, 1) h)
/-- a weight -/
structure Wgt (k : Nat) (f : Int × Int) : Prop where
  lo : IsF f
  p : 0 < f.1
  b : Bt k f
theorem fdiv_abs {n d : Int} (hd : 0 < d) : (n.fdiv d).natAbs ≤ n.natAbs := by
  rw [fdiv_pos_eq hd]
  exact Int.natAbs_ediv_le_natAbs n d
theorem cnt_bt {wt h : Int × Int} (hw : Wgt 130 wt) (hh : Wgt 130 h) : Bt 260 (cntF wt h, 1) := by
  have h0 : h.1 ≠ 0 := by have := hh.p; omega
  have b := fdiv_bt hw.lo h0 hw.b hh.b
  have f := fdiv_f hw.lo h0
  exact ⟨Nat.lt_of_le_of_lt (fdiv_abs f.1) b.1, by show (1 : Int).natAbs < 2 ^ 260; decide⟩
def sp_loaves (K : PySem.W.Frag) (C : Addr) : Sp := fun vs H Q _ => ∃ (v : V) (x : Addr) (wt : Int × Int) (z : Str) (h l : Int × Int), vs = [v, .ref x] ∧ AtK K H v wt ∧ Wgt 130 wt ∧ Pn K H C x z h l ∧ PanOk z h l ∧ ∀ H' p v', Same H H' → H' p = some (.tup [.int (cntF wt h), v']) → AtK K H' v' (rstF wt h) → Q (.ref p) H'
theorem ok_loaves {C f fh : Addr} {fd fdh : FuncData} (MH : MetG P w K mg base CX0 1 C "holds" fh fdh ["self"] (sp_pholds K C)) (F : Fun K "loaves" "loaves" s_loaves f fd) (C_refuse_no_weight : Cal P w K mg base CX0 4 "refuse_no_weight" ["thing"] (sp_refw K)) (C_floor_of : Cal P w K mg base CX0 1 "floor_of" ["one"] (sp_floor K)) (C_over : Cal P w K mg base CX0 5 "over" ["one", "other"] (sp_over K)) (C_minus : Cal P w K mg base CX0 5 "minus" ["one", "other"] (sp_minus K)) (C_times : Cal P w K mg base CX0 5 "times" ["one", "other"] (sp_times K)) :
    FnG P w K mg base CX0 6 f fd ["weight", "pan"] (sp_loaves K C) := by
  refine Gfun F sc_loaves (fun vs H Q E h => ?_) (fun cdv A outer s H vs Q E hg hr h => ?_)
  · obtain ⟨v, x, wt, z, h, l, rfl, _⟩ := h
    rfl
  · obtain ⟨v, x, wt, z, h, l, rfl, hv, hw, pn, ok, k⟩ := h
    refine ⟨_, (pss_cons (ps_expr (pe_g C_refuse_no_weight (hr.mono (by decide)) hg (pa_cons (pv 0) pa_nil)))
      (pss_cons (ps_set (i := 2) sc_loaves.nd rfl (.inl rfl) (pe_g C_floor_of (hr.mono (by decide)) hg (pa_cons (pe_g C_over (hr.mono (by decide)) hg (pa_cons (pv 0) (pa_cons (pe_meG0 (pv 1) MH (hr.mono (by decide)) hg (fun _ => pass_no)) pa_nil))) pa_nil)))
      (pss_one (ps_ret (pe_tup (pa_cons (pv 2) (pa_cons (pe_g C_minus (hr.mono (by decide)) hg (pa_cons (pv 0) (pa_cons (pe_g C_times (hr.mono (by decide)) hg (pa_cons (pe_tup (pa_cons (pv 2) (pa_cons pe_int pa_nil))) (pa_cons (pe_meG0 (pv 1) MH (hr.mono (by decide)) hg (fun _ => pass_no)) pa_nil))) pa_nil))) pa_nil))))))), ?_⟩
    have hh : Wgt 130 h := ⟨ok.hf, ok.hp, ok.hb⟩
    have h0 : h.1 ≠ 0 := by have := hh.p; omega
    have qf := fdiv_f hw.lo h0
    have qb := fdiv_bt hw.lo h0 hw.b hh.b
    have cb := cnt_bt hw hh
    obtain ⟨dx, vh, vl, px⟩ := id pn
    refine ⟨_, rfl, v, wt, rfl, hv, hw.lo, hw.p, ?_⟩
    refine ⟨_, rfl, _, rfl, x, dx, _, rfl, px.1, rfl, x, z, h, l, rfl, pn, fun v2 a2 => ?_⟩
    refine ⟨_, _, _, _, pr_atk hv a2 hw.lo hh.lo hw.b hh.b (by decide) (by decide), h0, fun H1 p1 s1 e1 => ?_⟩
    refine ⟨_, _, rfl, AtK.of e1, qf.ne, (qb.sm (by decide)).2.mid, ?_⟩
    unfold rstF at k
    have ecn : cntF wt h = (low (wt.1 * h.2) (wt.2 * h.1)).1.fdiv (low (wt.1 * h.2) (wt.2 * h.1)).2 := rfl
    rw [ecn] at k cb
    generalize (low (wt.1 * h.2) (wt.2 * h.1)).1.fdiv (low (wt.1 * h.2) (wt.2 * h.1)).2 = cn at k cb ⊢
    obtain ⟨dx1, vh1, vl1, px1⟩ := pn.same s1
    refine ⟨_, rfl, _, rfl, _, rfl, len_show (Nat.le_of_ble_eq_true rfl), fun p2 n2 => ?_⟩
    have s2 : Same H1 (L2.upd H1 p2 (.tup [.int (cn), .int 1])) := same_new n2
    have e2 : L2.upd H1 p2 (.tup [.int (cn), .int 1]) p2 = some (.tup [.int (cn), .int 1]) := upd_same
    generalize L2.upd H1 p2 (.tup [.int (cn), .int 1]) = H2 at s2 e2 ⊢
    obtain ⟨dx2, vh2, vl2, px2⟩ := (pn.same s1).same s2
    refine ⟨_, rfl, x, dx2, _, rfl, px2.1, rfl, x, z, h, l, rfl, (pn.same s1).same s2, fun v3 a3 => ?_⟩
    refine ⟨_, _, _, _, pr_atk (f := (cn, 1)) (AtK.of e2) a3 (m1_f _) hh.lo cb hh.b (by decide) (by decide), fun H3 p3 s3 e3 => ?_⟩
    have tf := fmul_f (m1_f cn) hh.lo
    have tb := fmul_bt (m1_f cn) hh.lo cb hh.b
    have s03 := (s1.trans s2).trans s3
    refine ⟨_, _, _, _, pr_atk (hv.same s03) (AtK.of e3) hw.lo tf hw.b tb (by decide) (by decide), fun H4 p4 s4 e4 => ?_⟩
    refine ⟨len_show (Nat.le_of_ble_eq_true rfl), fun p5 n5 => ?_⟩
    exact k _ p5 (.ref p4) ((s03.trans s4).trans (same_new n5)) upd_same ((AtK.of e4).same (same_new n5))

/-! ### dough_for -/
theorem sc_dough_for : FnScope ["count", "pan"] ["count", "pan"] (defScope s_dough_for) := ⟨rfl, rfl, rfl, by decide +kernel, rfl, by decide +kernel, by decide +kernel⟩
def sp_dfor (K : PySem.W.Frag) (C : Addr) : Sp := fun vs H Q _ => ∃ (n : Int) (x : Addr) (z : Str) (h l : Int × Int), vs = [.int n, .ref x] ∧ 0 < n ∧ n.natAbs < 2 ^ 300 ∧ Pn K H C x z h l ∧ PanOk z h l ∧ ∀ H' v', Same H H' → AtK K H' v' (fmul (n, 1) h) → Q v' H'
theorem ok_dfor {C f fh : Addr} {fd fdh : FuncData} (MH : MetG P w K mg base CX0 1 C "holds" fh fdh ["self"] (sp_pholds K C)) (F : Fun K "dough_for" "dough_for" s_dough_for f fd) (C_is_whole : Cal P w K mg base CX0 1 "is_whole" ["thing"] (sp_whole K)) (C_times : Cal P w K mg base CX0 5 "times" ["one", "other"] (sp_times K)) :
    FnG P w K mg base CX0 6 f fd ["count", "pan"] (sp_dfor K C) := by
  refine Gfun F sc_dough_for (fun vs H Q E h => ?_) (fun cdv A outer s H vs Q E hg hr h => ?_)
  · obtain ⟨n, x, z, h, l, rfl, _⟩ := h
    rfl
  · obtain ⟨n, x, z, h, l, rfl, hn, hb, pn, ok, k⟩ := h
    refine ⟨_, (pss_cons (ps_if (PW.pt (pw_or (pt_not (pt_val (pe_g C_is_whole (hr.mono (by decide)) hg (pa_cons (pv 0) pa_nil)))) (pw_or1 (pt_cmpR op_lt (pv 0) pe_int (nomark _)))))
      (pss_one ps_dead)
      pss_nil)
      (pss_one (ps_ret (pe_g C_times (hr.mono (by decide)) hg (pa_cons (pe_tup (pa_cons (pv 0) (pa_cons pe_int pa_nil))) (pa_cons (pe_meG0 (pv 1) MH (hr.mono (by decide)) hg (fun _ => pass_no)) pa_nil)))))), ?_⟩
    refine ⟨_, rfl, .int n, .int n, rfl, .dp (.int n) (by rfl), _, rfl, iteF ?_⟩
    refine ⟨_, rfl, _, _, rfl, rfl, _, rfl, ite2 (fun e => absurd (of_decide_eq_true e) (by omega)) (fun _ => ?_)⟩
    refine ⟨_, rfl, len_show (Nat.le_of_ble_eq_true rfl), fun p2 n2 => ?_⟩
    have s2 : Same H (L2.upd H p2 (.tup [.int n, .int 1])) := same_new n2
    have e2 : L2.upd H p2 (.tup [.int n, .int 1]) p2 = some (.tup [.int n, .int 1]) := upd_same
    generalize L2.upd H p2 (.tup [.int n, .int 1]) = H2 at s2 e2 ⊢
    obtain ⟨dx2, vh2, vl2, px2⟩ := pn.same s2
    refine ⟨_, rfl, x, dx2, _, rfl, px2.1, rfl, x, z, h, l, rfl, pn.same s2, fun v3 a3 => ?_⟩
    have cb : Bt 300 (n, 1) := ⟨hb, by show (1 : Int).natAbs < 2 ^ 300; decide⟩
    refine ⟨_, _, _, _, pr_atk (f := (n, 1)) (AtK.of e2) a3 (m1_f _) ok.hf cb ok.hb (by decide) (by decide), fun H3 p3 s3 e3 => ?_⟩
    exact k H3 _ (s2.trans s3) (AtK.of e3)

/-! ### pan_for -/
theorem sc_pan_for : FnScope ["name", "baked", "loss", "less"] ["name", "baked", "loss"] (defScope s_pan_for) := ⟨rfl, rfl, rfl, by decide +kernel, rfl, by decide +kernel, by decide +kernel⟩
/-- what a pan holds that bakes b, where l is lost -/
def wideF (b l : Int × Int) : Int × Int := fdiv b (fsub f1 l)
theorem wide_ok {z : Str} {b l : Int × Int} (ok : PanOk z b l) (hb : Bt 60 b) : PanOk z (wideF b l) l := by
  obtain ⟨sf, sb, sp⟩ := ok.lo.sub
  have h0 : (fsub f1 l).1 ≠ 0 := by omega
  exact ⟨ok.nm, ok.l1, ok.le, fdiv_f ok.hf h0, low_top_pos (Int.mul_pos ok.hf.1 sp) (Int.mul_pos ok.hp sf.1), (fdiv_bt ok.hf h0 hb sb).mono (by decide), ok.lo⟩
def sp_pfor (K : PySem.W.Frag) (C : Addr) : Sp := fun vs H Q _ => ∃ (z : Str) (vb vo : V) (b l : Int × Int), vs = [.str z, vb, vo] ∧ AtK K H vb b ∧ Opt K H vo l ∧ PanOk z b l ∧ PanOk z (wideF b l) l ∧ ∀ H' x, Same H H' → Pn K H' C x z (wideF b l) l → Q (.ref x) H'
theorem ok_pfor {C f fP : Addr} {fd fdP : FuncData} {dvs : List V} {kws : List (Str × V)} (T : Cs2 K mg c0 c1) (W : PWays K fdP) (MP : MakG P w K mg base CX0 6 "Pan" C fP fdP ["self", "name", "holds", "loss"] (sp_pinit K C)) (F : FunD K "pan_for" "pan_for" (defArgs s_pan_for) (defBody s_pan_for) (defScope s_pan_for) dvs kws f fd)
    (C_measure_or_none_of_it : Cal P w K mg base CX0 1 "measure_or_none_of_it" ["measure"] (sp_orN K)) (C_refuse_no_pan : Cal P w K mg base CX0 5 "refuse_no_pan" ["name", "weight", "loss"] (sp_refp K)) (C_over : Cal P w K mg base CX0 5 "over" ["one", "other"] (sp_over K)) (C_minus : Cal P w K mg base CX0 5 "minus" ["one", "other"] (sp_minus K)) :
    FnG P w K mg base CX0 8 f fd ["name", "baked", "loss"] (sp_pfor K C) := by
  obtain ⟨_, h_all⟩ := W.all
  refine GfunDX F sc_pan_for (fun vs H Q E h => ?_) (fun cdv A outer s H vs Q E hg hr h => ?_)
  · obtain ⟨z, vb, vo, b, l, rfl, _⟩ := h
    rfl
  · obtain ⟨z, vb, vo, b, l, rfl, hv, ho, ok, hb, k⟩ := h
    refine ⟨_, (pss_cons (ps_set (i := 3) sc_pan_for.nd rfl (.inl rfl) (pe_g C_measure_or_none_of_it (hr.mono (by decide)) hg (pa_cons (pv 2) pa_nil)))
      (pss_cons (ps_expr (pe_g C_refuse_no_pan (hr.mono (by decide)) hg (pa_cons (pv 0) (pa_cons (pv 1) (pa_cons (pv 3) pa_nil)))))
      (pss_one (ps_ret (pe_mkG MP h_all (hr.mono (by decide)) hg (fun _ => pass_no) (pa_cons (pv 0) (pa_cons (pe_g C_over (hr.mono (by decide)) hg (pa_cons (pv 1) (pa_cons (pe_g C_minus (hr.mono (by decide)) hg (pa_cons (pe_glob (v := .ref c1) rfl T.g1 rfl) (pa_cons (pv 3) pa_nil))) pa_nil))) (pa_cons (pv 3) pa_nil)))))))), ?_⟩
    obtain ⟨sf, sb, sp⟩ := ok.lo.sub
    have h0 : (fsub f1 l).1 ≠ 0 := by omega
    refine ⟨_, rfl, vo, l, rfl, ho, fun vl hvl => ?_⟩
    have hl := hvl H ho
    refine ⟨_, rfl, _, rfl, _, rfl, z, vb, vl, b, l, rfl, hv, hl, ok, fun H1 s1 => ?_⟩
    refine ⟨_, rfl, _, rfl, _, rfl, ?_⟩
    refine ⟨_, _, _, _, pr_atk (T.a1 H1) (hl.same s1) f1_f ok.lo.f bt01.2 ok.lo.bt (by decide) (by decide), fun H2 p2 s2 e2 => ?_⟩
    have s02 := s1.trans s2
    refine ⟨_, _, _, _, pr_atk (hv.same s02) (AtK.of e2) ok.hf sf ok.hb sb (by decide) (by decide), h0, fun H3 p3 s3 e3 => ?_⟩
    have s03 := s02.trans s3
    refine ⟨_, rfl, rfl, rfl, fun x dx nx nd hdx => ?_⟩
    exact ⟨x, dx, H3, z, .ref p3, vl, wideF b l, l, rfl, nx, nd, hdx, rfl, AtK.of e3, .inr (hl.same s03), hb, fun H4 s4 pn => ⟨rfl, k H4 x (s03.trans s4) pn⟩⟩
/-- pan_for by three and by two -/
theorem pfor_ways {f : Addr} {fd : FuncData} (F : FunD K "pan_for" "pan_for" (defArgs s_pan_for) (defBody s_pan_for) (defScope s_pan_for) [.non] [] f fd) : (∃ g, KBn K fd ["name", "baked", "loss"] 3 [] g (fun vs zs => gAll vs [.non] zs)) ∧ (∃ g, KBn K fd ["name", "baked", "loss"] 2 [] g (fun vs zs => gDef vs [.non] zs)) := by
  constructor
  · obtain ⟨its, hb⟩ := F.kbindsD (ps := ["name", "baked", "loss"]) 3 [] (fun us ds ws => gAll us ds ws) (fun z => nomatch z) (fun r1 r2 r3 => r1) (fun T kV doc pm an cdv ct us its ws h1 h2 h3 => by
      match us, its, ws, h1, h2, h3 with
      | [_, _, _], [_], [], _, _, _ => exact ⟨_, rfl, rfl⟩)
    exact ⟨_, hb⟩
  · obtain ⟨its, hb⟩ := F.kbindsD (ps := ["name", "baked", "loss"]) 2 [] (fun us ds ws => gDef us ds ws) (fun z => nomatch z) (fun r1 r2 r3 => r1.append r2) (fun T kV doc pm an cdv ct us its ws h1 h2 h3 => by
      match us, its, ws, h1, h2, h3 with
      | [_, _], [_], [], _, _, _ => exact ⟨_, rfl, rfl⟩)
    exact ⟨_, hb⟩

end
end Lf

set_option Elab.async false
set_option linter.all false
set_option maxRecDepth 100000
set_option maxHeartbeats 4000000
set_option exponentiation.threshold 3000
/-! Floors, rests beyond them, who is counted one more, how far counts are off. -/
namespace Lf
/-- the floor of a fraction -/
def fl (f : Int × Int) : Int := f.1.fdiv f.2
theorem fl_eq {f : Int × Int} (h : IsF f) : fl f = f.1 / f.2 := fdiv_pos_eq h.1
theorem fl_nn {f : Int × Int} (h : IsF f) (h0 : 0 ≤ f.1) : 0 ≤ fl f := by
  rw [fl_eq h]
  exact Int.ediv_nonneg h0 (Int.le_of_lt h.1)
theorem fl_le {f : Int × Int} (h : IsF f) (h0 : 0 ≤ f.1) : fl f ≤ f.1 := by
  rw [fl_eq h]
  exact Int.ediv_le_self _ h0
theorem fl_mod {f : Int × Int} (h : IsF f) : f.1 - fl f * f.2 = f.1 % f.2 := by
  rw [fl_eq h]
  have := Int.emod_add_mul_ediv f.1 f.2
  have e : f.1 / f.2 * f.2 = f.2 * (f.1 / f.2) := Int.mul_comm _ _
  omega
theorem fl_bt {k : Nat} {f : Int × Int} (h : IsF f) (h0 : 0 ≤ f.1) (b : Bt k f) (hk : 0 < k) : Bt k (fl f, 1) := by
  refine ⟨?_, ?_⟩
  · have h1 := fl_nn h h0
    have h2 := fl_le h h0
    have h3 := b.1
    show (fl f).natAbs < _
    omega
  · show (1 : Int).natAbs < 2 ^ k
    exact Nat.one_lt_two_pow (by omega)
/-- what a fraction has more than its floor -/
def rst (f : Int × Int) : Int × Int := fsub f (fl f, 1)
theorem rst_eq {f : Int × Int} (h : IsF f) : rst f = low (f.1 % f.2) f.2 := by
  show low (f.1 * 1 - fl f * f.2) (f.2 * 1) = _
  rw [Int.mul_one, Int.mul_one, fl_mod h]
theorem rst_f {f : Int × Int} (h : IsF f) : IsF (rst f) := fsub_f h (m1_f _)
theorem rst_nn {f : Int × Int} (h : IsF f) : 0 ≤ (rst f).1 := by
  rw [rst_eq h]
  exact low_top_nn h.1 (Int.emod_nonneg _ h.ne)
theorem rst_bt {k : Nat} {f : Int × Int} (h : IsF f) (b : Bt k f) : Bt k (rst f) := by
  rw [rst_eq h]
  have h1 := Int.emod_nonneg f.1 h.ne
  have h2 := Int.emod_lt_of_pos f.1 h.1
  have h3 := b.2
  have h4 : 0 < f.2 := h.1
  exact low_bt h.ne (by omega) h3
theorem aim_nn {fs : List (Int × Int)} {st f : Int × Int} (h : Wts fs) (hs : Wt st) (hf : Wt f) : 0 ≤ (aim fs st f).1 := by
  rw [aim_low h hf]
  refine low_top_nn (Int.mul_pos hf.lo.1 (tot_pos h)) ?_
  exact Int.mul_nonneg (Int.mul_nonneg (Int.le_of_lt hf.po) (Int.le_of_lt (tot_f h.f).1)) (many_nn h hs)
def lessB (f g : Int × Int) : Bool := decide (f.1 * g.2 < g.1 * f.2)
/-- whether the i-th is counted one more sooner than the j-th -/
def soon (rs : List (Int × Int)) (i j : Nat) : Bool := if rs.getD i f0 = rs.getD j f0 then decide (i < j) else lessB (rs.getD j f0) (rs.getD i f0)
theorem lessB_self (f : Int × Int) : lessB f f = false := decide_eq_false (by omega)
theorem soon_law (rs : List (Int × Int)) (i j : Nat) : soon rs i j = (lessB (rs.getD j f0) (rs.getD i f0) || (decide (rs.getD j f0 = rs.getD i f0) && decide (i < j))) := by
  unfold soon
  by_cases h : rs.getD i f0 = rs.getD j f0
  · rw [if_pos h, h, lessB_self]
    simp
  · rw [if_neg h, decide_eq_false (fun z => h z.symm)]
    simp
/-- how many are sooner than the j-th -/
def ahead (rs : List (Int × Int)) (j : Nat) : Nat := ((List.range rs.length).filter fun i => soon rs i j).length
theorem ahead_le (rs : List (Int × Int)) (j : Nat) : ahead rs j ≤ rs.length := by
  unfold ahead
  exact Nat.le_trans (List.length_filter_le _ _) (by rw [List.length_range]; exact Nat.le_refl _)
/-- all aims -/
def aimsF (fs : List (Int × Int)) (st : Int × Int) : List (Int × Int) := fs.map (aim fs st)
/-- how many are to be one more -/
def more (fs : List (Int × Int)) (st : Int × Int) : Int := many fs st - ((aimsF fs st).map fl).sum
/-- the count of the k-th -/
def cntAt (fs : List (Int × Int)) (st : Int × Int) (k : Nat) : Int := fl ((aimsF fs st).getD k f0) + if (ahead ((aimsF fs st).map rst) k : Int) < more fs st then 1 else 0
def cnt (fs : List (Int × Int)) (st : Int × Int) : List Int := (List.range fs.length).map (cntAt fs st)
theorem cnt_len (fs : List (Int × Int)) (st : Int × Int) : (cnt fs st).length = fs.length := by
  unfold cnt
  rw [List.length_map, List.length_range]
theorem cnt_get {fs : List (Int × Int)} {st : Int × Int} {k : Nat} (h : k < fs.length) : (cnt fs st)[k]? = some (cntAt fs st k) := by
  unfold cnt
  rw [List.getElem?_map, List.getElem?_range h]
  rfl
/-- the difference of a fraction and a count -/
def far (f : Int × Int) (c : Int) : Int × Int := low ((f.1 - c * f.2).natAbs : Int) f.2
theorem abs_low {n d : Int} (hd : 0 < d) : (((low n d).1.natAbs : Int), (low n d).2) = low (n.natAbs : Int) d := by
  have hl := low_is (n := n) (d := d) (by omega)
  have hc := low_cross (n := n) (d := d) (by omega)
  symm
  refine low_eq (by omega) ⟨hl.1, by rw [Int.natAbs_natCast]; exact hl.2⟩ ?_
  have h1 : ((low n d).1 * d).natAbs = (n * (low n d).2).natAbs := by rw [hc]
  rw [Int.natAbs_mul, Int.natAbs_mul] at h1
  have hb : 0 < (low n d).2 := hl.1
  have e1 : (d.natAbs : Int) = d := by omega
  have e2 : ((low n d).2.natAbs : Int) = (low n d).2 := by omega
  have h2 : ((low n d).1.natAbs : Int) * (d.natAbs : Int) = (n.natAbs : Int) * ((low n d).2.natAbs : Int) := by
    rw [← Int.natCast_mul, ← Int.natCast_mul, h1]
  rw [e1, e2] at h2
  exact h2
/-- as the program reckons it -/
theorem far_prog {f : Int × Int} (h : IsF f) (c : Int) : (((fsub (c, 1) f).1.natAbs : Int), (fsub (c, 1) f).2) = far f c := by
  have e : fsub (c, 1) f = low (c * f.2 - f.1) f.2 := by
    show low (c * f.2 - f.1 * 1) (1 * f.2) = _
    rw [Int.mul_one, Int.one_mul]
  rw [e, abs_low h.1]
  unfold far
  have : (c * f.2 - f.1).natAbs = (f.1 - c * f.2).natAbs := by omega
  rw [this]
theorem far_f {f : Int × Int} (h : IsF f) (c : Int) : IsF (far f c) := low_f h.ne
theorem far_nn {f : Int × Int} (h : IsF f) (c : Int) : 0 ≤ (far f c).1 := low_top_nn h.1 (by omega)
/-- the greater one -/
def wmax (w g : Int × Int) : Int × Int := if lessB w g = true then g else w
def wst (w : Int × Int) (p : (Int × Int) × Int) : Int × Int := wmax w (far p.1 p.2)
def worst (fs : List (Int × Int)) (cs : List Int) : Int × Int := (fs.zip cs).foldl wst f0
/-- counts near enough -/
def Near (k : Nat) (fs : List (Int × Int)) (cs : List Int) : Prop := ∀ p ∈ fs.zip cs, Bt k (far p.1 p.2) ∧ p.2.natAbs < 2 ^ k
theorem worst_step {fs : List (Int × Int)} {cs : List Int} {i : Nat} {f : Int × Int} {c : Int} (h1 : fs[i]? = some f) (h2 : cs[i]? = some c) : ((fs.zip cs).take (i + 1)).foldl wst f0 = wmax (((fs.zip cs).take i).foldl wst f0) (far f c) := by
  have h : (fs.zip cs)[i]? = some (f, c) := by
    rw [List.getElem?_zip_eq_some]
    exact ⟨h1, h2⟩
  rw [fold_take wst f0 h]
  simp only [wst]
theorem worst_ok {k : Nat} {fs : List (Int × Int)} {cs : List Int} (hF : AllF fs) (hk : 0 < k) (h : Near k fs cs) (i : Nat) : IsF (((fs.zip cs).take i).foldl wst f0) ∧ Bt k (((fs.zip cs).take i).foldl wst f0) ∧ 0 ≤ (((fs.zip cs).take i).foldl wst f0).1 := by
  induction i with
  | zero =>
    rw [List.take_zero, List.foldl_nil]
    exact ⟨f0_f, bt01.1.mono hk, Int.le_refl 0⟩
  | succ i ih =>
    cases e : (fs.zip cs)[i]? with
    | none =>
      rw [List.take_of_length_le (by have := List.getElem?_eq_none_iff.mp e; omega)]
      rw [List.take_of_length_le (by have := List.getElem?_eq_none_iff.mp e; omega)] at ih
      exact ih
    | some p =>
      rw [fold_take wst f0 e]
      have hm := List.mem_of_getElem? e
      have hp : p.1 ∈ fs := (List.of_mem_zip (show (p.1, p.2) ∈ fs.zip cs from hm)).1
      unfold wst wmax
      split
      · exact ⟨far_f (hF _ hp) _, (h p hm).1, far_nn (hF _ hp) _⟩
      · exact ih
/-- what the weights have more than so many steps -/
def left_ (fs : List (Int × Int)) (st : Int × Int) : Int × Int := fsub (tot fs) (fmul (many fs st, 1) st)
end Lf
namespace Lf
/-- the counts when the first i are looked at -/
def part (fs : List (Int × Int)) (st : Int × Int) (i : Nat) : List Int := (List.range fs.length).map fun k => if k < i then cntAt fs st k else fl ((aimsF fs st).getD k f0)
theorem part_0 (fs : List (Int × Int)) (st : Int × Int) : part fs st 0 = (aimsF fs st).map fl := by
  refine List.ext_getElem? fun k => ?_
  unfold part aimsF
  rw [List.getElem?_map, List.getElem?_map, List.getElem?_map]
  by_cases h : k < fs.length
  · rw [List.getElem?_range h, List.getElem?_eq_getElem h]
    simp [List.getD_eq_getElem?_getD, List.getElem?_map, h]
  · rw [List.getElem?_eq_none (by rw [List.length_range]; omega), List.getElem?_eq_none (by omega)]
    rfl
theorem part_n (fs : List (Int × Int)) (st : Int × Int) : part fs st fs.length = cnt fs st := by
  unfold part cnt
  refine List.map_congr_left fun k hk => ?_
  rw [if_pos (List.mem_range.mp hk)]
theorem part_get {fs : List (Int × Int)} {st : Int × Int} {i k : Nat} (h : k < fs.length) : (part fs st i)[k]? = some (if k < i then cntAt fs st k else fl ((aimsF fs st).getD k f0)) := by
  unfold part
  rw [List.getElem?_map, List.getElem?_range h]
  rfl
theorem part_len (fs : List (Int × Int)) (st : Int × Int) (i : Nat) : (part fs st i).length = fs.length := by
  unfold part
  rw [List.length_map, List.length_range]
theorem part_set {fs : List (Int × Int)} {st : Int × Int} {i : Nat} (h : i < fs.length) : part fs st (i + 1) = (part fs st i).set i (cntAt fs st i) := by
  refine List.ext_getElem? fun k => ?_
  rw [List.getElem?_set]
  by_cases hk : k < fs.length
  · rw [part_get hk]
    by_cases hi : i = k
    · subst hi
      rw [if_pos rfl, if_pos (Nat.lt_succ_self i), if_pos (by rw [part_len]; exact h)]
    · rw [if_neg hi, part_get hk]
      by_cases h1 : k < i
      · rw [if_pos h1, if_pos (by omega)]
      · rw [if_neg h1, if_neg (by omega)]
  · rw [List.getElem?_eq_none (by rw [part_len]; omega), if_neg (by omega), List.getElem?_eq_none (by rw [part_len]; omega)]
theorem part_stay {fs : List (Int × Int)} {st : Int × Int} {i : Nat} (h : cntAt fs st i = fl ((aimsF fs st).getD i f0)) : part fs st (i + 1) = part fs st i := by
  unfold part
  refine List.map_congr_left fun k hk => ?_
  by_cases h1 : k < i
  · rw [if_pos h1, if_pos (by omega)]
  · by_cases h2 : k = i
    · subst h2
      rw [if_neg h1, if_pos (Nat.lt_succ_self k), h]
    · rw [if_neg h1, if_neg (by omega)]
/-- a count is the floor or one more -/
theorem near_one {f : Int × Int} {c : Int} (h : IsF f) (h0 : 0 ≤ f.1) (b : Bt 636 f) (hc : c = fl f ∨ c = fl f + 1) : Bt 640 (far f c) ∧ c.natAbs < 2 ^ 640 := by
  have hm := fl_mod h
  have m0 := Int.emod_nonneg f.1 h.ne
  have m1 := Int.emod_lt_of_pos f.1 h.1
  have h2 : 0 < f.2 := h.1
  have hle : (f.1 - c * f.2).natAbs ≤ f.2.natAbs := by
    rcases hc with rfl | rfl
    · omega
    · have e : (fl f + 1) * f.2 = fl f * f.2 + f.2 := by rw [Int.add_mul, Int.one_mul]
      omega
  have p : (2 : Nat) ^ 636 + 2 ^ 636 ≤ 2 ^ 640 := by
    rw [show (640 : Nat) = 636 + 1 + 3 from rfl, Nat.pow_add, Nat.two_pow_succ]
    omega
  refine ⟨low_bt h.ne ?_ ?_, ?_⟩
  · rw [Int.natAbs_natCast]
    have := b.2
    omega
  · have := b.2
    omega
  · have a1 := fl_nn h h0
    have a2 := fl_le h h0
    have a3 := b.1
    omega
end Lf
namespace Lf
def fle (f g : Int × Int) : Prop := f.1 * g.2 ≤ g.1 * f.2
theorem fle_trans {a b c : Int × Int} (hb : 0 < b.2) (ha : 0 < a.2) (hc : 0 < c.2) (h : fle a b) (k : fle b c) : fle a c := by
  unfold fle at *
  have h1 := Int.mul_le_mul_of_nonneg_right h (Int.le_of_lt hc)
  have h2 := Int.mul_le_mul_of_nonneg_right k (Int.le_of_lt ha)
  have e1 : a.1 * b.2 * c.2 = a.1 * c.2 * b.2 := by grind
  have e2 : b.1 * a.2 * c.2 = b.1 * c.2 * a.2 := by grind
  have e3 : c.1 * b.2 * a.2 = c.1 * a.2 * b.2 := by grind
  exact Int.le_of_mul_le_mul_right (a := b.2) (by omega) hb
theorem fle_add {a g : Int × Int} (ha : IsF a) (hg : IsF g) (h0 : 0 ≤ g.1) : fle a (fadd a g) := by
  have h2 : 0 < a.2 := ha.1
  have k2 : 0 < g.2 := hg.1
  have hd := Int.mul_pos h2 k2
  have hc : (fadd a g).1 * (a.2 * g.2) = (a.1 * g.2 + g.1 * a.2) * (fadd a g).2 := low_cross (by omega)
  have hb : 0 < (fadd a g).2 := low_b hd
  unfold fle
  refine Int.le_of_mul_le_mul_right (a := g.2) ?_ k2
  have p := Int.mul_nonneg (Int.mul_nonneg h0 (Int.le_of_lt h2)) (Int.le_of_lt hb)
  have e1 : (fadd a g).1 * a.2 * g.2 = (fadd a g).1 * (a.2 * g.2) := by grind
  have e2 : (a.1 * g.2 + g.1 * a.2) * (fadd a g).2 = a.1 * (fadd a g).2 * g.2 + g.1 * a.2 * (fadd a g).2 := by grind
  rw [e1, hc, e2]
  omega
theorem fold_ge : ∀ (l : List (Int × Int)) (a : Int × Int), IsF a → AllF l → (∀ g ∈ l, 0 ≤ g.1) → fle a (l.foldl fadd a)
  | [], a, _, _, _ => by unfold fle; exact Int.le_refl _
  | g :: l, a, ha, hF, h => by
    have hf := fadd_f ha hF.hd
    have h1 := fle_add ha hF.hd (h g List.mem_cons_self)
    have h2 := fold_ge l (fadd a g) hf hF.tl (fun x hx => h x (List.mem_cons_of_mem _ hx))
    exact fle_trans hf.1 ha.1 (sum_fold l (fadd a g) hf hF.tl).1.1 h1 h2
theorem many_head {fs : List (Int × Int)} {f : Int × Int} (W : Wts fs) (h : fs[0]? = some f) : many fs f ≠ 0 := by
  match fs, h with
  | g :: l, h =>
    have e : g = f := by simpa using h
    subst e
    have wg := W.all g List.mem_cons_self
    have ht : tot (g :: l) = l.foldl fadd g := by
      show l.foldl fadd (fadd f0 g) = _
      rw [fadd_0 wg.lo]
    have hge : fle g (tot (g :: l)) := by
      rw [ht]
      exact fold_ge l g wg.lo W.f.tl fun x hx => Int.le_of_lt (W.all x (List.mem_cons_of_mem _ hx)).po
    have hd := Int.mul_pos (tot_f W.f).1 wg.po
    have : 1 ≤ many (g :: l) g := by
      unfold many
      rw [fdiv_pos_eq hd]
      refine Int.le_ediv_of_mul_le hd ?_
      unfold fle at hge
      rw [Int.one_mul, Int.mul_comm]
      exact hge
    omega
theorem lfar_rst {f : Int × Int} (h : IsF f) : low ((f.1 * 1 - fl f * f.2).natAbs : Int) (f.2 * 1) = rst f := by
  have hm := fl_mod h
  have m0 := Int.emod_nonneg f.1 h.ne
  have e : ((f.1 * 1 - fl f * f.2).natAbs : Int) = f.1 * 1 - fl f * f.2 := by omega
  rw [e]
  rfl
theorem lfar_far (f : Int × Int) (c : Int) : low ((f.1 * 1 - c * f.2).natAbs : Int) (f.2 * 1) = far f c := by
  unfold far
  rw [Int.mul_one, Int.mul_one]
theorem used_is (fs : List (Int × Int)) (st : Int × Int) : low (st.1 * many fs st) st.2 = fmul (many fs st, 1) st := by
  show _ = low (many fs st * st.1) (1 * st.2)
  rw [Int.mul_comm, Int.one_mul]
theorem lfar_left {fs : List (Int × Int)} {st : Int × Int} (W : Wts fs) (hs : Wt st) : low (((tot fs).1 * (fmul (many fs st, 1) st).2 - (fmul (many fs st, 1) st).1 * (tot fs).2).natAbs : Int) ((tot fs).2 * (fmul (many fs st, 1) st).2) = left_ fs st := by
  have t2 : 0 < (tot fs).2 := (tot_f W.f).1
  have s2 : 0 < st.2 := hs.lo.1
  have hd := Int.mul_pos t2 hs.po
  have hm : many fs st * ((tot fs).2 * st.1) ≤ (tot fs).1 * st.2 := by
    unfold many
    rw [fdiv_pos_eq hd]
    exact Int.ediv_mul_le _ (by omega)
  have hc : (fmul (many fs st, 1) st).1 * (1 * st.2) = (many fs st * st.1) * (fmul (many fs st, 1) st).2 := low_cross (by omega)
  have hb : 0 < (fmul (many fs st, 1) st).2 := low_b (by omega)
  obtain ⟨u, hu⟩ : ∃ u, u = fmul (many fs st, 1) st := ⟨_, rfl⟩
  rw [← hu] at hc hb ⊢
  have key : u.1 * (tot fs).2 ≤ (tot fs).1 * u.2 := by
    refine Int.le_of_mul_le_mul_right (a := st.2) ?_ s2
    have e1 : u.1 * (tot fs).2 * st.2 = u.1 * (1 * st.2) * (tot fs).2 := by grind
    have e2 : many fs st * st.1 * u.2 * (tot fs).2 = many fs st * ((tot fs).2 * st.1) * u.2 := by grind
    have e3 : (tot fs).1 * u.2 * st.2 = (tot fs).1 * st.2 * u.2 := by grind
    rw [e1, hc, e2, e3]
    exact Int.mul_le_mul_of_nonneg_right hm (Int.le_of_lt hb)
  have e : (((tot fs).1 * u.2 - u.1 * (tot fs).2).natAbs : Int) = (tot fs).1 * u.2 - u.1 * (tot fs).2 := by omega
  rw [e]
  unfold left_
  rw [← hu]
  rfl
end Lf

set_option Elab.async false
set_option linter.all false
set_option maxRecDepth 100000
set_option maxHeartbeats 4000000
set_option exponentiation.threshold 3000
/-! Papers: places that cannot be counted their floors, or one more. -/
namespace Lf
theorem rst_pair {f : Int × Int} (h : IsF f) (h0 : 0 ≤ f.1) : rst f = (f.1 % f.2, f.2) := by
  rw [rst_eq h]
  have m0 := Int.emod_nonneg f.1 h.ne
  have h2 : 0 < f.2 := h.1
  refine low_self ⟨h.1, ?_⟩
  show (f.1 % f.2).natAbs.gcd f.2.natAbs = 1
  rw [Nat.gcd_comm, gcd_step f.1 f.2 h.1 h0]
  exact h.2
theorem fsub_1 {r : Int × Int} (h : IsF r) : fsub f1 r = (r.2 - r.1, r.2) := by
  have e : fsub f1 r = low (r.2 - r.1) r.2 := by
    show low (1 * r.2 - r.1 * 1) (1 * r.2) = _
    rw [Int.one_mul, Int.mul_one]
  rw [e]
  refine low_self ⟨h.1, ?_⟩
  have g := h.2
  have : Int.gcd (r.2 - r.1) r.2 = Int.gcd r.1 r.2 := by simp
  unfold Int.gcd at this
  show (r.2 - r.1).natAbs.gcd r.2.natAbs = 1
  rw [this]
  exact g
def upP (R : List (Int × Int)) (b : Int × Int) (i : Nat) : Bool := !lessB (R.getD i f0) b
def dnP (R : List (Int × Int)) (b : Int × Int) (i : Nat) : Bool := !lessB (fsub f1 (R.getD i f0)) b
def upL (R : List (Int × Int)) (b : Int × Int) : List Nat := (List.range R.length).filter (upP R b)
def dnL (R : List (Int × Int)) (b : Int × Int) : List Nat := (List.range R.length).filter (dnP R b)
/-- whether a paper shows -/
def showsB (U D : List Nat) (m : Int) (n : Nat) : Bool := U.any (fun p => D.contains p) || (decide (m < (U.length : Int)) || decide ((n : Int) - (D.length : Int) < m))
theorem up_le (R : List (Int × Int)) (b : Int × Int) : (upL R b).length ≤ R.length := Nat.le_trans (List.length_filter_le _ _) (by rw [List.length_range]; exact Nat.le_refl _)
theorem dn_le (R : List (Int × Int)) (b : Int × Int) : (dnL R b).length ≤ R.length := Nat.le_trans (List.length_filter_le _ _) (by rw [List.length_range]; exact Nat.le_refl _)
theorem up_lt {R : List (Int × Int)} {b : Int × Int} {i : Nat} (h : i ∈ upL R b) : i < R.length := List.mem_range.mp (List.mem_filter.mp h).1
theorem dn_lt {R : List (Int × Int)} {b : Int × Int} {i : Nat} (h : i ∈ dnL R b) : i < R.length := List.mem_range.mp (List.mem_filter.mp h).1
end Lf

set_option Elab.async false
set_option linter.all false
set_option maxHeartbeats 4000000
set_option exponentiation.threshold 3000
/-! Loaves and rests; baked and wide; scaled. -/
namespace Lf
theorem n1_f (n : Int) : IsF (n, 1) := ⟨by show (0 : Int) < 1; decide, by show Nat.gcd n.natAbs 1 = 1; exact Nat.gcd_one_right _⟩
theorem rv_n1 (n : Int) : rv (n, 1) = (n : Rat) := by
  show Rat.divInt n 1 = n
  rw [Rat.divInt_eq_div]
  grind
theorem rv_pos {f : Int × Int} (hf : IsF f) (h : 0 < f.1) : 0 < rv f := by
  have h1 : 0 ≤ rv f := (rv_nn hf).mpr (Int.le_of_lt h)
  have h2 : rv f ≠ 0 := fun e => by have := (rv_zero hf).mp e; omega
  grind
theorem rat1 {n W H I : Rat} (h : n ≤ W * I) (hi : H * I = 1) (p : 0 < H) : 0 ≤ W - n * H := by
  have := Rat.mul_le_mul_of_nonneg_right h (Rat.le_of_lt p)
  have e : W * I * H = W := by grind
  rw [e] at this
  grind
theorem rat2 {n W H I : Rat} (h : W * I < n + 1) (hi : H * I = 1) (p : 0 < H) : W - n * H < H := by
  have := Rat.mul_lt_mul_of_pos_right h p
  have e : W * I * H = W := by grind
  rw [e] at this
  grind
/-- a floor, between -/
theorem wfloor_le {q : Int × Int} (hq : IsF q) : ((q.1.fdiv q.2 : Int) : Rat) ≤ rv q ∧ rv q < ((q.1.fdiv q.2 : Int) : Rat) + 1 := by
  have hb : 0 < q.2 := hq.1
  rw [fdiv_pos_eq hb]
  have h1 := Int.ediv_mul_le q.1 (Int.ne_of_gt hb)
  have h2 := Int.lt_ediv_add_one_mul_self q.1 hb
  constructor
  · rw [← rv_n1, rv_le (n1_f _) hq]
    show q.1 / q.2 * q.2 ≤ q.1 * 1
    omega
  · have e : ((q.1 / q.2 : Int) : Rat) + 1 = rv (q.1 / q.2 + 1, 1) := by
      rw [rv_n1, Rat.intCast_add]
      rfl
    rw [e, rv_lt hq (n1_f _)]
    show q.1 * 1 < (q.1 / q.2 + 1) * q.2
    omega
section
variable {wt h : Int × Int}
theorem wrst_rv (hw : IsF wt) (hh : IsF h) (n : Int) : rv (fsub wt (fmul (n, 1) h)) = rv wt - (n : Rat) * rv h := by
  rw [rv_sub hw (fmul_f (n1_f n) hh), rv_mul (n1_f n) hh, rv_n1]
theorem wrst_nn (hw : IsF wt) (hh : IsF h) (p : 0 < h.1) : 0 ≤ (fsub wt (fmul ((fdiv wt h).1.fdiv (fdiv wt h).2, 1) h)).1 := by
  have h0 : h.1 ≠ 0 := by omega
  have q := fdiv_f hw h0
  have f := (wfloor_le q).1
  rw [← rv_nn (fsub_f hw (fmul_f (n1_f _) hh)), wrst_rv hw hh]
  rw [rv_div hw h0] at f
  have hp := rv_pos hh p
  have hi : rv h * (rv h)⁻¹ = 1 := Rat.mul_inv_cancel _ (by grind)
  exact rat1 f hi hp
theorem wrst_lt (hw : IsF wt) (hh : IsF h) (p : 0 < h.1) : rv (fsub wt (fmul ((fdiv wt h).1.fdiv (fdiv wt h).2, 1) h)) < rv h := by
  have h0 : h.1 ≠ 0 := by omega
  have q := fdiv_f hw h0
  have f := (wfloor_le q).2
  rw [wrst_rv hw hh]
  rw [rv_div hw h0] at f
  have hp := rv_pos hh p
  have hi : rv h * (rv h)⁻¹ = 1 := Rat.mul_inv_cancel _ (by grind)
  exact rat2 f hi hp
/-- count and rest make the weight again -/
theorem wrst_sum (hw : IsF wt) (hh : IsF h) (n : Int) : fadd (fmul (n, 1) h) (fsub wt (fmul (n, 1) h)) = wt := by
  have a := fmul_f (n1_f n) hh
  refine rv_inj (fadd_f a (fsub_f hw a)) hw ?_
  rw [rv_add a (fsub_f hw a), rv_sub hw a]
  grind
theorem wrst_none (hw : IsF wt) (hh : IsF h) : fsub wt (fmul (0, 1) h) = wt := by
  have a := fmul_f (n1_f 0) hh
  refine rv_inj (fsub_f hw a) hw ?_
  rw [wrst_rv hw hh]
  have : ((0 : Int) : Rat) = 0 := rfl
  rw [this]
  grind
theorem wcnt_nn (hw : IsF wt) (hh : IsF h) (pw : 0 < wt.1) (p : 0 < h.1) : 0 ≤ (fdiv wt h).1.fdiv (fdiv wt h).2 := by
  have h0 : h.1 ≠ 0 := by omega
  have q := fdiv_f hw h0
  have hb : 0 < (fdiv wt h).2 := q.1
  rw [fdiv_pos_eq hb]
  refine Int.ediv_nonneg ?_ (Int.le_of_lt hb)
  exact low_top_nn (Int.mul_pos hw.1 p) (Int.le_of_lt (Int.mul_pos pw hh.1))
/-- as often as it was taken -/
theorem wcnt_of (hh : IsF h) (p : 0 < h.1) (n : Int) : (fdiv (fmul (n, 1) h) h) = (n, 1) := by
  have h0 : h.1 ≠ 0 := by omega
  have a := fmul_f (n1_f n) hh
  refine rv_inj (fdiv_f a h0) (n1_f n) ?_
  rw [rv_div a h0, rv_mul (n1_f n) hh]
  have hp := rv_pos hh p
  have hi : rv h * (rv h)⁻¹ = 1 := Rat.mul_inv_cancel _ (by grind)
  grind
theorem sub_self_f (hw : IsF wt) : fsub wt wt = f0 := by
  refine rv_inj (fsub_f hw hw) f0_f ?_
  rw [rv_sub hw hw, rv0]
  grind
end
section
variable {b s : Int × Int}
theorem wdiv_mul (hb : IsF b) (hs : IsF s) (h0 : s.1 ≠ 0) : fmul (fdiv b s) s = b := by
  refine rv_inj (fmul_f (fdiv_f hb h0) hs) hb ?_
  rw [rv_mul (fdiv_f hb h0) hs, rv_div hb h0]
  have hz : rv s ≠ 0 := fun e => h0 ((rv_zero hs).mp e)
  have hi : rv s * (rv s)⁻¹ = 1 := Rat.mul_inv_cancel _ hz
  grind
theorem wmul_div (hb : IsF b) (hs : IsF s) (h0 : s.1 ≠ 0) : fdiv (fmul b s) s = b := by
  have m := fmul_f hb hs
  refine rv_inj (fdiv_f m h0) hb ?_
  rw [rv_div m h0, rv_mul hb hs]
  have hz : rv s ≠ 0 := fun e => h0 ((rv_zero hs).mp e)
  have hi : rv s * (rv s)⁻¹ = 1 := Rat.mul_inv_cancel _ hz
  grind
end
/-! ### rows by a factor -/
theorem fold_mul {x : Int × Int} (hx : IsF x) : ∀ (l : List (Int × Int)) (a : Int × Int), IsF a → (∀ f ∈ l, IsF f) → rv ((l.map fun f => fmul f x).foldl fadd (fmul a x)) = rv (l.foldl fadd a) * rv x
  | [], a, ha, _ => rv_mul ha hx
  | f :: l, a, ha, h => by
    have hf := h f List.mem_cons_self
    have e : fadd (fmul a x) (fmul f x) = fmul (fadd a f) x := by
      refine rv_inj (fadd_f (fmul_f ha hx) (fmul_f hf hx)) (fmul_f (fadd_f ha hf) hx) ?_
      rw [rv_add (fmul_f ha hx) (fmul_f hf hx), rv_mul ha hx, rv_mul hf hx, rv_mul (fadd_f ha hf) hx, rv_add ha hf]
      grind
    show rv ((l.map fun f => fmul f x).foldl fadd (fadd (fmul a x) (fmul f x))) = rv (l.foldl fadd (fadd a f)) * rv x
    rw [e]
    exact fold_mul hx l (fadd a f) (fadd_f ha hf) fun g hg => h g (List.mem_cons_of_mem _ hg)
theorem sum_mul {x : Int × Int} {l : List (Int × Int)} (hx : IsF x) (h : ∀ f ∈ l, IsF f) : (l.map fun f => fmul f x).foldl fadd f0 = fmul (l.foldl fadd f0) x := by
  have e0 : fmul f0 x = f0 := by
    refine rv_inj (fmul_f f0_f hx) f0_f ?_
    rw [rv_mul f0_f hx, rv0]
    grind
  have hs := (sum_fold l f0 f0_f h).1
  refine rv_inj (sum_fold _ f0 f0_f fun g hg => ?_).1 (fmul_f hs hx) ?_
  · obtain ⟨f, hf, rfl⟩ := List.mem_map.mp hg
    exact fmul_f (h f hf) hx
  · have := fold_mul hx l f0 f0_f h
    rw [e0] at this
    rw [this, rv_mul hs hx]
theorem ratS {f1 f2 w1 w2 t1 t2 s u : Rat} (h1 : f2 ≠ 0) (h2 : w2 ≠ 0) (h3 : t2 ≠ 0) (h4 : t1 ≠ 0) (h5 : u ≠ 0) (e : f2 * s = t2 * u) : f1 / f2 * (w1 / w2 * (t1 / t2)⁻¹) = (f1 * s * w1) / (w2 * (t1 * u)) := by
  grind
theorem rv_div' (f : Int × Int) : rv f = (f.1 : Rat) / (f.2 : Rat) := Rat.divInt_eq_div ..
theorem rsum_nn : ∀ l : List (Int × Int), (∀ f ∈ l, IsF f ∧ 0 ≤ f.1) → 0 ≤ rsum l
  | [], _ => by decide
  | f :: l, h => by
    have a := rsum_nn l fun g hg => h g (List.mem_cons_of_mem _ hg)
    have b := (rv_nn (h f List.mem_cons_self).1).mpr (h f List.mem_cons_self).2
    show 0 ≤ rv f + rsum l
    grind
theorem rsum_mem : ∀ (l : List (Int × Int)) (f : Int × Int), f ∈ l → (∀ f ∈ l, IsF f ∧ 0 ≤ f.1) → rv f ≤ rsum l
  | g :: l, f, hf, h => by
    have a := rsum_nn l fun g hg => h g (List.mem_cons_of_mem _ hg)
    have b := (rv_nn (h g List.mem_cons_self).1).mpr (h g List.mem_cons_self).2
    show rv f ≤ rv g + rsum l
    rcases List.mem_cons.mp hf with rfl | hf
    · grind
    · have := rsum_mem l f hf fun g hg => h g (List.mem_cons_of_mem _ hg)
      grind
theorem part_le {l : List (Int × Int)} {f : Int × Int} (hf : f ∈ l) (h : ∀ f ∈ l, IsF f ∧ 0 ≤ f.1) : rv f ≤ rv (l.foldl fadd f0) := by
  rw [(sum_fold l f0 f0_f fun f hf => (h f hf).1).2, rv0, Rat.zero_add]
  exact rsum_mem l f hf h
theorem ratV {F W T I c : Rat} (h1 : 0 ≤ F) (h2 : F ≤ T) (h3 : 0 < T) (hi : T * I = 1) (h4 : 0 ≤ W) (h5 : W ≤ c) : F * (W * I) ≤ c := by
  have p : 0 ≤ I := by
    rcases Rat.le_total (a := I) (b := 0) with q | q
    · have := Rat.mul_le_mul_of_nonneg_left q (Rat.le_of_lt h3)
      grind
    · exact q
  have a : F * I ≤ T * I := Rat.mul_le_mul_of_nonneg_right h2 p
  rw [hi] at a
  have b : W * (F * I) ≤ W * 1 := Rat.mul_le_mul_of_nonneg_left a h4
  grind
/-- scaled: the bottom of f * (w / t) where f and t have the bottom N -/
theorem qn_scaled {N c e k : Nat} {f w t : Int × Int} (hf : Qn N c f) (ht : Qn N e t) (hN : 0 < N) (tp : 0 < t.1) (hw : IsF w) (wp : 0 < w.1) (ft : rv f ≤ rv t) (wb : Bt k w) : Qn (w.2.toNat * (t.1.toNat * (N / t.2.toNat))) (2 ^ k) (fmul f (fdiv w t)) := by
  have f2 : 0 < f.2 := hf.lo.1
  have t2 : 0 < t.2 := ht.lo.1
  have w2 : 0 < w.2 := hw.1
  have h0 : t.1 ≠ 0 := by omega
  have dv := fdiv_f hw h0
  have gf := fmul_f hf.lo dv
  obtain ⟨s, hs⟩ := hf.dn
  have ⟨u, hu⟩ : ∃ u : Nat, N = t.2.toNat * u := by
    have : t.2.toNat ∣ N := by
      have := ht.dn
      rw [← Int.toNat_of_nonneg (Int.le_of_lt t2)] at this
      exact Int.natCast_dvd_natCast.mp this
    exact this
  have hu2 : N / t.2.toNat = u := by
    rw [hu]
    exact Nat.mul_div_cancel_left _ (by omega)
  have up : 0 < u := by
    rcases Nat.eq_zero_or_pos u with q | q
    · rw [q, Nat.mul_zero] at hu
      omega
    · exact q
  have et : (t.2.toNat : Int) = t.2 := Int.toNat_of_nonneg (Int.le_of_lt t2)
  have et1 : (t.1.toNat : Int) = t.1 := Int.toNat_of_nonneg (Int.le_of_lt tp)
  have ew : (w.2.toNat : Int) = w.2 := Int.toNat_of_nonneg (Int.le_of_lt w2)
  have eN : (N : Int) = t.2 * u := by rw [hu, Int.natCast_mul, et]
  rw [hu2]
  have r : rv (fmul f (fdiv w t)) = rv f * (rv w * (rv t)⁻¹) := by rw [rv_mul hf.lo dv, rv_div hw h0]
  refine ⟨gf, ?_, ?_, ?_⟩
  · exact low_top_nn (Int.mul_pos f2 dv.1) (Int.mul_nonneg hf.nn (low_top_nn (Int.mul_pos w2 tp) (Int.le_of_lt (Int.mul_pos wp t2))))
  · refine rv_dn (a := f.1 * s * w.1) gf ?_ ?_
    · rw [Int.natCast_mul, Int.natCast_mul, ew, et1]
      have := Int.mul_pos w2 (Int.mul_pos tp (show (0 : Int) < u by omega))
      omega
    · rw [r, Rat.divInt_eq_div, Int.natCast_mul, Int.natCast_mul, ew, et1, rv_div', rv_div', rv_div']
      rw [Rat.intCast_mul, Rat.intCast_mul, Rat.intCast_mul, Rat.intCast_mul]
      refine ratS ?_ ?_ ?_ ?_ ?_ ?_
      · exact fun z => by have := Rat.intCast_eq_zero_iff.mp z; omega
      · exact fun z => by have := Rat.intCast_eq_zero_iff.mp z; omega
      · exact fun z => by have := Rat.intCast_eq_zero_iff.mp z; omega
      · exact fun z => by have := Rat.intCast_eq_zero_iff.mp z; omega
      · exact fun z => by have := Rat.intCast_eq_zero_iff.mp z; omega
      · rw [← Rat.intCast_mul, ← Rat.intCast_mul, ← hs, ← eN]
  · have key : rv (fmul f (fdiv w t)) ≤ rv (((2 ^ k : Nat) : Int), 1) := by
      rw [r, rv_n1]
      have tq := rv_pos ht.lo tp
      refine ratV ((rv_nn hf.lo).mpr hf.nn) ft tq (Rat.mul_inv_cancel _ (by grind)) (Rat.le_of_lt (rv_pos hw wp)) ?_
      rw [← rv_n1, rv_le hw (n1_f _)]
      show w.1 * 1 ≤ ((2 ^ k : Nat) : Int) * w.2
      have b1 := wb.1
      have : ((2 ^ k : Nat) : Int) * 1 ≤ ((2 ^ k : Nat) : Int) * w.2 := Int.mul_le_mul_of_nonneg_left (by omega) (by omega)
      omega
    have := (rv_le gf (n1_f _)).mp key
    show (fmul f (fdiv w t)).1 ≤ ((2 ^ k : Nat) : Int) * (fmul f (fdiv w t)).2
    have h1 : (fmul f (fdiv w t)).1 * 1 ≤ ((2 ^ k : Nat) : Int) * (fmul f (fdiv w t)).2 := this
    omega
/-- weights of rows in the place of their parts -/
theorem cmn_scaled {fs : List (Int × Int)} {w : Int × Int} {k : Nat} (h : ∀ f ∈ fs, IsF f ∧ 0 < f.1 ∧ Bt 40 f) (h1 : 1 ≤ fs.length) (h8 : fs.length ≤ 8) (hw : IsF w) (wp : 0 < w.1) (wb : Bt k w) (hk : k ≤ 100) : Cmn (fs.map fun f => fmul f (fdiv w (fs.foldl fadd f0))) := by
  have b := botP_lt (k := 40) fs fun f hf => (h f hf).2.2
  have p := botP_pos fs fun f hf => (h f hf).1
  have b2 : botP fs ≤ 2 ^ 320 := Nat.le_trans b (Nat.pow_le_pow_right (by decide) (by omega))
  have q : ∀ f ∈ fs, Qn (botP fs) (2 ^ 40) f := fun f hf => (qn_of_bt (h f hf).1 (Int.le_of_lt (h f hf).2.1) (h f hf).2.2).mono (botP_dvd fs f hf) (Nat.le_refl _)
  have t := Qn.sum q h8
  have tp : 0 < (fs.foldl fadd f0).1 := fold_pos fs f0 f0_f (fun f hf => (h f hf).1) (fun f hf => (h f hf).2.1) (by decide) (.inl fun z => by rw [z] at h1; cases h1)
  have tb : (fs.foldl fadd f0).1 ≤ ((2 ^ 40 * 8 : Nat) : Int) * (fs.foldl fadd f0).2 := t.vb
  have tN := t.le_N p
  have t2 : 0 < (fs.foldl fadd f0).2 := t.lo.1
  have w2 : 0 < w.2 := hw.1
  obtain ⟨u, hu⟩ : (fs.foldl fadd f0).2.toNat ∣ botP fs := by
    have := t.dn
    rw [← Int.toNat_of_nonneg (Int.le_of_lt t2)] at this
    exact Int.natCast_dvd_natCast.mp this
  refine ⟨w.2.toNat * ((fs.foldl fadd f0).1.toNat * (botP fs / (fs.foldl fadd f0).2.toNat)), 2 ^ k, ?_, Nat.two_pow_pos _, ?_, ?_⟩
  · refine Nat.mul_pos (by omega) (Nat.mul_pos (by omega) (Nat.div_pos (by omega) (by omega)))
  · have s1 : (fs.foldl fadd f0).1.toNat * (botP fs / (fs.foldl fadd f0).2.toNat) ≤ 2 ^ 40 * 8 * botP fs := by
      rw [hu, Nat.mul_div_cancel_left _ (by omega), ← Nat.mul_assoc]
      exact Nat.mul_le_mul_right _ (by
        have e : ((2 ^ 40 * 8 * (fs.foldl fadd f0).2.toNat : Nat) : Int) = ((2 ^ 40 * 8 : Nat) : Int) * (fs.foldl fadd f0).2 := by rw [Int.natCast_mul, Int.toNat_of_nonneg (Int.le_of_lt t2)]
        omega)
    have w1 : w.2.toNat ≤ 2 ^ k := by have := wb.2; omega
    calc 8 * 2 ^ k * (w.2.toNat * ((fs.foldl fadd f0).1.toNat * (botP fs / (fs.foldl fadd f0).2.toNat))) ≤ 8 * 2 ^ k * (2 ^ k * (2 ^ 40 * 8 * 2 ^ 320)) := Nat.mul_le_mul_left _ (Nat.mul_le_mul w1 (Nat.le_trans s1 (Nat.mul_le_mul_left _ b2)))
      _ = 2 ^ (366 + 2 * k) := by
        rw [show 366 + 2 * k = 366 + k + k by omega, Nat.pow_add, Nat.pow_add]
        rw [show (2 : Nat) ^ 366 = 8 * (2 ^ 40 * 8 * 2 ^ 320) by decide]
        simp only [Nat.mul_comm, Nat.mul_left_comm, Nat.mul_assoc]
      _ < 2 ^ 880 := Nat.pow_lt_pow_right (by decide) (by omega)
  · intro g hg
    obtain ⟨f, hf, rfl⟩ := List.mem_map.mp hg
    exact qn_scaled (q f hf) t p tp hw wp (part_le hf fun f hf => ⟨(h f hf).1, Int.le_of_lt (h f hf).2.1⟩) wb
/-- there and back -/
theorem scaled_back {f w t : Int × Int} (hf : IsF f) (hw : IsF w) (ht : IsF t) (wp : 0 < w.1) (tp : 0 < t.1) : fmul (fmul f (fdiv w t)) (fdiv t w) = f := by
  have w0 : w.1 ≠ 0 := by omega
  have t0 : t.1 ≠ 0 := by omega
  have a := fdiv_f hw t0
  have b := fdiv_f ht w0
  refine rv_inj (fmul_f (fmul_f hf a) b) hf ?_
  rw [rv_mul (fmul_f hf a) b, rv_mul hf a, rv_div hw t0, rv_div ht w0]
  have h1 : rv w * (rv w)⁻¹ = 1 := Rat.mul_inv_cancel _ fun e => w0 ((rv_zero hw).mp e)
  have h2 : rv t * (rv t)⁻¹ = 1 := Rat.mul_inv_cancel _ fun e => t0 ((rv_zero ht).mp e)
  grind
/-- the weights make the weight -/
theorem scaled_tot {fs : List (Int × Int)} {w : Int × Int} (h : ∀ f ∈ fs, IsF f ∧ 0 < f.1) (h1 : 1 ≤ fs.length) (hw : IsF w) : (fs.map fun f => fmul f (fdiv w (fs.foldl fadd f0))).foldl fadd f0 = w := by
  have tp : 0 < (fs.foldl fadd f0).1 := fold_pos fs f0 f0_f (fun f hf => (h f hf).1) (fun f hf => (h f hf).2) (by decide) (.inl fun z => by rw [z] at h1; cases h1)
  have t0 : (fs.foldl fadd f0).1 ≠ 0 := by omega
  have ht := (sum_fold fs f0 f0_f fun f hf => (h f hf).1).1
  have a := fdiv_f hw t0
  rw [sum_mul a fun f hf => (h f hf).1]
  refine rv_inj (fmul_f ht a) hw ?_
  rw [rv_mul ht a, rv_div hw t0]
  have h2 : rv (fs.foldl fadd f0) * (rv (fs.foldl fadd f0))⁻¹ = 1 := Rat.mul_inv_cancel _ fun e => t0 ((rv_zero ht).mp e)
  grind
/-- much times the whole is the parts times the weight -/
theorem scaled_cross {f w t : Int × Int} (hf : IsF f) (hw : IsF w) (ht : IsF t) (tp : 0 < t.1) : fmul (fmul f (fdiv w t)) t = fmul f w := by
  have t0 : t.1 ≠ 0 := by omega
  have a := fdiv_f hw t0
  refine rv_inj (fmul_f (fmul_f hf a) ht) (fmul_f hf hw) ?_
  rw [rv_mul (fmul_f hf a) ht, rv_mul hf a, rv_div hw t0, rv_mul hf hw]
  have h2 : rv t * (rv t)⁻¹ = 1 := Rat.mul_inv_cancel _ fun e => t0 ((rv_zero ht).mp e)
  grind
end Lf

set_option Elab.async false
set_option linter.all false
set_option maxRecDepth 100000
set_option maxHeartbeats 4000000
/-! len by an own __len__ -/
namespace Lf
open PySem PySem.Spec PyProof.Rows L2
section
variable {X : Cx} {k : Nat} {f C : Addr} {fd : FuncData} {ps : List Str} {sp : Sp}
/-- len(x), x an object of the class at C -/
def rLenO (C : Addr) (sp : Sp) : List V → Hp → VK → Prop := fun xs H Q => ∃ (a dx : Addr) (fs : List (Str × V)), xs = [.ref a] ∧ H a = some (.ins C dx fs) ∧ sp [.ref a] H (fun v H' => ∃ n : Nat, v = .int n ∧ n < 2 ^ 62 ∧ Q (.int n) H') E0
theorem call_lenO (M : OwnM X.prog X.w X.K X.mg X.base k C "__len__" f fd ps sp) (hr : Room (k + 1) X.A) (hG : X.A.guards = some []) : CallR X (.builtin "len") (rLenO C sp) := by
  rintro pins s σ H xs us Q I r ⟨a, dx, fs, rfl, ea, q⟩
  obtain ⟨u, rfl, r1⟩ := vals1 r
  cases (show u = Value.ref a from r1)
  obtain ⟨od, J⟩ := ins_at I ea
  obtain ⟨m, hF⟩ := I.fr
  refine PySem.W.len_K hF I.ok.mod.kin J M.at_ M.isf ?_
  refine wpAny_mono (M.run (vs := [V.ref a]) hr.in1 hG rfl I (.cons rfl .nil) q) (fun z s' hz => ?_) fun _ _ e => e
  obtain ⟨zv, H', I', rz, n, rfl, hn, hq⟩ := hz
  obtain ⟨tk, rfl⟩ := rz
  exact ⟨⟨by omega, by omega⟩, .int n, H', I'.tok _, ⟨_, rfl⟩, hq⟩
end
end Lf

set_option Elab.async false
set_option linter.all false
set_option maxRecDepth 100000
set_option maxHeartbeats 4000000
set_option exponentiation.threshold 3000
namespace Lf
open PySem PySem.Spec PyProof.Rows L2
theorem sm_of {n : Int} {k : Nat} (h : n.natAbs < 2 ^ k) (hk : k ≤ 900) : Sm n := Nat.lt_of_lt_of_le h (Nat.pow_le_pow_right (by decide) hk)
theorem sub_lt {a b : Int} {k : Nat} (ha : a.natAbs < 2 ^ k) (hb : b.natAbs < 2 ^ k) : (a - b).natAbs < 2 ^ (k + 1) := by
  have := Int.natAbs_sub_le a b
  rw [Nat.pow_succ]
  omega
/-- a weight out of two numbers -/
theorem wgt_low {n d : Int} (hn : 0 < n) (hd : 0 < d) (bn : n < 2 ^ 41) (bd : d < 2 ^ 41) : Wgt 41 (low n d) := ⟨low_f (by omega), low_top_pos hd hn, low_bt (by omega) (by omega) (by omega)⟩
theorem Wgt.mono {j k : Nat} {f : Int × Int} (h : Wgt j f) (hk : j ≤ k) : Wgt k f := ⟨h.lo, h.p, h.b.mono hk⟩
theorem lo_low {n d : Int} (hn : 0 ≤ n) (h : n < d) (bd : d < 2 ^ 41) : Lo (low n d) := by
  have hd : 0 < d := by omega
  refine ⟨low_f (by omega), low_top_nn hd hn, ?_, low_bt (by omega) (by omega) (by omega)⟩
  have c := low_cross (n := n) (d := d) (by omega)
  have h2 : 0 < (low n d).2 := low_b hd
  generalize (low n d).1 = a at c ⊢
  generalize (low n d).2 = b at c h2 ⊢
  have h3 : n * b < d * b := Int.mul_lt_mul_of_pos_right h h2
  rw [← c, Int.mul_comm d b] at h3
  exact Int.lt_of_mul_lt_mul_right h3 (by omega)
theorem lo_f0 : Lo f0 := ⟨f0_f, by decide, by decide, bt01.1.mono (by decide)⟩
theorem pot_ne {q p : Addr} {H : Hp} (h : Pot H q) (n : H p = none) : p ≠ q := fun z => by
  obtain ⟨x, y, _, _, e⟩ := h
  rw [← z, n] at e
  cases e
theorem nm_inv {z : Str} (h : isNm (.str z) = true) : Nm z := by
  have h' : (decide (1 ≤ z.length) && decide (z.length ≤ 10) && z.cps.toList.all inL) = true := h
  rw [Bool.and_eq_true, Bool.and_eq_true] at h'
  exact ⟨List.all_eq_true.mp h'.2, of_decide_eq_true h'.1.1, of_decide_eq_true h'.1.2⟩
section
variable {P : Program} {w : World} {K : PySem.W.Frag} {mg : Str → Option Value} {base : Heap} {c0 c1 : Addr}
theorem AtK.but {q : Addr} {H H' : Hp} {v : V} {f : Int × Int} (b : But q H H') (hP : Pot H q) (h : AtK K H v f) : AtK K H' v f := by
  obtain ⟨p, e, h⟩ := h
  obtain ⟨x, y, _, _, eq⟩ := hP
  refine ⟨p, e, ?_⟩
  rcases h with (h | ⟨ob, h⟩) | h
  · exact .inl (.inl (b _ _ (fun z => by rw [z, eq] at h; cases h) h))
  · exact .inl (.inr ⟨ob, b _ _ (fun z => by rw [z, eq] at h; cases h) h⟩)
  · exact .inr h
theorem sqt_but {q p : Addr} {H H' : Hp} {xs : List V} (b : But q H H') (hP : Pot H q) (h : SqT K H p xs) : SqT K H' p xs := by
  obtain ⟨x, y, _, _, eq⟩ := hP
  rcases h with (h | ⟨ob, h⟩) | h
  · exact .inl (.inl (b _ _ (fun z => by rw [z, eq] at h; cases h) h))
  · exact .inl (.inr ⟨ob, b _ _ (fun z => by rw [z, eq] at h; cases h) h⟩)
  · exact .inr h
theorem Pn.but {q : Addr} {H H' : Hp} {C x : Addr} {z : Str} {h l : Int × Int} (b : But q H H') (hP : Pot H q) (p : Pn K H C x z h l) : Pn K H' C x z h l := by
  obtain ⟨dx, vh, vl, h1, h2, h3⟩ := p
  obtain ⟨_, _, _, _, eq⟩ := id hP
  exact ⟨dx, vh, vl, b _ _ (fun z => by rw [z, eq] at h1; cases h1) h1, h2.but b hP, h3.but b hP⟩
theorem sqt_upd {l p : Addr} {H : Hp} {ys ys' xs : List V} (e : H l = some (.lst ys)) (h : SqT K H p xs) : SqT K (L2.upd H l (.lst ys')) p xs := by
  rcases h with (h | ⟨ob, h⟩) | h
  · exact .inl (.inl (by rw [upd_ne (fun z => by rw [z, e] at h; cases h)]; exact h))
  · exact .inl (.inr ⟨ob, by rw [upd_ne (fun z => by rw [z, e] at h; cases h)]; exact h⟩)
  · exact .inr h
theorem RwAt.but {q : Addr} {H H' : Hp} {v : V} {r : Str × (Int × Int)} (b : But q H H') (hP : Pot H q) (h : RwAt K H v r) : RwAt K H' v r := by
  obtain ⟨p, vf, e, h1, h2⟩ := h
  exact ⟨p, vf, e, sqt_but b hP h1, h2.but b hP⟩
theorem RwAt.upd {l : Addr} {H : Hp} {ys ys' : List V} {v : V} {r : Str × (Int × Int)} (e : H l = some (.lst ys)) (h : RwAt K H v r) : RwAt K (L2.upd H l (.lst ys')) v r := by
  obtain ⟨p, vf, e', h1, pf, ef, h2⟩ := h
  exact ⟨p, vf, e', sqt_upd e h1, pf, ef, sqt_upd e h2⟩
theorem RwsAt.map {H H' : Hp} (f : ∀ v r, RwAt K H v r → RwAt K H' v r) : ∀ {xs : List V} {rs : List (Str × (Int × Int))}, RwsAt K H xs rs → RwsAt K H' xs rs
  | _, _, .nil => .nil
  | _, _, .cons a r => .cons (f _ _ a) (RwsAt.map f r)
theorem RwsAt.app {H : Hp} : ∀ {xs ys : List V} {rs ss : List (Str × (Int × Int))}, RwsAt K H xs rs → RwsAt K H ys ss → RwsAt K H (xs ++ ys) (rs ++ ss)
  | _, _, _, _, .nil, h => h
  | _, _, _, _, .cons a r, h => .cons a (RwsAt.app r h)
theorem cut_tl (x : V) (xs : List V) : cutV (x :: xs) (some 1) none = xs := by
  have h1 : HT.sIx (x :: xs).length 0 (some 1) = 1 := by simp [HT.sIx]
  have h2 : HT.sIx (x :: xs).length (x :: xs).length none = (x :: xs).length := by simp [HT.sIx]
  unfold cutV
  rw [h1, h2]
  simp
/-- a told dough: a name, a list of rows and a lead in a tuple -/
def TVd (K : PySem.W.Frag) (H : Hp) (p : Addr) (z : Str) (rs : List (Str × (Int × Int))) (n : Int) : Prop := ∃ l xs, SqT K H p [.str z, .ref l, .int n] ∧ H l = some (.lst xs) ∧ RwsAt K H xs rs
theorem TVd.same {H H' : Hp} {p : Addr} {z : Str} {rs : List (Str × (Int × Int))} {n : Int} (s : Same H H') (t : TVd K H p z rs n) : TVd K H' p z rs n := by
  obtain ⟨l, xs, h1, h2, h3⟩ := t
  exact ⟨l, xs, sm_t s h1, s _ _ h2, h3.same s⟩
/-- a told dough beside the pot -/
def TVq (K : PySem.W.Frag) (H : Hp) (q p : Addr) (z : Str) (rs : List (Str × (Int × Int))) (n : Int) : Prop := ∃ l xs, l ≠ q ∧ SqT K H p [.str z, .ref l, .int n] ∧ H l = some (.lst xs) ∧ RwsAt K H xs rs
theorem TVq.tv {H : Hp} {q p : Addr} {z : Str} {rs : List (Str × (Int × Int))} {n : Int} (t : TVq K H q p z rs n) : TVd K H p z rs n := by
  obtain ⟨l, xs, _, h⟩ := t
  exact ⟨l, xs, h⟩
theorem TVq.same {H H' : Hp} {q p : Addr} {z : Str} {rs : List (Str × (Int × Int))} {n : Int} (s : Same H H') (t : TVq K H q p z rs n) : TVq K H' q p z rs n := by
  obtain ⟨l, xs, ne, h1, h2, h3⟩ := t
  exact ⟨l, xs, ne, sm_t s h1, s _ _ h2, h3.same s⟩
theorem TVq.but {H H' : Hp} {q p : Addr} {z : Str} {rs : List (Str × (Int × Int))} {n : Int} (b : But q H H') (hP : Pot H q) (t : TVq K H q p z rs n) : TVq K H' q p z rs n := by
  obtain ⟨l, xs, ne, h1, h2, h3⟩ := t
  exact ⟨l, xs, ne, sqt_but b hP h1, b _ _ ne h2, h3.map fun _ _ => RwAt.but b hP⟩
theorem Dgh.but {H H' : Hp} {q C x : Addr} {z : Str} {rs : List (Str × (Int × Int))} {n : Int} (b : But q H H') (hP : Pot H q) (t : Dgh K H C x z rs n) : Dgh K H' C x z rs n := by
  obtain ⟨dx, pr, xs, h1, h2, h3⟩ := t
  obtain ⟨_, _, _, _, eq⟩ := id hP
  exact ⟨dx, pr, xs, b _ _ (fun z => by rw [z, eq] at h1; cases h1) h1, sqt_but b hP h2, h3.map fun _ _ => RwAt.but b hP⟩

/-! ### weighed_rows -/
theorem sc_weighed_rows : FnScope ["dough", "weight", "factor", "thing", "parts"] ["dough", "weight"] (defScope s_weighed_rows) := ⟨rfl, rfl, rfl, by decide +kernel, rfl, by decide +kernel, by decide +kernel⟩
/-- rows, each by a factor -/
def byF (rs : List (Str × (Int × Int))) (g : Int × Int) : List (Str × (Int × Int)) := rs.map fun r => (r.1, fmul r.2 g)
theorem RwsOk.tot_f {rs : List (Str × (Int × Int))} (ok : RwsOk rs) : IsF (totR rs) := (sum_fold _ f0 f0_f fun f hf => by
  obtain ⟨r, hr, rfl⟩ := List.mem_map.mp hf
  exact (ok.all r hr).lo).1
theorem RwsOk.tot_p {rs : List (Str × (Int × Int))} (ok : RwsOk rs) : 0 < (totR rs).1 := fold_pos _ f0 f0_f (fun f hf => by
  obtain ⟨r, hr, rfl⟩ := List.mem_map.mp hf
  exact (ok.all r hr).lo) (fun f hf => by
  obtain ⟨r, hr, rfl⟩ := List.mem_map.mp hf
  exact (ok.all r hr).po) (by decide) (.inl fun z => by
  have h1 := ok.one
  have := congrArg List.length z
  rw [List.length_map] at this
  rw [this] at h1
  cases h1)
theorem RwsOk.tot_b {rs : List (Str × (Int × Int))} (ok : RwsOk rs) : Bt 880 (totR rs) := ok.cm.tot (by rw [List.length_map]; exact ok.few)
def sp_wrows (K : PySem.W.Frag) (C : Addr) : Sp := fun vs H Q _ => ∃ (x : Addr) (v : V) (z : Str) (rs : List (Str × (Int × Int))) (n : Int) (wt : Int × Int), vs = [.ref x, v] ∧ Dgh K H C x z rs n ∧ RwsOk rs ∧ AtK K H v wt ∧ IsF wt ∧ Bt 880 wt ∧ Bt 880 (fdiv wt (totR rs)) ∧ ∀ H' l ys, Same H H' → H' l = some (.lst ys) → RwsAt K H' ys (byF rs (fdiv wt (totR rs))) → Q (.ref l) H'
set_option maxHeartbeats 8000000 in
theorem ok_wrows {C f ft fh : Addr} {fd fdt fdh : FuncData} (Mt : MetG P w K mg base CX0 7 C "total" ft fdt ["self"] (sp_dtotal K C)) (Mr : MetG P w K mg base CX0 1 C "rows" fh fdh ["self"] (sp_drows K C)) (F : Fun K "weighed_rows" "weighed_rows" s_weighed_rows f fd) (C_over : Cal P w K mg base CX0 5 "over" ["one", "other"] (sp_over K)) (C_times : Cal P w K mg base CX0 5 "times" ["one", "other"] (sp_times K)) : FnG P w K mg base CX0 8 f fd ["dough", "weight"] (sp_wrows K C) := by
  refine Gfun F sc_weighed_rows (fun vs H Q E h => ?_) (fun cdv A outer s H vs Q E hg hr h => ?_)
  · obtain ⟨x, v, z, rs, n, wt, rfl, _⟩ := h
    rfl
  · obtain ⟨x, v, z, rs, n, wt, rfl, dg, ok, hv, hw, wb, qb, k⟩ := h
    refine ⟨_, (pss_cons (ps_set (i := 2) sc_weighed_rows.nd rfl (.inr rfl) (pe_g C_over (hr.mono (by decide)) hg (pa_cons (pv 1) (pa_cons (pe_meG0 (pv 0) Mt (hr.mono (by decide)) hg (fun _ => pass_no)) pa_nil))))
      (pss_one (ps_ret (pe_lc (own := [("thing", 3), ("parts", 4)]) (g := gTup K 2 (gCons (gName 3) (gCons (gName 4) (gNil)))) (tt := tYes) rfl sc_weighed_rows.nd (pi_list (pe_meG0 (pv 0) Mr (hr.mono (by decide)) hg (fun _ => pass_no))) (blkOk_by (N := ["dough", "weight", "factor", "thing", "parts"]) (sc := defScope s_weighed_rows) (by decide +kernel)) (fun _ _ _ _ _ => pg_tupK (K := K) rfl (pgs_cons (pg_name (i := 3) sc_weighed_rows.nd rfl (Or.inl rfl)) (pgs_cons (pg_name (i := 4) sc_weighed_rows.nd rfl (Or.inl rfl)) pgs_nil))) (fun _ _ _ _ _ => pts_nil) (fun _ _ _ _ _ => (pe_tup (pa_cons (pv 3) (pa_cons (pe_g C_times (hr.mono (by decide)) hg (pa_cons (pv 4) (pa_cons (pv 2) pa_nil))) pa_nil)))))))), ?_⟩
    obtain ⟨dx, pr, xs0, i1, _, _⟩ := id dg
    have tf := ok.tot_f
    have t0 : (totR rs).1 ≠ 0 := by have := ok.tot_p; omega
    refine ⟨_, rfl, _, rfl, x, _, _, rfl, i1, rfl, x, z, rs, n, rfl, dg, ok, fun H1 vt s1 at1 => ?_⟩
    refine ⟨_, _, _, _, pr_atk (hv.same s1) at1 hw tf wb ok.tot_b (by decide) (by decide), t0, fun H2 p2 s2 e2 => ?_⟩
    have af : AtK K H2 (.ref p2) (fdiv wt (totR rs)) := AtK.of e2
    have qf := fdiv_f hw t0
    have dg2 := dg.same (s1.trans s2)
    obtain ⟨dx2, pr2, xs2, i2, _, _⟩ := id dg2
    refine ⟨_, rfl, x, _, _, rfl, i2, rfl, x, z, rs, n, rfl, dg2, fun l xs nl hA => ?_⟩
    have s3 : Same H2 (L2.upd H2 l (.lst xs)) := same_new nl
    have e3 : L2.upd H2 l (.lst xs) l = some (.lst xs) := upd_same
    generalize L2.upd H2 l (.lst xs) = H3 at s3 e3 ⊢
    have hA3 : RwsAt K H3 xs rs := hA.same s3
    have af3 := af.same s3
    have hl := hA.len
    have h8 := ok.few
    generalize fdiv wt (totR rs) = g at *
    refine ⟨l, rfl, ⟨_, .inl (.inl e3)⟩, fun D hD => lc_list (xs := xs) (fun i H' => Same H3 H' ∧ ∃ acc, H' D = some (.lst acc) ∧ RwsAt K H' acc ((byF rs g).take i)) ⟨same_new hD, [], upd_same, .nil⟩ (fun i H' _ h => .inl (.inl (h.1 _ _ e3))) ?_ ?_⟩
    · rintro i y H4 hy ⟨s4, acc, eacc, hacc⟩
      obtain ⟨r, hr1, ⟨p, vf, rfl, hp, hf⟩⟩ := hA3.get hy
      have hi : i < xs.length := (List.getElem?_eq_some_iff.mp hy).1
      have hal := hacc.len
      rw [List.length_take] at hal
      have kr := ok.all r (List.mem_of_getElem? hr1)
      refine ⟨p, [.str r.1, vf], rfl, sm_t s4 hp, rfl, _, _, rfl, _, _, rfl, rfl, ?_⟩
      refine ⟨rfl, _, rfl, _, rfl, _, rfl, _, _, _, _, pr_atk (hf.same s4) (af3.same s4) kr.lo qf (ok.bt (List.mem_of_getElem? hr1)) qb (by decide) (by decide), fun H5 p5 s5 e5 => ?_⟩
      refine ⟨len_show (Nat.le_of_ble_eq_true rfl), fun p6 n6 => ?_⟩
      have s6 : Same H5 (L2.upd H5 p6 (.tup [.str r.1, .ref p5])) := same_new n6
      have e6 : L2.upd H5 p6 (.tup [.str r.1, .ref p5]) p6 = some (.tup [.str r.1, .ref p5]) := upd_same
      generalize L2.upd H5 p6 (.tup [.str r.1, .ref p5]) = H6 at s6 e6 ⊢
      have s56 := s5.trans s6
      have row : RwAt K H6 (.ref p6) (r.1, fmul r.2 g) := ⟨p6, .ref p5, rfl, .inl (.inl e6), (AtK.of (f := fmul r.2 g) e5).same s6⟩
      have eD6 := s56 _ _ eacc
      refine ⟨acc, eD6, by rw [sizeLine_eq]; omega, fun b o e => ?_, acc ++ [.ref p6], upd_same, ?_⟩
      · rw [upd_ne (ne_of_none e hD)]
        exact s56 _ _ (s4 _ _ e)
      · have hg2 : (byF rs g)[i]? = some (r.1, fmul r.2 g) := by unfold byF; rw [List.getElem?_map, hr1]; rfl
        rw [List.take_succ, hg2]
        exact RwsAt.map (fun _ _ => RwAt.upd eD6) ((hacc.same s56).app (.cons row .nil))
    · rintro H4 ⟨s4, acc, eacc, hacc⟩
      rw [List.take_of_length_le (by unfold byF; rw [List.length_map]; omega)] at hacc
      exact k H4 D acc (((s1.trans s2).trans s3).trans s4) eacc hacc

/-! ### scaled -/
theorem sc_scaled : FnScope ["dough", "weight"] ["dough", "weight"] (defScope s_scaled) := ⟨rfl, rfl, rfl, by decide +kernel, rfl, by decide +kernel, by decide +kernel⟩
theorem dall_of {f : Addr} {fd : FuncData} (F : FunD K "__init__" "Dough.__init__" (defArgs s_dinit) (defBody s_dinit) (defScope s_dinit) [.int 0] [] f fd) : ∃ g, KBn K fd ["self", "name", "rows", "lead"] (3 + 1) [] g (fun vs zs => gAll vs [.int 0] zs) := by
  obtain ⟨its, hb⟩ := F.kbindsD (ps := ["self", "name", "rows", "lead"]) (3 + 1) [] (fun us ds ws => gAll us ds ws) (fun z => nomatch z) (fun r1 r2 r3 => r1) (fun T kV doc pm an cdv ct us its ws h1 h2 h3 => by
      match us, its, ws, h1, h2, h3 with
      | [_, _, _, _], [_], [], _, _, _ => exact ⟨_, rfl, rfl⟩)
  exact ⟨_, hb⟩
def sp_scaled (K : PySem.W.Frag) (C : Addr) : Sp := fun vs H Q _ => ∃ (x : Addr) (v : V) (z : Str) (rs : List (Str × (Int × Int))) (n : Int) (wt : Int × Int), vs = [.ref x, v] ∧ Dgh K H C x z rs n ∧ DghOk z rs n ∧ AtK K H v wt ∧ IsF wt ∧ 0 < wt.1 ∧ Bt 880 wt ∧ Bt 880 (fdiv wt (totR rs)) ∧ RwsOk (byF rs (fdiv wt (totR rs))) ∧ ∀ H' x', Same H H' → Dgh K H' C x' z (byF rs (fdiv wt (totR rs))) n → Q (.ref x') H'
theorem ok_scaled {C f fP fn fl : Addr} {fd fdP fdn fdl : FuncData} {g0 : List Value → List Value → List Value} (h_all : KBn K fdP ["self", "name", "rows", "lead"] (3 + 1) [] g0 (fun vs zs => gAll vs [.int 0] zs)) (MP : MakG P w K mg base CX0 6 "Dough" C fP fdP ["self", "name", "rows", "lead"] (sp_dinit K C)) (Mn : MetG P w K mg base CX0 1 C "name" fn fdn ["self"] (sp_dname K C)) (Ml : MetG P w K mg base CX0 1 C "lead" fl fdl ["self"] (sp_dlead K C)) (F : Fun K "scaled" "scaled" s_scaled f fd)
    (C_refuse_no_weight : Cal P w K mg base CX0 4 "refuse_no_weight" ["thing"] (sp_refw K)) (C_weighed_rows : Cal P w K mg base CX0 8 "weighed_rows" ["dough", "weight"] (sp_wrows K C)) : FnG P w K mg base CX0 9 f fd ["dough", "weight"] (sp_scaled K C) := by
  refine Gfun F sc_scaled (fun vs H Q E h => ?_) (fun cdv A outer s H vs Q E hg hr h => ?_)
  · obtain ⟨x, v, z, rs, n, wt, rfl, _⟩ := h
    rfl
  · obtain ⟨x, v, z, rs, n, wt, rfl, dg, ok, hv, hw, wp, wb, qb, ok2, k⟩ := h
    refine ⟨_, (pss_cons (ps_expr (pe_g C_refuse_no_weight (hr.mono (by decide)) hg (pa_cons (pv 1) pa_nil)))
      (pss_one (ps_ret (pe_mkG MP h_all (hr.mono (by decide)) hg (fun _ => pass_no) (pa_cons (pe_meG0 (pv 0) Mn (hr.mono (by decide)) hg (fun _ => pass_no)) (pa_cons (pe_g C_weighed_rows (hr.mono (by decide)) hg (pa_cons (pv 0) (pa_cons (pv 1) pa_nil))) (pa_cons (pe_meG0 (pv 0) Ml (hr.mono (by decide)) hg (fun _ => pass_no)) pa_nil))))))), ?_⟩
    obtain ⟨dx, pr, xs0, i1, _, _⟩ := id dg
    refine ⟨_, rfl, v, wt, rfl, hv, hw, wp, ?_⟩
    refine ⟨_, rfl, x, _, _, rfl, i1, rfl, x, z, rs, n, rfl, dg, _, rfl, _, rfl, x, v, z, rs, n, wt, rfl, dg, ok.rw_, hv, hw, wb, qb, fun H1 l ys s1 e1 hA => ?_⟩
    have dg1 := dg.same s1
    obtain ⟨dx1, pr1, xs1, i2, _, _⟩ := id dg1
    refine ⟨_, rfl, x, _, _, rfl, i2, rfl, x, z, rs, n, rfl, dg1, rfl, rfl, fun x' dx' nx nd hdx => ⟨x', dx', H1, z, l, ys, _, n, rfl, nx, nd, hdx, rfl, .inl (.inl (.inl e1)), hA, ⟨ok.nm, ok2, ok.n0, ok.n9⟩, fun H4 s4 pn => ⟨rfl, k H4 x' (s1.trans s4) pn⟩⟩⟩

/-! ### _law_some -/
theorem sc__law_some : FnScope ["_law_pot_here"] ["_law_pot_here"] (defScope s__law_some) := ⟨rfl, rfl, rfl, by decide +kernel, rfl, by decide +kernel, by decide +kernel⟩
def sp_wsome (K : PySem.W.Frag) : Sp := fun vs H Q _ => ∃ q : Addr, vs = [.ref q] ∧ Pot H q ∧ ∀ (v : V) (f : Int × Int) (H' : Hp), Wgt 41 f → AtK K H' v f → Pot H' q → But q H H' → Q v H'
theorem ok_wsome {f : Addr} {fd : FuncData} (F : Fun K "_law_some" "_law_some" s__law_some f fd) (C__law_draw : Cal P w K mg base CX0 1 "_law_draw" ["_law_pot_here", "_law_many"] sp_draw) (C__law_low : Cal P w K mg base CX0 1 "_law_low" ["_law_top", "_law_bottom"] sp_low) : FnG P w K mg base CX0 2 f fd ["_law_pot_here"] (sp_wsome K) := by
  refine Gfun F sc__law_some (fun vs H Q E h => ?_) (fun cdv A outer s H vs Q E hg hr h => ?_)
  · obtain ⟨q, rfl, _⟩ := h
    rfl
  · obtain ⟨q, rfl, hP, k⟩ := h
    refine ⟨_, (pss_cons (ps_if (pt_cmpR op_eq (pe_g C__law_draw (hr.mono (by decide)) hg (pa_cons (pv 0) (pa_cons pe_int pa_nil))) pe_int (nomark _))
      (pss_one (ps_ret (pe_g C__law_low (hr.mono (by decide)) hg (pa_cons (pe_op op_add pe_int (pe_g C__law_draw (hr.mono (by decide)) hg (pa_cons (pv 0) (pa_cons pe_int pa_nil)))) (pa_cons (pe_op op_add pe_int (pe_g C__law_draw (hr.mono (by decide)) hg (pa_cons (pv 0) (pa_cons pe_int pa_nil)))) pa_nil)))))
      pss_nil)
      (pss_one (ps_ret (pe_g C__law_low (hr.mono (by decide)) hg (pa_cons (pe_op op_add pe_int (pe_g C__law_draw (hr.mono (by decide)) hg (pa_cons (pv 0) (pa_cons (pe_op op_sub (pe_op op_pow pe_int pe_int) pe_int) pa_nil)))) (pa_cons (pe_op op_add pe_int (pe_g C__law_draw (hr.mono (by decide)) hg (pa_cons (pv 0) (pa_cons (pe_op op_sub (pe_op op_pow pe_int pe_int) pe_int) pa_nil)))) pa_nil)))))), ?_⟩
    have mid : ∀ n : Int, 0 ≤ n → n < 2 ^ 41 → Mid n := fun n h0 h1 => Nat.lt_of_lt_of_le (show n.natAbs < 2 ^ 41 by omega) (Nat.pow_le_pow_right (by decide) (by decide))
    refine ⟨_, rfl, q, 2, rfl, by decide, by decide, hP, fun r1 H1 r10 r11 hP1 b1 => ⟨rfl, _, rfl, ite2 (fun e => ?_) (fun e => ?_)⟩⟩
    · refine ⟨_, rfl, q, 40, rfl, by decide, by decide, hP1, fun r2 H2 r20 r21 hP2 b2 => ?_⟩
      refine ⟨_, _, rfl, rfl, _, rfl, q, 12, rfl, by decide, by decide, hP2, fun r3 H3 r30 r31 hP3 b3 => ?_⟩
      refine ⟨_, _, rfl, rfl, _, _, rfl, by omega, mid _ (by omega) (by omega), fun H4 p4 s4 e4 => ?_⟩
      exact k _ _ H4 (wgt_low (by omega) (by omega) (by omega) (by omega)) (AtK.of e4) (pot_same hP3 s4) (((b1.trans b2).trans b3).same s4)
    · refine ⟨_, rfl, _, _, rfl, rfl, ⟨by decide, by decide, by decide⟩, _, _, rfl, rfl, q, _, rfl, by decide, by decide, hP1, fun r2 H2 r20 r21 hP2 b2 => ?_⟩
      have r21' : r2 < 10 ^ 12 - 1 := r21
      refine ⟨_, _, rfl, rfl, _, rfl, _, _, rfl, rfl, ⟨by decide, by decide, by decide⟩, _, _, rfl, rfl, q, _, rfl, by decide, by decide, hP2, fun r3 H3 r30 r31 hP3 b3 => ?_⟩
      have r31' : r3 < 10 ^ 12 - 1 := r31
      refine ⟨_, _, rfl, rfl, _, _, rfl, by omega, mid _ (by omega) (by omega), fun H4 p4 s4 e4 => ?_⟩
      exact k _ _ H4 (wgt_low (by omega) (by omega) (by omega) (by omega)) (AtK.of e4) (pot_same hP3 s4) (((b1.trans b2).trans b3).same s4)

end
end Lf

set_option Elab.async false
set_option linter.all false
set_option maxRecDepth 100000
set_option maxHeartbeats 4000000
/-! Promises of the __init__ of own exceptions. -/
namespace Lf
open PySem PySem.Spec PyProof.Rows L2
/-- one field, of anything -/
def sp_x1 (D : Addr) (f : Str) : Sp := fun vs H Q _ => ∃ (a : Addr) (v : V), vs = [.ref a, v] ∧ H a = some (exo a D none) ∧ ∀ dx, H dx = none → dx ≠ a → Q .non (upd (upd H dx (exd dx [(f, v)])) a (exo a D (some dx)))
/-- one field, a text -/
def sp_xt (D : Addr) (f : Str) : Sp := fun vs H Q _ => ∃ (a : Addr) (x : Str), vs = [.ref a, .str x] ∧ x.length ≤ 1000 ∧ H a = some (exo a D none) ∧ ∀ dx, H dx = none → dx ≠ a → Q .non (upd (upd H dx (exd dx [(f, .str x)])) a (exo a D (some dx)))
/-- two fields -/
def sp_x2 (D : Addr) (f g : Str) : Sp := fun vs H Q _ => ∃ (a : Addr) (v u : V), vs = [.ref a, v, u] ∧ H a = some (exo a D none) ∧ ∀ dx, H dx = none → dx ≠ a → Q .non (upd (upd (upd H dx (exd dx [(f, v)])) a (exo a D (some dx))) dx (exd dx [(f, v), (g, u)]))
/-- what a raise of an exception with fields leads to: the error's dict d is new and holds the fields -/
theorem raised {H : Hp} {a dx D : Addr} {fs : List (Str × V)} (ha : H a = none) (e1 : upd H a (exo a D none) dx = none) (e2 : dx ≠ a) {o1 o2 o3 : HO} : Same H (upd (del (upd (upd (upd H a o1) dx o2) a o3) a) dx (.xd fs)) ∧ H dx = none := by
  rw [upd_ne e2] at e1
  refine ⟨fun b o e => ?_, e1⟩
  have nb1 : b ≠ a := ne_of_none e ha
  have nb2 : b ≠ dx := ne_of_none e e1
  rw [upd_ne nb2, del_ne nb1, upd_ne nb1, upd_ne nb2, upd_ne nb1]
  exact e
end Lf

set_option Elab.async false
set_option linter.all false
set_option maxRecDepth 100000
set_option maxHeartbeats 4000000
/-! xs[i] += e of a list; promises of defs that let nothing out. -/
namespace Lf
open PySem PySem.Spec PyProof.Rows L2
def rGetN (K : PySem.W.Frag) : V → V → Hp → VK → Prop := fun x y H Q => ∃ (p : Addr) (xs : List V) (n : Nat) (v : V), x = .ref p ∧ y = .int n ∧ SqL K H p xs ∧ xs[n]? = some v ∧ n < 2 ^ 60 ∧ Q v H
theorem get_listN {X : Cx} : PGet X (rGetN X.K) := by
  intro pins s σ H o i ov iv Q I ro ri h
  obtain ⟨p, xs, n, v, rfl, rfl, hq, he, hn, q⟩ := h
  cases ro
  obtain ⟨t, rfl⟩ := ri
  obtain ⟨its, r, pl, hz⟩ := I.list hq
  obtain ⟨w, ew, rw'⟩ := r.get he
  exact getItem_listL (x := w) pl.isList (by omega) (by omega) (by simpa using ew) ⟨v, H, I, rw', q⟩
/-- a promise of more -/
theorem FnG.imp {P : Program} {w : World} {K : PySem.W.Frag} {mg : Str → Option Value} {base : Heap} {CX : CXT} {k : Nat} {f : Addr} {fd : FuncData} {ps : List Str} {sp sq : Sp} (F : FnG P w K mg base CX k f fd ps sp) (h : ∀ vs H Q E, sq vs H Q E → sp vs H Q E) : FnG P w K mg base CX k f fd ps sq :=
  ⟨fun vs H Q E q => F.size vs H Q E (h _ _ _ _ q), fun B out s H ar us vs Q E r hg e0 hb hv q => F.goes B out s H ar us vs Q E r hg e0 hb hv (h _ _ _ _ q)⟩
theorem Cal.imp {P : Program} {w : World} {K : PySem.W.Frag} {mg : Str → Option Value} {base : Heap} {CX : CXT} {k : Nat} {x : Str} {ps : List Str} {sp sq : Sp} (C : Cal P w K mg base CX k x ps sp) (h : ∀ vs H Q E, sq vs H Q E → sp vs H Q E) : Cal P w K mg base CX k x ps sq := by
  obtain ⟨f, fd, F, a, b, c, d, e⟩ := C.ex
  exact ⟨f, fd, F.imp h, a, b, c, d, e⟩
/-- where nothing is let out -/
theorem FnG.calm {P : Program} {w : World} {K : PySem.W.Frag} {mg : Str → Option Value} {base : Heap} {k : Nat} {f : Addr} {fd : FuncData} {ps : List Str} {sp : Sp} (F : FnG P w K mg base (L2.CX P w) k f fd ps sp) : FnG P w K mg base CX0 k f fd ps (fun vs H Q _ => sp vs H Q E0) := by
  refine ⟨fun vs H Q E q => F.size vs H Q E0 q, fun B out s H ar us vs Q E r hg e0 hb hv q => ?_⟩
  refine codeAny_mono (F.goes B out s H ar us vs Q E0 r hg e0 hb hv q) fun z s' hz => ?_
  cases z with
  | error e =>
    obtain ⟨_, _, _, _, _, _, _, _, _, _, _, _, z⟩ := (show L2.CX P w out H s E0 e s' from hz)
    exact z.elim
  | ok fl =>
    cases fl with
    | ret u => exact hz
    | next => exact False.elim hz
    | brk => exact False.elim hz
    | cont => exact False.elim hz
theorem Cal.calm {P : Program} {w : World} {K : PySem.W.Frag} {mg : Str → Option Value} {base : Heap} {k : Nat} {x : Str} {ps : List Str} {sp : Sp} (C : Cal P w K mg base (L2.CX P w) k x ps sp) : Cal P w K mg base CX0 k x ps (fun vs H Q _ => sp vs H Q E0) := by
  obtain ⟨f, fd, F, a, b, c, d, e⟩ := C.ex
  exact ⟨f, fd, F.calm, a, b, c, d, e⟩
theorem Cal.or {P : Program} {w : World} {K : PySem.W.Frag} {mg : Str → Option Value} {base : Heap} {CX : CXT} {k : Nat} {x : Str} {ps : List Str} {sp sq : Sp} {f : Addr} {fd : FuncData} (F : FnG P w K mg base CX k f fd ps sp) (G : FnG P w K mg base CX k f fd ps sq) :
    FnG P w K mg base CX k f fd ps (fun vs H Q E => sp vs H Q E ∨ sq vs H Q E) :=
  ⟨fun vs H Q E h => h.elim (F.size vs H Q E) (G.size vs H Q E), fun B out s H ar us vs Q E r hg e0 hb hv h => h.elim (F.goes B out s H ar us vs Q E r hg e0 hb hv) (G.goes B out s H ar us vs Q E r hg e0 hb hv)⟩
end Lf

set_option Elab.async false
set_option linter.all false
set_option maxRecDepth 100000
/-! A call of a def that an expression tells; a promise without exceptions, where exceptions may be. -/
namespace Lf
open PySem PySem.Spec PyProof.Rows L2
section
variable {P : Program} {w : World} {K : PySem.W.Frag} {mg : Str → Option Value} {base : Heap} {CX : CXT} {k : Nat} {f : Addr} {fd : FuncData} {ps : List Str} {sp : Sp} {x : Str}
/-- the def at f -/
structure CalF (P : Program) (w : World) (K : PySem.W.Frag) (mg : Str → Option Value) (base : Heap) (CX : CXT) (k : Nat) (f : Addr) (ps : List Str) (sp : Sp) : Prop where
  ex : ∃ (fd : FuncData), FnG P w K mg base CX k f fd ps sp ∧ (∀ (s : Shared) (us : List Value), us.length = ps.length → BindsTo s fd ⟨us, []⟩ (ps.zip us)) ∧ PySem.W.keepIn K (.ref f) = true
theorem FnG.lift (F : FnG P w K mg base CX0 k f fd ps sp) : FnG P w K mg base (L2.CX P w) k f fd ps sp := by
  refine ⟨F.size, fun B out s H ar us vs Q E hr hg e0 hb r h => codeAny_mono (F.goes B out s H ar us vs Q E hr hg e0 hb r h) fun z s' q => ?_⟩
  cases z with
  | error e => exact q.elim
  | ok fl =>
    cases fl with
    | ret u => exact q
    | next => exact False.elim q
    | brk => exact False.elim q
    | cont => exact False.elim q
theorem Cal.lift (C : Cal P w K mg base CX0 k x ps sp) : Cal P w K mg base (L2.CX P w) k x ps sp := by
  obtain ⟨f, fd, F, h⟩ := C.ex
  exact ⟨f, fd, F.lift, h⟩
end
section
variable {X : Cx} {CX : CXT} {k : Nat} {ps : List Str} {p pos : Pos} {fe e : Expr} {es : List Expr} {tf : TE} {t : TA} {S : Addr → Prop} {F : Addr → Sp}
/-- e(a, ..) where e tells one of some defs -/
def tCallV (S : Addr → Prop) (F : Addr → Sp) (E : L2.St → XK) (tf : TE) (t : TA) : TE := fun σ H Q => tf σ H fun y H1 => ∃ f, S f ∧ y = .ref f ∧ t σ H1 fun vs H2 => F f vs H2 Q (E σ)
theorem pe_callV {E : L2.St → XK} (hf : PE X fe tf) (C : ∀ f, S f → CalF X.prog X.w X.K X.mg X.base CX k f ps (F f)) (hr : Room k X.A) (hG : X.A.guards = some []) (hx : ∀ σ, PassesAt CX X σ (E σ)) (ha : PA X (e :: es) t)
    (ht : eval (.Call fe (e :: es) [] pos) X.env = (do
      let v ← eval fe X.env
      callWith pos v [] (backTo pos (starEach (e :: es) X.env)) (backToKw pos (keywordEach [] X.env))) := by rfl)
    (he : starEach (e :: es) X.env = (false, eval e X.env) :: starEach es X.env := by rfl)
    (hpl : (backTo pos (starEach es X.env)).any (·.1) = false := by rfl) : PE X (.Call fe (e :: es) [] pos) (tCallV S F E tf t) := by
  refine ⟨fun pins s σ H Q I h => ?_⟩
  rw [ht]
  refine wpAny_bind (thn (hf.run pins s σ H _ I h) fun u s1 ⟨y, H1, I1, r1, f, hS, ey, q1⟩ => ?_)
  subst ey
  cases (show u = Value.ref f from r1)
  obtain ⟨fd, F', hb, hk⟩ := (C f hS).ex
  refine PySem.W.callWith_K (h₀ := X.base) I.ok.mod.kin hk (thn (ha.run pos pins s1 σ _ _ I1 q1) fun us s2 ⟨vs, H2, I2, r, q⟩ => ⟨I2.kIn, ?_⟩) he hpl
  exact run_g (ar := ⟨us, []⟩) F' hr hG (hx σ) I2 (hb s2 us (r.length.symm.trans (F'.size _ _ _ _ q))) r q
end
end Lf

set_option Elab.async false
set_option linter.all false
set_option maxRecDepth 100000
set_option maxHeartbeats 4000000
set_option exponentiation.threshold 3000
namespace Lf
open PySem PySem.Spec PyProof.Rows L2
open NdefX
/-- the top and the bottom of a fraction -/
def top2 : PyData → Int × Int
  | .tuple [.int a, .int b] => (a, b)
  | _ => (0, 1)
def isM (d : PyData) : Bool := isFr d && decide (0 ≤ (top2 d).1)
/-- a fraction above 0 -/
def isAb (d : PyData) : Bool := isFr d && decide (0 < (top2 d).1)
/-- a loss -/
def isLs (d : PyData) : Bool := isM d && decide ((top2 d).1 < (top2 d).2)
def orNone : PyData → PyData
  | .none => .tuple [.int 0, .int 1]
  | d => d
def whole : PyData → Int
  | .int n => n
  | _ => 0
/-- a count of loaves -/
def isCt (d : PyData) : Bool := isW d && decide (1 ≤ whole d)
/-- the first of a pan's three that is not as told -/
def pnW (dn dh dl : PyData) : Option Str := if isNm dn = false then some ("name" : Str) else if isAb dh = false then some ("holds" : Str) else if isLs dl = false then some ("loss" : Str) else none
theorem pnW_len {dn dh dl : PyData} {wd : Str} (h : pnW dn dh dl = some wd) : wd.length ≤ 1000 := by
  unfold pnW at h
  split at h
  · cases h; decide +kernel
  split at h
  · cases h; decide +kernel
  split at h
  · cases h; decide +kernel
  · cases h
theorem isFr_inv {d : PyData} (h : isFr d = true) : ∃ a b : Int, d = .tuple [.int a, .int b] ∧ IsLow a b := by
  cases d with
  | tuple ds =>
    match ds, h with
    | [x, y], h =>
      have h' : fr2 x y = true := h
      cases x <;> cases y <;> first | (cases h'; done) | skip
      rename_i a b
      have h2 : (decide (0 < b) && decide (Nat.gcd a.natAbs b.natAbs = 1)) = true := h'
      rw [Bool.and_eq_true] at h2
      exact ⟨a, b, rfl, of_decide_eq_true h2.1, of_decide_eq_true h2.2⟩
    | [], h => cases h
    | [_], h => cases h
    | _ :: _ :: _ :: _, h => cases h
  | none => cases h
  | bool _ => cases h
  | int _ => cases h
  | str _ => cases h
  | list _ => cases h
  | dict _ => cases h
section
variable {P : Program} {w : World} {K : PySem.W.Frag} {mg : Str → Option Value} {base : Heap} {c0 c1 : Addr}
/-- a thing that is a fraction stands so -/
theorem fr_at {H : Hp} {v : V} {d : PyData} (h : Dq K H v d) (e : isFr d = true) : AtK K H v (top2 d) ∧ IsF (top2 d) ∧ d = tD (top2 d) := by
  obtain ⟨a, b, rfl, hl⟩ := isFr_inv e
  obtain ⟨p, xs, ds, rfl, ed, hS, hA, _⟩ := h.tup rfl
  cases ed
  cases hA with
  | cons h1 r =>
    cases h1
    cases r with
    | cons h2 r =>
      cases h2
      cases r
      exact ⟨⟨p, rfl, hS⟩, hl, rfl⟩

def sp_ab0Q (K : PySem.W.Frag) : Sp := fun vs H Q _ => ∃ (v : V) (d : PyData), vs = [v] ∧ Dq K H v d ∧ Q (.bl (isAb d)) H
theorem ok_ab0Q {f : Addr} {fd : FuncData} (F : Fun K "is_above_0" "is_above_0" s_is_above_0 f fd) (C_is_fraction : Cal P w K mg base CX0 2 "is_fraction" ["thing"] (sp_isfr K)) : FnG P w K mg base CX0 3 f fd ["thing"] (sp_ab0Q K) := by
  refine Gfun F sc_is_above_0 (fun vs H Q E h => ?_) (fun cdv A outer s H vs Q E hg hr h => ?_)
  · obtain ⟨v, d, rfl, _⟩ := h
    rfl
  · obtain ⟨v, d, rfl, hq, k⟩ := h
    refine ⟨_, (pss_one (ps_ret (pe_and (pe_g C_is_fraction (hr.mono (by decide)) hg (pa_cons (pv 0) pa_nil)) (pe_one (pe_cmpR op_gt (pe_ix ix_tup (pv 0) pe_int (fun _ _ => rfl)) pe_int (nomark _)))))), ?_⟩
    refine ⟨_, rfl, v, d, rfl, hq, _, rfl, ite2 (fun e => ?_) (fun e => ?_)⟩
    · obtain ⟨⟨p, rfl, hp⟩, _, _⟩ := fr_at hq e
      refine ⟨_, rfl, p, _, _, _, rfl, rfl, hp, atI_nat (j := 0) rfl, _, _, rfl, rfl, ?_⟩
      have : isAb d = decide (0 < (top2 d).1) := by unfold isAb; rw [e]; rfl
      rw [this] at k
      exact k
    · have : isAb d = false := by unfold isAb; rw [show isFr d = false from Bool.eq_false_iff.mpr e]; rfl
      rw [this] at k
      exact k

def sp_isM (K : PySem.W.Frag) : Sp := fun vs H Q _ => ∃ (v : V) (d : PyData), vs = [v] ∧ Dq K H v d ∧ Q (.bl (isM d)) H
theorem ok_isM {f : Addr} {fd : FuncData} (F : Fun K "is_measure" "is_measure" s_is_measure f fd) (C_is_fraction : Cal P w K mg base CX0 2 "is_fraction" ["thing"] (sp_isfr K)) : FnG P w K mg base CX0 3 f fd ["thing"] (sp_isM K) := by
  refine Gfun F sc_is_measure (fun vs H Q E h => ?_) (fun cdv A outer s H vs Q E hg hr h => ?_)
  · obtain ⟨v, d, rfl, _⟩ := h
    rfl
  · obtain ⟨v, d, rfl, hq, k⟩ := h
    refine ⟨_, (pss_one (ps_ret (pe_and (pe_g C_is_fraction (hr.mono (by decide)) hg (pa_cons (pv 0) pa_nil)) (pe_one (pe_cmpR op_ge (pe_ix ix_tup (pv 0) pe_int (fun _ _ => rfl)) pe_int (nomark _)))))), ?_⟩
    refine ⟨_, rfl, v, d, rfl, hq, _, rfl, ite2 (fun e => ?_) (fun e => ?_)⟩
    · obtain ⟨⟨p, rfl, hp⟩, _, _⟩ := fr_at hq e
      refine ⟨_, rfl, p, _, _, _, rfl, rfl, hp, atI_nat (j := 0) rfl, _, _, rfl, rfl, ?_⟩
      have : isM d = decide (0 ≤ (top2 d).1) := by unfold isM; rw [e]; rfl
      rw [this] at k
      exact k
    · have : isM d = false := by unfold isM; rw [show isFr d = false from Bool.eq_false_iff.mpr e]; rfl
      rw [this] at k
      exact k

def sp_lossQ (K : PySem.W.Frag) : Sp := fun vs H Q _ => ∃ (v : V) (d : PyData), vs = [v] ∧ Dq K H v d ∧ (isM d = true → Bt 290 (top2 d)) ∧ Q (.bl (isLs d)) H
theorem ok_lossQ {f : Addr} {fd : FuncData} (T : Cs2 K mg c0 c1) (F : Fun K "is_loss" "is_loss" s_is_loss f fd) (C_is_measure : Cal P w K mg base CX0 3 "is_measure" ["thing"] (sp_isM K)) (C_is_less : Cal P w K mg base CX0 1 "is_less" ["one", "other"] (sp_is_less K)) : FnG P w K mg base CX0 4 f fd ["thing"] (sp_lossQ K) := by
  refine Gfun F sc_is_loss (fun vs H Q E h => ?_) (fun cdv A outer s H vs Q E hg hr h => ?_)
  · obtain ⟨v, d, rfl, _⟩ := h
    rfl
  · obtain ⟨v, d, rfl, hq, bt, k⟩ := h
    refine ⟨_, (pss_one (ps_ret (pe_and (pe_g C_is_measure (hr.mono (by decide)) hg (pa_cons (pv 0) pa_nil)) (pe_one (pe_g C_is_less (hr.mono (by decide)) hg (pa_cons (pv 0) (pa_cons (pe_glob (v := .ref c1) rfl T.g1 rfl) pa_nil))))))), ?_⟩
    refine ⟨_, rfl, v, d, rfl, hq, _, rfl, ite2 (fun e => ?_) (fun e => ?_)⟩
    · have e' : isFr d = true := by unfold isM at e; rw [Bool.and_eq_true] at e; exact e.1
      obtain ⟨at_, lo, _⟩ := fr_at hq e'
      refine ⟨_, rfl, _, _, _, _, pr_atk at_ (T.a1 H) lo f1_f (bt e) bt01.2 (by decide) (by decide), ?_⟩
      have : isLs d = decide ((top2 d).1 * f1.2 < f1.1 * (top2 d).2) := by
        unfold isLs
        rw [e, Bool.true_and]
        show decide ((top2 d).1 < (top2 d).2) = decide ((top2 d).1 * 1 < 1 * (top2 d).2)
        rw [Int.mul_one, Int.one_mul]
      rw [this] at k
      exact k
    · have : isLs d = false := by unfold isLs; rw [show isM d = false from Bool.eq_false_iff.mpr e]; rfl
      rw [this] at k
      exact k

def sp_orNone (K : PySem.W.Frag) : Sp := fun vs H Q _ => ∃ (v : V) (d : PyData), vs = [v] ∧ Dq K H v d ∧ ∀ v', (∀ H2, Dq K H2 v d → Dq K H2 v' (orNone d)) → Q v' H
theorem Dq.non {H : Hp} {d : PyData} (h : Dq K H .non d) : d = .none := by
  cases h with
  | dp h _ =>
    cases h
    rfl
theorem Dq.isnon {H : Hp} {v : V} (h : Dq K H v .none) : v = .non := by
  cases h with
  | dp h _ =>
    cases h
    rfl
theorem ok_orNone {f : Addr} {fd : FuncData} (T : Cs2 K mg c0 c1) (F : Fun K "measure_or_none_of_it" "measure_or_none_of_it" s_measure_or_none_of_it f fd) : FnG P w K mg base CX0 1 f fd ["measure"] (sp_orNone K) := by
  refine Gfun F sc_measure_or_none_of_it (fun vs H Q E h => ?_) (fun cdv A outer s H vs Q E hg hr h => ?_)
  · obtain ⟨v, d, rfl, _⟩ := h
    rfl
  · obtain ⟨v, d, rfl, hq, k⟩ := h
    refine ⟨_, (pss_cons (ps_if (pt_cmp (pc_isN (pv 0)))
      (pss_one (ps_ret (pe_glob (v := .ref c0) rfl T.g0 rfl)))
      pss_nil)
      (pss_one (ps_ret (pv 0)))), ?_⟩
    refine ⟨_, rfl, _, rfl, ite2 (fun e => ?_) (fun e => ?_)⟩
    · have ev : v = .non := of_decide_eq_true e
      subst ev
      obtain rfl := hq.non
      exact k _ (fun H2 _ => (T.a0 H2).dq)
    · have ed : orNone d = d := by
        cases d with
        | none => exact absurd (by rw [hq.isnon]; decide) e
        | _ => rfl
      refine ⟨_, rfl, k v fun H2 h2 => ?_⟩
      rw [ed]
      exact h2

end

/-! ### NoPan.__init__ -/
theorem scx_NoPan : NScope ["self", "field", "__class__"] ["self", "field"] ["__class__"] (defScope sx_NoPan) := nscope_by (by decide +kernel)
theorem okx_NoPan {P : Program} {w : World} {K : PySem.W.Frag} {mg : Str → Option Value} {base : Heap} {D f cc cda : Addr} {fd : FuncData} (T : XTn P K mg "NoPan" "NoPan.__init__" ["field"] sx_NoPan D f fd cc cda) : FnOk P w K mg base CX0 1 f fd ["self", "field"] (sp_xt D "field") := by
  refine xok T.F T.T T.sup scx_NoPan (fun vs H Q E h => ?_) rfl rfl rfl rfl rfl (fun L => ⟨_, rfl⟩) (fun L => rfl) (fun L => rfl) (fun L => rfl) (fun A outer s H vs Q E hr h => ?_)
  · obtain ⟨a, x, rfl, _⟩ := h
    rfl
  · obtain ⟨a, x, rfl, hx, ha, k⟩ := h
    refine ⟨_, _, pa_cons (pe_joined (PJ.cons pe_str (PJ.cons (pe_fmt (pv 1)) PJ.nil))) pa_nil, pss_one (ps_ost (pv 0) (pv 1)), a, rfl, ha, ?_⟩
    refine ⟨_, rfl, ?_, _, rfl, .inl ⟨x, rfl, Nat.le_trans hx (by decide), x, rfl, ?_, ?_⟩⟩
    · decide +kernel
    · refine Nat.le_trans (Nat.le_of_eq (PySem.Str.length_append _ _)) ?_
      exact Nat.le_trans (Nat.add_le_add (show Str.length (Str.empty ++ Str.ofString "no pan has such a ") ≤ 1000 by decide +kernel) hx) (by decide +kernel)
    · exact ⟨by show 1 ≤ 1000; decide, ha, _, rfl, _, rfl, a, D, rfl, T.T, T.no _ (by simp), .inl ⟨ha, fun dx n1 n2 => k dx n1 n2⟩⟩
section
variable {P : Program} {w : World} {K : PySem.W.Frag} {mg : Str → Option Value} {base : Heap} {c0 c1 : Addr}

def sp_refpX (K : PySem.W.Frag) (D : Addr) : Sp := fun vs H Q E => ∃ (vn vh vl : V) (dn dh dl : PyData) (wd : Str), vs = [vn, vh, vl] ∧ Dq K H vn dn ∧ (∀ z, dn = .str z → z.length ≤ 1000) ∧ Dq K H vh dh ∧ Dq K H vl dl ∧ (isM dl = true → Bt 290 (top2 dl)) ∧ pnW dn dh dl = some wd ∧ ∀ H' dx, Same H H' → H' dx = some (.xd [("field", .str wd)]) → E (.ref D) (some dx) H'
theorem ok_refpX {f : Addr} {fd : FuncData} {DNoPan fNoPan ccNoPan cdNoPan : Addr} {fdNoPan : FuncData} (TX : XTn P K mg "NoPan" "NoPan.__init__" ["field"] sx_NoPan DNoPan fNoPan fdNoPan ccNoPan cdNoPan) (F : Fun K "refuse_no_pan" "refuse_no_pan" s_refuse_no_pan f fd) (C_is_name : Cal P w K mg base CX0 2 "is_name" ["thing"] (sp_isnm K)) (C_is_above_0 : Cal P w K mg base CX0 3 "is_above_0" ["thing"] (sp_ab0Q K)) (C_is_loss : Cal P w K mg base CX0 4 "is_loss" ["thing"] (sp_lossQ K)) : FnG P w K mg base (L2.CX P w) 5 f fd ["name", "weight", "loss"] (sp_refpX K DNoPan) := by
  refine GfunX F sc_refuse_no_pan (fun vs H Q E h => ?_) (fun cdv A outer s H vs Q E hg hr h => ?_)
  · obtain ⟨vn, vh, vl, dn, dh, dl, wd, rfl, _⟩ := h
    rfl
  · obtain ⟨vn, vh, vl, dn, dh, dl, wd, rfl, hn, hz, hh, hl, bt, pw, k⟩ := h
    refine ⟨_, (pss_cons (ps_if (pt_not (pt_val (pe_g C_is_name (hr.mono (by decide)) hg (pa_cons (pv 0) pa_nil))))
      (pss_one (ps_raise rfl (takes_of rfl rfl rfl rfl) (pmk_oex TX.T TX.iC TX.tI (okx_NoPan TX) (hr.mono (by decide)) TX.b .nil pass0 rfl TX.g (pa_cons pe_str pa_nil))))
      pss_nil)
      (pss_cons (ps_if (pt_not (pt_val (pe_g C_is_above_0 (hr.mono (by decide)) hg (pa_cons (pv 1) pa_nil))))
      (pss_one (ps_raise rfl (takes_of rfl rfl rfl rfl) (pmk_oex TX.T TX.iC TX.tI (okx_NoPan TX) (hr.mono (by decide)) TX.b .nil pass0 rfl TX.g (pa_cons pe_str pa_nil))))
      pss_nil)
      (pss_one (ps_if (pt_not (pt_val (pe_g C_is_loss (hr.mono (by decide)) hg (pa_cons (pv 2) pa_nil))))
      (pss_one (ps_raise rfl (takes_of rfl rfl rfl rfl) (pmk_oex TX.T TX.iC TX.tI (okx_NoPan TX) (hr.mono (by decide)) TX.b .nil pass0 rfl TX.g (pa_cons pe_str pa_nil))))
      pss_nil)))), ?_⟩
    unfold pnW at pw
    refine ⟨_, rfl, vn, dn, rfl, hn, hz, fun H1 s1 => ?_⟩
    by_cases en : isNm dn = false
    · rw [if_pos en] at pw
      cases pw
      rw [en]
      refine ⟨_, rfl, iteT ?_⟩
      refine ⟨by show 1 ≤ 1000; decide, fun a ha => ⟨a, ("name" : Str), rfl, by decide +kernel, upd_same, fun dy e1 e2 => ⟨rfl, dy, [(("field" : Str), .str ("name" : Str))], upd_same, ?_, ?_, ?_⟩⟩⟩
      · rw [upd_ne e2, upd_same]
      · rw [upd_ne e2] at e1
        exact e1
      · obtain ⟨r1, r2⟩ := raised (D := DNoPan) ha e1 e2
        exact k _ dy (s1.trans r1) upd_same
    rw [if_neg en] at pw
    rw [show isNm dn = true by cases h : isNm dn <;> simp_all]
    refine ⟨_, rfl, iteF ?_⟩
    refine ⟨_, rfl, vh, dh, rfl, hh.same s1, ?_⟩
    by_cases eh : isAb dh = false
    · rw [if_pos eh] at pw
      cases pw
      rw [eh]
      refine ⟨_, rfl, iteT ?_⟩
      refine ⟨by show 1 ≤ 1000; decide, fun a ha => ⟨a, ("holds" : Str), rfl, by decide +kernel, upd_same, fun dy e1 e2 => ⟨rfl, dy, [(("field" : Str), .str ("holds" : Str))], upd_same, ?_, ?_, ?_⟩⟩⟩
      · rw [upd_ne e2, upd_same]
      · rw [upd_ne e2] at e1
        exact e1
      · obtain ⟨r1, r2⟩ := raised (D := DNoPan) ha e1 e2
        exact k _ dy (s1.trans r1) upd_same
    rw [if_neg eh] at pw
    rw [show isAb dh = true by cases h : isAb dh <;> simp_all]
    refine ⟨_, rfl, iteF ?_⟩
    refine ⟨_, rfl, vl, dl, rfl, hl.same s1, bt, ?_⟩
    by_cases el : isLs dl = false
    · rw [if_pos el] at pw
      cases pw
      rw [el]
      refine ⟨_, rfl, iteT ?_⟩
      refine ⟨by show 1 ≤ 1000; decide, fun a ha => ⟨a, ("loss" : Str), rfl, by decide +kernel, upd_same, fun dy e1 e2 => ⟨rfl, dy, [(("field" : Str), .str ("loss" : Str))], upd_same, ?_, ?_, ?_⟩⟩⟩
      · rw [upd_ne e2, upd_same]
      · rw [upd_ne e2] at e1
        exact e1
      · obtain ⟨r1, r2⟩ := raised (D := DNoPan) ha e1 e2
        exact k _ dy (s1.trans r1) upd_same
    · rw [if_neg el] at pw
      cases pw

def sp_pinitX (K : PySem.W.Frag) (D : Addr) : Sp := fun vs H Q E => ∃ (x dx : Addr) (C : Addr) (H0 : Hp) (vn vh vl : V) (dn dh dl : PyData) (wd : Str), vs = [.ref x, vn, vh, vl] ∧ H0 x = none ∧ H0 dx = none ∧ H = upd (upd H0 dx (.own x)) x (.ins C dx []) ∧
  Dq K H0 vn dn ∧ (∀ z, dn = .str z → z.length ≤ 1000) ∧ Dq K H0 vh dh ∧ Dq K H0 vl dl ∧ (isM (orNone dl) = true → Bt 290 (top2 (orNone dl))) ∧ pnW dn dh (orNone dl) = some wd ∧ ∀ H' dx, Same H0 H' → H' dx = some (.xd [("field", .str wd)]) → E (.ref D) (some dx) H'
theorem ok_pinitX {D f : Addr} {fd : FuncData} {dvs : List V} {kws : List (Str × V)} (F : FunD K "__init__" "Pan.__init__" (defArgs s_pinit) (defBody s_pinit) (defScope s_pinit) dvs kws f fd)
    (C_measure_or_none_of_it : Cal P w K mg base CX0 1 "measure_or_none_of_it" ["measure"] (sp_orNone K)) (C_refuse_no_pan : Cal P w K mg base (L2.CX P w) 5 "refuse_no_pan" ["name", "weight", "loss"] (sp_refpX K D)) : FnG P w K mg base (L2.CX P w) 6 f fd ["self", "name", "holds", "loss"] (sp_pinitX K D) := by
  refine GfunDX F sc_pinit (fun vs H Q E h => ?_) (fun cdv A outer s H vs Q E hg hr h => ?_)
  · obtain ⟨x, dx, C, H0, vn, vh, vl, dn, dh, dl, wd, rfl, _⟩ := h
    rfl
  · obtain ⟨x, dx, C, H0, vn, vh, vl, dn, dh, dl, wd, rfl, nx, nd, rfl, hn, hz, hh, hl, bt, pw, k⟩ := h
    refine ⟨_, (pss_cons (ps_set (i := 4) sc_pinit.nd rfl (.inl rfl) (pe_g C_measure_or_none_of_it (hr.mono (by decide)) hg (pa_cons (pv 3) pa_nil)))
      (pss_cons (ps_expr (pe_gS C_refuse_no_pan (hr.mono (by decide)) hg (fun σ => passAt (takes_of rfl rfl rfl rfl) σ) (pa_cons (pv 1) (pa_cons (pv 2) (pa_cons (pv 4) pa_nil)))))
      (pss_cons ps_dead
      (pss_cons ps_dead
      (pss_one ps_dead))))), ?_⟩
    have s01 : Same H0 (upd (upd H0 dx (.own x)) x (.ins C dx [])) := fun b o e => by
      rw [upd_ne (ne_of_none e nx), upd_ne (ne_of_none e nd)]
      exact e
    generalize upd (upd H0 dx (.own x)) x (.ins C dx []) = H1 at s01 ⊢
    refine ⟨_, rfl, vl, dl, rfl, hl.same s01, fun v' hv => ?_⟩
    exact ⟨_, rfl, _, rfl, _, rfl, vn, vh, v', dn, dh, orNone dl, wd, rfl, hn.same s01, hz, hh.same s01, hv _ (hl.same s01), bt, pw, fun H' dx s e => k H' dx (s01.trans s) e⟩

def sp_pforX (K : PySem.W.Frag) (D : Addr) : Sp := fun vs H Q E => ∃ (vn vh vl : V) (dn dh dl : PyData) (wd : Str), vs = [vn, vh, vl] ∧ Dq K H vn dn ∧ (∀ z, dn = .str z → z.length ≤ 1000) ∧ Dq K H vh dh ∧ Dq K H vl dl ∧ (isM (orNone dl) = true → Bt 290 (top2 (orNone dl))) ∧ pnW dn dh (orNone dl) = some wd ∧ ∀ H' dx, Same H H' → H' dx = some (.xd [("field", .str wd)]) → E (.ref D) (some dx) H'
theorem ok_pforX {D f : Addr} {fd : FuncData} {dvs : List V} {kws : List (Str × V)} (F : FunD K "pan_for" "pan_for" (defArgs s_pan_for) (defBody s_pan_for) (defScope s_pan_for) dvs kws f fd)
    (C_measure_or_none_of_it : Cal P w K mg base CX0 1 "measure_or_none_of_it" ["measure"] (sp_orNone K)) (C_refuse_no_pan : Cal P w K mg base (L2.CX P w) 5 "refuse_no_pan" ["name", "weight", "loss"] (sp_refpX K D)) : FnG P w K mg base (L2.CX P w) 8 f fd ["name", "baked", "loss"] (sp_pforX K D) := by
  refine FnG.mono (k := 8) (j := 6) (GfunDX F sc_pan_for (fun vs H Q E h => ?_) (fun cdv A outer s H vs Q E hg hr h => ?_)) (by decide)
  · obtain ⟨vn, vh, vl, dn, dh, dl, wd, rfl, _⟩ := h
    rfl
  · obtain ⟨vn, vh, vl, dn, dh, dl, wd, rfl, hn, hz, hh, hl, bt, pw, k⟩ := h
    refine ⟨_, (pss_cons (ps_set (i := 3) sc_pan_for.nd rfl (.inl rfl) (pe_g C_measure_or_none_of_it (hr.mono (by decide)) hg (pa_cons (pv 2) pa_nil)))
      (pss_cons (ps_expr (pe_gS C_refuse_no_pan (hr.mono (by decide)) hg (fun σ => passAt (takes_of rfl rfl rfl rfl) σ) (pa_cons (pv 0) (pa_cons (pv 1) (pa_cons (pv 3) pa_nil)))))
      (pss_one ps_dead))), ?_⟩
    refine ⟨_, rfl, vl, dl, rfl, hl, fun v' hv => ?_⟩
    exact ⟨_, rfl, _, rfl, _, rfl, vn, vh, v', dn, dh, orNone dl, wd, rfl, hn, hz, hh, hv _ hl, bt, pw, k⟩

def sp_rnwX (K : PySem.W.Frag) (D : Addr) : Sp := fun vs H Q E => ∃ (v : V) (d : PyData), vs = [v] ∧ Dq K H v d ∧ isAb d = false ∧ E (.ref D) none H
theorem ok_rnwX {f D : Addr} {fd : FuncData} (T : ExT K mg "NoWeight" D) (F : Fun K "refuse_no_weight" "refuse_no_weight" s_refuse_no_weight f fd) (C_is_above_0 : Cal P w K mg base CX0 3 "is_above_0" ["thing"] (sp_ab0Q K)) : FnG P w K mg base (L2.CX P w) 4 f fd ["thing"] (sp_rnwX K D) := by
  refine GfunX F sc_refuse_no_weight (fun vs H Q E h => ?_) (fun cdv A outer s H vs Q E hg hr h => ?_)
  · obtain ⟨v, d, rfl, _⟩ := h
    rfl
  · obtain ⟨v, d, rfl, hv, na, k⟩ := h
    refine ⟨_, (pss_one (ps_if (pt_not (pt_val (pe_g C_is_above_0 (hr.mono (by decide)) hg (pa_cons (pv 0) pa_nil))))
      (pss_one (ps_raise rfl (takes_of rfl rfl rfl rfl) (pmk_own PySem.F.excBase_ValueError T.x T.g T.k (raises_own T.b T.t) rfl)))
      pss_nil)), ?_⟩
    refine ⟨_, rfl, v, d, rfl, hv, ?_⟩
    rw [na]
    exact ⟨_, rfl, iteT k⟩

def sp_loavesX (K : PySem.W.Frag) (D : Addr) : Sp := fun vs H Q E => ∃ (v y : V) (d : PyData), vs = [v, y] ∧ Dq K H v d ∧ isAb d = false ∧ E (.ref D) none H
theorem ok_loavesX {f D : Addr} {fd : FuncData} (F : Fun K "loaves" "loaves" s_loaves f fd) (C_refuse_no_weight : Cal P w K mg base (L2.CX P w) 4 "refuse_no_weight" ["thing"] (sp_rnwX K D)) : FnG P w K mg base (L2.CX P w) 6 f fd ["weight", "pan"] (sp_loavesX K D) := by
  refine FnG.mono (k := 6) (j := 5) (GfunX F sc_loaves (fun vs H Q E h => ?_) (fun cdv A outer s H vs Q E hg hr h => ?_)) (by decide)
  · obtain ⟨v, y, d, rfl, _⟩ := h
    rfl
  · obtain ⟨v, y, d, rfl, hv, na, k⟩ := h
    refine ⟨_, (pss_cons (ps_expr (pe_gS C_refuse_no_weight (hr.mono (by decide)) hg (fun σ => passAt (takes_of rfl rfl rfl rfl) σ) (pa_cons (pv 0) pa_nil)))
      (pss_cons ps_dead
      (pss_one ps_dead))), ?_⟩
    exact ⟨_, rfl, v, d, rfl, hv, na, k⟩

def sp_scaledX (K : PySem.W.Frag) (D : Addr) : Sp := fun vs H Q E => ∃ (v y : V) (d : PyData), vs = [y, v] ∧ Dq K H v d ∧ isAb d = false ∧ E (.ref D) none H
theorem ok_scaledX {f D : Addr} {fd : FuncData} (F : Fun K "scaled" "scaled" s_scaled f fd) (C_refuse_no_weight : Cal P w K mg base (L2.CX P w) 4 "refuse_no_weight" ["thing"] (sp_rnwX K D)) : FnG P w K mg base (L2.CX P w) 9 f fd ["dough", "weight"] (sp_scaledX K D) := by
  refine FnG.mono (k := 9) (j := 5) (GfunX F sc_scaled (fun vs H Q E h => ?_) (fun cdv A outer s H vs Q E hg hr h => ?_)) (by decide)
  · obtain ⟨v, y, d, rfl, _⟩ := h
    rfl
  · obtain ⟨v, y, d, rfl, hv, na, k⟩ := h
    refine ⟨_, (pss_cons (ps_expr (pe_gS C_refuse_no_weight (hr.mono (by decide)) hg (fun σ => passAt (takes_of rfl rfl rfl rfl) σ) (pa_cons (pv 1) pa_nil)))
      (pss_one ps_dead)), ?_⟩
    exact ⟨_, rfl, v, d, rfl, hv, na, k⟩

def sp_dforX (K : PySem.W.Frag) (D : Addr) : Sp := fun vs H Q E => ∃ (v y : V) (d : PyData), vs = [v, y] ∧ Dq K H v d ∧ isCt d = false ∧ E (.ref D) none H
theorem ok_dforX {f D : Addr} {fd : FuncData} (T : ExT K mg "NoCount" D) (F : Fun K "dough_for" "dough_for" s_dough_for f fd) (C_is_whole : Cal P w K mg base CX0 1 "is_whole" ["thing"] (sp_whole K)) : FnG P w K mg base (L2.CX P w) 6 f fd ["count", "pan"] (sp_dforX K D) := by
  refine FnG.mono (k := 6) (j := 2) (GfunX F sc_dough_for (fun vs H Q E h => ?_) (fun cdv A outer s H vs Q E hg hr h => ?_)) (by decide)
  · obtain ⟨v, y, d, rfl, _⟩ := h
    rfl
  · obtain ⟨v, y, d, rfl, hv, na, k⟩ := h
    refine ⟨_, (pss_cons (ps_if (PW.pt (pw_or (pt_not (pt_val (pe_g C_is_whole (hr.mono (by decide)) hg (pa_cons (pv 0) pa_nil)))) (pw_or1 (pt_cmpR op_lt (pv 0) pe_int (nomark _)))))
      (pss_one (ps_raise rfl (takes_of rfl rfl rfl rfl) (pmk_own PySem.F.excBase_ValueError T.x T.g T.k (raises_own T.b T.t) rfl)))
      pss_nil)
      (pss_one ps_dead)), ?_⟩
    refine ⟨_, rfl, v, d, rfl, hv, _, rfl, ?_⟩
    by_cases hw : isW d = true
    · obtain ⟨n, rfl, rfl⟩ := hv.whole hw
      have na : decide (1 ≤ n) = false := na
      rw [hw]
      refine iteF ?_
      refine ⟨_, rfl, _, _, rfl, rfl, _, rfl, ?_⟩
      have hn : decide (n < 1) = true := decide_eq_true (by have := of_decide_eq_false na; omega)
      rw [hn]
      exact iteT k
    · rw [show isW d = false by cases h : isW d <;> simp_all]
      exact iteT k

end
end Lf

set_option Elab.async false
set_option linter.all false
set_option maxRecDepth 100000
set_option maxHeartbeats 4000000
set_option exponentiation.threshold 3000
namespace Lf
open PySem PySem.Spec PyProof.Rows L2
/-- what a thing of a menu fits -/
def good (d : PyData) : Bool := d.showable && decide (d.depth ≤ 5) && d.leavesShort 1000 && decide (d.weight ≤ 2000) && (match d with
  | .str z => decide (z.length ≤ 1000) && z.cps.toList.all (fun c => decide (c < 0x110000))
  | .tuple [.int a, .int b] => decide (a.natAbs < 2 ^ 41) && decide (b.natAbs < 2 ^ 41)
  | .int n => decide (n.natAbs < 2 ^ 60)
  | _ => true)
structure Gd (d : PyData) : Prop where
  sh : d.showable = true
  dp : d.depth ≤ 5
  lv : d.leavesShort 1000 = true
  wt : d.weight ≤ 2000
  st : ∀ z, d = .str z → z.length ≤ 1000 ∧ ∀ c ∈ z.cps.toList, c < 0x110000
  fr : ∀ a b, d = .tuple [.int a, .int b] → a.natAbs < 2 ^ 41 ∧ b.natAbs < 2 ^ 41
  int : ∀ n, d = .int n → n.natAbs < 2 ^ 60
theorem gd_good {d : PyData} (h : good d = true) : Gd d := by
  unfold good at h
  rw [Bool.and_eq_true, Bool.and_eq_true, Bool.and_eq_true, Bool.and_eq_true] at h
  obtain ⟨⟨⟨⟨h1, h2⟩, h3⟩, h4⟩, h5⟩ := h
  refine ⟨h1, of_decide_eq_true h2, h3, of_decide_eq_true h4, fun z e => ?_, fun a b e => ?_, fun n e => ?_⟩
  · subst e
    have h5 : (decide (z.length ≤ 1000) && z.cps.toList.all (fun c => decide (c < 0x110000))) = true := h5
    rw [Bool.and_eq_true] at h5
    exact ⟨of_decide_eq_true h5.1, fun c hc => of_decide_eq_true (List.all_eq_true.mp h5.2 c hc)⟩
  · subst e
    have h5 : (decide (a.natAbs < 2 ^ 41) && decide (b.natAbs < 2 ^ 41)) = true := h5
    rw [Bool.and_eq_true] at h5
    exact ⟨of_decide_eq_true h5.1, of_decide_eq_true h5.2⟩
  · subst e
    exact of_decide_eq_true h5
section
variable {P : Program} {w : World} {K : PySem.W.Frag} {mg : Str → Option Value} {base : Heap} {c0 c1 : Addr}

/-! ### _law_odd_name -/
theorem sc__law_odd_name : FnScope ["_law_pot_here", "_law_some_here"] ["_law_pot_here"] (defScope s__law_odd_name) := ⟨rfl, rfl, rfl, by decide +kernel, rfl, by decide +kernel, by decide +kernel⟩
def odd_nameD : List PyData := ([.str (Str.ofString ""), .str (Str.ofString "abcdefghijk"), .str (Str.ofString "A"), .str (Str.ofString "aB"), .str (Str.ofString "a1"), .str (Str.ofString "a b"), .str (Str.ofString "a-"), .str (Str.ofString "a\n"), .none, .int 7, .int 0, .bool true, .list [.str (Str.ofString "a")], .tuple [.str (Str.ofString "a")], .dict [], .str (Str.ofString "zz")] ++ [.str (Str.ofString "abcdefghij")])
def sp_oddn (K : PySem.W.Frag) : Sp := fun vs H Q _ => ∃ (q : Addr), vs = [.ref q] ∧ Pot H q ∧ ∀ (v : V) (d : PyData) (H' : Hp), Dq K (nw H H') v d → Gd d → Pot H' q → But q H H' → Q v H'
theorem ok_oddn {f : Addr} {fd : FuncData} (M : Blt mg) (F : Fun K "_law_odd_name" "_law_odd_name" s__law_odd_name f fd) (C__law_draw : Cal P w K mg base CX0 1 "_law_draw" ["_law_pot_here", "_law_many"] (sp_draw)) : FnG P w K mg base CX0 2 f fd ["_law_pot_here"] (sp_oddn K) := by
  refine Gfun F sc__law_odd_name (fun vs H Q E h => ?_) (fun cdv A outer s H vs Q E hg hr h => ?_)
  · obtain ⟨q, rfl, _⟩ := h
    rfl
  · obtain ⟨q, rfl, P0, k⟩ := h
    refine ⟨_, (pss_cons (ps_set (i := 1) sc__law_odd_name.nd rfl (.inl rfl) (pe_lst (pa_cons pe_str (pa_cons pe_str (pa_cons pe_str (pa_cons pe_str (pa_cons pe_str (pa_cons pe_str (pa_cons pe_str (pa_cons pe_str (pa_cons pe_non (pa_cons pe_int (pa_cons pe_int (pa_cons pe_bl (pa_cons (pe_lst (pa_cons pe_str pa_nil)) (pa_cons (pe_tup (pa_cons pe_str pa_nil)) (pa_cons pe_dnewK (pa_cons pe_str pa_nil))))))))))))))))))
      (pss_one (ps_ret (pe_ix ix_list (pe_op op_cat (pv 1) (pe_lst (pa_cons pe_str pa_nil))) (pe_g C__law_draw (hr.mono (by decide)) hg (pa_cons (pv 0) (pa_cons pe_int pa_nil))) (fun _ _ => rfl))))), ?_⟩
    refine ⟨len_show (Nat.le_of_ble_eq_true rfl), fun m1 nm1 => ?_⟩
    have sm1 : Same H (L2.upd H m1 (.lst [.str (Str.ofString "a")])) := same_new nm1
    have em1 : L2.upd H m1 (.lst [.str (Str.ofString "a")]) m1 = some (.lst [.str (Str.ofString "a")]) := upd_same
    generalize L2.upd H m1 (.lst [.str (Str.ofString "a")]) = G1 at sm1 em1 ⊢
    refine ⟨len_show (Nat.le_of_ble_eq_true rfl), fun m2 nm2 => ?_⟩
    have sm2 : Same G1 (L2.upd G1 m2 (.tup [.str (Str.ofString "a")])) := same_new nm2
    have em2 : L2.upd G1 m2 (.tup [.str (Str.ofString "a")]) m2 = some (.tup [.str (Str.ofString "a")]) := upd_same
    generalize L2.upd G1 m2 (.tup [.str (Str.ofString "a")]) = G2 at sm2 em2 ⊢
    refine fun m3 nm3 => ?_
    have sm3 : Same G2 (L2.upd G2 m3 (.dK [])) := same_new nm3
    have em3 : L2.upd G2 m3 (.dK []) m3 = some (.dK []) := upd_same
    generalize L2.upd G2 m3 (.dK []) = G3 at sm3 em3 ⊢
    refine ⟨len_show (Nat.le_of_ble_eq_true rfl), fun m4 nm4 => ?_⟩
    have sm4 : Same G3 (L2.upd G3 m4 (.lst [.str (Str.ofString ""), .str (Str.ofString "abcdefghijk"), .str (Str.ofString "A"), .str (Str.ofString "aB"), .str (Str.ofString "a1"), .str (Str.ofString "a b"), .str (Str.ofString "a-"), .str (Str.ofString "a\n"), .non, .int 7, .int 0, .bl true, .ref m1, .ref m2, .ref m3, .str (Str.ofString "zz")])) := same_new nm4
    have em4 : L2.upd G3 m4 (.lst [.str (Str.ofString ""), .str (Str.ofString "abcdefghijk"), .str (Str.ofString "A"), .str (Str.ofString "aB"), .str (Str.ofString "a1"), .str (Str.ofString "a b"), .str (Str.ofString "a-"), .str (Str.ofString "a\n"), .non, .int 7, .int 0, .bl true, .ref m1, .ref m2, .ref m3, .str (Str.ofString "zz")]) m4 = some (.lst [.str (Str.ofString ""), .str (Str.ofString "abcdefghijk"), .str (Str.ofString "A"), .str (Str.ofString "aB"), .str (Str.ofString "a1"), .str (Str.ofString "a b"), .str (Str.ofString "a-"), .str (Str.ofString "a\n"), .non, .int 7, .int 0, .bl true, .ref m1, .ref m2, .ref m3, .str (Str.ofString "zz")]) := upd_same
    generalize L2.upd G3 m4 (.lst [.str (Str.ofString ""), .str (Str.ofString "abcdefghijk"), .str (Str.ofString "A"), .str (Str.ofString "aB"), .str (Str.ofString "a1"), .str (Str.ofString "a b"), .str (Str.ofString "a-"), .str (Str.ofString "a\n"), .non, .int 7, .int 0, .bl true, .ref m1, .ref m2, .ref m3, .str (Str.ofString "zz")]) = G4 at sm4 em4 ⊢
    refine ⟨_, rfl, len_show (Nat.le_of_ble_eq_true rfl), fun m5 nm5 => ?_⟩
    have sm5 : Same G4 (L2.upd G4 m5 (.lst [.str (Str.ofString "abcdefghij")])) := same_new nm5
    have em5 : L2.upd G4 m5 (.lst [.str (Str.ofString "abcdefghij")]) m5 = some (.lst [.str (Str.ofString "abcdefghij")]) := upd_same
    generalize L2.upd G4 m5 (.lst [.str (Str.ofString "abcdefghij")]) = G5 at sm5 em5 ⊢
    refine ⟨m4, m5, _, _, rfl, rfl, (sm5 _ _ em4), em5, by rw [sizeLine_eq]; exact Nat.le_of_ble_eq_true rfl, fun m6 nm6 => ?_⟩
    have sm6 : Same G5 (L2.upd G5 m6 (.lst ([.str (Str.ofString ""), .str (Str.ofString "abcdefghijk"), .str (Str.ofString "A"), .str (Str.ofString "aB"), .str (Str.ofString "a1"), .str (Str.ofString "a b"), .str (Str.ofString "a-"), .str (Str.ofString "a\n"), .non, .int 7, .int 0, .bl true, .ref m1, .ref m2, .ref m3, .str (Str.ofString "zz")] ++ [.str (Str.ofString "abcdefghij")]))) := same_new nm6
    have em6 : L2.upd G5 m6 (.lst ([.str (Str.ofString ""), .str (Str.ofString "abcdefghijk"), .str (Str.ofString "A"), .str (Str.ofString "aB"), .str (Str.ofString "a1"), .str (Str.ofString "a b"), .str (Str.ofString "a-"), .str (Str.ofString "a\n"), .non, .int 7, .int 0, .bl true, .ref m1, .ref m2, .ref m3, .str (Str.ofString "zz")] ++ [.str (Str.ofString "abcdefghij")])) m6 = some (.lst ([.str (Str.ofString ""), .str (Str.ofString "abcdefghijk"), .str (Str.ofString "A"), .str (Str.ofString "aB"), .str (Str.ofString "a1"), .str (Str.ofString "a b"), .str (Str.ofString "a-"), .str (Str.ofString "a\n"), .non, .int 7, .int 0, .bl true, .ref m1, .ref m2, .ref m3, .str (Str.ofString "zz")] ++ [.str (Str.ofString "abcdefghij")])) := upd_same
    generalize L2.upd G5 m6 (.lst ([.str (Str.ofString ""), .str (Str.ofString "abcdefghijk"), .str (Str.ofString "A"), .str (Str.ofString "aB"), .str (Str.ofString "a1"), .str (Str.ofString "a b"), .str (Str.ofString "a-"), .str (Str.ofString "a\n"), .non, .int 7, .int 0, .bl true, .ref m1, .ref m2, .ref m3, .str (Str.ofString "zz")] ++ [.str (Str.ofString "abcdefghij")])) = G6 at sm6 em6 ⊢
    have nqm1 : m1 ≠ q := pot_ne P0 nm1
    have fm1 : G6 m1 = some (.lst [.str (Str.ofString "a")]) := (sm6 _ _ (sm5 _ _ (sm4 _ _ (sm3 _ _ (sm2 _ _ em1)))))
    have zm1 : H m1 = none := nm1
    have nqm2 : m2 ≠ q := pot_ne (pot_same P0 sm1) nm2
    have fm2 : G6 m2 = some (.tup [.str (Str.ofString "a")]) := (sm6 _ _ (sm5 _ _ (sm4 _ _ (sm3 _ _ em2))))
    have zm2 : H m2 = none := (same_none sm1 nm2)
    have nqm3 : m3 ≠ q := pot_ne (pot_same P0 (sm1.trans sm2)) nm3
    have fm3 : G6 m3 = some (.dK []) := (sm6 _ _ (sm5 _ _ (sm4 _ _ em3)))
    have zm3 : H m3 = none := (same_none (sm1.trans sm2) nm3)
    have nqm4 : m4 ≠ q := pot_ne (pot_same P0 ((sm1.trans sm2).trans sm3)) nm4
    have fm4 : G6 m4 = some (.lst [.str (Str.ofString ""), .str (Str.ofString "abcdefghijk"), .str (Str.ofString "A"), .str (Str.ofString "aB"), .str (Str.ofString "a1"), .str (Str.ofString "a b"), .str (Str.ofString "a-"), .str (Str.ofString "a\n"), .non, .int 7, .int 0, .bl true, .ref m1, .ref m2, .ref m3, .str (Str.ofString "zz")]) := (sm6 _ _ (sm5 _ _ em4))
    have zm4 : H m4 = none := (same_none ((sm1.trans sm2).trans sm3) nm4)
    have nqm5 : m5 ≠ q := pot_ne (pot_same P0 (((sm1.trans sm2).trans sm3).trans sm4)) nm5
    have fm5 : G6 m5 = some (.lst [.str (Str.ofString "abcdefghij")]) := (sm6 _ _ em5)
    have zm5 : H m5 = none := (same_none (((sm1.trans sm2).trans sm3).trans sm4) nm5)
    have nqm6 : m6 ≠ q := pot_ne (pot_same P0 ((((sm1.trans sm2).trans sm3).trans sm4).trans sm5)) nm6
    have fm6 : G6 m6 = some (.lst ([.str (Str.ofString ""), .str (Str.ofString "abcdefghijk"), .str (Str.ofString "A"), .str (Str.ofString "aB"), .str (Str.ofString "a1"), .str (Str.ofString "a b"), .str (Str.ofString "a-"), .str (Str.ofString "a\n"), .non, .int 7, .int 0, .bl true, .ref m1, .ref m2, .ref m3, .str (Str.ofString "zz")] ++ [.str (Str.ofString "abcdefghij")])) := em6
    have zm6 : H m6 = none := (same_none ((((sm1.trans sm2).trans sm3).trans sm4).trans sm5) nm6)
    have PG := pot_same P0 (((((sm1.trans sm2).trans sm3).trans sm4).trans sm5).trans sm6)
    have bG : But q H G6 := fun b o _ e => (((((sm1.trans sm2).trans sm3).trans sm4).trans sm5).trans sm6) _ _ e
    generalize G6 = HG at fm1 fm2 fm3 fm4 fm5 fm6 PG bG ⊢
    refine ⟨_, rfl, q, 17, rfl, by decide, by decide, PG, fun c H2 c0_ c1_ P2 b2 => ?_⟩
    obtain ⟨cn, rfl⟩ : ∃ cn : Nat, c = (cn : Int) := ⟨c.toNat, by omega⟩
    have hall : DqAll K (nw H H2) ([.str (Str.ofString ""), .str (Str.ofString "abcdefghijk"), .str (Str.ofString "A"), .str (Str.ofString "aB"), .str (Str.ofString "a1"), .str (Str.ofString "a b"), .str (Str.ofString "a-"), .str (Str.ofString "a\n"), .non, .int 7, .int 0, .bl true, .ref m1, .ref m2, .ref m3, .str (Str.ofString "zz")] ++ [.str (Str.ofString "abcdefghij")]) odd_nameD := (DqAll.app ((.cons (.dp (.str _) rfl) (.cons (.dp (.str _) rfl) (.cons (.dp (.str _) rfl) (.cons (.dp (.str _) rfl) (.cons (.dp (.str _) rfl) (.cons (.dp (.str _) rfl) (.cons (.dp (.str _) rfl) (.cons (.dp (.str _) rfl) (.cons (.dp .non rfl) (.cons (.dp (.int _) rfl) (.cons (.dp (.int _) rfl) (.cons (.dp (.bl _) rfl) (.cons (.dp (.lst (.inl (.inl (nw_at zm1 (b2 _ _ nqm1 fm1)))) (.cons (.str _) .nil)) rfl) (.cons (.dp (.tup (.inl (.inl (nw_at zm2 (b2 _ _ nqm2 fm2)))) (.cons (.str _) .nil)) rfl) (.cons (.dic (nw_at zm3 (b2 _ _ nqm3 fm3)) .nil) (.cons (.dp (.str _) rfl) .nil))))))))))))))))) ((.cons (.dp (.str _) rfl) .nil)))
    have hlen : odd_nameD.length = 17 := rfl
    obtain ⟨v, hv⟩ : ∃ v, (([.str (Str.ofString ""), .str (Str.ofString "abcdefghijk"), .str (Str.ofString "A"), .str (Str.ofString "aB"), .str (Str.ofString "a1"), .str (Str.ofString "a b"), .str (Str.ofString "a-"), .str (Str.ofString "a\n"), .non, .int 7, .int 0, .bl true, .ref m1, .ref m2, .ref m3, .str (Str.ofString "zz")] ++ [.str (Str.ofString "abcdefghij")]) : List V)[cn]? = some v := ⟨_, List.getElem?_eq_getElem (by rw [hall.length, hlen]; omega)⟩
    obtain ⟨d, hd, hq⟩ := hall.get hv
    have gd : good d = true := (by decide +kernel : ∀ d ∈ odd_nameD, good d = true) d (List.mem_of_getElem? hd)
    refine ⟨m6, _, _, _, rfl, rfl, .inl (.inl (b2 _ _ nqm6 fm6)), atI_nat (j := cn) hv, ?_⟩
    exact k v d H2 hq (gd_good gd) P2 fun b o n e => b2 _ _ n (bG _ _ n e)

/-! ### _law_odd_weight -/
theorem sc__law_odd_weight : FnScope ["_law_pot_here", "_law_some_here"] ["_law_pot_here"] (defScope s__law_odd_weight) := ⟨rfl, rfl, rfl, by decide +kernel, rfl, by decide +kernel, by decide +kernel⟩
def odd_weightD : List PyData := ([.tuple [.int 0, .int 1], .tuple [.int (-1), .int 2], .tuple [.int 2, .int 4], .tuple [.int 1, .int 0], .tuple [.int 1, .int (-2)], .tuple [.int (-1), .int (-2)], .tuple [.bool true, .int 1], .tuple [.int 1, .bool true], .tuple [.int 1], .tuple [.int 1, .int 2, .int 3], .list [.int 1, .int 2], .str (Str.ofString "1/2")] ++ [.int 5, .int 1, .int 0, .none, .tuple [], .dict [], .tuple [.str (Str.ofString "1"), .int 2], .tuple [.int 1, .none], .tuple [.none, .int 1], .tuple [.tuple [.int 1, .int 1], .int 1], .tuple [.int 0, .int 0], .bool true, .list [], .tuple [.int 3, .int 2], .tuple [.int 1, .int 1]])
def sp_oddw (K : PySem.W.Frag) : Sp := fun vs H Q _ => ∃ (q : Addr), vs = [.ref q] ∧ Pot H q ∧ ∀ (v : V) (d : PyData) (H' : Hp), Dq K (nw H H') v d → Gd d → Pot H' q → But q H H' → Q v H'
theorem ok_oddw {f : Addr} {fd : FuncData} (M : Blt mg) (F : Fun K "_law_odd_weight" "_law_odd_weight" s__law_odd_weight f fd) (C__law_draw : Cal P w K mg base CX0 1 "_law_draw" ["_law_pot_here", "_law_many"] (sp_draw)) : FnG P w K mg base CX0 2 f fd ["_law_pot_here"] (sp_oddw K) := by
  refine Gfun F sc__law_odd_weight (fun vs H Q E h => ?_) (fun cdv A outer s H vs Q E hg hr h => ?_)
  · obtain ⟨q, rfl, _⟩ := h
    rfl
  · obtain ⟨q, rfl, P0, k⟩ := h
    refine ⟨_, (pss_cons (ps_set (i := 1) sc__law_odd_weight.nd rfl (.inl rfl) (pe_lst (pa_cons (pe_tup (pa_cons pe_int (pa_cons pe_int pa_nil))) (pa_cons (pe_tup (pa_cons (pe_un un_neg pe_int) (pa_cons pe_int pa_nil))) (pa_cons (pe_tup (pa_cons pe_int (pa_cons pe_int pa_nil))) (pa_cons (pe_tup (pa_cons pe_int (pa_cons pe_int pa_nil))) (pa_cons (pe_tup (pa_cons pe_int (pa_cons (pe_un un_neg pe_int) pa_nil))) (pa_cons (pe_tup (pa_cons (pe_un un_neg pe_int) (pa_cons (pe_un un_neg pe_int) pa_nil))) (pa_cons (pe_tup (pa_cons pe_bl (pa_cons pe_int pa_nil))) (pa_cons (pe_tup (pa_cons pe_int (pa_cons pe_bl pa_nil))) (pa_cons (pe_tup (pa_cons pe_int pa_nil)) (pa_cons (pe_tup (pa_cons pe_int (pa_cons pe_int (pa_cons pe_int pa_nil)))) (pa_cons (pe_lst (pa_cons pe_int (pa_cons pe_int pa_nil))) (pa_cons pe_str pa_nil))))))))))))))
      (pss_cons (ps_set (i := 1) sc__law_odd_weight.nd rfl (.inl rfl) (pe_op op_cat (pv 1) (pe_lst (pa_cons pe_int (pa_cons pe_int (pa_cons pe_int (pa_cons pe_non (pa_cons (pe_tup pa_nil) (pa_cons pe_dnewK (pa_cons (pe_tup (pa_cons pe_str (pa_cons pe_int pa_nil))) (pa_cons (pe_tup (pa_cons pe_int (pa_cons pe_non pa_nil))) (pa_cons (pe_tup (pa_cons pe_non (pa_cons pe_int pa_nil))) (pa_cons (pe_tup (pa_cons (pe_tup (pa_cons pe_int (pa_cons pe_int pa_nil))) (pa_cons pe_int pa_nil))) (pa_cons (pe_tup (pa_cons pe_int (pa_cons pe_int pa_nil))) (pa_cons pe_bl (pa_cons (pe_lst pa_nil) (pa_cons (pe_tup (pa_cons pe_int (pa_cons pe_int pa_nil))) (pa_cons (pe_tup (pa_cons pe_int (pa_cons pe_int pa_nil))) pa_nil))))))))))))))))))
      (pss_one (ps_ret (pe_ix ix_list (pv 1) (pe_g C__law_draw (hr.mono (by decide)) hg (pa_cons (pv 0) (pa_cons pe_int pa_nil))) (fun _ _ => rfl)))))), ?_⟩
    refine ⟨len_show (Nat.le_of_ble_eq_true rfl), fun m1 nm1 => ?_⟩
    have sm1 : Same H (L2.upd H m1 (.tup [.int 0, .int 1])) := same_new nm1
    have em1 : L2.upd H m1 (.tup [.int 0, .int 1]) m1 = some (.tup [.int 0, .int 1]) := upd_same
    generalize L2.upd H m1 (.tup [.int 0, .int 1]) = G1 at sm1 em1 ⊢
    refine ⟨_, rfl, len_show (Nat.le_of_ble_eq_true rfl), fun m2 nm2 => ?_⟩
    have sm2 : Same G1 (L2.upd G1 m2 (.tup [.int (-1), .int 2])) := same_new nm2
    have em2 : L2.upd G1 m2 (.tup [.int (-1), .int 2]) m2 = some (.tup [.int (-1), .int 2]) := upd_same
    generalize L2.upd G1 m2 (.tup [.int (-1), .int 2]) = G2 at sm2 em2 ⊢
    refine ⟨len_show (Nat.le_of_ble_eq_true rfl), fun m3 nm3 => ?_⟩
    have sm3 : Same G2 (L2.upd G2 m3 (.tup [.int 2, .int 4])) := same_new nm3
    have em3 : L2.upd G2 m3 (.tup [.int 2, .int 4]) m3 = some (.tup [.int 2, .int 4]) := upd_same
    generalize L2.upd G2 m3 (.tup [.int 2, .int 4]) = G3 at sm3 em3 ⊢
    refine ⟨len_show (Nat.le_of_ble_eq_true rfl), fun m4 nm4 => ?_⟩
    have sm4 : Same G3 (L2.upd G3 m4 (.tup [.int 1, .int 0])) := same_new nm4
    have em4 : L2.upd G3 m4 (.tup [.int 1, .int 0]) m4 = some (.tup [.int 1, .int 0]) := upd_same
    generalize L2.upd G3 m4 (.tup [.int 1, .int 0]) = G4 at sm4 em4 ⊢
    refine ⟨_, rfl, len_show (Nat.le_of_ble_eq_true rfl), fun m5 nm5 => ?_⟩
    have sm5 : Same G4 (L2.upd G4 m5 (.tup [.int 1, .int (-2)])) := same_new nm5
    have em5 : L2.upd G4 m5 (.tup [.int 1, .int (-2)]) m5 = some (.tup [.int 1, .int (-2)]) := upd_same
    generalize L2.upd G4 m5 (.tup [.int 1, .int (-2)]) = G5 at sm5 em5 ⊢
    refine ⟨_, rfl, _, rfl, len_show (Nat.le_of_ble_eq_true rfl), fun m6 nm6 => ?_⟩
    have sm6 : Same G5 (L2.upd G5 m6 (.tup [.int (-1), .int (-2)])) := same_new nm6
    have em6 : L2.upd G5 m6 (.tup [.int (-1), .int (-2)]) m6 = some (.tup [.int (-1), .int (-2)]) := upd_same
    generalize L2.upd G5 m6 (.tup [.int (-1), .int (-2)]) = G6 at sm6 em6 ⊢
    refine ⟨len_show (Nat.le_of_ble_eq_true rfl), fun m7 nm7 => ?_⟩
    have sm7 : Same G6 (L2.upd G6 m7 (.tup [.bl true, .int 1])) := same_new nm7
    have em7 : L2.upd G6 m7 (.tup [.bl true, .int 1]) m7 = some (.tup [.bl true, .int 1]) := upd_same
    generalize L2.upd G6 m7 (.tup [.bl true, .int 1]) = G7 at sm7 em7 ⊢
    refine ⟨len_show (Nat.le_of_ble_eq_true rfl), fun m8 nm8 => ?_⟩
    have sm8 : Same G7 (L2.upd G7 m8 (.tup [.int 1, .bl true])) := same_new nm8
    have em8 : L2.upd G7 m8 (.tup [.int 1, .bl true]) m8 = some (.tup [.int 1, .bl true]) := upd_same
    generalize L2.upd G7 m8 (.tup [.int 1, .bl true]) = G8 at sm8 em8 ⊢
    refine ⟨len_show (Nat.le_of_ble_eq_true rfl), fun m9 nm9 => ?_⟩
    have sm9 : Same G8 (L2.upd G8 m9 (.tup [.int 1])) := same_new nm9
    have em9 : L2.upd G8 m9 (.tup [.int 1]) m9 = some (.tup [.int 1]) := upd_same
    generalize L2.upd G8 m9 (.tup [.int 1]) = G9 at sm9 em9 ⊢
    refine ⟨len_show (Nat.le_of_ble_eq_true rfl), fun m10 nm10 => ?_⟩
    have sm10 : Same G9 (L2.upd G9 m10 (.tup [.int 1, .int 2, .int 3])) := same_new nm10
    have em10 : L2.upd G9 m10 (.tup [.int 1, .int 2, .int 3]) m10 = some (.tup [.int 1, .int 2, .int 3]) := upd_same
    generalize L2.upd G9 m10 (.tup [.int 1, .int 2, .int 3]) = G10 at sm10 em10 ⊢
    refine ⟨len_show (Nat.le_of_ble_eq_true rfl), fun m11 nm11 => ?_⟩
    have sm11 : Same G10 (L2.upd G10 m11 (.lst [.int 1, .int 2])) := same_new nm11
    have em11 : L2.upd G10 m11 (.lst [.int 1, .int 2]) m11 = some (.lst [.int 1, .int 2]) := upd_same
    generalize L2.upd G10 m11 (.lst [.int 1, .int 2]) = G11 at sm11 em11 ⊢
    refine ⟨len_show (Nat.le_of_ble_eq_true rfl), fun m12 nm12 => ?_⟩
    have sm12 : Same G11 (L2.upd G11 m12 (.lst [.ref m1, .ref m2, .ref m3, .ref m4, .ref m5, .ref m6, .ref m7, .ref m8, .ref m9, .ref m10, .ref m11, .str (Str.ofString "1/2")])) := same_new nm12
    have em12 : L2.upd G11 m12 (.lst [.ref m1, .ref m2, .ref m3, .ref m4, .ref m5, .ref m6, .ref m7, .ref m8, .ref m9, .ref m10, .ref m11, .str (Str.ofString "1/2")]) m12 = some (.lst [.ref m1, .ref m2, .ref m3, .ref m4, .ref m5, .ref m6, .ref m7, .ref m8, .ref m9, .ref m10, .ref m11, .str (Str.ofString "1/2")]) := upd_same
    generalize L2.upd G11 m12 (.lst [.ref m1, .ref m2, .ref m3, .ref m4, .ref m5, .ref m6, .ref m7, .ref m8, .ref m9, .ref m10, .ref m11, .str (Str.ofString "1/2")]) = G12 at sm12 em12 ⊢
    refine ⟨_, rfl, len_show (Nat.le_of_ble_eq_true rfl), fun m13 nm13 => ?_⟩
    have sm13 : Same G12 (L2.upd G12 m13 (.tup [])) := same_new nm13
    have em13 : L2.upd G12 m13 (.tup []) m13 = some (.tup []) := upd_same
    generalize L2.upd G12 m13 (.tup []) = G13 at sm13 em13 ⊢
    refine fun m14 nm14 => ?_
    have sm14 : Same G13 (L2.upd G13 m14 (.dK [])) := same_new nm14
    have em14 : L2.upd G13 m14 (.dK []) m14 = some (.dK []) := upd_same
    generalize L2.upd G13 m14 (.dK []) = G14 at sm14 em14 ⊢
    refine ⟨len_show (Nat.le_of_ble_eq_true rfl), fun m15 nm15 => ?_⟩
    have sm15 : Same G14 (L2.upd G14 m15 (.tup [.str (Str.ofString "1"), .int 2])) := same_new nm15
    have em15 : L2.upd G14 m15 (.tup [.str (Str.ofString "1"), .int 2]) m15 = some (.tup [.str (Str.ofString "1"), .int 2]) := upd_same
    generalize L2.upd G14 m15 (.tup [.str (Str.ofString "1"), .int 2]) = G15 at sm15 em15 ⊢
    refine ⟨len_show (Nat.le_of_ble_eq_true rfl), fun m16 nm16 => ?_⟩
    have sm16 : Same G15 (L2.upd G15 m16 (.tup [.int 1, .non])) := same_new nm16
    have em16 : L2.upd G15 m16 (.tup [.int 1, .non]) m16 = some (.tup [.int 1, .non]) := upd_same
    generalize L2.upd G15 m16 (.tup [.int 1, .non]) = G16 at sm16 em16 ⊢
    refine ⟨len_show (Nat.le_of_ble_eq_true rfl), fun m17 nm17 => ?_⟩
    have sm17 : Same G16 (L2.upd G16 m17 (.tup [.non, .int 1])) := same_new nm17
    have em17 : L2.upd G16 m17 (.tup [.non, .int 1]) m17 = some (.tup [.non, .int 1]) := upd_same
    generalize L2.upd G16 m17 (.tup [.non, .int 1]) = G17 at sm17 em17 ⊢
    refine ⟨len_show (Nat.le_of_ble_eq_true rfl), fun m18 nm18 => ?_⟩
    have sm18 : Same G17 (L2.upd G17 m18 (.tup [.int 1, .int 1])) := same_new nm18
    have em18 : L2.upd G17 m18 (.tup [.int 1, .int 1]) m18 = some (.tup [.int 1, .int 1]) := upd_same
    generalize L2.upd G17 m18 (.tup [.int 1, .int 1]) = G18 at sm18 em18 ⊢
    refine ⟨len_show (Nat.le_of_ble_eq_true rfl), fun m19 nm19 => ?_⟩
    have sm19 : Same G18 (L2.upd G18 m19 (.tup [.ref m18, .int 1])) := same_new nm19
    have em19 : L2.upd G18 m19 (.tup [.ref m18, .int 1]) m19 = some (.tup [.ref m18, .int 1]) := upd_same
    generalize L2.upd G18 m19 (.tup [.ref m18, .int 1]) = G19 at sm19 em19 ⊢
    refine ⟨len_show (Nat.le_of_ble_eq_true rfl), fun m20 nm20 => ?_⟩
    have sm20 : Same G19 (L2.upd G19 m20 (.tup [.int 0, .int 0])) := same_new nm20
    have em20 : L2.upd G19 m20 (.tup [.int 0, .int 0]) m20 = some (.tup [.int 0, .int 0]) := upd_same
    generalize L2.upd G19 m20 (.tup [.int 0, .int 0]) = G20 at sm20 em20 ⊢
    refine ⟨len_show (Nat.le_of_ble_eq_true rfl), fun m21 nm21 => ?_⟩
    have sm21 : Same G20 (L2.upd G20 m21 (.lst [])) := same_new nm21
    have em21 : L2.upd G20 m21 (.lst []) m21 = some (.lst []) := upd_same
    generalize L2.upd G20 m21 (.lst []) = G21 at sm21 em21 ⊢
    refine ⟨len_show (Nat.le_of_ble_eq_true rfl), fun m22 nm22 => ?_⟩
    have sm22 : Same G21 (L2.upd G21 m22 (.tup [.int 3, .int 2])) := same_new nm22
    have em22 : L2.upd G21 m22 (.tup [.int 3, .int 2]) m22 = some (.tup [.int 3, .int 2]) := upd_same
    generalize L2.upd G21 m22 (.tup [.int 3, .int 2]) = G22 at sm22 em22 ⊢
    refine ⟨len_show (Nat.le_of_ble_eq_true rfl), fun m23 nm23 => ?_⟩
    have sm23 : Same G22 (L2.upd G22 m23 (.tup [.int 1, .int 1])) := same_new nm23
    have em23 : L2.upd G22 m23 (.tup [.int 1, .int 1]) m23 = some (.tup [.int 1, .int 1]) := upd_same
    generalize L2.upd G22 m23 (.tup [.int 1, .int 1]) = G23 at sm23 em23 ⊢
    refine ⟨len_show (Nat.le_of_ble_eq_true rfl), fun m24 nm24 => ?_⟩
    have sm24 : Same G23 (L2.upd G23 m24 (.lst [.int 5, .int 1, .int 0, .non, .ref m13, .ref m14, .ref m15, .ref m16, .ref m17, .ref m19, .ref m20, .bl true, .ref m21, .ref m22, .ref m23])) := same_new nm24
    have em24 : L2.upd G23 m24 (.lst [.int 5, .int 1, .int 0, .non, .ref m13, .ref m14, .ref m15, .ref m16, .ref m17, .ref m19, .ref m20, .bl true, .ref m21, .ref m22, .ref m23]) m24 = some (.lst [.int 5, .int 1, .int 0, .non, .ref m13, .ref m14, .ref m15, .ref m16, .ref m17, .ref m19, .ref m20, .bl true, .ref m21, .ref m22, .ref m23]) := upd_same
    generalize L2.upd G23 m24 (.lst [.int 5, .int 1, .int 0, .non, .ref m13, .ref m14, .ref m15, .ref m16, .ref m17, .ref m19, .ref m20, .bl true, .ref m21, .ref m22, .ref m23]) = G24 at sm24 em24 ⊢
    refine ⟨m12, m24, _, _, rfl, rfl, (sm24 _ _ (sm23 _ _ (sm22 _ _ (sm21 _ _ (sm20 _ _ (sm19 _ _ (sm18 _ _ (sm17 _ _ (sm16 _ _ (sm15 _ _ (sm14 _ _ (sm13 _ _ em12)))))))))))), em24, by rw [sizeLine_eq]; exact Nat.le_of_ble_eq_true rfl, fun m25 nm25 => ?_⟩
    have sm25 : Same G24 (L2.upd G24 m25 (.lst ([.ref m1, .ref m2, .ref m3, .ref m4, .ref m5, .ref m6, .ref m7, .ref m8, .ref m9, .ref m10, .ref m11, .str (Str.ofString "1/2")] ++ [.int 5, .int 1, .int 0, .non, .ref m13, .ref m14, .ref m15, .ref m16, .ref m17, .ref m19, .ref m20, .bl true, .ref m21, .ref m22, .ref m23]))) := same_new nm25
    have em25 : L2.upd G24 m25 (.lst ([.ref m1, .ref m2, .ref m3, .ref m4, .ref m5, .ref m6, .ref m7, .ref m8, .ref m9, .ref m10, .ref m11, .str (Str.ofString "1/2")] ++ [.int 5, .int 1, .int 0, .non, .ref m13, .ref m14, .ref m15, .ref m16, .ref m17, .ref m19, .ref m20, .bl true, .ref m21, .ref m22, .ref m23])) m25 = some (.lst ([.ref m1, .ref m2, .ref m3, .ref m4, .ref m5, .ref m6, .ref m7, .ref m8, .ref m9, .ref m10, .ref m11, .str (Str.ofString "1/2")] ++ [.int 5, .int 1, .int 0, .non, .ref m13, .ref m14, .ref m15, .ref m16, .ref m17, .ref m19, .ref m20, .bl true, .ref m21, .ref m22, .ref m23])) := upd_same
    generalize L2.upd G24 m25 (.lst ([.ref m1, .ref m2, .ref m3, .ref m4, .ref m5, .ref m6, .ref m7, .ref m8, .ref m9, .ref m10, .ref m11, .str (Str.ofString "1/2")] ++ [.int 5, .int 1, .int 0, .non, .ref m13, .ref m14, .ref m15, .ref m16, .ref m17, .ref m19, .ref m20, .bl true, .ref m21, .ref m22, .ref m23])) = G25 at sm25 em25 ⊢
    have nqm1 : m1 ≠ q := pot_ne P0 nm1
    have fm1 : G25 m1 = some (.tup [.int 0, .int 1]) := (sm25 _ _ (sm24 _ _ (sm23 _ _ (sm22 _ _ (sm21 _ _ (sm20 _ _ (sm19 _ _ (sm18 _ _ (sm17 _ _ (sm16 _ _ (sm15 _ _ (sm14 _ _ (sm13 _ _ (sm12 _ _ (sm11 _ _ (sm10 _ _ (sm9 _ _ (sm8 _ _ (sm7 _ _ (sm6 _ _ (sm5 _ _ (sm4 _ _ (sm3 _ _ (sm2 _ _ em1))))))))))))))))))))))))
    have zm1 : H m1 = none := nm1
    have nqm2 : m2 ≠ q := pot_ne (pot_same P0 sm1) nm2
    have fm2 : G25 m2 = some (.tup [.int (-1), .int 2]) := (sm25 _ _ (sm24 _ _ (sm23 _ _ (sm22 _ _ (sm21 _ _ (sm20 _ _ (sm19 _ _ (sm18 _ _ (sm17 _ _ (sm16 _ _ (sm15 _ _ (sm14 _ _ (sm13 _ _ (sm12 _ _ (sm11 _ _ (sm10 _ _ (sm9 _ _ (sm8 _ _ (sm7 _ _ (sm6 _ _ (sm5 _ _ (sm4 _ _ (sm3 _ _ em2)))))))))))))))))))))))
    have zm2 : H m2 = none := (same_none sm1 nm2)
    have nqm3 : m3 ≠ q := pot_ne (pot_same P0 (sm1.trans sm2)) nm3
    have fm3 : G25 m3 = some (.tup [.int 2, .int 4]) := (sm25 _ _ (sm24 _ _ (sm23 _ _ (sm22 _ _ (sm21 _ _ (sm20 _ _ (sm19 _ _ (sm18 _ _ (sm17 _ _ (sm16 _ _ (sm15 _ _ (sm14 _ _ (sm13 _ _ (sm12 _ _ (sm11 _ _ (sm10 _ _ (sm9 _ _ (sm8 _ _ (sm7 _ _ (sm6 _ _ (sm5 _ _ (sm4 _ _ em3))))))))))))))))))))))
    have zm3 : H m3 = none := (same_none (sm1.trans sm2) nm3)
    have nqm4 : m4 ≠ q := pot_ne (pot_same P0 ((sm1.trans sm2).trans sm3)) nm4
    have fm4 : G25 m4 = some (.tup [.int 1, .int 0]) := (sm25 _ _ (sm24 _ _ (sm23 _ _ (sm22 _ _ (sm21 _ _ (sm20 _ _ (sm19 _ _ (sm18 _ _ (sm17 _ _ (sm16 _ _ (sm15 _ _ (sm14 _ _ (sm13 _ _ (sm12 _ _ (sm11 _ _ (sm10 _ _ (sm9 _ _ (sm8 _ _ (sm7 _ _ (sm6 _ _ (sm5 _ _ em4)))))))))))))))))))))
    have zm4 : H m4 = none := (same_none ((sm1.trans sm2).trans sm3) nm4)
    have nqm5 : m5 ≠ q := pot_ne (pot_same P0 (((sm1.trans sm2).trans sm3).trans sm4)) nm5
    have fm5 : G25 m5 = some (.tup [.int 1, .int (-2)]) := (sm25 _ _ (sm24 _ _ (sm23 _ _ (sm22 _ _ (sm21 _ _ (sm20 _ _ (sm19 _ _ (sm18 _ _ (sm17 _ _ (sm16 _ _ (sm15 _ _ (sm14 _ _ (sm13 _ _ (sm12 _ _ (sm11 _ _ (sm10 _ _ (sm9 _ _ (sm8 _ _ (sm7 _ _ (sm6 _ _ em5))))))))))))))))))))
    have zm5 : H m5 = none := (same_none (((sm1.trans sm2).trans sm3).trans sm4) nm5)
    have nqm6 : m6 ≠ q := pot_ne (pot_same P0 ((((sm1.trans sm2).trans sm3).trans sm4).trans sm5)) nm6
    have fm6 : G25 m6 = some (.tup [.int (-1), .int (-2)]) := (sm25 _ _ (sm24 _ _ (sm23 _ _ (sm22 _ _ (sm21 _ _ (sm20 _ _ (sm19 _ _ (sm18 _ _ (sm17 _ _ (sm16 _ _ (sm15 _ _ (sm14 _ _ (sm13 _ _ (sm12 _ _ (sm11 _ _ (sm10 _ _ (sm9 _ _ (sm8 _ _ (sm7 _ _ em6)))))))))))))))))))
    have zm6 : H m6 = none := (same_none ((((sm1.trans sm2).trans sm3).trans sm4).trans sm5) nm6)
    have nqm7 : m7 ≠ q := pot_ne (pot_same P0 (((((sm1.trans sm2).trans sm3).trans sm4).trans sm5).trans sm6)) nm7
    have fm7 : G25 m7 = some (.tup [.bl true, .int 1]) := (sm25 _ _ (sm24 _ _ (sm23 _ _ (sm22 _ _ (sm21 _ _ (sm20 _ _ (sm19 _ _ (sm18 _ _ (sm17 _ _ (sm16 _ _ (sm15 _ _ (sm14 _ _ (sm13 _ _ (sm12 _ _ (sm11 _ _ (sm10 _ _ (sm9 _ _ (sm8 _ _ em7))))))))))))))))))
    have zm7 : H m7 = none := (same_none (((((sm1.trans sm2).trans sm3).trans sm4).trans sm5).trans sm6) nm7)
    have nqm8 : m8 ≠ q := pot_ne (pot_same P0 ((((((sm1.trans sm2).trans sm3).trans sm4).trans sm5).trans sm6).trans sm7)) nm8
    have fm8 : G25 m8 = some (.tup [.int 1, .bl true]) := (sm25 _ _ (sm24 _ _ (sm23 _ _ (sm22 _ _ (sm21 _ _ (sm20 _ _ (sm19 _ _ (sm18 _ _ (sm17 _ _ (sm16 _ _ (sm15 _ _ (sm14 _ _ (sm13 _ _ (sm12 _ _ (sm11 _ _ (sm10 _ _ (sm9 _ _ em8)))))))))))))))))
    have zm8 : H m8 = none := (same_none ((((((sm1.trans sm2).trans sm3).trans sm4).trans sm5).trans sm6).trans sm7) nm8)
    have nqm9 : m9 ≠ q := pot_ne (pot_same P0 (((((((sm1.trans sm2).trans sm3).trans sm4).trans sm5).trans sm6).trans sm7).trans sm8)) nm9
    have fm9 : G25 m9 = some (.tup [.int 1]) := (sm25 _ _ (sm24 _ _ (sm23 _ _ (sm22 _ _ (sm21 _ _ (sm20 _ _ (sm19 _ _ (sm18 _ _ (sm17 _ _ (sm16 _ _ (sm15 _ _ (sm14 _ _ (sm13 _ _ (sm12 _ _ (sm11 _ _ (sm10 _ _ em9))))))))))))))))
    have zm9 : H m9 = none := (same_none (((((((sm1.trans sm2).trans sm3).trans sm4).trans sm5).trans sm6).trans sm7).trans sm8) nm9)
    have nqm10 : m10 ≠ q := pot_ne (pot_same P0 ((((((((sm1.trans sm2).trans sm3).trans sm4).trans sm5).trans sm6).trans sm7).trans sm8).trans sm9)) nm10
    have fm10 : G25 m10 = some (.tup [.int 1, .int 2, .int 3]) := (sm25 _ _ (sm24 _ _ (sm23 _ _ (sm22 _ _ (sm21 _ _ (sm20 _ _ (sm19 _ _ (sm18 _ _ (sm17 _ _ (sm16 _ _ (sm15 _ _ (sm14 _ _ (sm13 _ _ (sm12 _ _ (sm11 _ _ em10)))))))))))))))
    have zm10 : H m10 = none := (same_none ((((((((sm1.trans sm2).trans sm3).trans sm4).trans sm5).trans sm6).trans sm7).trans sm8).trans sm9) nm10)
    have nqm11 : m11 ≠ q := pot_ne (pot_same P0 (((((((((sm1.trans sm2).trans sm3).trans sm4).trans sm5).trans sm6).trans sm7).trans sm8).trans sm9).trans sm10)) nm11
    have fm11 : G25 m11 = some (.lst [.int 1, .int 2]) := (sm25 _ _ (sm24 _ _ (sm23 _ _ (sm22 _ _ (sm21 _ _ (sm20 _ _ (sm19 _ _ (sm18 _ _ (sm17 _ _ (sm16 _ _ (sm15 _ _ (sm14 _ _ (sm13 _ _ (sm12 _ _ em11))))))))))))))
    have zm11 : H m11 = none := (same_none (((((((((sm1.trans sm2).trans sm3).trans sm4).trans sm5).trans sm6).trans sm7).trans sm8).trans sm9).trans sm10) nm11)
    have nqm12 : m12 ≠ q := pot_ne (pot_same P0 ((((((((((sm1.trans sm2).trans sm3).trans sm4).trans sm5).trans sm6).trans sm7).trans sm8).trans sm9).trans sm10).trans sm11)) nm12
    have fm12 : G25 m12 = some (.lst [.ref m1, .ref m2, .ref m3, .ref m4, .ref m5, .ref m6, .ref m7, .ref m8, .ref m9, .ref m10, .ref m11, .str (Str.ofString "1/2")]) := (sm25 _ _ (sm24 _ _ (sm23 _ _ (sm22 _ _ (sm21 _ _ (sm20 _ _ (sm19 _ _ (sm18 _ _ (sm17 _ _ (sm16 _ _ (sm15 _ _ (sm14 _ _ (sm13 _ _ em12)))))))))))))
    have zm12 : H m12 = none := (same_none ((((((((((sm1.trans sm2).trans sm3).trans sm4).trans sm5).trans sm6).trans sm7).trans sm8).trans sm9).trans sm10).trans sm11) nm12)
    have nqm13 : m13 ≠ q := pot_ne (pot_same P0 (((((((((((sm1.trans sm2).trans sm3).trans sm4).trans sm5).trans sm6).trans sm7).trans sm8).trans sm9).trans sm10).trans sm11).trans sm12)) nm13
    have fm13 : G25 m13 = some (.tup []) := (sm25 _ _ (sm24 _ _ (sm23 _ _ (sm22 _ _ (sm21 _ _ (sm20 _ _ (sm19 _ _ (sm18 _ _ (sm17 _ _ (sm16 _ _ (sm15 _ _ (sm14 _ _ em13))))))))))))
    have zm13 : H m13 = none := (same_none (((((((((((sm1.trans sm2).trans sm3).trans sm4).trans sm5).trans sm6).trans sm7).trans sm8).trans sm9).trans sm10).trans sm11).trans sm12) nm13)
    have nqm14 : m14 ≠ q := pot_ne (pot_same P0 ((((((((((((sm1.trans sm2).trans sm3).trans sm4).trans sm5).trans sm6).trans sm7).trans sm8).trans sm9).trans sm10).trans sm11).trans sm12).trans sm13)) nm14
    have fm14 : G25 m14 = some (.dK []) := (sm25 _ _ (sm24 _ _ (sm23 _ _ (sm22 _ _ (sm21 _ _ (sm20 _ _ (sm19 _ _ (sm18 _ _ (sm17 _ _ (sm16 _ _ (sm15 _ _ em14)))))))))))
    have zm14 : H m14 = none := (same_none ((((((((((((sm1.trans sm2).trans sm3).trans sm4).trans sm5).trans sm6).trans sm7).trans sm8).trans sm9).trans sm10).trans sm11).trans sm12).trans sm13) nm14)
    have nqm15 : m15 ≠ q := pot_ne (pot_same P0 (((((((((((((sm1.trans sm2).trans sm3).trans sm4).trans sm5).trans sm6).trans sm7).trans sm8).trans sm9).trans sm10).trans sm11).trans sm12).trans sm13).trans sm14)) nm15
    have fm15 : G25 m15 = some (.tup [.str (Str.ofString "1"), .int 2]) := (sm25 _ _ (sm24 _ _ (sm23 _ _ (sm22 _ _ (sm21 _ _ (sm20 _ _ (sm19 _ _ (sm18 _ _ (sm17 _ _ (sm16 _ _ em15))))))))))
    have zm15 : H m15 = none := (same_none (((((((((((((sm1.trans sm2).trans sm3).trans sm4).trans sm5).trans sm6).trans sm7).trans sm8).trans sm9).trans sm10).trans sm11).trans sm12).trans sm13).trans sm14) nm15)
    have nqm16 : m16 ≠ q := pot_ne (pot_same P0 ((((((((((((((sm1.trans sm2).trans sm3).trans sm4).trans sm5).trans sm6).trans sm7).trans sm8).trans sm9).trans sm10).trans sm11).trans sm12).trans sm13).trans sm14).trans sm15)) nm16
    have fm16 : G25 m16 = some (.tup [.int 1, .non]) := (sm25 _ _ (sm24 _ _ (sm23 _ _ (sm22 _ _ (sm21 _ _ (sm20 _ _ (sm19 _ _ (sm18 _ _ (sm17 _ _ em16)))))))))
    have zm16 : H m16 = none := (same_none ((((((((((((((sm1.trans sm2).trans sm3).trans sm4).trans sm5).trans sm6).trans sm7).trans sm8).trans sm9).trans sm10).trans sm11).trans sm12).trans sm13).trans sm14).trans sm15) nm16)
    have nqm17 : m17 ≠ q := pot_ne (pot_same P0 (((((((((((((((sm1.trans sm2).trans sm3).trans sm4).trans sm5).trans sm6).trans sm7).trans sm8).trans sm9).trans sm10).trans sm11).trans sm12).trans sm13).trans sm14).trans sm15).trans sm16)) nm17
    have fm17 : G25 m17 = some (.tup [.non, .int 1]) := (sm25 _ _ (sm24 _ _ (sm23 _ _ (sm22 _ _ (sm21 _ _ (sm20 _ _ (sm19 _ _ (sm18 _ _ em17))))))))
    have zm17 : H m17 = none := (same_none (((((((((((((((sm1.trans sm2).trans sm3).trans sm4).trans sm5).trans sm6).trans sm7).trans sm8).trans sm9).trans sm10).trans sm11).trans sm12).trans sm13).trans sm14).trans sm15).trans sm16) nm17)
    have nqm18 : m18 ≠ q := pot_ne (pot_same P0 ((((((((((((((((sm1.trans sm2).trans sm3).trans sm4).trans sm5).trans sm6).trans sm7).trans sm8).trans sm9).trans sm10).trans sm11).trans sm12).trans sm13).trans sm14).trans sm15).trans sm16).trans sm17)) nm18
    have fm18 : G25 m18 = some (.tup [.int 1, .int 1]) := (sm25 _ _ (sm24 _ _ (sm23 _ _ (sm22 _ _ (sm21 _ _ (sm20 _ _ (sm19 _ _ em18)))))))
    have zm18 : H m18 = none := (same_none ((((((((((((((((sm1.trans sm2).trans sm3).trans sm4).trans sm5).trans sm6).trans sm7).trans sm8).trans sm9).trans sm10).trans sm11).trans sm12).trans sm13).trans sm14).trans sm15).trans sm16).trans sm17) nm18)
    have nqm19 : m19 ≠ q := pot_ne (pot_same P0 (((((((((((((((((sm1.trans sm2).trans sm3).trans sm4).trans sm5).trans sm6).trans sm7).trans sm8).trans sm9).trans sm10).trans sm11).trans sm12).trans sm13).trans sm14).trans sm15).trans sm16).trans sm17).trans sm18)) nm19
    have fm19 : G25 m19 = some (.tup [.ref m18, .int 1]) := (sm25 _ _ (sm24 _ _ (sm23 _ _ (sm22 _ _ (sm21 _ _ (sm20 _ _ em19))))))
    have zm19 : H m19 = none := (same_none (((((((((((((((((sm1.trans sm2).trans sm3).trans sm4).trans sm5).trans sm6).trans sm7).trans sm8).trans sm9).trans sm10).trans sm11).trans sm12).trans sm13).trans sm14).trans sm15).trans sm16).trans sm17).trans sm18) nm19)
    have nqm20 : m20 ≠ q := pot_ne (pot_same P0 ((((((((((((((((((sm1.trans sm2).trans sm3).trans sm4).trans sm5).trans sm6).trans sm7).trans sm8).trans sm9).trans sm10).trans sm11).trans sm12).trans sm13).trans sm14).trans sm15).trans sm16).trans sm17).trans sm18).trans sm19)) nm20
    have fm20 : G25 m20 = some (.tup [.int 0, .int 0]) := (sm25 _ _ (sm24 _ _ (sm23 _ _ (sm22 _ _ (sm21 _ _ em20)))))
    have zm20 : H m20 = none := (same_none ((((((((((((((((((sm1.trans sm2).trans sm3).trans sm4).trans sm5).trans sm6).trans sm7).trans sm8).trans sm9).trans sm10).trans sm11).trans sm12).trans sm13).trans sm14).trans sm15).trans sm16).trans sm17).trans sm18).trans sm19) nm20)
    have nqm21 : m21 ≠ q := pot_ne (pot_same P0 (((((((((((((((((((sm1.trans sm2).trans sm3).trans sm4).trans sm5).trans sm6).trans sm7).trans sm8).trans sm9).trans sm10).trans sm11).trans sm12).trans sm13).trans sm14).trans sm15).trans sm16).trans sm17).trans sm18).trans sm19).trans sm20)) nm21
    have fm21 : G25 m21 = some (.lst []) := (sm25 _ _ (sm24 _ _ (sm23 _ _ (sm22 _ _ em21))))
    have zm21 : H m21 = none := (same_none (((((((((((((((((((sm1.trans sm2).trans sm3).trans sm4).trans sm5).trans sm6).trans sm7).trans sm8).trans sm9).trans sm10).trans sm11).trans sm12).trans sm13).trans sm14).trans sm15).trans sm16).trans sm17).trans sm18).trans sm19).trans sm20) nm21)
    have nqm22 : m22 ≠ q := pot_ne (pot_same P0 ((((((((((((((((((((sm1.trans sm2).trans sm3).trans sm4).trans sm5).trans sm6).trans sm7).trans sm8).trans sm9).trans sm10).trans sm11).trans sm12).trans sm13).trans sm14).trans sm15).trans sm16).trans sm17).trans sm18).trans sm19).trans sm20).trans sm21)) nm22
    have fm22 : G25 m22 = some (.tup [.int 3, .int 2]) := (sm25 _ _ (sm24 _ _ (sm23 _ _ em22)))
    have zm22 : H m22 = none := (same_none ((((((((((((((((((((sm1.trans sm2).trans sm3).trans sm4).trans sm5).trans sm6).trans sm7).trans sm8).trans sm9).trans sm10).trans sm11).trans sm12).trans sm13).trans sm14).trans sm15).trans sm16).trans sm17).trans sm18).trans sm19).trans sm20).trans sm21) nm22)
    have nqm23 : m23 ≠ q := pot_ne (pot_same P0 (((((((((((((((((((((sm1.trans sm2).trans sm3).trans sm4).trans sm5).trans sm6).trans sm7).trans sm8).trans sm9).trans sm10).trans sm11).trans sm12).trans sm13).trans sm14).trans sm15).trans sm16).trans sm17).trans sm18).trans sm19).trans sm20).trans sm21).trans sm22)) nm23
    have fm23 : G25 m23 = some (.tup [.int 1, .int 1]) := (sm25 _ _ (sm24 _ _ em23))
    have zm23 : H m23 = none := (same_none (((((((((((((((((((((sm1.trans sm2).trans sm3).trans sm4).trans sm5).trans sm6).trans sm7).trans sm8).trans sm9).trans sm10).trans sm11).trans sm12).trans sm13).trans sm14).trans sm15).trans sm16).trans sm17).trans sm18).trans sm19).trans sm20).trans sm21).trans sm22) nm23)
    have nqm24 : m24 ≠ q := pot_ne (pot_same P0 ((((((((((((((((((((((sm1.trans sm2).trans sm3).trans sm4).trans sm5).trans sm6).trans sm7).trans sm8).trans sm9).trans sm10).trans sm11).trans sm12).trans sm13).trans sm14).trans sm15).trans sm16).trans sm17).trans sm18).trans sm19).trans sm20).trans sm21).trans sm22).trans sm23)) nm24
    have fm24 : G25 m24 = some (.lst [.int 5, .int 1, .int 0, .non, .ref m13, .ref m14, .ref m15, .ref m16, .ref m17, .ref m19, .ref m20, .bl true, .ref m21, .ref m22, .ref m23]) := (sm25 _ _ em24)
    have zm24 : H m24 = none := (same_none ((((((((((((((((((((((sm1.trans sm2).trans sm3).trans sm4).trans sm5).trans sm6).trans sm7).trans sm8).trans sm9).trans sm10).trans sm11).trans sm12).trans sm13).trans sm14).trans sm15).trans sm16).trans sm17).trans sm18).trans sm19).trans sm20).trans sm21).trans sm22).trans sm23) nm24)
    have nqm25 : m25 ≠ q := pot_ne (pot_same P0 (((((((((((((((((((((((sm1.trans sm2).trans sm3).trans sm4).trans sm5).trans sm6).trans sm7).trans sm8).trans sm9).trans sm10).trans sm11).trans sm12).trans sm13).trans sm14).trans sm15).trans sm16).trans sm17).trans sm18).trans sm19).trans sm20).trans sm21).trans sm22).trans sm23).trans sm24)) nm25
    have fm25 : G25 m25 = some (.lst ([.ref m1, .ref m2, .ref m3, .ref m4, .ref m5, .ref m6, .ref m7, .ref m8, .ref m9, .ref m10, .ref m11, .str (Str.ofString "1/2")] ++ [.int 5, .int 1, .int 0, .non, .ref m13, .ref m14, .ref m15, .ref m16, .ref m17, .ref m19, .ref m20, .bl true, .ref m21, .ref m22, .ref m23])) := em25
    have zm25 : H m25 = none := (same_none (((((((((((((((((((((((sm1.trans sm2).trans sm3).trans sm4).trans sm5).trans sm6).trans sm7).trans sm8).trans sm9).trans sm10).trans sm11).trans sm12).trans sm13).trans sm14).trans sm15).trans sm16).trans sm17).trans sm18).trans sm19).trans sm20).trans sm21).trans sm22).trans sm23).trans sm24) nm25)
    have PG := pot_same P0 ((((((((((((((((((((((((sm1.trans sm2).trans sm3).trans sm4).trans sm5).trans sm6).trans sm7).trans sm8).trans sm9).trans sm10).trans sm11).trans sm12).trans sm13).trans sm14).trans sm15).trans sm16).trans sm17).trans sm18).trans sm19).trans sm20).trans sm21).trans sm22).trans sm23).trans sm24).trans sm25)
    have bG : But q H G25 := fun b o _ e => ((((((((((((((((((((((((sm1.trans sm2).trans sm3).trans sm4).trans sm5).trans sm6).trans sm7).trans sm8).trans sm9).trans sm10).trans sm11).trans sm12).trans sm13).trans sm14).trans sm15).trans sm16).trans sm17).trans sm18).trans sm19).trans sm20).trans sm21).trans sm22).trans sm23).trans sm24).trans sm25) _ _ e
    generalize G25 = HG at fm1 fm2 fm3 fm4 fm5 fm6 fm7 fm8 fm9 fm10 fm11 fm12 fm13 fm14 fm15 fm16 fm17 fm18 fm19 fm20 fm21 fm22 fm23 fm24 fm25 PG bG ⊢
    refine ⟨_, rfl, _, rfl, q, 27, rfl, by decide, by decide, PG, fun c H2 c0_ c1_ P2 b2 => ?_⟩
    obtain ⟨cn, rfl⟩ : ∃ cn : Nat, c = (cn : Int) := ⟨c.toNat, by omega⟩
    have hall : DqAll K (nw H H2) ([.ref m1, .ref m2, .ref m3, .ref m4, .ref m5, .ref m6, .ref m7, .ref m8, .ref m9, .ref m10, .ref m11, .str (Str.ofString "1/2")] ++ [.int 5, .int 1, .int 0, .non, .ref m13, .ref m14, .ref m15, .ref m16, .ref m17, .ref m19, .ref m20, .bl true, .ref m21, .ref m22, .ref m23]) odd_weightD := (DqAll.app ((.cons (.dp (.tup (.inl (.inl (nw_at zm1 (b2 _ _ nqm1 fm1)))) (.cons (.int _) (.cons (.int _) .nil))) rfl) (.cons (.dp (.tup (.inl (.inl (nw_at zm2 (b2 _ _ nqm2 fm2)))) (.cons (.int _) (.cons (.int _) .nil))) rfl) (.cons (.dp (.tup (.inl (.inl (nw_at zm3 (b2 _ _ nqm3 fm3)))) (.cons (.int _) (.cons (.int _) .nil))) rfl) (.cons (.dp (.tup (.inl (.inl (nw_at zm4 (b2 _ _ nqm4 fm4)))) (.cons (.int _) (.cons (.int _) .nil))) rfl) (.cons (.dp (.tup (.inl (.inl (nw_at zm5 (b2 _ _ nqm5 fm5)))) (.cons (.int _) (.cons (.int _) .nil))) rfl) (.cons (.dp (.tup (.inl (.inl (nw_at zm6 (b2 _ _ nqm6 fm6)))) (.cons (.int _) (.cons (.int _) .nil))) rfl) (.cons (.dp (.tup (.inl (.inl (nw_at zm7 (b2 _ _ nqm7 fm7)))) (.cons (.bl _) (.cons (.int _) .nil))) rfl) (.cons (.dp (.tup (.inl (.inl (nw_at zm8 (b2 _ _ nqm8 fm8)))) (.cons (.int _) (.cons (.bl _) .nil))) rfl) (.cons (.dp (.tup (.inl (.inl (nw_at zm9 (b2 _ _ nqm9 fm9)))) (.cons (.int _) .nil)) rfl) (.cons (.dp (.tup (.inl (.inl (nw_at zm10 (b2 _ _ nqm10 fm10)))) (.cons (.int _) (.cons (.int _) (.cons (.int _) .nil)))) rfl) (.cons (.dp (.lst (.inl (.inl (nw_at zm11 (b2 _ _ nqm11 fm11)))) (.cons (.int _) (.cons (.int _) .nil))) rfl) (.cons (.dp (.str _) rfl) .nil))))))))))))) ((.cons (.dp (.int _) rfl) (.cons (.dp (.int _) rfl) (.cons (.dp (.int _) rfl) (.cons (.dp .non rfl) (.cons (.dp (.tup (.inl (.inl (nw_at zm13 (b2 _ _ nqm13 fm13)))) .nil) rfl) (.cons (.dic (nw_at zm14 (b2 _ _ nqm14 fm14)) .nil) (.cons (.dp (.tup (.inl (.inl (nw_at zm15 (b2 _ _ nqm15 fm15)))) (.cons (.str _) (.cons (.int _) .nil))) rfl) (.cons (.dp (.tup (.inl (.inl (nw_at zm16 (b2 _ _ nqm16 fm16)))) (.cons (.int _) (.cons (.non) .nil))) rfl) (.cons (.dp (.tup (.inl (.inl (nw_at zm17 (b2 _ _ nqm17 fm17)))) (.cons (.non) (.cons (.int _) .nil))) rfl) (.cons (.dp (.tup (.inl (.inl (nw_at zm19 (b2 _ _ nqm19 fm19)))) (.cons (.tup (.inl (.inl (nw_at zm18 (b2 _ _ nqm18 fm18)))) (.cons (.int _) (.cons (.int _) .nil))) (.cons (.int _) .nil))) rfl) (.cons (.dp (.tup (.inl (.inl (nw_at zm20 (b2 _ _ nqm20 fm20)))) (.cons (.int _) (.cons (.int _) .nil))) rfl) (.cons (.dp (.bl _) rfl) (.cons (.dp (.lst (.inl (.inl (nw_at zm21 (b2 _ _ nqm21 fm21)))) .nil) rfl) (.cons (.dp (.tup (.inl (.inl (nw_at zm22 (b2 _ _ nqm22 fm22)))) (.cons (.int _) (.cons (.int _) .nil))) rfl) (.cons (.dp (.tup (.inl (.inl (nw_at zm23 (b2 _ _ nqm23 fm23)))) (.cons (.int _) (.cons (.int _) .nil))) rfl) .nil)))))))))))))))))
    have hlen : odd_weightD.length = 27 := rfl
    obtain ⟨v, hv⟩ : ∃ v, (([.ref m1, .ref m2, .ref m3, .ref m4, .ref m5, .ref m6, .ref m7, .ref m8, .ref m9, .ref m10, .ref m11, .str (Str.ofString "1/2")] ++ [.int 5, .int 1, .int 0, .non, .ref m13, .ref m14, .ref m15, .ref m16, .ref m17, .ref m19, .ref m20, .bl true, .ref m21, .ref m22, .ref m23]) : List V)[cn]? = some v := ⟨_, List.getElem?_eq_getElem (by rw [hall.length, hlen]; omega)⟩
    obtain ⟨d, hd, hq⟩ := hall.get hv
    have gd : good d = true := (by decide +kernel : ∀ d ∈ odd_weightD, good d = true) d (List.mem_of_getElem? hd)
    refine ⟨m25, _, _, _, rfl, rfl, .inl (.inl (b2 _ _ nqm25 fm25)), atI_nat (j := cn) hv, ?_⟩
    exact k v d H2 hq (gd_good gd) P2 fun b o n e => b2 _ _ n (bG _ _ n e)

/-! ### _law_odd_count -/
theorem sc__law_odd_count : FnScope ["_law_pot_here", "_law_some_here"] ["_law_pot_here"] (defScope s__law_odd_count) := ⟨rfl, rfl, rfl, by decide +kernel, rfl, by decide +kernel, by decide +kernel⟩
def odd_countD : List PyData := [.int 0, .int (-1), .bool true, .bool false, .none, .str (Str.ofString "1"), .str (Str.ofString ""), .tuple [.int 1, .int 1], .list [.int 1], .dict [], .int 1, .int 2, .int ((10 ^ Int.toNat 12) - 1), .int (-(10 ^ Int.toNat 12)), .tuple []]
def sp_oddc (K : PySem.W.Frag) : Sp := fun vs H Q _ => ∃ (q : Addr), vs = [.ref q] ∧ Pot H q ∧ ∀ (v : V) (d : PyData) (H' : Hp), Dq K (nw H H') v d → Gd d → Pot H' q → But q H H' → Q v H'
theorem ok_oddc {f : Addr} {fd : FuncData} (M : Blt mg) (F : Fun K "_law_odd_count" "_law_odd_count" s__law_odd_count f fd) (C__law_draw : Cal P w K mg base CX0 1 "_law_draw" ["_law_pot_here", "_law_many"] (sp_draw)) : FnG P w K mg base CX0 2 f fd ["_law_pot_here"] (sp_oddc K) := by
  refine Gfun F sc__law_odd_count (fun vs H Q E h => ?_) (fun cdv A outer s H vs Q E hg hr h => ?_)
  · obtain ⟨q, rfl, _⟩ := h
    rfl
  · obtain ⟨q, rfl, P0, k⟩ := h
    refine ⟨_, (pss_cons (ps_set (i := 1) sc__law_odd_count.nd rfl (.inl rfl) (pe_lst (pa_cons pe_int (pa_cons (pe_un un_neg pe_int) (pa_cons pe_bl (pa_cons pe_bl (pa_cons pe_non (pa_cons pe_str (pa_cons pe_str (pa_cons (pe_tup (pa_cons pe_int (pa_cons pe_int pa_nil))) (pa_cons (pe_lst (pa_cons pe_int pa_nil)) (pa_cons pe_dnewK (pa_cons pe_int (pa_cons pe_int (pa_cons (pe_op op_sub (pe_op op_pow pe_int pe_int) pe_int) (pa_cons (pe_un un_neg (pe_op op_pow pe_int pe_int)) (pa_cons (pe_tup pa_nil) pa_nil)))))))))))))))))
      (pss_one (ps_ret (pe_ix ix_list (pv 1) (pe_g C__law_draw (hr.mono (by decide)) hg (pa_cons (pv 0) (pa_cons pe_int pa_nil))) (fun _ _ => rfl))))), ?_⟩
    refine ⟨_, rfl, len_show (Nat.le_of_ble_eq_true rfl), fun m1 nm1 => ?_⟩
    have sm1 : Same H (L2.upd H m1 (.tup [.int 1, .int 1])) := same_new nm1
    have em1 : L2.upd H m1 (.tup [.int 1, .int 1]) m1 = some (.tup [.int 1, .int 1]) := upd_same
    generalize L2.upd H m1 (.tup [.int 1, .int 1]) = G1 at sm1 em1 ⊢
    refine ⟨len_show (Nat.le_of_ble_eq_true rfl), fun m2 nm2 => ?_⟩
    have sm2 : Same G1 (L2.upd G1 m2 (.lst [.int 1])) := same_new nm2
    have em2 : L2.upd G1 m2 (.lst [.int 1]) m2 = some (.lst [.int 1]) := upd_same
    generalize L2.upd G1 m2 (.lst [.int 1]) = G2 at sm2 em2 ⊢
    refine fun m3 nm3 => ?_
    have sm3 : Same G2 (L2.upd G2 m3 (.dK [])) := same_new nm3
    have em3 : L2.upd G2 m3 (.dK []) m3 = some (.dK []) := upd_same
    generalize L2.upd G2 m3 (.dK []) = G3 at sm3 em3 ⊢
    refine ⟨10, 12, rfl, rfl, ⟨by decide, by decide, by decide⟩, _, _, rfl, rfl, 10, 12, rfl, rfl, ⟨by decide, by decide, by decide⟩, _, rfl, len_show (Nat.le_of_ble_eq_true rfl), fun m4 nm4 => ?_⟩
    have sm4 : Same G3 (L2.upd G3 m4 (.tup [])) := same_new nm4
    have em4 : L2.upd G3 m4 (.tup []) m4 = some (.tup []) := upd_same
    generalize L2.upd G3 m4 (.tup []) = G4 at sm4 em4 ⊢
    refine ⟨len_show (Nat.le_of_ble_eq_true rfl), fun m5 nm5 => ?_⟩
    have sm5 : Same G4 (L2.upd G4 m5 (.lst [.int 0, .int (-1), .bl true, .bl false, .non, .str (Str.ofString "1"), .str (Str.ofString ""), .ref m1, .ref m2, .ref m3, .int 1, .int 2, .int ((10 ^ Int.toNat 12) - 1), .int (-(10 ^ Int.toNat 12)), .ref m4])) := same_new nm5
    have em5 : L2.upd G4 m5 (.lst [.int 0, .int (-1), .bl true, .bl false, .non, .str (Str.ofString "1"), .str (Str.ofString ""), .ref m1, .ref m2, .ref m3, .int 1, .int 2, .int ((10 ^ Int.toNat 12) - 1), .int (-(10 ^ Int.toNat 12)), .ref m4]) m5 = some (.lst [.int 0, .int (-1), .bl true, .bl false, .non, .str (Str.ofString "1"), .str (Str.ofString ""), .ref m1, .ref m2, .ref m3, .int 1, .int 2, .int ((10 ^ Int.toNat 12) - 1), .int (-(10 ^ Int.toNat 12)), .ref m4]) := upd_same
    generalize L2.upd G4 m5 (.lst [.int 0, .int (-1), .bl true, .bl false, .non, .str (Str.ofString "1"), .str (Str.ofString ""), .ref m1, .ref m2, .ref m3, .int 1, .int 2, .int ((10 ^ Int.toNat 12) - 1), .int (-(10 ^ Int.toNat 12)), .ref m4]) = G5 at sm5 em5 ⊢
    have nqm1 : m1 ≠ q := pot_ne P0 nm1
    have fm1 : G5 m1 = some (.tup [.int 1, .int 1]) := (sm5 _ _ (sm4 _ _ (sm3 _ _ (sm2 _ _ em1))))
    have zm1 : H m1 = none := nm1
    have nqm2 : m2 ≠ q := pot_ne (pot_same P0 sm1) nm2
    have fm2 : G5 m2 = some (.lst [.int 1]) := (sm5 _ _ (sm4 _ _ (sm3 _ _ em2)))
    have zm2 : H m2 = none := (same_none sm1 nm2)
    have nqm3 : m3 ≠ q := pot_ne (pot_same P0 (sm1.trans sm2)) nm3
    have fm3 : G5 m3 = some (.dK []) := (sm5 _ _ (sm4 _ _ em3))
    have zm3 : H m3 = none := (same_none (sm1.trans sm2) nm3)
    have nqm4 : m4 ≠ q := pot_ne (pot_same P0 ((sm1.trans sm2).trans sm3)) nm4
    have fm4 : G5 m4 = some (.tup []) := (sm5 _ _ em4)
    have zm4 : H m4 = none := (same_none ((sm1.trans sm2).trans sm3) nm4)
    have nqm5 : m5 ≠ q := pot_ne (pot_same P0 (((sm1.trans sm2).trans sm3).trans sm4)) nm5
    have fm5 : G5 m5 = some (.lst [.int 0, .int (-1), .bl true, .bl false, .non, .str (Str.ofString "1"), .str (Str.ofString ""), .ref m1, .ref m2, .ref m3, .int 1, .int 2, .int ((10 ^ Int.toNat 12) - 1), .int (-(10 ^ Int.toNat 12)), .ref m4]) := em5
    have zm5 : H m5 = none := (same_none (((sm1.trans sm2).trans sm3).trans sm4) nm5)
    have PG := pot_same P0 ((((sm1.trans sm2).trans sm3).trans sm4).trans sm5)
    have bG : But q H G5 := fun b o _ e => ((((sm1.trans sm2).trans sm3).trans sm4).trans sm5) _ _ e
    generalize G5 = HG at fm1 fm2 fm3 fm4 fm5 PG bG ⊢
    refine ⟨_, rfl, _, rfl, q, 15, rfl, by decide, by decide, PG, fun c H2 c0_ c1_ P2 b2 => ?_⟩
    obtain ⟨cn, rfl⟩ : ∃ cn : Nat, c = (cn : Int) := ⟨c.toNat, by omega⟩
    have hall : DqAll K (nw H H2) [.int 0, .int (-1), .bl true, .bl false, .non, .str (Str.ofString "1"), .str (Str.ofString ""), .ref m1, .ref m2, .ref m3, .int 1, .int 2, .int ((10 ^ Int.toNat 12) - 1), .int (-(10 ^ Int.toNat 12)), .ref m4] odd_countD := ((.cons (.dp (.int _) rfl) (.cons (.dp (.int _) rfl) (.cons (.dp (.bl _) rfl) (.cons (.dp (.bl _) rfl) (.cons (.dp .non rfl) (.cons (.dp (.str _) rfl) (.cons (.dp (.str _) rfl) (.cons (.dp (.tup (.inl (.inl (nw_at zm1 (b2 _ _ nqm1 fm1)))) (.cons (.int _) (.cons (.int _) .nil))) rfl) (.cons (.dp (.lst (.inl (.inl (nw_at zm2 (b2 _ _ nqm2 fm2)))) (.cons (.int _) .nil)) rfl) (.cons (.dic (nw_at zm3 (b2 _ _ nqm3 fm3)) .nil) (.cons (.dp (.int _) rfl) (.cons (.dp (.int _) rfl) (.cons (.dp (.int _) rfl) (.cons (.dp (.int _) rfl) (.cons (.dp (.tup (.inl (.inl (nw_at zm4 (b2 _ _ nqm4 fm4)))) .nil) rfl) .nil))))))))))))))))
    have hlen : odd_countD.length = 15 := rfl
    obtain ⟨v, hv⟩ : ∃ v, ([.int 0, .int (-1), .bl true, .bl false, .non, .str (Str.ofString "1"), .str (Str.ofString ""), .ref m1, .ref m2, .ref m3, .int 1, .int 2, .int ((10 ^ Int.toNat 12) - 1), .int (-(10 ^ Int.toNat 12)), .ref m4] : List V)[cn]? = some v := ⟨_, List.getElem?_eq_getElem (by rw [hall.length, hlen]; omega)⟩
    obtain ⟨d, hd, hq⟩ := hall.get hv
    have gd : good d = true := (by decide +kernel : ∀ d ∈ odd_countD, good d = true) d (List.mem_of_getElem? hd)
    refine ⟨m5, _, _, _, rfl, rfl, .inl (.inl (b2 _ _ nqm5 fm5)), atI_nat (j := cn) hv, ?_⟩
    exact k v d H2 hq (gd_good gd) P2 fun b o n e => b2 _ _ n (bG _ _ n e)

end
end Lf

set_option Elab.async false
set_option linter.all false
set_option maxRecDepth 100000
set_option maxHeartbeats 4000000
set_option exponentiation.threshold 3000
namespace Lf
open PySem PySem.Spec PyProof.Rows L2
section
variable {P : Program} {w : World} {K : PySem.W.Frag} {mg : Str → Option Value} {base : Heap} {c0 c1 : Addr}
theorem low_one {a b : Int} (hb : 0 < b) : decide (low a b = (a, b)) = decide (Nat.gcd a.natAbs b.natAbs = 1) := by
  by_cases h : Nat.gcd a.natAbs b.natAbs = 1
  · rw [decide_eq_true h]
    exact decide_eq_true (low_self ⟨hb, h⟩)
  · rw [decide_eq_false h]
    refine decide_eq_false fun z => h ?_
    have := (low_is (n := a) (d := b) (by omega)).2
    rw [z] at this
    exact this
/-! ### _law_is_name -/
theorem sc__law_is_name : FnScope ["_law_thing", "_law_sign"] ["_law_thing"] (defScope s__law_is_name) := ⟨rfl, rfl, rfl, by decide +kernel, rfl, by decide +kernel, by decide +kernel⟩
def sp_lisnm (K : PySem.W.Frag) : Sp := fun vs H Q _ => ∃ (v : V) (d : PyData), vs = [v] ∧ Dq K H v d ∧ (∀ z, d = .str z → z.length ≤ 1000 ∧ ∀ c ∈ z.cps.toList, c < 0x110000) ∧ ∀ H', Same H H' → Q (.bl (isNm d)) H'
theorem filt_empty (l : List Nat) : (l.filter fun c => !inL c).isEmpty = l.all inL := by
  induction l with
  | nil => rfl
  | cons c l ih =>
    rw [List.filter_cons, List.all_cons]
    cases h : inL c
    · rfl
    · simpa [h] using ih
theorem signs_dp {H : Hp} : ∀ l : List Nat, DpAll K H (l.map fun c => V.str ⟨#[c]⟩) (l.map fun c => PyData.str ⟨#[c]⟩)
  | [] => .nil
  | c :: l => .cons (.str _) (signs_dp l)
theorem signs_shaped : ∀ l : List Nat, (∀ c ∈ l, c < 0x110000) → PyData.canLayAll0 (l.map fun c => PyData.str ⟨#[c]⟩) = true ∧ PyData.depthAll (l.map fun c => PyData.str ⟨#[c]⟩) = 0
  | [], _ => ⟨by simp only [List.map_nil, PyData.canLayAll0], by simp only [List.map_nil, PyData.depthAll]⟩
  | c :: l, h => by
    obtain ⟨i1, i2⟩ := signs_shaped l fun x hx => h x (List.mem_cons_of_mem _ hx)
    have hc := h c List.mem_cons_self
    refine ⟨?_, ?_⟩
    · simp only [List.map_cons, PyData.canLayAll0, i1, PyData.canLay0, PyData.strOk, Bool.and_true]
      simp [hc]
    · simp only [List.map_cons, PyData.depthAll, i2, PyData.depth]
      rfl
theorem eqv_nils (l : List Nat) : PyData.eqv (.list (l.map fun c => PyData.str ⟨#[c]⟩)) (.list []) = l.isEmpty := by
  cases l with
  | nil => simp only [List.map_nil, PyData.eqv, PyData.eqvAll, List.isEmpty_nil]
  | cons f r => simp only [List.map_cons, PyData.eqv, PyData.eqvAll, List.isEmpty_cons]

theorem ok_lisnm {f : Addr} {fd : FuncData} (M : Blt mg) (Mx : Bltx mg) (F : Fun K "_law_is_name" "_law_is_name" s__law_is_name f fd) : FnG P w K mg base CX0 2 f fd ["_law_thing"] (sp_lisnm K) := by
  refine Gfun F sc__law_is_name (fun vs H Q E h => ?_) (fun cdv A outer s H vs Q E hg hr h => ?_)
  · obtain ⟨v, d, rfl, _⟩ := h
    rfl
  · obtain ⟨v, d, rfl, hq, hz, k⟩ := h
    refine ⟨_, (pss_cons (ps_if (PW.pt (pw_or (pt_not (pt_val (pe_callB call_isi rfl Mx.isinstance bt_isinstance (pa_cons (pv 0) (pa_cons (pe_bltn (v := .ty "str") rfl M.str bt_str rfl) pa_nil))))) (pw_or1 (pt_not (pt_chain op_le op_le pe_int (pe_callB call_len_str rfl M.len bt_len (pa_cons (pv 0) pa_nil)) pe_int)))))
      (pss_one (ps_ret pe_bl))
      pss_nil)
      (pss_one (ps_ret (pe_cmpR (op_eqD hr.units) (pe_lc (own := [("_law_sign", 1)]) (g := gName 1) rfl sc__law_is_name.nd (pi_str (pv 0)) (blkOk_by (N := ["_law_thing", "_law_sign"]) (sc := defScope s__law_is_name) (by decide +kernel)) (fun _ _ _ _ _ => pg_name (i := 1) sc__law_is_name.nd rfl (Or.inl rfl)) (fun _ _ _ _ _ => (pts_one (pt_cmpR op_notInS (pv 1) pe_str rfl))) (fun _ _ _ _ _ => (pv 1))) (pe_lst pa_nil) (nomark _))))), ?_⟩
    have fin : ∀ b : Bool, isNm d = b → ∀ H', Same H H' → Q (.bl b) H' := fun b e H' s => e ▸ k H' s
    refine ⟨_, rfl, _, _, _, _, _, rfl, .ty "str", hq.ty, kit_ty (ks d), _, rfl, ?_⟩
    by_cases ht : isS d = true
    · rw [ht]
      refine iteF ?_
      obtain ⟨z, rfl, rfl⟩ := hq.txt ht
      obtain ⟨hzl, hzc⟩ := hz z rfl
      have hnm : isNm (.str z) = (decide (1 ≤ z.length) && decide (z.length ≤ 10) && z.cps.toList.all inL) := rfl
      refine ⟨_, rfl, z, rfl, len_show hzl, _, _, rfl, rfl, _, rfl, ?_⟩
      by_cases h0 : (1 : Int) ≤ (z.length : Int)
      · rw [decide_eq_true h0]
        have h1 : 1 ≤ z.length := by omega
        refine iteT ⟨_, _, rfl, rfl, _, rfl, ?_⟩
        by_cases h2 : (z.length : Int) ≤ 10
        · rw [decide_eq_true h2]
          refine iteF ?_
          refine ⟨_, rfl, z, rfl, fun D hD => lc_it walk_str (fun i H' => H' D = some (.lst (((z.cps.toList.take i).filter fun c => !inL c).map fun c => .str ⟨#[c]⟩)) ∧ Same H H') ⟨upd_same, same_new hD⟩ (fun _ _ _ _ => trivial) ?_ ?_⟩
          · rintro i x H1 H2 hi ⟨eD, sm⟩ ⟨rfl, c, hc, rfl⟩
            have hsz : z.cps.size ≤ 1000 := hzl
            have tk : z.cps.toList.take (i + 1) = z.cps.toList.take i ++ [c] := by
              rw [List.take_add_one, Array.getElem?_toList, hc]
              rfl
            refine ⟨rfl, _, rfl, c, lets, rfl, rfl, _, rfl, ?_⟩
            show if (!inL c) = true then _ else _
            cases hL : inL c
            · refine iteT ⟨_, rfl, _, eD, ?_, ?_, fun b o e => ?_⟩
              · rw [List.length_map, sizeLine_eq]
                have := List.length_filter_le (fun c => !inL c) (z.cps.toList.take i)
                rw [List.length_take] at this
                omega
              · rw [upd_same, tk, List.filter_append, List.map_append]
                simp [hL]
              · rw [upd_ne (ne_of_none e hD)]
                exact sm _ _ e
            · refine iteF ⟨?_, sm⟩
              rw [eD, tk, List.filter_append]
              simp [hL]
          · rintro H1 ⟨eD, sm⟩
            rw [show z.cps.size = z.cps.toList.length from Array.length_toList.symm, List.take_length] at eD
            refine ⟨len_show (Nat.le_of_ble_eq_true rfl), fun m nm => ?_⟩
            have ss := signs_shaped (z.cps.toList.filter fun c => !inL c) (fun c hc => hzc c (List.mem_filter.mp hc).1)
            have sh : SeqAt.shaped (.list ((z.cps.toList.filter fun c => !inL c).map fun c => PyData.str ⟨#[c]⟩)) = true := by
              unfold SeqAt.shaped
              rw [Bool.and_eq_true]
              refine ⟨by simp only [PyData.canLay0]; exact ss.1, decide_eq_true ?_⟩
              simp only [PyData.depth, ss.2]
              omega
            refine ⟨_, _, .lst (.inl (.inl (same_new nm _ _ eD))) (signs_dp _), .lst (.inl (.inl upd_same)) .nil, sh, (by decide), ?_⟩
            rw [eqv_nils, filt_empty]
            refine fin _ ?_ _ (sm.trans (same_new nm))
            rw [hnm, decide_eq_true h1, decide_eq_true (show z.length ≤ 10 by omega)]
            rfl
        · rw [decide_eq_false h2]
          refine iteT (fin false ?_ H same_rfl)
          rw [hnm, show decide (z.length ≤ 10) = false from decide_eq_false (by omega), Bool.and_false, Bool.false_and]
      · rw [decide_eq_false h0]
        refine iteF ⟨_, rfl, iteT (fin false ?_ H same_rfl)⟩
        rw [hnm, show decide (1 ≤ z.length) = false from decide_eq_false (by omega), Bool.false_and, Bool.false_and]
    · have ht' : isS d = false := by cases h : isS d <;> first | rfl | exact absurd h ht
      rw [ht']
      exact iteT (fin _ (isNm_no ht') H same_rfl)

/-! ### _law_is_fraction -/
theorem sc__law_is_fraction : FnScope ["_law_thing", "_law_one"] ["_law_thing"] (defScope s__law_is_fraction) := ⟨rfl, rfl, rfl, by decide +kernel, rfl, by decide +kernel, by decide +kernel⟩
def sp_lisfr (K : PySem.W.Frag) : Sp := fun vs H Q _ => ∃ (v : V) (d : PyData), vs = [v] ∧ Dq K H v d ∧ (∀ a b, d = .tuple [.int a, .int b] → Mid b) ∧ ∀ H', Same H H' → Q (.bl (isFr d)) H'
theorem ok_lisfr {f : Addr} {fd : FuncData} (M : Blt mg) (Mx : Bltx mg) (F : Fun K "_law_is_fraction" "_law_is_fraction" s__law_is_fraction f fd) (C__law_is_whole : Cal P w K mg base CX0 1 "_law_is_whole" ["_law_thing"] (sp_whole K)) (C__law_low : Cal P w K mg base CX0 1 "_law_low" ["_law_top", "_law_bottom"] (sp_low)) :
    FnG P w K mg base CX0 2 f fd ["_law_thing"] (sp_lisfr K) := by
  refine Gfun F sc__law_is_fraction (fun vs H Q E h => ?_) (fun cdv A outer s H vs Q E hg hr h => ?_)
  · obtain ⟨v, d, rfl, _⟩ := h
    rfl
  · obtain ⟨v, d, rfl, hq, hmid, k⟩ := h
    refine ⟨_, (pss_cons (ps_if (PW.pt (pw_or (pt_not (pt_val (pe_callB call_isi rfl Mx.isinstance bt_isinstance (pa_cons (pv 0) (pa_cons (pe_bltn (v := .ty "tuple") rfl Mx.tuple bt_tuple rfl) pa_nil))))) (pw_or (pt_cmpR op_ne (pe_callB call_len_seq rfl M.len bt_len (pa_cons (pv 0) pa_nil)) pe_int (nomark _)) (pw_or1 (pt_not (pt_val (pe_callB (cr_all rfl) rfl M.all bt_all (pa_cons (pe_lc (own := [("_law_one", 1)]) (g := gName 1) (tt := tYes) rfl sc__law_is_fraction.nd (pi_tup (pv 0)) (blkOk_by (N := ["_law_thing", "_law_one"]) (sc := defScope s__law_is_fraction) (by decide +kernel)) (fun _ _ _ _ _ => pg_name (i := 1) sc__law_is_fraction.nd rfl (Or.inl rfl)) (fun _ _ _ _ _ => pts_nil) (fun _ _ _ _ _ => (pe_g C__law_is_whole (hr.mono (by decide)) hg (pa_cons (pv 1) pa_nil)))) pa_nil))))))))
      (pss_one (ps_ret pe_bl))
      pss_nil)
      (pss_one (ps_ret (pe_and (pe_cmpR op_gt (pe_ix ix_tup (pv 0) pe_int (fun _ _ => rfl)) pe_int (nomark _)) (pe_one (pe_cmpR (op_eqD hr.units) (pe_g C__law_low (hr.mono (by decide)) hg (pa_cons (pe_ix ix_tup (pv 0) pe_int (fun _ _ => rfl)) (pa_cons (pe_ix ix_tup (pv 0) pe_int (fun _ _ => rfl)) pa_nil))) (pv 0) (nomark _))))))), ?_⟩
    have fin : ∀ b : Bool, isFr d = b → ∀ H', Same H H' → Q (.bl b) H' := fun b e H' s => e ▸ k H' s
    refine ⟨_, rfl, _, _, _, _, _, rfl, .ty "tuple", hq.ty, kit_ty (kt d), _, rfl, ?_⟩
    by_cases ht : isT d = true
    · rw [ht]
      refine iteF ?_
      obtain ⟨a, xs, ds, rfl, rfl, hS, hA, hn⟩ := hq.tup ht
      refine ⟨_, rfl, a, xs, rfl, .inr hS, rfl, _, rfl, ?_⟩
      by_cases hl : xs.length = 2
      · refine iteNS (show V.int (xs.length : Int) = V.int 2 by rw [hl]; rfl) ?_
        obtain ⟨x, y, d1, d2, rfl, rfl, h1, h2⟩ := two_of hA hl
        have hn' : d1.hasDict = false ∧ d2.hasDict = false := by simpa [PyData.hasDictAll] using hn
        have q1 : Dq K H x d1 := .dp h1 hn'.1
        have q2 : Dq K H y d2 := .dp h2 hn'.2
        refine ⟨_, rfl, a, rfl, ⟨_, hS⟩, fun D hD => lc_tup (xs := [x, y]) (fun i H' => H' D = some (.lst (([isW d1, isW d2].take i).map V.bl)) ∧ Same H H') ⟨upd_same, same_new hD⟩ (fun i H' _ h => sm_t h.2 hS) ?_ ?_⟩
        · rintro i u H' hu ⟨eD, sm⟩
          obtain ⟨du, hdu, hw⟩ : ∃ du, Dq K H u du ∧ [isW d1, isW d2][i]? = some (isW du) := by
            match i, hu with
            | 0, hu => cases hu; exact ⟨d1, q1, rfl⟩
            | 1, hu => cases hu; exact ⟨d2, q2, rfl⟩
            | n + 2, hu => simp at hu
          refine ⟨rfl, _, rfl, u, du, rfl, hdu.same sm, _, eD, ?_, ?_, fun b o e => ?_⟩
          · rw [List.length_map, List.length_take, sizeLine_eq]
            have : ([isW d1, isW d2] : List Bool).length = 2 := rfl
            omega
          · rw [upd_same, List.take_add_one, hw, List.map_append]
            rfl
          · rw [upd_ne (ne_of_none e hD)]
            exact sm _ _ e
        · rintro H1 ⟨eD, sm⟩
          refine ⟨D, [isW d1, isW d2], rfl, .inl (.inl eD), _, rfl, ?_⟩
          by_cases w1 : isW d1 = true
          · by_cases w2 : isW d2 = true
            · rw [w1, w2]
              refine iteF ?_
              obtain ⟨p, rfl, rfl⟩ := q1.whole w1
              obtain ⟨b, rfl, rfl⟩ := q2.whole w2
              have hS1 := sm_t sm hS
              refine ⟨_, rfl, a, _, _, _, rfl, rfl, hS1, rfl, _, _, rfl, rfl, _, rfl, ite2 (fun e => ?_) (fun e => ?_)⟩
              · have hb : 0 < b := of_decide_eq_true e
                refine ⟨_, rfl, a, _, _, _, rfl, rfl, hS1, rfl, _, rfl, a, _, _, _, rfl, rfl, hS1, rfl, p, b, rfl, by omega, hmid p b rfl, fun H2 p2 s2 e2 => ?_⟩
                refine ⟨_, rfl, tD (low p b), tD (p, b), dp2' e2, dp2 (sm_t s2 hS1), tD_shaped _, tD_shaped _, ?_⟩
                rw [eqv_tD, low_one hb]
                refine fin _ ?_ H2 (sm.trans s2)
                show (decide (0 < b) && decide (Nat.gcd p.natAbs b.natAbs = 1)) = _
                rw [decide_eq_true hb, Bool.true_and]
              · refine fin _ ?_ H1 sm
                show (decide (0 < b) && decide (Nat.gcd p.natAbs b.natAbs = 1)) = _
                rw [show decide (0 < b) = false from Bool.eq_false_iff.mpr e, Bool.false_and]
            · have w2' : isW d2 = false := by cases h : isW d2 <;> first | rfl | exact absurd h w2
              rw [w2', show List.all [isW d1, false] id = false by simp]
              exact iteT (fin _ (isFr_no (.inr w2')) H1 sm)
          · have w1' : isW d1 = false := by cases h : isW d1 <;> first | rfl | exact absurd h w1
            rw [w1', show List.all [false, isW d2] id = false by simp]
            exact iteT (fin _ (isFr_no (.inl w1')) H1 sm)
      · refine iteN (fun z => hl (by have := V.int.inj z; omega)) ?_
        have hl2 : ds.length ≠ 2 := by rw [← DpAll.len hA]; exact hl
        exact fin _ (isFr_len hl2) H same_rfl
    · have ht' : isT d = false := by cases h : isT d <;> first | rfl | exact absurd h ht
      rw [ht']
      refine iteT ?_
      have : isFr d = false := by
        cases d <;> first | rfl | exact absurd rfl ht
      exact fin _ this H same_rfl

/-! ### _law_is_weight -/
theorem sc__law_is_weight : FnScope ["_law_thing"] ["_law_thing"] (defScope s__law_is_weight) := ⟨rfl, rfl, rfl, by decide +kernel, rfl, by decide +kernel, by decide +kernel⟩
def sp_lisw (K : PySem.W.Frag) : Sp := fun vs H Q _ => ∃ (v : V) (d : PyData), vs = [v] ∧ Dq K H v d ∧ (∀ a b, d = .tuple [.int a, .int b] → Mid b) ∧ ∀ H', Same H H' → Q (.bl (isAb d)) H'
theorem ok_lisw {f : Addr} {fd : FuncData} (F : Fun K "_law_is_weight" "_law_is_weight" s__law_is_weight f fd) (C__law_is_fraction : Cal P w K mg base CX0 2 "_law_is_fraction" ["_law_thing"] (sp_lisfr K)) : FnG P w K mg base CX0 3 f fd ["_law_thing"] (sp_lisw K) := by
  refine Gfun F sc__law_is_weight (fun vs H Q E h => ?_) (fun cdv A outer s H vs Q E hg hr h => ?_)
  · obtain ⟨v, d, rfl, _⟩ := h
    rfl
  · obtain ⟨v, d, rfl, hq, hmid, k⟩ := h
    refine ⟨_, (pss_one (ps_ret (pe_and (pe_g C__law_is_fraction (hr.mono (by decide)) hg (pa_cons (pv 0) pa_nil)) (pe_one (pe_cmpR op_gt (pe_ix ix_tup (pv 0) pe_int (fun _ _ => rfl)) pe_int (nomark _)))))), ?_⟩
    refine ⟨_, rfl, v, d, rfl, hq, hmid, fun H1 s1 => ⟨_, rfl, ite2 (fun e => ?_) (fun e => ?_)⟩⟩
    · obtain ⟨⟨p, rfl, hp⟩, _, _⟩ := fr_at hq e
      refine ⟨_, rfl, p, _, _, _, rfl, rfl, sm_t s1 hp, atI_nat (j := 0) rfl, _, _, rfl, rfl, ?_⟩
      have : isAb d = decide (0 < (top2 d).1) := by unfold isAb; rw [e]; rfl
      have k := k H1 s1
      rw [this] at k
      exact k
    · have : isAb d = false := by unfold isAb; rw [show isFr d = false from Bool.eq_false_iff.mpr e]; rfl
      have k := k H1 s1
      rw [this] at k
      exact k

end
end Lf

set_option Elab.async false
set_option linter.all false
set_option maxRecDepth 100000
/-! Clauses of a try, one after the other, some with a name: each clause by itself (Heard), then the try. -/
namespace Lf
open PySem PySem.Spec PyProof.Rows L2
/-- the exception at a has come to the clauses of a try -/
structure Came (X : Cx) (pins : List (Addr × Obj)) (a : Addr) (cls : Value) (d : Option Addr) (σ : L2.St) (H : Hp) (s : Shared) : Prop where
  own : H a = none
  bare : AllBare s.gens
  way : ∃ (B : Heap) (s₀ : Shared), HandSPX.FlyingZ B (X.env :: X.outer) a (Zc cls d) s.heap ∧ Inv X pins σ H s₀ ∧ (∀ b o, s₀.heap.get? b = some o → b ∉ frs X.stack → B.get? b = some o) ∧ s₀.heap.UpToSlots s.heap ∧ s.os = s₀.os
section
variable {X : Cx} {pins : List (Addr × Obj)} {a : Addr} {cls : Value} {d : Option Addr} {σ : L2.St} {H : Hp} {s : Shared}
theorem Came.inv (c : Came X pins a cls d σ H s) : Inv X pins σ H s := by
  obtain ⟨_, _, g1, g2, g3, g4, g5⟩ := c.way
  exact Inv.landed g2 g3 g1.1 g4 g5 c.bare
/-- landed again: its slots alone are others -/
theorem Came.next (c : Came X pins a cls d σ H s) {B : Heap} {s₀ : Shared} (g2 : Inv X pins σ H s₀) (g3 : ∀ b o, s₀.heap.get? b = some o → b ∉ frs X.stack → B.get? b = some o) (g4 : s₀.heap.UpToSlots s.heap) (g5 : s.os = s₀.os) {h : Heap}
    (f : HandSPX.FlyingZ B (X.env :: X.outer) a (Zc cls d) h) (u : s.heap.UpToSlots h) : Came X pins a cls d σ H { s with heap := h } :=
  ⟨c.own, c.bare, B, s₀, f, g2, g3, Heap.UpToSlots.trans g4 u, g5⟩
/-- what a clause's suite starts from -/
theorem Came.suite (c : Came X pins a cls d σ H s) (lk : X.env.frame = some X.env.locals) : ∃ oe vs, s.heap.get? a = some oe ∧ oe.data = .fields vs ∧ Zc cls d oe ∧ Inv (X.suite a ((a, oe) :: (X.pn ++ pins))) [] σ H s := by
  obtain ⟨B, _, fly, _⟩ := c.way
  obtain ⟨oe, vs, at_, kind, data⟩ := HandSPX.FlyingZ.there fly
  have out : ∀ e ∈ X.env :: X.outer, e.frame ≠ some a := fun e he z => by
    obtain ⟨_, ob, there, bad⟩ := Heap.FunFrames.mem fly.2.2.1 (List.mem_filterMap.mpr ⟨e, he, z⟩)
    rw [at_] at there
    exact bad vs (Option.some.inj there ▸ data)
  refine ⟨oe, vs, at_, data, kind, Inv.suite c.inv at_ data c.own (fun z => out X.env List.mem_cons_self (z ▸ lk)) fun z => ?_⟩
  obtain ⟨e, he, ef⟩ := List.mem_filterMap.mp z
  exact out e (List.mem_cons_of_mem _ he) ef
end
/-- these clauses do as W says with what comes to them -/
def Heard (X : Cx) (hds : List ExceptHandler) (W : Ends → WX) : Prop :=
  ∀ (pins : List (Addr × Obj)) (D : Ends) (a : Addr) (cls : Value) (d : Option Addr) (σ : L2.St) (H : Hp) (s : Shared), Came X pins a cls d σ H s → W D cls d σ H → wpAny (model X.prog X.w) X.A (handleBy (.ref a) X.env hds) (SP X pins D) X.xe s
section
variable {X : Cx} {x n : Str} {c : Value} {i : Nat} {body suite : List Stmt} {b₀ : Stmt} {np pos pos' : Pos} {tb : WX → TS} {ts : Addr → Value → Option Addr → TS} {W : Ends → WX} {Wout : WX} {hds : List ExceptHandler} {h₀ : ExceptHandler}
/-- no clause is left: it goes on -/
theorem heard_nil (hs : X.stack = X.env :: X.outer) (hf : X.env.frame = some X.env.locals) (tk : Takes X Wout) : Heard X [] fun _ => Wout := by
  intro pins D a cls d σ H s ca w
  obtain ⟨B, s₀, fly, g2, g3, g4, g5⟩ := ca.way
  have fly2 := fly
  obtain ⟨_, _, _, _, vs, T, _, _, at_, _, data, tb_, _⟩ := fly2
  apply wpAny_handleBy_nil
  unfold PySem.passOn
  apply wpAny_bind
  apply wpAny_field at_ data tb_
  have last : wpAny (model X.prog X.w) X.A (setFlight (.ref a) X.env.frame) (fun _ s' => wpAny (model X.prog X.w) X.A (throw (.ref a) : Sem Flow) (SP X pins D) X.xe s') X.xe s := by
    rw [hf]
    apply HandSPX.setFlight_upZ fly
    intro h held u
    apply wpAny_throw
    apply tk
    exact ⟨a, B, s₀, pins, σ, H, cls, d, rfl, g2, g3, Heap.UpToSlots.trans g4 u, Or.inr (Or.inr (hs ▸ held)), ca.own, g5, ca.bare, w⟩
  have some_ : ¬ ((Value.ref T == Value.none) = true) := by simp
  rw [if_neg some_]
  first
    | exact wpAny_bind last
    | exact wpAny_bind (wpAny_pure (wpAny_bind last))
/-- the class that a clause names is told -/
theorem Names.told (hc : Names X x c) {a : Addr} {q : Addr × Obj} {pn : List (Addr × Obj)} {σ : L2.St} {H : Hp} {s : Shared} (I : Inv (X.suite a (q :: pn)) [] σ H s) {Q E : Value → Shared → Prop} (k : Q c s) : wpAny (model X.prog X.w) (X.A.mark (some (.ref a))) (eval (.Name x np) X.env) Q E s := by
  obtain ⟨g, nd, m | ⟨m, b, nn⟩⟩ := hc
  · exact ld_glob (X := X.suite a (q :: pn)) I g m k nd
  · exact ld_blt (X := X.suite a (q :: pn)) I g m b k nn nd
/-- whether it is of the class -/
theorem Came.test {pins : List (Addr × Obj)} {a : Addr} {cls : Value} {d : Option Addr} {σ : L2.St} {H : Hp} {s : Shared} (ca : Came X pins a cls d σ H s) {b : Bool} (e : PySem.W.exmOne X.K cls c = some b) : PySem.W.Looks (model X.prog X.w) s.heap (excMatches (.ref a) c) b := by
  obtain ⟨B, _, fly, _⟩ := ca.way
  obtain ⟨oe, _, at_, kind, _⟩ := HandSPX.FlyingZ.there fly
  refine PySem.W.exm_one ca.inv.kIn (fun A Q E s' keep q => ?_) e
  have at' := keep _ _ at_
  apply wpAny_typeOf_ref at'
  rwa [kind.1]
/-- except x as n: .. -/
theorem heard_as (hf : X.env.frame = some X.env.locals) (hN : X.N.Nodup) (hi : X.N[i]? = some n) (hln : X.env.kindOf n = some .local) (hc : Names X x c) (ok : X.Ok)
    (hsu : ∀ (a : Addr) (oe : Obj) (cls : Value) (d : Option Addr) (pn : List (Addr × Obj)), Zc cls d oe → (∃ vs, oe.data = .fields vs) → PSs (X.suite a ((a, oe) :: pn)) (b₀ :: suite) (ts a cls d)) (r : Heard X hds W) :
    Heard X (.ExceptHandler (some (.Name x np)) (some n) (b₀ :: suite) pos' :: hds) fun D => wAs X.K c i ts (W D) D := by
  intro pins D a cls d σ H s ca ⟨b, eb, yes, no⟩
  obtain ⟨oe, vs, _, _, _, S⟩ := ca.suite hf
  apply wpAny_handleBy_cons
  case hnb => exact fun z => nomatch z
  apply codeAny_handlers_test
  apply Names.told hc S
  apply PySem.W.Looks.here (ca.test eb)
  cases b
  · exact r pins D a cls d σ H s ca (no rfl)
  apply codeAny_handlers_suite_as
  obtain ⟨B, s₀, fly, g2, g3, g4, g5⟩ := ca.way
  apply HandSPX.lands_againZ fly
  intro h fly' u
  have ca' := ca.next g2 g3 g4 g5 fly' u
  obtain ⟨oe', vs', _, data', kind', S'⟩ := ca'.suite hf
  apply store_ok (v := .ref a) S' hN hi (.inl hln) rfl _ (.inr hln)
  intro s5 I5
  have run := (hsu a oe' cls d (X.pn ++ pins) kind' ⟨vs', data'⟩).run [] s5 _ H _ I5 (yes rfl a ca.own)
  refine wpAny_mono run (fun f s6 told => ?_) fun _ _ z => False.elim z
  have clean : ∀ {σ6 : L2.St} {H6 : Hp} {Q : Shared → Prop}, Inv (X.suite a ((a, oe') :: (X.pn ++ pins))) [] σ6 H6 s6 → (∀ s7, Inv X pins (σ6.set i none) H6 s7 → Q s7) → wpAny (model X.prog X.w) X.A (do bindName X.env n .none; unbindBehindTheSuite X.env n pos') (fun _ s7 => Q s7) X.xe s6 :=
    fun I6 k => gone_ok (Inv.unsuite I6 ok) hN hi hln k
  cases f
  case ret u =>
    obtain ⟨v, σ6, H6, I6, rv_, q⟩ := told
    exact clean I6 fun _ I7 => ⟨v, _, H6, I7, rv_, q⟩
  all_goals
    obtain ⟨σ6, H6, I6, q⟩ := told
    exact clean I6 fun _ I7 => ⟨_, H6, I7, q⟩
/-- what becomes of an exception of the body -/
def Caught (X : Cx) (hds : List ExceptHandler) (Q : Flow → Shared → Prop) : Value → Shared → Prop := fun u s' =>
  wpAny (model X.prog X.w) X.A (noteFrame u X.env) (fun _ s1 => wpAny (model X.prog X.w) X.A (setFlight u none) (fun _ s2 => wpAny (model X.prog X.w) X.A (handleBy u X.env hds) Q X.xe s2) X.xe s1) X.xe s'
theorem caught_of {pins : List (Addr × Obj)} {D : Ends} {l : List ExceptHandler} (hs : X.stack = X.env :: X.outer) (hf : X.env.frame = some X.env.locals) (ok : X.Ok) (hh : Heard X l W) : Takes (X.tr (X.pn ++ pins) (Caught X l (SP X pins D))) (W D) := by
  intro u s' came
  obtain ⟨a, B, s₀, pn', σ', H', cls, d, rfl, I', g3, g4, sky, own, g5, ag, w⟩ := came
  have sky' : Sky B (X.env :: X.outer) a (Zc cls d) X.env.locals s'.heap := by
    rw [← hs]
    exact sky
  have fr : X.A.frames = some (X.env :: X.outer) := by rw [ok.frames, hs]
  exact Sky.land Zc.steady fr hf sky' fun h fly u => hh pins D a cls d σ' H' _ ⟨own, ag, B, s₀, fly, Inv.ofTry I' ok, g3, Heap.UpToSlots.trans g4 u, g5⟩ w
/-- a try by its clauses -/
theorem ps_try_heard (hs : X.stack = X.env :: X.outer) (hf : X.env.frame = some X.env.locals)
    (hb : ∀ (W : WX) (pn : List (Addr × Obj)) (xe : Value → Shared → Prop), Takes (X.tr pn xe) W → PassesOwn (model X.prog X.w) X.A X.env xe → PSs (X.tr pn xe) body (tb W))
    (hh : X.Ok → Heard X (h₀ :: hds) W) : PS X (.Try body (h₀ :: hds) [] [] pos) fun D σ H => tb (W D) D σ H := by
  constructor
  intro pins s σ H D I h
  have ok := I.ok
  apply wpAny_Try_except
  have run := (hb (W D) (X.pn ++ pins) (Caught X (h₀ :: hds) (SP X pins D)) (caught_of hs hf ok (hh ok)) PassesOwn.looking).run [] s σ H D (I.toTry _) h
  refine wpAny_mono run (fun f s1 told => ?_) fun _ _ z => z
  cases f
  case next =>
    obtain ⟨σ1, H1, I1, q⟩ := told
    exact wpAny_execs_nil ⟨σ1, H1, Inv.ofTry I1 ok, q⟩
  case ret u =>
    obtain ⟨v, σ1, H1, I1, rv_, q⟩ := told
    exact ⟨v, σ1, H1, Inv.ofTry I1 ok, rv_, q⟩
  all_goals
    obtain ⟨σ1, H1, I1, q⟩ := told
    exact ⟨σ1, H1, Inv.ofTry I1 ok, q⟩
end
end Lf

set_option Elab.async false
set_option linter.all false
set_option maxRecDepth 100000
set_option maxHeartbeats 4000000
/-! max of a tuple of two whole numbers; isinstance of a caught error and a tuple of classes. -/
namespace Lf
open PySem PySem.Spec PyProof.Rows L2
def rMaxT2 (K : PySem.W.Frag) : List V → Hp → VK → Prop := fun xs H Q => ∃ (p : Addr) (i j : Int), xs = [.ref p] ∧ SqT K H p [.int i, .int j] ∧ ∀ m : Int, i ≤ m → j ≤ m → Q (.int m) H
theorem call_maxT2 {X : Cx} (hc : X.calm = true) {k : Nat} (hr : Room k X.A) : CallR X (.builtin "max") (rMaxT2 X.K) := by
  intro pins s σ H xs us Q I r h
  obtain ⟨p, i, j, rfl, hS, q⟩ := h
  obtain ⟨its, rv, ht, _⟩ := I.tuple hS
  rw [Vals.ref1 r]
  have hu := hr.units
  have rd : ∃ as, ReadsAll s.heap its [PyData.int i, PyData.int j] as := by
    cases rv with
    | cons r1 rv =>
      cases rv with
      | cons r2 rv =>
        cases rv
        obtain ⟨t1, rfl⟩ := r1
        obtain ⟨t2, rfl⟩ := r2
        exact ⟨_, .cons (.int i t1) (.cons (.int j t2) .nil)⟩
  obtain ⟨as, rd⟩ := rd
  have al : PySem.W.AlikeAll [PyData.int i, PyData.int j] := by
    refine ⟨fun x hx y hy => ?_, fun x hx => ?_⟩
    · simp only [List.mem_cons, List.not_mem_nil, or_false] at hx hy
      rcases hx with rfl | rfl <;> rcases hy with rfl | rfl <;> rfl
    · simp only [List.mem_cons, List.not_mem_nil, or_false] at hx
      rcases hx with rfl | rfl <;> exact fun z => nomatch z
  refine PySem.W.max_tuple_data (x := .int i) (xs := [.int j]) (as := as) (I.ok.hd hc) ht (by simpa using rd) al (by simp only [PyData.depthAll, PyData.depth]; omega) fun n v h' tk bs hn rr hk => ?_
  have e : PySem.W.maxD (.int i) [PyData.int j] = .int (max i j) := PySem.W.maxD_ints i [j]
  rw [e] at rr
  cases rr with
  | int _ t => exact ⟨.int (max i j), H, I.kept hk, ⟨_, rfl⟩, q _ (by omega) (by omega)⟩
/-- isinstance(e, (C1, ..)), e the error that the suite holds -/
def rIsXT (K : PySem.W.Frag) (D a : Addr) (cls : Value) (d : Option Addr) : List V → Hp → VK → Prop := fun xs H Q => cls = .ref D ∧ (d = none ∨ ∃ (dd : Addr) (fs : List (Str × V)), d = some dd ∧ H dd = some (.xd fs)) ∧
  ∃ (tp : Addr) (cs : List V) (ws : List Value) (b : Bool), xs = [.ref a, .ref tp] ∧ H tp = some (.tup cs) ∧ Paired ClsV cs ws ∧ PySem.W.kitAny K (.ref D) ws = some b ∧ Q (.bl b) H
theorem call_isXT {X : Cx} {a D : Addr} {oe : Obj} {cls : Value} {d : Option Addr} {pn : List (Addr × Obj)} (C : ExcC X.K D) (hz : Zc cls d oe) (hf : ∃ vs, oe.data = .fields vs) : CallR (X.suite a ((a, oe) :: pn)) (.builtin "isinstance") (rIsXT X.K D a cls d) := by
  intro pins s σ H xs us Q I r h
  obtain ⟨ec, hd, tp, cs, ws, b, rfl, hT, hcv, e, q⟩ := h
  obtain ⟨u1, u2, rfl, r1, r2⟩ := vals2 r
  cases (show u2 = Value.ref tp from r2)
  cases (show u1 = Value.ref a from r1)
  obtain ⟨_, its, rv, o, h1, h2, n, h3⟩ := (show ObjOk X.prog X.w H s.heap tp (.tup cs) from I.hok tp _ hT)
  have e3 := ClsV.all hcv rv
  subst e3
  obtain ⟨oc, od0, dt, sl⟩ := o
  simp only at h2 h3
  subst h2 h3
  obtain ⟨hget, _⟩ := I.pin (a, oe) (List.mem_append.mpr (.inl List.mem_cons_self))
  obtain ⟨vs, hv⟩ := hf
  have J : ∃ od, PySem.W.InstAt s.heap a oe D od := by
    rcases hd with hd | ⟨dd, fs, hd, hH⟩
    · exact ⟨none, hget, by rw [hz.1, ec], by unfold PySem.W.notCls; rw [hv] <;> rfl, by rw [hz.2, hd]; trivial⟩
    · have hx : ObjOk X.prog X.w H s.heap dd (.xd fs) := I.hok dd _ hH
      obtain ⟨o, ho⟩ := objOk_get hx
      exact ⟨some o, hget, by rw [hz.1, ec], by unfold PySem.W.notCls; rw [hv] <;> rfl, by rw [hz.2, hd]; exact ho⟩
  obtain ⟨od, J⟩ := J
  exact PySem.W.kia_tup (kit_own (od := od) C) I.kIn J h1 e (fun z => nomatch z) fun tk => ⟨.bl b, H, I.kept (t' := tk) fun _ _ z => z, rfl, q⟩
end Lf

set_option Elab.async false
set_option linter.all false
set_option maxRecDepth 100000
set_option maxHeartbeats 4000000
/-! isinstance of a caught error, the part K given. -/
namespace Lf
open PySem PySem.Spec PyProof.Rows L2
theorem call_isXK {X : Cx} {K : PySem.W.Frag} {a D : Addr} {oe : Obj} {cls : Value} {d : Option Addr} {pn : List (Addr × Obj)} (C : ExcC K D) (hz : Zc cls d oe) (hf : ∃ vs, oe.data = .fields vs) (hK : X.K = K := by rfl) : CallR (X.suite a ((a, oe) :: pn)) (.builtin "isinstance") (rIsX K D a cls d) := by
  subst hK
  exact call_isX C hz hf
theorem call_isXTK {X : Cx} {K : PySem.W.Frag} {a D : Addr} {oe : Obj} {cls : Value} {d : Option Addr} {pn : List (Addr × Obj)} (C : ExcC K D) (hz : Zc cls d oe) (hf : ∃ vs, oe.data = .fields vs) (hK : X.K = K := by rfl) : CallR (X.suite a ((a, oe) :: pn)) (.builtin "isinstance") (rIsXT K D a cls d) := by
  subst hK
  exact call_isXT C hz hf
end Lf

set_option Elab.async false
set_option linter.all false
set_option maxRecDepth 100000
set_option maxHeartbeats 4000000
/-! A caught error that is handed to a def: the def stands while the error is held; what is known of the error is told at the reading. -/
namespace Lf
open PySem PySem.Spec PyProof.Rows L2
open L2H (RoomH PinOk cxH inv_startH)
section
variable {P : Program} {w : World} {K : PySem.W.Frag} {mg : Str → Option Value} {base : Heap} {k : Nat} {f : Addr} {fd : FuncData} {ps : List Str} {sp : Addr × Obj → Sp}
/-- a def's promise where an error is held -/
structure FnL (P : Program) (w : World) (K : PySem.W.Frag) (mg : Str → Option Value) (base : Heap) (k : Nat) (f : Addr) (fd : FuncData) (ps : List Str) (sp : Addr × Obj → Sp) : Prop where
  size : ∀ p vs H Q E, sp p vs H Q E → vs.length = ps.length
  goes : ∀ (p : Addr × Obj) (B : Around) (out : List Env) (s : Shared) (H : Hp) (ar : Args) (us : List Value) (vs : List V) (Q : VK) (E : XK),
    RoomH k B → B.guards = some [] → PinOk out H s p → Env0 P w K mg base B out s H → BindsTo s fd ar (ps.zip us) → Vals vs us → sp p vs H Q E →
      codeAny (model P w) B (.call (.ref f) ar) (CR CX0 out P w H s Q E) s
theorem Lfun {x qual : Str} {st : Stmt} {N : List Str} (F : Fun K x qual st f fd) (S : FnScope N ps (defScope st)) (size : ∀ p vs H Q E, sp p vs H Q E → vs.length = ps.length)
    (body : ∀ (cdv : Value) (B : Around) (out : List Env) (s : Shared) (H : Hp) (vs : List V) (Q : VK) (E : XK) (p : Addr × Obj), B.guards = some [] →
      RoomH k (B.deeper (envOfC qual (defScope st) s.heap.objs.size f cdv)) → sp p vs H Q E →
      ∃ t, PSs (cxH CX0 P w K mg base N qual (defScope st) f cdv B out s H E p) (defBody st) t ∧
        t { nx := fun _ H' => Q .non H', rt := Q } (start N vs) H) : FnL P w K mg base (k + 1) f fd ps sp := by
  obtain ⟨oc, od, kV, doc, pm, an, cdv, ct, osl, rfl, lk, hcd⟩ := F.ex
  refine ⟨size, fun p B out s H ar us vs Q E hr hg hp e0 hb r hs => ?_⟩
  have old : ∀ b o, base.get? b = some o → s.heap.get? b = some o := fun b o e => (e0.bs b o e).1
  have kin : K.In s.heap := e0.mod.kin.keeps old
  refine codeAny_call_function hr.depth (kin _ _ lk) rfl S.co S.gen rfl (PySem.W.codeRec_of kin hcd) (hb _ _ _ _ ?_)
  refine wpAny_newFunctionEnv_cells S.kind (fun ⟨n, v⟩ hy => ?_) fun env he s1 x => ?_
  · rcases S.par n (List.of_mem_zip hy).1 with q | q
    · exact Or.inl q
    · exact Or.inr ⟨q, PySem.W.cellsFrom_some _ _ _ (Or.inl q)⟩
  · subst he
    refine ⟨(e0.mod.nolimit.keeps old).keeps x.toInCall.keep, codeAny_func ?_⟩
    obtain ⟨t, ht, hq⟩ := body cdv B out s H vs Q E p hg (hr.deeper _) hs
    have I := inv_startH (CX := CX0) (N := N) (qual := qual) (cd := cdv) (E := E) S hp e0 (size _ _ _ _ _ hs) r x
    refine wpAny_mono (ht.run [] s1 (start N vs) H _ I hq) (fun fl s' hs' => ?_) fun e s' z => z
    cases fl with
    | ret u =>
      obtain ⟨v, σ', H', J, rv, q⟩ := hs'
      exact ⟨v, H', J.os, J.bare, J.base, J.hok, rv, q⟩
    | next =>
      obtain ⟨σ', H', J, q⟩ := hs'
      exact ⟨V.non, H', J.os, J.bare, J.base, J.hok, rfl, q⟩
    | brk =>
      obtain ⟨_, _, _, q⟩ := hs'
      exact q.elim
    | cont =>
      obtain ⟨_, _, _, q⟩ := hs'
      exact q.elim
/-- a def of the module's name x -/
structure CalL (P : Program) (w : World) (K : PySem.W.Frag) (mg : Str → Option Value) (base : Heap) (k : Nat) (x : Str) (ps : List Str) (sp : Addr × Obj → Sp) : Prop where
  ex : ∃ (f : Addr) (fd : FuncData), FnL P w K mg base k f fd ps sp ∧ (∀ (s : Shared) (us : List Value), us.length = ps.length → BindsTo s fd ⟨us, []⟩ (ps.zip us)) ∧ mg x = some (.ref f) ∧ PySem.W.keepIn K (.ref f) = true
end
section
variable {X : Cx} {K : PySem.W.Frag} {k : Nat} {f : Addr} {fd : FuncData} {ps : List Str} {sp : Addr × Obj → Sp} {x : Str} {pos q : Pos} {e : Expr} {es : List Expr} {t : TA} {p : Addr × Obj}
theorem pin_ok {pins : List (Addr × Obj)} {σ : L2.St} {H : Hp} {s : Shared} (I : Inv X pins σ H s) (hp : p ∈ X.pn) : PinOk X.stack H s p := by
  obtain ⟨h1, h2, h3, h4, h5⟩ := I.pin p (List.mem_append.mpr (.inl hp))
  refine ⟨h1, h2, fun z => ?_, h5⟩
  rcases I.ok.stk with e | ⟨e, fr⟩
  · rw [e] at z
    exact h4 z
  · rw [e] at z
    obtain ⟨en, he, ef⟩ := List.mem_filterMap.mp z
    rcases List.mem_cons.mp he with rfl | he
    · rw [fr] at ef
      exact h3 (Option.some.inj ef).symm
    · exact h4 (List.mem_filterMap.mpr ⟨en, he, ef⟩)
/-- room where an error is held -/
theorem hot {A : Around} {v : Option Value} {j k : Nat} (h : Room k A) (hj : j ≤ k) : RoomH j (A.mark v) := let r := (L2H.roomH_of h).mono hj; ⟨r.dp, r.un⟩
/-- f(e, ..) while the error is held -/
def tGL (p : Addr × Obj) (sp : Addr × Obj → Sp) (t : TA) : TE := fun σ H Q => t σ H fun vs H1 => sp p vs H1 Q E0
theorem pe_lend (hp : p ∈ X.pn) (C : CalL X.prog X.w X.K X.mg X.base k x ps sp) (hr : RoomH k X.A) (hG : X.A.guards = some []) (ha : PA X (e :: es) t) (hg : Gl X x := by rfl)
    (hdb : (x == ("__debug__" : Str)) = false := by decide) (he : starEach (e :: es) X.env = (false, eval e X.env) :: starEach es X.env := by rfl)
    (hpl : (backTo pos (starEach es X.env)).any (·.1) = false := by rfl) : PE X (.Call (.Name x q) (e :: es) [] pos) (tGL p sp t) := by
  obtain ⟨f, fd, F, hb, hm, hk⟩ := C.ex
  refine ⟨fun pins s σ H Q I h => wpAny_Call_Name_kw (ld_glob I hg hm (PySem.W.callWith_K (h₀ := X.base) I.ok.mod.kin hk
    (thn (ha.run pos pins s σ H _ I h) fun us s1 ⟨vs, H1, I1, r, q⟩ => ⟨I1.kIn, ?_⟩) he hpl) hdb)⟩
  refine wpAny_call (codeAny_mono (F.goes p X.A X.stack s1 H1 ⟨us, []⟩ us vs _ E0 hr hG (pin_ok I1 hp) I1.env0 (hb s1 us (r.length.symm.trans (F.size _ _ _ _ _ q))) r q) fun z s' hq => ?_)
  cases z with
  | error e => exact hq.elim
  | ok fl =>
    cases fl with
    | ret u => exact I1.after hq
    | next => exact False.elim hq
    | brk => exact False.elim hq
    | cont => exact False.elim hq
/-- what is known of a held error: its class, its fields -/
def Er (H : Hp) (p : Addr × Obj) (D : Addr) (fs : Option (List (Str × V))) : Prop := p.2.cls = .ref D ∧ (∃ vs, p.2.data = .fields vs) ∧ match fs with
  | none => p.2.dict = none
  | some l => ∃ dd, p.2.dict = some dd ∧ H dd = some (.xd l)
theorem Er.same {H H' : Hp} {D : Addr} {fs : Option (List (Str × V))} (s : Same H H') (h : Er H p D fs) : Er H' p D fs := by
  obtain ⟨h2, h3, h4⟩ := h
  refine ⟨h2, h3, ?_⟩
  cases fs with
  | none => exact h4
  | some l =>
    obtain ⟨dd, e1, e2⟩ := h4
    exact ⟨dd, e1, s _ _ e2⟩
/-- as it is caught -/
theorem er_of {H : Hp} {a D : Addr} {oe : Obj} {cls : Value} {d : Option Addr} {fs : Option (List (Str × V))} (hz : Zc cls d oe) (hf : ∃ vs, oe.data = .fields vs) (ec : cls = .ref D) (e : match fs with | none => d = none | some l => ∃ dd, d = some dd ∧ H dd = some (.xd l)) : Er H (a, oe) D fs := by
  refine ⟨by rw [hz.1, ec], hf, ?_⟩
  cases fs with
  | none => exact hz.2.trans e
  | some l =>
    obtain ⟨dd, e1, e2⟩ := e
    exact ⟨dd, hz.2.trans e1, e2⟩
theorem Er.inst {pins : List (Addr × Obj)} {σ : L2.St} {H : Hp} {s : Shared} {D : Addr} {fs : Option (List (Str × V))} (e : Er H p D fs) (I : Inv X pins σ H s) (hp : p ∈ X.pn) : ∃ od, PySem.W.InstAt s.heap p.1 p.2 D od := by
  obtain ⟨h2, ⟨vs, h3⟩, h4⟩ := e
  obtain ⟨hget, _⟩ := I.pin p (List.mem_append.mpr (.inl hp))
  cases fs with
  | none => exact ⟨none, hget, h2, by unfold PySem.W.notCls; rw [h3] <;> rfl, by rw [h4]; trivial⟩
  | some l =>
    obtain ⟨dd, e1, e2⟩ := h4
    obtain ⟨o, ho⟩ := objOk_get (I.hok dd _ e2)
    exact ⟨some o, hget, h2, by unfold PySem.W.notCls; rw [h3] <;> rfl, by rw [e1]; exact ho⟩
/-- isinstance(e, c), e held -/
def rIsE (K : PySem.W.Frag) (p : Addr × Obj) : List V → Hp → VK → Prop := fun xs H Q => ∃ (D : Addr) (fs : Option (List (Str × V))) (c : V) (cv : Value) (b : Bool), xs = [.ref p.1, c] ∧ Er H p D fs ∧ ExcC K D ∧ (∀ u, RelV c u → u = cv) ∧ PySem.W.kitOne K (.ref D) cv = some b ∧ Q (.bl b) H
theorem call_isE (hp : p ∈ X.pn) (hK : X.K = K := by rfl) : CallR X (.builtin "isinstance") (rIsE K p) := by
  subst hK
  intro pins s σ H xs us Q I r h
  obtain ⟨D, fs, c, cv, b, rfl, er, C, hcv, e, q⟩ := h
  cases r with
  | cons rx rr =>
    cases rr with
    | cons rt rr =>
      cases rr
      cases rx
      have ecv := hcv _ rt
      subst ecv
      obtain ⟨od, J⟩ := er.inst I hp
      exact PySem.W.kia_one (kit_own (od := od) C) I.kIn J e (fun z => nomatch z) fun tk => ⟨.bl b, H, I.kept (t' := tk) fun _ _ z => z, rfl, q⟩
/-- isinstance(e, (c1, ..)), e held -/
def rIsET (K : PySem.W.Frag) (p : Addr × Obj) : List V → Hp → VK → Prop := fun xs H Q => ∃ (D tp : Addr) (fs : Option (List (Str × V))) (cs : List V) (ws : List Value) (b : Bool), xs = [.ref p.1, .ref tp] ∧ Er H p D fs ∧ ExcC K D ∧ H tp = some (.tup cs) ∧ Paired ClsV cs ws ∧ PySem.W.kitAny K (.ref D) ws = some b ∧ Q (.bl b) H
theorem call_isET (hp : p ∈ X.pn) (hK : X.K = K := by rfl) : CallR X (.builtin "isinstance") (rIsET K p) := by
  subst hK
  intro pins s σ H xs us Q I r h
  obtain ⟨D, tp, fs, cs, ws, b, rfl, er, C, hT, hcv, e, q⟩ := h
  obtain ⟨u1, u2, rfl, r1, r2⟩ := vals2 r
  cases (show u2 = Value.ref tp from r2)
  cases (show u1 = Value.ref p.1 from r1)
  obtain ⟨_, its, rv, o, h1, h2, n, h3⟩ := (show ObjOk X.prog X.w H s.heap tp (.tup cs) from I.hok tp _ hT)
  have e3 := ClsV.all hcv rv
  subst e3
  obtain ⟨oc, od0, dt, sl⟩ := o
  simp only at h2 h3
  subst h2 h3
  obtain ⟨od, J⟩ := er.inst I hp
  exact PySem.W.kia_tup (kit_own (od := od) C) I.kIn J h1 e (fun z => nomatch z) fun tk => ⟨.bl b, H, I.kept (t' := tk) fun _ _ z => z, rfl, q⟩
/-- e.n, e held -/
def tXfE (K : PySem.W.Frag) (p : Addr × Obj) (n : Str) (te : TE) : TE := fun σ H Q => te σ H fun x H1 => ∃ (D : Addr) (l : List (Str × V)) (v : V), x = .ref p.1 ∧ Er H1 p D (some l) ∧ XfC K D ∧ PySem.W.findIn K (.ref D) n = some none ∧ l.lookup n = some v ∧ Q v H1
theorem pe_xfE {e : Expr} {te : TE} {pos : Pos} {n : Str} (hp : p ∈ X.pn) (h : PE X e te) (hb : attributeBase e n X.env (eval e X.env) = eval e X.env := by rfl) (hK : X.K = K := by rfl) : PE X (.Attribute e n pos) (tXfE K p n te) := by
  subst hK
  refine ⟨fun pins s σ H Q I hw => attr_of hb (thn (h.run pins s σ H _ I hw) fun u s1 ⟨x, H1, I1, r, D, l, v, ex, er, T, no, lk, q⟩ => ?_)⟩
  subst ex
  cases (show u = Value.ref p.1 from r)
  obtain ⟨h2, ⟨vs, h3⟩, dd, e1, e2⟩ := er
  obtain ⟨hget, _⟩ := I1.pin p (List.mem_append.mpr (.inl hp))
  obtain ⟨m, hns, hm⟩ := (show ObjOk X.prog X.w H1 s1.heap dd (.xd l) from I1.hok dd _ e2)
  obtain ⟨od, ho, look⟩ := lookIn_ns hns
  have rl := hm n
  rw [lk] at rl
  obtain ⟨uv, ev, rv⟩ := RelO.some_of rl
  refine PySem.HandSPX.exc_get (gt := none) I1.kIn (⟨hget, h2, by unfold PySem.W.notCls; rw [h3] <;> rfl, by rw [e1]; exact ho⟩ : PySem.W.InstAt s1.heap p.1 p.2 D (some od)) T.ga T.gg T.exC (PySem.W.findObj_own T.hdC no rfl (by rw [look, ev])) (handed_of rv) ⟨v, H1, I1.tok _, rv, q⟩
end
/-- what a clause with a name does; the error's object is told at the reading -/
def wAsO (K : PySem.W.Frag) (c : Value) (i : Nat) (ts : Addr → Obj → Value → Option Addr → TS) (Wout : WX) (D : Ends) : WX := fun cls d σ H => ∃ b, PySem.W.exmOne K cls c = some b ∧
  (b = true → ∀ a oe, Zc cls d oe → (∃ vs, oe.data = .fields vs) → H a = none → ts a oe cls d { nx := fun σ2 H2 => D.nx (σ2.set i none) H2, rt := D.rt, bk := fun σ2 H2 => D.bk (σ2.set i none) H2, ct := fun σ2 H2 => D.ct (σ2.set i none) H2 } (σ.set i (some (.ref a))) H) ∧ (b = false → Wout cls d σ H)
section
variable {X : Cx} {x n : Str} {c : Value} {i : Nat} {body suite : List Stmt} {b₀ : Stmt} {np pos pos' : Pos} {tb : WX → TS} {W : Ends → WX} {Wout : WX} {hds : List ExceptHandler} {h₀ : ExceptHandler}
/-- except x as n: .., the error told as an object -/
theorem heard_asO {ts : Addr → Obj → Value → Option Addr → TS} (hf : X.env.frame = some X.env.locals) (hN : X.N.Nodup) (hi : X.N[i]? = some n) (hln : X.env.kindOf n = some .local) (hc : Names X x c) (ok : X.Ok)
    (hsu : ∀ (a : Addr) (oe : Obj) (cls : Value) (d : Option Addr) (pn : List (Addr × Obj)), Zc cls d oe → (∃ vs, oe.data = .fields vs) → PSs (X.suite a ((a, oe) :: pn)) (b₀ :: suite) (ts a oe cls d)) (r : Heard X hds W) :
    Heard X (.ExceptHandler (some (.Name x np)) (some n) (b₀ :: suite) pos' :: hds) fun D => wAsO X.K c i ts (W D) D := by
  intro pins D a cls d σ H s ca ⟨b, eb, yes, no⟩
  obtain ⟨oe, vs, _, _, _, S⟩ := ca.suite hf
  apply wpAny_handleBy_cons
  case hnb => exact fun z => nomatch z
  apply codeAny_handlers_test
  apply Names.told hc S
  apply PySem.W.Looks.here (ca.test eb)
  cases b
  · exact r pins D a cls d σ H s ca (no rfl)
  apply codeAny_handlers_suite_as
  obtain ⟨B, s₀, fly, g2, g3, g4, g5⟩ := ca.way
  apply HandSPX.lands_againZ fly
  intro h fly' u
  have ca' := ca.next g2 g3 g4 g5 fly' u
  obtain ⟨oe', vs', _, data', kind', S'⟩ := ca'.suite hf
  apply store_ok (v := .ref a) S' hN hi (.inl hln) rfl _ (.inr hln)
  intro s5 I5
  have run := (hsu a oe' cls d (X.pn ++ pins) kind' ⟨vs', data'⟩).run [] s5 _ H _ I5 (yes rfl a oe' kind' ⟨vs', data'⟩ ca.own)
  refine wpAny_mono run (fun f s6 told => ?_) fun _ _ z => False.elim z
  have clean : ∀ {σ6 : L2.St} {H6 : Hp} {Q : Shared → Prop}, Inv (X.suite a ((a, oe') :: (X.pn ++ pins))) [] σ6 H6 s6 → (∀ s7, Inv X pins (σ6.set i none) H6 s7 → Q s7) → wpAny (model X.prog X.w) X.A (do bindName X.env n .none; unbindBehindTheSuite X.env n pos') (fun _ s7 => Q s7) X.xe s6 :=
    fun I6 k => gone_ok (Inv.unsuite I6 ok) hN hi hln k
  cases f
  case ret u =>
    obtain ⟨v, σ6, H6, I6, rv_, q⟩ := told
    exact clean I6 fun _ I7 => ⟨v, _, H6, I7, rv_, q⟩
  all_goals
    obtain ⟨σ6, H6, I6, q⟩ := told
    exact clean I6 fun _ I7 => ⟨_, H6, I7, q⟩
/-- a method of a built-in type, the part K given -/
theorem pe_bmK {X : Cx} {K : PySem.W.Frag} {e : Expr} {to : TE} {t : TA} {T : String} {r : V → List V → Hp → VK → Prop} (h : PE X e (tBM X.K T r to t)) (hK : X.K = K := by rfl) : PE X e (tBM K T r to t) := hK ▸ h
end
end Lf

set_option Elab.async false
set_option linter.all false
set_option maxRecDepth 100000
set_option maxHeartbeats 4000000
/-! {(False, ..): a, (True, ..): b}.get(x, z): a display of two entries whose keys are tuples of truths, asked at once. -/
namespace Lf
open PySem PySem.Spec PyProof.Rows L2
/-- truths as keys -/
def leafB (bs : List Bool) : List Leaf := bs.map fun b => .num (if b = true then 1 else 0)
theorem leafB_inj : ∀ {xs ys : List Bool}, leafB xs = leafB ys → xs = ys
  | [], [], _ => rfl
  | [], _ :: _, h => nomatch h
  | _ :: _, [], h => nomatch h
  | x :: xs, y :: ys, h => by
    have h1 : Leaf.num (if x = true then 1 else 0) = Leaf.num (if y = true then 1 else 0) := (List.cons.inj h).1
    have h2 := leafB_inj (show leafB xs = leafB ys from (List.cons.inj h).2)
    rw [h2]
    cases x <;> cases y <;> first | rfl | (exact absurd (Leaf.num.inj h1) (by decide))
theorem leafB_items {P : Program} {w : World} : ∀ {bs : List Bool} {us : List Value}, Vals (bs.map V.bl) us → ItemsAre (leafKind P w) (leafB bs) us
  | [], _, r => by rw [List.map_nil] at r; cases r; exact .nil
  | b :: bs, _, r => by
    rw [List.map_cons] at r
    cases r with
    | cons h t =>
      cases (show _ = Value.bool b from h)
      exact .cons (by cases b <;> rfl) (leafB_items t)
section
variable {P : Program} {w : World} {H : Hp} {h : Heap} {a : Addr}
/-- a tracked tuple of truths is a key -/
theorem leafB_key {bs : List Bool} (ok : HOk P w H h) (e : H a = some (.tup (bs.map V.bl))) : (tupleKind (leafKind P w)).is h (leafB bs) a := by
  obtain ⟨_, its, r, o, h1, h2, n, h3⟩ := (show ObjOk P w H h a (.tup (bs.map V.bl)) from ok a _ e)
  exact ⟨o, its.toArray, n, h1, h2, h3, by simpa using leafB_items r⟩
/-- the object of such a dict -/
def TabE (P : Program) (w : World) (a : Addr) (xs : List (List Leaf × Addr × Value)) (h : Heap) : Prop :=
  ∃ o es ep, h.get? a = some o ∧ o.ExactDict ∧ o.data = .dict es ep ∧ es.toList = xs.map (entryOfKey (tupleKind (leafKind P w)))
end
/-- a display, its keys told with their places -/
theorem disp_at {P : Program} {w : World} {A : Around} {E Q : Value → Shared → Prop} {s : Shared} {env : Env} {keys : List (Option Expr)} {values : List Expr} {pos : Pos} (room : A.units < cLine) (all : keys.all (·.isSome) = true) (len : keys.length = values.length) (some_ : 1 ≤ keys.length) (few : keys.length ≤ 15)
    (h : wpAny (model P w) A (evalPairs (pairTrees keys values env pos)) (fun vs s₁ => ∃ ps, CarriesH (tupleKind (leafKind P w)) s₁.heap vs ps ∧ s₁.heap.DictOfH (tupleKind (leafKind P w)) s.heap.objs.size [] ∧
      ∀ h' tk, h'.DictOfH (tupleKind (leafKind P w)) s.heap.objs.size (storedAllH [] ps) → Heap.SameBut s.heap.objs.size s₁.heap h' → Q (.ref s.heap.objs.size) { s₁ with heap := h', toks := tk }) E
      { s with heap := s.heap.push { cls := .type "dict", data := .dict #[] } }) : wpAny (model P w) A (eval (.Dict keys values pos) env) Q E s := by
  have hl := pairTrees_length keys values env pos all len
  have hz := zip_pairTrees keys values env pos all len
  have hd := dictDisplay_pairs (pairTrees keys values env pos) (fun z => by rw [z] at hl; rw [← hl] at some_; cases some_) (by omega)
  rw [arm_eval_Dict]
  rw [hz, hd]
  refine wpAny_bind (wpAny_standAt ?_)
  refine wpAny_bind ?_
  refine wpAny_subDictH (Q := fun a s3 => wpAny (model P w) A (pure (Value.ref a)) Q E s3) (knd := tupleKind (leafKind P w)) room (by omega) ?_
  refine wpAny_mono h ?_ (fun _ _ y => y)
  rintro vs s3 ⟨ps, x1, x2, x3⟩
  exact ⟨ps, x1, x2, fun h3 tk y1 y2 => wpAny_pure (x3 h3 tk y1 y2)⟩
variable {X : Cx} {dpos apos cpos : Pos} {k1 k2 u1 u2 e f : Expr} {tk1 tk2 tu1 tu2 ty tx : TE}
def tTab (tk1 tu1 tk2 tu2 ty tx : TE) : TE := fun σ H Q => ∀ p, H p = none → tPairs [(tk1, tu1), (tk2, tu2)] σ (upd H p (.dK [])) fun ps H2 => H2 p = some (.dK []) ∧
  ∃ (b1 b2 : List Bool) (a1 a2 : Addr) (v1 v2 : V), ps = [(.ref a1, v1), (.ref a2, v2)] ∧ H2 a1 = some (.tup (b1.map V.bl)) ∧ H2 a2 = some (.tup (b2.map V.bl)) ∧ b1 ≠ b2 ∧
  ∀ o : HO, ty σ (upd H2 p o) fun y H3 => tx σ H3 fun z H4 => ∃ (bs : List Bool) (c : Addr), y = .ref c ∧ H4 p = some o ∧ H4 a1 = some (.tup (b1.map V.bl)) ∧ H4 a2 = some (.tup (b2.map V.bl)) ∧ H4 c = some (.tup (bs.map V.bl)) ∧
    Q (if bs = b1 then v1 else if bs = b2 then v2 else z) H4
theorem pe_tab (hu : X.A.units + 1 < cLine) (h1 : PE X k1 tk1) (g1 : PE X u1 tu1) (h2 : PE X k2 tk2) (g2 : PE X u2 tu2) (he : PE X e ty) (hf : PE X f tx)
    (m : M2 X (.Dict [some k1, some k2] [u1, u2] dpos) "get" apos e f cpos) : PE X (.Call (.Attribute (.Dict [some k1, some k2] [u1, u2] dpos) "get" apos) [e, f] [] cpos) (tTab tk1 tu1 tk2 tu2 ty tx) := by
  refine ⟨fun pins s σ H Q I q => ?_⟩
  refine wpAny_Call_method m.base m.few m.line PySem.F.plainAttrs_dict PySem.F.slot_dict_get PySem.F.type_dict_get ?_
  have hn := I.hok.fresh (Nat.le_refl s.heap.objs.size)
  have I1 := I.laid (a := s.heap.objs.size) (o := .dK []) (h' := s.heap.push { cls := .type "dict", data := .dict #[] }) (t' := s.toks) (fun _ _ q => Heap.get?_push_of_some _ q) (Nat.le_refl _) (dk_empty s.heap I.big)
  have pps : PPs X dpos [some k1, some k2] [u1, u2] [(tk1, tu1), (tk2, tu2)] := pps_cons h1 g1 (pps_cons h2 g2 pps_nil)
  refine disp_at (by omega) rfl rfl (by exact Nat.le_of_ble_eq_true rfl) (by exact Nat.le_of_ble_eq_true rfl)
    (thn (pps.run pins _ σ _ _ I1 (q _ hn)) fun ws s2 ⟨ps, H2, I2, rel, ep, b1, b2, a1, a2, v1, v2, eps, ea1, ea2, nb, q2⟩ => ?_)
  subst eps
  obtain ⟨z, hd, vs0, r0, dd⟩ := dk_of I2.hok ep
  cases r0
  obtain ⟨c1, x1, c2, x2, rfl, hc1, hx1, hc2, hx2⟩ : ∃ c1 x1 c2 x2, ws = [(c1, x1), (c2, x2)] ∧ RelV (V.ref a1) c1 ∧ RelV v1 x1 ∧ RelV (V.ref a2) c2 ∧ RelV v2 x2 := by
    cases rel with
    | cons hr1 rel =>
      cases rel with
      | cons hr2 rel =>
        cases rel
        exact ⟨_, _, _, _, rfl, hr1.1, hr1.2, hr2.1, hr2.2⟩
  cases (show c1 = Value.ref a1 from hc1)
  cases (show c2 = Value.ref a2 from hc2)
  have K1 := leafB_key I2.hok ea1
  have K2 := leafB_key I2.hok ea2
  obtain ⟨o0, es0, ep0, ho0, hc0, hd0, he0⟩ := dd
  refine ⟨[(leafB b1, a1, x1), (leafB b2, a2, x2)], ⟨rfl, rfl, K1, rfl, rfl, K2, trivial⟩, ?_, ?_⟩
  · refine ⟨o0, es0, ep0, ho0, hc0, hd0, ?_, (fun x hx => by cases hx), List.nodup_nil⟩
    cases hes : es0.toList with
    | nil => rfl
    | cons y ys =>
      exfalso
      have := he0.2.1
      rw [hes] at this
      cases this
  · intro h' tk dk hs
    have nl : leafB b1 ≠ leafB b2 := fun z => nb (leafB_inj z)
    have est : storedAllH ([] : List (List Leaf × Addr × Value)) [(leafB b1, a1, x1), (leafB b2, a2, x2)] = [(leafB b1, a1, x1), (leafB b2, a2, x2)] := by
      simp [storedAllH, storedH, atKey, nl]
    rw [est] at dk
    have dx0 := dk
    obtain ⟨o3, es3, ep3, ho3, hc3, hd3, he3, hi3, hn3⟩ := dk
    generalize hxs : [(leafB b1, a1, x1), (leafB b2, a2, x2)] = xs at *
    have I3 : Inv X pins σ (upd H2 s.heap.objs.size (.ext (TabE X.prog X.w s.heap.objs.size xs))) { s2 with heap := h', toks := tk } :=
      d_write I2 (by rw [ep]; exact True.intro) hs ⟨o3, ho3⟩ ⟨⟨o3, es3, ep3, ho3, hc3, hd3, he3⟩, ⟨o3, ho3⟩, fun g1 g2 ⟨o, es, ep, r1, r2, r3, r4⟩ keep => ⟨o, es, ep, keep _ r1, r2, r3, r4⟩⟩
    refine ⟨dx0.typeIs, fun b hb => ?_, ?_⟩
    · cases hb
      exact ⟨o3, ho3, hc3.2.1⟩
    rw [m.trees]
    refine Calls.callWith_builtin rfl (Calls.evalArgs_plain (Calls.spliced_cons (thn (he.run pins _ σ _ _ I3 (q2 _)) fun iv s4 ⟨y, H3, I4, ry, q3⟩ =>
      Calls.spliced_cons (thn (hf.run pins s4 σ H3 _ I4 q3) fun fv s5 ⟨z, H4, I5, rz, bs, c, ey, e4, f1, f2, f3, q4⟩ => Calls.spliced_nil ?_))))
    subst ey
    cases (show iv = Value.ref c from ry)
    obtain ⟨⟨o4, es4, ep4, t1, t2, t3, t4⟩, _, _⟩ := (show ObjOk X.prog X.w H4 s5.heap _ (.ext (TabE X.prog X.w s.heap.objs.size xs)) from I5.hok _ _ e4)
    have D5 : s5.heap.DictOfH (tupleKind (leafKind X.prog X.w)) s.heap.objs.size xs := ⟨o4, es4, ep4, t1, t2, t3, t4, (fun x hx => by
      rw [← hxs] at hx
      simp only [List.mem_cons, List.not_mem_nil, or_false] at hx
      rcases hx with rfl | rfl
      · exact leafB_key I5.hok f1
      · exact leafB_key I5.hok f2), hn3⟩
    have kc := leafB_key (bs := bs) I5.hok f3
    refine getOr_keyed (knd := tupleKind (leafKind X.prog X.w)) (tupleKind_room_in1 (knd := leafKind X.prog X.w) hu) kc hd ⟨xs, D5, rfl⟩ ⟨_, H4, I5.tok _, ?_, q4⟩
    rw [← hxs]
    by_cases z1 : bs = b1
    · subst z1
      rw [if_pos rfl]
      simpa [pairsH, valueAt] using hx1
    · have y1 : ¬ leafB b1 = leafB bs := fun z => z1 (leafB_inj z.symm)
      rw [if_neg z1]
      by_cases z2 : bs = b2
      · subst z2
        rw [if_pos rfl]
        simpa [pairsH, valueAt, y1] using hx2
      · have y2 : ¬ leafB b2 = leafB bs := fun z => z2 (leafB_inj z.symm)
        rw [if_neg z2]
        simpa [pairsH, valueAt, y1, y2] using rz
end Lf

set_option Elab.async false
set_option linter.all false
set_option maxRecDepth 100000
set_option maxHeartbeats 4000000
set_option exponentiation.threshold 3000
namespace Lf
open PySem PySem.Spec PyProof.Rows L2
section
variable {P : Program} {w : World} {K : PySem.W.Frag} {mg : Str → Option Value} {base : Heap} {c0 c1 cw : Addr}
theorem Gd.mid {d : PyData} (g : Gd d) : ∀ a b, d = .tuple [.int a, .int b] → Mid b := fun a b e => Nat.lt_of_lt_of_le (g.fr a b e).2 (Nat.pow_le_pow_right (by decide) (by decide))
theorem Gd.bt {d : PyData} (g : Gd d) (h : isFr d = true) : Bt 41 (top2 d) := by
  obtain ⟨a, b, rfl, _⟩ := isFr_inv h
  exact g.fr a b rfl

/-! ### _law_wrong -/
theorem sc__law_wrong : FnScope ["_law_told"] ["_law_told"] (defScope s__law_wrong) := ⟨rfl, rfl, rfl, by decide +kernel, rfl, by decide +kernel, by decide +kernel⟩
def sp_wrong (K : PySem.W.Frag) : Sp := fun vs H Q _ => ∃ (a : Addr) (vn vh vl : V) (dn dh dl : PyData), vs = [.ref a] ∧ SqL K H a [vn, vh, vl] ∧ Dq K H vn dn ∧ Dq K H vh dh ∧ Dq K H vl dl ∧ Gd dn ∧ Gd dh ∧ Gd dl ∧ ∀ H', Same H H' → Q (.str ((pnW dn dh (orNone dl)).getD "made")) H'
theorem ok_wrong {f : Addr} {fd : FuncData} (F : Fun K "_law_wrong" "_law_wrong" s__law_wrong f fd) (C__law_is_name : Cal P w K mg base CX0 2 "_law_is_name" ["_law_thing"] (sp_lisnm K)) (C__law_is_weight : Cal P w K mg base CX0 3 "_law_is_weight" ["_law_thing"] (sp_lisw K)) (C__law_is_fraction : Cal P w K mg base CX0 2 "_law_is_fraction" ["_law_thing"] (sp_lisfr K)) : FnG P w K mg base CX0 4 f fd ["_law_told"] (sp_wrong K) := by
  refine Gfun F sc__law_wrong (fun vs H Q E h => ?_) (fun cdv A outer s H vs Q E hg hr h => ?_)
  · obtain ⟨a, vn, vh, vl, dn, dh, dl, rfl, _⟩ := h
    rfl
  · obtain ⟨a, vn, vh, vl, dn, dh, dl, rfl, hS, hn, hh, hl, gn, gh, gl, k⟩ := h
    refine ⟨_, (pss_cons (ps_if (pt_not (pt_val (pe_g C__law_is_name (hr.mono (by decide)) hg (pa_cons (pe_ix ix_list (pv 0) pe_int (fun _ _ => rfl)) pa_nil))))
      (pss_one (ps_ret pe_str))
      pss_nil)
      (pss_cons (ps_if (pt_not (pt_val (pe_g C__law_is_weight (hr.mono (by decide)) hg (pa_cons (pe_ix ix_list (pv 0) pe_int (fun _ _ => rfl)) pa_nil))))
      (pss_one (ps_ret pe_str))
      pss_nil)
      (pss_cons (ps_if (PW.pt (pw_and (pt_cmp (pc_notN (pe_ix ix_list (pv 0) pe_int (fun _ _ => rfl)))) (pw_and1 (PW.pt (pw_or (pt_not (pt_val (pe_g C__law_is_fraction (hr.mono (by decide)) hg (pa_cons (pe_ix ix_list (pv 0) pe_int (fun _ _ => rfl)) pa_nil)))) (pw_or1 (pt_not (pt_chain op_le op_lt pe_int (pe_ix ix_tup (pe_ix ix_list (pv 0) pe_int (fun _ _ => rfl)) pe_int (fun _ _ => rfl)) (pe_ix ix_tup (pe_ix ix_list (pv 0) pe_int (fun _ _ => rfl)) pe_int (fun _ _ => rfl))))))))))
      (pss_one (ps_ret pe_str))
      pss_nil)
      (pss_one (ps_ret pe_str))))), ?_⟩
    unfold pnW at k
    refine ⟨_, rfl, a, _, _, _, rfl, rfl, hS, atI_nat (j := 0) rfl, vn, dn, rfl, hn, gn.st, fun H1 s1 => ?_⟩
    by_cases en : isNm dn = false
    · rw [if_pos en] at k
      rw [en]
      exact ⟨_, rfl, iteT (k H1 s1)⟩
    rw [if_neg en] at k
    rw [show isNm dn = true by cases h : isNm dn <;> simp_all]
    refine ⟨_, rfl, iteF ?_⟩
    have hS1 := sm_l s1 hS
    refine ⟨_, rfl, a, _, _, _, rfl, rfl, hS1, atI_nat (j := 1) rfl, vh, dh, rfl, hh.same s1, gh.mid, fun H2 s2 => ?_⟩
    have s02 := s1.trans s2
    by_cases eh : isAb dh = false
    · rw [if_pos eh] at k
      rw [eh]
      exact ⟨_, rfl, iteT (k H2 s02)⟩
    rw [if_neg eh] at k
    rw [show isAb dh = true by cases h : isAb dh <;> simp_all]
    refine ⟨_, rfl, iteF ?_⟩
    have hS2 := sm_l s02 hS
    refine ⟨_, rfl, a, _, _, _, rfl, rfl, hS2, atI_nat (j := 2) rfl, _, rfl, ?_⟩
    by_cases e0 : dl = .none
    · subst e0
      obtain rfl := hl.isnon
      rw [show isLs (orNone .none) = true from rfl, if_neg (by decide)] at k
      exact iteF (iteF (k H2 s02))
    · have v0 : vl ≠ .non := fun z => e0 (by subst z; exact hl.non)
      have od : orNone dl = dl := by
        cases dl with
        | none => exact absurd rfl e0
        | _ => rfl
      rw [od] at k
      rw [decide_eq_false v0]
      refine iteT ?_
      refine ⟨_, rfl, a, _, _, _, rfl, rfl, hS2, atI_nat (j := 2) rfl, vl, dl, rfl, hl.same s02, gl.mid, fun H3 s3 => ?_⟩
      have s03 := s02.trans s3
      have hS3 := sm_l s03 hS
      by_cases ef : isFr dl = true
      · obtain ⟨⟨p, rfl, hp⟩, lo, _⟩ := fr_at (hl.same s03) ef
        rw [ef]
        refine ⟨_, rfl, iteF ?_⟩
        have X0 : ∀ {j : Nat} {v : V} {Q' : V → Prop}, [V.int (top2 dl).1, .int (top2 dl).2][j]? = some v → Q' v → True := fun _ _ => trivial
        refine ⟨_, rfl, a, _, _, _, rfl, rfl, hS3, atI_nat (j := 2) rfl, p, _, _, _, rfl, rfl, hp, atI_nat (j := 0) rfl, _, _, rfl, rfl, _, rfl, ?_⟩
        have il : isLs dl = (decide (0 ≤ (top2 dl).1) && decide ((top2 dl).1 < (top2 dl).2)) := by unfold isLs isM; rw [ef]; rfl
        by_cases c1 : 0 ≤ (top2 dl).1
        · rw [decide_eq_true c1]
          refine iteT ⟨_, rfl, a, _, _, _, rfl, rfl, hS3, atI_nat (j := 2) rfl, p, _, _, _, rfl, rfl, hp, atI_nat (j := 1) rfl, _, _, rfl, rfl, _, rfl, ?_⟩
          by_cases c2 : (top2 dl).1 < (top2 dl).2
          · rw [if_neg (by rw [il, decide_eq_true c1, decide_eq_true c2]; decide)] at k
            rw [decide_eq_true c2]
            exact iteF (k H3 s03)
          · rw [if_pos (by rw [il, decide_eq_true c1, decide_eq_false c2]; decide)] at k
            rw [decide_eq_false c2]
            exact iteT (k H3 s03)
        · rw [if_pos (by rw [il, decide_eq_false c1]; rfl)] at k
          rw [decide_eq_false c1]
          exact iteF ⟨_, rfl, iteT (k H3 s03)⟩
      · have ef' : isFr dl = false := by cases h : isFr dl <;> simp_all
        rw [if_pos (by unfold isLs isM; rw [ef']; rfl)] at k
        rw [ef']
        exact ⟨_, rfl, iteT (k H3 s03)⟩

end
/-- classes of errors -/
structure Oths (K : PySem.W.Frag) (mg : Str → Option Value) : Type where
  cNoDough : Addr
  gNoDough : mg "NoDough" = some (.ref cNoDough)
  cNoFraction : Addr
  gNoFraction : mg "NoFraction" = some (.ref cNoFraction)
  cNoName : Addr
  gNoName : mg "NoName" = some (.ref cNoName)
  cNoStep : Addr
  gNoStep : mg "NoStep" = some (.ref cNoStep)
  cNoStuff : Addr
  gNoStuff : mg "NoStuff" = some (.ref cNoStuff)
  cNoWeights : Addr
  gNoWeights : mg "NoWeights" = some (.ref cNoWeights)
  cNoPan : Addr
  gNoPan : mg "NoPan" = some (.ref cNoPan)
  cNoWeight : Addr
  gNoWeight : mg "NoWeight" = some (.ref cNoWeight)
  cNoCount : Addr
  gNoCount : mg "NoCount" = some (.ref cNoCount)
/-- what is known of an error's class -/
structure FaD (K : PySem.W.Frag) (mg : Str → Option Value) (T : Oths K mg) (D : Addr) (bp bw bc : Bool) : Prop where
  ex : ExcC K D
  kv : PySem.W.kitOne K (.ref D) (.type "ValueError") = some true
  k0 : PySem.W.kitAny K (.ref D) [.ref T.cNoDough, .ref T.cNoFraction, .ref T.cNoName, .ref T.cNoStep, .ref T.cNoStuff, .ref T.cNoWeights] = some false
  kp : PySem.W.kitOne K (.ref D) (.ref T.cNoPan) = some bp
  kw : PySem.W.kitOne K (.ref D) (.ref T.cNoWeight) = some bw
  kc : PySem.W.kitOne K (.ref D) (.ref T.cNoCount) = some bc
structure TdF (K : PySem.W.Frag) (D : Addr) (f : Str) : Prop where
  xf : XfC K D
  no : PySem.W.findIn K (.ref D) f = some none
section
variable {P : Program} {w : World} {K : PySem.W.Frag} {mg : Str → Option Value} {base : Heap} {c0 c1 cw : Addr}
theorem op_eqK {X : Cx} {K : PySem.W.Frag} (h : X.A.units + 65 < cLine) (hK : X.K = K := by rfl) : OpR X (compareOp .Eq) (rEqD K) := by
  subst hK
  exact op_eqD (by omega)
theorem u65H {k : Nat} {A : Around} (r : L2H.RoomH k A) : A.units + 65 < cLine := by
  have := r.un
  omega
theorem u1H {k : Nat} {A : Around} (r : L2H.RoomH k A) : A.units + 1 < cLine := by
  have := r.un
  omega

/-! ### _law_of_fault -/
theorem sc__law_of_fault : FnScope ["_law_e", "_law_kinds"] ["_law_e"] (defScope s__law_of_fault) := ⟨rfl, rfl, rfl, by decide +kernel, rfl, by decide +kernel, by decide +kernel⟩
/-- what an error tells -/
def FaR (K : PySem.W.Frag) (D : Addr) (fs : Option (List (Str × V))) (bp bw bc : Bool) (due : Str) : Prop :=
  (bp = true ∧ bw = false ∧ bc = false ∧ fs = some [(("field" : Str), V.str due)] ∧ TdF K D "field") ∨ (bp = false ∧ bw = true ∧ bc = false ∧ due = "weight") ∨ (bp = false ∧ bw = false ∧ bc = true ∧ due = "count")
def sp_fault (K : PySem.W.Frag) (mg : Str → Option Value) (T : Oths K mg) : Addr × Obj → Sp := fun p vs H Q _ => ∃ (D : Addr) (fs : Option (List (Str × V))) (bp bw bc : Bool) (due : Str), vs = [.ref p.1] ∧ Er H p D fs ∧ FaD K mg T D bp bw bc ∧ FaR K D fs bp bw bc due ∧ ∀ H', Same H H' → Q (.str due) H'
theorem bl3_eq (a b c : Bool) : PyData.eqv (.list [.bool a, .bool b, .bool c]) (.list [.bool true, .bool false, .bool false]) = (a && !b && !c) := by
  cases a <;> cases b <;> cases c <;> decide +kernel
theorem bl3_shaped (a b c : Bool) : SeqAt.shaped (.list [.bool a, .bool b, .bool c]) = true := by
  cases a <;> cases b <;> cases c <;> decide +kernel
set_option maxHeartbeats 16000000 in
theorem ok_fault {f : Addr} {fd : FuncData} (Mx : Bltx mg) (MV : mg "ValueError" = none) (T : Oths K mg) (F : Fun K "_law_of_fault" "_law_of_fault" s__law_of_fault f fd) : FnL P w K mg base 1 f fd ["_law_e"] (sp_fault K mg T) := by
  refine Lfun F sc__law_of_fault (fun p vs H Q E h => ?_) (fun cdv A outer s H vs Q E p hg hr h => ?_)
  · obtain ⟨D, fs, bp, bw, bc, due, rfl, _⟩ := h
    rfl
  · obtain ⟨D, fs, bp, bw, bc, due, rfl, er, O, R, k⟩ := h
    refine ⟨_, (pss_cons (ps_if (PW.pt (pw_or (pt_val (pe_callB (call_isET (K := K) (p := p) List.mem_cons_self) rfl Mx.isinstance bt_isinstance (pa_cons (pv 0) (pa_cons (pe_tup (pa_cons (pe_glob (v := .ref T.cNoDough) rfl T.gNoDough rfl) (pa_cons (pe_glob (v := .ref T.cNoFraction) rfl T.gNoFraction rfl) (pa_cons (pe_glob (v := .ref T.cNoName) rfl T.gNoName rfl) (pa_cons (pe_glob (v := .ref T.cNoStep) rfl T.gNoStep rfl) (pa_cons (pe_glob (v := .ref T.cNoStuff) rfl T.gNoStuff rfl) (pa_cons (pe_glob (v := .ref T.cNoWeights) rfl T.gNoWeights rfl) pa_nil))))))) pa_nil)))) (pw_or1 (pt_not (pt_val (pe_callB (call_isE (K := K) (p := p) List.mem_cons_self) rfl Mx.isinstance bt_isinstance (pa_cons (pv 0) (pa_cons (pe_bltn (v := .ty "ValueError") rfl MV PyProof.Rows.Boot.«ValueError» rfl) pa_nil))))))))
      (pss_one (ps_ret pe_str))
      pss_nil)
      (pss_cons (ps_set (i := 1) sc__law_of_fault.nd rfl (.inl rfl) (pe_lst (pa_cons (pe_callB (call_isE (K := K) (p := p) List.mem_cons_self) rfl Mx.isinstance bt_isinstance (pa_cons (pv 0) (pa_cons (pe_glob (v := .ref T.cNoPan) rfl T.gNoPan rfl) pa_nil))) (pa_cons (pe_callB (call_isE (K := K) (p := p) List.mem_cons_self) rfl Mx.isinstance bt_isinstance (pa_cons (pv 0) (pa_cons (pe_glob (v := .ref T.cNoWeight) rfl T.gNoWeight rfl) pa_nil))) (pa_cons (pe_callB (call_isE (K := K) (p := p) List.mem_cons_self) rfl Mx.isinstance bt_isinstance (pa_cons (pv 0) (pa_cons (pe_glob (v := .ref T.cNoCount) rfl T.gNoCount rfl) pa_nil))) pa_nil)))))
      (pss_cons (ps_if (pt_cmpR (op_eqK (K := K) (by exact u65H hr)) (pv 1) (pe_lst (pa_cons pe_bl (pa_cons pe_bl (pa_cons pe_bl pa_nil)))) (nomark _))
      (pss_one (ps_ret (pe_xfE (K := K) (p := p) List.mem_cons_self (pv 0))))
      pss_nil)
      (pss_one (ps_ret (pe_tab (by exact u1H hr) (pe_tup (pa_cons pe_bl (pa_cons pe_bl (pa_cons pe_bl pa_nil)))) pe_str (pe_tup (pa_cons pe_bl (pa_cons pe_bl (pa_cons pe_bl pa_nil)))) pe_str (pe_tupleOf rfl Mx.tuple (pv 1)) pe_str ⟨rfl, rfl, rfl, rfl⟩)))))), ?_⟩
    refine ⟨_, rfl, len_show (Nat.le_of_ble_eq_true rfl), fun t1 n1 => ?_⟩
    have s1 : Same H (L2.upd H t1 (.tup [.ref T.cNoDough, .ref T.cNoFraction, .ref T.cNoName, .ref T.cNoStep, .ref T.cNoStuff, .ref T.cNoWeights])) := same_new n1
    have e1 : L2.upd H t1 (.tup [.ref T.cNoDough, .ref T.cNoFraction, .ref T.cNoName, .ref T.cNoStep, .ref T.cNoStuff, .ref T.cNoWeights]) t1 = some (.tup [.ref T.cNoDough, .ref T.cNoFraction, .ref T.cNoName, .ref T.cNoStep, .ref T.cNoStuff, .ref T.cNoWeights]) := upd_same
    generalize L2.upd H t1 (.tup [.ref T.cNoDough, .ref T.cNoFraction, .ref T.cNoName, .ref T.cNoStep, .ref T.cNoStuff, .ref T.cNoWeights]) = H1 at s1 e1 ⊢
    refine ⟨D, t1, fs, _, _, false, rfl, er.same s1, O.ex, e1, .cons (.own _) (.cons (.own _) (.cons (.own _) (.cons (.own _) (.cons (.own _) (.cons (.own _) (.nil)))))), O.k0, _, rfl, iteF ?_⟩
    refine ⟨_, rfl, D, fs, .ty "ValueError", .type "ValueError", true, rfl, er.same s1, O.ex, fun u r => r, O.kv, _, rfl, iteF ?_⟩
    refine ⟨_, rfl, D, fs, .ref T.cNoPan, .ref T.cNoPan, bp, rfl, er.same s1, O.ex, fun u r => r, O.kp, _, rfl, D, fs, .ref T.cNoWeight, .ref T.cNoWeight, bw, rfl, er.same s1, O.ex, fun u r => r, O.kw, _, rfl, D, fs, .ref T.cNoCount, .ref T.cNoCount, bc, rfl, er.same s1, O.ex, fun u r => r, O.kc, len_show (Nat.le_of_ble_eq_true rfl), fun l nl => ?_⟩
    have s2 : Same H1 (L2.upd H1 l (.lst [.bl bp, .bl bw, .bl bc])) := same_new nl
    have e2 : L2.upd H1 l (.lst [.bl bp, .bl bw, .bl bc]) l = some (.lst [.bl bp, .bl bw, .bl bc]) := upd_same
    generalize L2.upd H1 l (.lst [.bl bp, .bl bw, .bl bc]) = H2 at s2 e2 ⊢
    refine ⟨_, rfl, len_show (Nat.le_of_ble_eq_true rfl), fun l2 nl2 => ?_⟩
    have s3 : Same H2 (L2.upd H2 l2 (.lst [.bl true, .bl false, .bl false])) := same_new nl2
    have e3 : L2.upd H2 l2 (.lst [.bl true, .bl false, .bl false]) l2 = some (.lst [.bl true, .bl false, .bl false]) := upd_same
    generalize L2.upd H2 l2 (.lst [.bl true, .bl false, .bl false]) = H3 at s3 e3 ⊢
    have e2' := s3 _ _ e2
    have s03 := (s1.trans s2).trans s3
    refine ⟨.list [.bool bp, .bool bw, .bool bc], .list [.bool true, .bool false, .bool false], .lst (.inl (.inl e2')) (.cons (.bl _) (.cons (.bl _) (.cons (.bl _) .nil))), .lst (.inl (.inl e3)) (.cons (.bl _) (.cons (.bl _) (.cons (.bl _) .nil))), bl3_shaped _ _ _, bl3_shaped _ _ _, ?_⟩
    rw [bl3_eq]
    rcases R with ⟨rfl, rfl, rfl, rfl, G⟩ | R
    · refine ⟨_, rfl, iteT ?_⟩
      exact ⟨_, rfl, D, _, _, rfl, er.same s03, G.xf, G.no, rfl, k H3 s03⟩
    have bp0 : bp = false := by rcases R with ⟨h, _⟩ | ⟨h, _⟩ <;> exact h
    subst bp0
    refine ⟨_, rfl, iteF ?_⟩
    have val : (if [false, bw, bc] = [false, true, false] then V.str "weight" else if [false, bw, bc] = [false, false, true] then V.str "count" else V.str "others") = .str due := by
      rcases R with ⟨_, rfl, rfl, rfl⟩ | ⟨_, rfl, rfl, rfl⟩
      · rw [if_pos rfl]
      · rw [if_neg (by decide), if_pos rfl]
    refine fun p0 np0 => ?_
    have s4 : Same H3 (L2.upd H3 p0 (.dK [])) := same_new np0
    have e4 : L2.upd H3 p0 (.dK []) p0 = some (.dK []) := upd_same
    generalize L2.upd H3 p0 (.dK []) = H4 at s4 e4 ⊢
    refine ⟨len_show (Nat.le_of_ble_eq_true rfl), fun a1 na1 => ?_⟩
    have s5 : Same H4 (L2.upd H4 a1 (.tup [.bl false, .bl true, .bl false])) := same_new na1
    have e5 : L2.upd H4 a1 (.tup [.bl false, .bl true, .bl false]) a1 = some (.tup [.bl false, .bl true, .bl false]) := upd_same
    generalize L2.upd H4 a1 (.tup [.bl false, .bl true, .bl false]) = H5 at s5 e5 ⊢
    refine ⟨len_show (Nat.le_of_ble_eq_true rfl), fun a2 na2 => ?_⟩
    have s6 : Same H5 (L2.upd H5 a2 (.tup [.bl false, .bl false, .bl true])) := same_new na2
    have e6 : L2.upd H5 a2 (.tup [.bl false, .bl false, .bl true]) a2 = some (.tup [.bl false, .bl false, .bl true]) := upd_same
    generalize L2.upd H5 a2 (.tup [.bl false, .bl false, .bl true]) = H6 at s6 e6 ⊢
    have ep := s6 _ _ (s5 _ _ e4)
    have ea1 := s6 _ _ e5
    have el := ((s4.trans s5).trans s6) _ _ e2'
    refine ⟨ep, [false, true, false], [false, false, true], a1, a2, .str "weight", .str "count", rfl, ea1, e6, by decide, fun ob => ?_⟩
    have n1p : a1 ≠ p0 := fun z => by rw [z, ep] at ea1; cases ea1
    have n2p : a2 ≠ p0 := fun z => by rw [z, ep] at e6; cases e6
    have nlp : l ≠ p0 := fun z => by rw [z, ep] at el; cases el
    have s7 : Same H (L2.upd H6 p0 ob) := fun b o e => by
      have h3 := s03 _ _ e
      rw [upd_ne (ne_of_none h3 np0)]
      exact ((s4.trans s5).trans s6) _ _ h3
    have ep7 : L2.upd H6 p0 ob p0 = some ob := upd_same
    have ea7 : L2.upd H6 p0 ob a1 = some (.tup [.bl false, .bl true, .bl false]) := by rw [upd_ne n1p]; exact ea1
    have eb7 : L2.upd H6 p0 ob a2 = some (.tup [.bl false, .bl false, .bl true]) := by rw [upd_ne n2p]; exact e6
    have el7 : L2.upd H6 p0 ob l = some (.lst [.bl false, .bl bw, .bl bc]) := by rw [upd_ne nlp]; exact el
    generalize L2.upd H6 p0 ob = H7 at s7 ep7 ea7 eb7 el7 ⊢
    refine ⟨_, rfl, .inl ⟨l, _, rfl, .inl (.inl el7), fun c nc => ?_⟩⟩
    have s8 : Same H7 (L2.upd H7 c (.tup [.bl false, .bl bw, .bl bc])) := same_new nc
    have e8 : L2.upd H7 c (.tup [.bl false, .bl bw, .bl bc]) c = some (.tup [.bl false, .bl bw, .bl bc]) := upd_same
    generalize L2.upd H7 c (.tup [.bl false, .bl bw, .bl bc]) = H8 at s8 e8 ⊢
    refine ⟨[false, bw, bc], c, rfl, s8 _ _ ep7, s8 _ _ ea7, s8 _ _ eb7, e8, ?_⟩
    rw [val]
    exact k H8 (s7.trans s8)

end
end Lf

set_option Elab.async false
set_option linter.all false
set_option maxRecDepth 100000
set_option maxHeartbeats 4000000
set_option exponentiation.threshold 3000
namespace Lf
open PySem PySem.Spec PyProof.Rows L2
theorem byF_map (rs : List (Str × (Int × Int))) (g : Int × Int) : (byF rs g).map (·.2) = (rs.map (·.2)).map fun f => fmul f g := by
  unfold byF
  rw [List.map_map, List.map_map]
  rfl
theorem byF_names (rs : List (Str × (Int × Int))) (g : Int × Int) : (byF rs g).map (·.1) = rs.map (·.1) := by
  unfold byF
  rw [List.map_map]
  rfl
theorem tot20 {rs : List (Str × (Int × Int))} (ok : RwsOk rs) (b : ∀ r ∈ rs, Bt 20 r.2) : Bt 169 (totR rs) := by
  have h := add_bt (b := 20) (rs.map (·.2)) 1 f0 f0_f (fun f hf => by obtain ⟨r, hr, rfl⟩ := List.mem_map.mp hf; exact (ok.all r hr).lo) bt01.1 (fun f hf => by obtain ⟨r, hr, rfl⟩ := List.mem_map.mp hf; exact b r hr)
  rw [List.length_map] at h
  have := ok.few
  exact h.mono (by omega)
theorem byF_ok {rs : List (Str × (Int × Int))} {wt : Int × Int} (ok : RwsOk rs) (b : ∀ r ∈ rs, Bt 20 r.2) (hw : Wgt 41 wt) : RwsOk (byF rs (fdiv wt (totR rs))) := by
  have t0 : (totR rs).1 ≠ 0 := by have := ok.tot_p; omega
  have gf := fdiv_f hw.lo t0
  have gp : 0 < (fdiv wt (totR rs)).1 := low_top_pos (Int.mul_pos hw.lo.1 ok.tot_p) (Int.mul_pos hw.p ok.tot_f.1)
  refine ⟨fun r' hr' => ?_, ?_, ?_, ?_, ?_⟩
  · obtain ⟨r, hr, rfl⟩ := List.mem_map.mp hr'
    have k := ok.all r hr
    exact ⟨k.nm, fmul_f k.lo gf, low_top_pos (Int.mul_pos k.lo.1 gf.1) (Int.mul_pos k.po gp)⟩
  · unfold byF
    rw [List.length_map]
    exact ok.one
  · unfold byF
    rw [List.length_map]
    exact ok.few
  · rw [byF_names]
    exact ok.nd
  · rw [byF_map]
    refine cmn_scaled (k := 41) (fun f hf => ?_) (by rw [List.length_map]; exact ok.one) (by rw [List.length_map]; exact ok.few) hw.lo hw.p hw.b (by decide)
    obtain ⟨r, hr, rfl⟩ := List.mem_map.mp hf
    exact ⟨(ok.all r hr).lo, (ok.all r hr).po, (b r hr).mono (by decide)⟩
/-- a def of the module that is called by places, errors let -/
structure CalP (P : Program) (w : World) (K : PySem.W.Frag) (mg : Str → Option Value) (base : Heap) (CX : CXT) (k n : Nat) (x : Str) (ps : List Str) (gV : List V → List V → List V) (sp : Sp) : Prop where
  ex : ∃ (f : Addr) (fd : FuncData) (g : List Value → List Value → List Value), FnG P w K mg base CX k f fd ps sp ∧ KBn K fd ps n [] g gV ∧ mg x = some (.ref f) ∧ PySem.W.keepIn K (.ref f) = true
def tGP (n : Nat) (sp : Sp) (gV : List V → List V → List V) (E : L2.St → XK) (t : TA) : TE := fun σ H Q => t σ H fun vs H1 => vs.length = n ∧ sp (gV vs []) H1 Q (E σ)
theorem pe_gP {X : Cx} {CX : CXT} {E : L2.St → XK} {k n : Nat} {x : Str} {ps : List Str} {gV : List V → List V → List V} {sp : Sp} {e : Expr} {es : List Expr} {t : TA} {p pos : Pos} (C : CalP X.prog X.w X.K X.mg X.base CX k n x ps gV sp) (hr : Room k X.A) (hG : X.A.guards = some []) (hx : ∀ σ, PassesAt CX X σ (E σ)) (ha : PA X (e :: es) t) (hg : Gl X x := by rfl)
    (hdb : (x == ("__debug__" : Str)) = false := by decide) (hst : starEach (e :: es) X.env = (false, eval e X.env) :: starEach es X.env := by rfl) (hpl : (backTo pos (starEach es X.env)).any (·.1) = false := by rfl) :
    PE X (.Call (.Name x p) (e :: es) [] pos) (tGP n sp gV E t) := by
  refine ⟨fun pins s σ H Q I h => ?_⟩
  obtain ⟨f, fd, g, F, kb, hm, hk⟩ := C.ex
  refine wpAny_Call_Name_kw (ld_glob I hg hm (PySem.W.callWith_K (h₀ := X.base) I.ok.mod.kin hk (thn (ha.run pos pins s σ H _ I h) fun us s1 ⟨vs, H1, I1, r, hl, q⟩ => ⟨I1.kIn, ?_⟩) hst hpl) hdb)
  have b := kb.to s1 us [] I1.kIn (r.length ▸ hl) rfl
  exact run_g (ar := ⟨us, []⟩) F hr hG (hx σ) I1 b (kb.rel r .nil) q
/-- what is done, and what is said then -/
inductive Deed (K : PySem.W.Frag) (H : Hp) (CP CD : Addr) : Str → V → V → V → Str → Prop
  | pan (vn vh vl : V) (dn dh dl : PyData) (hn : Dq K H vn dn) (hh : Dq K H vh dh) (hl : Dq K H vl dl) (gn : Gd dn) (gh : Gd dh) (gl : Gd dl) : Deed K H CP CD "pan" vn vh vl ((pnW dn dh (orNone dl)).getD "made")
  | fo (vn vh vl : V) (dn dh dl : PyData) (hn : Dq K H vn dn) (hh : Dq K H vh dh) (hl : Dq K H vl dl) (gn : Gd dn) (gh : Gd dh) (gl : Gd dl) : Deed K H CP CD "for" vn vh vl ((pnW dn dh (orNone dl)).getD "made")
  | lo (v u : V) (d : PyData) (x : Addr) (z : Str) (h l : Int × Int) (hv : Dq K H v d) (g : Gd d) (pn : Pn K H CP x z h l) (ok : PanOk z h l) : Deed K H CP CD "loaves" v (.ref x) u (if isAb d = true then "made" else "weight")
  | do_ (v u : V) (d : PyData) (x : Addr) (z : Str) (h l : Int × Int) (hv : Dq K H v d) (g : Gd d) (pn : Pn K H CP x z h l) (ok : PanOk z h l) : Deed K H CP CD "dough" v (.ref x) u (if isCt d = true then "made" else "count")
  | sc (v u : V) (d : PyData) (x : Addr) (z : Str) (rs : List (Str × (Int × Int))) (n : Int) (hv : Dq K H v d) (g : Gd d) (dg : Dgh K H CD x z rs n) (ok : DghOk z rs n) (b : ∀ r ∈ rs, Bt 20 r.2) : Deed K H CP CD "scaled" v (.ref x) u (if isAb d = true then "made" else "weight")
section
variable {P : Program} {w : World} {K : PySem.W.Frag} {mg : Str → Option Value} {base : Heap} {c0 c1 cw : Addr}
theorem Deed.same {H H' : Hp} {CP CD : Addr} {dd due : Str} {a b c : V} (s : Same H H') (h : Deed K H CP CD dd a b c due) : Deed K H' CP CD dd a b c due := by
  cases h with
  | pan vn vh vl dn dh dl hn hh hl gn gh gl => exact .pan _ _ _ _ _ _ (hn.same s) (hh.same s) (hl.same s) gn gh gl
  | fo vn vh vl dn dh dl hn hh hl gn gh gl => exact .fo _ _ _ _ _ _ (hn.same s) (hh.same s) (hl.same s) gn gh gl
  | lo v u d x z h l hv g pn ok => exact .lo _ _ _ _ _ _ _ (hv.same s) g (pn.same s) ok
  | do_ v u d x z h l hv g pn ok => exact .do_ _ _ _ _ _ _ _ (hv.same s) g (pn.same s) ok
  | sc v u d x z rs n hv g dg ok b => exact .sc _ _ _ _ _ _ _ (hv.same s) g (dg.same s) ok b
theorem ab_inv {d : PyData} (h : isAb d = true) : isFr d = true ∧ 0 < (top2 d).1 := by
  unfold isAb at h
  rw [Bool.and_eq_true] at h
  exact ⟨h.1, of_decide_eq_true h.2⟩
theorem ab_wgt {H : Hp} {v : V} {d : PyData} (hv : Dq K H v d) (g : Gd d) (h : isAb d = true) : AtK K H v (top2 d) ∧ Wgt 41 (top2 d) := by
  obtain ⟨h1, h2⟩ := ab_inv h
  obtain ⟨a, lo, _⟩ := fr_at hv h1
  exact ⟨a, lo, h2, g.bt h1⟩
/-- three things that make a pan -/
theorem pan_told {H : Hp} {vn vh vl : V} {dn dh dl : PyData} (hn : Dq K H vn dn) (hh : Dq K H vh dh) (hl : Dq K H vl dl) (gh : Gd dh) (gl : Gd dl) (e : pnW dn dh (orNone dl) = none) :
    ∃ (z : Str) (h l : Int × Int), vn = .str z ∧ AtK K H vh h ∧ Opt K H vl l ∧ PanOk z h l ∧ Bt 60 h := by
  unfold pnW at e
  by_cases e1 : isNm dn = false
  · rw [if_pos e1] at e; cases e
  rw [if_neg e1] at e
  by_cases e2 : isAb dh = false
  · rw [if_pos e2] at e; cases e
  rw [if_neg e2] at e
  by_cases e3 : isLs (orNone dl) = false
  · rw [if_pos e3] at e; cases e
  have e1 : isNm dn = true := by cases h : isNm dn <;> simp_all
  have e2 : isAb dh = true := by cases h : isAb dh <;> simp_all
  have e3 : isLs (orNone dl) = true := by cases h : isLs (orNone dl) <;> simp_all
  have es : isS dn = true := by
    cases dn <;> first | rfl | cases e1
  obtain ⟨z, rfl, rfl⟩ := hn.txt es
  have nm := nm_inv e1
  obtain ⟨ah, wh⟩ := ab_wgt hh gh e2
  have mk : ∀ l, Lo l → PanOk z (top2 dh) l := fun l ll => ⟨nm.al, nm.l1, nm.le, wh.lo, wh.p, wh.b.mono (by decide), ll⟩
  by_cases e0 : dl = .none
  · subst e0
    exact ⟨z, top2 dh, f0, rfl, ah, .inl ⟨hl.isnon, rfl⟩, mk _ lo_f0, wh.b.mono (by decide)⟩
  · have od : orNone dl = dl := by
      cases dl with
      | none => exact absurd rfl e0
      | _ => rfl
    rw [od] at e3
    unfold isLs isM at e3
    rw [Bool.and_eq_true, Bool.and_eq_true] at e3
    obtain ⟨al, il, _⟩ := fr_at hl e3.1.1
    exact ⟨z, top2 dh, top2 dl, rfl, ah, .inr al, mk _ ⟨il, of_decide_eq_true e3.1.2, of_decide_eq_true e3.2, gl.bt e3.1.1⟩, wh.b.mono (by decide)⟩
theorem bt_orN {dl : PyData} (gl : Gd dl) : isM (orNone dl) = true → Bt 290 (top2 (orNone dl)) := fun h => by
  have h' : isFr (orNone dl) = true := by unfold isM at h; rw [Bool.and_eq_true] at h; exact h.1
  cases dl with
  | none => exact bt01.1.mono (by decide)
  | _ => exact (gl.bt h').mono (by decide)

/-! ### _law_done -/
theorem sc__law_done : FnScope ["_law_deed", "_law_one", "_law_other", "_law_third", "_law_told", "_law_e"] ["_law_deed", "_law_one", "_law_other", "_law_third"] (defScope s__law_done) := ⟨rfl, rfl, rfl, by decide +kernel, rfl, by decide +kernel, by decide +kernel⟩
def sp_done (K : PySem.W.Frag) (CP CD : Addr) : Sp := fun vs H Q _ => ∃ (dd due : Str) (a b c : V), vs = [.str dd, a, b, c] ∧ Deed K H CP CD dd a b c due ∧ ∀ H', Same H H' → Q (.str due) H'
/-- what may be told of a call: what it does, or what it raises -/
def sp_or (s1 s2 : Sp) : Sp := fun vs H Q E => s1 vs H Q E ∨ s2 vs H Q E
set_option maxHeartbeats 16000000 in
theorem ok_done {CP CD fP cL f : Addr} {fdP fd : FuncData} {g0 : List Value → List Value → List Value} (T : Oths K mg) (gL : mg "LoafError" = some (.ref cL)) (XP : FaD K mg T T.cNoPan true false false) (XW : FaD K mg T T.cNoWeight false true false) (XC : FaD K mg T T.cNoCount false false true) (FP : TdF K T.cNoPan "field")
    (lP : PySem.W.exmOne K (.ref T.cNoPan) (.ref cL) = some true) (lW : PySem.W.exmOne K (.ref T.cNoWeight) (.ref cL) = some true) (lC : PySem.W.exmOne K (.ref T.cNoCount) (.ref cL) = some true)
    (h_all : KBn K fdP ["self", "name", "holds", "loss"] (3 + 1) [] g0 (fun vs zs => gAll vs [.non] zs)) (MP : MakG P w K mg base (L2.CX P w) 6 "Pan" CP fP fdP ["self", "name", "holds", "loss"] (sp_or (sp_pinit K CP) (sp_pinitX K T.cNoPan)))
    (C_pan_for : CalP P w K mg base (L2.CX P w) 8 3 "pan_for" ["name", "baked", "loss"] (fun vs zs => gAll vs [.non] zs) (sp_or (sp_pfor K CP) (sp_pforX K T.cNoPan)))
    (C_loaves : Cal P w K mg base (L2.CX P w) 6 "loaves" ["weight", "pan"] (sp_or (sp_loaves K CP) (sp_loavesX K T.cNoWeight))) (C_dough_for : Cal P w K mg base (L2.CX P w) 6 "dough_for" ["count", "pan"] (sp_or (sp_dfor K CP) (sp_dforX K T.cNoCount))) (C_scaled : Cal P w K mg base (L2.CX P w) 9 "scaled" ["dough", "weight"] (sp_or (sp_scaled K CD) (sp_scaledX K T.cNoWeight)))
    (F : Fun K "_law_done" "_law_done" s__law_done f fd) (C__law_of_fault : CalL P w K mg base 1 "_law_of_fault" ["_law_e"] (sp_fault K mg T)) : FnG P w K mg base CX0 10 f fd ["_law_deed", "_law_one", "_law_other", "_law_third"] (sp_done K CP CD) := by
  refine Gfun F sc__law_done (fun vs H Q E h => ?_) (fun cdv A outer s H vs Q E hg hr h => ?_)
  · obtain ⟨dd, due, a, b, c, rfl, _⟩ := h
    rfl
  · obtain ⟨dd, due, a, b, c, rfl, D, k⟩ := h
    refine ⟨_, (pss_cons (ps_set (i := 4) sc__law_done.nd rfl (.inl rfl) pe_str)
      (pss_cons (ps_try_heard rfl rfl
        (fun W pn xe tk _ => (pss_one (ps_if (pt_cmpR op_eq (pv 0) pe_str (nomark _))
      (pss_one (ps_expr (pe_mkG MP h_all (hr.mono (by decide)) hg (fun σ => passAt tk σ) (pa_cons (pv 1) (pa_cons (pv 2) (pa_cons (pv 3) pa_nil))))))
      (pss_one (ps_if (pt_cmpR op_eq (pv 0) pe_str (nomark _))
      (pss_one (ps_expr (pe_gP C_pan_for (hr.mono (by decide)) hg (fun σ => passAt tk σ) (pa_cons (pv 1) (pa_cons (pv 2) (pa_cons (pv 3) pa_nil))))))
      (pss_one (ps_if (pt_cmpR op_eq (pv 0) pe_str (nomark _))
      (pss_one (ps_expr (pe_gS C_loaves (hr.mono (by decide)) hg (fun σ => passAt tk σ) (pa_cons (pv 1) (pa_cons (pv 2) pa_nil)))))
      (pss_one (ps_if (pt_cmpR op_eq (pv 0) pe_str (nomark _))
      (pss_one (ps_expr (pe_gS C_dough_for (hr.mono (by decide)) hg (fun σ => passAt tk σ) (pa_cons (pv 1) (pa_cons (pv 2) pa_nil)))))
      (pss_one (ps_expr (pe_gS C_scaled (hr.mono (by decide)) hg (fun σ => passAt tk σ) (pa_cons (pv 2) (pa_cons (pv 1) pa_nil))))))))))))))
        (fun ok => (heard_asO (i := 5) (n := "_law_e") (c := .ref cL) rfl sc__law_done.nd rfl rfl ⟨rfl, by decide, Or.inl gL⟩ ok (fun a oe cls d pn hz hf => (pss_one (ps_set (i := 4) sc__law_done.nd rfl (.inl rfl) (pe_lend (p := (a, oe)) List.mem_cons_self C__law_of_fault (hot hr (by decide)) hg (pa_cons (pv 5) pa_nil))))) (heard_nil (Wout := fun _ _ _ _ => False) rfl rfl takes0))))
      (pss_one (ps_ret (pv 4))))), ?_⟩
    have eqT : ∀ {a : Str} {X Y : Prop}, X → (if (decide (V.str a = V.str a)) = true then X else Y) := fun {a X Y} h => by rw [decide_eq_true rfl, if_pos rfl]; exact h
    have eqF : ∀ {a b : Str} {X Y : Prop}, a ≠ b → Y → (if (decide (V.str a = V.str b)) = true then X else Y) := fun {a b X Y} n h => by rw [decide_eq_false (fun z => n (V.str.inj z)), if_neg (by decide)]; exact h
    cases D with
    | pan vn vh vl dn dh dl hn hh hl gn gh gl =>
      refine ⟨_, rfl, rfl, _, rfl, eqT ?_⟩
      cases e : pnW dn dh (orNone dl) with
      | none =>
        rw [e] at k
        obtain ⟨z, h, l, rfl, ah, ol, ok, b60⟩ := pan_told hn hh hl gh gl e
        exact ⟨_, rfl, _, rfl, _, rfl, rfl, rfl, fun x dx nx nd hdx => .inl ⟨x, dx, H, z, b, c, h, l, rfl, nx, nd, hdx, rfl, ah, ol, ok, fun H' s' pn => ⟨rfl, _, rfl, k H' s'⟩⟩⟩
      | some wd =>
        rw [e] at k
        refine ⟨_, rfl, _, rfl, _, rfl, rfl, rfl, fun x dx nx nd hdx => .inr ⟨x, dx, CP, H, a, b, c, dn, dh, dl, wd, rfl, nx, nd, rfl, hn, (fun z ez => (gn.st z ez).1), hh, hl, bt_orN gl, e, fun H' d s' ed => ?_⟩⟩
        refine ⟨true, lP, fun _ a oe hz hf ha => ?_, fun z => Bool.noConfusion z⟩
        have er : Er H' (a, oe) T.cNoPan (some [(("field" : Str), V.str wd)]) := er_of hz hf rfl ⟨d, rfl, ed⟩
        exact ⟨_, rfl, T.cNoPan, _, true, false, false, wd, rfl, er, XP, .inl ⟨rfl, rfl, rfl, rfl, FP⟩, fun H3 s3 => ⟨_, rfl, k H3 (s'.trans s3)⟩⟩
    | fo vn vh vl dn dh dl hn hh hl gn gh gl =>
      refine ⟨_, rfl, rfl, _, rfl, eqF (by decide) ⟨_, rfl, rfl, _, rfl, eqT ?_⟩⟩
      cases e : pnW dn dh (orNone dl) with
      | none =>
        rw [e] at k
        obtain ⟨z, h, l, rfl, ah, ol, ok, b60⟩ := pan_told hn hh hl gh gl e
        exact ⟨_, rfl, _, rfl, _, rfl, rfl, .inl ⟨z, b, c, h, l, rfl, ah, ol, ok, wide_ok ok b60, fun H' x s' pn => ⟨_, rfl, k H' s'⟩⟩⟩
      | some wd =>
        rw [e] at k
        refine ⟨_, rfl, _, rfl, _, rfl, rfl, .inr ⟨a, b, c, dn, dh, dl, wd, rfl, hn, (fun z ez => (gn.st z ez).1), hh, hl, bt_orN gl, e, fun H' d s' ed => ?_⟩⟩
        refine ⟨true, lP, fun _ a oe hz hf ha => ?_, fun z => Bool.noConfusion z⟩
        have er : Er H' (a, oe) T.cNoPan (some [(("field" : Str), V.str wd)]) := er_of hz hf rfl ⟨d, rfl, ed⟩
        exact ⟨_, rfl, T.cNoPan, _, true, false, false, wd, rfl, er, XP, .inl ⟨rfl, rfl, rfl, rfl, FP⟩, fun H3 s3 => ⟨_, rfl, k H3 (s'.trans s3)⟩⟩
    | lo v u d x z h l hv g pn ok =>
      refine ⟨_, rfl, rfl, _, rfl, eqF (by decide) ⟨_, rfl, rfl, _, rfl, eqF (by decide) ⟨_, rfl, rfl, _, rfl, eqT ?_⟩⟩⟩
      by_cases e : isAb d = true
      · rw [if_pos e] at k
        obtain ⟨at_, wg⟩ := ab_wgt hv g e
        exact ⟨_, rfl, _, rfl, .inl ⟨a, x, top2 d, z, h, l, rfl, at_, wg.mono (by decide), pn, ok, fun H' p v' s' _ _ => ⟨_, rfl, k H' s'⟩⟩⟩
      · rw [if_neg e] at k
        have e' : isAb d = false := by cases h : isAb d <;> simp_all
        refine ⟨_, rfl, _, rfl, .inr ⟨a, .ref x, d, rfl, hv, e', ?_⟩⟩
        refine ⟨true, lW, fun _ a oe hz hf ha => ?_, fun z => Bool.noConfusion z⟩
        have er : Er H (a, oe) T.cNoWeight none := er_of hz hf rfl rfl
        exact ⟨_, rfl, T.cNoWeight, _, false, true, false, "weight", rfl, er, XW, .inr (.inl ⟨rfl, rfl, rfl, rfl⟩), fun H3 s3 => ⟨_, rfl, k H3 s3⟩⟩
    | do_ v u d x z h l hv g pn ok =>
      refine ⟨_, rfl, rfl, _, rfl, eqF (by decide) ⟨_, rfl, rfl, _, rfl, eqF (by decide) ⟨_, rfl, rfl, _, rfl, eqF (by decide) ⟨_, rfl, rfl, _, rfl, eqT ?_⟩⟩⟩⟩
      by_cases e : isCt d = true
      · rw [if_pos e] at k
        have e2 := e
        unfold isCt at e2
        rw [Bool.and_eq_true] at e2
        obtain ⟨m, rfl, rfl⟩ := hv.whole e2.1
        have hm : 1 ≤ m := of_decide_eq_true e2.2
        exact ⟨_, rfl, _, rfl, .inl ⟨m, x, z, h, l, rfl, by omega, Nat.lt_of_lt_of_le (g.int m rfl) (Nat.pow_le_pow_right (by decide) (by decide)), pn, ok, fun H' v' s' _ => ⟨_, rfl, k H' s'⟩⟩⟩
      · rw [if_neg e] at k
        have e' : isCt d = false := by cases h : isCt d <;> simp_all
        refine ⟨_, rfl, _, rfl, .inr ⟨a, .ref x, d, rfl, hv, e', ?_⟩⟩
        refine ⟨true, lC, fun _ a oe hz hf ha => ?_, fun z => Bool.noConfusion z⟩
        have er : Er H (a, oe) T.cNoCount none := er_of hz hf rfl rfl
        exact ⟨_, rfl, T.cNoCount, _, false, false, true, "count", rfl, er, XC, .inr (.inr ⟨rfl, rfl, rfl, rfl⟩), fun H3 s3 => ⟨_, rfl, k H3 s3⟩⟩
    | sc v u d x z rs n hv g dg ok b20 =>
      refine ⟨_, rfl, rfl, _, rfl, eqF (by decide) ⟨_, rfl, rfl, _, rfl, eqF (by decide) ⟨_, rfl, rfl, _, rfl, eqF (by decide) ⟨_, rfl, rfl, _, rfl, eqF (by decide) ?_⟩⟩⟩⟩
      by_cases e : isAb d = true
      · rw [if_pos e] at k
        obtain ⟨at_, wg⟩ := ab_wgt hv g e
        have t0 : (totR rs).1 ≠ 0 := by have := ok.rw_.tot_p; omega
        exact ⟨_, rfl, _, rfl, .inl ⟨x, a, z, rs, n, top2 d, rfl, dg, ok, at_, wg.lo, wg.p, wg.b.mono (by decide), (fdiv_bt wg.lo t0 wg.b (tot20 ok.rw_ b20)).mono (by decide), byF_ok ok.rw_ b20 wg, fun H' x' s' _ => ⟨_, rfl, k H' s'⟩⟩⟩
      · rw [if_neg e] at k
        have e' : isAb d = false := by cases h : isAb d <;> simp_all
        refine ⟨_, rfl, _, rfl, .inr ⟨a, .ref x, d, rfl, hv, e', ?_⟩⟩
        refine ⟨true, lW, fun _ a oe hz hf ha => ?_, fun z => Bool.noConfusion z⟩
        have er : Er H (a, oe) T.cNoWeight none := er_of hz hf rfl rfl
        exact ⟨_, rfl, T.cNoWeight, _, false, true, false, "weight", rfl, er, XW, .inr (.inl ⟨rfl, rfl, rfl, rfl⟩), fun H3 s3 => ⟨_, rfl, k H3 s3⟩⟩

end
end Lf

set_option Elab.async false
set_option linter.all false
set_option maxRecDepth 100000
set_option maxHeartbeats 4000000
set_option exponentiation.threshold 3000
namespace Lf
open PySem PySem.Spec PyProof.Rows L2
/-- a dough of two rows -/
def rs2 : List (Str × (Int × Int)) := [("b", (1, 2)), ("c", (3, 1))]
theorem al1 (z : Str) (h : z.cps.toList.all inL = true) : AllL z := fun c hc => List.all_eq_true.mp h c hc
theorem rs2_ok : RwsOk rs2 := by
  have b : ∀ f ∈ rs2.map (·.2), IsF f ∧ 0 ≤ f.1 ∧ Bt 20 f := by
    intro f hf
    simp only [rs2, List.map_cons, List.map_nil, List.mem_cons, List.not_mem_nil, or_false] at hf
    rcases hf with rfl | rfl
    · exact ⟨⟨by decide, by decide⟩, by decide, by decide, by decide⟩
    · exact ⟨⟨by decide, by decide⟩, by decide, by decide, by decide⟩
  refine ⟨fun r hr => ?_, by decide, by decide, by decide +kernel, cmn_of_bt b (by decide) (by decide)⟩
  simp only [rs2, List.mem_cons, List.not_mem_nil, or_false] at hr
  rcases hr with rfl | rfl
  · exact ⟨⟨al1 _ (by decide +kernel), by decide +kernel, by decide +kernel⟩, ⟨by decide, by decide⟩, by decide⟩
  · exact ⟨⟨al1 _ (by decide +kernel), by decide +kernel, by decide +kernel⟩, ⟨by decide, by decide⟩, by decide⟩
theorem rs2_dgh : DghOk "a" rs2 0 := ⟨⟨al1 _ (by decide +kernel), by decide +kernel, by decide +kernel⟩, rs2_ok, by decide, by decide⟩
theorem rs2_b : ∀ r ∈ rs2, Bt 20 r.2 := by
  intro r hr
  simp only [rs2, List.mem_cons, List.not_mem_nil, or_false] at hr
  rcases hr with rfl | rfl
  · exact ⟨by decide, by decide⟩
  · exact ⟨by decide, by decide⟩
section
variable {P : Program} {w : World} {K : PySem.W.Frag} {mg : Str → Option Value} {base : Heap} {c0 c1 cw : Addr}
theorem ddef_of {f : Addr} {fd : FuncData} (F : FunD K "__init__" "Dough.__init__" (defArgs s_dinit) (defBody s_dinit) (defScope s_dinit) [.int 0] [] f fd) : ∃ g, KBn K fd ["self", "name", "rows", "lead"] (2 + 1) [] g (fun vs zs => gDef vs [.int 0] zs) := by
  obtain ⟨its, hb⟩ := F.kbindsD (ps := ["self", "name", "rows", "lead"]) (2 + 1) [] (fun us ds ws => gDef us ds ws) (fun z => nomatch z) (fun r1 r2 r3 => r1.append r2) (fun T kV doc pm an cdv ct us its ws h1 h2 h3 => by
      match us, its, ws, h1, h2, h3 with
      | [_, _, _], [_], [], _, _, _ => exact ⟨_, rfl, rfl⟩)
  exact ⟨_, hb⟩

/-! ### _law_deeds_right -/
theorem sc__law_deeds_right : FnScope ["_law_weight", "_law_count", "_law_pan", "_law_due", "_law_dough", "_law_is_count"] ["_law_weight", "_law_count", "_law_pan"] (defScope s__law_deeds_right) := ⟨rfl, rfl, rfl, by decide +kernel, rfl, by decide +kernel, by decide +kernel⟩
def sp_deeds (K : PySem.W.Frag) (CP : Addr) : Sp := fun vs H Q _ => ∃ (vw vc : V) (dw dc : PyData) (x : Addr) (z : Str) (h l : Int × Int), vs = [vw, vc, .ref x] ∧ Dq K H vw dw ∧ Dq K H vc dc ∧ Gd dw ∧ Gd dc ∧ Pn K H CP x z h l ∧ PanOk z h l ∧ ∀ H', Same H H' → Q (.bl true) H'
set_option maxHeartbeats 16000000 in
theorem ok_deeds {CP CD fD fh f : Addr} {fdD fdh fd : FuncData} {g0 : List Value → List Value → List Value} (M : Blt mg) (h_def : KBn K fdD ["self", "name", "rows", "lead"] (2 + 1) [] g0 (fun vs zs => gDef vs [.int 0] zs)) (MPD : MakG P w K mg base CX0 6 "Dough" CD fD fdD ["self", "name", "rows", "lead"] (sp_dinit K CD)) (Mr : MetG P w K mg base CX0 1 CD "rows" fh fdh ["self"] (sp_drows K CD))
    (F : Fun K "_law_deeds_right" "_law_deeds_right" s__law_deeds_right f fd) (C__law_done : Cal P w K mg base CX0 10 "_law_done" ["_law_deed", "_law_one", "_law_other", "_law_third"] (sp_done K CP CD)) (C__law_is_weight : Cal P w K mg base CX0 3 "_law_is_weight" ["_law_thing"] (sp_lisw K)) (C__law_is_whole : Cal P w K mg base CX0 1 "_law_is_whole" ["_law_thing"] (sp_whole K)) : FnG P w K mg base CX0 11 f fd ["_law_weight", "_law_count", "_law_pan"] (sp_deeds K CP) := by
  refine Gfun F sc__law_deeds_right (fun vs H Q E h => ?_) (fun cdv A outer s H vs Q E hg hr h => ?_)
  · obtain ⟨vw, vc, dw, dc, x, z, h, l, rfl, _⟩ := h
    rfl
  · obtain ⟨vw, vc, dw, dc, x, z, h, l, rfl, hw, hc, gw, gc, pn, ok, k⟩ := h
    refine ⟨_, (pss_cons (ps_set (i := 3) sc__law_deeds_right.nd rfl (.inl rfl) (pe_ix ix_list (pe_lst (pa_cons pe_str (pa_cons pe_str pa_nil))) (pe_callTy call_int1 rfl M.int bt_int (pa_cons (pe_g C__law_is_weight (hr.mono (by decide)) hg (pa_cons (pv 0) pa_nil)) pa_nil)) (fun _ _ => rfl)))
      (pss_cons (ps_if (pt_cmpR op_ne (pe_g C__law_done (hr.mono (by decide)) hg (pa_cons pe_str (pa_cons (pv 0) (pa_cons (pv 2) (pa_cons pe_non pa_nil))))) (pv 3) (nomark _))
      (pss_one (ps_ret pe_bl))
      pss_nil)
      (pss_cons (ps_set (i := 4) sc__law_deeds_right.nd rfl (.inl rfl) (pe_mkG MPD h_def (hr.mono (by decide)) hg (fun _ => pass_no) (pa_cons pe_str (pa_cons (pe_lst (pa_cons (pe_tup (pa_cons pe_str (pa_cons (pe_tup (pa_cons pe_int (pa_cons pe_int pa_nil))) pa_nil))) (pa_cons (pe_tup (pa_cons pe_str (pa_cons (pe_tup (pa_cons pe_int (pa_cons pe_int pa_nil))) pa_nil))) pa_nil))) pa_nil))))
      (pss_cons (ps_if (PW.pt (pw_or (pt_cmpR op_ne (pe_g C__law_done (hr.mono (by decide)) hg (pa_cons pe_str (pa_cons (pv 0) (pa_cons (pv 4) (pa_cons pe_non pa_nil))))) (pv 3) (nomark _)) (pw_or1 (pt_cmpR (op_neD hr.units) (pe_meG0 (pv 4) Mr (hr.mono (by decide)) hg (fun _ => pass_no)) (pe_lst (pa_cons (pe_tup (pa_cons pe_str (pa_cons (pe_tup (pa_cons pe_int (pa_cons pe_int pa_nil))) pa_nil))) (pa_cons (pe_tup (pa_cons pe_str (pa_cons (pe_tup (pa_cons pe_int (pa_cons pe_int pa_nil))) pa_nil))) pa_nil))) (nomark _)))))
      (pss_one (ps_ret pe_bl))
      pss_nil)
      (pss_cons (ps_set (i := 5) sc__law_deeds_right.nd rfl (.inl rfl) (pe_and (pe_g C__law_is_whole (hr.mono (by decide)) hg (pa_cons (pv 1) pa_nil)) (pe_one (pe_cmpR op_gt (pv 1) pe_int (nomark _)))))
      (pss_one (ps_ret (pe_cmpR op_eq (pe_g C__law_done (hr.mono (by decide)) hg (pa_cons pe_str (pa_cons (pv 1) (pa_cons (pv 2) (pa_cons pe_non pa_nil))))) (pe_ix ix_list (pe_lst (pa_cons pe_str (pa_cons pe_str pa_nil))) (pe_callTy call_int1 rfl M.int bt_int (pa_cons (pv 5) pa_nil)) (fun _ _ => rfl)) (nomark _))))))))), ?_⟩
    refine ⟨len_show (Nat.le_of_ble_eq_true rfl), fun L1 nL1 => ?_⟩
    have s0 : Same H (L2.upd H L1 (.lst [.str "weight", .str "made"])) := same_new nL1
    have e0 : L2.upd H L1 (.lst [.str "weight", .str "made"]) L1 = some (.lst [.str "weight", .str "made"]) := upd_same
    generalize L2.upd H L1 (.lst [.str "weight", .str "made"]) = H0 at s0 e0 ⊢
    refine ⟨_, rfl, vw, dw, rfl, hw.same s0, gw.mid, fun H1 s1 => .inr ⟨_, rfl, ?_⟩⟩
    obtain ⟨j, ej, hx⟩ : ∃ j : Nat, (if isAb dw = true then (1 : Int) else 0) = (j : Int) ∧ [V.str "weight", V.str "made"][j]? = some (.str (if isAb dw = true then "made" else "weight")) := by
      cases isAb dw
      · exact ⟨0, rfl, rfl⟩
      · exact ⟨1, rfl, rfl⟩
    rw [ej]
    have s01 := s0.trans s1
    refine ⟨L1, _, _, _, rfl, rfl, .inl (.inl (s1 _ _ e0)), atI_nat hx, ?_⟩
    refine ⟨_, rfl, _, rfl, "loaves", _, _, _, _, rfl, .lo vw .non dw x z h l (hw.same s01) gw (pn.same s01) ok, fun H2 s12 => ?_⟩
    refine ⟨_, rfl, rfl, _, rfl, iteNS rfl ?_⟩
    have s02 := s01.trans s12
    refine ⟨len_show (Nat.le_of_ble_eq_true rfl), fun a1 na1 => ?_⟩
    have sa1 : Same H2 (L2.upd H2 a1 (.tup [.int 1, .int 2])) := same_new na1
    have ea1 : L2.upd H2 a1 (.tup [.int 1, .int 2]) a1 = some (.tup [.int 1, .int 2]) := upd_same
    generalize L2.upd H2 a1 (.tup [.int 1, .int 2]) = a_1 at sa1 ea1 ⊢
    refine ⟨len_show (Nat.le_of_ble_eq_true rfl), fun a2 na2 => ?_⟩
    have sa2 : Same a_1 (L2.upd a_1 a2 (.tup [.str "b", .ref a1])) := same_new na2
    have ea2 : L2.upd a_1 a2 (.tup [.str "b", .ref a1]) a2 = some (.tup [.str "b", .ref a1]) := upd_same
    generalize L2.upd a_1 a2 (.tup [.str "b", .ref a1]) = a_2 at sa2 ea2 ⊢
    refine ⟨len_show (Nat.le_of_ble_eq_true rfl), fun a3 na3 => ?_⟩
    have sa3 : Same a_2 (L2.upd a_2 a3 (.tup [.int 3, .int 1])) := same_new na3
    have ea3 : L2.upd a_2 a3 (.tup [.int 3, .int 1]) a3 = some (.tup [.int 3, .int 1]) := upd_same
    generalize L2.upd a_2 a3 (.tup [.int 3, .int 1]) = a_3 at sa3 ea3 ⊢
    refine ⟨len_show (Nat.le_of_ble_eq_true rfl), fun a4 na4 => ?_⟩
    have sa4 : Same a_3 (L2.upd a_3 a4 (.tup [.str "c", .ref a3])) := same_new na4
    have ea4 : L2.upd a_3 a4 (.tup [.str "c", .ref a3]) a4 = some (.tup [.str "c", .ref a3]) := upd_same
    generalize L2.upd a_3 a4 (.tup [.str "c", .ref a3]) = a_4 at sa4 ea4 ⊢
    refine ⟨len_show (Nat.le_of_ble_eq_true rfl), fun a5 na5 => ?_⟩
    have sa5 : Same a_4 (L2.upd a_4 a5 (.lst [.ref a2, .ref a4])) := same_new na5
    have ea5 : L2.upd a_4 a5 (.lst [.ref a2, .ref a4]) a5 = some (.lst [.ref a2, .ref a4]) := upd_same
    generalize L2.upd a_4 a5 (.lst [.ref a2, .ref a4]) = a_5 at sa5 ea5 ⊢
    have hRa : RwsAt K a_5 [.ref a2, .ref a4] rs2 := .cons ⟨a2, .ref a1, rfl, .inl (.inl (sa5 _ _ (sa4 _ _ (sa3 _ _ ea2)))), AtK.of (sa5 _ _ (sa4 _ _ (sa3 _ _ (sa2 _ _ ea1))))⟩ (.cons ⟨a4, .ref a3, rfl, .inl (.inl (sa5 _ _ ea4)), AtK.of (sa5 _ _ (sa4 _ _ ea3))⟩ .nil)
    have sa := (((sa1.trans sa2).trans sa3).trans sa4).trans sa5
    refine ⟨rfl, rfl, fun xd dxd nx nd hdx => ⟨xd, dxd, a_5, "a", a5, _, rs2, 0, rfl, nx, nd, hdx, rfl, .inl (.inl (.inl ea5)), hRa, rs2_dgh, fun H3 s3 dg => ⟨rfl, ?_⟩⟩⟩
    have s03 := (s02.trans sa).trans s3
    refine ⟨_, rfl, _, rfl, "scaled", _, _, _, _, rfl, .sc vw .non dw xd "a" rs2 0 (hw.same s03) gw dg rs2_dgh rs2_b, fun H4 s4 => ?_⟩
    refine ⟨_, rfl, rfl, _, rfl, iteNS rfl ?_⟩
    have dg4 := dg.same s4
    obtain ⟨dx4, pr4, xs4, i4, _, _⟩ := id dg4
    refine ⟨_, rfl, xd, _, _, rfl, i4, rfl, xd, "a", rs2, 0, rfl, dg4, fun l2 xs2 nl2 hA2 => ?_⟩
    have s5 : Same H4 (L2.upd H4 l2 (.lst xs2)) := same_new nl2
    have e5 : L2.upd H4 l2 (.lst xs2) l2 = some (.lst xs2) := upd_same
    generalize L2.upd H4 l2 (.lst xs2) = H5 at s5 e5 ⊢
    have hA5 := hA2.same s5
    refine ⟨len_show (Nat.le_of_ble_eq_true rfl), fun b1 nb1 => ?_⟩
    have sb1 : Same H5 (L2.upd H5 b1 (.tup [.int 1, .int 2])) := same_new nb1
    have eb1 : L2.upd H5 b1 (.tup [.int 1, .int 2]) b1 = some (.tup [.int 1, .int 2]) := upd_same
    generalize L2.upd H5 b1 (.tup [.int 1, .int 2]) = b_1 at sb1 eb1 ⊢
    refine ⟨len_show (Nat.le_of_ble_eq_true rfl), fun b2 nb2 => ?_⟩
    have sb2 : Same b_1 (L2.upd b_1 b2 (.tup [.str "b", .ref b1])) := same_new nb2
    have eb2 : L2.upd b_1 b2 (.tup [.str "b", .ref b1]) b2 = some (.tup [.str "b", .ref b1]) := upd_same
    generalize L2.upd b_1 b2 (.tup [.str "b", .ref b1]) = b_2 at sb2 eb2 ⊢
    refine ⟨len_show (Nat.le_of_ble_eq_true rfl), fun b3 nb3 => ?_⟩
    have sb3 : Same b_2 (L2.upd b_2 b3 (.tup [.int 3, .int 1])) := same_new nb3
    have eb3 : L2.upd b_2 b3 (.tup [.int 3, .int 1]) b3 = some (.tup [.int 3, .int 1]) := upd_same
    generalize L2.upd b_2 b3 (.tup [.int 3, .int 1]) = b_3 at sb3 eb3 ⊢
    refine ⟨len_show (Nat.le_of_ble_eq_true rfl), fun b4 nb4 => ?_⟩
    have sb4 : Same b_3 (L2.upd b_3 b4 (.tup [.str "c", .ref b3])) := same_new nb4
    have eb4 : L2.upd b_3 b4 (.tup [.str "c", .ref b3]) b4 = some (.tup [.str "c", .ref b3]) := upd_same
    generalize L2.upd b_3 b4 (.tup [.str "c", .ref b3]) = b_4 at sb4 eb4 ⊢
    refine ⟨len_show (Nat.le_of_ble_eq_true rfl), fun b5 nb5 => ?_⟩
    have sb5 : Same b_4 (L2.upd b_4 b5 (.lst [.ref b2, .ref b4])) := same_new nb5
    have eb5 : L2.upd b_4 b5 (.lst [.ref b2, .ref b4]) b5 = some (.lst [.ref b2, .ref b4]) := upd_same
    generalize L2.upd b_4 b5 (.lst [.ref b2, .ref b4]) = b_5 at sb5 eb5 ⊢
    have hRb : RwsAt K b_5 [.ref b2, .ref b4] rs2 := .cons ⟨b2, .ref b1, rfl, .inl (.inl (sb5 _ _ (sb4 _ _ (sb3 _ _ eb2)))), AtK.of (sb5 _ _ (sb4 _ _ (sb3 _ _ (sb2 _ _ eb1))))⟩ (.cons ⟨b4, .ref b3, rfl, .inl (.inl (sb5 _ _ eb4)), AtK.of (sb5 _ _ (sb4 _ _ eb3))⟩ .nil)
    have sb := (((sb1.trans sb2).trans sb3).trans sb4).trans sb5
    have s06 := (((s03.trans s4).trans s5).trans sb)
    refine ⟨.list (rs2.map rwD), .list (rs2.map rwD), .lst (.inl (.inl (sb _ _ e5))) (RwsAt.dps (hA5.same sb)), .lst (.inl (.inl eb5)) (RwsAt.dps hRb), by decide +kernel, by decide +kernel, _, rfl, ?_⟩
    rw [show PyData.eqv (.list (rs2.map rwD)) (.list (rs2.map rwD)) = true by decide +kernel]
    refine iteF ?_
    refine ⟨_, rfl, vc, dc, rfl, hc.same s06, _, rfl, ite2 (fun e => ?_) (fun e => ?_)⟩
    · obtain ⟨n, rfl, rfl⟩ := hc.whole e
      refine ⟨_, rfl, _, _, rfl, rfl, ?_⟩
      have ct : (fun i j : Int => V.bl (decide (j < i))) n 0 = V.bl (isCt (.int n)) := by
        show V.bl (decide (0 < n)) = V.bl (true && decide (1 ≤ n))
        rw [Bool.true_and]
        exact congrArg V.bl (decide_eq_decide.mpr (by omega))
      rw [ct]
      generalize hdc : PyData.int n = dc at *
      generalize hvc : V.int n = vc at *
      refine ⟨_, rfl, _, rfl, "dough", _, _, _, _, rfl, .do_ vc .non dc x z h l (hc.same s06) gc (pn.same s06) ok, fun H7 s67 => ?_⟩
      refine ⟨len_show (Nat.le_of_ble_eq_true rfl), fun LL nLL => ?_⟩
      have sLL : Same H7 (L2.upd H7 LL (.lst [.str "count", .str "made"])) := same_new nLL
      have eLL : L2.upd H7 LL (.lst [.str "count", .str "made"]) LL = some (.lst [.str "count", .str "made"]) := upd_same
      generalize L2.upd H7 LL (.lst [.str "count", .str "made"]) = H8 at sLL eLL ⊢
      obtain ⟨j, ej, hx⟩ : ∃ j : Nat, (if isCt dc = true then (1 : Int) else 0) = (j : Int) ∧ [V.str "count", V.str "made"][j]? = some (.str (if isCt dc = true then "made" else "count")) := by
        cases isCt dc
        · exact ⟨0, rfl, rfl⟩
        · exact ⟨1, rfl, rfl⟩
      refine ⟨_, rfl, .inr ⟨_, rfl, ?_⟩⟩
      rw [ej]
      refine ⟨LL, _, _, _, rfl, rfl, .inl (.inl eLL), atI_nat hx, rfl, ?_⟩
      rw [decide_eq_true rfl]
      exact k H8 ((s06.trans s67).trans sLL)
    · have cf : isW dc = false := Bool.eq_false_iff.mpr e
      have ct : isCt dc = false := by unfold isCt; rw [cf]; rfl
      rw [show V.bl false = V.bl (isCt dc) by rw [ct]]
      refine ⟨_, rfl, _, rfl, "dough", _, _, _, _, rfl, .do_ vc .non dc x z h l (hc.same s06) gc (pn.same s06) ok, fun H7 s67 => ?_⟩
      refine ⟨len_show (Nat.le_of_ble_eq_true rfl), fun LL nLL => ?_⟩
      have sLL : Same H7 (L2.upd H7 LL (.lst [.str "count", .str "made"])) := same_new nLL
      have eLL : L2.upd H7 LL (.lst [.str "count", .str "made"]) LL = some (.lst [.str "count", .str "made"]) := upd_same
      generalize L2.upd H7 LL (.lst [.str "count", .str "made"]) = H8 at sLL eLL ⊢
      obtain ⟨j, ej, hx⟩ : ∃ j : Nat, (if isCt dc = true then (1 : Int) else 0) = (j : Int) ∧ [V.str "count", V.str "made"][j]? = some (.str (if isCt dc = true then "made" else "count")) := by
        cases isCt dc
        · exact ⟨0, rfl, rfl⟩
        · exact ⟨1, rfl, rfl⟩
      refine ⟨_, rfl, .inr ⟨_, rfl, ?_⟩⟩
      rw [ej]
      refine ⟨LL, _, _, _, rfl, rfl, .inl (.inl eLL), atI_nat hx, rfl, ?_⟩
      rw [decide_eq_true rfl]
      exact k H8 ((s06.trans s67).trans sLL)

end
end Lf

set_option Elab.async false
set_option linter.all false
set_option maxRecDepth 100000
set_option maxHeartbeats 4000000
set_option exponentiation.threshold 3000
namespace Lf
open PySem PySem.Spec PyProof.Rows L2
theorem lo_13 : Lo (1, 3) := ⟨⟨by decide, by decide⟩, by decide, by decide, by decide, by decide⟩
theorem Gd.fg {d : PyData} (g : Gd d) : Fg 2000 5 d := ⟨g.sh, g.dp, g.lv, g.wt⟩
theorem show_gd {ds : List PyData} (h : ∀ d ∈ ds, Gd d) (hl : ds.length ≤ 3) : ShowA ds := by
  have r : FgA ((2000 + 1) * ds.length) 5 ds := FgA.all fun d hd => (h d hd).fg
  have r' : FgA 7000 5 ds := r.le (by omega) (Nat.le_refl _)
  exact ⟨r'.sh, Nat.le_trans r'.dp (by decide), (Fg.list r').g.ln⟩
theorem gd_wgt {f : Int × Int} (h : Bt 41 f) : Gd (tD f) := by
  have f2 : Fg 1802 1 (tD f) := (Ft.two (h.sm (by decide)).1 (h.sm (by decide)).2).fg
  refine ⟨f2.sh, Nat.le_trans f2.dp (by decide), f2.lv, Nat.le_trans f2.wt (by decide), (fun z e => nomatch e), (fun a b e => ?_), (fun n e => nomatch e)⟩
  cases e
  exact h
theorem wo_but {q : Addr} {H H' : Hp} (b : But q H H') : Same (wo q H) (wo q H') := fun c o e => wo_at (wo_not e) (b _ _ (wo_not e) (wo_le _ _ e))
theorem ixn {n k : Nat} (h : k < n) : ixN n (k : Int) = some k := by
  unfold ixN
  have h1 : ¬ (k : Int) < 0 := by omega
  simp [h1, h]
section
variable {P : Program} {w : World} {K : PySem.W.Frag} {mg : Str → Option Value} {base : Heap} {c0 c1 cw : Addr}
theorem DqAll.set {H : Hp} : ∀ {vs : List V} {ds : List PyData} (i : Nat) {v : V} {d : PyData}, DqAll K H vs ds → Dq K H v d → DqAll K H (vs.set i v) (ds.set i d)
  | _, _, _, _, _, .nil, _ => .nil
  | _, _, 0, _, _, .cons _ r, h => .cons h r
  | _, _, i + 1, _, _, .cons a r, h => .cons a (DqAll.set i r h)
/-- a pan's three, as they are now, in their list beside the pot -/
structure Spo (K : PySem.W.Frag) (H : Hp) (q a : Addr) (xs : List V) (ds : List PyData) : Prop where
  l : H a = some (.lst xs)
  ne : a ≠ q
  all : DqAll K (wo a (wo q H)) xs ds
  g : ∀ d ∈ ds, Gd d
  len : xs.length = 3
theorem Spo.but {H H' : Hp} {q a : Addr} {xs : List V} {ds : List PyData} (b : But q H H') (h : Spo K H q a xs ds) : Spo K H' q a xs ds :=
  ⟨b _ _ h.ne h.l, h.ne, DqAll.same (wo_wo (wo_but b)) h.all, h.g, h.len⟩
theorem Spo.same {H H' : Hp} {q a : Addr} {xs : List V} {ds : List PyData} (s : Same H H') (h : Spo K H q a xs ds) : Spo K H' q a xs ds :=
  h.but fun b o _ e => s b o e
theorem woo_upd {q a : Addr} {H : Hp} {o : HO} : Same (wo a (wo q H)) (wo a (wo q (L2.upd H a o))) := fun b u e => by
  have n1 := wo_not e
  have e2 := wo_le _ _ e
  have n2 := wo_not e2
  exact wo_at n1 (wo_at n2 (by rw [upd_ne n1]; exact wo_le _ _ e2))
theorem Spo.set {H : Hp} {q a : Addr} {xs : List V} {ds : List PyData} (i : Nat) {v : V} {d : PyData} (h : Spo K H q a xs ds) (hv : Dq K (wo a (wo q H)) v d) (g : Gd d) : Spo K (L2.upd H a (.lst (xs.set i v))) q a (xs.set i v) (ds.set i d) :=
  ⟨upd_same, h.ne, DqAll.same woo_upd (DqAll.set i h.all hv), fun d' hd => (List.mem_or_eq_of_mem_set hd).elim (h.g d') (fun e => e ▸ g), by rw [List.length_set]; exact h.len⟩
theorem nw_sub {H H' : Hp} {q a : Addr} {xs : List V} (hP : Pot H q) (ha : H a = some (.lst xs)) : Same (nw H H') (wo a (wo q H')) := fun b o e => by
  obtain ⟨m, e'⟩ := nw_of e
  exact wo_at (fun z => by rw [z, ha] at m; cases m) (wo_at (pot_ne hP m) e')
/-- the three one by one -/
theorem Spo.three {H : Hp} {q a : Addr} {xs : List V} {ds : List PyData} (h : Spo K H q a xs ds) : ∃ v0 v1 v2 d0 d1 d2, xs = [v0, v1, v2] ∧ ds = [d0, d1, d2] ∧ Dq K (wo a (wo q H)) v0 d0 ∧ Dq K (wo a (wo q H)) v1 d1 ∧ Dq K (wo a (wo q H)) v2 d2 ∧ Gd d0 ∧ Gd d1 ∧ Gd d2 := by
  have hl := h.len
  have hA := h.all
  have hg := h.g
  match xs, ds, hA, hl with
  | _, _, .cons a0 (.cons a1 (.cons a2 .nil)), _ => exact ⟨_, _, _, _, _, _, rfl, rfl, a0, a1, a2, hg _ (by simp), hg _ (by simp), hg _ (by simp)⟩
  | _, _, .nil, e => cases e
  | _, _, .cons _ .nil, e => cases e
  | _, _, .cons _ (.cons _ .nil), e => cases e
  | _, _, .cons _ (.cons _ (.cons _ (.cons _ _))), e => simp at e
theorem atk_wo {H : Hp} {q : Addr} {xs : List V} {v : V} {f : Int × Int} (e : H q = some (.lst xs)) (h : AtK K H v f) : AtK K (wo q H) v f := by
  obtain ⟨p, rfl, hp⟩ := h
  refine ⟨p, rfl, ?_⟩
  rcases hp with (h | ⟨ob, h⟩) | h
  · exact .inl (.inl (wo_at (fun z => by rw [z, e] at h; cases h) h))
  · exact .inl (.inr ⟨ob, wo_at (fun z => by rw [z, e] at h; cases h) h⟩)
  · exact .inr h
theorem pn_wo {H : Hp} {q C x : Addr} {xs : List V} {z : Str} {h l : Int × Int} (e : H q = some (.lst xs)) (p : Pn K H C x z h l) : Pn K (wo q H) C x z h l := by
  obtain ⟨dx, vh, vl, h1, h2, h3⟩ := p
  exact ⟨dx, vh, vl, wo_at (fun z => by rw [z, e] at h1; cases h1) h1, atk_wo e h2, atk_wo e h3⟩
theorem woo_le {q a : Addr} {H : Hp} : Same (wo a (wo q H)) H := fun b o e => wo_le _ _ (wo_le _ _ e)

/-! ### law -/
theorem sc_law : FnScope ["_law_script", "_law_k", "_law_pot_here", "_law_told", "_law_good", "_law_turn", "_law_before", "_law_at"] ["_law_script"] (defScope s_law) := ⟨rfl, rfl, rfl, by decide +kernel, rfl, by decide +kernel, by decide +kernel⟩
def sp_law (K : PySem.W.Frag) : Sp := fun vs H Q _ => ∃ (a : Addr) (ns : List Int), vs = [.ref a] ∧ SqL K H a (ns.map V.int) ∧ ns.length ≤ 63 ∧ ∀ H', Q (.bl true) H'
set_option maxHeartbeats 16000000 in
theorem ok_law {f CP CD fP : Addr} {fd fdP : FuncData} {g0 : List Value → List Value → List Value} (M : Blt mg) (h_all : KBn K fdP ["self", "name", "holds", "loss"] (3 + 1) [] g0 (fun vs zs => gAll vs [.non] zs)) (MPP : MakG P w K mg base CX0 6 "Pan" CP fP fdP ["self", "name", "holds", "loss"] (sp_pinit K CP)) (F : Fun K "law" "law" s_law f fd) (C__law_cell : Cal P w K mg base CX0 1 "_law_cell" ["_law_script", "_law_k"] (sp_cell K)) (C__law_pot : Cal P w K mg base CX0 1 "_law_pot" ["_law_cell_here"] (sp_pot)) (C__law_draw : Cal P w K mg base CX0 1 "_law_draw" ["_law_pot_here", "_law_many"] (sp_draw)) (C__law_some : Cal P w K mg base CX0 2 "_law_some" ["_law_pot_here"] (sp_wsome K))
    (C__law_odd_name : Cal P w K mg base CX0 2 "_law_odd_name" ["_law_pot_here"] (sp_oddn K)) (C__law_odd_weight : Cal P w K mg base CX0 2 "_law_odd_weight" ["_law_pot_here"] (sp_oddw K)) (C__law_odd_count : Cal P w K mg base CX0 2 "_law_odd_count" ["_law_pot_here"] (sp_oddc K)) (C__law_wrong : Cal P w K mg base CX0 4 "_law_wrong" ["_law_told"] (sp_wrong K)) (C__law_done : Cal P w K mg base CX0 10 "_law_done" ["_law_deed", "_law_one", "_law_other", "_law_third"] (sp_done K CP CD)) (C__law_deeds_right : Cal P w K mg base CX0 11 "_law_deeds_right" ["_law_weight", "_law_count", "_law_pan"] (sp_deeds K CP)) : FnG P w K mg base CX0 12 f fd ["_law_script"] (sp_law K) := by
  refine Gfun F sc_law (fun vs H Q E h => ?_) (fun cdv A outer s H vs Q E hg hr h => ?_)
  · obtain ⟨a, ns, rfl, _⟩ := h
    rfl
  · obtain ⟨a, ns, rfl, hS, hl, k⟩ := h
    refine ⟨_, (pss_cons (ps_for PassesOwn.never rfl (pi_range1 rfl M.range (pa_cons (pe_callB (call_max2 rfl) rfl M.max bt_max (pa_cons pe_int (pa_cons (pe_callB (call_min2 rfl) rfl M.min bt_min (pa_cons pe_int (pa_cons (pe_callB call_len_seq rfl M.len bt_len (pa_cons (pv 0) pa_nil)) pa_nil))) pa_nil))) pa_nil)) (pg_name (i := 1) sc_law.nd rfl (.inl rfl))
      (pss_cons (ps_set (i := 2) sc_law.nd rfl (.inl rfl) (pe_g C__law_pot (hr.mono (by decide)) hg (pa_cons (pe_g C__law_cell (hr.mono (by decide)) hg (pa_cons (pv 0) (pa_cons (pv 1) pa_nil))) pa_nil)))
      (pss_cons (ps_set (i := 3) sc_law.nd rfl (.inl rfl) (pe_lst (pa_cons pe_str (pa_cons (pe_g C__law_some (hr.mono (by decide)) hg (pa_cons (pv 2) pa_nil)) (pa_cons (pe_ix ix_list (pe_lst (pa_cons pe_non (pa_cons (pe_tup (pa_cons pe_int (pa_cons pe_int pa_nil))) (pa_cons (pe_tup (pa_cons pe_int (pa_cons pe_int pa_nil))) pa_nil)))) (pe_g C__law_draw (hr.mono (by decide)) hg (pa_cons (pv 2) (pa_cons pe_int pa_nil))) (fun _ _ => rfl)) pa_nil)))))
      (pss_cons (ps_set (i := 4) sc_law.nd rfl (.inl rfl) (pe_mkG MPP h_all (hr.mono (by decide)) hg (fun _ => pass_no) (pa_cons (pe_ix ix_list (pv 3) pe_int (fun _ _ => rfl)) (pa_cons (pe_ix ix_list (pv 3) pe_int (fun _ _ => rfl)) (pa_cons (pe_ix ix_list (pv 3) pe_int (fun _ _ => rfl)) pa_nil)))))
      (pss_cons (ps_for PassesOwn.never rfl (pi_range1 rfl M.range (pa_cons (pe_op op_add pe_int (pe_g C__law_draw (hr.mono (by decide)) hg (pa_cons (pv 2) (pa_cons pe_int pa_nil)))) pa_nil)) (pg_name (i := 5) sc_law.nd rfl (.inl rfl))
      (pss_cons (ps_set (i := 7) sc_law.nd rfl (.inl rfl) (pe_g C__law_draw (hr.mono (by decide)) hg (pa_cons (pv 2) (pa_cons pe_int pa_nil))))
      (pss_one (ps_asg (pe_ix ix_list (pe_lst (pa_cons (pe_g C__law_odd_name (hr.mono (by decide)) hg (pa_cons (pv 2) pa_nil)) (pa_cons (pe_g C__law_odd_weight (hr.mono (by decide)) hg (pa_cons (pv 2) pa_nil)) (pa_cons (pe_g C__law_odd_weight (hr.mono (by decide)) hg (pa_cons (pv 2) pa_nil)) pa_nil)))) (pv 7) (fun _ _ => rfl)) (pg_sub (pv 3) (pv 7) set_list)))))
      (pss_cons (ps_set (i := 6) sc_law.nd rfl (.inl rfl) (pe_callB (call_showQ hg hr) rfl M.repr bt_repr (pa_cons (pv 3) pa_nil)))
      (pss_cons (ps_if (pt_cmpR op_ne (pe_g C__law_done (hr.mono (by decide)) hg (pa_cons pe_str (pa_cons (pe_ix ix_list (pv 3) pe_int (fun _ _ => rfl)) (pa_cons (pe_ix ix_list (pv 3) pe_int (fun _ _ => rfl)) (pa_cons (pe_ix ix_list (pv 3) pe_int (fun _ _ => rfl)) pa_nil))))) (pe_g C__law_wrong (hr.mono (by decide)) hg (pa_cons (pv 3) pa_nil)) (nomark _))
      (pss_one (ps_ret pe_bl))
      pss_nil)
      (pss_cons (ps_if (PW.pt (pw_or (pt_cmpR op_ne (pe_g C__law_done (hr.mono (by decide)) hg (pa_cons pe_str (pa_cons (pe_ix ix_list (pv 3) pe_int (fun _ _ => rfl)) (pa_cons (pe_ix ix_list (pv 3) pe_int (fun _ _ => rfl)) (pa_cons (pe_ix ix_list (pv 3) pe_int (fun _ _ => rfl)) pa_nil))))) (pe_g C__law_wrong (hr.mono (by decide)) hg (pa_cons (pv 3) pa_nil)) (nomark _)) (pw_or1 (pt_cmpR op_ne (pe_callB (call_showQ hg hr) rfl M.repr bt_repr (pa_cons (pv 3) pa_nil)) (pv 6) (nomark _)))))
      (pss_one (ps_ret pe_bl))
      pss_nil)
      (pss_one (ps_for PassesOwn.never rfl (pi_range1 rfl M.range (pa_cons pe_int pa_nil)) (pg_name (i := 5) sc_law.nd rfl (.inl rfl))
      (pss_one (ps_if (pt_not (pt_val (pe_g C__law_deeds_right (hr.mono (by decide)) hg (pa_cons (pe_g C__law_odd_weight (hr.mono (by decide)) hg (pa_cons (pv 2) pa_nil)) (pa_cons (pe_g C__law_odd_count (hr.mono (by decide)) hg (pa_cons (pv 2) pa_nil)) (pa_cons (pv 4) pa_nil))))))
      (pss_one (ps_ret pe_bl))
      pss_nil))))))))))))
      (pss_one (ps_ret pe_bl))), ?_⟩
    refine ⟨_, rfl, a, _, rfl, .inl hS, _, _, rfl, _, _, rfl, _, rfl, ?_, ?_, ?_⟩
    · split <;> split <;> omega
    · split <;> split <;> omega
    generalize hN : Int.toNat _ = N
    have hN2 : N ≤ 64 := by
      rw [← hN]
      split <;> split <;> omega
    refine for_range (lo := 0) (n := N) (fun i σ H' => ∃ (y1 y2 y3 y4 y5 y6 y7 : Option V), σ = [some (.ref a), y1, y2, y3, y4, y5, y6, y7] ∧ Same H H') ⟨_, _, _, _, _, _, _, rfl, same_rfl⟩ ?_ ?_
    · rintro i σ H1 hi ⟨y1, y2, y3, y4, y5, y6, y7, rfl, s1⟩
      refine ⟨_, rfl, _, rfl, a, ns, i, (by show [V.ref a, V.int (0 + (i : Int))] = _; rw [Int.zero_add]), sm_l s1 hS, by omega, fun c => ?_⟩
      refine ⟨c, rfl, fun x0 y0 q y00 y0l nq => ?_⟩
      have P2 : Pot (L2.upd H1 q (.lst [.int x0, .int y0])) q := ⟨x0, y0, y00, y0l, upd_same⟩
      have s2 : Same H1 (L2.upd H1 q (.lst [.int x0, .int y0])) := same_new nq
      generalize L2.upd H1 q (.lst [.int x0, .int y0]) = H2 at P2 s2 ⊢
      refine ⟨_, rfl, q, rfl, P2, fun vf ff H3 wf af P3 b3 => ?_⟩
      refine ⟨len_show (Nat.le_of_ble_eq_true rfl), fun t1 nt1 => ?_⟩
      have s4 : Same H3 (L2.upd H3 t1 (.tup [.int 0, .int 1])) := same_new nt1
      have e4 : L2.upd H3 t1 (.tup [.int 0, .int 1]) t1 = some (.tup [.int 0, .int 1]) := upd_same
      generalize L2.upd H3 t1 (.tup [.int 0, .int 1]) = H4 at s4 e4 ⊢
      refine ⟨len_show (Nat.le_of_ble_eq_true rfl), fun t2 nt2 => ?_⟩
      have s5 : Same H4 (L2.upd H4 t2 (.tup [.int 1, .int 3])) := same_new nt2
      have e5 : L2.upd H4 t2 (.tup [.int 1, .int 3]) t2 = some (.tup [.int 1, .int 3]) := upd_same
      generalize L2.upd H4 t2 (.tup [.int 1, .int 3]) = H5 at s5 e5 ⊢
      refine ⟨len_show (Nat.le_of_ble_eq_true rfl), fun tm ntm => ?_⟩
      have s6 : Same H5 (L2.upd H5 tm (.lst [.non, .ref t1, .ref t2])) := same_new ntm
      have e6 : L2.upd H5 tm (.lst [.non, .ref t1, .ref t2]) tm = some (.lst [.non, .ref t1, .ref t2]) := upd_same
      generalize L2.upd H5 tm (.lst [.non, .ref t1, .ref t2]) = H6 at s6 e6 ⊢
      have s36 := (s4.trans s5).trans s6
      have P6 := pot_same P3 s36
      have n1 : t1 ≠ q := pot_ne P3 nt1
      have n2 : t2 ≠ q := pot_ne (pot_same P3 s4) nt2
      have nm : tm ≠ q := pot_ne (pot_same P3 (s4.trans s5)) ntm
      refine ⟨_, rfl, q, 3, rfl, by decide, by decide, P6, fun c3 H7 c30 c31 P7 b7 => ?_⟩
      obtain ⟨cn, rfl⟩ : ∃ cn : Nat, c3 = (cn : Int) := ⟨c3.toNat, by omega⟩
      have g1 : H7 t1 = some (.tup [.int 0, .int 1]) := b7 _ _ n1 (s6 _ _ (s5 _ _ e4))
      have g2 : H7 t2 = some (.tup [.int 1, .int 3]) := b7 _ _ n2 (s6 _ _ e5)
      obtain ⟨vl, dl, ll, hvl, ol, lol, gdl, dql⟩ : ∃ vl dl ll, [V.non, .ref t1, .ref t2][cn]? = some vl ∧ (∀ G, Same H7 G → Opt K G vl ll) ∧ Lo ll ∧ Gd dl ∧ Dq K (wo q H7) vl dl := by
        match cn, c31 with
        | 0, _ => exact ⟨.non, .none, f0, rfl, fun G _ => .inl ⟨rfl, rfl⟩, lo_f0, gd_good (by decide +kernel), .dp .non rfl⟩
        | 1, _ => exact ⟨.ref t1, tD (0, 1), (0, 1), rfl, fun G s => .inr ((AtK.of (f := (0, 1)) g1).same s), lo_f0, gd_good (by decide +kernel), (AtK.of (f := (0, 1)) (wo_at n1 g1)).dq⟩
        | 2, _ => exact ⟨.ref t2, tD (1, 3), (1, 3), rfl, fun G s => .inr ((AtK.of (f := (1, 3)) g2).same s), lo_13, gd_good (by decide +kernel), (AtK.of (f := (1, 3)) (wo_at n2 g2)).dq⟩
        | n + 3, h => exact absurd h (by omega)
      refine ⟨tm, _, _, _, rfl, rfl, .inl (.inl (b7 _ _ nm e6)), atI_nat (j := cn) hvl, ?_⟩
      refine ⟨len_show (Nat.le_of_ble_eq_true rfl), fun tl ntl => ?_⟩
      have af7 : AtK K H7 vf ff := (af.same s36).but b7 P6
      obtain ⟨u1, u2, _, _, eq7⟩ := id P7
      have afw : AtK K (wo q H7) vf ff := atk_wo eq7 af7
      have ntq : tl ≠ q := pot_ne P7 ntl
      have wn : Same (wo q H7) (wo tl (wo q (L2.upd H7 tl (.lst [.str "zz", vf, vl])))) := fun b o e => by
        have nb := wo_not e
        have e' := wo_le _ _ e
        have nt : b ≠ tl := ne_of_none e' ntl
        exact wo_at nt (wo_at nb (by rw [upd_ne nt]; exact e'))
      have S8 : Spo K (L2.upd H7 tl (.lst [.str "zz", vf, vl])) q tl [.str "zz", vf, vl] [.str "zz", tD ff, dl] := by
        refine ⟨upd_same, ntq, .cons (.dp (.str _) rfl) (.cons (afw.same wn).dq (.cons (dql.same wn) .nil)), fun d hd => ?_, rfl⟩
        simp only [List.mem_cons, List.not_mem_nil, or_false] at hd
        rcases hd with rfl | rfl | rfl
        · exact gd_good (by decide +kernel)
        · exact gd_wgt wf.b
        · exact gdl
      have s8 : Same H7 (L2.upd H7 tl (.lst [.str "zz", vf, vl])) := same_new ntl
      have P8 := pot_same P7 s8
      have af8 := af7.same s8
      have ol8 := ol _ s8
      generalize L2.upd H7 tl (.lst [.str "zz", vf, vl]) = H8 at S8 s8 P8 af8 ol8 ⊢
      have okP : PanOk "zz" ff ll := ⟨al1 _ (by decide +kernel), by decide +kernel, by decide +kernel, wf.lo, wf.p, wf.b.mono (by decide), lol⟩
      refine ⟨_, rfl, tl, _, _, _, rfl, rfl, .inl (.inl S8.l), atI_nat (j := 0) rfl, _, rfl, tl, _, _, _, rfl, rfl, .inl (.inl S8.l), atI_nat (j := 1) rfl, _, rfl, tl, _, _, _, rfl, rfl, .inl (.inl S8.l), atI_nat (j := 2) rfl, rfl, rfl, fun xg dxg nxg ndg hdx => ⟨xg, dxg, H8, "zz", vf, vl, ff, ll, rfl, nxg, ndg, hdx, rfl, af8, ol8, okP, fun H9 s9 pn9 => ⟨rfl, ?_⟩⟩⟩
      have S9 := S8.same s9
      have P9 := pot_same P8 s9
      obtain ⟨u3, u4, _, _, eq9⟩ := id P9
      have pw9 : Pn K (wo tl (wo q H9)) CP xg "zz" ff ll := pn_wo (wo_at S9.ne S9.l) (pn_wo eq9 pn9)
      have nb1 : ∀ {b o}, H1 b = some o → b ≠ q := fun e => ne_of_none e nq
      have k17 : Same H1 H7 := fun b o e => b7 _ _ (nb1 e) (s36 _ _ (b3 _ _ (nb1 e) (s2 _ _ e)))
      have nt1' : ∀ {b o}, H1 b = some o → b ≠ tl := fun e => ne_of_none (k17 _ _ e) ntl
      have k19 : Same H1 H9 := (k17.trans s8).trans s9
      have potk : ∀ {H' : Hp} (o : HO), Pot H' q → Pot (L2.upd H' tl o) q := fun o h => by
        obtain ⟨x, y, h1, h2, e⟩ := h
        exact ⟨x, y, h1, h2, by rw [upd_ne (Ne.symm ntq)]; exact e⟩
      refine ⟨_, rfl, q, 3, rfl, by decide, by decide, P9, fun n H10 n0 n1 P10 b10 => ?_⟩
      have nb19 : ∀ {b o}, H1 b = some o → b ≠ q := nb1
      refine ⟨_, _, rfl, rfl, 1 + n, rfl, by omega, by omega, for_range (lo := 0) (n := (1 + n).toNat) (fun j σ H' => ∃ (y5 y6 y7 : Option V) (xs : List V) (ds : List PyData), σ = [some (.ref a), some (.int (0 + (i : Int))), some (.ref q), some (.ref tl), some (.ref xg), y5, y6, y7] ∧ Spo K H' q tl xs ds ∧ Pot H' q ∧ Pn K (wo tl (wo q H')) CP xg "zz" ff ll ∧ Same H1 H')
        ⟨_, _, _, _, _, rfl, S9.but b10, P10, pw9.same (wo_wo (wo_but b10)), fun b o e => b10 _ _ (nb1 e) (k19 _ _ e)⟩ ?_ ?_⟩
      · rintro j σ Ha hj ⟨y5, y6, y7, xs, ds, rfl, Sa, Pa, pwa, ka⟩
        refine ⟨_, rfl, q, 3, rfl, by decide, by decide, Pa, fun at_ Hb a0 a1 Pb bb => ?_⟩
        obtain ⟨an, rfl⟩ : ∃ an : Nat, at_ = (an : Int) := ⟨at_.toNat, by omega⟩
        have han : an < 3 := by omega
        have Sb := Sa.but bb
        refine ⟨_, rfl, q, rfl, Pb, fun v0 d0 Hc hv0 gd0 Pc bc => ⟨_, rfl, q, rfl, Pc, fun v1 d1 Hd hv1 gd1 Pd bd => ⟨_, rfl, q, rfl, Pd, fun v2 d2 He hv2 gd2 Pe be => ?_⟩⟩⟩
        have Sc := Sb.but bc
        have Sd := Sc.but bd
        have Se := Sd.but be
        refine ⟨len_show (Nat.le_of_ble_eq_true rfl), fun tn ntn => ?_⟩
        have sf : Same He (L2.upd He tn (.lst [v0, v1, v2])) := same_new ntn
        have ef : L2.upd He tn (.lst [v0, v1, v2]) tn = some (.lst [v0, v1, v2]) := upd_same
        generalize L2.upd He tn (.lst [v0, v1, v2]) = Hf at sf ef ⊢
        have Sf := Se.same sf
        have toE : ∀ {G G' : Hp}, But q G G' → Same (wo tl (wo q G)) (wo tl (wo q G')) := fun b => wo_wo (wo_but b)
        have toF : Same (wo tl (wo q He)) (wo tl (wo q Hf)) := wo_wo (wo_wo sf)
        obtain ⟨v, d, hv, gd, hq⟩ : ∃ v d, [v0, v1, v2][an]? = some v ∧ Gd d ∧ Dq K (wo tl (wo q Hf)) v d := by
          match an, han with
          | 0, _ => exact ⟨v0, d0, rfl, gd0, ((hv0.same (nw_sub Pb Sb.l)).same (toE (bd.trans be))).same toF⟩
          | 1, _ => exact ⟨v1, d1, rfl, gd1, ((hv1.same (nw_sub Pc Sc.l)).same (toE be)).same toF⟩
          | 2, _ => exact ⟨v2, d2, rfl, gd2, (hv2.same (nw_sub Pd Sd.l)).same toF⟩
          | m + 3, h => exact absurd h (by omega)
        have bf := (((bb.trans bc).trans bd).trans be)
        refine ⟨_, rfl, tn, _, _, _, rfl, rfl, .inl (.inl ef), atI_nat (j := an) hv, _, rfl, _, rfl, tl, xs, _, an, rfl, rfl, Sf.l, ixn (by rw [Sf.len]; exact han), ?_⟩
        refine ⟨_, _, _, _, _, rfl, Sf.set an hq gd, potk _ (pot_same Pe sf), ((pwa.same (toE bf)).same toF).same woo_upd, fun b o e => ?_⟩
        rw [upd_ne (nt1' e)]
        exact sf _ _ (bf _ _ (nb1 e) (ka _ _ e))
      · rintro σ Ha ⟨y5, y6, y7, xs, ds, rfl, Sa, Pa, pwa, ka⟩
        obtain ⟨v0, v1, v2, d0, d1, d2, rfl, rfl, q0, q1, q2, g0', g1', g2'⟩ := Sa.three
        have sh := show_gd Sa.g (Nat.le_refl _)
        have reprA : ∀ {G}, Same Ha G → SqL K G tl [v0, v1, v2] ∧ DqAll K G [v0, v1, v2] [d0, d1, d2] := fun s => ⟨.inl (.inl (s _ _ Sa.l)), DqAll.same s (DqAll.same woo_le Sa.all)⟩
        refine ⟨_, rfl, tl, v0, [v1, v2], [d0, d1, d2], rfl, (reprA same_rfl).1, (reprA same_rfl).2, sh.sh, sh.dp, sh.ln, ?_⟩
        generalize hbf : PyData.shown (.list [d0, d1, d2]) = bf
        have IXl : SqL K Ha tl [v0, v1, v2] := (reprA same_rfl).1
        have dq : ∀ {G}, Same Ha G → Dq K G v0 d0 ∧ Dq K G v1 d1 ∧ Dq K G v2 d2 := fun s => ⟨(q0.same woo_le).same s, (q1.same woo_le).same s, (q2.same woo_le).same s⟩
        obtain ⟨e0, e1, e2⟩ := dq same_rfl
        refine ⟨_, rfl, tl, _, _, _, rfl, rfl, IXl, atI_nat (j := 0) rfl, _, rfl, tl, _, _, _, rfl, rfl, IXl, atI_nat (j := 1) rfl, _, rfl, tl, _, _, _, rfl, rfl, IXl, atI_nat (j := 2) rfl, "pan", _, v0, v1, v2, rfl, .pan v0 v1 v2 d0 d1 d2 e0 e1 e2 g0' g1' g2', fun Hb sb => ?_⟩
        obtain ⟨f0', f1', f2'⟩ := dq sb
        refine ⟨_, rfl, tl, v0, v1, v2, d0, d1, d2, rfl, (reprA sb).1, f0', f1', f2', g0', g1', g2', fun Hc sc => ?_⟩
        have sac := sb.trans sc
        refine ⟨rfl, _, rfl, iteNS rfl ?_⟩
        have IXc := (reprA sac).1
        obtain ⟨h0', h1', h2'⟩ := dq sac
        refine ⟨_, rfl, tl, _, _, _, rfl, rfl, IXc, atI_nat (j := 0) rfl, _, rfl, tl, _, _, _, rfl, rfl, IXc, atI_nat (j := 1) rfl, _, rfl, tl, _, _, _, rfl, rfl, IXc, atI_nat (j := 2) rfl, "for", _, v0, v1, v2, rfl, .fo v0 v1 v2 d0 d1 d2 h0' h1' h2' g0' g1' g2', fun Hd sd => ?_⟩
        have sad := sac.trans sd
        obtain ⟨i0', i1', i2'⟩ := dq sad
        refine ⟨_, rfl, tl, v0, v1, v2, d0, d1, d2, rfl, (reprA sad).1, i0', i1', i2', g0', g1', g2', fun He se => ?_⟩
        have sae := sad.trans se
        refine ⟨rfl, _, rfl, iteNS rfl ?_⟩
        refine ⟨_, rfl, tl, v0, [v1, v2], [d0, d1, d2], rfl, (reprA sae).1, (reprA sae).2, sh.sh, sh.dp, sh.ln, _, rfl, rfl, _, rfl, iteNS (by rw [hbf]) ?_⟩
        have Pe := pot_same Pa sae
        have pwe : Pn K (wo tl (wo q He)) CP xg "zz" ff ll := pwa.same (wo_wo (wo_wo sae))
        have ke : Same H1 He := ka.trans sae
        refine ⟨3, rfl, by decide, by decide, for_range (lo := 0) (n := 3) (fun j σ H' => ∃ (y5 y7 : Option V), σ = [some (.ref a), some (.int (0 + (i : Int))), some (.ref q), some (.ref tl), some (.ref xg), y5, some (.str bf), y7] ∧ Pot H' q ∧ Pn K (wo tl (wo q H')) CP xg "zz" ff ll ∧ Same H1 H')
          ⟨_, _, rfl, Pe, pwe, ke⟩ ?_ ?_⟩
        · rintro j σ Ga hj ⟨y5, y7, rfl, Pga, pga, kga⟩
          refine ⟨_, rfl, q, rfl, Pga, fun vw dw Gb hw gw Pgb bgb => ⟨_, rfl, q, rfl, Pgb, fun vc dc Gc hc gc Pgc bgc => ?_⟩⟩
          have nwle : ∀ {A B : Hp}, Same (nw A B) B := fun b o e => (nw_of e).2
          have hw2 : Dq K Gc vw dw := by
            obtain ⟨u5, u6, _, _, eqa⟩ := id Pga
            have s1 : Same (nw Ga Gb) (wo q Gb) := fun b o e => by
              obtain ⟨m, e'⟩ := nw_of e
              exact wo_at (pot_ne Pga m) e'
            exact ((hw.same s1).same (wo_but bgc)).same wo_le
          refine ⟨_, rfl, vw, vc, dw, dc, xg, "zz", ff, ll, rfl, hw2, hc.same nwle, gw, gc, (pga.same (wo_wo (wo_but (bgb.trans bgc)))).same woo_le, okP, fun Gd sgd => ⟨_, rfl, iteF ?_⟩⟩
          refine ⟨_, _, rfl, pot_same Pgc sgd, (pga.same (wo_wo (wo_but (bgb.trans bgc)))).same (wo_wo (wo_wo sgd)), fun b o e => sgd _ _ (bgc _ _ (nb1 e) (bgb _ _ (nb1 e) (kga _ _ e)))⟩
        · rintro σ Ga ⟨y5, y7, rfl, Pga, pga, kga⟩
          exact ⟨_, _, _, _, _, _, _, rfl, s1.trans kga⟩
    · rintro σ H1 ⟨y1, y2, y3, y4, y5, y6, y7, rfl, s1⟩
      exact k H1

end
end Lf

set_option Elab.async false
set_option linter.all false
set_option maxRecDepth 100000
set_option maxHeartbeats 8000000
namespace Lf
open PySem PySem.Spec PyProof.Rows L2
theorem bp_0 {x q : Str} {p0 : Pos} {body : List Stmt} {sc : Scope} {kV doc pm : Value} {an : Option Addr} {cdv ct : Value} (s : Shared) (us : List Value) (hl : us.length = 1) : BindsTo s (PySem.W.fnOf x q (plainA [{ arg := "thing", annotation := none, pos := p0 }]) body sc .none kV doc pm an cdv ct) ⟨us, []⟩ ((["thing"] : List Str).zip us) := .of_eq (match us, hl with | [_], _ => rfl)
theorem df_is_whole {K : PySem.W.Frag} {mg : Str → Option Value} {f : Addr} {fd : FuncData} (F : FunD K "is_whole" "is_whole" (defArgs s_is_whole) (defBody s_is_whole) (defScope s_is_whole) [] [] f fd) (g : mg "is_whole" = some (.ref f)) : Df K mg "is_whole" s_is_whole ["thing"] f fd := by
  obtain ⟨kV, doc, pm, an, cdv, ct, rfl, F⟩ := fun_of F
  have ⟨p0, ea⟩ : ∃ p0 : Pos, defArgs s_is_whole = plainA [{ arg := "thing", annotation := none, pos := p0 }] := ⟨_, rfl⟩
  exact ⟨F, g, by rw [ea]; exact bp_0, no_kw (by decide +kernel), no_kw (by decide +kernel)⟩
theorem bp_1 {x q : Str} {p0 p1 : Pos} {body : List Stmt} {sc : Scope} {kV doc pm : Value} {an : Option Addr} {cdv ct : Value} (s : Shared) (us : List Value) (hl : us.length = 2) : BindsTo s (PySem.W.fnOf x q (plainA [{ arg := "one", annotation := none, pos := p0 }, { arg := "other", annotation := none, pos := p1 }]) body sc .none kV doc pm an cdv ct) ⟨us, []⟩ ((["one", "other"] : List Str).zip us) := .of_eq (match us, hl with | [_, _], _ => rfl)
theorem df_common {K : PySem.W.Frag} {mg : Str → Option Value} {f : Addr} {fd : FuncData} (F : FunD K "common" "common" (defArgs sCom) (defBody sCom) (defScope sCom) [] [] f fd) (g : mg "common" = some (.ref f)) : Df K mg "common" sCom ["one", "other"] f fd := by
  obtain ⟨kV, doc, pm, an, cdv, ct, rfl, F⟩ := fun_of F
  have ⟨p0, p1, ea⟩ : ∃ p0 p1 : Pos, defArgs sCom = plainA [{ arg := "one", annotation := none, pos := p0 }, { arg := "other", annotation := none, pos := p1 }] := ⟨_, _, rfl⟩
  exact ⟨F, g, by rw [ea]; exact bp_1, no_kw (by decide +kernel), no_kw (by decide +kernel)⟩
theorem bp_2 {x q : Str} {p0 p1 : Pos} {body : List Stmt} {sc : Scope} {kV doc pm : Value} {an : Option Addr} {cdv ct : Value} (s : Shared) (us : List Value) (hl : us.length = 2) : BindsTo s (PySem.W.fnOf x q (plainA [{ arg := "top", annotation := none, pos := p0 }, { arg := "bottom", annotation := none, pos := p1 }]) body sc .none kV doc pm an cdv ct) ⟨us, []⟩ ((["top", "bottom"] : List Str).zip us) := .of_eq (match us, hl with | [_, _], _ => rfl)
theorem df_fraction {K : PySem.W.Frag} {mg : Str → Option Value} {f : Addr} {fd : FuncData} (F : FunD K "fraction" "fraction" (defArgs sFrac) (defBody sFrac) (defScope sFrac) [] [] f fd) (g : mg "fraction" = some (.ref f)) : Df K mg "fraction" sFrac ["top", "bottom"] f fd := by
  obtain ⟨kV, doc, pm, an, cdv, ct, rfl, F⟩ := fun_of F
  have ⟨p0, p1, ea⟩ : ∃ p0 p1 : Pos, defArgs sFrac = plainA [{ arg := "top", annotation := none, pos := p0 }, { arg := "bottom", annotation := none, pos := p1 }] := ⟨_, _, rfl⟩
  exact ⟨F, g, by rw [ea]; exact bp_2, fun _ s us hl => .of_eq (match us, hl with | [_, _], _ => rfl), fun _ s us hl => .of_eq (match us, hl with | [_, _], _ => rfl)⟩
theorem df_plus {K : PySem.W.Frag} {mg : Str → Option Value} {f : Addr} {fd : FuncData} (F : FunD K "plus" "plus" (defArgs s_plus) (defBody s_plus) (defScope s_plus) [] [] f fd) (g : mg "plus" = some (.ref f)) : Df K mg "plus" s_plus ["one", "other"] f fd := by
  obtain ⟨kV, doc, pm, an, cdv, ct, rfl, F⟩ := fun_of F
  have ⟨p0, p1, ea⟩ : ∃ p0 p1 : Pos, defArgs s_plus = plainA [{ arg := "one", annotation := none, pos := p0 }, { arg := "other", annotation := none, pos := p1 }] := ⟨_, _, rfl⟩
  exact ⟨F, g, by rw [ea]; exact bp_1, fun _ s us hl => .of_eq (match us, hl with | [_, _], _ => rfl), fun _ s us hl => .of_eq (match us, hl with | [_, _], _ => rfl)⟩
theorem df_minus {K : PySem.W.Frag} {mg : Str → Option Value} {f : Addr} {fd : FuncData} (F : FunD K "minus" "minus" (defArgs s_minus) (defBody s_minus) (defScope s_minus) [] [] f fd) (g : mg "minus" = some (.ref f)) : Df K mg "minus" s_minus ["one", "other"] f fd := by
  obtain ⟨kV, doc, pm, an, cdv, ct, rfl, F⟩ := fun_of F
  have ⟨p0, p1, ea⟩ : ∃ p0 p1 : Pos, defArgs s_minus = plainA [{ arg := "one", annotation := none, pos := p0 }, { arg := "other", annotation := none, pos := p1 }] := ⟨_, _, rfl⟩
  exact ⟨F, g, by rw [ea]; exact bp_1, fun _ s us hl => .of_eq (match us, hl with | [_, _], _ => rfl), fun _ s us hl => .of_eq (match us, hl with | [_, _], _ => rfl)⟩
theorem df_times {K : PySem.W.Frag} {mg : Str → Option Value} {f : Addr} {fd : FuncData} (F : FunD K "times" "times" (defArgs s_times) (defBody s_times) (defScope s_times) [] [] f fd) (g : mg "times" = some (.ref f)) : Df K mg "times" s_times ["one", "other"] f fd := by
  obtain ⟨kV, doc, pm, an, cdv, ct, rfl, F⟩ := fun_of F
  have ⟨p0, p1, ea⟩ : ∃ p0 p1 : Pos, defArgs s_times = plainA [{ arg := "one", annotation := none, pos := p0 }, { arg := "other", annotation := none, pos := p1 }] := ⟨_, _, rfl⟩
  exact ⟨F, g, by rw [ea]; exact bp_1, fun _ s us hl => .of_eq (match us, hl with | [_, _], _ => rfl), fun _ s us hl => .of_eq (match us, hl with | [_, _], _ => rfl)⟩
theorem df_over {K : PySem.W.Frag} {mg : Str → Option Value} {f : Addr} {fd : FuncData} (F : FunD K "over" "over" (defArgs s_over) (defBody s_over) (defScope s_over) [] [] f fd) (g : mg "over" = some (.ref f)) : Df K mg "over" s_over ["one", "other"] f fd := by
  obtain ⟨kV, doc, pm, an, cdv, ct, rfl, F⟩ := fun_of F
  have ⟨p0, p1, ea⟩ : ∃ p0 p1 : Pos, defArgs s_over = plainA [{ arg := "one", annotation := none, pos := p0 }, { arg := "other", annotation := none, pos := p1 }] := ⟨_, _, rfl⟩
  exact ⟨F, g, by rw [ea]; exact bp_1, fun _ s us hl => .of_eq (match us, hl with | [_, _], _ => rfl), fun _ s us hl => .of_eq (match us, hl with | [_, _], _ => rfl)⟩
theorem bp_3 {x q : Str} {p0 : Pos} {body : List Stmt} {sc : Scope} {kV doc pm : Value} {an : Option Addr} {cdv ct : Value} (s : Shared) (us : List Value) (hl : us.length = 1) : BindsTo s (PySem.W.fnOf x q (plainA [{ arg := "ones", annotation := none, pos := p0 }]) body sc .none kV doc pm an cdv ct) ⟨us, []⟩ ((["ones"] : List Str).zip us) := .of_eq (match us, hl with | [_], _ => rfl)
theorem df_together {K : PySem.W.Frag} {mg : Str → Option Value} {f : Addr} {fd : FuncData} (F : FunD K "together" "together" (defArgs s_together) (defBody s_together) (defScope s_together) [] [] f fd) (g : mg "together" = some (.ref f)) : Df K mg "together" s_together ["ones"] f fd := by
  obtain ⟨kV, doc, pm, an, cdv, ct, rfl, F⟩ := fun_of F
  have ⟨p0, ea⟩ : ∃ p0 : Pos, defArgs s_together = plainA [{ arg := "ones", annotation := none, pos := p0 }] := ⟨_, rfl⟩
  exact ⟨F, g, by rw [ea]; exact bp_3, no_kw (by decide +kernel), no_kw (by decide +kernel)⟩
theorem df_is_less {K : PySem.W.Frag} {mg : Str → Option Value} {f : Addr} {fd : FuncData} (F : FunD K "is_less" "is_less" (defArgs s_is_less) (defBody s_is_less) (defScope s_is_less) [] [] f fd) (g : mg "is_less" = some (.ref f)) : Df K mg "is_less" s_is_less ["one", "other"] f fd := by
  obtain ⟨kV, doc, pm, an, cdv, ct, rfl, F⟩ := fun_of F
  have ⟨p0, p1, ea⟩ : ∃ p0 p1 : Pos, defArgs s_is_less = plainA [{ arg := "one", annotation := none, pos := p0 }, { arg := "other", annotation := none, pos := p1 }] := ⟨_, _, rfl⟩
  exact ⟨F, g, by rw [ea]; exact bp_1, fun _ s us hl => .of_eq (match us, hl with | [_, _], _ => rfl), fun _ s us hl => .of_eq (match us, hl with | [_, _], _ => rfl)⟩
theorem bp_4 {x q : Str} {p0 : Pos} {body : List Stmt} {sc : Scope} {kV doc pm : Value} {an : Option Addr} {cdv ct : Value} (s : Shared) (us : List Value) (hl : us.length = 1) : BindsTo s (PySem.W.fnOf x q (plainA [{ arg := "one", annotation := none, pos := p0 }]) body sc .none kV doc pm an cdv ct) ⟨us, []⟩ ((["one"] : List Str).zip us) := .of_eq (match us, hl with | [_], _ => rfl)
theorem df_floor_of {K : PySem.W.Frag} {mg : Str → Option Value} {f : Addr} {fd : FuncData} (F : FunD K "floor_of" "floor_of" (defArgs s_floor_of) (defBody s_floor_of) (defScope s_floor_of) [] [] f fd) (g : mg "floor_of" = some (.ref f)) : Df K mg "floor_of" s_floor_of ["one"] f fd := by
  obtain ⟨kV, doc, pm, an, cdv, ct, rfl, F⟩ := fun_of F
  have ⟨p0, ea⟩ : ∃ p0 : Pos, defArgs s_floor_of = plainA [{ arg := "one", annotation := none, pos := p0 }] := ⟨_, rfl⟩
  exact ⟨F, g, by rw [ea]; exact bp_4, no_kw (by decide +kernel), no_kw (by decide +kernel)⟩
theorem df_is_fraction {K : PySem.W.Frag} {mg : Str → Option Value} {f : Addr} {fd : FuncData} (F : FunD K "is_fraction" "is_fraction" (defArgs s_is_fraction) (defBody s_is_fraction) (defScope s_is_fraction) [] [] f fd) (g : mg "is_fraction" = some (.ref f)) : Df K mg "is_fraction" s_is_fraction ["thing"] f fd := by
  obtain ⟨kV, doc, pm, an, cdv, ct, rfl, F⟩ := fun_of F
  have ⟨p0, ea⟩ : ∃ p0 : Pos, defArgs s_is_fraction = plainA [{ arg := "thing", annotation := none, pos := p0 }] := ⟨_, rfl⟩
  exact ⟨F, g, by rw [ea]; exact bp_0, fun _ s us hl => .of_eq (match us, hl with | [_], _ => rfl), fun _ s us hl => .of_eq (match us, hl with | [_], _ => rfl)⟩
theorem df_is_above_0 {K : PySem.W.Frag} {mg : Str → Option Value} {f : Addr} {fd : FuncData} (F : FunD K "is_above_0" "is_above_0" (defArgs s_is_above_0) (defBody s_is_above_0) (defScope s_is_above_0) [] [] f fd) (g : mg "is_above_0" = some (.ref f)) : Df K mg "is_above_0" s_is_above_0 ["thing"] f fd := by
  obtain ⟨kV, doc, pm, an, cdv, ct, rfl, F⟩ := fun_of F
  have ⟨p0, ea⟩ : ∃ p0 : Pos, defArgs s_is_above_0 = plainA [{ arg := "thing", annotation := none, pos := p0 }] := ⟨_, rfl⟩
  exact ⟨F, g, by rw [ea]; exact bp_0, no_kw (by decide +kernel), no_kw (by decide +kernel)⟩
theorem df_is_name {K : PySem.W.Frag} {mg : Str → Option Value} {f : Addr} {fd : FuncData} (F : FunD K "is_name" "is_name" (defArgs s_is_name) (defBody s_is_name) (defScope s_is_name) [] [] f fd) (g : mg "is_name" = some (.ref f)) : Df K mg "is_name" s_is_name ["thing"] f fd := by
  obtain ⟨kV, doc, pm, an, cdv, ct, rfl, F⟩ := fun_of F
  have ⟨p0, ea⟩ : ∃ p0 : Pos, defArgs s_is_name = plainA [{ arg := "thing", annotation := none, pos := p0 }] := ⟨_, rfl⟩
  exact ⟨F, g, by rw [ea]; exact bp_0, fun _ s us hl => .of_eq (match us, hl with | [_], _ => rfl), fun _ s us hl => .of_eq (match us, hl with | [_], _ => rfl)⟩
theorem df_is_row {K : PySem.W.Frag} {mg : Str → Option Value} {f : Addr} {fd : FuncData} (F : FunD K "is_row" "is_row" (defArgs s_is_row) (defBody s_is_row) (defScope s_is_row) [] [] f fd) (g : mg "is_row" = some (.ref f)) : Df K mg "is_row" s_is_row ["thing"] f fd := by
  obtain ⟨kV, doc, pm, an, cdv, ct, rfl, F⟩ := fun_of F
  have ⟨p0, ea⟩ : ∃ p0 : Pos, defArgs s_is_row = plainA [{ arg := "thing", annotation := none, pos := p0 }] := ⟨_, rfl⟩
  exact ⟨F, g, by rw [ea]; exact bp_0, no_kw (by decide +kernel), no_kw (by decide +kernel)⟩
theorem df_are_rows {K : PySem.W.Frag} {mg : Str → Option Value} {f : Addr} {fd : FuncData} (F : FunD K "are_rows" "are_rows" (defArgs s_are_rows) (defBody s_are_rows) (defScope s_are_rows) [] [] f fd) (g : mg "are_rows" = some (.ref f)) : Df K mg "are_rows" s_are_rows ["thing"] f fd := by
  obtain ⟨kV, doc, pm, an, cdv, ct, rfl, F⟩ := fun_of F
  have ⟨p0, ea⟩ : ∃ p0 : Pos, defArgs s_are_rows = plainA [{ arg := "thing", annotation := none, pos := p0 }] := ⟨_, rfl⟩
  exact ⟨F, g, by rw [ea]; exact bp_0, no_kw (by decide +kernel), no_kw (by decide +kernel)⟩
theorem df_is_lead {K : PySem.W.Frag} {mg : Str → Option Value} {f : Addr} {fd : FuncData} (F : FunD K "is_lead" "is_lead" (defArgs s_is_lead) (defBody s_is_lead) (defScope s_is_lead) [] [] f fd) (g : mg "is_lead" = some (.ref f)) : Df K mg "is_lead" s_is_lead ["thing"] f fd := by
  obtain ⟨kV, doc, pm, an, cdv, ct, rfl, F⟩ := fun_of F
  have ⟨p0, ea⟩ : ∃ p0 : Pos, defArgs s_is_lead = plainA [{ arg := "thing", annotation := none, pos := p0 }] := ⟨_, rfl⟩
  exact ⟨F, g, by rw [ea]; exact bp_0, no_kw (by decide +kernel), no_kw (by decide +kernel)⟩
theorem df_refuse_no_weight {K : PySem.W.Frag} {mg : Str → Option Value} {f : Addr} {fd : FuncData} (F : FunD K "refuse_no_weight" "refuse_no_weight" (defArgs s_refuse_no_weight) (defBody s_refuse_no_weight) (defScope s_refuse_no_weight) [] [] f fd) (g : mg "refuse_no_weight" = some (.ref f)) : Df K mg "refuse_no_weight" s_refuse_no_weight ["thing"] f fd := by
  obtain ⟨kV, doc, pm, an, cdv, ct, rfl, F⟩ := fun_of F
  have ⟨p0, ea⟩ : ∃ p0 : Pos, defArgs s_refuse_no_weight = plainA [{ arg := "thing", annotation := none, pos := p0 }] := ⟨_, rfl⟩
  exact ⟨F, g, by rw [ea]; exact bp_0, no_kw (by decide +kernel), no_kw (by decide +kernel)⟩
theorem bp_5 {x q : Str} {p0 p1 : Pos} {body : List Stmt} {sc : Scope} {kV doc pm : Value} {an : Option Addr} {cdv ct : Value} (s : Shared) (us : List Value) (hl : us.length = 2) : BindsTo s (PySem.W.fnOf x q (plainA [{ arg := "dough", annotation := none, pos := p0 }, { arg := "weight", annotation := none, pos := p1 }]) body sc .none kV doc pm an cdv ct) ⟨us, []⟩ ((["dough", "weight"] : List Str).zip us) := .of_eq (match us, hl with | [_, _], _ => rfl)
theorem df_weighed_rows {K : PySem.W.Frag} {mg : Str → Option Value} {f : Addr} {fd : FuncData} (F : FunD K "weighed_rows" "weighed_rows" (defArgs s_weighed_rows) (defBody s_weighed_rows) (defScope s_weighed_rows) [] [] f fd) (g : mg "weighed_rows" = some (.ref f)) : Df K mg "weighed_rows" s_weighed_rows ["dough", "weight"] f fd := by
  obtain ⟨kV, doc, pm, an, cdv, ct, rfl, F⟩ := fun_of F
  have ⟨p0, p1, ea⟩ : ∃ p0 p1 : Pos, defArgs s_weighed_rows = plainA [{ arg := "dough", annotation := none, pos := p0 }, { arg := "weight", annotation := none, pos := p1 }] := ⟨_, _, rfl⟩
  exact ⟨F, g, by rw [ea]; exact bp_5, no_kw (by decide +kernel), no_kw (by decide +kernel)⟩
theorem bp_6 {x q : Str} {p0 : Pos} {body : List Stmt} {sc : Scope} {kV doc pm : Value} {an : Option Addr} {cdv ct : Value} (s : Shared) (us : List Value) (hl : us.length = 1) : BindsTo s (PySem.W.fnOf x q (plainA [{ arg := "measure", annotation := none, pos := p0 }]) body sc .none kV doc pm an cdv ct) ⟨us, []⟩ ((["measure"] : List Str).zip us) := .of_eq (match us, hl with | [_], _ => rfl)
theorem df_measure_or_none_of_it {K : PySem.W.Frag} {mg : Str → Option Value} {f : Addr} {fd : FuncData} (F : FunD K "measure_or_none_of_it" "measure_or_none_of_it" (defArgs s_measure_or_none_of_it) (defBody s_measure_or_none_of_it) (defScope s_measure_or_none_of_it) [] [] f fd) (g : mg "measure_or_none_of_it" = some (.ref f)) : Df K mg "measure_or_none_of_it" s_measure_or_none_of_it ["measure"] f fd := by
  obtain ⟨kV, doc, pm, an, cdv, ct, rfl, F⟩ := fun_of F
  have ⟨p0, ea⟩ : ∃ p0 : Pos, defArgs s_measure_or_none_of_it = plainA [{ arg := "measure", annotation := none, pos := p0 }] := ⟨_, rfl⟩
  exact ⟨F, g, by rw [ea]; exact bp_6, no_kw (by decide +kernel), no_kw (by decide +kernel)⟩
theorem df_is_measure {K : PySem.W.Frag} {mg : Str → Option Value} {f : Addr} {fd : FuncData} (F : FunD K "is_measure" "is_measure" (defArgs s_is_measure) (defBody s_is_measure) (defScope s_is_measure) [] [] f fd) (g : mg "is_measure" = some (.ref f)) : Df K mg "is_measure" s_is_measure ["thing"] f fd := by
  obtain ⟨kV, doc, pm, an, cdv, ct, rfl, F⟩ := fun_of F
  have ⟨p0, ea⟩ : ∃ p0 : Pos, defArgs s_is_measure = plainA [{ arg := "thing", annotation := none, pos := p0 }] := ⟨_, rfl⟩
  exact ⟨F, g, by rw [ea]; exact bp_0, no_kw (by decide +kernel), no_kw (by decide +kernel)⟩
theorem df_is_loss {K : PySem.W.Frag} {mg : Str → Option Value} {f : Addr} {fd : FuncData} (F : FunD K "is_loss" "is_loss" (defArgs s_is_loss) (defBody s_is_loss) (defScope s_is_loss) [] [] f fd) (g : mg "is_loss" = some (.ref f)) : Df K mg "is_loss" s_is_loss ["thing"] f fd := by
  obtain ⟨kV, doc, pm, an, cdv, ct, rfl, F⟩ := fun_of F
  have ⟨p0, ea⟩ : ∃ p0 : Pos, defArgs s_is_loss = plainA [{ arg := "thing", annotation := none, pos := p0 }] := ⟨_, rfl⟩
  exact ⟨F, g, by rw [ea]; exact bp_0, no_kw (by decide +kernel), no_kw (by decide +kernel)⟩
theorem bp_7 {x q : Str} {p0 p1 p2 : Pos} {body : List Stmt} {sc : Scope} {kV doc pm : Value} {an : Option Addr} {cdv ct : Value} (s : Shared) (us : List Value) (hl : us.length = 3) : BindsTo s (PySem.W.fnOf x q (plainA [{ arg := "name", annotation := none, pos := p0 }, { arg := "weight", annotation := none, pos := p1 }, { arg := "loss", annotation := none, pos := p2 }]) body sc .none kV doc pm an cdv ct) ⟨us, []⟩ ((["name", "weight", "loss"] : List Str).zip us) := .of_eq (match us, hl with | [_, _, _], _ => rfl)
theorem df_refuse_no_pan {K : PySem.W.Frag} {mg : Str → Option Value} {f : Addr} {fd : FuncData} (F : FunD K "refuse_no_pan" "refuse_no_pan" (defArgs s_refuse_no_pan) (defBody s_refuse_no_pan) (defScope s_refuse_no_pan) [] [] f fd) (g : mg "refuse_no_pan" = some (.ref f)) : Df K mg "refuse_no_pan" s_refuse_no_pan ["name", "weight", "loss"] f fd := by
  obtain ⟨kV, doc, pm, an, cdv, ct, rfl, F⟩ := fun_of F
  have ⟨p0, p1, p2, ea⟩ : ∃ p0 p1 p2 : Pos, defArgs s_refuse_no_pan = plainA [{ arg := "name", annotation := none, pos := p0 }, { arg := "weight", annotation := none, pos := p1 }, { arg := "loss", annotation := none, pos := p2 }] := ⟨_, _, _, rfl⟩
  exact ⟨F, g, by rw [ea]; exact bp_7, no_kw (by decide +kernel), no_kw (by decide +kernel)⟩
theorem bp_8 {x q : Str} {p0 p1 : Pos} {body : List Stmt} {sc : Scope} {kV doc pm : Value} {an : Option Addr} {cdv ct : Value} (s : Shared) (us : List Value) (hl : us.length = 2) : BindsTo s (PySem.W.fnOf x q (plainA [{ arg := "weight", annotation := none, pos := p0 }, { arg := "pan", annotation := none, pos := p1 }]) body sc .none kV doc pm an cdv ct) ⟨us, []⟩ ((["weight", "pan"] : List Str).zip us) := .of_eq (match us, hl with | [_, _], _ => rfl)
theorem df_loaves {K : PySem.W.Frag} {mg : Str → Option Value} {f : Addr} {fd : FuncData} (F : FunD K "loaves" "loaves" (defArgs s_loaves) (defBody s_loaves) (defScope s_loaves) [] [] f fd) (g : mg "loaves" = some (.ref f)) : Df K mg "loaves" s_loaves ["weight", "pan"] f fd := by
  obtain ⟨kV, doc, pm, an, cdv, ct, rfl, F⟩ := fun_of F
  have ⟨p0, p1, ea⟩ : ∃ p0 p1 : Pos, defArgs s_loaves = plainA [{ arg := "weight", annotation := none, pos := p0 }, { arg := "pan", annotation := none, pos := p1 }] := ⟨_, _, rfl⟩
  exact ⟨F, g, by rw [ea]; exact bp_8, fun _ s us hl => .of_eq (match us, hl with | [_, _], _ => rfl), fun _ s us hl => .of_eq (match us, hl with | [_, _], _ => rfl)⟩
theorem bp_9 {x q : Str} {p0 p1 : Pos} {body : List Stmt} {sc : Scope} {kV doc pm : Value} {an : Option Addr} {cdv ct : Value} (s : Shared) (us : List Value) (hl : us.length = 2) : BindsTo s (PySem.W.fnOf x q (plainA [{ arg := "count", annotation := none, pos := p0 }, { arg := "pan", annotation := none, pos := p1 }]) body sc .none kV doc pm an cdv ct) ⟨us, []⟩ ((["count", "pan"] : List Str).zip us) := .of_eq (match us, hl with | [_, _], _ => rfl)
theorem df_dough_for {K : PySem.W.Frag} {mg : Str → Option Value} {f : Addr} {fd : FuncData} (F : FunD K "dough_for" "dough_for" (defArgs s_dough_for) (defBody s_dough_for) (defScope s_dough_for) [] [] f fd) (g : mg "dough_for" = some (.ref f)) : Df K mg "dough_for" s_dough_for ["count", "pan"] f fd := by
  obtain ⟨kV, doc, pm, an, cdv, ct, rfl, F⟩ := fun_of F
  have ⟨p0, p1, ea⟩ : ∃ p0 p1 : Pos, defArgs s_dough_for = plainA [{ arg := "count", annotation := none, pos := p0 }, { arg := "pan", annotation := none, pos := p1 }] := ⟨_, _, rfl⟩
  exact ⟨F, g, by rw [ea]; exact bp_9, fun _ s us hl => .of_eq (match us, hl with | [_, _], _ => rfl), fun _ s us hl => .of_eq (match us, hl with | [_, _], _ => rfl)⟩
theorem df_scaled {K : PySem.W.Frag} {mg : Str → Option Value} {f : Addr} {fd : FuncData} (F : FunD K "scaled" "scaled" (defArgs s_scaled) (defBody s_scaled) (defScope s_scaled) [] [] f fd) (g : mg "scaled" = some (.ref f)) : Df K mg "scaled" s_scaled ["dough", "weight"] f fd := by
  obtain ⟨kV, doc, pm, an, cdv, ct, rfl, F⟩ := fun_of F
  have ⟨p0, p1, ea⟩ : ∃ p0 p1 : Pos, defArgs s_scaled = plainA [{ arg := "dough", annotation := none, pos := p0 }, { arg := "weight", annotation := none, pos := p1 }] := ⟨_, _, rfl⟩
  exact ⟨F, g, by rw [ea]; exact bp_5, fun _ s us hl => .of_eq (match us, hl with | [_, _], _ => rfl), fun _ s us hl => .of_eq (match us, hl with | [_, _], _ => rfl)⟩
theorem bp_10 {x q : Str} {p0 p1 : Pos} {body : List Stmt} {sc : Scope} {kV doc pm : Value} {an : Option Addr} {cdv ct : Value} (s : Shared) (us : List Value) (hl : us.length = 2) : BindsTo s (PySem.W.fnOf x q (plainA [{ arg := "_law_script", annotation := none, pos := p0 }, { arg := "_law_k", annotation := none, pos := p1 }]) body sc .none kV doc pm an cdv ct) ⟨us, []⟩ ((["_law_script", "_law_k"] : List Str).zip us) := .of_eq (match us, hl with | [_, _], _ => rfl)
theorem df__law_cell {K : PySem.W.Frag} {mg : Str → Option Value} {f : Addr} {fd : FuncData} (F : FunD K "_law_cell" "_law_cell" (defArgs s__law_cell) (defBody s__law_cell) (defScope s__law_cell) [] [] f fd) (g : mg "_law_cell" = some (.ref f)) : Df K mg "_law_cell" s__law_cell ["_law_script", "_law_k"] f fd := by
  obtain ⟨kV, doc, pm, an, cdv, ct, rfl, F⟩ := fun_of F
  have ⟨p0, p1, ea⟩ : ∃ p0 p1 : Pos, defArgs s__law_cell = plainA [{ arg := "_law_script", annotation := none, pos := p0 }, { arg := "_law_k", annotation := none, pos := p1 }] := ⟨_, _, rfl⟩
  exact ⟨F, g, by rw [ea]; exact bp_10, no_kw (by decide +kernel), no_kw (by decide +kernel)⟩
theorem bp_11 {x q : Str} {p0 : Pos} {body : List Stmt} {sc : Scope} {kV doc pm : Value} {an : Option Addr} {cdv ct : Value} (s : Shared) (us : List Value) (hl : us.length = 1) : BindsTo s (PySem.W.fnOf x q (plainA [{ arg := "_law_cell_here", annotation := none, pos := p0 }]) body sc .none kV doc pm an cdv ct) ⟨us, []⟩ ((["_law_cell_here"] : List Str).zip us) := .of_eq (match us, hl with | [_], _ => rfl)
theorem df__law_pot {K : PySem.W.Frag} {mg : Str → Option Value} {f : Addr} {fd : FuncData} (F : FunD K "_law_pot" "_law_pot" (defArgs s__law_pot) (defBody s__law_pot) (defScope s__law_pot) [] [] f fd) (g : mg "_law_pot" = some (.ref f)) : Df K mg "_law_pot" s__law_pot ["_law_cell_here"] f fd := by
  obtain ⟨kV, doc, pm, an, cdv, ct, rfl, F⟩ := fun_of F
  have ⟨p0, ea⟩ : ∃ p0 : Pos, defArgs s__law_pot = plainA [{ arg := "_law_cell_here", annotation := none, pos := p0 }] := ⟨_, rfl⟩
  exact ⟨F, g, by rw [ea]; exact bp_11, no_kw (by decide +kernel), no_kw (by decide +kernel)⟩
theorem bp_12 {x q : Str} {p0 p1 : Pos} {body : List Stmt} {sc : Scope} {kV doc pm : Value} {an : Option Addr} {cdv ct : Value} (s : Shared) (us : List Value) (hl : us.length = 2) : BindsTo s (PySem.W.fnOf x q (plainA [{ arg := "_law_pot_here", annotation := none, pos := p0 }, { arg := "_law_many", annotation := none, pos := p1 }]) body sc .none kV doc pm an cdv ct) ⟨us, []⟩ ((["_law_pot_here", "_law_many"] : List Str).zip us) := .of_eq (match us, hl with | [_, _], _ => rfl)
theorem df__law_draw {K : PySem.W.Frag} {mg : Str → Option Value} {f : Addr} {fd : FuncData} (F : FunD K "_law_draw" "_law_draw" (defArgs s__law_draw) (defBody s__law_draw) (defScope s__law_draw) [] [] f fd) (g : mg "_law_draw" = some (.ref f)) : Df K mg "_law_draw" s__law_draw ["_law_pot_here", "_law_many"] f fd := by
  obtain ⟨kV, doc, pm, an, cdv, ct, rfl, F⟩ := fun_of F
  have ⟨p0, p1, ea⟩ : ∃ p0 p1 : Pos, defArgs s__law_draw = plainA [{ arg := "_law_pot_here", annotation := none, pos := p0 }, { arg := "_law_many", annotation := none, pos := p1 }] := ⟨_, _, rfl⟩
  exact ⟨F, g, by rw [ea]; exact bp_12, no_kw (by decide +kernel), no_kw (by decide +kernel)⟩
theorem bp_13 {x q : Str} {p0 p1 : Pos} {body : List Stmt} {sc : Scope} {kV doc pm : Value} {an : Option Addr} {cdv ct : Value} (s : Shared) (us : List Value) (hl : us.length = 2) : BindsTo s (PySem.W.fnOf x q (plainA [{ arg := "_law_top", annotation := none, pos := p0 }, { arg := "_law_bottom", annotation := none, pos := p1 }]) body sc .none kV doc pm an cdv ct) ⟨us, []⟩ ((["_law_top", "_law_bottom"] : List Str).zip us) := .of_eq (match us, hl with | [_, _], _ => rfl)
theorem df__law_low {K : PySem.W.Frag} {mg : Str → Option Value} {f : Addr} {fd : FuncData} (F : FunD K "_law_low" "_law_low" (defArgs s__law_low) (defBody s__law_low) (defScope s__law_low) [] [] f fd) (g : mg "_law_low" = some (.ref f)) : Df K mg "_law_low" s__law_low ["_law_top", "_law_bottom"] f fd := by
  obtain ⟨kV, doc, pm, an, cdv, ct, rfl, F⟩ := fun_of F
  have ⟨p0, p1, ea⟩ : ∃ p0 p1 : Pos, defArgs s__law_low = plainA [{ arg := "_law_top", annotation := none, pos := p0 }, { arg := "_law_bottom", annotation := none, pos := p1 }] := ⟨_, _, rfl⟩
  exact ⟨F, g, by rw [ea]; exact bp_13, no_kw (by decide +kernel), no_kw (by decide +kernel)⟩
theorem bp_14 {x q : Str} {p0 : Pos} {body : List Stmt} {sc : Scope} {kV doc pm : Value} {an : Option Addr} {cdv ct : Value} (s : Shared) (us : List Value) (hl : us.length = 1) : BindsTo s (PySem.W.fnOf x q (plainA [{ arg := "_law_pot_here", annotation := none, pos := p0 }]) body sc .none kV doc pm an cdv ct) ⟨us, []⟩ ((["_law_pot_here"] : List Str).zip us) := .of_eq (match us, hl with | [_], _ => rfl)
theorem df__law_some {K : PySem.W.Frag} {mg : Str → Option Value} {f : Addr} {fd : FuncData} (F : FunD K "_law_some" "_law_some" (defArgs s__law_some) (defBody s__law_some) (defScope s__law_some) [] [] f fd) (g : mg "_law_some" = some (.ref f)) : Df K mg "_law_some" s__law_some ["_law_pot_here"] f fd := by
  obtain ⟨kV, doc, pm, an, cdv, ct, rfl, F⟩ := fun_of F
  have ⟨p0, ea⟩ : ∃ p0 : Pos, defArgs s__law_some = plainA [{ arg := "_law_pot_here", annotation := none, pos := p0 }] := ⟨_, rfl⟩
  exact ⟨F, g, by rw [ea]; exact bp_14, no_kw (by decide +kernel), no_kw (by decide +kernel)⟩
theorem df__law_odd_name {K : PySem.W.Frag} {mg : Str → Option Value} {f : Addr} {fd : FuncData} (F : FunD K "_law_odd_name" "_law_odd_name" (defArgs s__law_odd_name) (defBody s__law_odd_name) (defScope s__law_odd_name) [] [] f fd) (g : mg "_law_odd_name" = some (.ref f)) : Df K mg "_law_odd_name" s__law_odd_name ["_law_pot_here"] f fd := by
  obtain ⟨kV, doc, pm, an, cdv, ct, rfl, F⟩ := fun_of F
  have ⟨p0, ea⟩ : ∃ p0 : Pos, defArgs s__law_odd_name = plainA [{ arg := "_law_pot_here", annotation := none, pos := p0 }] := ⟨_, rfl⟩
  exact ⟨F, g, by rw [ea]; exact bp_14, no_kw (by decide +kernel), no_kw (by decide +kernel)⟩
theorem df__law_odd_weight {K : PySem.W.Frag} {mg : Str → Option Value} {f : Addr} {fd : FuncData} (F : FunD K "_law_odd_weight" "_law_odd_weight" (defArgs s__law_odd_weight) (defBody s__law_odd_weight) (defScope s__law_odd_weight) [] [] f fd) (g : mg "_law_odd_weight" = some (.ref f)) : Df K mg "_law_odd_weight" s__law_odd_weight ["_law_pot_here"] f fd := by
  obtain ⟨kV, doc, pm, an, cdv, ct, rfl, F⟩ := fun_of F
  have ⟨p0, ea⟩ : ∃ p0 : Pos, defArgs s__law_odd_weight = plainA [{ arg := "_law_pot_here", annotation := none, pos := p0 }] := ⟨_, rfl⟩
  exact ⟨F, g, by rw [ea]; exact bp_14, no_kw (by decide +kernel), no_kw (by decide +kernel)⟩
theorem df__law_odd_count {K : PySem.W.Frag} {mg : Str → Option Value} {f : Addr} {fd : FuncData} (F : FunD K "_law_odd_count" "_law_odd_count" (defArgs s__law_odd_count) (defBody s__law_odd_count) (defScope s__law_odd_count) [] [] f fd) (g : mg "_law_odd_count" = some (.ref f)) : Df K mg "_law_odd_count" s__law_odd_count ["_law_pot_here"] f fd := by
  obtain ⟨kV, doc, pm, an, cdv, ct, rfl, F⟩ := fun_of F
  have ⟨p0, ea⟩ : ∃ p0 : Pos, defArgs s__law_odd_count = plainA [{ arg := "_law_pot_here", annotation := none, pos := p0 }] := ⟨_, rfl⟩
  exact ⟨F, g, by rw [ea]; exact bp_14, no_kw (by decide +kernel), no_kw (by decide +kernel)⟩
theorem bp_15 {x q : Str} {p0 : Pos} {body : List Stmt} {sc : Scope} {kV doc pm : Value} {an : Option Addr} {cdv ct : Value} (s : Shared) (us : List Value) (hl : us.length = 1) : BindsTo s (PySem.W.fnOf x q (plainA [{ arg := "_law_thing", annotation := none, pos := p0 }]) body sc .none kV doc pm an cdv ct) ⟨us, []⟩ ((["_law_thing"] : List Str).zip us) := .of_eq (match us, hl with | [_], _ => rfl)
theorem df__law_is_whole {K : PySem.W.Frag} {mg : Str → Option Value} {f : Addr} {fd : FuncData} (F : FunD K "_law_is_whole" "_law_is_whole" (defArgs s__law_is_whole) (defBody s__law_is_whole) (defScope s__law_is_whole) [] [] f fd) (g : mg "_law_is_whole" = some (.ref f)) : Df K mg "_law_is_whole" s__law_is_whole ["_law_thing"] f fd := by
  obtain ⟨kV, doc, pm, an, cdv, ct, rfl, F⟩ := fun_of F
  have ⟨p0, ea⟩ : ∃ p0 : Pos, defArgs s__law_is_whole = plainA [{ arg := "_law_thing", annotation := none, pos := p0 }] := ⟨_, rfl⟩
  exact ⟨F, g, by rw [ea]; exact bp_15, no_kw (by decide +kernel), no_kw (by decide +kernel)⟩
theorem df__law_is_name {K : PySem.W.Frag} {mg : Str → Option Value} {f : Addr} {fd : FuncData} (F : FunD K "_law_is_name" "_law_is_name" (defArgs s__law_is_name) (defBody s__law_is_name) (defScope s__law_is_name) [] [] f fd) (g : mg "_law_is_name" = some (.ref f)) : Df K mg "_law_is_name" s__law_is_name ["_law_thing"] f fd := by
  obtain ⟨kV, doc, pm, an, cdv, ct, rfl, F⟩ := fun_of F
  have ⟨p0, ea⟩ : ∃ p0 : Pos, defArgs s__law_is_name = plainA [{ arg := "_law_thing", annotation := none, pos := p0 }] := ⟨_, rfl⟩
  exact ⟨F, g, by rw [ea]; exact bp_15, no_kw (by decide +kernel), no_kw (by decide +kernel)⟩
theorem df__law_is_fraction {K : PySem.W.Frag} {mg : Str → Option Value} {f : Addr} {fd : FuncData} (F : FunD K "_law_is_fraction" "_law_is_fraction" (defArgs s__law_is_fraction) (defBody s__law_is_fraction) (defScope s__law_is_fraction) [] [] f fd) (g : mg "_law_is_fraction" = some (.ref f)) : Df K mg "_law_is_fraction" s__law_is_fraction ["_law_thing"] f fd := by
  obtain ⟨kV, doc, pm, an, cdv, ct, rfl, F⟩ := fun_of F
  have ⟨p0, ea⟩ : ∃ p0 : Pos, defArgs s__law_is_fraction = plainA [{ arg := "_law_thing", annotation := none, pos := p0 }] := ⟨_, rfl⟩
  exact ⟨F, g, by rw [ea]; exact bp_15, no_kw (by decide +kernel), no_kw (by decide +kernel)⟩
theorem df__law_is_weight {K : PySem.W.Frag} {mg : Str → Option Value} {f : Addr} {fd : FuncData} (F : FunD K "_law_is_weight" "_law_is_weight" (defArgs s__law_is_weight) (defBody s__law_is_weight) (defScope s__law_is_weight) [] [] f fd) (g : mg "_law_is_weight" = some (.ref f)) : Df K mg "_law_is_weight" s__law_is_weight ["_law_thing"] f fd := by
  obtain ⟨kV, doc, pm, an, cdv, ct, rfl, F⟩ := fun_of F
  have ⟨p0, ea⟩ : ∃ p0 : Pos, defArgs s__law_is_weight = plainA [{ arg := "_law_thing", annotation := none, pos := p0 }] := ⟨_, rfl⟩
  exact ⟨F, g, by rw [ea]; exact bp_15, no_kw (by decide +kernel), no_kw (by decide +kernel)⟩
theorem bp_16 {x q : Str} {p0 : Pos} {body : List Stmt} {sc : Scope} {kV doc pm : Value} {an : Option Addr} {cdv ct : Value} (s : Shared) (us : List Value) (hl : us.length = 1) : BindsTo s (PySem.W.fnOf x q (plainA [{ arg := "_law_told", annotation := none, pos := p0 }]) body sc .none kV doc pm an cdv ct) ⟨us, []⟩ ((["_law_told"] : List Str).zip us) := .of_eq (match us, hl with | [_], _ => rfl)
theorem df__law_wrong {K : PySem.W.Frag} {mg : Str → Option Value} {f : Addr} {fd : FuncData} (F : FunD K "_law_wrong" "_law_wrong" (defArgs s__law_wrong) (defBody s__law_wrong) (defScope s__law_wrong) [] [] f fd) (g : mg "_law_wrong" = some (.ref f)) : Df K mg "_law_wrong" s__law_wrong ["_law_told"] f fd := by
  obtain ⟨kV, doc, pm, an, cdv, ct, rfl, F⟩ := fun_of F
  have ⟨p0, ea⟩ : ∃ p0 : Pos, defArgs s__law_wrong = plainA [{ arg := "_law_told", annotation := none, pos := p0 }] := ⟨_, rfl⟩
  exact ⟨F, g, by rw [ea]; exact bp_16, no_kw (by decide +kernel), no_kw (by decide +kernel)⟩
theorem bp_17 {x q : Str} {p0 : Pos} {body : List Stmt} {sc : Scope} {kV doc pm : Value} {an : Option Addr} {cdv ct : Value} (s : Shared) (us : List Value) (hl : us.length = 1) : BindsTo s (PySem.W.fnOf x q (plainA [{ arg := "_law_e", annotation := none, pos := p0 }]) body sc .none kV doc pm an cdv ct) ⟨us, []⟩ ((["_law_e"] : List Str).zip us) := .of_eq (match us, hl with | [_], _ => rfl)
theorem df__law_of_fault {K : PySem.W.Frag} {mg : Str → Option Value} {f : Addr} {fd : FuncData} (F : FunD K "_law_of_fault" "_law_of_fault" (defArgs s__law_of_fault) (defBody s__law_of_fault) (defScope s__law_of_fault) [] [] f fd) (g : mg "_law_of_fault" = some (.ref f)) : Df K mg "_law_of_fault" s__law_of_fault ["_law_e"] f fd := by
  obtain ⟨kV, doc, pm, an, cdv, ct, rfl, F⟩ := fun_of F
  have ⟨p0, ea⟩ : ∃ p0 : Pos, defArgs s__law_of_fault = plainA [{ arg := "_law_e", annotation := none, pos := p0 }] := ⟨_, rfl⟩
  exact ⟨F, g, by rw [ea]; exact bp_17, no_kw (by decide +kernel), no_kw (by decide +kernel)⟩
theorem bp_18 {x q : Str} {p0 p1 p2 p3 : Pos} {body : List Stmt} {sc : Scope} {kV doc pm : Value} {an : Option Addr} {cdv ct : Value} (s : Shared) (us : List Value) (hl : us.length = 4) : BindsTo s (PySem.W.fnOf x q (plainA [{ arg := "_law_deed", annotation := none, pos := p0 }, { arg := "_law_one", annotation := none, pos := p1 }, { arg := "_law_other", annotation := none, pos := p2 }, { arg := "_law_third", annotation := none, pos := p3 }]) body sc .none kV doc pm an cdv ct) ⟨us, []⟩ ((["_law_deed", "_law_one", "_law_other", "_law_third"] : List Str).zip us) := .of_eq (match us, hl with | [_, _, _, _], _ => rfl)
theorem df__law_done {K : PySem.W.Frag} {mg : Str → Option Value} {f : Addr} {fd : FuncData} (F : FunD K "_law_done" "_law_done" (defArgs s__law_done) (defBody s__law_done) (defScope s__law_done) [] [] f fd) (g : mg "_law_done" = some (.ref f)) : Df K mg "_law_done" s__law_done ["_law_deed", "_law_one", "_law_other", "_law_third"] f fd := by
  obtain ⟨kV, doc, pm, an, cdv, ct, rfl, F⟩ := fun_of F
  have ⟨p0, p1, p2, p3, ea⟩ : ∃ p0 p1 p2 p3 : Pos, defArgs s__law_done = plainA [{ arg := "_law_deed", annotation := none, pos := p0 }, { arg := "_law_one", annotation := none, pos := p1 }, { arg := "_law_other", annotation := none, pos := p2 }, { arg := "_law_third", annotation := none, pos := p3 }] := ⟨_, _, _, _, rfl⟩
  exact ⟨F, g, by rw [ea]; exact bp_18, no_kw (by decide +kernel), no_kw (by decide +kernel)⟩
theorem bp_19 {x q : Str} {p0 p1 p2 : Pos} {body : List Stmt} {sc : Scope} {kV doc pm : Value} {an : Option Addr} {cdv ct : Value} (s : Shared) (us : List Value) (hl : us.length = 3) : BindsTo s (PySem.W.fnOf x q (plainA [{ arg := "_law_weight", annotation := none, pos := p0 }, { arg := "_law_count", annotation := none, pos := p1 }, { arg := "_law_pan", annotation := none, pos := p2 }]) body sc .none kV doc pm an cdv ct) ⟨us, []⟩ ((["_law_weight", "_law_count", "_law_pan"] : List Str).zip us) := .of_eq (match us, hl with | [_, _, _], _ => rfl)
theorem df__law_deeds_right {K : PySem.W.Frag} {mg : Str → Option Value} {f : Addr} {fd : FuncData} (F : FunD K "_law_deeds_right" "_law_deeds_right" (defArgs s__law_deeds_right) (defBody s__law_deeds_right) (defScope s__law_deeds_right) [] [] f fd) (g : mg "_law_deeds_right" = some (.ref f)) : Df K mg "_law_deeds_right" s__law_deeds_right ["_law_weight", "_law_count", "_law_pan"] f fd := by
  obtain ⟨kV, doc, pm, an, cdv, ct, rfl, F⟩ := fun_of F
  have ⟨p0, p1, p2, ea⟩ : ∃ p0 p1 p2 : Pos, defArgs s__law_deeds_right = plainA [{ arg := "_law_weight", annotation := none, pos := p0 }, { arg := "_law_count", annotation := none, pos := p1 }, { arg := "_law_pan", annotation := none, pos := p2 }] := ⟨_, _, _, rfl⟩
  exact ⟨F, g, by rw [ea]; exact bp_19, no_kw (by decide +kernel), no_kw (by decide +kernel)⟩
theorem bp_20 {x q : Str} {p0 : Pos} {body : List Stmt} {sc : Scope} {kV doc pm : Value} {an : Option Addr} {cdv ct : Value} (s : Shared) (us : List Value) (hl : us.length = 1) : BindsTo s (PySem.W.fnOf x q (plainA [{ arg := "_law_script", annotation := none, pos := p0 }]) body sc .none kV doc pm an cdv ct) ⟨us, []⟩ ((["_law_script"] : List Str).zip us) := .of_eq (match us, hl with | [_], _ => rfl)
theorem df_law {K : PySem.W.Frag} {mg : Str → Option Value} {f : Addr} {fd : FuncData} (F : FunD K "law" "law" (defArgs s_law) (defBody s_law) (defScope s_law) [] [] f fd) (g : mg "law" = some (.ref f)) : Df K mg "law" s_law ["_law_script"] f fd := by
  obtain ⟨kV, doc, pm, an, cdv, ct, rfl, F⟩ := fun_of F
  have ⟨p0, ea⟩ : ∃ p0 : Pos, defArgs s_law = plainA [{ arg := "_law_script", annotation := none, pos := p0 }] := ⟨_, rfl⟩
  exact ⟨F, g, by rw [ea]; exact bp_20, no_kw (by decide +kernel), no_kw (by decide +kernel)⟩
theorem mt_dname {K : PySem.W.Frag} {f : Addr} {fd : FuncData} (F : FunD K "name" "Dough.name" (defArgs s_dname) (defBody s_dname) (defScope s_dname) [] [] f fd) : Fun K "name" "Dough.name" s_dname f fd ∧ ∀ (s : Shared) (us : List Value), us.length = 1 → BindsTo s fd ⟨us, []⟩ ((["self"] : List Str).zip us) := by
  obtain ⟨kV, doc, pm, an, cdv, ct, rfl, F⟩ := fun_of F
  exact ⟨F, fun s us hl => .of_eq (match us, hl with | [_], _ => rfl)⟩
theorem mt_drows {K : PySem.W.Frag} {f : Addr} {fd : FuncData} (F : FunD K "rows" "Dough.rows" (defArgs s_drows) (defBody s_drows) (defScope s_drows) [] [] f fd) : Fun K "rows" "Dough.rows" s_drows f fd ∧ ∀ (s : Shared) (us : List Value), us.length = 1 → BindsTo s fd ⟨us, []⟩ ((["self"] : List Str).zip us) := by
  obtain ⟨kV, doc, pm, an, cdv, ct, rfl, F⟩ := fun_of F
  exact ⟨F, fun s us hl => .of_eq (match us, hl with | [_], _ => rfl)⟩
theorem mt_dlead {K : PySem.W.Frag} {f : Addr} {fd : FuncData} (F : FunD K "lead" "Dough.lead" (defArgs s_dlead) (defBody s_dlead) (defScope s_dlead) [] [] f fd) : Fun K "lead" "Dough.lead" s_dlead f fd ∧ ∀ (s : Shared) (us : List Value), us.length = 1 → BindsTo s fd ⟨us, []⟩ ((["self"] : List Str).zip us) := by
  obtain ⟨kV, doc, pm, an, cdv, ct, rfl, F⟩ := fun_of F
  exact ⟨F, fun s us hl => .of_eq (match us, hl with | [_], _ => rfl)⟩
theorem mt_dtotal {K : PySem.W.Frag} {f : Addr} {fd : FuncData} (F : FunD K "total" "Dough.total" (defArgs s_dtotal) (defBody s_dtotal) (defScope s_dtotal) [] [] f fd) : Fun K "total" "Dough.total" s_dtotal f fd ∧ ∀ (s : Shared) (us : List Value), us.length = 1 → BindsTo s fd ⟨us, []⟩ ((["self"] : List Str).zip us) := by
  obtain ⟨kV, doc, pm, an, cdv, ct, rfl, F⟩ := fun_of F
  exact ⟨F, fun s us hl => .of_eq (match us, hl with | [_], _ => rfl)⟩
theorem mt_deq {K : PySem.W.Frag} {f : Addr} {fd : FuncData} (F : FunD K "__eq__" "Dough.__eq__" (defArgs s_deq) (defBody s_deq) (defScope s_deq) [] [] f fd) : Fun K "__eq__" "Dough.__eq__" s_deq f fd ∧ ∀ (s : Shared) (us : List Value), us.length = 2 → BindsTo s fd ⟨us, []⟩ ((["self", "other"] : List Str).zip us) := by
  obtain ⟨kV, doc, pm, an, cdv, ct, rfl, F⟩ := fun_of F
  exact ⟨F, fun s us hl => .of_eq (match us, hl with | [_, _], _ => rfl)⟩
theorem mt_drepr {K : PySem.W.Frag} {f : Addr} {fd : FuncData} (F : FunD K "__repr__" "Dough.__repr__" (defArgs s_drepr) (defBody s_drepr) (defScope s_drepr) [] [] f fd) : Fun K "__repr__" "Dough.__repr__" s_drepr f fd ∧ ∀ (s : Shared) (us : List Value), us.length = 1 → BindsTo s fd ⟨us, []⟩ ((["self"] : List Str).zip us) := by
  obtain ⟨kV, doc, pm, an, cdv, ct, rfl, F⟩ := fun_of F
  exact ⟨F, fun s us hl => .of_eq (match us, hl with | [_], _ => rfl)⟩
theorem mt_dlen {K : PySem.W.Frag} {f : Addr} {fd : FuncData} (F : FunD K "__len__" "Dough.__len__" (defArgs s_dlen) (defBody s_dlen) (defScope s_dlen) [] [] f fd) : Fun K "__len__" "Dough.__len__" s_dlen f fd ∧ ∀ (s : Shared) (us : List Value), us.length = 1 → BindsTo s fd ⟨us, []⟩ ((["self"] : List Str).zip us) := by
  obtain ⟨kV, doc, pm, an, cdv, ct, rfl, F⟩ := fun_of F
  exact ⟨F, fun s us hl => .of_eq (match us, hl with | [_], _ => rfl)⟩
theorem mt_pname {K : PySem.W.Frag} {f : Addr} {fd : FuncData} (F : FunD K "name" "Pan.name" (defArgs s_pname) (defBody s_pname) (defScope s_pname) [] [] f fd) : Fun K "name" "Pan.name" s_pname f fd ∧ ∀ (s : Shared) (us : List Value), us.length = 1 → BindsTo s fd ⟨us, []⟩ ((["self"] : List Str).zip us) := by
  obtain ⟨kV, doc, pm, an, cdv, ct, rfl, F⟩ := fun_of F
  exact ⟨F, fun s us hl => .of_eq (match us, hl with | [_], _ => rfl)⟩
theorem mt_pholds {K : PySem.W.Frag} {f : Addr} {fd : FuncData} (F : FunD K "holds" "Pan.holds" (defArgs s_pholds) (defBody s_pholds) (defScope s_pholds) [] [] f fd) : Fun K "holds" "Pan.holds" s_pholds f fd ∧ ∀ (s : Shared) (us : List Value), us.length = 1 → BindsTo s fd ⟨us, []⟩ ((["self"] : List Str).zip us) := by
  obtain ⟨kV, doc, pm, an, cdv, ct, rfl, F⟩ := fun_of F
  exact ⟨F, fun s us hl => .of_eq (match us, hl with | [_], _ => rfl)⟩
theorem mt_ploss {K : PySem.W.Frag} {f : Addr} {fd : FuncData} (F : FunD K "loss" "Pan.loss" (defArgs s_ploss) (defBody s_ploss) (defScope s_ploss) [] [] f fd) : Fun K "loss" "Pan.loss" s_ploss f fd ∧ ∀ (s : Shared) (us : List Value), us.length = 1 → BindsTo s fd ⟨us, []⟩ ((["self"] : List Str).zip us) := by
  obtain ⟨kV, doc, pm, an, cdv, ct, rfl, F⟩ := fun_of F
  exact ⟨F, fun s us hl => .of_eq (match us, hl with | [_], _ => rfl)⟩
theorem mt_pbaked {K : PySem.W.Frag} {f : Addr} {fd : FuncData} (F : FunD K "baked" "Pan.baked" (defArgs s_pbaked) (defBody s_pbaked) (defScope s_pbaked) [] [] f fd) : Fun K "baked" "Pan.baked" s_pbaked f fd ∧ ∀ (s : Shared) (us : List Value), us.length = 1 → BindsTo s fd ⟨us, []⟩ ((["self"] : List Str).zip us) := by
  obtain ⟨kV, doc, pm, an, cdv, ct, rfl, F⟩ := fun_of F
  exact ⟨F, fun s us hl => .of_eq (match us, hl with | [_], _ => rfl)⟩
theorem mt_peq {K : PySem.W.Frag} {f : Addr} {fd : FuncData} (F : FunD K "__eq__" "Pan.__eq__" (defArgs s_peq) (defBody s_peq) (defScope s_peq) [] [] f fd) : Fun K "__eq__" "Pan.__eq__" s_peq f fd ∧ ∀ (s : Shared) (us : List Value), us.length = 2 → BindsTo s fd ⟨us, []⟩ ((["self", "other"] : List Str).zip us) := by
  obtain ⟨kV, doc, pm, an, cdv, ct, rfl, F⟩ := fun_of F
  exact ⟨F, fun s us hl => .of_eq (match us, hl with | [_, _], _ => rfl)⟩
theorem mt_prepr {K : PySem.W.Frag} {f : Addr} {fd : FuncData} (F : FunD K "__repr__" "Pan.__repr__" (defArgs s_prepr) (defBody s_prepr) (defScope s_prepr) [] [] f fd) : Fun K "__repr__" "Pan.__repr__" s_prepr f fd ∧ ∀ (s : Shared) (us : List Value), us.length = 1 → BindsTo s fd ⟨us, []⟩ ((["self"] : List Str).zip us) := by
  obtain ⟨kV, doc, pm, an, cdv, ct, rfl, F⟩ := fun_of F
  exact ⟨F, fun s us hl => .of_eq (match us, hl with | [_], _ => rfl)⟩
theorem all_mk {l : PySem.W.OpenLaw} {w : World} {K : PySem.W.Frag} {h : Heap} {mg : Str → Option Value} {fa : Addr} (X : K.In h) (G : h.Ns mainGlobals mg) (hfa : mg "law" = some (.ref fa)) (c : SaysY hdFa hdFn K) (hfile : l.prog.main.file = FILE) (htop : (l.prog.main.scope.names.lookup ("super" : Str)).isSome = false) :
    ∃ fd : FuncData, (∀ (s : Shared) (v : Value), BindsTo s fd ⟨[v], []⟩ [("_law_script", v)]) ∧ ∀ base : Heap, K.In base → base.Ns mainGlobals mg → FnG l.prog w K mg base CX0 12 fa fd ["_law_script"] (sp_law K) := by
  have M : Blt mg := ⟨He.free_ok X G (c.fact 112), He.free_ok X G (c.fact 113), He.free_ok X G (c.fact 114), He.free_ok X G (c.fact 115), He.free_ok X G (c.fact 116), He.free_ok X G (c.fact 117), He.free_ok X G (c.fact 118), He.free_ok X G (c.fact 119), He.free_ok X G (c.fact 120), He.free_ok X G (c.fact 121)⟩
  obtain ⟨xC, kC, bC, tC⟩ := He.exc_ok (c.fact 122)
  have T : ExT K mg "NoFraction" (He.ga K "NoFraction") := ⟨He.glo_ok X G (c.fact 89), xC, kC, bC, tC, He.exm_ok (c.fact 123)⟩
  obtain ⟨t_LETTERS, g_LETTERS⟩ := He.str_ok X G (c.fact 124)
  obtain ⟨t_LONGEST_NAME, g_LONGEST_NAME⟩ := He.int_ok X G (c.fact 125)
  obtain ⟨t_MOST_ROWS, g_MOST_ROWS⟩ := He.int_ok X G (c.fact 126)
  obtain ⟨t_LONGEST_LEAD, g_LONGEST_LEAD⟩ := He.int_ok X G (c.fact 127)
  obtain ⟨fd0, FD0⟩ := c.def_ 17
  have D0 := df_is_whole FD0 (He.glo_ok X G (c.fact 128))
  obtain ⟨fd1, FD1⟩ := c.def_ 18
  have D1 := df_common FD1 (He.glo_ok X G (c.fact 129))
  obtain ⟨fd2, FD2⟩ := c.def_ 19
  have D2 := df_fraction FD2 (He.glo_ok X G (c.fact 130))
  obtain ⟨fd3, FD3⟩ := c.def_ 20
  have D3 := df_plus FD3 (He.glo_ok X G (c.fact 131))
  obtain ⟨fd4, FD4⟩ := c.def_ 21
  have D4 := df_minus FD4 (He.glo_ok X G (c.fact 132))
  obtain ⟨fd5, FD5⟩ := c.def_ 22
  have D5 := df_times FD5 (He.glo_ok X G (c.fact 133))
  obtain ⟨fd6, FD6⟩ := c.def_ 23
  have D6 := df_over FD6 (He.glo_ok X G (c.fact 134))
  obtain ⟨fd7, FD7⟩ := c.def_ 24
  have D7 := df_together FD7 (He.glo_ok X G (c.fact 135))
  obtain ⟨fd8, FD8⟩ := c.def_ 25
  have D8 := df_is_less FD8 (He.glo_ok X G (c.fact 136))
  obtain ⟨fd9, FD9⟩ := c.def_ 26
  have D9 := df_floor_of FD9 (He.glo_ok X G (c.fact 137))
  obtain ⟨fd10, FD10⟩ := c.def_ 27
  have D10 := df_is_fraction FD10 (He.glo_ok X G (c.fact 138))
  obtain ⟨fd11, FD11⟩ := c.def_ 28
  have D11 := df_is_above_0 FD11 (He.glo_ok X G (c.fact 139))
  obtain ⟨fd12, FD12⟩ := c.def_ 29
  have D12 := df_is_name FD12 (He.glo_ok X G (c.fact 140))
  obtain ⟨fd13, FD13⟩ := c.def_ 30
  have D13 := df_is_row FD13 (He.glo_ok X G (c.fact 141))
  obtain ⟨fd14, FD14⟩ := c.def_ 31
  have D14 := df_are_rows FD14 (He.glo_ok X G (c.fact 142))
  obtain ⟨fd15, FD15⟩ := c.def_ 32
  have D15 := df_is_lead FD15 (He.glo_ok X G (c.fact 143))
  obtain ⟨fd16, FD16⟩ := c.def_ 33
  have D16 := df_refuse_no_weight FD16 (He.glo_ok X G (c.fact 144))
  obtain ⟨fd17, FD17⟩ := c.def_ 34
  have D17 := df_weighed_rows FD17 (He.glo_ok X G (c.fact 145))
  obtain ⟨fd18, FD18⟩ := c.def_ 35
  have D18 := df_measure_or_none_of_it FD18 (He.glo_ok X G (c.fact 146))
  obtain ⟨fd19, FD19⟩ := c.def_ 36
  have D19 := df_is_measure FD19 (He.glo_ok X G (c.fact 147))
  obtain ⟨fd20, FD20⟩ := c.def_ 37
  have D20 := df_is_loss FD20 (He.glo_ok X G (c.fact 148))
  obtain ⟨fd21, FD21⟩ := c.def_ 38
  have D21 := df_refuse_no_pan FD21 (He.glo_ok X G (c.fact 149))
  obtain ⟨fd22, FD22⟩ := c.def_ 39
  have D22 := df_loaves FD22 (He.glo_ok X G (c.fact 150))
  obtain ⟨fd23, FD23⟩ := c.def_ 40
  have D23 := df_dough_for FD23 (He.glo_ok X G (c.fact 151))
  obtain ⟨fd24, FD24⟩ := c.def_ 41
  have D24 := df_scaled FD24 (He.glo_ok X G (c.fact 152))
  obtain ⟨fd25, FD25⟩ := c.def_ 42
  have D25 := df__law_cell FD25 (He.glo_ok X G (c.fact 153))
  obtain ⟨fd26, FD26⟩ := c.def_ 43
  have D26 := df__law_pot FD26 (He.glo_ok X G (c.fact 154))
  obtain ⟨fd27, FD27⟩ := c.def_ 44
  have D27 := df__law_draw FD27 (He.glo_ok X G (c.fact 155))
  obtain ⟨fd28, FD28⟩ := c.def_ 45
  have D28 := df__law_low FD28 (He.glo_ok X G (c.fact 156))
  obtain ⟨fd29, FD29⟩ := c.def_ 46
  have D29 := df__law_some FD29 (He.glo_ok X G (c.fact 157))
  obtain ⟨fd30, FD30⟩ := c.def_ 47
  have D30 := df__law_odd_name FD30 (He.glo_ok X G (c.fact 158))
  obtain ⟨fd31, FD31⟩ := c.def_ 48
  have D31 := df__law_odd_weight FD31 (He.glo_ok X G (c.fact 159))
  obtain ⟨fd32, FD32⟩ := c.def_ 49
  have D32 := df__law_odd_count FD32 (He.glo_ok X G (c.fact 160))
  obtain ⟨fd33, FD33⟩ := c.def_ 50
  have D33 := df__law_is_whole FD33 (He.glo_ok X G (c.fact 161))
  obtain ⟨fd34, FD34⟩ := c.def_ 51
  have D34 := df__law_is_name FD34 (He.glo_ok X G (c.fact 162))
  obtain ⟨fd35, FD35⟩ := c.def_ 52
  have D35 := df__law_is_fraction FD35 (He.glo_ok X G (c.fact 163))
  obtain ⟨fd36, FD36⟩ := c.def_ 53
  have D36 := df__law_is_weight FD36 (He.glo_ok X G (c.fact 164))
  obtain ⟨fd37, FD37⟩ := c.def_ 54
  have D37 := df__law_wrong FD37 (He.glo_ok X G (c.fact 165))
  obtain ⟨fd38, FD38⟩ := c.def_ 55
  have D38 := df__law_of_fault FD38 (He.glo_ok X G (c.fact 166))
  obtain ⟨fd39, FD39⟩ := c.def_ 56
  have D39 := df__law_done FD39 (He.glo_ok X G (c.fact 167))
  obtain ⟨fd40, FD40⟩ := c.def_ 57
  have D40 := df__law_deeds_right FD40 (He.glo_ok X G (c.fact 168))
  obtain ⟨fd41, FD41⟩ := c.def_ 58
  have D41 := df_law FD41 (He.glo_ok X G (c.fact 169))
  have e := hfa.symm.trans D41.g
  cases e
  refine ⟨_, fun s v => D41.b1 s [v] rfl, fun base _ _ => ?_⟩
  have Mx : Bltx mg := ⟨He.free_ok X G (c.fact 0), He.free_ok X G (c.fact 1), He.free_ok X G (c.fact 2)⟩
  have hn : PySem.W.specialIn K (.builtin "object.__class__") "__get__" = some (some (.builtin "getset_descriptor.__get__")) := of_decide_eq_true (c.fact 3)
  have htk : PySem.W.takesIn K (.builtin "object.__class__") = some true := of_decide_eq_true (c.fact 4)
  have ml := He.free_ok X G (c.fact 5)
  have ms := He.free_ok X G (c.fact 6)
  have Gc0 := He.glo_ok X G (c.fact 7)
  have Tc0 : ∀ H, SqT K H (He.ga K "NONE_OF_IT") [.int 0, .int 1] := fun H => He.tupB_ok (c.fact 8) H
  have Gc1 := He.glo_ok X G (c.fact 9)
  have Tc1 : ∀ H, SqT K H (He.ga K "ALL_OF_IT") [.int 1, .int 1] := fun H => He.tupB_ok (c.fact 10) H
  obtain ⟨fdD, FDD⟩ := c.def_ 0
  have FDD : FunD K "__init__" "Dough.__init__" (defArgs s_dinit) (defBody s_dinit) (defScope s_dinit) [.int 0] [] (He.ma K (He.ga K "Dough") "__init__") fdD := FDD
  have MKD : Mk K (He.ga K "Dough") (He.ma K (He.ga K "Dough") "__init__") := He.mkr_ok (c.fact 11)
  have XKD : Cls K (He.ga K "Dough") := He.cls_ok (c.fact 12)
  have XD : DghF K (He.ga K "Dough") := ⟨XKD, He.noat_ok (c.fact 13), He.noat_ok (c.fact 14), He.noat_ok (c.fact 15)⟩
  have clD : PySem.W.findIn K (.ref (He.ga K "Dough")) "__class__" = some (some (.builtin "object.__class__")) := of_decide_eq_true (c.fact 16)
  have moD : PySem.W.mroIn K (He.ga K "Dough") (.type "object") = some true := of_decide_eq_true (c.fact 17)
  have YD : ClsX K (He.ga K "Dough") := ⟨XKD, clD, hn, htk, moD⟩
  have GCD := He.glo_ok X G (c.fact 18)
  obtain ⟨fd_dname, FD_dname⟩ := c.def_ 1
  have FM_dname := mt_dname FD_dname
  have ME_dname : Meth K (He.ga K "Dough") "name" (He.ma K (He.ga K "Dough") "name") := He.meth_ok (c.fact 19)
  obtain ⟨fd_drows, FD_drows⟩ := c.def_ 2
  have FM_drows := mt_drows FD_drows
  have ME_drows : Meth K (He.ga K "Dough") "rows" (He.ma K (He.ga K "Dough") "rows") := He.meth_ok (c.fact 20)
  obtain ⟨fd_dlead, FD_dlead⟩ := c.def_ 3
  have FM_dlead := mt_dlead FD_dlead
  have ME_dlead : Meth K (He.ga K "Dough") "lead" (He.ma K (He.ga K "Dough") "lead") := He.meth_ok (c.fact 21)
  obtain ⟨fd_dtotal, FD_dtotal⟩ := c.def_ 4
  have FM_dtotal := mt_dtotal FD_dtotal
  have ME_dtotal : Meth K (He.ga K "Dough") "total" (He.ma K (He.ga K "Dough") "total") := He.meth_ok (c.fact 22)
  obtain ⟨fd_deq, FD_deq⟩ := c.def_ 5
  have FM_deq := mt_deq FD_deq
  have ME_deq : Meth K (He.ga K "Dough") "__eq__" (He.ma K (He.ga K "Dough") "__eq__") := He.meth_ok (c.fact 23)
  obtain ⟨fd_drepr, FD_drepr⟩ := c.def_ 6
  have FM_drepr := mt_drepr FD_drepr
  have ME_drepr : Meth K (He.ga K "Dough") "__repr__" (He.ma K (He.ga K "Dough") "__repr__") := He.meth_ok (c.fact 24)
  obtain ⟨fd_dlen, FD_dlen⟩ := c.def_ 7
  have FM_dlen := mt_dlen FD_dlen
  have ME_dlen : Meth K (He.ga K "Dough") "__len__" (He.ma K (He.ga K "Dough") "__len__") := He.meth_ok (c.fact 25)
  have neD : PySem.W.findIn K (.ref (He.ga K "Dough")) "__ne__" = some (some (.builtin "object.__ne__")) := of_decide_eq_true (c.fact 26)
  have obD : PySem.W.subIn K (.ref (He.ga K "Dough")) (.type "object") = some true := of_decide_eq_true (c.fact 27)
  have al1D_NoneType : PySem.W.kitOne K (.type "NoneType") (.ref (He.ga K "Dough")) = some false := of_decide_eq_true (c.fact 28)
  have al2D_NoneType : PySem.W.notFirst K (He.ga K "Dough") (.type "NoneType") = true := of_decide_eq_true (c.fact 29)
  have apD_NoneType : PySem.W.subIn K (.ref (He.ga K "Dough")) (.type "NoneType") = some false := of_decide_eq_true (c.fact 30)
  have al1D_int : PySem.W.kitOne K (.type "int") (.ref (He.ga K "Dough")) = some false := of_decide_eq_true (c.fact 31)
  have al2D_int : PySem.W.notFirst K (He.ga K "Dough") (.type "int") = true := of_decide_eq_true (c.fact 32)
  have apD_int : PySem.W.subIn K (.ref (He.ga K "Dough")) (.type "int") = some false := of_decide_eq_true (c.fact 33)
  have al1D_str : PySem.W.kitOne K (.type "str") (.ref (He.ga K "Dough")) = some false := of_decide_eq_true (c.fact 34)
  have al2D_str : PySem.W.notFirst K (He.ga K "Dough") (.type "str") = true := of_decide_eq_true (c.fact 35)
  have apD_str : PySem.W.subIn K (.ref (He.ga K "Dough")) (.type "str") = some false := of_decide_eq_true (c.fact 36)
  have al1D_list : PySem.W.kitOne K (.type "list") (.ref (He.ga K "Dough")) = some false := of_decide_eq_true (c.fact 37)
  have al2D_list : PySem.W.notFirst K (He.ga K "Dough") (.type "list") = true := of_decide_eq_true (c.fact 38)
  have apD_list : PySem.W.subIn K (.ref (He.ga K "Dough")) (.type "list") = some false := of_decide_eq_true (c.fact 39)
  have al1D_tuple : PySem.W.kitOne K (.type "tuple") (.ref (He.ga K "Dough")) = some false := of_decide_eq_true (c.fact 40)
  have al2D_tuple : PySem.W.notFirst K (He.ga K "Dough") (.type "tuple") = true := of_decide_eq_true (c.fact 41)
  have apD_tuple : PySem.W.subIn K (.ref (He.ga K "Dough")) (.type "tuple") = some false := of_decide_eq_true (c.fact 42)
  have NOD : NeOb K (He.ga K "Dough") := ⟨neD, obD⟩
  have APD : Apart K (He.ga K "Dough") := ⟨apD_list, apD_tuple, apD_NoneType, apD_str, apD_int⟩
  obtain ⟨fdP, FDP⟩ := c.def_ 8
  have FDP : FunD K "__init__" "Pan.__init__" (defArgs s_pinit) (defBody s_pinit) (defScope s_pinit) [.non] [] (He.ma K (He.ga K "Pan") "__init__") fdP := FDP
  have MKP : Mk K (He.ga K "Pan") (He.ma K (He.ga K "Pan") "__init__") := He.mkr_ok (c.fact 43)
  have XKP : Cls K (He.ga K "Pan") := He.cls_ok (c.fact 44)
  have XP : PanF K (He.ga K "Pan") := ⟨XKP, He.noat_ok (c.fact 45), He.noat_ok (c.fact 46), He.noat_ok (c.fact 47)⟩
  have clP : PySem.W.findIn K (.ref (He.ga K "Pan")) "__class__" = some (some (.builtin "object.__class__")) := of_decide_eq_true (c.fact 48)
  have moP : PySem.W.mroIn K (He.ga K "Pan") (.type "object") = some true := of_decide_eq_true (c.fact 49)
  have YP : ClsX K (He.ga K "Pan") := ⟨XKP, clP, hn, htk, moP⟩
  have GCP := He.glo_ok X G (c.fact 50)
  obtain ⟨fd_pname, FD_pname⟩ := c.def_ 9
  have FM_pname := mt_pname FD_pname
  have ME_pname : Meth K (He.ga K "Pan") "name" (He.ma K (He.ga K "Pan") "name") := He.meth_ok (c.fact 51)
  obtain ⟨fd_pholds, FD_pholds⟩ := c.def_ 10
  have FM_pholds := mt_pholds FD_pholds
  have ME_pholds : Meth K (He.ga K "Pan") "holds" (He.ma K (He.ga K "Pan") "holds") := He.meth_ok (c.fact 52)
  obtain ⟨fd_ploss, FD_ploss⟩ := c.def_ 11
  have FM_ploss := mt_ploss FD_ploss
  have ME_ploss : Meth K (He.ga K "Pan") "loss" (He.ma K (He.ga K "Pan") "loss") := He.meth_ok (c.fact 53)
  obtain ⟨fd_pbaked, FD_pbaked⟩ := c.def_ 12
  have FM_pbaked := mt_pbaked FD_pbaked
  have ME_pbaked : Meth K (He.ga K "Pan") "baked" (He.ma K (He.ga K "Pan") "baked") := He.meth_ok (c.fact 54)
  obtain ⟨fd_peq, FD_peq⟩ := c.def_ 13
  have FM_peq := mt_peq FD_peq
  have ME_peq : Meth K (He.ga K "Pan") "__eq__" (He.ma K (He.ga K "Pan") "__eq__") := He.meth_ok (c.fact 55)
  obtain ⟨fd_prepr, FD_prepr⟩ := c.def_ 14
  have FM_prepr := mt_prepr FD_prepr
  have ME_prepr : Meth K (He.ga K "Pan") "__repr__" (He.ma K (He.ga K "Pan") "__repr__") := He.meth_ok (c.fact 56)
  have neP : PySem.W.findIn K (.ref (He.ga K "Pan")) "__ne__" = some (some (.builtin "object.__ne__")) := of_decide_eq_true (c.fact 57)
  have obP : PySem.W.subIn K (.ref (He.ga K "Pan")) (.type "object") = some true := of_decide_eq_true (c.fact 58)
  have al1P_NoneType : PySem.W.kitOne K (.type "NoneType") (.ref (He.ga K "Pan")) = some false := of_decide_eq_true (c.fact 59)
  have al2P_NoneType : PySem.W.notFirst K (He.ga K "Pan") (.type "NoneType") = true := of_decide_eq_true (c.fact 60)
  have apP_NoneType : PySem.W.subIn K (.ref (He.ga K "Pan")) (.type "NoneType") = some false := of_decide_eq_true (c.fact 61)
  have al1P_int : PySem.W.kitOne K (.type "int") (.ref (He.ga K "Pan")) = some false := of_decide_eq_true (c.fact 62)
  have al2P_int : PySem.W.notFirst K (He.ga K "Pan") (.type "int") = true := of_decide_eq_true (c.fact 63)
  have apP_int : PySem.W.subIn K (.ref (He.ga K "Pan")) (.type "int") = some false := of_decide_eq_true (c.fact 64)
  have al1P_str : PySem.W.kitOne K (.type "str") (.ref (He.ga K "Pan")) = some false := of_decide_eq_true (c.fact 65)
  have al2P_str : PySem.W.notFirst K (He.ga K "Pan") (.type "str") = true := of_decide_eq_true (c.fact 66)
  have apP_str : PySem.W.subIn K (.ref (He.ga K "Pan")) (.type "str") = some false := of_decide_eq_true (c.fact 67)
  have al1P_list : PySem.W.kitOne K (.type "list") (.ref (He.ga K "Pan")) = some false := of_decide_eq_true (c.fact 68)
  have al2P_list : PySem.W.notFirst K (He.ga K "Pan") (.type "list") = true := of_decide_eq_true (c.fact 69)
  have apP_list : PySem.W.subIn K (.ref (He.ga K "Pan")) (.type "list") = some false := of_decide_eq_true (c.fact 70)
  have al1P_tuple : PySem.W.kitOne K (.type "tuple") (.ref (He.ga K "Pan")) = some false := of_decide_eq_true (c.fact 71)
  have al2P_tuple : PySem.W.notFirst K (He.ga K "Pan") (.type "tuple") = true := of_decide_eq_true (c.fact 72)
  have apP_tuple : PySem.W.subIn K (.ref (He.ga K "Pan")) (.type "tuple") = some false := of_decide_eq_true (c.fact 73)
  have NOP : NeOb K (He.ga K "Pan") := ⟨neP, obP⟩
  have APP : Apart K (He.ga K "Pan") := ⟨apP_list, apP_tuple, apP_NoneType, apP_str, apP_int⟩
  have C1 : Cal l.prog w K mg base CX0 1 "common" ["one", "other"] (spCom) := D1.cal (ok_com D1.fn)
  have C2 : Cal l.prog w K mg base CX0 2 "fraction" ["top", "bottom"] (fun _ _ _ _ => False) := D2.cal FnG.no
  have C4 : Cal l.prog w K mg base CX0 4 "fraction" ["top", "bottom"] (spFrac true) := by
    have P1 : FnG l.prog w K mg base CX0 3 _ _ ["top", "bottom"] (spFrac false) := ok_frac (j := 1) false _ (fun n d H Q hd hs => by
      obtain ⟨n', d', e, _, hp, _⟩ := hs
      cases e
      have := hp rfl
      omega) M T D2.fn C1 C2
    have CR : Cal l.prog w K mg base CX0 3 "fraction" ["top", "bottom"] (spFrac false) := D2.cal P1
    exact D2.cal (ok_frac (j := 2) true _ (fun n d H Q hd hs => by
      obtain ⟨n', d', e, h0, _, h1, h2, q⟩ := hs
      cases e
      refine ⟨-n, -d, rfl, by omega, fun _ => by omega, ?_, ?_, ?_⟩
      · show (-n).natAbs < _
        rw [Int.natAbs_neg]
        exact h1
      · show (-d).natAbs < _
        rw [Int.natAbs_neg]
        exact h2
      · rw [low_neg]
        exact q) M T D2.fn C1 CR)
  have CPl : Cal l.prog w K mg base CX0 5 "plus" ["one", "other"] (sp_plus K) := D3.cal (ok_plus D3.fn C4)
  have CMi : Cal l.prog w K mg base CX0 5 "minus" ["one", "other"] (sp_minus K) := D4.cal (ok_minus D4.fn C4)
  have CTi : Cal l.prog w K mg base CX0 5 "times" ["one", "other"] (sp_times K) := D5.cal (ok_times D5.fn C4)
  have COv : Cal l.prog w K mg base CX0 5 "over" ["one", "other"] (sp_over K) := D6.cal (ok_over D6.fn C4)
  have CL : Cal l.prog w K mg base CX0 1 "is_less" ["one", "other"] (sp_is_less K) := D8.cal (ok_is_less D8.fn)
  have CTg : Cal l.prog w K mg base CX0 6 "together" ["ones"] (sp_togL K) := D7.cal (ok_togL Gc0 Tc0 D7.fn CPl)
  have CW : Cal l.prog w K mg base CX0 1 "is_whole" ["thing"] (sp_whole K) := D0.cal (ok_whole M Mx D0.fn)
  have CF : Cal l.prog w K mg base CX0 2 "is_fraction" ["thing"] (sp_isfr K) := D10.cal (ok_isfr M Mx D10.fn CW C1)
  have CN : Cal l.prog w K mg base CX0 2 "is_name" ["thing"] (sp_isnm K) := D12.cal (ok_isnm M Mx g_LETTERS g_LONGEST_NAME D12.fn)
  have CA : Cal l.prog w K mg base CX0 3 "is_above_0" ["thing"] (sp_ab0 K) := D11.cal (ok_ab0 D11.fn CF)
  have CRo : Cal l.prog w K mg base CX0 4 "is_row" ["thing"] (sp_isrow K) := D13.cal (ok_isrow M Mx D13.fn CN CA)
  have CRs : Cal l.prog w K mg base CX0 5 "are_rows" ["thing"] (sp_arer K) := D14.cal (FnG.or (ok_arerL M Mx ml ms g_MOST_ROWS D14.fn CRo) (ok_arerT M Mx ml ms g_MOST_ROWS D14.fn CRo))
  have CLd : Cal l.prog w K mg base CX0 2 "is_lead" ["thing"] (sp_lead K) := D15.cal (ok_lead g_LONGEST_LEAD D15.fn CW)
  have FID := ok_dinit (P := l.prog) (w := w) (base := base) (mg := mg) Mx XD FDD CN CRs CLd
  have MPD : MakG l.prog w K mg base CX0 6 "Dough" (He.ga K "Dough") (He.ma K (He.ga K "Dough") "__init__") _ ["self", "name", "rows", "lead"] (sp_dinit K (He.ga K "Dough")) := ⟨MKD, FID, GCD⟩
  have DMn : MetG l.prog w K mg base CX0 1 (He.ga K "Dough") "name" (He.ma K (He.ga K "Dough") "name") fd_dname ["self"] (sp_dname K (He.ga K "Dough")) := ⟨XKD, ME_dname, ok_dname XD FM_dname.1, FM_dname.2⟩
  have DMr : MetG l.prog w K mg base CX0 1 (He.ga K "Dough") "rows" (He.ma K (He.ga K "Dough") "rows") fd_drows ["self"] (sp_drows K (He.ga K "Dough")) := ⟨XKD, ME_drows, ok_drows ml XD FM_drows.1, FM_drows.2⟩
  have DMl : MetG l.prog w K mg base CX0 1 (He.ga K "Dough") "lead" (He.ma K (He.ga K "Dough") "lead") fd_dlead ["self"] (sp_dlead K (He.ga K "Dough")) := ⟨XKD, ME_dlead, ok_dlead XD FM_dlead.1, FM_dlead.2⟩
  have DMt : MetG l.prog w K mg base CX0 7 (He.ga K "Dough") "total" (He.ma K (He.ga K "Dough") "total") fd_dtotal ["self"] (sp_dtotal K (He.ga K "Dough")) := ⟨XKD, ME_dtotal, ok_dtotal XD FM_dtotal.1 CTg, FM_dtotal.2⟩
  have CT2 : Cs2 K mg (He.ga K "NONE_OF_IT") (He.ga K "ALL_OF_IT") := ⟨Gc0, Gc1, Tc0, Tc1⟩
  have CFl : Cal l.prog w K mg base CX0 1 "floor_of" ["one"] (sp_floor K) := D9.cal (ok_floor D9.fn)
  have CRw : Cal l.prog w K mg base CX0 4 "refuse_no_weight" ["thing"] (sp_refw K) := D16.cal (ok_refw D16.fn CA)
  have CO : Cal l.prog w K mg base CX0 1 "measure_or_none_of_it" ["measure"] (sp_orN K) := D18.cal (ok_orN CT2 D18.fn)
  have CMs : Cal l.prog w K mg base CX0 3 "is_measure" ["thing"] (sp_isMf K) := D19.cal (ok_isMf D19.fn CF)
  have CLo : Cal l.prog w K mg base CX0 4 "is_loss" ["thing"] (sp_loss K) := D20.cal (ok_loss CT2 D20.fn CMs CL)
  have CRp : Cal l.prog w K mg base CX0 5 "refuse_no_pan" ["name", "weight", "loss"] (sp_refp K) := D21.cal (ok_refp D21.fn CN CA CLo)
  have FIP := ok_pinit (P := l.prog) (w := w) (base := base) (mg := mg) XP FDP CO CRp
  have MPP : MakG l.prog w K mg base CX0 6 "Pan" (He.ga K "Pan") (He.ma K (He.ga K "Pan") "__init__") _ ["self", "name", "holds", "loss"] (sp_pinit K (He.ga K "Pan")) := ⟨MKP, FIP, GCP⟩
  have PWY := pways_of FDP
  have PMn : MetG l.prog w K mg base CX0 1 (He.ga K "Pan") "name" (He.ma K (He.ga K "Pan") "name") fd_pname ["self"] (sp_pname K (He.ga K "Pan")) := ⟨XKP, ME_pname, ok_pname XP FM_pname.1, FM_pname.2⟩
  have PMh : MetG l.prog w K mg base CX0 1 (He.ga K "Pan") "holds" (He.ma K (He.ga K "Pan") "holds") fd_pholds ["self"] (sp_pholds K (He.ga K "Pan")) := ⟨XKP, ME_pholds, ok_pholds XP FM_pholds.1, FM_pholds.2⟩
  have PMl : MetG l.prog w K mg base CX0 1 (He.ga K "Pan") "loss" (He.ma K (He.ga K "Pan") "loss") fd_ploss ["self"] (sp_ploss K (He.ga K "Pan")) := ⟨XKP, ME_ploss, ok_ploss XP FM_ploss.1, FM_ploss.2⟩
  have PMb : MetG l.prog w K mg base CX0 6 (He.ga K "Pan") "baked" (He.ma K (He.ga K "Pan") "baked") fd_pbaked ["self"] (sp_pbaked K (He.ga K "Pan")) := ⟨XKP, ME_pbaked, ok_pbaked CT2 XP FM_pbaked.1 CTi CMi, FM_pbaked.2⟩
  have PME : OwnM l.prog w K mg base 1 (He.ga K "Pan") "__eq__" (He.ma K (He.ga K "Pan") "__eq__") fd_peq ["self", "other"] (sp_peq K (He.ga K "Pan")) := ⟨ME_peq.1, ME_peq.2, ok_peq Mx YP XP GCP FM_peq.1, FM_peq.2⟩
  have PMR : OwnM l.prog w K mg base 1 (He.ga K "Pan") "__repr__" (He.ma K (He.ga K "Pan") "__repr__") fd_prepr ["self"] (sp_prepr K (He.ga K "Pan")) := ⟨ME_prepr.1, ME_prepr.2, ok_prepr M XP FM_prepr.1, FM_prepr.2⟩
  have CLv : Cal l.prog w K mg base CX0 6 "loaves" ["weight", "pan"] (sp_loaves K (He.ga K "Pan")) := D22.cal (ok_loaves PMh D22.fn CRw CFl COv CMi CTi)
  have CDf : Cal l.prog w K mg base CX0 6 "dough_for" ["count", "pan"] (sp_dfor K (He.ga K "Pan")) := D23.cal (ok_dfor PMh D23.fn CW CTi)
  obtain ⟨fdF, FDF⟩ := c.def_ 15
  have FDF : FunD K "pan_for" "pan_for" (defArgs s_pan_for) (defBody s_pan_for) (defScope s_pan_for) [.non] [] (He.ga K "pan_for") fdF := FDF
  have FPF := ok_pfor (P := l.prog) (w := w) (base := base) (mg := mg) CT2 PWY MPP FDF CO CRp COv CMi
  obtain ⟨⟨pfg3, pfh3⟩, ⟨pfg2, pfh2⟩⟩ := pfor_ways FDF
  have GPF := He.glo_ok X G (c.fact 74)
  have PF3 : CalN l.prog w K mg base 8 3 "pan_for" ["name", "baked", "loss"] (fun vs zs => gAll vs [.non] zs) (sp_pfor K (He.ga K "Pan")) := ⟨_, _, pfg3, FPF, pfh3, GPF, FDF.kp⟩
  have PF2 : CalN l.prog w K mg base 8 2 "pan_for" ["name", "baked", "loss"] (fun vs zs => gDef vs [.non] zs) (sp_pfor K (He.ga K "Pan")) := ⟨_, _, pfg2, FPF, pfh2, GPF, FDF.kp⟩
  have CWr : Cal l.prog w K mg base CX0 8 "weighed_rows" ["dough", "weight"] (sp_wrows K (He.ga K "Dough")) := D17.cal (ok_wrows DMt DMr D17.fn COv CTi)
  obtain ⟨dgall, dhall⟩ := dall_of FDD
  obtain ⟨dgdef, dhdef⟩ := ddef_of FDD
  have gL := He.glo_ok X G (c.fact 75)
  have MV := He.free_ok X G (c.fact 76)
  obtain ⟨e_TX, o_TX⟩ := c.at_ 16 rfl
  obtain ⟨fdNoPan, TX⟩ := xtB_ok (mg := mg) (ps := ["field"]) (st := sx_NoPan) (qual := "NoPan.__init__") hfile htop (He.glo_ok X G (c.fact 78)) (He.free_ok X G (c.fact 79)) (c.fact 77) e_TX o_TX rfl (fun cc kV doc pm an cdv ct us hl => match us, hl with | [_, _], _ => rfl)
  obtain ⟨x_TW, k_TW, b_TW, t_TW⟩ := He.exc_ok (c.fact 80)
  have TW : ExT K mg "NoWeight" (He.ga K "NoWeight") := ⟨He.glo_ok X G (c.fact 83), x_TW, k_TW, b_TW, t_TW, He.exm_ok (c.fact 81)⟩
  have TWE : ExcC K (He.ga K "NoWeight") := (excB_ok (c.fact 82)).1
  obtain ⟨x_TC, k_TC, b_TC, t_TC⟩ := He.exc_ok (c.fact 84)
  have TC : ExT K mg "NoCount" (He.ga K "NoCount") := ⟨He.glo_ok X G (c.fact 87), x_TC, k_TC, b_TC, t_TC, He.exm_ok (c.fact 85)⟩
  have TCE : ExcC K (He.ga K "NoCount") := (excB_ok (c.fact 86)).1
  have CAQ : Cal l.prog w K mg base CX0 3 "is_above_0" ["thing"] (sp_ab0Q K) := D11.cal (ok_ab0Q D11.fn CF)
  have CMQ : Cal l.prog w K mg base CX0 3 "is_measure" ["thing"] (sp_isM K) := D19.cal (ok_isM D19.fn CF)
  have CLQ : Cal l.prog w K mg base CX0 4 "is_loss" ["thing"] (sp_lossQ K) := D20.cal (ok_lossQ CT2 D20.fn CMQ CL)
  have COQ : Cal l.prog w K mg base CX0 1 "measure_or_none_of_it" ["measure"] (sp_orNone K) := D18.cal (ok_orNone CT2 D18.fn)
  have CRX : Cal l.prog w K mg base (L2.CX l.prog w) 5 "refuse_no_pan" ["name", "weight", "loss"] (sp_refpX K (He.ga K "NoPan")) := D21.cal (ok_refpX TX D21.fn CN CAQ CLQ)
  have CRwX : Cal l.prog w K mg base (L2.CX l.prog w) 4 "refuse_no_weight" ["thing"] (sp_rnwX K (He.ga K "NoWeight")) := D16.cal (ok_rnwX TW D16.fn CAQ)
  have FIX := ok_pinitX (P := l.prog) (w := w) (base := base) (mg := mg) FDP COQ CRX
  have MPX : MakG l.prog w K mg base (L2.CX l.prog w) 6 "Pan" (He.ga K "Pan") (He.ma K (He.ga K "Pan") "__init__") _ ["self", "name", "holds", "loss"] (sp_or (sp_pinit K (He.ga K "Pan")) (sp_pinitX K (He.ga K "NoPan"))) := ⟨MKP, FIP.lift.or FIX, GCP⟩
  have FPX := ok_pforX (P := l.prog) (w := w) (base := base) (mg := mg) FDF COQ CRX
  have PFX : CalP l.prog w K mg base (L2.CX l.prog w) 8 3 "pan_for" ["name", "baked", "loss"] (fun vs zs => gAll vs [.non] zs) (sp_or (sp_pfor K (He.ga K "Pan")) (sp_pforX K (He.ga K "NoPan"))) := ⟨_, _, pfg3, FPF.lift.or FPX, pfh3, GPF, FDF.kp⟩
  have CLvX : Cal l.prog w K mg base (L2.CX l.prog w) 6 "loaves" ["weight", "pan"] (sp_or (sp_loaves K (He.ga K "Pan")) (sp_loavesX K (He.ga K "NoWeight"))) := D22.cal ((ok_loaves PMh D22.fn CRw CFl COv CMi CTi).lift.or (ok_loavesX D22.fn CRwX))
  have CDfX : Cal l.prog w K mg base (L2.CX l.prog w) 6 "dough_for" ["count", "pan"] (sp_or (sp_dfor K (He.ga K "Pan")) (sp_dforX K (He.ga K "NoCount"))) := D23.cal ((ok_dfor PMh D23.fn CW CTi).lift.or (ok_dforX TC D23.fn CW))
  have CScX : Cal l.prog w K mg base (L2.CX l.prog w) 9 "scaled" ["dough", "weight"] (sp_or (sp_scaled K (He.ga K "Dough")) (sp_scaledX K (He.ga K "NoWeight"))) := D24.cal ((ok_scaled dhall MPD DMn DMl D24.fn CRw CWr).lift.or (ok_scaledX D24.fn CRwX))
  let OT : Oths K mg := ⟨(He.ga K "NoDough"), He.glo_ok X G (c.fact 88), (He.ga K "NoFraction"), He.glo_ok X G (c.fact 89), (He.ga K "NoName"), He.glo_ok X G (c.fact 90), (He.ga K "NoStep"), He.glo_ok X G (c.fact 91), (He.ga K "NoStuff"), He.glo_ok X G (c.fact 92), (He.ga K "NoWeights"), He.glo_ok X G (c.fact 93), (He.ga K "NoPan"), He.glo_ok X G (c.fact 78), (He.ga K "NoWeight"), He.glo_ok X G (c.fact 83), (He.ga K "NoCount"), He.glo_ok X G (c.fact 87)⟩
  have koP : PySem.W.kitAny K (.ref (He.ga K "NoPan")) [.ref (He.ga K "NoDough"), .ref (He.ga K "NoFraction"), .ref (He.ga K "NoName"), .ref (He.ga K "NoStep"), .ref (He.ga K "NoStuff"), .ref (He.ga K "NoWeights")] = some false := of_decide_eq_true (c.fact 94)
  have kVP : PySem.W.kitOne K (.ref (He.ga K "NoPan")) (.type "ValueError") = some true := of_decide_eq_true (c.fact 95)
  have elP : PySem.W.exmOne K (.ref (He.ga K "NoPan")) (.ref (He.ga K "LoafError")) = some true := of_decide_eq_true (c.fact 96)
  have kPP : PySem.W.kitOne K (.ref (He.ga K "NoPan")) (.ref (He.ga K "NoPan")) = some true := of_decide_eq_true (c.fact 97)
  have kPW : PySem.W.kitOne K (.ref (He.ga K "NoPan")) (.ref (He.ga K "NoWeight")) = some false := of_decide_eq_true (c.fact 98)
  have kPC : PySem.W.kitOne K (.ref (He.ga K "NoPan")) (.ref (He.ga K "NoCount")) = some false := of_decide_eq_true (c.fact 99)
  have FAP : FaD K mg OT (He.ga K "NoPan") true false false := ⟨TX.E, kVP, koP, kPP, kPW, kPC⟩
  have koW : PySem.W.kitAny K (.ref (He.ga K "NoWeight")) [.ref (He.ga K "NoDough"), .ref (He.ga K "NoFraction"), .ref (He.ga K "NoName"), .ref (He.ga K "NoStep"), .ref (He.ga K "NoStuff"), .ref (He.ga K "NoWeights")] = some false := of_decide_eq_true (c.fact 100)
  have kVW : PySem.W.kitOne K (.ref (He.ga K "NoWeight")) (.type "ValueError") = some true := of_decide_eq_true (c.fact 101)
  have elW : PySem.W.exmOne K (.ref (He.ga K "NoWeight")) (.ref (He.ga K "LoafError")) = some true := of_decide_eq_true (c.fact 102)
  have kWP : PySem.W.kitOne K (.ref (He.ga K "NoWeight")) (.ref (He.ga K "NoPan")) = some false := of_decide_eq_true (c.fact 103)
  have kWW : PySem.W.kitOne K (.ref (He.ga K "NoWeight")) (.ref (He.ga K "NoWeight")) = some true := of_decide_eq_true (c.fact 104)
  have kWC : PySem.W.kitOne K (.ref (He.ga K "NoWeight")) (.ref (He.ga K "NoCount")) = some false := of_decide_eq_true (c.fact 105)
  have FAW : FaD K mg OT (He.ga K "NoWeight") false true false := ⟨TWE, kVW, koW, kWP, kWW, kWC⟩
  have koC : PySem.W.kitAny K (.ref (He.ga K "NoCount")) [.ref (He.ga K "NoDough"), .ref (He.ga K "NoFraction"), .ref (He.ga K "NoName"), .ref (He.ga K "NoStep"), .ref (He.ga K "NoStuff"), .ref (He.ga K "NoWeights")] = some false := of_decide_eq_true (c.fact 106)
  have kVC : PySem.W.kitOne K (.ref (He.ga K "NoCount")) (.type "ValueError") = some true := of_decide_eq_true (c.fact 107)
  have elC : PySem.W.exmOne K (.ref (He.ga K "NoCount")) (.ref (He.ga K "LoafError")) = some true := of_decide_eq_true (c.fact 108)
  have kCP : PySem.W.kitOne K (.ref (He.ga K "NoCount")) (.ref (He.ga K "NoPan")) = some false := of_decide_eq_true (c.fact 109)
  have kCW : PySem.W.kitOne K (.ref (He.ga K "NoCount")) (.ref (He.ga K "NoWeight")) = some false := of_decide_eq_true (c.fact 110)
  have kCC : PySem.W.kitOne K (.ref (He.ga K "NoCount")) (.ref (He.ga K "NoCount")) = some true := of_decide_eq_true (c.fact 111)
  have FAC : FaD K mg OT (He.ga K "NoCount") false false true := ⟨TCE, kVC, koC, kCP, kCW, kCC⟩
  have FP_ : TdF K (He.ga K "NoPan") "field" := ⟨TX.X, TX.no _ (by simp)⟩
  have B1 : Cal l.prog w K mg base CX0 1 "_law_cell" ["_law_script", "_law_k"] (sp_cell K) := D25.cal (ok_cell M D25.fn)
  have B2 : Cal l.prog w K mg base CX0 1 "_law_pot" ["_law_cell_here"] (sp_pot) := D26.cal (ok_pot M D26.fn)
  have B3 : Cal l.prog w K mg base CX0 1 "_law_draw" ["_law_pot_here", "_law_many"] (sp_draw) := D27.cal (ok_draw M D27.fn)
  have B4 : Cal l.prog w K mg base CX0 1 "_law_low" ["_law_top", "_law_bottom"] (sp_low) := D28.cal (ok_low M D28.fn)
  have B7 : Cal l.prog w K mg base CX0 2 "_law_some" ["_law_pot_here"] (sp_wsome K) := D29.cal (ok_wsome D29.fn B3 B4)
  have BN : Cal l.prog w K mg base CX0 2 "_law_odd_name" ["_law_pot_here"] (sp_oddn K) := D30.cal (ok_oddn M D30.fn B3)
  have BW : Cal l.prog w K mg base CX0 2 "_law_odd_weight" ["_law_pot_here"] (sp_oddw K) := D31.cal (ok_oddw M D31.fn B3)
  have BC : Cal l.prog w K mg base CX0 2 "_law_odd_count" ["_law_pot_here"] (sp_oddc K) := D32.cal (ok_oddc M D32.fn B3)
  have LW : Cal l.prog w K mg base CX0 1 "_law_is_whole" ["_law_thing"] (sp_whole K) := D33.cal (ok_lwhole M Mx D33.fn)
  have LN : Cal l.prog w K mg base CX0 2 "_law_is_name" ["_law_thing"] (sp_lisnm K) := D34.cal (ok_lisnm M Mx D34.fn)
  have LF : Cal l.prog w K mg base CX0 2 "_law_is_fraction" ["_law_thing"] (sp_lisfr K) := D35.cal (ok_lisfr M Mx D35.fn LW B4)
  have LG : Cal l.prog w K mg base CX0 3 "_law_is_weight" ["_law_thing"] (sp_lisw K) := D36.cal (ok_lisw D36.fn LF)
  have LWr : Cal l.prog w K mg base CX0 4 "_law_wrong" ["_law_told"] (sp_wrong K) := D37.cal (ok_wrong D37.fn LN LG LF)
  have LO : CalL l.prog w K mg base 1 "_law_of_fault" ["_law_e"] (sp_fault K mg OT) := ⟨_, _, ok_fault Mx MV OT D38.fn, D38.b1, D38.g, D38.fn.kp⟩
  have LD : Cal l.prog w K mg base CX0 10 "_law_done" ["_law_deed", "_law_one", "_law_other", "_law_third"] (sp_done K (He.ga K "Pan") (He.ga K "Dough")) := D39.cal (ok_done OT gL FAP FAW FAC FP_ elP elW elC (PWY.all.choose_spec) MPX PFX CLvX CDfX CScX D39.fn LO)
  have LDe : Cal l.prog w K mg base CX0 11 "_law_deeds_right" ["_law_weight", "_law_count", "_law_pan"] (sp_deeds K (He.ga K "Pan")) := D40.cal (ok_deeds M dhdef MPD DMr D40.fn LD LG LW)
  exact ok_law M (PWY.all.choose_spec) MPP D41.fn B1 B2 B3 B7 BN BW BC LWr LD LDe
end Lf

set_option Elab.async false
set_option linter.all false
set_option maxRecDepth 100000
set_option maxHeartbeats 0
namespace Lf
open PySem PySem.Spec PyProof.Rows L2
end Lf
open PySem PySem.W PySem.Calls PyProof.Rows
theorem PySem.Challenge.cw_loafshares_k57_pans_refused_holds : PySem.Challenge.rw_loafshares_k57_pans_refused.Holds := by
  w_on; o_law
  refine HandSHeadRun.head_any (r := OpenLaw.row PySem.Challenge.rw_loafshares_k57_pans_refused) (q := view (OpenLaw.row PySem.Challenge.rw_loafshares_k57_pans_refused).prog [67]) (H := Lf.hdK) (ob := Lf.hdOb) (M := 20000) (loose := Lf.hdLoose) (d := HandSHeadRun.topDef (OpenLaw.row PySem.Challenge.rw_loafshares_k57_pans_refused).prog 67) (kwd := []) Lf.hdOb_eq
    (by kernel_rfl) (fun s => by kernel_rfl) Lf.hdRun (by kernel_rfl) (by kernel_rfl) (by kernel_rfl) (by rfl) (by first | assumption | decide +kernel) (by decide +kernel) ⟨rfl, rfl, rfl, rfl, rfl, by decide +kernel⟩ ?hw ?hc
  case hw => w_witness2
  case hc =>
    refine Lf.walkX (l := PySem.Challenge.rw_loafshares_k57_pans_refused) (n := 63) (k := 12) (x := "_law_script") (sp := Lf.sp_law) rfl (by decide) (by kernel_rfl) ⟨rfl, by decide, by decide⟩ ?F (fun K H a ns hl _ hS => ⟨a, ns, rfl, hS, hl, fun _ => rfl⟩)
    intro w mg fa h Y G hmg0
    obtain ⟨K, KX, c⟩ := Y
    have hmg : mg ("law" : PySem.Str) = some (.ref fa) := by
      have e : (HandSHeadRun.topDef (OpenLaw.row PySem.Challenge.rw_loafshares_k57_pans_refused).prog 67).name = ("law" : PySem.Str) := by kernel_rfl
      rw [← e]
      exact hmg0
    obtain ⟨fd, hb, hF⟩ := Lf.all_mk (l := PySem.Challenge.rw_loafshares_k57_pans_refused) (w := w) KX G hmg c (by kernel_rfl) (by kernel_rfl)
    exact ⟨K, KX, fd, hb, hF⟩
