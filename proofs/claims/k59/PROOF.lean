import PyProof.Rows.All
import Wide.All
import OpenK.AllK
import Wide.FinOn
import HandS.ForExc
import HandS.Comp
import HandS.Wide
import KE.KStateDown
import HandS.Ends
import HandS.More
import HandS.Defaults
import HandS.Head0
import HandS.Head1
import HandS.Head2
import HandS.HeadEnd
import HandS.HeadHook1
import HandS.HeadHook2
import KE.KExcSuper
import HandS.Nested
import HandS.ExcInit
import KE.KIsAll
import KE.KExcIs
import KE.KTryMore
import HandS.Base
import HandS.Call
import HandS.Exc
import HandS.ExcIs
import HandS.ExcField
import HandS.ExcOwn
import HandS.FStr
import HandS.CallLocal
import HandS.WideBits
import HandS.Text
import HandS.IsInst
import HandS.Dict
import HandS.Steps
import HandS.Walk
import HandS.Deep
import PyProof.Rows.AssignMoreSeq
import HandS.Iter
import HandS.Zip
import PyProof.CallFns
import HandS.MakeKw
import HandS.Strs
import PyProof.Rows.SetFrom
import PyProof.SetKind
import PyProof.WalksS
import HandS.Conv
import HandS.ExcCtx
import KE.DataMinMax
import KE.KDictDisplayH
import KE.KDictCopyH
import HandS.TryMany
import HandS.HotCalls
import HandS.Hot
import HandS.List
import PySem.Challenge.RW_loafshares_k59_scales_refused
set_option Elab.async false
set_option linter.all false
set_option maxRecDepth 100000
set_option maxHeartbeats 4000000
/-! Defs that show data by repr: the promise FnG holds where nothing is being shown (no guard stands), as it is behind a law's call. -/
namespace Lf
open PySem PySem.Spec PyProof.Rows L2
/-- a def's promise where no guard stands -/
structure FnG (P : Program) (w : World) (K : PySem.W.Frag) (mg : Str → Option Value) (base : Heap) (CX : CXT) (k : Nat) (f : Addr) (fd : FuncData) (ps : List Str) (sp : Sp) : Prop where
  size : ∀ vs H Q E, sp vs H Q E → vs.length = ps.length
  goes : ∀ (B : Around) (out : List Env) (s : Shared) (H : Hp) (ar : Args) (us : List Value) (vs : List V) (Q : VK) (E : XK),
    Room k B → B.guards = some [] → Env0 P w K mg base B out s H → BindsTo s fd ar (ps.zip us) → Vals vs us → sp vs H Q E →
      codeAny (model P w) B (.call (.ref f) ar) (CR CX out P w H s Q E) s
section
variable {P : Program} {w : World} {K : PySem.W.Frag} {mg : Str → Option Value} {base : Heap} {CX : CXT} {k : Nat} {f : Addr} {fd : FuncData} {ps : List Str} {sp : Sp}
theorem FnG.mono {j : Nat} (F : FnG P w K mg base CX j f fd ps sp) (h : j ≤ k) : FnG P w K mg base CX k f fd ps sp :=
  ⟨F.size, fun B out s H ar us vs Q E r => F.goes B out s H ar us vs Q E (r.mono h)⟩
theorem FnG.of (F : FnOk P w K mg base CX k f fd ps sp) : FnG P w K mg base CX k f fd ps sp :=
  ⟨F.len, fun B out s H ar us vs Q E r _ => F.run B out s H ar us vs Q E r⟩
/-- by its body: behind the entry no guard stands either -/
theorem GfunX {x qual : Str} {st : Stmt} {N : List Str} (F : Fun K x qual st f fd) (S : FnScope N ps (defScope st)) (size : ∀ vs H Q E, sp vs H Q E → vs.length = ps.length)
    (body : ∀ (cdv : Value) (B : Around) (out : List Env) (s : Shared) (H : Hp) (vs : List V) (Q : VK) (E : XK), B.guards = some [] →
      Room k (B.deeper (envOfC qual (defScope st) s.heap.objs.size f cdv)) → sp vs H Q E →
      ∃ t, PSs (cxOf CX P w K mg base N qual (defScope st) f cdv B out s H E) (defBody st) t ∧
        t { nx := fun _ H' => Q .non H', rt := Q } (start N vs) H) : FnG P w K mg base CX (k + 1) f fd ps sp := by
  obtain ⟨oc, od, kV, doc, pm, an, cdv, ct, osl, rfl, lk, hcd⟩ := F.ex
  refine ⟨size, fun B out s H ar us vs Q E hr hg e0 hb r hs => ?_⟩
  have old : ∀ b o, base.get? b = some o → s.heap.get? b = some o := fun b o e => (e0.bs b o e).1
  have kin : K.In s.heap := e0.mod.kin.keeps old
  refine codeAny_call_function hr.depth (kin _ _ lk) rfl S.co S.gen rfl (PySem.W.codeRec_of kin hcd) (hb _ _ _ _ ?_)
  refine wpAny_newFunctionEnv_cells S.kind (fun ⟨n, v⟩ hy => ?_) fun env he s1 x => ?_
  · rcases S.par n (List.of_mem_zip hy).1 with q | q
    · exact Or.inl q
    · exact Or.inr ⟨q, PySem.W.cellsFrom_some _ _ _ (Or.inl q)⟩
  · subst he
    refine ⟨(e0.mod.nolimit.keeps old).keeps x.toInCall.keep, codeAny_func ?_⟩
    obtain ⟨t, ht, hq⟩ := body cdv B out s H vs Q E hg (hr.deeper _) hs
    have I := inv_start (CX := CX) (N := N) (qual := qual) (cd := cdv) (E := E) S hr.hd e0 (size _ _ _ _ hs) r x
    refine wpAny_mono (ht.run [] s1 (start N vs) H _ I hq) (fun fl s' hs' => ?_) fun e s' z => z
    cases fl with
    | ret u =>
      obtain ⟨v, σ', H', J, rv, q⟩ := hs'
      exact ⟨v, H', J.os, J.bare, J.base, J.hok, rv, q⟩
    | next =>
      obtain ⟨σ', H', J, q⟩ := hs'
      exact ⟨V.non, H', J.os, J.bare, J.base, J.hok, rfl, q⟩
    | brk =>
      obtain ⟨_, _, _, q⟩ := hs'
      exact q.elim
    | cont =>
      obtain ⟨_, _, _, q⟩ := hs'
      exact q.elim
theorem Gfun {x qual : Str} {st : Stmt} {N : List Str} (F : Fun K x qual st f fd) (S : FnScope N ps (defScope st)) (size : ∀ vs H Q E, sp vs H Q E → vs.length = ps.length)
    (body : ∀ (cdv : Value) (B : Around) (out : List Env) (s : Shared) (H : Hp) (vs : List V) (Q : VK) (E : XK), B.guards = some [] →
      Room k (B.deeper (envOfC qual (defScope st) s.heap.objs.size f cdv)) → sp vs H Q E →
      ∃ t, PSs (cxOf CX0 P w K mg base N qual (defScope st) f cdv B out s H E).nox (defBody st) t ∧
        t { nx := fun _ H' => Q .non H', rt := Q } (start N vs) H) : FnG P w K mg base CX0 (k + 1) f fd ps sp :=
  GfunX F S size fun cdv B out s H vs Q E hg hr hs => by
    obtain ⟨t, ht, hq⟩ := body cdv B out s H vs Q E hg hr hs
    exact ⟨t, ht.nox, hq⟩
end
/-- the names that are called by their arguments' names -/
def kwNamesA : List Str := ["aims", "book_text", "by_shares", "changed", "cost", "dough_for", "feel", "fraction", "fraction_text", "is_fraction", "is_less", "is_name", "left", "loaves", "measured", "minus", "moves", "opened"]
def kwNamesB : List Str := ["over", "pan_for", "paper", "parting", "plus", "read_book", "rejoined", "rounded", "row_shares", "scaled", "shares", "sheet", "shows", "times", "tree", "weighed", "worst_of"]
def kwNames : List Str := kwNamesA ++ kwNamesB
def kwN (x : Str) : Bool := kwNames.any fun y => y == x
/-- a def of the module's name x that keeps sp, by level k -/
structure Cal (P : Program) (w : World) (K : PySem.W.Frag) (mg : Str → Option Value) (base : Heap) (CX : CXT) (k : Nat) (x : Str) (ps : List Str) (sp : Sp) : Prop where
  ex : ∃ (f : Addr) (fd : FuncData), FnG P w K mg base CX k f fd ps sp ∧ (∀ (s : Shared) (us : List Value), us.length = ps.length → BindsTo s fd ⟨us, []⟩ (ps.zip us)) ∧
    (kwN x = true → ∀ (s : Shared) (us : List Value), us.length = ps.length → BindsTo s fd ⟨[], ps.zip us⟩ (ps.zip us)) ∧
    (kwN x = true → ∀ (s : Shared) (us : List Value), us.length = ps.length → BindsTo s fd ⟨[], ps.reverse.zip us⟩ (ps.zip us.reverse)) ∧ mg x = some (.ref f) ∧ PySem.W.keepIn K (.ref f) = true
theorem paired_rev {α β : Type} {R : α → β → Prop} : ∀ {xs : List α} {ys : List β}, Paired R xs ys → Paired R xs.reverse ys.reverse := by
  have app : ∀ {xs : List α} {ys : List β} {x : α} {y : β}, Paired R xs ys → R x y → Paired R (xs ++ [x]) (ys ++ [y]) := by
    intro xs ys x y h r
    induction h with
    | nil => exact .cons r .nil
    | cons q _ ih => exact .cons q ih
  intro xs ys h
  induction h with
  | nil => exact .nil
  | cons r _ ih =>
    rw [List.reverse_cons, List.reverse_cons]
    exact app ih r
section
variable {X : Cx} {CX : CXT} {k i : Nat} {f : Addr} {fd : FuncData} {ps : List Str} {sp : Sp} {x : Str} {p pos : Pos} {e : Expr} {es : List Expr} {kws : List Keyword} {t : TA}
/-- what is raised is wished for at the caller's slots -/
theorem run_g {pins : List (Addr × Obj)} {σ : L2.St} {H : Hp} {s : Shared} {Q : VK} {us : List Value} {vs : List V} {ar : Args} {E : XK} (F : FnG X.prog X.w X.K X.mg X.base CX k f fd ps sp) (hr : Room k X.A) (hG : X.A.guards = some [])
    (hx : PassesAt CX X σ E) (I : Inv X pins σ H s) (hb : BindsTo s fd ar (ps.zip us)) (r : Vals vs us) (h : sp vs H Q E) : wpAny (model X.prog X.w) X.A (call (.ref f) ar.pos ar.kw) (EP X pins σ Q) X.xe s := by
  refine wpAny_call (codeAny_mono (F.goes X.A X.stack s H ar us vs Q E hr hG I.env0 hb r h) fun z s' hq => ?_)
  cases z with
  | error e => exact hx pins H s e s' I hq
  | ok fl =>
    cases fl with
    | ret u => exact I.after hq
    | next => exact False.elim hq
    | brk => exact False.elim hq
    | cont => exact False.elim hq
/-- f(e, ..); E: what is wished of an exception at the slots -/
def tG (sp : Sp) (E : L2.St → XK) (t : TA) : TE := fun σ H Q => t σ H fun vs H1 => sp vs H1 Q (E σ)
theorem pe_gS {E : L2.St → XK} (C : Cal X.prog X.w X.K X.mg X.base CX k x ps sp) (hr : Room k X.A) (hG : X.A.guards = some []) (hx : ∀ σ, PassesAt CX X σ (E σ)) (ha : PA X (e :: es) t) (hg : Gl X x := by rfl)
    (hdb : (x == ("__debug__" : Str)) = false := by decide) (he : starEach (e :: es) X.env = (false, eval e X.env) :: starEach es X.env := by rfl)
    (hpl : (backTo pos (starEach es X.env)).any (·.1) = false := by rfl) : PE X (.Call (.Name x p) (e :: es) [] pos) (tG sp E t) := by
  obtain ⟨f, fd, F, hb, _, _, hm, hk⟩ := C.ex
  refine ⟨fun pins s σ H Q I h => wpAny_Call_Name_kw (ld_glob I hg hm (PySem.W.callWith_K (h₀ := X.base) I.ok.mod.kin hk
    (thn (ha.run pos pins s σ H _ I h) fun us s1 ⟨vs, H1, I1, r, q⟩ => ⟨I1.kIn, ?_⟩) he hpl) hdb)⟩
  exact run_g (ar := ⟨us, []⟩) F hr hG (hx σ) I1 (hb s1 us (r.length.symm.trans (F.size _ _ _ _ q))) r q
theorem pass_no {σ : L2.St} : PassesAt CX0 X σ E0 := fun _ _ _ _ _ _ z => z.elim
theorem pe_g (C : Cal X.prog X.w X.K X.mg X.base CX0 k x ps sp) (hr : Room k X.A) (hG : X.A.guards = some []) (ha : PA X (e :: es) t) (hg : Gl X x := by rfl)
    (hdb : (x == ("__debug__" : Str)) = false := by decide) (he : starEach (e :: es) X.env = (false, eval e X.env) :: starEach es X.env := by rfl)
    (hpl : (backTo pos (starEach es X.env)).any (·.1) = false := by rfl) : PE X (.Call (.Name x p) (e :: es) [] pos) (tG sp (fun _ => E0) t) :=
  pe_gS C hr hG (fun _ => pass_no) ha hg hdb he hpl
/-- f(a = e, ..): all by names, in the parameters' order -/
theorem pe_gk (C : Cal X.prog X.w X.K X.mg X.base CX0 k x ps sp) (hr : Room k X.A) (hG : X.A.guards = some []) (ha : PK X kws t) (hks : (backToKw pos (keywordEach kws X.env)).filterMap (·.1) = ps := by rfl) (hg : Gl X x := by rfl)
    (hall : (backToKw pos (keywordEach kws X.env)).all (·.1.isSome) = true := by rfl) (hdb : (x == ("__debug__" : Str)) = false := by decide)
    (hpl : ((backTo pos (starEach [] X.env)).any (·.1) || (backToKw pos (keywordEach kws X.env)).any (·.1.isNone)) = false := by rfl) (hkw : kwN x = true := by decide +kernel) : PE X (.Call (.Name x p) [] kws pos) (tG sp (fun _ => E0) t) := by
  obtain ⟨f, fd, F, _, hb, _, hm, hk⟩ := C.ex
  refine ⟨fun pins s σ H Q I h => wpAny_Call_Name_kw (ld_glob I hg hm (PySem.W.callWith_KW0 (h₀ := X.base) I.ok.mod.kin hk hall (thn (ha.run pos pins s σ H _ I h) fun us s1 ⟨vs, H1, I1, r, q⟩ => ⟨I1.kIn, ?_⟩) hpl) hdb)⟩
  rw [hks]
  exact run_g (ar := ⟨[], ps.zip us⟩) F hr hG pass_no I1 (hb hkw s1 us (r.length.symm.trans (F.size _ _ _ _ q))) r q
/-- f(b = e, a = ..): all by names, from the last parameter to the first -/
def tGr (sp : Sp) (t : TA) : TE := fun σ H Q => t σ H fun vs H1 => sp vs.reverse H1 Q E0
theorem pe_gr (C : Cal X.prog X.w X.K X.mg X.base CX0 k x ps sp) (hr : Room k X.A) (hG : X.A.guards = some []) (ha : PK X kws t) (hks : (backToKw pos (keywordEach kws X.env)).filterMap (·.1) = ps.reverse := by rfl) (hg : Gl X x := by rfl)
    (hall : (backToKw pos (keywordEach kws X.env)).all (·.1.isSome) = true := by rfl) (hdb : (x == ("__debug__" : Str)) = false := by decide)
    (hpl : ((backTo pos (starEach [] X.env)).any (·.1) || (backToKw pos (keywordEach kws X.env)).any (·.1.isNone)) = false := by rfl) (hkw : kwN x = true := by decide +kernel) : PE X (.Call (.Name x p) [] kws pos) (tGr sp t) := by
  obtain ⟨f, fd, F, _, _, hb, hm, hk⟩ := C.ex
  refine ⟨fun pins s σ H Q I h => wpAny_Call_Name_kw (ld_glob I hg hm (PySem.W.callWith_KW0 (h₀ := X.base) I.ok.mod.kin hk hall (thn (ha.run pos pins s σ H _ I h) fun us s1 ⟨vs, H1, I1, r, q⟩ => ⟨I1.kIn, ?_⟩) hpl) hdb)⟩
  rw [hks]
  have hl : us.length = ps.length := r.length.symm.trans ((List.length_reverse (as := vs)).symm.trans (F.size _ _ _ _ q))
  exact run_g (ar := ⟨[], ps.reverse.zip us⟩) (us := us.reverse) (vs := vs.reverse) F hr hG pass_no I1 (hb hkw s1 us hl) (paired_rev r) q
/-- d(e, ..) where the i-th slot holds the def of the module's name y -/
def tGl (i : Nat) (mg : Str → Option Value) (y : Str) (sp : Sp) (E : L2.St → XK) (t : TA) : TE := fun σ H Q => ∃ f, mg y = some (.ref f) ∧ σ[i]? = some (some (.ref f)) ∧ t σ H fun vs H1 => sp vs H1 Q (E σ)
theorem pe_gl {E : L2.St → XK} {y : Str} (C : Cal X.prog X.w X.K X.mg X.base CX k y ps sp) (hr : Room k X.A) (hG : X.A.guards = some []) (hx : ∀ σ, PassesAt CX X σ (E σ)) (ha : PA X (e :: es) t) (hN : X.N[i]? = some x := by rfl)
    (hv : Vis X.env.scope x := by first | exact Or.inl rfl | exact Or.inr (Or.inl rfl) | exact Or.inr (Or.inr rfl))
    (hdb : (x == ("__debug__" : Str)) = false := by decide) (hcd : (x == ("__classdict__" : Str)) = false := by decide) (he : starEach (e :: es) X.env = (false, eval e X.env) :: starEach es X.env := by rfl)
    (hpl : (backTo pos (starEach es X.env)).any (·.1) = false := by rfl) : PE X (.Call (.Name x p) (e :: es) [] pos) (tGl i X.mg y sp E t) := by
  obtain ⟨f, fd, F, hb, _, _, hm, hk⟩ := C.ex
  refine ⟨fun pins s σ H Q I h => ?_⟩
  obtain ⟨f', hf', hs, ht⟩ := h
  obtain rfl : f' = f := by
    rw [hm] at hf'
    cases hf'
    rfl
  refine wpAny_Call_Name_kw (thn ((pe_var (pos := p) hN hv hdb hcd).run pins s σ H (fun v H1 => v = .ref f' ∧ H1 = H) I ⟨.ref f', hs, rfl, rfl⟩) fun u s1 ⟨v, H1, I1, r1, q1⟩ => ?_)
  obtain ⟨rfl, rfl⟩ := q1
  cases r1
  refine PySem.W.callWith_K (h₀ := X.base) I.ok.mod.kin hk (thn (ha.run pos pins s1 σ _ _ I1 ht) fun us s2 ⟨vs, H2, I2, r, q⟩ => ⟨I2.kIn, ?_⟩) he hpl
  exact run_g (ar := ⟨us, []⟩) F hr hG (hx σ) I2 (hb s2 us (r.length.symm.trans (F.size _ _ _ _ q))) r q
end
/-! ### repr of data -/
section
variable {X : Cx}
def rShow (K : PySem.W.Frag) : List V → Hp → VK → Prop := fun xs H Q => ∃ (a : Addr) (d : PyData), xs = [.ref a] ∧ Dp K H (.ref a) d ∧
  d.showable = true ∧ d.hasDict = false ∧ d.depth ≤ 30 ∧ d.shown.length ≤ sizeLine ∧ Q (.str d.shown) H
theorem call_show (hG : X.A.guards = some []) {k : Nat} (hr : Room k X.A) : CallR X (.builtin "repr") (rShow X.K) := by
  intro pins s σ H xs us Q I r h
  obtain ⟨a, d, rfl, hd, hs, hn, h30, hz, q⟩ := h
  cases r with
  | cons r1 r2 =>
    cases r2
    obtain ⟨as, rd⟩ := Dp.reads I d _ _ hd r1
    cases r1
    have hu := hr.units
    exact repr_of_reads' rd hs (PyData.noDict_hsm hn) hG (by omega) (fun _ _ z => z) (fun h' u tk hk => ⟨.str d.shown, H, I.kept hk, ⟨u, rfl⟩, q⟩) hz
/-- // by any divisor but 0 -/
def CDivN (_ j : Int) : Prop := j ≠ 0 ∧ j.natAbs.log2 < 9000
theorem op_fdivN : OpR X (binaryOp .FloorDiv) (rI CDivN fun i j => .int (i.fdiv j)) := opI fun i j _ _ _ _ _ hc q =>
  floordiv_int hc.1 q (.inl (PyProof.noPylong_of_log2 hc.2))
end
/-! ### the end of a law's row -/
theorem at_caller {P : Program} {w : World} {K : PySem.W.Frag} {mg mb : Str → Option Value} {k : Nat} {fa a : Addr} {fd : FuncData} {x : Str} {sp : Sp} {s : Shared} {us : List Value} {ns : List Int}
    (KX : K.In s.heap) (hns : s.heap.Ns mainGlobals mg) (hb : s.heap.Ns builtinsNs mb) (hbb : ∀ x : Str, x ≠ "__name__" → mb x = bootBuiltins x) (hlim : s.heap.NoLimit) (hgen : s.gens = #[])
    (ha : s.heap.get? a = some { cls := .type "list", data := .seq us.toArray }) (hi : IntsAre us ns) (hl : ns.length ≤ sizeLine) (hr : Room k callerA)
    (F : ∀ base : Heap, K.In base → base.Ns mainGlobals mg → FnG P w K mg base CX0 k fa fd [x] sp) (hbind : ∀ (s : Shared) (u : Value), BindsTo s fd ⟨[u], []⟩ [(x, u)])
    (hsp : ∀ H : Hp, Only H → SqL K H a (ns.map V.int) → sp [.ref a] H (fun v _ => v = .bl true) E0) :
    codeAny (model P w) callerA (.call (.ref fa) ⟨[.ref a], []⟩) (fun r s' => r = .ok (.ret (.bool true)) ∧ OldK s.heap s'.heap ∧ s'.os = s.os ∧ AllBare s'.gens) s := by
  -- from a heap that tracks at most the script
  have go : ∀ H : Hp, Only H → SqL K H a (ns.map V.int) → HOk P w H s.heap → (∀ b, H b ≠ none → b = a) → (H a ≠ none → K.lookup a = none) →
      codeAny (model P w) callerA (.call (.ref fa) ⟨[.ref a], []⟩) (fun r s' => r = .ok (.ret (.bool true)) ∧ OldK s.heap s'.heap ∧ s'.os = s.os ∧ AllBare s'.gens) s := by
    intro H only sq hok one key
    have keep : ∀ {b : Addr} {o : Obj}, s.heap.get? b = some o → (∀ vs n, o.data ≠ .seq vs n) → (hidT s.heap H).get? b = some o := by
      intro b o e hd
      refine hidT_get e ?_
      cases q : H b with
      | none => rfl
      | some u =>
        obtain rfl : b = a := one b (by rw [q]; exact fun z => nomatch z)
        rw [ha] at e
        cases e
        exact absurd rfl (hd _ _)
    have names : ∀ {b : Addr} {m : Str → Option Value}, s.heap.Ns b m → (hidT s.heap H).Ns b m := by
      rintro b m ⟨o, es, ep, e, d, r⟩
      exact ⟨o, es, ep, keep e (fun vs n z => by rw [d] at z; cases z), d, r⟩
    have kin : K.In (hidT s.heap H) := by
      intro b o e
      refine hidT_get (KX b o e) ?_
      cases q : H b with
      | none => rfl
      | some u =>
        have nn : H b ≠ none := by rw [q]; exact fun z => nomatch z
        obtain rfl : b = a := one b nn
        rw [key nn] at e
        cases e
    have md : Mod K mg (hidT s.heap H) := ⟨kin, names hns, ⟨mb, names hb, hbb⟩, by obtain ⟨mc, h1, h2⟩ := hlim; exact ⟨mc, names h1, h2⟩⟩
    have none_in : ∀ b : Addr, b ∉ frs [] := fun b z => absurd (show b ∈ ([] : List Addr) from z) (by simp)
    have e0 : Env0 P w K mg (hidT s.heap H) callerA [] s H := { frames := rfl, mod := md, bs := fun b o e => of_hidT e, bsz := Nat.le_of_eq (hidT_size _ _), funs := trivial, frf := fun b z => absurd z (none_in b), hok := hok, bare := .of_eq hgen }
    refine codeAny_mono ((F _ kin (names hns)).goes callerA [] s H ⟨[.ref a], []⟩ [.ref a] [.ref a] _ _ hr rfl e0 (hbind s (.ref a)) (.cons rfl .nil) (hsp H only sq)) fun r s' h => ?_
    cases r with
    | error e => exact False.elim h
    | ok fl =>
      cases fl with
      | next => exact False.elim h
      | brk => exact False.elim h
      | cont => exact False.elim h
      | ret u =>
        obtain ⟨v, H', os, bare, un, hok', rv, q⟩ := h
        obtain rfl : v = .bl true := q
        obtain rfl : u = Value.bool true := rv
        refine ⟨rfl, OldK.of_keep fun b o e => ?_, os, bare⟩
        cases q : H b with
        | none => exact un.keep b o e q (none_in b) (by simp)
        | some y =>
          rcases only b with z | ⟨ob, xs, z⟩
          · rw [q] at z
            cases z
          · obtain ⟨e1, _⟩ := hok b _ z
            obtain ⟨e2, _⟩ := hok' b _ (un.frzs b ob _ z)
            rw [e] at e1
            cases e1
            exact e2
  have rv := vals_ints hi
  cases hk : K.lookup a with
  | some o =>
    have e := KX a o hk
    rw [ha] at e
    cases e
    exact go (fun _ => none) (fun _ => Or.inl rfl) (Or.inr ⟨_, us.toArray, _, hk, rfl, rfl, rfl, by rw [List.size_toArray, hi.length]; exact hl, by simpa using rv⟩)
      (fun b u z => by cases (show (none : Option HO) = some u from z)) (fun b z => absurd rfl z) (fun z => absurd rfl z)
  | none =>
    refine go (fun b => if b = a then some (.frz { cls := .type "list", data := .seq us.toArray } (.lst (ns.map V.int))) else none) ?_ (Or.inl (Or.inr ⟨_, if_pos rfl⟩)) ?_ ?_ (fun _ => hk)
    · intro b
      by_cases h : b = a
      · exact Or.inr ⟨_, _, if_pos h⟩
      · exact Or.inl (if_neg h)
    · intro b u z
      by_cases h : b = a
      · cases (if_pos h).symm.trans z
        subst h
        exact ⟨ha, by rw [List.length_map]; exact hl, us, _, rv, ha⟩
      · cases (if_neg h).symm.trans z
    · intro b z
      by_cases h : b = a
      · exact h
      · exact absurd (if_neg h) z
theorem walkG {l : PySem.W.OpenLaw} {n k : Nat} {q : Program} {loose : List Str} {XP : (Str → Option Value) → Heap → Prop} {YP : World → Heap → Prop} {d : DefRec} {K : Params → PySem.W.Frag} {sp : PySem.W.Frag → Sp} {x : Str}
    (hn : l.most = some n) (hn2 : n ≤ sizeLine) (hdf : d.params.defaults = []) (hr : Room k callerA) (hY : ∀ (w : World) (h : Heap), YP w h → (K w.params).In h)
    (F : ∀ (w : World) (mg : Str → Option Value) (fa : Addr) (h : Heap), (K w.params).In h → h.Ns mainGlobals mg → mg d.name = some (.ref fa) →
      ∃ fd : FuncData, (∀ (s : Shared) (u : Value), BindsTo s fd ⟨[u], []⟩ [(x, u)]) ∧ ∀ base : Heap, (K w.params).In base → base.Ns mainGlobals mg → FnG l.prog w (K w.params) mg base CX0 k fa fd [x] (sp (K w.params)))
    (hsp : ∀ (K : PySem.W.Frag) (H : Hp) (a : Addr) (ns : List Int), ns.length ≤ n → Only H → SqL K H a (ns.map V.int) → sp K [.ref a] H (fun v _ => v = .bl true) E0) :
    PySem.W.WalkO q loose XP YP l.row.toRowW d [] (fun f vs => PySem.call f vs) := by
  refine Att.attach_call hn hdf fun w s0 s mg mb fa o pm cd doc a us ns G Y ho hd hcd hmg hobj hints hlen hg => ?_
  obtain ⟨fd, hb, hF⟩ := F w mg fa _ (hY w _ Y) G.T.g hmg
  exact at_caller (hY w _ Y) G.T.g G.T.b G.T.builtins G.T.nolimit hg hobj hints (Nat.le_trans hlen hn2) hr hF hb fun H hO hS => hsp _ H a ns hlen hO hS
end Lf

set_option Elab.async false
set_option linter.all false
set_option maxRecDepth 100000
set_option maxHeartbeats 4000000
/-! The head by one kernel run, with facts of any form: a fact is a Bool of the part of the heap that the module's names reach. -/
namespace Lf
open PySem PySem.Spec PyProof.Rows L2
abbrev Fct : Type := PySem.W.Frag → Bool
def obsX (fa : List Fct) (fn : List He.DefD) (K : PySem.W.Frag) : He.AlD := ((fa.all fun f => f K) && fn.all fun d => d.ok K, fn.map fun d => He.fnW K d.at_)
def SaysX (fa : List Fct) (fn : List He.DefD) (K : PySem.W.Frag) : Prop := obsX fa fn K = He.valD fn
def obsXG (n : Nat) (fa : List Fct) (fn : List He.DefD) (g : Addr → Option Obj) : He.AlD := obsX fa fn (He.frG g (He.asD g n))
def hookX (n : Nat) (fa : List Fct) (fn : List He.DefD) : PySem.W.Hook where
  α := He.AlD
  obs := fun s => obsXG n fa fn s.heap.get?
  val := fun _ => He.valD fn
  says := fun _ h => ∃ K : PySem.W.Frag, K.In h ∧ SaysX fa fn K
  of := fun _ _ e => ⟨_, He.frG_in, e⟩
  keeps := fun _ _ _ ⟨K, hK, c⟩ k => ⟨K, PySem.W.Frag.In.keeps hK k, c⟩
theorem obsXG_eq {n : Nat} {fa : List Fct} {fn : List He.DefD} {g : Addr → Option Obj} {s : Shared} (h : ∀ a, g a = s.heap.get? a) : obsXG n fa fn g = (hookX n fa fn).obs s := by
  have e : g = s.heap.get? := funext h
  rw [e] <;> rfl
section
variable {fa : List Fct} {fn : List He.DefD} {K : PySem.W.Frag}
theorem SaysX.all (c : SaysX fa fn K) : (fa.all fun f => f K) = true := (He.ba (show ((fa.all fun f => f K) && fn.all fun d => d.ok K) = true from congrArg (fun z : He.AlD => z.1) c)).1
theorem SaysX.fact (c : SaysX fa fn K) (i : Nat) {f : Fct} (h : fa[i]? = some f := by rfl) : f K = true := List.all_eq_true.mp c.all f (List.mem_of_getElem? h)
theorem SaysX.def_ (c : SaysX fa fn K) (i : Nat) {d : He.DefD} (h : fn[i]? = some d := by rfl) : ∃ fd, FunD K d.name d.qual d.params d.body d.scope (d.dvs K) (d.kws K) (He.fAd K d.at_) fd := by
  have c2 := (He.ba (show ((fa.all fun f => f K) && fn.all fun d => d.ok K) = true from congrArg (fun z : He.AlD => z.1) c)).2
  have e : fn.map (fun d => He.fnW K d.at_) = fn.map He.DefD.val := congrArg (fun z : He.AlD => z.2) c
  have e2 : (fn.map fun d => He.fnW K d.at_)[i]? = (fn.map He.DefD.val)[i]? := by rw [e]
  rw [List.getElem?_map, List.getElem?_map, h] at e2
  exact He.DefD.funD (Option.some.inj e2) (List.all_eq_true.mp c2 d (List.mem_of_getElem? h))
end
/-- a def without defaults as the machine has it -/
theorem fun_of {K : PySem.W.Frag} {x qual : Str} {st : Stmt} {f : Addr} {fd : FuncData} (F : FunD K x qual (defArgs st) (defBody st) (defScope st) [] [] f fd) :
    ∃ (kV doc pm : Value) (an : Option Addr) (cdv ct : Value), fd = PySem.W.fnOf x qual (defArgs st) (defBody st) (defScope st) .none kV doc pm an cdv ct ∧ Fun K x qual st f fd := by
  obtain ⟨oc, od, dV, kV, doc, pm, an, cdv, ct, osl, rfl, lk, hcd, dv, _⟩ := F.ex
  obtain rfl : dV = .none := (dv.resolve_right fun z => z.1 rfl).2
  exact ⟨kV, doc, pm, an, cdv, ct, rfl, fun_mk lk hcd F.kp⟩
/-- a def as the top left it, and how its arguments come to it -/
structure Df (K : PySem.W.Frag) (mg : Str → Option Value) (x : Str) (st : Stmt) (ps : List Str) (f : Addr) (fd : FuncData) : Prop where
  fn : Fun K x x st f fd
  g : mg x = some (.ref f)
  b1 : ∀ (s : Shared) (us : List Value), us.length = ps.length → BindsTo s fd ⟨us, []⟩ (ps.zip us)
  b2 : kwN x = true → ∀ (s : Shared) (us : List Value), us.length = ps.length → BindsTo s fd ⟨[], ps.zip us⟩ (ps.zip us)
  b3 : kwN x = true → ∀ (s : Shared) (us : List Value), us.length = ps.length → BindsTo s fd ⟨[], ps.reverse.zip us⟩ (ps.zip us.reverse)
theorem Df.cal {P : Program} {w : World} {K : PySem.W.Frag} {mg : Str → Option Value} {base : Heap} {CX : CXT} {k : Nat} {x : Str} {st : Stmt} {ps : List Str} {f : Addr} {fd : FuncData} {sp : Sp} (D : Df K mg x st ps f fd) (F : FnG P w K mg base CX k f fd ps sp) : Cal P w K mg base CX k x ps sp :=
  ⟨f, fd, F, D.b1, D.b2, D.b3, D.g, D.fn.kp⟩
/-- nothing keeps the promise of nothing -/
theorem FnG.no {P : Program} {w : World} {K : PySem.W.Frag} {mg : Str → Option Value} {base : Heap} {CX : CXT} {k : Nat} {f : Addr} {fd : FuncData} {ps : List Str} : FnG P w K mg base CX k f fd ps (fun _ _ _ _ => False) :=
  ⟨fun _ _ _ _ h => h.elim, fun _ _ _ _ _ _ _ _ _ _ _ _ _ _ h => h.elim⟩
/-- how plain arguments are bound: by the names alone -/
def plainA (as : List Arg) : Arguments := { posonlyargs := [], args := as, vararg := none, kwonlyargs := [], kw_defaults := [], kwarg := none, defaults := [] }
theorem no_kw {x : Str} {p : Prop} (h : kwN x = false) : kwN x = true → p := fun z => by
  rw [h] at z
  cases z
/-- the law's walk, the module's part given with it -/
theorem walkX {l : PySem.W.OpenLaw} {n k : Nat} {q : Program} {loose : List Str} {XP : (Str → Option Value) → Heap → Prop} {YP : World → Heap → Prop} {d : DefRec} {sp : PySem.W.Frag → Sp} {x : Str}
    (hn : l.most = some n) (hn2 : n ≤ sizeLine) (hdf : d.params.defaults = []) (hr : Room k callerA)
    (F : ∀ (w : World) (mg : Str → Option Value) (fa : Addr) (h : Heap), YP w h → h.Ns mainGlobals mg → mg d.name = some (.ref fa) →
      ∃ K : PySem.W.Frag, K.In h ∧ ∃ fd : FuncData, (∀ (s : Shared) (u : Value), BindsTo s fd ⟨[u], []⟩ [(x, u)]) ∧ ∀ base : Heap, K.In base → base.Ns mainGlobals mg → FnG l.prog w K mg base CX0 k fa fd [x] (sp K))
    (hsp : ∀ (K : PySem.W.Frag) (H : Hp) (a : Addr) (ns : List Int), ns.length ≤ n → Only H → SqL K H a (ns.map V.int) → sp K [.ref a] H (fun v _ => v = .bl true) E0) :
    PySem.W.WalkO q loose XP YP l.row.toRowW d [] (fun f vs => PySem.call f vs) := by
  refine Att.attach_call hn hdf fun w s0 s mg mb fa o pm cd doc a us ns G Y ho hd hcd hmg hobj hints hlen hg => ?_
  obtain ⟨K, KX, fd, hb, hF⟩ := F w mg fa _ Y G.T.g hmg
  exact at_caller KX G.T.g G.T.b G.T.builtins G.T.nolimit hg hobj hints (Nat.le_trans hlen hn2) hr hF hb fun H hO hS => hsp _ H a ns hlen hO hS
end Lf

set_option Elab.async false
set_option linter.all false
set_option maxRecDepth 100000
set_option maxHeartbeats 4000000
/-! An own exception over ValueError whose __init__ begins by super().__init__(..): its body's rule, and its promise FnOk. -/
namespace Lf
open PySem PySem.Spec PyProof.Rows L2 NdefX
/-- what the written part says of a class D whose __init__ at f says super().__init__ : the cell, the code -/
structure SupC (P : Program) (K : PySem.W.Frag) (D f cc cda : Addr) (fd : FuncData) : Prop where
  fn : ∃ (oc : Value) (od : Option Addr) (osl : Array (Option Value)), K.lookup f = some ⟨oc, od, .func fd, osl⟩
  code : ∃ (ccl : Value) (cdd : Option Addr) (vs : Array Value) (ccs : Array (Option Value)) (file : Str) (tf : Tok), K.lookup cda = some ⟨ccl, cdd, .fields vs, ccs⟩ ∧ vs[2]? = some (.str file tf) ∧ ((P.main.file : Str) == file) = true
  cell : ∃ (cl : Value) (cld : Option Addr) (csl : Array (Option Value)), K.lookup cc = some ⟨cl, cld, .cell (some (.ref D)), csl⟩
  sup : PySem.W.ks_superIn K D D "__init__" = some (some (.builtin "ValueError.__init__"))
  sub : PySem.W.mroIn K D (.ref D) = some true
  ve : PySem.W.subIn K (.ref D) (.type "ValueError") = some true
  stat : PySem.W.nsIn K cStatics "thirdparty.any" = some none
  top : (P.main.scope.names.lookup ("super" : Str)).isSome = false
/-- what a body that begins by super().__init__(..) asks: the self is the exception that is being made -/
def tSup (K : PySem.W.Frag) (D : Addr) (ta : TA) (t : TS) : TS := fun E σ H => ∃ a, σ[0]? = some (some (.ref a)) ∧ H a = some (exo a D none) ∧ ta σ H fun vs H1 => vs.length ≤ 1000 ∧ H1 a = some (exo a D none) ∧ t E σ H1
section
variable {X : Cx} {D f cc cda : Addr} {fd : FuncData} {ar : Arg} {e : Expr} {es : List Expr} {rest body : List Stmt} {ta : TA} {t : TS} {p0 p1 p2 p3 pos : Pos} {x0 : Str}
theorem call_sup {pins : List (Addr × Obj)} {σ : L2.St} {H : Hp} {s : Shared} {a u : Addr} {us : List Value} {Q : Value → Shared → Prop} {E : Value → Shared → Prop} {A : Around} (T : OexC X.K D) (I : Inv X pins σ H s) (ea : H a = some (exo a D none))
    (hu : s.heap.get? u = some (PySem.W.kxs_mw "ValueError.__init__" a)) (hl : us.length ≤ sizeLine) (h : ∀ s', Inv X pins σ H s' → Q .none s') : wpAny (model X.prog X.w) A (call (.ref u) us) Q E s := by
  obtain ⟨nm, q, N, bs, bm, sn, sub, ab, col, dd, k0, k1, k2, k3, k5, hC, hbm⟩ := T.cls
  obtain ⟨t1, ho⟩ := exo_at I.hok ea
  obtain ⟨hp, g, d, tk, os⟩ := s
  refine wpAny_call (codeAny_of_tree ?_)
  show wpAny _ A.in1 (callAny (.ref u) ⟨us, []⟩) _ _ _
  simp only [callAny]
  refine wpAny_bind (wpAny_load hu ?_)
  simp only [PySem.W.kxs_mw, show (Value.type "method-wrapper" == Value.type "method" || Value.type "method-wrapper" == Value.type "builtin_function_or_method" || Value.type "method-wrapper" == Value.type "method-wrapper") = true by decide, if_true]
  refine PySem.W.KFB.if_so (by decide) ?_
  refine wpAny_bind (PySem.W.check_bound_init F.excBase_ValueError.toExcCallFacts (I.kIn _ _ hC) ho rfl ?_)
  refine wpAny_bind (wpAny_pure (wpAny_pure ?_))
  refine ⟨plainId_quiet F.excBase_ValueError.init.plain _, codeAny_builtin F.excBase_ValueError.initEntry ?_⟩
  refine PySem.W.exc_init_tree (cls := .ref D) (t0 := t1) (dv := none) (c2 := .none) (c3 := .none) (b4 := .bool false) ho hl fun h' k e' _ => ?_
  have J := I.write (t' := tk) (x := a) (e := a) (o := exo a D none) (by rw [ea]; exact True.intro) (.inl rfl) k ⟨_, e'⟩ (exo_ok e')
  have eu : upd H a (exo a D none) = H := by
    funext b
    by_cases hb : b = a
    · rw [hb, upd_same, ea]
    · rw [upd_ne hb]
  rw [eu] at J
  exact h _ J
/-- the body's rule -/
theorem body_sup {pins : List (Addr × Obj)} {σ : L2.St} {H : Hp} {s : Shared} {E : Ends} (S : SupC X.prog X.K D f cc cda fd) (T : OexC X.K D) (hm : X.mg "super" = none) (hA : PA X (e :: es) ta) (hR : PSs X rest t) (I : Inv X pins σ H s) (h : tSup X.K D ta t E σ H)
    (hp : (fd.params.posonlyargs ++ fd.params.args).head? = some ar) (hN : X.N[0]? = some ar.arg) (hka : X.env.kindOf ar.arg = some .local) (hvis : Vis X.env.scope ar.arg)
    (hks : X.env.kindOf "super" = some .globalImplicit) (hkc : X.env.kindOf "__class__" = some .free) (hfu : X.env.func = some f) (hco : X.env.code = .ref cda) (hcl : X.env.cells.lookup ("__class__" : Str) = some cc)
    (hc : ∀ pl : Unit, ∃ pl : Sem Bool, eval (.Call (.Attribute (.Call (.Name "super" p0) [] [] p1) "__init__" p2) (e :: es) [] pos) X.env = (do
      let ov ← attributeBase (.Call (.Name "super" p0) [] [] p1) "__init__" X.env (eval (.Call (.Name "super" p0) [] [] p1) X.env)
      standAt p2.atName
      let (f, first) ← holding [ov] (getMethod ov "__init__" pl)
      callWith pos f first (backTo pos (starEach (e :: es) X.env)) []))
    (hs : swapsWith (.Call (.Attribute (.Call (.Name "super" p0) [] [] p1) "__init__" p2) (e :: es) [] pos) none p3.line X.env = pure false)
    (he : starEach (e :: es) X.env = (false, eval e X.env) :: starEach es X.env) (hpl : (backTo pos (starEach es X.env)).any (·.1) = false) :
    PySem.wpAt (model X.prog X.w) X.A (.func body X.env) (execs (.Expr (.Call (.Attribute (.Call (.Name "super" p0) [] [] p1) "__init__" p2) (e :: es) [] pos) p3 :: rest) X.env) (SP X pins E) X.xe s := by
  obtain ⟨pl, hc⟩ := hc ()
  refine ks_wpAt_execs_cons (ks_wpAt_Expr_any (ks_wpAt_MethodCall (pl := pl) ?_ hc) I.quiet hs)
  have KX := I.kIn
  obtain ⟨oc, od, osl, hf⟩ := S.fn
  obtain ⟨ccl, cdd, vs, ccs, file, tf, hcode, hvs, hfile⟩ := S.code
  obtain ⟨cl, cld, csl, hcell⟩ := S.cell
  obtain ⟨a, hs0, ea, hta⟩ := h
  obtain ⟨t1, ho⟩ := exo_at I.hok ea
  obtain ⟨nm, qn, Nn, bs, bm, sn, sub, ab, col, dd, k0, k1, k2, k3, k5, hC, hbm⟩ := T.cls
  have hcls : PySem.W.clsIn X.K D = some { name := nm, bases := bs, mro := .ref D :: bm, ns := Nn, qualname := qn, hasDict := true, slotNames := sn, subclasses := sub, abstract := ab, collection := col, hasDel := false } := by unfold PySem.W.clsIn; rw [hC] <;> rfl
  have hat : (("__init__" : Str) == ("__class__" : Str)) = false := by decide
  refine ks_wpAt_super_base (env := X.env) hks hkc hat hfu (KX _ _ hf) rfl hp hco (KX _ _ hcode) rfl hvs hfile S.top ?_
  obtain ⟨mb, b1, b2⟩ := I.mod.blt
  refine PySem.W.ks_loadName_global I.ok.kind hks (Calls.loadGlobal_builtin (by rw [I.ok.glob]; exact I.mod.glob.keeps I.bk) hm (by rw [I.ok.blt]; exact b1.keeps I.bk) ((b2 _ (by decide)).trans (PyProof.Rows.Boot.«super»)) ⟨rfl, ?_⟩)
  refine wpAny_loadName_free I.ok.kind hkc hcl ⟨_, KX _ _ hcell, rfl⟩ ?_
  obtain ⟨m, hns, hsl⟩ := I.loc
  obtain ⟨u0, ru0, lk⟩ := hsl 0 ar.arg (.ref a) hN hs0 hvis
  cases ru0
  have hm0 : m ar.arg = some (.ref a) := by
    rcases lk with ⟨_, e⟩ | ⟨e | e, _⟩
    · exact e
    · rw [hka] at e; cases e
    · rw [hka] at e; cases e
  refine wpAny_loadName_local I.ok.kind hka hns hm0 ?_
  refine ks_wpAny_isType_cls (KX _ _ hC) rfl ⟨rfl, ?_⟩
  have II : PySem.W.InstAt s.heap a { cls := .ref D, dict := none, data := .fields #[.ref t1, .none, .none, .none, .bool false, .none] } D none := ⟨ho, rfl, rfl, trivial⟩
  obtain ⟨hp', g, d, tk, os⟩ := s
  refine ks_wpAny_call_super (KX _ _ hC) rfl ho rfl (fun c e => by cases e) (PySem.W.looks_mroIn KX S.sub) (fun h1 e1 kk1 => ?_)
  have I1 : Inv X pins σ H ⟨h1, g, d, tk, os⟩ := I.kept (t' := tk) kk1
  have KX1 := I1.kIn
  have II1 : PySem.W.InstAt h1 a { cls := .ref D, dict := none, data := .fields #[.ref t1, .none, .none, .none, .bool false, .none] } D none := ⟨kk1 _ _ ho, rfl, rfl, trivial⟩
  have sup := S.sup
  unfold PySem.W.ks_superIn at sup
  rw [hcls] at sup
  refine PySem.W.kxs_getMethod PySem.W.kxs_ValueError e1 (PySem.W.looks_opaque KX1 S.stat) (l₀ := .ref D :: bm) (fun A Q E s k q => wpAny_bind ((PySem.W.looks_clsIn KX1 hcls) A _ E s k (wpAny_pure q))) rfl KX1 sup (II1.type.andThen (PySem.W.looks_subIn KX1 S.ve)) (PySem.W.ks_ne KX1 II1 hcls) hat ?_
  show wpAny _ _ (callWith pos (.ref h1.objs.size) [] (backTo pos (starEach (e :: es) X.env)) []) _ _ _
  have kk2 : ∀ b o, h1.get? b = some o → (h1.push (PySem.W.kxs_mw "ValueError.__init__" a)).get? b = some o := fun b o e => Heap.get?_push_of_some _ e
  have I2 : Inv X pins σ H ⟨h1.push (PySem.W.kxs_mw "ValueError.__init__" a), g, d, tk + 1, os⟩ := I1.kept (t' := tk + 1) kk2
  have eu : (h1.push (PySem.W.kxs_mw "ValueError.__init__" a)).get? h1.objs.size = some (PySem.W.kxs_mw "ValueError.__init__" a) := Heap.get?_push_at rfl rfl
  have hnu : H h1.objs.size = none := I1.hok.fresh (Nat.le_refl _)
  have I3 : Inv X ((h1.objs.size, PySem.W.kxs_mw "ValueError.__init__" a) :: pins) σ H ⟨h1.push (PySem.W.kxs_mw "ValueError.__init__" a), g, d, tk + 1, os⟩ := by
    refine I2.pins_of fun p hp => ?_
    rcases List.mem_cons.mp hp with rfl | hp
    · exact ⟨eu, hnu, Ne.symm (Nat.ne_of_lt I1.lt), I1.nofs (Nat.le_refl _), fun v z => by cases z⟩
    · exact I2.pin p (List.mem_append_right _ hp)
  have key := thn (Q' := fun us s4 => PySem.W.KxsAt "ValueError.__init__" h1.objs.size a s4.heap ∧ wpAny (model X.prog X.w) X.A (call (.ref h1.objs.size) ([] ++ us) []) (fun _ s' => PySem.wpAt (model X.prog X.w) X.A (.func body X.env) (execs rest X.env) (SP X pins E) X.xe s') X.xe s4)
      (hA.run pos _ _ σ H _ I3 hta) fun us s4 ⟨vs4, H4, I4, r4, hz, ea4, q4⟩ => by
    have hu4 := (I4.pin _ (List.mem_append_right _ (List.mem_cons_self ..))).1
    have I5 : Inv X pins σ H4 s4 := I4.pins_of fun p hp => I4.pin p (List.mem_append_right _ (List.mem_cons_of_mem _ hp))
    refine ⟨hu4, ?_⟩
    exact call_sup T I5 ea4 hu4 (by rw [List.nil_append, ← Paired.length r4, sizeLine_eq]; omega) fun s' J => wpAt_of_wpAny (hR.run pins s' σ H4 E J q4)
  rw [he] at key ⊢
  refine PySem.W.kxs_callWith (i := "ValueError.__init__") (x := a) (by show (false || (backTo pos (starEach es X.env)).any (·.1)) = false; rw [hpl]; rfl) ?_
  exact PySem.Calls.evalArgs_plain key
end
/-- an own exception's __init__ as it stands behind the top -/
structure XFun (P : Program) (K : PySem.W.Frag) (qual : Str) (st : Stmt) (D f : Addr) (fd : FuncData) (cc cda : Addr) : Prop where
  ex : ∃ (dV kV doc pm : Value) (an : Option Addr) (ct : Value), fd = PySem.W.fnX "__init__" qual (defArgs st) (defBody st) (defScope st) [("__class__", cc)] dV kV doc pm an (.ref cda) ct
  sup : SupC P K D f cc cda fd
  code : PySem.W.codeIn K (.ref cda) qual = true
/-- the context of its body -/
abbrev xcx (CX : CXT) (P : Program) (w : World) (K : PySem.W.Frag) (mg : Str → Option Value) (base : Heap) (N : List Str) (qual : Str) (st : Stmt) (f cc cda : Addr) (A : Around) (outer : List Env) (s : Shared) (H : Hp) (E : XK) : Cx :=
  ncx CX P w K mg base N ⟨"__init__", qual, defArgs st, defBody st, defScope st, [("__class__", cc)], cda⟩ f A outer s H E
section
variable {CX : CXT} {P : Program} {w : World} {K : PySem.W.Frag} {mg : Str → Option Value} {base : Heap} {qual : Str} {st : Stmt} {D f cc cda : Addr} {fd : FuncData} {N ps : List Str} {k : Nat} {sp : Sp} {ar : Arg} {p0 p1 p2 p3 pos : Pos} {e : Expr} {es : List Expr} {rest : List Stmt}
theorem xok (F : XFun P K qual st D f fd cc cda) (T : OexC K D) (hm : mg "super" = none) (S : NScope N ps ["__class__"] (defScope st)) (len : ∀ vs H Q E, sp vs H Q E → vs.length = ps.length)
    (hb : defBody st = .Expr (.Call (.Attribute (.Call (.Name "super" p0) [] [] p1) "__init__" p2) (e :: es) [] pos) p3 :: rest)
    (hp : ((defArgs st).posonlyargs ++ (defArgs st).args).head? = some ar) (hN : N[0]? = some ar.arg) (hka : (defScope st).names.lookup ar.arg = some .local)
    (hks : (defScope st).names.lookup ("super" : Str) = some .globalImplicit)
    (hc : ∀ L : Addr, ∃ pl : Sem Bool, eval (.Call (.Attribute (.Call (.Name "super" p0) [] [] p1) "__init__" p2) (e :: es) [] pos) (PySem.W.envX qual (defScope st) L f (.ref cda) [("__class__", cc)]) = (do
      let ov ← attributeBase (.Call (.Name "super" p0) [] [] p1) "__init__" (PySem.W.envX qual (defScope st) L f (.ref cda) [("__class__", cc)]) (eval (.Call (.Name "super" p0) [] [] p1) (PySem.W.envX qual (defScope st) L f (.ref cda) [("__class__", cc)]))
      standAt p2.atName
      let (g, first) ← holding [ov] (getMethod ov "__init__" pl)
      callWith pos g first (backTo pos (starEach (e :: es) (PySem.W.envX qual (defScope st) L f (.ref cda) [("__class__", cc)]))) []))
    (hs : ∀ L : Addr, swapsWith (.Call (.Attribute (.Call (.Name "super" p0) [] [] p1) "__init__" p2) (e :: es) [] pos) none p3.line (PySem.W.envX qual (defScope st) L f (.ref cda) [("__class__", cc)]) = pure false)
    (he : ∀ L : Addr, starEach (e :: es) (PySem.W.envX qual (defScope st) L f (.ref cda) [("__class__", cc)]) = (false, eval e (PySem.W.envX qual (defScope st) L f (.ref cda) [("__class__", cc)])) :: starEach es (PySem.W.envX qual (defScope st) L f (.ref cda) [("__class__", cc)]))
    (hpl : ∀ L : Addr, (backTo pos (starEach es (PySem.W.envX qual (defScope st) L f (.ref cda) [("__class__", cc)]))).any (·.1) = false)
    (body : ∀ (A : Around) (outer : List Env) (s : Shared) (H : Hp) (vs : List V) (Q : VK) (E : XK), Room k (A.deeper (PySem.W.envX qual (defScope st) s.heap.objs.size f (.ref cda) [("__class__", cc)])) → sp vs H Q E →
      ∃ ta t, PA (xcx CX P w K mg base N qual st f cc cda A outer s H E) (e :: es) ta ∧ PSs (xcx CX P w K mg base N qual st f cc cda A outer s H E) rest t ∧
        tSup K D ta t { nx := fun _ H' => Q .non H', rt := Q } (startF N vs [none]) H) : FnOk P w K mg base CX (k + 1) f fd ps sp := by
  obtain ⟨dV, kV, doc, pm, an, ct, rfl⟩ := F.ex
  obtain ⟨oc, od, osl, hf⟩ := F.sup.fn
  obtain ⟨cl, cld, csl, hcell⟩ := F.sup.cell
  refine ⟨len, fun A outer s H ar' us vs Q E hr e0 hbi r hsp => ?_⟩
  have hl := len _ _ _ _ hsp
  have old : ∀ b o, base.get? b = some o → s.heap.get? b = some o := fun b o e => (e0.bs b o e).1
  have kin : K.In s.heap := e0.mod.kin.keeps old
  have hcc : H cc = none := (e0.bs _ _ (e0.mod.kin _ _ hcell)).2
  refine codeAny_call_function hr.depth (kin _ _ hf) rfl S.co S.gen rfl (PySem.W.codeRec_of kin F.code) (hbi _ _ _ _ ?_)
  refine wpAny_newFunctionEnv S.nocell (fun ⟨n, _⟩ hy => S.par n (List.of_mem_zip hy).1) (fun h₁ hns hsb => ⟨(e0.mod.nolimit.keeps old).fresh _ hsb, ?_⟩) S.kind
  have kp : ∀ b o, s.heap.get? b = some o → h₁.get? b = some o := fun b o e => hsb.extBut b o (Nat.ne_of_lt (Heap.lt_size e)) (Heap.get?_push_of_some _ e)
  obtain ⟨ta, t, hA, hR, hq⟩ := body A outer s H vs Q E (hr.deeper _) hsp
  have C : CellsAt [("__class__", cc)] ["__class__"] [none] s.heap H := by
    have lk : ∀ {y : Str} {c : Addr}, ([(("__class__" : Str), cc)] : List (Str × Addr)).lookup y = some c → y = "__class__" ∧ c = cc := by
      intro y c e
      rw [List.lookup_cons] at e
      cases hy : (y == ("__class__" : Str)) with
      | true =>
        rw [hy] at e
        exact ⟨by simpa using hy, (Option.some.inj e).symm⟩
      | false =>
        rw [hy] at e
        cases e
    refine ⟨rfl, fun y c e => ?_, fun x y c e1 e2 => ?_, fun i y e => ?_⟩
    · obtain ⟨_, rfl⟩ := lk e
      exact ⟨hcc, _, _, kin _ _ hcell, rfl⟩
    · rw [(lk e1).1, (lk e2).1]
    · match i, e with
      | 0, e =>
        cases e
        exact ⟨cc, by simp [List.lookup], fun v z => by cases z⟩
  have I : Inv (xcx CX P w K mg base N qual st f cc cda A outer s H E) [] (startF N vs [none]) H { s with heap := h₁, toks := s.toks + (ps.zip us).length } :=
    inv_startN (F := ⟨"__init__", qual, defArgs st, defBody st, defScope st, [("__class__", cc)], cda⟩) S hr.hd e0 hl r C hns kp
  show codeAny _ _ (.func (defBody st) (PySem.W.envX qual (defScope st) s.heap.objs.size f (.ref cda) [("__class__", cc)])) _ _
  refine ks_codeAny_funcAt ?_
  have B := body_sup (X := xcx CX P w K mg base N qual st f cc cda A outer s H E) (body := defBody st) (cc := cc) (cda := cda) (p3 := p3) F.sup T hm hA hR I hq hp hN hka (.inl hka) hks (S.frk _ (List.mem_cons_self ..)) rfl rfl (show ([(("__class__" : Str), cc)] : List (Str × Addr)).lookup ("__class__" : Str) = some cc by simp [List.lookup]) (fun _ => hc _) (hs _) (he _) (hpl _)
  rw [← hb] at B
  refine ks_wpAt_mono B (fun fl s' hs' => ?_) fun e s' z => z
  have fin : ∀ {σ' : L2.St} {H' : Hp} {v : V} {u : Value}, Inv (xcx CX P w K mg base N qual st f cc cda A outer s H E) [] σ' H' s' → L2.RelV v u → Q v H' → CE outer P w H s Q u s' :=
    fun {σ' H' v u} J rv q => ⟨v, H', J.os, J.bare, J.base, J.hok, rv, q⟩
  cases fl with
  | ret u =>
    obtain ⟨v, σ', H', J, rv, q⟩ := hs'
    exact fin J rv q
  | next =>
    obtain ⟨σ', H', J, q⟩ := hs'
    exact fin (v := V.non) (u := Value.none) J rfl q
  | brk =>
    obtain ⟨_, _, _, q⟩ := hs'
    exact False.elim q
  | cont =>
    obtain ⟨_, _, _, q⟩ := hs'
    exact False.elim q
end
end Lf

set_option Elab.async false
set_option linter.all false
set_option maxRecDepth 100000
set_option maxHeartbeats 4000000
/-! isinstance of a caught error that has fields of its own, in the suite that caught it. -/
namespace Lf
open PySem PySem.Spec PySem.Calls PyProof.Rows PySem.W
/-- the library's fact of an own error, asked of the facts that L2.ExcC holds: with or without a dict of its own -/
theorem kit_own {K : Frag} {x D : Addr} {ox : Obj} {od : Option Obj} (T : L2.ExcC K D) : KitX K (.ref x) (.ref D) (fun h => InstAt h x ox D od) :=
  kitx_exc (gt := none) (match any_some T.hd with | ⟨_, hc, _⟩ => by rw [hc]; rfl) T.hg T.hk T.hs T.ha T.hn T.ht T.hm
end Lf
namespace Lf
open PySem PySem.Spec PyProof.Rows L2
/-- isinstance(e, c), e what the suite caught: its class is D, its fields stand -/
def rIsX (K : PySem.W.Frag) (D a : Addr) (cls : Value) (d : Option Addr) : List V → Hp → VK → Prop := fun xs H Q => cls = .ref D ∧ (d = none ∨ ∃ (dd : Addr) (fs : List (Str × V)), d = some dd ∧ H dd = some (.xd fs)) ∧
  ∃ (c : V) (cv : Value) (b : Bool), xs = [.ref a, c] ∧ (∀ u, RelV c u → u = cv) ∧ PySem.W.kitOne K (.ref D) cv = some b ∧ Q (.bl b) H
theorem call_isX {X : Cx} {a D : Addr} {oe : Obj} {cls : Value} {d : Option Addr} {pn : List (Addr × Obj)} (C : ExcC X.K D) (hz : Zc cls d oe) (hf : ∃ vs, oe.data = .fields vs) : CallR (X.suite a ((a, oe) :: pn)) (.builtin "isinstance") (rIsX X.K D a cls d) := by
  intro pins s σ H xs us Q I r h
  obtain ⟨ec, hd, c, cv, b, rfl, hcv, e, q⟩ := h
  cases r with
  | cons rx rr =>
    cases rr with
    | cons rt rr =>
      cases rr
      cases rx
      have ecv := hcv _ rt
      subst ecv
      obtain ⟨hget, _⟩ := I.pin (a, oe) (List.mem_append.mpr (.inl List.mem_cons_self))
      obtain ⟨vs, hv⟩ := hf
      have J : ∃ od, PySem.W.InstAt s.heap a oe D od := by
        rcases hd with hd | ⟨dd, fs, hd, hH⟩
        · exact ⟨none, hget, by rw [hz.1, ec], by unfold PySem.W.notCls; rw [hv] <;> rfl, by rw [hz.2, hd]; trivial⟩
        · have hx : ObjOk X.prog X.w H s.heap dd (.xd fs) := I.hok dd _ hH
          obtain ⟨o, ho⟩ := objOk_get hx
          exact ⟨some o, hget, by rw [hz.1, ec], by unfold PySem.W.notCls; rw [hv] <;> rfl, by rw [hz.2, hd]; exact ho⟩
      obtain ⟨od, J⟩ := J
      exact PySem.W.kia_one (kit_own (od := od) C) I.kIn J e (fun z => nomatch z) fun tk => ⟨.bl b, H, I.kept (t' := tk) fun _ _ z => z, rfl, q⟩
end Lf

set_option Elab.async false
set_option linter.all false
set_option maxRecDepth 100000
set_option maxHeartbeats 4000000
/-! The head by kernel runs, with the __init__ of own exceptions (a def that holds its class in a cell) among the defs, and the facts of such exceptions. -/
namespace Lf
open PySem PySem.Spec PyProof.Rows L2
abbrev FnV : Type := Option (Str × Str × Arguments × FuncBody × Scope × Addr × List Str × Addr)
def fnV (K : PySem.W.Frag) (p : Str × Option Str) : FnV := match K.lookup (He.fAd K p) with
  | some ⟨_, _, .func fd, _⟩ => some (fd.name, fd.qualname, fd.params, fd.body, fd.scope, fd.globals, fd.closure.map (·.1), fd.builtins)
  | _ => none
/-- a def, and the names that it holds in cells -/
structure DefY where
  d : He.DefD
  cl : List Str := []
def DefY.val (y : DefY) : FnV := some (y.d.name, y.d.qual, y.d.params, .stmts y.d.body, y.d.scope, mainGlobals, y.cl, builtinsNs)
abbrev AlY : Type := Bool × List FnV
def obsY (fa : List Fct) (fn : List DefY) (K : PySem.W.Frag) : AlY := ((fa.all fun f => f K) && fn.all fun y => y.d.ok K, fn.map fun y => fnV K y.d.at_)
def valY (fn : List DefY) : AlY := (true, fn.map DefY.val)
def SaysY (fa : List Fct) (fn : List DefY) (K : PySem.W.Frag) : Prop := obsY fa fn K = valY fn
def obsYG (n : Nat) (fa : List Fct) (fn : List DefY) (g : Addr → Option Obj) : AlY := obsY fa fn (He.frG g (He.asD g n ++ [cStatics]))
def hookY (n : Nat) (fa : List Fct) (fn : List DefY) : PySem.W.Hook where
  α := AlY
  obs := fun s => obsYG n fa fn s.heap.get?
  val := fun _ => valY fn
  says := fun _ h => ∃ K : PySem.W.Frag, K.In h ∧ SaysY fa fn K
  of := fun _ _ e => ⟨_, He.frG_in, e⟩
  keeps := fun _ _ _ ⟨K, hK, c⟩ k => ⟨K, PySem.W.Frag.In.keeps hK k, c⟩
theorem obsYG_eq {n : Nat} {fa : List Fct} {fn : List DefY} {g : Addr → Option Obj} {s : Shared} (h : ∀ a, g a = s.heap.get? a) : obsYG n fa fn g = (hookY n fa fn).obs s := by
  have e : g = s.heap.get? := funext h
  rw [e] <;> rfl
section
variable {fa : List Fct} {fn : List DefY} {K : PySem.W.Frag}
theorem SaysY.fact (c : SaysY fa fn K) (i : Nat) {f : Fct} (h : fa[i]? = some f := by rfl) : f K = true :=
  List.all_eq_true.mp (He.ba (show ((fa.all fun f => f K) && fn.all fun y => y.d.ok K) = true from congrArg (fun z : AlY => z.1) c)).1 f (List.mem_of_getElem? h)
theorem SaysY.at_ (c : SaysY fa fn K) (i : Nat) {y : DefY} (h : fn[i]? = some y) : fnV K y.d.at_ = y.val ∧ y.d.ok K = true := by
  have c2 := (He.ba (show ((fa.all fun f => f K) && fn.all fun y => y.d.ok K) = true from congrArg (fun z : AlY => z.1) c)).2
  have e : fn.map (fun y => fnV K y.d.at_) = fn.map DefY.val := congrArg (fun z : AlY => z.2) c
  have e2 : (fn.map fun y => fnV K y.d.at_)[i]? = (fn.map DefY.val)[i]? := by rw [e]
  rw [List.getElem?_map, List.getElem?_map, h] at e2
  exact ⟨Option.some.inj e2, List.all_eq_true.mp c2 y (List.mem_of_getElem? h)⟩
/-- the def itself, as the part has it -/
theorem DefY.here {y : DefY} (e : fnV K y.d.at_ = y.val) (c : y.d.ok K = true) : ∃ (oc : Value) (od : Option Addr) (cl : List (Str × Addr)) (dV kV doc pm : Value) (an : Option Addr) (cdv ct : Value) (osl : Array (Option Value)),
    K.lookup (He.fAd K y.d.at_) = some ⟨oc, od, .func (PySem.W.fnX y.d.name y.d.qual y.d.params y.d.body y.d.scope cl dV kV doc pm an cdv ct), osl⟩ ∧ cl.map (·.1) = y.cl ∧ PySem.W.codeIn K cdv y.d.qual = true ∧ PySem.W.keepIn K (.ref (He.fAd K y.d.at_)) = true ∧ He.dflB K dV (y.d.dvs K) = true := by
  obtain ⟨kp, c2⟩ := He.ba c
  unfold fnV at e
  cases q : K.lookup (He.fAd K y.d.at_) with
  | none =>
    rw [q] at c2
    cases c2
  | some o =>
    obtain ⟨oc, od, dt, osl⟩ := o
    rw [q] at c2 e
    cases dt with
    | func fd =>
      obtain ⟨n1, n2, n3, n4, n5, n6, n7, n8, n9, n10, n11, n12, n13, n14, n15⟩ := fd
      have e2 : (some (n1, n2, n3, n4, n5, n6, n7.map (·.1), n15) : FnV) = some (y.d.name, y.d.qual, y.d.params, .stmts y.d.body, y.d.scope, mainGlobals, y.cl, builtinsNs) := e
      simp only [Option.some.injEq, Prod.mk.injEq] at e2
      obtain ⟨h1, h2, h3, h4, h5, h6, h7, h8⟩ := e2
      subst h1 h2 h3 h4 h5 h6 h8
      have c3 : (PySem.W.codeIn K n13 y.d.qual && (He.dflB K n8 (y.d.dvs K) && He.kwdB K n9 (y.d.kws K))) = true := c2
      exact ⟨oc, od, n7, n8, n9, n10, n11, n12, n13, n14, osl, rfl, h7, (He.ba c3).1, kp, (He.ba (He.ba c3).2).1⟩
    | _ => cases c2
theorem SaysY.def_ (c : SaysY fa fn K) (i : Nat) {y : DefY} (h : fn[i]? = some y := by rfl) (hc : y.cl = [] := by rfl) : ∃ fd, FunD K y.d.name y.d.qual y.d.params y.d.body y.d.scope (y.d.dvs K) (y.d.kws K) (He.fAd K y.d.at_) fd := by
  obtain ⟨e, ok⟩ := c.at_ i h
  refine He.DefD.funD ?_ ok
  obtain ⟨oc, od, cl, dV, kV, doc, pm, an, cdv, ct, osl, lk, ec, _⟩ := DefY.here e ok
  rw [hc] at ec
  cases cl with
  | nil =>
    show He.fnW K y.d.at_ = _
    unfold He.fnW
    rw [lk]
    rfl
  | cons a b => cases ec
end
/-! ### several runs -/
section
open PySem.W HandSHeadRun
theorem obsY_app {fa fb : List Fct} {fn gn : List DefY} {K : PySem.W.Frag} (h : obsY fa fn K = valY fn) (k : obsY fb gn K = valY gn) : obsY (fa ++ fb) (fn ++ gn) K = valY (fn ++ gn) := by
  have a := He.ba (show ((fa.all fun f => f K) && fn.all fun y => y.d.ok K) = true from congrArg (fun z : AlY => z.1) h)
  have b := He.ba (show ((fb.all fun f => f K) && gn.all fun y => y.d.ok K) = true from congrArg (fun z : AlY => z.1) k)
  have h2 : fn.map (fun y => fnV K y.d.at_) = fn.map DefY.val := congrArg (fun z : AlY => z.2) h
  have k2 : gn.map (fun y => fnV K y.d.at_) = gn.map DefY.val := congrArg (fun z : AlY => z.2) k
  show (((fa ++ fb).all fun f => f K) && (fn ++ gn).all fun y => y.d.ok K, (fn ++ gn).map fun y => fnV K y.d.at_) = (true, (fn ++ gn).map DefY.val)
  rw [List.all_append, List.all_append, a.1, a.2, b.1, b.2, List.map_append, List.map_append, h2, k2]
  rfl
def RunPartY (r : OpenRow) (n M : Nat) (fa : List Fct) (fn : List DefY) (w : World) : Prop := ∀ os : OsState, (endF (stepQ (denQ tabQ) r.prog w) M r.prog w os).map (fun s => obsYG n fa fn (getT s)) = some (valY fn)
def RunLooksY (r : OpenRow) (q : Program) (M : Nat) (loose : List PySem.Str) (w : World) : Prop := ∀ os : OsState, (endF (stepQ (denQ tabQ) r.prog w) M r.prog w os).map (fun s => (looksF r.prog (boot_heap w.params) s.abs, seenQ q loose (importedModules r.prog.main.body) (fun s => xlAt q [] s && recOk r.toRowW.records s) s.abs)) = some (true, openGood q loose)
theorem RunPartY.app {r : OpenRow} {n M : Nat} {fa fb : List Fct} {fn gn : List DefY} {w : World} (h : RunPartY r n M fa fn w) (k : RunPartY r n M fb gn w) : RunPartY r n M (fa ++ fb) (fn ++ gn) w := fun os => by
  have h' := h os
  have k' := k os
  cases e : endF (stepQ (denQ tabQ) r.prog w) M r.prog w os with
  | none =>
    rw [e] at h'
    cases h'
  | some s =>
    rw [e] at h' k'
    exact congrArg some (obsY_app (Option.some.inj h') (Option.some.inj k'))
theorem runY_of {r : OpenRow} {q : Program} {n M : Nat} {loose : List PySem.Str} {fa : List Fct} {fn : List DefY} {w : World} (h : RunLooksY r q M loose w) (k : RunPartY r n M fa fn w) : RunEq r q (hookY n fa fn) (fun s => obsYG n fa fn (getT s)) M loose w := fun os => by
  have h' := h os
  have k' := k os
  cases e : endF (stepQ (denQ tabQ) r.prog w) M r.prog w os with
  | none =>
    rw [e] at h'
    cases h'
  | some s =>
    rw [e] at h' k'
    have h1 := Option.some.inj h'
    have k1 : obsYG n fa fn (getT s) = valY fn := Option.some.inj k'
    refine congrArg some ?_
    show (looksF r.prog (boot_heap w.params) s.abs, seenQ q loose (importedModules r.prog.main.body) (fun s => xlAt q [] s && recOk r.toRowW.records s) s.abs, obsYG n fa fn (getT s)) = (true, openGood q loose, valY fn)
    rw [k1, (Prod.mk.inj h1).1, (Prod.mk.inj h1).2]
end
/-! ### own exceptions -/
/-- an own exception with fields, under its name: ps are the parameters of its __init__, st the def -/
structure XTn (P : Program) (K : PySem.W.Frag) (mg : Str → Option Value) (x qual : Str) (ps : List Str) (st : Stmt) (D fI : Addr) (fdI : FuncData) (cc cda : Addr) : Prop where
  g : mg x = some (.ref D)
  T : OexC K D
  iC : PySem.W.findIn K (.ref D) "__init__" = some (some (.ref fI))
  tI : PySem.W.typeIn K (.ref fI) = some (.type "function")
  F : XFun P K qual st D fI fdI cc cda
  b : Binds K fdI (("self" : Str) :: ps) []
  sup : mg "super" = none
  no : ∀ f ∈ ps, PySem.W.findIn K (.ref D) f = some none
  E : ExcC K D
  X : XfC K D
section
variable {K : PySem.W.Frag} {D : Addr}
def oexB (K : PySem.W.Frag) (D : Addr) : Bool := match K.lookup D with
  | some ⟨.type t, _, .cls cd, sl⟩ => t == "type" && (cd.hasDict && (!cd.hasDel && (match cd.mro, sl.toList with
    | .ref C' :: bm, [_, _, _, _, some (.builtin n), _] => C' == D && (n == "ValueError.__new__" && PySem.HandSPX.refsVE bm)
    | _, _ => false)))
  | _ => false
theorem oexB_ok (hz : oexB K D = true) : ∃ nm q N bs bm sn sub ab col dd k0 k1 k2 k3 k5, K.lookup D = some (excClassObj nm q D N bs bm true sn sub ab col dd k0 k1 k2 k3 k5 "ValueError.__new__") ∧ PySem.HandSPX.refsVE bm = true := by
  unfold oexB at hz
  split at hz
  · rename_i t dd cd sl hl
    obtain ⟨h1, ha⟩ := He.ba hz
    obtain ⟨h2, hb⟩ := He.ba ha
    obtain ⟨h3, hc⟩ := He.ba hb
    clear ha hb hz
    obtain ⟨nm, bs, mro, N, q, hdct, sn, sub, ab, col, hdel⟩ := cd
    obtain ⟨sl⟩ := sl
    have e2 : hdct = true := h2
    have e3 : hdel = false := by
      cases hdel with
      | false => rfl
      | true => cases h3
    subst e2 e3
    have e1 : t = "type" := by simpa using h1
    subst e1
    split at hc
    · rename_i C' bm k0 k1 k2 k3 n k5 hm hs
      obtain ⟨h4, hd⟩ := He.ba hc
      obtain ⟨h5, h6⟩ := He.ba hd
      have e4 : C' = D := by simpa using h4
      have e5 : n = "ValueError.__new__" := by simpa using h5
      subst e4 e5
      have hm : mro = .ref C' :: bm := hm
      have hs : sl = [k0, k1, k2, k3, some (.builtin "ValueError.__new__"), k5] := hs
      subst hm hs
      exact ⟨nm, q, N, bs, bm, sn, sub, ab, col, dd, k0, k1, k2, k3, k5, hl, h6⟩
    · cases hc
  · cases hz
/-- the facts of an own exception over ValueError, with or without an __init__ of its own -/
def excB (K : PySem.W.Frag) (D : Addr) : Bool := decide (PySem.W.findIn K (.ref D) "__getattribute__" = some (some (.builtin "BaseException.__getattribute__"))) && (decide (PySem.W.findIn K (.ref D) "__getattr__" = some none) && (decide (PySem.W.subIn K (.ref D) (.type "BaseException") = some true) && (PySem.W.hasDictIn K D &&
  (decide (PySem.W.findIn K (.ref D) "__class__" = some (some (.builtin "object.__class__"))) && (decide (PySem.W.specialIn K (.builtin "object.__class__") "__get__" = some (some (.builtin "getset_descriptor.__get__"))) && (decide (PySem.W.takesIn K (.builtin "object.__class__") = some true) && decide (PySem.W.mroIn K D (.type "object") = some true)))))))
theorem excB_ok (h : excB K D = true) : ExcC K D ∧ XfC K D := by
  obtain ⟨h1, h⟩ := He.ba h
  obtain ⟨h2, h⟩ := He.ba h
  obtain ⟨h3, h⟩ := He.ba h
  obtain ⟨h4, h⟩ := He.ba h
  obtain ⟨h5, h⟩ := He.ba h
  obtain ⟨h6, h⟩ := He.ba h
  obtain ⟨h7, h8⟩ := He.ba h
  exact ⟨⟨of_decide_eq_true h1, of_decide_eq_true h2, of_decide_eq_true h3, h4, of_decide_eq_true h5, of_decide_eq_true h6, of_decide_eq_true h7, of_decide_eq_true h8⟩, ⟨of_decide_eq_true h1, of_decide_eq_true h2, of_decide_eq_true h3, h4⟩⟩
/-- the cell's place, the code's place, of a def that holds its class -/
def ccOf (K : PySem.W.Frag) (f : Addr) : Addr := match K.lookup f with
  | some ⟨_, _, .func fd, _⟩ => (match fd.closure with | [(_, a)] => a | _ => 0)
  | _ => 0
def cdOf (K : PySem.W.Frag) (f : Addr) : Addr := match K.lookup f with
  | some ⟨_, _, .func fd, _⟩ => (match fd.code with | .ref a => a | _ => 0)
  | _ => 0
def codeB (K : PySem.W.Frag) (file : Str) (c : Addr) : Bool := match K.lookup c with
  | some ⟨_, _, .fields vs, _⟩ => (match (vs[2]? : Option Value) with | some (.str z _) => file == z | _ => false)
  | _ => false
def cellB (K : PySem.W.Frag) (c D : Addr) : Bool := match K.lookup c with
  | some ⟨_, _, .cell (some (.ref a)), _⟩ => a == D
  | _ => false
def xtB (file x : Str) (ps : List Str) (K : PySem.W.Frag) : Bool := oexB K (He.ga K x) && (excB K (He.ga K x) && (codeB K file (cdOf K (He.ma K (He.ga K x) "__init__")) && (cellB K (ccOf K (He.ma K (He.ga K x) "__init__")) (He.ga K x) &&
  (decide (PySem.W.findIn K (.ref (He.ga K x)) "__setattr__" = some (some (.builtin "object.__setattr__"))) && (decide (PySem.W.typeIn K (.ref (He.ga K x)) = some (.type "type")) && (PySem.W.keepIn K (.ref (He.ga K x)) &&
  (decide (PySem.W.findIn K (.ref (He.ga K x)) "__init__" = some (some (.ref (He.ma K (He.ga K x) "__init__")))) && (decide (PySem.W.typeIn K (.ref (He.ma K (He.ga K x) "__init__")) = some (.type "function")) &&
  (decide (PySem.W.ks_superIn K (He.ga K x) (He.ga K x) "__init__" = some (some (.builtin "ValueError.__init__"))) && (decide (PySem.W.mroIn K (He.ga K x) (.ref (He.ga K x)) = some true) && (decide (PySem.W.subIn K (.ref (He.ga K x)) (.type "ValueError") = some true) &&
  (decide (PySem.W.nsIn K cStatics "thirdparty.any" = some none) && (ps.all fun f => decide (PySem.W.findIn K (.ref (He.ga K x)) f = some none))))))))))))))
theorem xtB_ok {P : Program} {mg : Str → Option Value} {x : Str} {ps : List Str} {st : Stmt} {qual file : Str} (hf : P.main.file = file) (htop : (P.main.scope.names.lookup ("super" : Str)).isSome = false) (g : mg x = some (.ref (He.ga K x))) (sup : mg "super" = none) (h : xtB file x ps K = true)
    {y : DefY} (e : fnV K y.d.at_ = y.val) (c : y.d.ok K = true) (ey : y = ⟨⟨(x, some "__init__"), "__init__", qual, defArgs st, defBody st, defScope st, [], []⟩, ["__class__"]⟩)
    (hb : ∀ (cc : Addr) (kV doc pm : Value) (an : Option Addr) (cdv ct : Value) (us : List Value), us.length = (("self" : Str) :: ps).length → bindArgs (PySem.W.fnX "__init__" qual (defArgs st) (defBody st) (defScope st) [("__class__", cc)] .none kV doc pm an cdv ct) ⟨us, []⟩ = pure ((("self" : Str) :: ps).zip us)) :
    ∃ fd, XTn P K mg x qual ps st (He.ga K x) (He.ma K (He.ga K x) "__init__") fd (ccOf K (He.ma K (He.ga K x) "__init__")) (cdOf K (He.ma K (He.ga K x) "__init__")) := by
  subst ey
  obtain ⟨h1, h⟩ := He.ba h
  obtain ⟨h2, h⟩ := He.ba h
  obtain ⟨h3, h⟩ := He.ba h
  obtain ⟨h4, h⟩ := He.ba h
  obtain ⟨h5, h⟩ := He.ba h
  obtain ⟨h6, h⟩ := He.ba h
  obtain ⟨h7, h⟩ := He.ba h
  obtain ⟨h8, h⟩ := He.ba h
  obtain ⟨h9, h⟩ := He.ba h
  obtain ⟨h10, h⟩ := He.ba h
  obtain ⟨h11, h⟩ := He.ba h
  obtain ⟨h12, h⟩ := He.ba h
  obtain ⟨h13, h14⟩ := He.ba h
  obtain ⟨E, Xf⟩ := excB_ok h2
  obtain ⟨oc, od, cl, dV, kV, doc, pm, an, cdv, ct, osl, lk, ec, hcd, kp, dfl⟩ := DefY.here e c
  obtain rfl : dV = .none := ((He.dflB_ok dfl).resolve_right fun z => z.1 rfl).2
  have lk : K.lookup (He.ma K (He.ga K x) "__init__") = some ⟨oc, od, .func (PySem.W.fnX "__init__" qual (defArgs st) (defBody st) (defScope st) cl .none kV doc pm an cdv ct), osl⟩ := lk
  obtain ⟨cc, rfl⟩ : ∃ cc, cl = [(("__class__" : Str), cc)] := by
    match cl, ec with
    | [(a, b)], ec =>
      have : a = ("__class__" : Str) := (List.cons.inj ec).1
      exact ⟨b, by rw [this]⟩
  have ecc : ccOf K (He.ma K (He.ga K x) "__init__") = cc := by
    unfold ccOf
    rw [lk]
  have hcd : PySem.W.codeIn K cdv qual = true := hcd
  obtain ⟨cda, rfl⟩ : ∃ cda, cdv = .ref cda := by
    unfold PySem.W.codeIn at hcd
    split at hcd
    · exact ⟨_, rfl⟩
    · cases hcd
  have ecd : cdOf K (He.ma K (He.ga K x) "__init__") = cda := by
    unfold cdOf
    rw [lk]
  rw [ecd] at h3 ⊢
  rw [ecc] at h4 ⊢
  refine ⟨_, g, ⟨oexB_ok h1, of_decide_eq_true h5, E.hs, of_decide_eq_true h6, h7⟩, of_decide_eq_true h8, of_decide_eq_true h9, ⟨⟨.none, kV, doc, pm, an, ct, rfl⟩, ⟨⟨oc, od, osl, lk⟩, ?_, ?_, of_decide_eq_true h10, of_decide_eq_true h11, of_decide_eq_true h12, of_decide_eq_true h13, htop⟩, hcd⟩, .all fun us hl => hb _ _ _ _ _ _ _ us hl, sup, fun f hf => of_decide_eq_true (List.all_eq_true.mp h14 f hf), E, Xf⟩
  · unfold codeB at h3
    split at h3
    · rename_i a1 a2 vs a3 hl
      split at h3
      · rename_i z tz hz
        exact ⟨a1, a2, vs, a3, z, tz, hl, hz, by rw [hf]; exact h3⟩
      · cases h3
    · cases h3
  · unfold cellB at h4
    split at h4
    · rename_i a1 a2 a a3 hl
      have : a = He.ga K x := by simpa using h4
      subst this
      exact ⟨a1, a2, a3, hl⟩
    · cases h4
end
end Lf

set_option Elab.async false
set_option linter.all false
set_option maxRecDepth 100000
set_option maxHeartbeats 4000000
/-! The head by kernel runs, at less cost: what is seen is kept as bits of a number, so that no list is compared with itself; and the wanted list is no `List.map`, so that the kernel never compares the two mapped functions. -/
namespace Lf
open PySem PySem.Spec PyProof.Rows L2
open PySem.W HandSHeadRun
def seenB (m a : Nat) : Bool := Nat.beq (Nat.land (Nat.shiftRight m a) 1) 1
def freshB : List Addr → Nat → List Addr
  | [], _ => []
  | a :: r, m => match seenB m a with
    | true => freshB r m
    | false => a :: freshB r (Nat.lor m (Nat.shiftLeft 1 a))
def addB : List Addr → Nat → Nat
  | [], m => m
  | a :: r, m => addB r (Nat.lor m (Nat.shiftLeft 1 a))
def refsB (g : Addr → Option Obj) : List Addr → List Addr
  | [] => []
  | a :: r => (match g a with
    | some o => He.refsD o
    | none => []) ++ refsB g r
/-- level by level: m the bits of what is seen, fr the newest level -/
def walkB (g : Addr → Option Obj) : Nat → Nat → List Addr → List Addr
  | 0, _, fr => fr
  | n + 1, m, fr => fr ++ walkB g n (addB (freshB (refsB g fr) m) m) (freshB (refsB g fr) m)
def asB (g : Addr → Option Obj) (n : Nat) : List Addr := walkB g n (addB [mainGlobals] 0) [mainGlobals]
def obsB (n : Nat) (fa : List Fct) (fn : List DefY) (g : Addr → Option Obj) : AlY := obsY fa fn (He.frG g (asB g n ++ [cStatics]))
def hookB (n : Nat) (fa : List Fct) (fn : List DefY) : PySem.W.Hook where
  α := AlY
  obs := fun s => obsB n fa fn s.heap.get?
  val := fun _ => valY fn
  says := fun _ h => ∃ K : PySem.W.Frag, K.In h ∧ SaysY fa fn K
  of := fun _ _ e => ⟨_, He.frG_in, e⟩
  keeps := fun _ _ _ ⟨K, hK, c⟩ k => ⟨K, PySem.W.Frag.In.keeps hK k, c⟩
theorem obsB_eq {n : Nat} {fa : List Fct} {fn : List DefY} {g : Addr → Option Obj} {s : Shared} (h : ∀ a, g a = s.heap.get? a) : obsB n fa fn g = (hookB n fa fn).obs s := by
  have e : g = s.heap.get? := funext h
  rw [e] <;> rfl
def DefY.vals : List DefY → List FnV
  | [] => []
  | y :: ys => y.val :: DefY.vals ys
theorem DefY.vals_eq : ∀ fn : List DefY, DefY.vals fn = fn.map DefY.val
  | [] => rfl
  | y :: ys => by rw [DefY.vals, DefY.vals_eq ys, List.map_cons]
def RunPartZ (r : OpenRow) (n M : Nat) (fa : List Fct) (fn : List DefY) (w : World) : Prop := ∀ os : OsState, (endF (stepQ (denQ tabQ) r.prog w) M r.prog w os).map (fun s => obsB n fa fn (getT s)) = some (true, DefY.vals fn)
def RunPartB (r : OpenRow) (n M : Nat) (fa : List Fct) (fn : List DefY) (w : World) : Prop := ∀ os : OsState, (endF (stepQ (denQ tabQ) r.prog w) M r.prog w os).map (fun s => obsB n fa fn (getT s)) = some (valY fn)
theorem RunPartZ.b {r : OpenRow} {n M : Nat} {fa : List Fct} {fn : List DefY} {w : World} (h : RunPartZ r n M fa fn w) : RunPartB r n M fa fn w := fun os => by
  rw [h os, DefY.vals_eq]
  rfl
theorem RunPartB.app {r : OpenRow} {n M : Nat} {fa fb : List Fct} {fn gn : List DefY} {w : World} (h : RunPartB r n M fa fn w) (k : RunPartB r n M fb gn w) : RunPartB r n M (fa ++ fb) (fn ++ gn) w := fun os => by
  have h' := h os
  have k' := k os
  cases e : endF (stepQ (denQ tabQ) r.prog w) M r.prog w os with
  | none =>
    rw [e] at h'
    cases h'
  | some s =>
    rw [e] at h' k'
    exact congrArg some (obsY_app (Option.some.inj h') (Option.some.inj k'))
theorem runB_of {r : OpenRow} {q : Program} {n M : Nat} {loose : List PySem.Str} {fa : List Fct} {fn : List DefY} {w : World} (h : RunLooksY r q M loose w) (k : RunPartB r n M fa fn w) : RunEq r q (hookB n fa fn) (fun s => obsB n fa fn (getT s)) M loose w := fun os => by
  have h' := h os
  have k' := k os
  cases e : endF (stepQ (denQ tabQ) r.prog w) M r.prog w os with
  | none =>
    rw [e] at h'
    cases h'
  | some s =>
    rw [e] at h' k'
    have h1 := Option.some.inj h'
    have k1 : obsB n fa fn (getT s) = valY fn := Option.some.inj k'
    refine congrArg some ?_
    show (looksF r.prog (boot_heap w.params) s.abs, seenQ q loose (importedModules r.prog.main.body) (fun s => xlAt q [] s && recOk r.toRowW.records s) s.abs, obsB n fa fn (getT s)) = (true, openGood q loose, valY fn)
    rw [k1, (Prod.mk.inj h1).1, (Prod.mk.inj h1).2]
end Lf

set_option linter.all false
/-! Lowest terms: plain arithmetic. -/
namespace Lf
/-- the fraction of two whole numbers, d not 0 -/
def low (n d : Int) : Int × Int := ((n * d.sign) / (Nat.gcd n.natAbs d.natAbs : Nat), (d.natAbs : Int) / (Nat.gcd n.natAbs d.natAbs : Nat))
def IsLow (t b : Int) : Prop := 0 < b ∧ Nat.Coprime t.natAbs b.natAbs
theorem gcd_pos {n d : Int} (h : d ≠ 0) : 0 < Nat.gcd n.natAbs d.natAbs := Nat.gcd_pos_of_pos_right _ (by omega)
theorem low_parts {n d : Int} (h : d ≠ 0) : ∃ (u : Int) (v : Nat), n * d.sign = u * (Nat.gcd n.natAbs d.natAbs : Nat) ∧ d.natAbs = v * Nat.gcd n.natAbs d.natAbs ∧ low n d = (u, (v : Int)) ∧ 0 < v ∧ Nat.Coprime u.natAbs v := by
  have hg := gcd_pos (n := n) h
  obtain ⟨v, hv⟩ := Nat.gcd_dvd_right n.natAbs d.natAbs
  obtain ⟨u, hu⟩ : ∃ u : Int, n * d.sign = (Nat.gcd n.natAbs d.natAbs : Nat) * u := by
    obtain ⟨x, hx⟩ := Nat.gcd_dvd_left n.natAbs d.natAbs
    rcases Int.natAbs_eq n with e | e
    · exact ⟨x * d.sign, by rw [← Int.mul_assoc, ← Int.natCast_mul, ← hx, ← e]⟩
    · exact ⟨-(x : Int) * d.sign, by rw [← Int.mul_assoc, Int.mul_neg, ← Int.natCast_mul, ← hx, ← e]⟩
  have hn : n.natAbs = Nat.gcd n.natAbs d.natAbs * u.natAbs := by
    have := congrArg Int.natAbs hu
    rw [Int.natAbs_mul, Int.natAbs_mul, Int.natAbs_sign_of_ne_zero h, Nat.mul_one, Int.natAbs_natCast] at this
    exact this
  have hvp : 0 < v := by
    rcases Nat.eq_zero_or_pos v with e | e
    · rw [e, Nat.mul_zero] at hv
      omega
    · exact e
  have hgi : ((Nat.gcd n.natAbs d.natAbs : Nat) : Int) ≠ 0 := by omega
  refine ⟨u, v, by rw [hu, Int.mul_comm], by rw [Nat.mul_comm]; exact hv, ?_, hvp, ?_⟩
  · unfold low
    rw [hu, Int.mul_ediv_cancel_left _ hgi]
    have : (d.natAbs : Int) = (Nat.gcd n.natAbs d.natAbs : Nat) * (v : Int) := by rw [← Int.natCast_mul, ← hv]
    rw [this, Int.mul_ediv_cancel_left _ hgi]
  · have e : Nat.gcd n.natAbs d.natAbs = Nat.gcd n.natAbs d.natAbs * Nat.gcd u.natAbs v := by
      rw [← Nat.gcd_mul_left, ← hn, ← hv]
    have e' : Nat.gcd n.natAbs d.natAbs * 1 = Nat.gcd n.natAbs d.natAbs * Nat.gcd u.natAbs v := by rw [Nat.mul_one]; exact e
    exact (Nat.eq_of_mul_eq_mul_left hg e').symm
theorem sign_mul_natAbs' (d : Int) : d.sign * (d.natAbs : Int) = d := Int.sign_mul_natAbs d
theorem low_is {n d : Int} (h : d ≠ 0) : IsLow (low n d).1 (low n d).2 := by
  obtain ⟨u, v, _, _, e, hv, hc⟩ := low_parts (n := n) h
  rw [e]
  exact ⟨by show (0 : Int) < v; omega, hc⟩
theorem low_cross {n d : Int} (h : d ≠ 0) : (low n d).1 * d = n * (low n d).2 := by
  obtain ⟨u, v, h1, h2, e, hv, hc⟩ := low_parts (n := n) h
  rw [e]
  show u * d = n * v
  have hg := gcd_pos (n := n) h
  have hgi : ((Nat.gcd n.natAbs d.natAbs : Nat) : Int) ≠ 0 := by omega
  have hs : d.sign * d.sign = 1 := by
    rcases Int.lt_or_gt_of_ne h with q | q
    · rw [Int.sign_eq_neg_one_of_neg q]
      rfl
    · rw [Int.sign_eq_one_of_pos q]
      rfl
  have ed : d = d.sign * ((v : Int) * (Nat.gcd n.natAbs d.natAbs : Nat)) := by
    rw [← Int.natCast_mul, ← h2]
    exact (sign_mul_natAbs' d).symm
  have : (u * d) * ((Nat.gcd n.natAbs d.natAbs : Nat) : Int) = (n * v) * (Nat.gcd n.natAbs d.natAbs : Nat) := by
    have e1 : (u * d) * ((Nat.gcd n.natAbs d.natAbs : Nat) : Int) = (u * (Nat.gcd n.natAbs d.natAbs : Nat)) * d := by
      rw [Int.mul_assoc, Int.mul_assoc, Int.mul_comm d]
    rw [e1, ← h1]
    generalize hG : ((Nat.gcd n.natAbs d.natAbs : Nat) : Int) = G at *
    calc n * d.sign * d = n * d.sign * (d.sign * (v * G)) := by rw [← ed]
      _ = n * (d.sign * d.sign) * (v * G) := by simp only [Int.mul_assoc]
      _ = n * v * G := by rw [hs]; simp only [Int.mul_one, Int.mul_assoc]
  exact Int.eq_of_mul_eq_mul_right hgi this
theorem low_uniq {t b t' b' : Int} (h : IsLow t b) (h' : IsLow t' b') (e : t * b' = t' * b) : t = t' ∧ b = b' := by
  obtain ⟨hb, hc⟩ := h
  obtain ⟨hb', hc'⟩ := h'
  have e1 : t.natAbs * b'.natAbs = t'.natAbs * b.natAbs := by
    have := congrArg Int.natAbs e
    rwa [Int.natAbs_mul, Int.natAbs_mul] at this
  have d1 : b.natAbs ∣ b'.natAbs := by
    have q : b.natAbs ∣ t.natAbs * b'.natAbs := by
      rw [e1]
      exact Nat.dvd_mul_left _ _
    exact Nat.Coprime.dvd_of_dvd_mul_left hc.symm q
  have d2 : b'.natAbs ∣ b.natAbs := by
    have q : b'.natAbs ∣ t'.natAbs * b.natAbs := by
      rw [← e1]
      exact Nat.dvd_mul_left _ _
    exact Nat.Coprime.dvd_of_dvd_mul_left hc'.symm q
  have eb : b.natAbs = b'.natAbs := Nat.dvd_antisymm d1 d2
  have eb' : b = b' := by omega
  subst eb'
  exact ⟨Int.eq_of_mul_eq_mul_right (by omega) e, rfl⟩
/-- the fraction is the one in lowest terms -/
theorem low_eq {n d t b : Int} (h : d ≠ 0) (hl : IsLow t b) (e : t * d = n * b) : low n d = (t, b) := by
  have hi := low_is (n := n) h
  have hx := low_cross (n := n) h
  have key : (low n d).1 * b = t * (low n d).2 := by
    have q : ((low n d).1 * b) * d = (t * (low n d).2) * d := by
      calc ((low n d).1 * b) * d = ((low n d).1 * d) * b := by rw [Int.mul_assoc, Int.mul_comm b d, Int.mul_assoc]
        _ = (n * (low n d).2) * b := by rw [hx]
        _ = (n * b) * (low n d).2 := by rw [Int.mul_assoc, Int.mul_comm _ b, Int.mul_assoc]
        _ = (t * d) * (low n d).2 := by rw [e]
        _ = (t * (low n d).2) * d := by rw [Int.mul_assoc, Int.mul_comm d, Int.mul_assoc]
    exact Int.eq_of_mul_eq_mul_right h q
  obtain ⟨e1, e2⟩ := low_uniq hi hl key
  exact Prod.ext e1 e2
theorem low_self {t b : Int} (h : IsLow t b) : low t b = (t, b) := low_eq (by have := h.1; omega) h rfl
/-- bounds -/
theorem low_top_le {n d : Int} (h : d ≠ 0) : (low n d).1.natAbs ≤ n.natAbs := by
  obtain ⟨u, v, h1, h2, e, hv, hc⟩ := low_parts (n := n) h
  rw [e]
  show u.natAbs ≤ n.natAbs
  have hg := gcd_pos (n := n) h
  have := congrArg Int.natAbs h1
  rw [Int.natAbs_mul, Int.natAbs_mul, Int.natAbs_sign_of_ne_zero h, Nat.mul_one, Int.natAbs_natCast] at this
  rw [this]
  exact Nat.le_mul_of_pos_right _ hg
theorem low_bottom_le {n d : Int} (h : d ≠ 0) : (low n d).2.natAbs ≤ d.natAbs := by
  obtain ⟨u, v, h1, h2, e, hv, hc⟩ := low_parts (n := n) h
  rw [e]
  show (v : Int).natAbs ≤ d.natAbs
  have hg := gcd_pos (n := n) h
  rw [h2, Int.natAbs_natCast]
  exact Nat.le_mul_of_pos_right _ hg
/-- the program's way: over a bottom above 0 -/
theorem low_pos {n d : Int} (h : 0 < d) : low n d = (n / (Nat.gcd n.natAbs d.natAbs : Nat), d / (Nat.gcd n.natAbs d.natAbs : Nat)) := by
  unfold low
  rw [Int.sign_eq_one_of_pos h, Int.mul_one, show (d.natAbs : Int) = d by omega]
theorem low_neg (n d : Int) : low (-n) (-d) = low n d := by
  unfold low
  rw [Int.sign_neg, Int.natAbs_neg, Int.natAbs_neg, Int.neg_mul_neg]
/-- the law's way: by the greatest common one, below 0 where the bottom is -/
theorem low_fdiv_pos {n d : Int} (h : 0 < d) : (n.fdiv (Nat.gcd n.natAbs d.natAbs : Nat), d.fdiv (Nat.gcd n.natAbs d.natAbs : Nat)) = low n d := by
  rw [low_pos h, Int.fdiv_eq_ediv_of_nonneg _ (by omega), Int.fdiv_eq_ediv_of_nonneg _ (by omega)]
theorem low_fdiv_neg {n d : Int} (h : d < 0) : (n.fdiv (-(Nat.gcd n.natAbs d.natAbs : Nat)), d.fdiv (-(Nat.gcd n.natAbs d.natAbs : Nat))) = low n d := by
  have q := low_fdiv_pos (n := -n) (d := -d) (by omega)
  rw [Int.natAbs_neg, Int.natAbs_neg, low_neg] at q
  rw [← q, ← Int.neg_fdiv_neg, ← Int.neg_fdiv_neg d, Int.neg_neg]
/-- the sum less the other one is the one -/
theorem low_back {a b c d : Int} (hl : IsLow a b) (hd : 0 < d) :
    low ((low (a * d + c * b) (b * d)).1 * d - c * (low (a * d + c * b) (b * d)).2) ((low (a * d + c * b) (b * d)).2 * d) = (a, b) := by
  have hb := hl.1
  have h0 : b * d ≠ 0 := Int.ne_of_gt (Int.mul_pos hb hd)
  have hi := low_is (n := a * d + c * b) h0
  have hx := low_cross (n := a * d + c * b) h0
  generalize (low (a * d + c * b) (b * d)).1 = x at *
  generalize (low (a * d + c * b) (b * d)).2 = y at *
  refine low_eq (Int.ne_of_gt (Int.mul_pos hi.1 hd)) hl ?_
  have : x * (b * d) = x * d * b := by rw [Int.mul_comm b d, Int.mul_assoc]
  rw [this] at hx
  rw [Int.sub_mul, hx, Int.add_mul]
  have e1 : c * y * b = c * b * y := by rw [Int.mul_assoc, Int.mul_comm y b, Int.mul_assoc]
  have e2 : a * (y * d) = a * d * y := by rw [Int.mul_comm y d, Int.mul_assoc]
  rw [e1, e2]
  omega
/-- Euclid's steps keep the greatest common one -/
theorem gcd_step (a b : Int) (hb : 0 < b) (ha : 0 ≤ a) : Nat.gcd b.natAbs (a % b).natAbs = Nat.gcd a.natAbs b.natAbs := by
  have e : (a % b).natAbs = a.natAbs % b.natAbs := by
    rw [Int.natAbs_emod_of_nonneg ha]
  rw [e, Nat.gcd_comm b.natAbs, ← Nat.gcd_rec, Nat.gcd_comm]
end Lf

set_option Elab.async false
set_option linter.all false
set_option maxRecDepth 100000
set_option maxHeartbeats 4000000
set_option exponentiation.threshold 3000
/-! What repr shows of data, and that it fits. -/
namespace Lf
open PySem PySem.Spec PyProof.Rows L2
/-- below 2 ^ 900 -/
def Sm (n : Int) : Prop := n.natAbs < 2 ^ 900
theorem Sm.log {n : Int} (h : Sm n) : n.natAbs.log2 < 900 := PySem.Flt.log2_lt_of (by decide) h
theorem Sm.text {n : Int} (h : Sm n) : (Str.ofString (toString n)).length ≤ 901 := by
  rw [PySem.ofString_length]
  exact int_text_length_le (by decide) h.log
/-- data that can be shown: its weight, its depth -/
structure Ft (w k : Nat) (d : PyData) : Prop where
  sh : d.showable = true
  nd : d.hasDict = false
  dp : d.depth ≤ k
  lv : d.leavesShort 1000 = true
  wt : d.weight ≤ w
structure FtA (w k : Nat) (ds : List PyData) : Prop where
  sh : PyData.showableAll ds = true
  nd : PyData.hasDictAll ds = false
  dp : PyData.depthAll ds ≤ k
  lv : PyData.leavesShortAll 1000 ds = true
  wt : PyData.weightAll ds ≤ w
theorem Ft.int {n : Int} (h : Sm n) : Ft 900 0 (.int n) := by
  have hl := h.log
  refine ⟨?_, ?_, ?_, ?_, ?_⟩
  · simp only [PyData.showable, decide_eq_true_eq]
    omega
  · simp only [PyData.hasDict]
  · simp only [PyData.depth, Nat.le_refl]
  · simp only [PyData.leavesShort, decide_eq_true_eq, PyData.shown]
    exact decide_eq_true (Nat.le_trans h.text (show 901 ≤ 1000 by decide))
  · simp only [PyData.weight]
    split <;> omega
theorem Ft.bool (b : Bool) : Ft 0 0 (.bool b) := ⟨by simp only [PyData.showable], by simp only [PyData.hasDict], by simp only [PyData.depth, Nat.le_refl], by simp only [PyData.leavesShort], by simp only [PyData.weight, Nat.le_refl]⟩
theorem Ft.none : Ft 0 0 .none := ⟨by simp only [PyData.showable], by simp only [PyData.hasDict], by simp only [PyData.depth, Nat.le_refl], by simp only [PyData.leavesShort], by simp only [PyData.weight, Nat.le_refl]⟩
/-- a text whose signs are signs -/
def Sg (x : Str) : Prop := ∀ c ∈ x.cps.toList, c < 16 ^ 8
theorem Sg.of (s : String) : Sg (Str.ofString s) := by
  intro c hc
  rw [Str.ofString_eq_toList] at hc
  obtain ⟨ch, _, rfl⟩ := List.mem_map.mp (show c ∈ s.toList.map Char.toNat from hc)
  exact ch.val.toNat_lt
theorem Sg.app {x y : Str} (h : Sg x) (k : Sg y) : Sg (x ++ y) := by
  intro c hc
  have e : (x ++ y).cps.toList = x.cps.toList ++ y.cps.toList := by
    rw [show (x ++ y).cps = x.cps ++ y.cps from rfl, Array.toList_append]
  rw [e] at hc
  rcases List.mem_append.mp hc with q | q
  · exact h c q
  · exact k c q
theorem Ft.str {w : Nat} {x : Str} (h : Sg x) (hw : x.length ≤ w) : Ft w 0 (.str x) := ⟨by simp only [PyData.showable], by simp only [PyData.hasDict], by simp only [PyData.depth, Nat.le_refl],
  by simp only [PyData.leavesShort, List.all_eq_true, decide_eq_true_eq]; exact h, by simp only [PyData.weight]; exact hw⟩
theorem FtA.nil : FtA 0 0 [] := ⟨by simp only [PyData.showableAll], by simp only [PyData.hasDictAll], by simp only [PyData.depthAll, Nat.le_refl], by simp only [PyData.leavesShortAll], by simp only [PyData.weightAll, Nat.le_refl]⟩
theorem FtA.cons {w k w' k' : Nat} {d : PyData} {ds : List PyData} (h : Ft w k d) (r : FtA w' k' ds) : FtA (w + 1 + w') (max k k') (d :: ds) := by
  refine ⟨?_, ?_, ?_, ?_, ?_⟩
  · simp only [PyData.showableAll, h.sh, r.sh, Bool.and_self]
  · simp only [PyData.hasDictAll, h.nd, r.nd, Bool.or_self]
  · simp only [PyData.depthAll]
    have := h.dp
    have := r.dp
    omega
  · simp only [PyData.leavesShortAll, h.lv, r.lv, Bool.and_self]
  · simp only [PyData.weightAll]
    have := h.wt
    have := r.wt
    omega
theorem Ft.list {w k : Nat} {ds : List PyData} (r : FtA w k ds) : Ft w (k + 1) (.list ds) :=
  ⟨by simp only [PyData.showable]; exact r.sh, by simp only [PyData.hasDict]; exact r.nd, by simp only [PyData.depth]; exact Nat.succ_le_succ r.dp, by simp only [PyData.leavesShort]; exact r.lv, by simp only [PyData.weight]; exact r.wt⟩
theorem Ft.tuple {w k : Nat} {ds : List PyData} (r : FtA w k ds) : Ft w (k + 1) (.tuple ds) :=
  ⟨by simp only [PyData.showable]; exact r.sh, by simp only [PyData.hasDict]; exact r.nd, by simp only [PyData.depth]; exact Nat.succ_le_succ r.dp, by simp only [PyData.leavesShort]; exact r.lv, by simp only [PyData.weight]; exact r.wt⟩
/-- what repr asks -/
structure Showy (d : PyData) : Prop where
  sh : d.showable = true
  nd : d.hasDict = false
  dp : d.depth ≤ 30
  ln : d.shown.length ≤ sizeLine
theorem Ft.showy {w k : Nat} {d : PyData} (h : Ft w k d) (hk : k ≤ 30 := by decide) (hw : w ≤ 16000 := by decide) : Showy d := by
  refine ⟨h.sh, h.nd, Nat.le_trans h.dp hk, ?_⟩
  have e := PyData.shown_le 1000 (by decide) d h.lv
  have e2 := h.wt
  have e3 : (1000 + 2) * d.weight ≤ 1002 * 16000 := Nat.mul_le_mul (Nat.le_refl _) (Nat.le_trans e2 hw)
  have e4 := sizeLine_eq
  omega
/-- a fraction -/
def tD (t : Int × Int) : PyData := .tuple [.int t.1, .int t.2]
theorem Ft.two {t : Int × Int} (h : Sm t.1) (k : Sm t.2) : Ft 1802 1 (tD t) := Ft.tuple (.cons (.int h) (.cons (.int k) .nil))
theorem dp2 {K : PySem.W.Frag} {H : Hp} {p : Addr} {x y : Int} (h : SqT K H p [.int x, .int y]) : Dp K H (.ref p) (tD (x, y)) := .tup h (.cons (.int x) (.cons (.int y) .nil))
theorem dp2' {K : PySem.W.Frag} {H : Hp} {p : Addr} {t : Int × Int} (h : H p = some (.tup [.int t.1, .int t.2])) : Dp K H (.ref p) (tD t) := .tup (.inl (.inl h)) (.cons (.int _) (.cons (.int _) .nil))
mutual
theorem Dp.same {K : PySem.W.Frag} {H H' : Hp} (s : Same H H') : ∀ (d : PyData) (v : V), Dp K H v d → Dp K H' v d
  | .none, _, h => by cases h; exact .non
  | .bool b, _, h => by cases h; exact .bl b
  | .int i, _, h => by cases h; exact .int i
  | .str x, _, h => by cases h; exact .str x
  | .list ds, _, h => by
    cases h with
    | lst h1 h2 => exact .lst (s.seq h1) (DpAll.same s ds _ h2)
  | .tuple ds, _, h => by
    cases h with
    | tup h1 h2 =>
      refine .tup ?_ (DpAll.same s ds _ h2)
      rcases h1 with (h | ⟨o, h⟩) | h
      · exact .inl (.inl (s _ _ h))
      · exact .inl (.inr ⟨o, s _ _ h⟩)
      · exact .inr h
  | .dict _, _, h => by cases h
theorem DpAll.same {K : PySem.W.Frag} {H H' : Hp} (s : Same H H') : ∀ (ds : List PyData) (vs : List V), DpAll K H vs ds → DpAll K H' vs ds
  | [], _, h => by cases h; exact .nil
  | d :: ds, _, h => by
    cases h with
    | cons h1 h2 => exact .cons (Dp.same s d _ h1) (DpAll.same s ds _ h2)
end
end Lf

set_option Elab.async false
set_option linter.all false
set_option maxRecDepth 100000
set_option maxHeartbeats 4000000
namespace Lf
open PySem PySem.Spec PyProof.Rows L2
theorem same_new {H : Hp} {p : Addr} {o : HO} (h : H p = none) : Same H (upd H p o) := fun b x e => by
  rw [upd_ne (ne_of_none e h)]
  exact e
theorem same_rfl {H : Hp} : Same H H := fun _ _ e => e
theorem bt_abs : bootBuiltins "abs" = some (.builtin "abs") := by decide +kernel
theorem bt_len : bootBuiltins "len" = some (.builtin "len") := by decide +kernel
theorem bt_max : bootBuiltins "max" = some (.builtin "max") := by decide +kernel
theorem bt_min : bootBuiltins "min" = some (.builtin "min") := by decide +kernel
theorem bt_divmod : bootBuiltins "divmod" = some (.builtin "divmod") := by decide +kernel
theorem bt_repr : bootBuiltins "repr" = some (.builtin "repr") := by decide +kernel
theorem bt_all : bootBuiltins "all" = some (.builtin "all") := by decide +kernel
theorem bt_int : bootBuiltins "int" = some (.type "int") := by decide +kernel
theorem bt_str : bootBuiltins "str" = some (.type "str") := by decide +kernel
/-- the built-in names that nothing of the text hides -/
structure Blt (mg : Str → Option Value) : Prop where
  abs : mg "abs" = none
  len : mg "len" = none
  max : mg "max" = none
  min : mg "min" = none
  divmod : mg "divmod" = none
  repr : mg "repr" = none
  all : mg "all" = none
  int : mg "int" = none
  str : mg "str" = none
  range : mg "range" = none
/-- an own class under ValueError -/
structure ExT (K : PySem.W.Frag) (mg : Str → Option Value) (x : Str) (C : Addr) : Prop where
  g : mg x = some (.ref C)
  x : PySem.W.excIn K C [.type "ValueError", .type "Exception", .type "BaseException", .type "object"] "ValueError.__new__" = true
  k : PySem.W.keepIn K (.ref C) = true
  b : PySem.W.subIn K (.ref C) (.type "BaseException") = some true
  t : PySem.W.typeIn K (.ref C) = some (.type "type")
  m : PySem.W.exmOne K (.ref C) (.ref C) = some true
section
variable {K : PySem.W.Frag} {H : Hp} {p : Addr} {x y : V} {Q : VK}
theorem ixT0 (h : SqT K H p [x, y]) (q : Q x H) : rIxT K (.ref p) (.int 0) H Q := ⟨p, _, 0, _, rfl, rfl, h, rfl, q⟩
theorem ixT1 (h : SqT K H p [x, y]) (q : Q y H) : rIxT K (.ref p) (.int 1) H Q := ⟨p, _, 1, _, rfl, rfl, h, rfl, q⟩
theorem ixL0 (h : SqL K H p [x, y]) (q : Q x H) : rIxL K (.ref p) (.int 0) H Q := ⟨p, _, 0, _, rfl, rfl, h, rfl, q⟩
theorem ixL1 (h : SqL K H p [x, y]) (q : Q y H) : rIxL K (.ref p) (.int 1) H Q := ⟨p, _, 1, _, rfl, rfl, h, rfl, q⟩
theorem tup2 {a b : V} (q : ∀ p, H p = none → Q (.ref p) (upd H p (.tup [a, b]))) : [a, b].length ≤ sizeLine ∧ ∀ p, H p = none → Q (.ref p) (upd H p (.tup [a, b])) := ⟨by show 2 ≤ sizeLine; decide, q⟩
theorem lst2 {a b : V} (q : ∀ p, H p = none → Q (.ref p) (upd H p (.lst [a, b]))) : [a, b].length ≤ sizeLine ∧ ∀ p, H p = none → Q (.ref p) (upd H p (.lst [a, b])) := ⟨by show 2 ≤ sizeLine; decide, q⟩
end
theorem sm_t {K : PySem.W.Frag} {H H' : Hp} {a : Addr} {xs : List V} (s : Same H H') (h : SqT K H a xs) : SqT K H' a xs := by
  rcases h with (h | ⟨o, h⟩) | h
  · exact .inl (.inl (s _ _ h))
  · exact .inl (.inr ⟨o, s _ _ h⟩)
  · exact .inr h
def topS (i : Nat) : Stmt := PySem.Challenge.pw_loafshares_k59_scales_refused.main.body.getD i (.Pass ⟨0, 0, 0, 0⟩)
section
variable {P : Program} {w : World} {K : PySem.W.Frag} {mg : Str → Option Value} {base : Heap}
/-! ### common -/
abbrev sCom : Stmt := topS 13
theorem scCom : FnScope ["one", "other"] ["one", "other"] (defScope sCom) := ⟨rfl, rfl, rfl, by decide +kernel, rfl, by decide +kernel, by decide +kernel⟩
def spCom : Sp := fun vs H Q _ => ∃ (a b : Int), vs = [.int a, .int b] ∧ 0 ≤ a ∧ 0 ≤ b ∧ Q (.int (Nat.gcd a.natAbs b.natAbs : Nat)) H
theorem ok_com {f : Addr} {fd : FuncData} (F : Fun K "common" "common" sCom f fd) : FnG P w K mg base CX0 1 f fd ["one", "other"] spCom := by
  refine Gfun F scCom (fun vs H Q E h => ?_) (fun cdv A outer s H vs Q E hg hr h => ?_)
  · obtain ⟨a, b, rfl, _⟩ := h
    rfl
  · obtain ⟨a, b, rfl, ha, hb, q⟩ := h
    refine ⟨_, pss_cons (ps_while PassesOwn.never (pt_cmpR op_ne (pv 1) pe_int (nomark _))
        (pss_one (ps_par (i := 0) (j := 1) rfl scCom.nd rfl rfl (by decide) rfl rfl (pa_cons (pv 1) (pa_cons (pe_op op_mod (pv 0) (pv 1)) pa_nil)) (by rfl))))
      (pss_one (ps_ret (pv 0))), ?_⟩
    refine while_by (fun σ H' => ∃ x y : Int, σ = [some (.int x), some (.int y)] ∧ 0 ≤ x ∧ 0 ≤ y ∧ Nat.gcd x.natAbs y.natAbs = Nat.gcd a.natAbs b.natAbs ∧ H' = H)
      (fun σ _ => match σ with | [_, some (.int y)] => y.toNat | _ => 0) ⟨a, b, rfl, ha, hb, rfl, rfl⟩ ?_ ?_
    · rintro σ H1 ⟨x, y, rfl, hx, hy, hg, rfl⟩
      refine ⟨_, rfl, rfl, _, rfl, ite2 (fun e => ?_) (fun e => ?_)⟩
      · have hy0 : y ≠ 0 := fun z => by
          rw [z] at e
          exact absurd e (by decide)
        have hyp : 0 < y := by omega
        refine ⟨_, rfl, _, rfl, _, rfl, x, y, rfl, rfl, hyp, _, _, rfl, ⟨y, x % y, rfl, hy, Int.emod_nonneg _ hy0, (gcd_step x y hyp hx).trans hg, rfl⟩, ?_⟩
        show (x % y).toNat < y.toNat
        have := Int.emod_lt_of_pos x hyp
        omega
      · have hy0 : y = 0 := by
          by_cases z : y = 0
          · exact z
          · exact absurd (by rw [decide_eq_false (fun q => z (V.int.inj q))]; rfl) e
        subst hy0
        refine ⟨_, rfl, ?_⟩
        rw [← hg, Int.natAbs_zero, Nat.gcd_zero_right] at q
        rw [show (x.natAbs : Int) = x by omega] at q
        exact q
    · rintro σ H1 Q1 Q2 hq ⟨u, hu, h1, h2, h3, h4⟩
      exact ⟨u, hu, h1, h2, h3, hq _ _ h4⟩
/-! ### fraction -/
abbrev sFrac : Stmt := topS 14
theorem scFrac : FnScope ["top", "bottom", "shared"] ["top", "bottom"] (defScope sFrac) := ⟨rfl, rfl, rfl, by decide +kernel, rfl, by decide +kernel, by decide +kernel⟩
/-- below 2 ^ 2000 -/
def Mid (n : Int) : Prop := n.natAbs < 2 ^ 2000
theorem Mid.log {n : Int} (h : Mid n) : n.natAbs.log2 < 9000 := Nat.lt_of_lt_of_le (PySem.Flt.log2_lt_of (by decide) h) (by decide)
/-- a new tuple of two ints -/
def Two (H : Hp) (Q : VK) (t : Int × Int) : Prop := ∀ H' p, Same H H' → H' p = some (.tup [.int t.1, .int t.2]) → Q (.ref p) H'
def spFrac (neg : Bool) : Sp := fun vs H Q _ => ∃ (n d : Int), vs = [.int n, .int d] ∧ d ≠ 0 ∧ (neg = false → 0 < d) ∧ Mid n ∧ Mid d ∧ Two H Q (low n d)
theorem gcd_mid {n d : Int} (h : d ≠ 0) (hd : Mid d) : Mid ((Nat.gcd n.natAbs d.natAbs : Nat) : Int) := by
  unfold Mid at hd ⊢
  rw [Int.natAbs_natCast]
  exact Nat.lt_of_le_of_lt (Nat.le_of_dvd (by omega) (Nat.gcd_dvd_right _ _)) hd
theorem abs_is (n : Int) : (if n < 0 then -n else n) = (n.natAbs : Int) := by
  split <;> omega
theorem ok_frac {j : Nat} {f : Addr} {fd : FuncData} {C : Addr} (neg : Bool) (R : Sp) (hR : ∀ n d H Q, d < 0 → spFrac neg [.int n, .int d] H Q E0 → R [.int (-n), .int (-d)] H Q E0) (M : Blt mg) (X : ExT K mg "NoFraction" C) (F : Fun K "fraction" "fraction" sFrac f fd)
    (C_common : Cal P w K mg base CX0 1 "common" ["one", "other"] spCom) (C_fraction : Cal P w K mg base CX0 (j + 1) "fraction" ["top", "bottom"] R) : FnG P w K mg base CX0 (j + 2) f fd ["top", "bottom"] (spFrac neg) := by
  refine Gfun F scFrac (fun vs H Q E h => ?_) (fun cdv A outer s H vs Q E hg hr h => ?_)
  · obtain ⟨a, b, rfl, _⟩ := h
    rfl
  · obtain ⟨n, d, rfl, hd, hneg, hn2, hd2, q⟩ := h
    refine ⟨_, pss_cons (ps_if (pt_cmpR op_eq (pv 1) pe_int (nomark _)) (pss_one (ps_raise rfl takes0 (pmk_own PySem.F.excBase_ValueError X.x X.g X.k (raises_own X.b X.t) rfl))) pss_nil)
      (pss_cons (ps_if (pt_cmpR op_lt (pv 1) pe_int (nomark _)) (pss_one (ps_ret (pe_g C_fraction (hr.mono (by omega)) hg (pa_cons (pe_un un_neg (pv 0)) (pa_cons (pe_un un_neg (pv 1)) pa_nil))))) pss_nil)
      (pss_cons (ps_set (i := 2) scFrac.nd rfl (.inl rfl) (pe_g C_common (hr.mono (by omega)) hg (pa_cons (pe_callB call_abs rfl M.abs bt_abs (pa_cons (pv 0) pa_nil)) (pa_cons (pv 1) pa_nil))))
      (pss_one (ps_ret (pe_tup (pa_cons (pe_op op_fdivN (pv 0) (pv 2)) (pa_cons (pe_op op_fdivN (pv 1) (pv 2)) pa_nil))))))), ?_⟩
    refine ⟨_, rfl, rfl, _, rfl, ite2 (fun e => ?_) (fun _ => ?_)⟩
    · exact absurd (V.int.inj (of_decide_eq_true e)) hd
    refine ⟨_, rfl, _, _, rfl, rfl, _, rfl, ite2 (fun e => ?_) (fun e => ?_)⟩
    · have e' : d < 0 := of_decide_eq_true e
      refine ⟨_, rfl, _, rfl, _, rfl, _, rfl, ?_⟩
      exact hR n d H Q e' ⟨n, d, rfl, hd, hneg, hn2, hd2, q⟩
    · have e' : 0 < d := by
        have : ¬ d < 0 := fun z => e (decide_eq_true z)
        omega
      refine ⟨_, rfl, _, rfl, _, rfl, _, d, rfl, ?_, Int.le_of_lt e', ?_⟩
      · rw [abs_is]
        omega
      · rw [abs_is, Int.natAbs_natCast]
        have hgz : ((Nat.gcd n.natAbs d.natAbs : Nat) : Int) ≠ 0 := by
          have := gcd_pos (n := n) hd
          omega
        have hm : CDivN n ((Nat.gcd n.natAbs d.natAbs : Nat) : Int) := ⟨hgz, (gcd_mid hd hd2).log⟩
        refine ⟨_, rfl, _, rfl, n, _, rfl, rfl, hm, _, rfl, _, rfl, d, _, rfl, rfl, hm, tup2 fun p hp => ?_⟩
        refine q _ p (same_new hp) ?_
        have := low_fdiv_pos (n := n) (d := d) e'
        rw [← this]
        exact upd_same
end
end Lf

set_option Elab.async false
set_option linter.all false
set_option maxRecDepth 100000
set_option maxHeartbeats 0
namespace Lf
open PySem PySem.Spec PyProof.Rows L2
abbrev s_plus : Stmt := topS 15
abbrev s_minus : Stmt := topS 16
abbrev s_times : Stmt := topS 17
abbrev s_over : Stmt := topS 18
abbrev s_is_less : Stmt := topS 20
abbrev s_is_whole : Stmt := topS 12
abbrev s__law_is_whole : Stmt := topS 50
abbrev s_is_fraction : Stmt := topS 22
abbrev s__law_cell : Stmt := topS 41
abbrev s__law_pot : Stmt := topS 42
abbrev s__law_draw : Stmt := topS 43
abbrev s__law_low : Stmt := topS 44
abbrev s_together : Stmt := topS 19
abbrev s_is_above_0 : Stmt := topS 23
abbrev s_are_weights : Stmt := topS 26
abbrev s_floor_of : Stmt := topS 21
abbrev s_many_steps : Stmt := topS 28
abbrev s_aims : Stmt := topS 29
abbrev s_above_floor : Stmt := topS 27
abbrev s_how_many_more : Stmt := topS 30
abbrev s_is_sooner : Stmt := topS 31
abbrev s_are_sooner : Stmt := topS 32
abbrev s_nearest : Stmt := topS 33
abbrev s_worst_of : Stmt := topS 34
abbrev s_rounded : Stmt := topS 35
abbrev s_paper : Stmt := topS 36
abbrev s_are_places : Stmt := topS 37
abbrev s_is_like_a_paper : Stmt := topS 38
abbrev s_shows : Stmt := topS 39
abbrev s__law_sum : Stmt := topS 45
abbrev s__law_total : Stmt := topS 46
abbrev s__law_some : Stmt := topS 47
abbrev s__law_odd_weight : Stmt := topS 48
abbrev s__law_odd_weights : Stmt := topS 49
abbrev s__law_is_weight : Stmt := topS 51
abbrev s__law_due : Stmt := topS 52
abbrev s__law_told : Stmt := topS 53
abbrev s_law : Stmt := topS 54
def FILE : Str := "/claim/cut.py"
def hdFa_0 : List Fct := [fun K => (He.Fa.free "isinstance").ok K,
  fun K => (He.Fa.free "bool").ok K,
  fun K => (He.Fa.free "tuple").ok K,
  fun K => decide (PySem.W.specialIn K (.builtin "object.__class__") "__get__" = some (some (.builtin "getset_descriptor.__get__"))),
  fun K => decide (PySem.W.takesIn K (.builtin "object.__class__") = some true),
  fun K => (He.Fa.free "list").ok K,
  fun K => (He.Fa.free "set").ok K,
  fun K => (He.Fa.glo "NONE_OF_IT").ok K,
  fun K => He.tupB K "NONE_OF_IT" [.int 0, .int 1],
  fun K => (He.Fa.glo "ALL_OF_IT").ok K,
  fun K => He.tupB K "ALL_OF_IT" [.int 1, .int 1],
  fun K => (He.Fa.free "sum").ok K,
  fun K => (He.Fa.free "zip").ok K,
  fun K => (He.Fa.free "any").ok K,
  fun K => (He.Fa.free "enumerate").ok K,
  fun K => (He.Fa.exc "TooLittle").ok K,
  fun K => (He.Fa.exm "TooLittle" "TooLittle" true).ok K,
  fun K => excB K (He.ga K "TooLittle"),
  fun K => (He.Fa.glo "TooLittle").ok K,
  fun K => (He.Fa.free "int").ok K,
  fun K => (He.Fa.glo "LoafError").ok K,
  fun K => (He.Fa.free "ValueError").ok K,
  fun K => (He.Fa.exc "NoWeights").ok K,
  fun K => (He.Fa.exm "NoWeights" "NoWeights" true).ok K,
  fun K => excB K (He.ga K "NoWeights"),
  fun K => (He.Fa.glo "NoWeights").ok K,
  fun K => (He.Fa.exc "NoStep").ok K,
  fun K => (He.Fa.exm "NoStep" "NoStep" true).ok K,
  fun K => excB K (He.ga K "NoStep"),
  fun K => (He.Fa.glo "NoStep").ok K,
  fun K => (He.Fa.glo "NoCount").ok K,
  fun K => (He.Fa.glo "NoFraction").ok K,
  fun K => (He.Fa.glo "NoName").ok K,
  fun K => (He.Fa.glo "NoWeight").ok K,
  fun K => decide (PySem.W.kitAny K (.ref (He.ga K "NoWeights")) [.ref (He.ga K "NoCount"), .ref (He.ga K "NoFraction"), .ref (He.ga K "NoName"), .ref (He.ga K "NoWeight")] = some false),
  fun K => decide (PySem.W.kitOne K (.ref (He.ga K "NoWeights")) (.type "ValueError") = some true),
  fun K => decide (PySem.W.exmOne K (.ref (He.ga K "NoWeights")) (.ref (He.ga K "LoafError")) = some true),
  fun K => decide (PySem.W.kitOne K (.ref (He.ga K "NoWeights")) (.ref (He.ga K "NoWeights")) = some true),
  fun K => decide (PySem.W.kitOne K (.ref (He.ga K "NoWeights")) (.ref (He.ga K "NoStep")) = some false),
  fun K => decide (PySem.W.kitOne K (.ref (He.ga K "NoWeights")) (.ref (He.ga K "TooLittle")) = some false),
  fun K => decide (PySem.W.kitAny K (.ref (He.ga K "NoStep")) [.ref (He.ga K "NoCount"), .ref (He.ga K "NoFraction"), .ref (He.ga K "NoName"), .ref (He.ga K "NoWeight")] = some false),
  fun K => decide (PySem.W.kitOne K (.ref (He.ga K "NoStep")) (.type "ValueError") = some true),
  fun K => decide (PySem.W.exmOne K (.ref (He.ga K "NoStep")) (.ref (He.ga K "LoafError")) = some true),
  fun K => decide (PySem.W.kitOne K (.ref (He.ga K "NoStep")) (.ref (He.ga K "NoWeights")) = some false),
  fun K => decide (PySem.W.kitOne K (.ref (He.ga K "NoStep")) (.ref (He.ga K "NoStep")) = some true),
  fun K => decide (PySem.W.kitOne K (.ref (He.ga K "NoStep")) (.ref (He.ga K "TooLittle")) = some false),
  fun K => decide (PySem.W.kitAny K (.ref (He.ga K "TooLittle")) [.ref (He.ga K "NoCount"), .ref (He.ga K "NoFraction"), .ref (He.ga K "NoName"), .ref (He.ga K "NoWeight")] = some false),
  fun K => decide (PySem.W.kitOne K (.ref (He.ga K "TooLittle")) (.type "ValueError") = some true),
  fun K => decide (PySem.W.exmOne K (.ref (He.ga K "TooLittle")) (.ref (He.ga K "LoafError")) = some true),
  fun K => decide (PySem.W.kitOne K (.ref (He.ga K "TooLittle")) (.ref (He.ga K "NoWeights")) = some false),
  fun K => decide (PySem.W.kitOne K (.ref (He.ga K "TooLittle")) (.ref (He.ga K "NoStep")) = some false),
  fun K => decide (PySem.W.kitOne K (.ref (He.ga K "TooLittle")) (.ref (He.ga K "TooLittle")) = some true)]
def hdFa_1 : List Fct := [fun K => (He.Fa.free "abs").ok K,
  fun K => (He.Fa.free "len").ok K,
  fun K => (He.Fa.free "max").ok K,
  fun K => (He.Fa.free "min").ok K,
  fun K => (He.Fa.free "divmod").ok K,
  fun K => (He.Fa.free "repr").ok K,
  fun K => (He.Fa.free "all").ok K,
  fun K => (He.Fa.free "str").ok K,
  fun K => (He.Fa.free "range").ok K,
  fun K => (He.Fa.exc "NoFraction").ok K,
  fun K => (He.Fa.exm "NoFraction" "NoFraction" true).ok K,
  fun K => (He.Fa.int "MOST_WEIGHTS" 12).ok K,
  fun K => (He.Fa.glo "is_whole").ok K,
  fun K => (He.Fa.glo "common").ok K,
  fun K => (He.Fa.glo "fraction").ok K,
  fun K => (He.Fa.glo "plus").ok K,
  fun K => (He.Fa.glo "minus").ok K,
  fun K => (He.Fa.glo "times").ok K,
  fun K => (He.Fa.glo "over").ok K,
  fun K => (He.Fa.glo "together").ok K,
  fun K => (He.Fa.glo "is_less").ok K,
  fun K => (He.Fa.glo "floor_of").ok K,
  fun K => (He.Fa.glo "is_fraction").ok K,
  fun K => (He.Fa.glo "is_above_0").ok K,
  fun K => (He.Fa.glo "are_weights").ok K,
  fun K => (He.Fa.glo "above_floor").ok K,
  fun K => (He.Fa.glo "many_steps").ok K,
  fun K => (He.Fa.glo "aims").ok K,
  fun K => (He.Fa.glo "how_many_more").ok K,
  fun K => (He.Fa.glo "is_sooner").ok K,
  fun K => (He.Fa.glo "are_sooner").ok K,
  fun K => (He.Fa.glo "nearest").ok K,
  fun K => (He.Fa.glo "worst_of").ok K,
  fun K => (He.Fa.glo "rounded").ok K,
  fun K => (He.Fa.glo "paper").ok K,
  fun K => (He.Fa.glo "are_places").ok K,
  fun K => (He.Fa.glo "is_like_a_paper").ok K,
  fun K => (He.Fa.glo "shows").ok K,
  fun K => (He.Fa.glo "_law_cell").ok K,
  fun K => (He.Fa.glo "_law_pot").ok K,
  fun K => (He.Fa.glo "_law_draw").ok K,
  fun K => (He.Fa.glo "_law_low").ok K,
  fun K => (He.Fa.glo "_law_sum").ok K,
  fun K => (He.Fa.glo "_law_total").ok K,
  fun K => (He.Fa.glo "_law_some").ok K,
  fun K => (He.Fa.glo "_law_odd_weight").ok K,
  fun K => (He.Fa.glo "_law_odd_weights").ok K,
  fun K => (He.Fa.glo "_law_is_whole").ok K,
  fun K => (He.Fa.glo "_law_is_weight").ok K,
  fun K => (He.Fa.glo "_law_due").ok K,
  fun K => (He.Fa.glo "_law_told").ok K,
  fun K => (He.Fa.glo "law").ok K]
def hdFa : List Fct := hdFa_0 ++ hdFa_1
def hdFn_0 : List DefY := [⟨⟨("is_whole", none), "is_whole", "is_whole", defArgs s_is_whole, defBody s_is_whole, defScope s_is_whole, [], []⟩, []⟩,
  ⟨⟨("common", none), "common", "common", defArgs sCom, defBody sCom, defScope sCom, [], []⟩, []⟩,
  ⟨⟨("fraction", none), "fraction", "fraction", defArgs sFrac, defBody sFrac, defScope sFrac, [], []⟩, []⟩,
  ⟨⟨("plus", none), "plus", "plus", defArgs s_plus, defBody s_plus, defScope s_plus, [], []⟩, []⟩,
  ⟨⟨("minus", none), "minus", "minus", defArgs s_minus, defBody s_minus, defScope s_minus, [], []⟩, []⟩,
  ⟨⟨("times", none), "times", "times", defArgs s_times, defBody s_times, defScope s_times, [], []⟩, []⟩,
  ⟨⟨("over", none), "over", "over", defArgs s_over, defBody s_over, defScope s_over, [], []⟩, []⟩,
  ⟨⟨("together", none), "together", "together", defArgs s_together, defBody s_together, defScope s_together, [], []⟩, []⟩,
  ⟨⟨("is_less", none), "is_less", "is_less", defArgs s_is_less, defBody s_is_less, defScope s_is_less, [], []⟩, []⟩,
  ⟨⟨("floor_of", none), "floor_of", "floor_of", defArgs s_floor_of, defBody s_floor_of, defScope s_floor_of, [], []⟩, []⟩,
  ⟨⟨("is_fraction", none), "is_fraction", "is_fraction", defArgs s_is_fraction, defBody s_is_fraction, defScope s_is_fraction, [], []⟩, []⟩,
  ⟨⟨("is_above_0", none), "is_above_0", "is_above_0", defArgs s_is_above_0, defBody s_is_above_0, defScope s_is_above_0, [], []⟩, []⟩,
  ⟨⟨("are_weights", none), "are_weights", "are_weights", defArgs s_are_weights, defBody s_are_weights, defScope s_are_weights, [], []⟩, []⟩,
  ⟨⟨("above_floor", none), "above_floor", "above_floor", defArgs s_above_floor, defBody s_above_floor, defScope s_above_floor, [], []⟩, []⟩,
  ⟨⟨("many_steps", none), "many_steps", "many_steps", defArgs s_many_steps, defBody s_many_steps, defScope s_many_steps, [], []⟩, []⟩,
  ⟨⟨("aims", none), "aims", "aims", defArgs s_aims, defBody s_aims, defScope s_aims, [], []⟩, []⟩,
  ⟨⟨("how_many_more", none), "how_many_more", "how_many_more", defArgs s_how_many_more, defBody s_how_many_more, defScope s_how_many_more, [], []⟩, []⟩,
  ⟨⟨("is_sooner", none), "is_sooner", "is_sooner", defArgs s_is_sooner, defBody s_is_sooner, defScope s_is_sooner, [], []⟩, []⟩,
  ⟨⟨("are_sooner", none), "are_sooner", "are_sooner", defArgs s_are_sooner, defBody s_are_sooner, defScope s_are_sooner, [], []⟩, []⟩,
  ⟨⟨("nearest", none), "nearest", "nearest", defArgs s_nearest, defBody s_nearest, defScope s_nearest, [], []⟩, []⟩]
def hdFn_1 : List DefY := [⟨⟨("worst_of", none), "worst_of", "worst_of", defArgs s_worst_of, defBody s_worst_of, defScope s_worst_of, [], []⟩, []⟩,
  ⟨⟨("rounded", none), "rounded", "rounded", defArgs s_rounded, defBody s_rounded, defScope s_rounded, [], []⟩, []⟩,
  ⟨⟨("paper", none), "paper", "paper", defArgs s_paper, defBody s_paper, defScope s_paper, [], []⟩, []⟩,
  ⟨⟨("are_places", none), "are_places", "are_places", defArgs s_are_places, defBody s_are_places, defScope s_are_places, [], []⟩, []⟩,
  ⟨⟨("is_like_a_paper", none), "is_like_a_paper", "is_like_a_paper", defArgs s_is_like_a_paper, defBody s_is_like_a_paper, defScope s_is_like_a_paper, [], []⟩, []⟩,
  ⟨⟨("shows", none), "shows", "shows", defArgs s_shows, defBody s_shows, defScope s_shows, [], []⟩, []⟩,
  ⟨⟨("_law_cell", none), "_law_cell", "_law_cell", defArgs s__law_cell, defBody s__law_cell, defScope s__law_cell, [], []⟩, []⟩,
  ⟨⟨("_law_pot", none), "_law_pot", "_law_pot", defArgs s__law_pot, defBody s__law_pot, defScope s__law_pot, [], []⟩, []⟩,
  ⟨⟨("_law_draw", none), "_law_draw", "_law_draw", defArgs s__law_draw, defBody s__law_draw, defScope s__law_draw, [], []⟩, []⟩,
  ⟨⟨("_law_low", none), "_law_low", "_law_low", defArgs s__law_low, defBody s__law_low, defScope s__law_low, [], []⟩, []⟩,
  ⟨⟨("_law_sum", none), "_law_sum", "_law_sum", defArgs s__law_sum, defBody s__law_sum, defScope s__law_sum, [], []⟩, []⟩,
  ⟨⟨("_law_total", none), "_law_total", "_law_total", defArgs s__law_total, defBody s__law_total, defScope s__law_total, [], []⟩, []⟩,
  ⟨⟨("_law_some", none), "_law_some", "_law_some", defArgs s__law_some, defBody s__law_some, defScope s__law_some, [], []⟩, []⟩,
  ⟨⟨("_law_odd_weight", none), "_law_odd_weight", "_law_odd_weight", defArgs s__law_odd_weight, defBody s__law_odd_weight, defScope s__law_odd_weight, [], []⟩, []⟩,
  ⟨⟨("_law_odd_weights", none), "_law_odd_weights", "_law_odd_weights", defArgs s__law_odd_weights, defBody s__law_odd_weights, defScope s__law_odd_weights, [], []⟩, []⟩,
  ⟨⟨("_law_is_whole", none), "_law_is_whole", "_law_is_whole", defArgs s__law_is_whole, defBody s__law_is_whole, defScope s__law_is_whole, [], []⟩, []⟩,
  ⟨⟨("_law_is_weight", none), "_law_is_weight", "_law_is_weight", defArgs s__law_is_weight, defBody s__law_is_weight, defScope s__law_is_weight, [], []⟩, []⟩,
  ⟨⟨("_law_due", none), "_law_due", "_law_due", defArgs s__law_due, defBody s__law_due, defScope s__law_due, [], []⟩, []⟩,
  ⟨⟨("_law_told", none), "_law_told", "_law_told", defArgs s__law_told, defBody s__law_told, defScope s__law_told, [], []⟩, []⟩,
  ⟨⟨("law", none), "law", "law", defArgs s_law, defBody s_law, defScope s_law, [], []⟩, []⟩]
def hdFn : List DefY := hdFn_0 ++ hdFn_1
def hdLoose_0 : List Str := ["LoafError",
  "NoFraction",
  "NoName",
  "NoWeight",
  "NoWeights",
  "NoStep",
  "TooLittle",
  "NoCount",
  "NONE_OF_IT",
  "ALL_OF_IT",
  "is_whole",
  "common",
  "fraction",
  "plus",
  "minus",
  "times",
  "over",
  "together",
  "is_less",
  "floor_of",
  "is_fraction",
  "is_above_0",
  "MOST_WEIGHTS",
  "are_weights",
  "above_floor",
  "many_steps",
  "aims",
  "how_many_more",
  "is_sooner",
  "are_sooner"]
def hdLoose_1 : List Str := ["nearest",
  "worst_of",
  "rounded",
  "paper",
  "are_places",
  "is_like_a_paper",
  "shows",
  "_law_cell",
  "_law_pot",
  "_law_draw",
  "_law_low",
  "_law_sum",
  "_law_total",
  "_law_some",
  "_law_odd_weight",
  "_law_odd_weights",
  "_law_is_whole",
  "_law_is_weight",
  "_law_due",
  "_law_told"]
def hdLoose : List Str := hdLoose_0 ++ hdLoose_1
abbrev hdR : PySem.W.OpenRow := PySem.W.OpenLaw.row PySem.Challenge.rw_loafshares_k59_scales_refused
abbrev hdK : PySem.W.Hook := hookB 5 hdFa hdFn
def hdOb (s : PySem.W.SharedT) : AlY := obsB 5 hdFa hdFn (HandSHeadRun.getT s)
theorem hdOb_eq (s : PySem.W.SharedT) : hdOb s = hdK.obs s.abs := obsB_eq (HandSHeadRun.getT_eq s)
theorem hdLooks (w : World) : RunLooksY hdR (PySem.W.view hdR.prog [54]) 20000 hdLoose w := by
  intro os
  kernel_rfl
theorem hdPart_0 (w : World) : RunPartZ hdR 5 20000 hdFa_0 hdFn_0 w := by
  intro os
  kernel_rfl
theorem hdPart_1 (w : World) : RunPartZ hdR 5 20000 hdFa_1 hdFn_1 w := by
  intro os
  kernel_rfl
theorem hdRun (w : World) : HandSHeadRun.RunEq hdR (PySem.W.view hdR.prog [54]) hdK hdOb 20000 hdLoose w := runB_of (hdLooks w) (((hdPart_0 w).b).app (hdPart_1 w).b)
end Lf

set_option Elab.async false
set_option linter.all false
set_option maxRecDepth 100000
set_option maxHeartbeats 4000000
set_option exponentiation.threshold 3000
namespace Lf
open PySem PySem.Spec PyProof.Rows L2
theorem Sm.mid {n : Int} (h : Sm n) : Mid n := Nat.lt_of_lt_of_le h (Nat.pow_le_pow_right (by decide) (by decide))
theorem Sm.mulW {a b : Int} (ha : Sm a) (hb : Sm b) : CMulW a b := by
  have := ha.log
  have := hb.log
  unfold CMulW
  omega
theorem Sm.prod {a b : Int} (ha : Sm a) (hb : Sm b) : (a * b).natAbs < 2 ^ 1800 := by
  rw [Int.natAbs_mul, show (2 : Nat) ^ 1800 = 2 ^ 900 * 2 ^ 900 by rw [← Nat.pow_add]]
  exact Nat.mul_lt_mul'' ha hb
theorem Sm.mul {a b : Int} (ha : Sm a) (hb : Sm b) : Mid (a * b) := Nat.lt_of_lt_of_le (Sm.prod ha hb) (Nat.pow_le_pow_right (by decide) (by decide))
theorem two_pow : (2 : Nat) ^ 1800 + 2 ^ 1800 = 2 ^ 1801 := (Nat.two_pow_succ 1800).symm
theorem Sm.add {a b c d : Int} (ha : Sm a) (hb : Sm b) (hc : Sm c) (hd : Sm d) : Mid (a * b + c * d) := by
  have h1 := Sm.prod ha hb
  have h2 := Sm.prod hc hd
  have h3 := Int.natAbs_add_le (a * b) (c * d)
  have h4 : (2 : Nat) ^ 1801 ≤ 2 ^ 2000 := Nat.pow_le_pow_right (by decide) (by decide)
  have h5 := two_pow
  unfold Mid
  omega
theorem Sm.sub {a b c d : Int} (ha : Sm a) (hb : Sm b) (hc : Sm c) (hd : Sm d) : Mid (a * b - c * d) := by
  have h1 := Sm.prod ha hb
  have h2 := Sm.prod hc hd
  have h3 := Int.natAbs_sub_le (a * b) (c * d)
  have h4 : (2 : Nat) ^ 1801 ≤ 2 ^ 2000 := Nat.pow_le_pow_right (by decide) (by decide)
  have h5 := two_pow
  unfold Mid
  omega
/-- two handed fractions -/
structure Pr (K : PySem.W.Frag) (H : Hp) (vs : List V) (a b c d : Int) : Prop where
  ex : ∃ p q, vs = [.ref p, .ref q] ∧ SqT K H p [.int a, .int b] ∧ SqT K H q [.int c, .int d]
  hb : b ≠ 0
  hd : d ≠ 0
  a1 : Sm a
  b1 : Sm b
  c1 : Sm c
  d1 : Sm d
theorem mul_ne {a b : Int} (ha : a ≠ 0) (hb : b ≠ 0) : a * b ≠ 0 := Int.mul_ne_zero ha hb
section
variable {P : Program} {w : World} {K : PySem.W.Frag} {mg : Str → Option Value} {base : Heap}
/-! ### fraction of a bottom 0 -/
def spFrac0 (C : Addr) : Sp := fun vs H Q E => ∃ n : Int, vs = [.int n, .int 0] ∧ E (.ref C) none H
theorem ok_frac0 {f : Addr} {fd : FuncData} {C : Addr} {R : Sp} (M : Blt mg) (X : ExT K mg "NoFraction" C) (F : Fun K "fraction" "fraction" sFrac f fd)
    (C_common : Cal P w K mg base CX0 1 "common" ["one", "other"] spCom) (C_fraction : Cal P w K mg base CX0 2 "fraction" ["top", "bottom"] R) : FnG P w K mg base (L2.CX P w) 3 f fd ["top", "bottom"] (spFrac0 C) := by
  refine GfunX F scFrac (fun vs H Q E h => ?_) (fun cdv A outer s H vs Q E hg hr h => ?_)
  · obtain ⟨n, rfl, _⟩ := h
    rfl
  · obtain ⟨n, rfl, q⟩ := h
    refine ⟨_, pss_cons (ps_if (pt_cmpR op_eq (pv 1) pe_int (nomark _)) (pss_one (ps_raise rfl (takes_of rfl rfl rfl rfl) (pmk_own PySem.F.excBase_ValueError X.x X.g X.k (raises_own X.b X.t) rfl))) pss_nil)
      (pss_cons (ps_if (pt_cmpR op_lt (pv 1) pe_int (nomark _)) (pss_one (ps_ret (pe_g C_fraction (hr.mono (by decide)) hg (pa_cons (pe_un un_neg (pv 0)) (pa_cons (pe_un un_neg (pv 1)) pa_nil))))) pss_nil)
      (pss_cons (ps_set (i := 2) scFrac.nd rfl (.inl rfl) (pe_g C_common (hr.mono (by decide)) hg (pa_cons (pe_callB call_abs rfl M.abs bt_abs (pa_cons (pv 0) pa_nil)) (pa_cons (pv 1) pa_nil))))
      (pss_one (ps_ret (pe_tup (pa_cons (pe_op op_fdivN (pv 0) (pv 2)) (pa_cons (pe_op op_fdivN (pv 1) (pv 2)) pa_nil))))))), ?_⟩
    exact ⟨_, rfl, rfl, _, rfl, iteT q⟩

/-! ### plus -/
theorem sc_plus : FnScope ["one", "other"] ["one", "other"] (defScope s_plus) := ⟨rfl, rfl, rfl, by decide +kernel, rfl, by decide +kernel, by decide +kernel⟩
def sp_plus (K : PySem.W.Frag) : Sp := fun vs H Q _ => ∃ a b c d : Int, Pr K H vs a b c d ∧ Two H Q (low (a * d + c * b) (b * d))
theorem ok_plus {f : Addr} {fd : FuncData} (F : Fun K "plus" "plus" s_plus f fd) (C_fraction : Cal P w K mg base CX0 4 "fraction" ["top", "bottom"] (spFrac true)) : FnG P w K mg base CX0 5 f fd ["one", "other"] (sp_plus K) := by
  refine Gfun F sc_plus (fun vs H Q E h => ?_) (fun cdv A outer s H vs Q E hg hr h => ?_)
  · obtain ⟨a, b, c, d, h, _⟩ := h
    obtain ⟨p, q, rfl, _⟩ := h.ex
    rfl
  · obtain ⟨a, b, c, d, h, k⟩ := h
    obtain ⟨p, q, rfl, hp, hq⟩ := h.ex
    refine ⟨_, (pss_one (ps_ret (pe_g C_fraction (hr.mono (by decide)) hg (pa_cons (pe_op op_add (pe_op op_mulW (pe_ix ix_tup (pv 0) pe_int (fun _ _ => rfl)) (pe_ix ix_tup (pv 1) pe_int (fun _ _ => rfl))) (pe_op op_mulW (pe_ix ix_tup (pv 1) pe_int (fun _ _ => rfl)) (pe_ix ix_tup (pv 0) pe_int (fun _ _ => rfl)))) (pa_cons (pe_op op_mulW (pe_ix ix_tup (pv 0) pe_int (fun _ _ => rfl)) (pe_ix ix_tup (pv 1) pe_int (fun _ _ => rfl))) pa_nil))))), ?_⟩
    refine ⟨_, rfl, p, _, _, _, rfl, rfl, hp, rfl, _, rfl, q, _, _, _, rfl, rfl, hq, rfl, _, _, rfl, rfl, Sm.mulW h.a1 h.d1, ?_⟩
    refine ⟨_, rfl, q, _, _, _, rfl, rfl, hq, rfl, _, rfl, p, _, _, _, rfl, rfl, hp, rfl, _, _, rfl, rfl, Sm.mulW h.c1 h.b1, ?_⟩
    refine ⟨_, _, rfl, rfl, ?_⟩
    refine ⟨_, rfl, p, _, _, _, rfl, rfl, hp, rfl, _, rfl, q, _, _, _, rfl, rfl, hq, rfl, _, _, rfl, rfl, Sm.mulW h.b1 h.d1, ?_⟩
    exact ⟨_, _, rfl, mul_ne h.hb h.hd, (fun z => Bool.noConfusion z), Sm.add h.a1 h.d1 h.c1 h.b1, Sm.mul h.b1 h.d1, k⟩

/-! ### minus -/
theorem sc_minus : FnScope ["one", "other"] ["one", "other"] (defScope s_minus) := ⟨rfl, rfl, rfl, by decide +kernel, rfl, by decide +kernel, by decide +kernel⟩
def sp_minus (K : PySem.W.Frag) : Sp := fun vs H Q _ => ∃ a b c d : Int, Pr K H vs a b c d ∧ Two H Q (low (a * d - c * b) (b * d))
theorem ok_minus {f : Addr} {fd : FuncData} (F : Fun K "minus" "minus" s_minus f fd) (C_fraction : Cal P w K mg base CX0 4 "fraction" ["top", "bottom"] (spFrac true)) : FnG P w K mg base CX0 5 f fd ["one", "other"] (sp_minus K) := by
  refine Gfun F sc_minus (fun vs H Q E h => ?_) (fun cdv A outer s H vs Q E hg hr h => ?_)
  · obtain ⟨a, b, c, d, h, _⟩ := h
    obtain ⟨p, q, rfl, _⟩ := h.ex
    rfl
  · obtain ⟨a, b, c, d, h, k⟩ := h
    obtain ⟨p, q, rfl, hp, hq⟩ := h.ex
    refine ⟨_, (pss_one (ps_ret (pe_g C_fraction (hr.mono (by decide)) hg (pa_cons (pe_op op_sub (pe_op op_mulW (pe_ix ix_tup (pv 0) pe_int (fun _ _ => rfl)) (pe_ix ix_tup (pv 1) pe_int (fun _ _ => rfl))) (pe_op op_mulW (pe_ix ix_tup (pv 1) pe_int (fun _ _ => rfl)) (pe_ix ix_tup (pv 0) pe_int (fun _ _ => rfl)))) (pa_cons (pe_op op_mulW (pe_ix ix_tup (pv 0) pe_int (fun _ _ => rfl)) (pe_ix ix_tup (pv 1) pe_int (fun _ _ => rfl))) pa_nil))))), ?_⟩
    refine ⟨_, rfl, p, _, _, _, rfl, rfl, hp, rfl, _, rfl, q, _, _, _, rfl, rfl, hq, rfl, _, _, rfl, rfl, Sm.mulW h.a1 h.d1, ?_⟩
    refine ⟨_, rfl, q, _, _, _, rfl, rfl, hq, rfl, _, rfl, p, _, _, _, rfl, rfl, hp, rfl, _, _, rfl, rfl, Sm.mulW h.c1 h.b1, ?_⟩
    refine ⟨_, _, rfl, rfl, ?_⟩
    refine ⟨_, rfl, p, _, _, _, rfl, rfl, hp, rfl, _, rfl, q, _, _, _, rfl, rfl, hq, rfl, _, _, rfl, rfl, Sm.mulW h.b1 h.d1, ?_⟩
    exact ⟨_, _, rfl, mul_ne h.hb h.hd, (fun z => Bool.noConfusion z), Sm.sub h.a1 h.d1 h.c1 h.b1, Sm.mul h.b1 h.d1, k⟩

/-! ### times -/
theorem sc_times : FnScope ["one", "other"] ["one", "other"] (defScope s_times) := ⟨rfl, rfl, rfl, by decide +kernel, rfl, by decide +kernel, by decide +kernel⟩
def sp_times (K : PySem.W.Frag) : Sp := fun vs H Q _ => ∃ a b c d : Int, Pr K H vs a b c d ∧ Two H Q (low (a * c) (b * d))
theorem ok_times {f : Addr} {fd : FuncData} (F : Fun K "times" "times" s_times f fd) (C_fraction : Cal P w K mg base CX0 4 "fraction" ["top", "bottom"] (spFrac true)) : FnG P w K mg base CX0 5 f fd ["one", "other"] (sp_times K) := by
  refine Gfun F sc_times (fun vs H Q E h => ?_) (fun cdv A outer s H vs Q E hg hr h => ?_)
  · obtain ⟨a, b, c, d, h, _⟩ := h
    obtain ⟨p, q, rfl, _⟩ := h.ex
    rfl
  · obtain ⟨a, b, c, d, h, k⟩ := h
    obtain ⟨p, q, rfl, hp, hq⟩ := h.ex
    refine ⟨_, (pss_one (ps_ret (pe_g C_fraction (hr.mono (by decide)) hg (pa_cons (pe_op op_mulW (pe_ix ix_tup (pv 0) pe_int (fun _ _ => rfl)) (pe_ix ix_tup (pv 1) pe_int (fun _ _ => rfl))) (pa_cons (pe_op op_mulW (pe_ix ix_tup (pv 0) pe_int (fun _ _ => rfl)) (pe_ix ix_tup (pv 1) pe_int (fun _ _ => rfl))) pa_nil))))), ?_⟩
    refine ⟨_, rfl, p, _, _, _, rfl, rfl, hp, rfl, _, rfl, q, _, _, _, rfl, rfl, hq, rfl, _, _, rfl, rfl, Sm.mulW h.a1 h.c1, ?_⟩
    refine ⟨_, rfl, p, _, _, _, rfl, rfl, hp, rfl, _, rfl, q, _, _, _, rfl, rfl, hq, rfl, _, _, rfl, rfl, Sm.mulW h.b1 h.d1, ?_⟩
    exact ⟨_, _, rfl, mul_ne h.hb h.hd, (fun z => Bool.noConfusion z), Sm.mul h.a1 h.c1, Sm.mul h.b1 h.d1, k⟩

/-! ### over -/
theorem sc_over : FnScope ["one", "other"] ["one", "other"] (defScope s_over) := ⟨rfl, rfl, rfl, by decide +kernel, rfl, by decide +kernel, by decide +kernel⟩
def sp_over (K : PySem.W.Frag) : Sp := fun vs H Q _ => ∃ a b c d : Int, Pr K H vs a b c d ∧ c ≠ 0 ∧ Two H Q (low (a * d) (b * c))
theorem ok_over {f : Addr} {fd : FuncData} (F : Fun K "over" "over" s_over f fd) (C_fraction : Cal P w K mg base CX0 4 "fraction" ["top", "bottom"] (spFrac true)) : FnG P w K mg base CX0 5 f fd ["one", "other"] (sp_over K) := by
  refine Gfun F sc_over (fun vs H Q E h => ?_) (fun cdv A outer s H vs Q E hg hr h => ?_)
  · obtain ⟨a, b, c, d, h, _⟩ := h
    obtain ⟨p, q, rfl, _⟩ := h.ex
    rfl
  · obtain ⟨a, b, c, d, h, hc, k⟩ := h
    obtain ⟨p, q, rfl, hp, hq⟩ := h.ex
    refine ⟨_, (pss_one (ps_ret (pe_g C_fraction (hr.mono (by decide)) hg (pa_cons (pe_op op_mulW (pe_ix ix_tup (pv 0) pe_int (fun _ _ => rfl)) (pe_ix ix_tup (pv 1) pe_int (fun _ _ => rfl))) (pa_cons (pe_op op_mulW (pe_ix ix_tup (pv 0) pe_int (fun _ _ => rfl)) (pe_ix ix_tup (pv 1) pe_int (fun _ _ => rfl))) pa_nil))))), ?_⟩
    refine ⟨_, rfl, p, _, _, _, rfl, rfl, hp, rfl, _, rfl, q, _, _, _, rfl, rfl, hq, rfl, _, _, rfl, rfl, Sm.mulW h.a1 h.d1, ?_⟩
    refine ⟨_, rfl, p, _, _, _, rfl, rfl, hp, rfl, _, rfl, q, _, _, _, rfl, rfl, hq, rfl, _, _, rfl, rfl, Sm.mulW h.b1 h.c1, ?_⟩
    exact ⟨_, _, rfl, mul_ne h.hb hc, (fun z => Bool.noConfusion z), Sm.mul h.a1 h.d1, Sm.mul h.b1 h.c1, k⟩

/-! ### over 0 -/
def sp_over0 (K : PySem.W.Frag) (C : Addr) : Sp := fun vs H Q E => ∃ a b d : Int, Pr K H vs a b 0 d ∧ E (.ref C) none H
theorem ok_over0 {f : Addr} {fd : FuncData} {C : Addr} (F : Fun K "over" "over" s_over f fd) (C_fraction : Cal P w K mg base (L2.CX P w) 3 "fraction" ["top", "bottom"] (spFrac0 C)) : FnG P w K mg base (L2.CX P w) 5 f fd ["one", "other"] (sp_over0 K C) := by
  refine GfunX F sc_over (fun vs H Q E h => ?_) (fun cdv A outer s H vs Q E hg hr h => ?_)
  · obtain ⟨a, b, d, h, _⟩ := h
    obtain ⟨p, q, rfl, _⟩ := h.ex
    rfl
  · obtain ⟨a, b, d, h, k⟩ := h
    obtain ⟨p, q, rfl, hp, hq⟩ := h.ex
    refine ⟨_, (pss_one (ps_ret (pe_gS C_fraction (hr.mono (by decide)) hg (fun σ => passAt (takes_of rfl rfl rfl rfl) σ) (pa_cons (pe_op op_mulW (pe_ix ix_tup (pv 0) pe_int (fun _ _ => rfl)) (pe_ix ix_tup (pv 1) pe_int (fun _ _ => rfl))) (pa_cons (pe_op op_mulW (pe_ix ix_tup (pv 0) pe_int (fun _ _ => rfl)) (pe_ix ix_tup (pv 1) pe_int (fun _ _ => rfl))) pa_nil))))), ?_⟩
    refine ⟨_, rfl, p, _, _, _, rfl, rfl, hp, rfl, _, rfl, q, _, _, _, rfl, rfl, hq, rfl, _, _, rfl, rfl, Sm.mulW h.a1 h.d1, ?_⟩
    refine ⟨_, rfl, p, _, _, _, rfl, rfl, hp, rfl, _, rfl, q, _, _, _, rfl, rfl, hq, rfl, _, _, rfl, rfl, Sm.mulW h.b1 h.c1, ?_⟩
    exact ⟨a * d, by show [V.int (a * d), V.int (b * 0)] = _; rw [Int.mul_zero], k⟩

/-! ### is_less -/
theorem sc_is_less : FnScope ["one", "other"] ["one", "other"] (defScope s_is_less) := ⟨rfl, rfl, rfl, by decide +kernel, rfl, by decide +kernel, by decide +kernel⟩
def sp_is_less (K : PySem.W.Frag) : Sp := fun vs H Q _ => ∃ a b c d : Int, Pr K H vs a b c d ∧ Q (.bl (decide (a * d < c * b))) H
theorem ok_is_less {f : Addr} {fd : FuncData} (F : Fun K "is_less" "is_less" s_is_less f fd) : FnG P w K mg base CX0 1 f fd ["one", "other"] (sp_is_less K) := by
  refine Gfun F sc_is_less (fun vs H Q E h => ?_) (fun cdv A outer s H vs Q E hg hr h => ?_)
  · obtain ⟨a, b, c, d, h, _⟩ := h
    obtain ⟨p, q, rfl, _⟩ := h.ex
    rfl
  · obtain ⟨a, b, c, d, h, k⟩ := h
    obtain ⟨p, q, rfl, hp, hq⟩ := h.ex
    refine ⟨_, (pss_one (ps_ret (pe_cmpR op_lt (pe_op op_mulW (pe_ix ix_tup (pv 0) pe_int (fun _ _ => rfl)) (pe_ix ix_tup (pv 1) pe_int (fun _ _ => rfl))) (pe_op op_mulW (pe_ix ix_tup (pv 1) pe_int (fun _ _ => rfl)) (pe_ix ix_tup (pv 0) pe_int (fun _ _ => rfl))) (nomark _)))), ?_⟩
    refine ⟨_, rfl, p, _, _, _, rfl, rfl, hp, rfl, _, rfl, q, _, _, _, rfl, rfl, hq, rfl, _, _, rfl, rfl, Sm.mulW h.a1 h.d1, ?_⟩
    refine ⟨_, rfl, q, _, _, _, rfl, rfl, hq, rfl, _, rfl, p, _, _, _, rfl, rfl, hp, rfl, _, _, rfl, rfl, Sm.mulW h.c1 h.b1, ?_⟩
    exact ⟨_, _, rfl, rfl, k⟩

end
end Lf

set_option Elab.async false
set_option linter.all false
set_option maxRecDepth 100000
set_option maxHeartbeats 4000000
set_option exponentiation.threshold 3000
/-! Things of any kind: data without dicts, and dicts of plain things. -/
namespace Lf
open PySem PySem.Spec PyProof.Rows L2
def kD : Key → PyData
  | .inl i => .int i
  | .inr x => .str x
inductive Sc : V → PyData → Prop
  | non : Sc .non .none
  | bl (b : Bool) : Sc (.bl b) (.bool b)
  | int (i : Int) : Sc (.int i) (.int i)
  | str (x : Str) : Sc (.str x) (.str x)
/-- a thing: data, or a dict of plain things -/
inductive Dq (K : PySem.W.Frag) (H : Hp) : V → PyData → Prop
  | dp {v : V} {d : PyData} (h : Dp K H v d) (n : d.hasDict = false) : Dq K H v d
  | dic {a : Addr} {kvs : List (Key × V)} {ds : List (PyData × PyData)} (h : H a = some (.dK kvs)) (p : Paired (fun (kv : Key × V) (d : PyData × PyData) => d.1 = kD kv.1 ∧ Sc kv.2 d.2) kvs ds) : Dq K H (.ref a) (.dict ds)
theorem Dq.same {K : PySem.W.Frag} {H H' : Hp} {v : V} {d : PyData} (s : Same H H') (h : Dq K H v d) : Dq K H' v d := by
  cases h with
  | dp h n => exact .dp (Dp.same s _ _ h) n
  | dic h p => exact .dic (s _ _ h) p
section
variable {X : Cx} {pins : List (Addr × Obj)} {σ : L2.St} {H : Hp} {s : Shared}
theorem Sc.reads {v : V} {d : PyData} {u : Value} {h : Heap} (k : Sc v d) (r : RelV v u) : Reads h u d [] := by
  cases k with
  | non => cases r; exact .none
  | bl b => cases r; exact .bool b
  | int i => obtain ⟨t, rfl⟩ := r; exact .int i t
  | str x => obtain ⟨t, rfl⟩ := r; exact .str x t
theorem dic_reads {P : Program} {w : World} {h : Heap} : ∀ {es : List DictEntry} {vs : List (Key × Value)} {kvs : List (Key × V)} {ds : List (PyData × PyData)}, Pairs (mixKind P w) es vs → KV kvs vs →
    Paired (fun (kv : Key × V) (d : PyData × PyData) => d.1 = kD kv.1 ∧ Sc kv.2 d.2) kvs ds → ReadsAll h (es.map (·.key)) (ds.map (·.1)) [] ∧ ReadsAll h (es.map (·.val)) (ds.map (·.2)) []
  | _, _, _, _, .nil, kv, p => by
    cases kv
    cases p
    exact ⟨.nil, .nil⟩
  | _, _, _, _, .cons (e := e) hk hv r, kv, p => by
    cases kv with
    | cons q kv =>
      cases p with
      | cons z p =>
        obtain ⟨i1, i2⟩ := dic_reads r kv p
        obtain ⟨q1, q2⟩ := q
        obtain ⟨z1, z2⟩ := z
        refine ⟨?_, ?_⟩
        · rw [List.map_cons, List.map_cons]
          refine ReadsAll.cons (as := []) (bs := []) ?_ i1
          rw [z1, q1]
          rcases keyIs_shape (show keyIs _ e.key = true from hk) with ⟨i, t, e1, e2⟩ | ⟨x, t, e1, e2⟩
          · rw [e1, e2]
            exact .int i t
          · rw [e1, e2]
            exact .str x t
        · rw [List.map_cons, List.map_cons]
          refine ReadsAll.cons (as := []) (bs := []) ?_ i2
          rw [hv]
          exact z2.reads q2
theorem Dq.reads (I : Inv X pins σ H s) {v : V} {d : PyData} {u : Value} (h : Dq X.K H v d) (r : RelV v u) : ∃ as, Reads s.heap u d as ∧ (d.hasDict = true → sysModules ∉ as) := by
  cases h with
  | dp h n =>
    obtain ⟨as, q⟩ := Dp.reads I d v u h r
    exact ⟨as, q, fun z => by rw [n] at z; cases z⟩
  | @dic a kvs ds h p =>
    cases r
    obtain ⟨hz, hs, vs, kv, o, es, ep, h1, h2, h3, h4, h5, h6⟩ := (show ObjOk X.prog X.w H s.heap a (.dK kvs) from I.hok a _ h)
    obtain ⟨i1, i2⟩ := dic_reads (h := s.heap) h5 kv p
    refine ⟨_, Reads.dict h1 h2.1 h3 i1 i2, fun _ hm => ?_⟩
    have : sysModules = a := by simpa using hm
    rw [this] at hs
    simp at hs
/-- the built-in type of a thing -/
def tyN : PyData → String
  | .none => "NoneType"
  | .bool _ => "bool"
  | .int _ => "int"
  | .str _ => "str"
  | .list _ => "list"
  | .tuple _ => "tuple"
  | .dict _ => "dict"
theorem Dp.ty {K : PySem.W.Frag} {v : V} {d : PyData} (h : Dp K H v d) : TyX K H v (.type (tyN d)) := by
  cases h with
  | non => exact .base .non
  | bl b => exact .base (.bl b)
  | int i => exact .base (.int i)
  | str x => exact .base (.str x)
  | lst h1 _ =>
    rcases h1 with (h | ⟨o, h⟩) | ⟨o, arr, n, hk, hc, _⟩
    · exact .base (.lst h)
    · exact .base (.frz h)
    · exact .kList hk hc
  | tup h1 _ =>
    rcases h1 with (h | ⟨o, h⟩) | ⟨o, arr, n, hk, hc, _⟩
    · exact .base (.tup h)
    · exact .fTuple h
    · exact .kTuple hk hc
theorem Dq.ty {K : PySem.W.Frag} {v : V} {d : PyData} (h : Dq K H v d) : TyX K H v (.type (tyN d)) := by
  cases h with
  | dp h _ => exact Lf.Dp.ty h
  | dic h _ => exact .base (.dK h)
/-! ### repr of a list of things -/
inductive DqAll (K : PySem.W.Frag) (H : Hp) : List V → List PyData → Prop
  | nil : DqAll K H [] []
  | cons {v : V} {vs : List V} {d : PyData} {ds : List PyData} : Dq K H v d → DqAll K H vs ds → DqAll K H (v :: vs) (d :: ds)
theorem DqAll.same {K : PySem.W.Frag} {H H' : Hp} (s : Same H H') : ∀ {vs : List V} {ds : List PyData}, DqAll K H vs ds → DqAll K H' vs ds
  | _, _, .nil => .nil
  | _, _, .cons a r => .cons (a.same s) (DqAll.same s r)
theorem DqAll.get {K : PySem.W.Frag} {H : Hp} : ∀ {vs : List V} {ds : List PyData} {i : Nat} {v : V}, DqAll K H vs ds → vs[i]? = some v → ∃ d, ds[i]? = some d ∧ Dq K H v d
  | _, _, _, _, .nil, e => by simp at e
  | _, _, 0, _, .cons a _, e => by
    simp at e
    subst e
    exact ⟨_, rfl, a⟩
  | _, _, i + 1, v, .cons _ r, e => by
    obtain ⟨d, h1, h2⟩ := DqAll.get (i := i) (v := v) r (by simpa using e)
    exact ⟨d, by simpa using h1, h2⟩
theorem DqAll.app {K : PySem.W.Frag} {H : Hp} : ∀ {vs us : List V} {ds es : List PyData}, DqAll K H vs ds → DqAll K H us es → DqAll K H (vs ++ us) (ds ++ es)
  | _, _, _, _, .nil, h => h
  | _, _, _, _, .cons a r, h => .cons a (DqAll.app r h)
theorem DqAll.length {K : PySem.W.Frag} {H : Hp} : ∀ {vs : List V} {ds : List PyData}, DqAll K H vs ds → vs.length = ds.length
  | _, _, .nil => rfl
  | _, _, .cons _ r => congrArg Nat.succ (DqAll.length r)
theorem dq_repr (I : Inv X pins σ H s) : ∀ {vs : List V} {ds : List PyData} {us : List Value}, DqAll X.K H vs ds → Vals vs us → PyData.showableAll ds = true → (∀ t ∈ PyData.shownAll ds, t.length ≤ sizeLine) →
    ∃ bs as, ReadAtMost s.heap (PyData.depthAll ds) bs ∧ ReprAllK X.prog X.w bs s.heap (PyData.depthAll ds) us (PyData.shownAll ds) ∧ ReadsAll s.heap us ds as
  | _, _, _, .nil, r, _, _ => by
    cases r
    exact ⟨[], [], (fun _ h => nomatch h), by simp only [PyData.shownAll]; exact .nil, .nil⟩
  | _, _, _, .cons (d := d) (ds := ds) a q, r, hs, hz => by
    cases r with
    | cons r1 r2 =>
      have hs' : d.showable = true ∧ PyData.showableAll ds = true := by simpa [PyData.showableAll] using hs
      have hz' : d.shown.length ≤ sizeLine ∧ ∀ t ∈ PyData.shownAll ds, t.length ≤ sizeLine := by
        simp only [PyData.shownAll] at hz
        exact ⟨hz _ List.mem_cons_self, fun t ht => hz t (List.mem_cons_of_mem _ ht)⟩
      obtain ⟨as1, rd, hsm⟩ := a.reads I r1
      obtain ⟨b1, m1, k1⟩ := ReprK.of_reads (prog := X.prog) (w := X.w) rd hs'.1 hsm hz'.1
      obtain ⟨b2, as2, m2, k2, rd2⟩ := dq_repr I q r2 hs'.2 hz'.2
      have l1 : d.depth ≤ PyData.depthAll (d :: ds) := by simp only [PyData.depthAll]; omega
      have l2 : PyData.depthAll ds ≤ PyData.depthAll (d :: ds) := by simp only [PyData.depthAll]; omega
      refine ⟨b1 ++ b2, as1 ++ as2, ?_, ?_, .cons rd rd2⟩
      · intro b hb
        rcases List.mem_append.mp hb with z | z
        · obtain ⟨d', as', r', e'⟩ := m1 b z
          exact ⟨d', as', r', Nat.le_trans e' l1⟩
        · obtain ⟨d', as', r', e'⟩ := m2 b z
          exact ⟨d', as', r', Nat.le_trans e' l2⟩
      · simp only [PyData.shownAll]
        exact .cons ((k1.more (fun b hb => List.mem_append_left _ hb)).level_le l1) (k2.more_le (fun b hb => List.mem_append_right _ hb) l2)
def rShowQ (K : PySem.W.Frag) : List V → Hp → VK → Prop := fun xs H Q => ∃ (a : Addr) (v : V) (vs : List V) (ds : List PyData), xs = [.ref a] ∧ SqL K H a (v :: vs) ∧ DqAll K H (v :: vs) ds ∧
  PyData.showableAll ds = true ∧ PyData.depthAll ds ≤ 29 ∧ (PyData.shown (.list ds)).length ≤ sizeLine ∧ Q (.str (PyData.shown (.list ds))) H
theorem call_showQ (hG : X.A.guards = some []) {k : Nat} (hr : Room k X.A) : CallR X (.builtin "repr") (rShowQ X.K) := by
  intro pins s σ H xs us Q I r h
  obtain ⟨a, v, vs, ds, rfl, hS, hd, hs, h30, hz, q⟩ := h
  cases r with
  | cons r1 r2 =>
    cases r2
    cases r1
    have hu := hr.units
    obtain ⟨its, rv, ⟨o, n, ho, hc, _, hdt⟩, _⟩ := I.list hS
    have hz' : (listText (PyData.shownAll ds)).length ≤ sizeLine := by simpa only [PyData.shown] using hz
    obtain ⟨bs, as, m, k, rd⟩ := dq_repr I hd rv hs (fun t ht => Nat.le_trans (listText_mem_le ht) hz')
    have rl : Reads s.heap (.ref a) (.list ds) (a :: as) := Reads.list ho hc hdt rd
    have hna : a ∉ bs := not_mem_of_deeper rl (by simp only [PyData.depth]; omega) m
    cases its with
    | nil => cases rv
    | cons u us' =>
      refine call_repr_slot (T := "list") (by omega) ⟨o, ho, hc⟩ F.slot_list_repr.toG ?_
      refine call_list_reprK ho hc hdt hna (by simpa using k.length_eq) (fun i y e => k.item i y (by simpa using e)) hG (fun b _ => Clear.nil b) (by show X.A.units + 1 + (PyData.depthAll ds + 1) < cLine; omega) (fun _ _ z => z) (fun h' u tk hk => ?_) hz'
      refine ⟨_, _, rfl, ⟨.str (PyData.shown (.list ds)), H, I.kept hk, ⟨u, ?_⟩, q⟩⟩
      simp only [PyData.shown]
end
/-- a statement and the rest, what follows shown once from what holds between them -/
def tMid (t u : TS) : TS := fun D σ H => ∃ Md : L2.St → Hp → Prop, t { D with nx := Md } σ H ∧ ∀ σ' H', Md σ' H' → u D σ' H'
theorem pss_mid {X : Cx} {st : Stmt} {more : List Stmt} {t u : TS} (h1 : PS X st t) (h2 : PSs X more u) : PSs X (st :: more) (tMid t u) := by
  refine ⟨fun pins s σ H D I ⟨Md, hm, hu⟩ => wpAny_execs_cons (thn (h1.run pins s σ H { D with nx := Md } I hm) fun f s1 q => ?_)⟩
  cases f with
  | next =>
    obtain ⟨σ', H', I', q⟩ := q
    exact h2.run pins s1 σ' H' D I' (hu σ' H' q)
  | ret v => exact q
  | brk => exact q
  | cont => exact q
/-- what repr asks of a list of things -/
structure ShowA (ds : List PyData) : Prop where
  sh : PyData.showableAll ds = true
  dp : PyData.depthAll ds ≤ 29
  ln : (PyData.shown (.list ds)).length ≤ sizeLine
end Lf

set_option Elab.async false
set_option linter.all false
set_option maxRecDepth 100000
set_option maxHeartbeats 4000000
set_option exponentiation.threshold 3000
namespace Lf
open PySem PySem.Spec PyProof.Rows L2
theorem bt_isinstance : bootBuiltins "isinstance" = some (.builtin "isinstance") := by decide +kernel
theorem bt_bool : bootBuiltins "bool" = some (.type "bool") := by decide +kernel
theorem bt_tuple : bootBuiltins "tuple" = some (.type "tuple") := by decide +kernel
structure Bltx (mg : Str → Option Value) : Prop where
  isinstance : mg "isinstance" = none
  bool : mg "bool" = none
  tuple : mg "tuple" = none
theorem len_show {n : Nat} (h : n ≤ 1000) : n ≤ sizeLine := by
  rw [sizeLine_eq]
  omega
theorem u65 {k : Nat} {A : Around} (r : Room k A) : A.units + 65 < cLine := by
  have := r.un
  omega
theorem iteN {c A B : Prop} [Decidable c] (hc : ¬ c) (h : A) : if (!decide c) = true then A else B := by
  rw [decide_eq_false hc]
  exact iteT h
def isI : PyData → Bool
  | .int _ => true
  | .bool _ => true
  | _ => false
def isB : PyData → Bool
  | .bool _ => true
  | _ => false
def isT : PyData → Bool
  | .tuple _ => true
  | _ => false
def isS : PyData → Bool
  | .str _ => true
  | _ => false
def isW : PyData → Bool
  | .int _ => true
  | _ => false
theorem ki_none : kitB "NoneType" "int" = some false := by decide +kernel
theorem ki_bool : kitB "bool" "int" = some true := by decide +kernel
theorem ki_int : kitB "int" "int" = some true := by decide +kernel
theorem ki_str : kitB "str" "int" = some false := by decide +kernel
theorem ki_list : kitB "list" "int" = some false := by decide +kernel
theorem ki_tuple : kitB "tuple" "int" = some false := by decide +kernel
theorem ki_dict : kitB "dict" "int" = some false := by decide +kernel
theorem ki (d : PyData) : kitB (tyN d) "int" = some (isI d) :=
  match d with
  | .none => ki_none
  | .bool _ => ki_bool
  | .int _ => ki_int
  | .str _ => ki_str
  | .list _ => ki_list
  | .tuple _ => ki_tuple
  | .dict _ => ki_dict
theorem kb_none : kitB "NoneType" "bool" = some false := by decide +kernel
theorem kb_bool : kitB "bool" "bool" = some true := by decide +kernel
theorem kb_int : kitB "int" "bool" = some false := by decide +kernel
theorem kb_str : kitB "str" "bool" = some false := by decide +kernel
theorem kb_list : kitB "list" "bool" = some false := by decide +kernel
theorem kb_tuple : kitB "tuple" "bool" = some false := by decide +kernel
theorem kb_dict : kitB "dict" "bool" = some false := by decide +kernel
theorem kb (d : PyData) : kitB (tyN d) "bool" = some (isB d) :=
  match d with
  | .none => kb_none
  | .bool _ => kb_bool
  | .int _ => kb_int
  | .str _ => kb_str
  | .list _ => kb_list
  | .tuple _ => kb_tuple
  | .dict _ => kb_dict
theorem kt_none : kitB "NoneType" "tuple" = some false := by decide +kernel
theorem kt_bool : kitB "bool" "tuple" = some false := by decide +kernel
theorem kt_int : kitB "int" "tuple" = some false := by decide +kernel
theorem kt_str : kitB "str" "tuple" = some false := by decide +kernel
theorem kt_list : kitB "list" "tuple" = some false := by decide +kernel
theorem kt_tuple : kitB "tuple" "tuple" = some true := by decide +kernel
theorem kt_dict : kitB "dict" "tuple" = some false := by decide +kernel
theorem kt (d : PyData) : kitB (tyN d) "tuple" = some (isT d) :=
  match d with
  | .none => kt_none
  | .bool _ => kt_bool
  | .int _ => kt_int
  | .str _ => kt_str
  | .list _ => kt_list
  | .tuple _ => kt_tuple
  | .dict _ => kt_dict
theorem ks_none : kitB "NoneType" "str" = some false := by decide +kernel
theorem ks_bool : kitB "bool" "str" = some false := by decide +kernel
theorem ks_int : kitB "int" "str" = some false := by decide +kernel
theorem ks_str : kitB "str" "str" = some true := by decide +kernel
theorem ks_list : kitB "list" "str" = some false := by decide +kernel
theorem ks_tuple : kitB "tuple" "str" = some false := by decide +kernel
theorem ks_dict : kitB "dict" "str" = some false := by decide +kernel
theorem ks (d : PyData) : kitB (tyN d) "str" = some (isS d) :=
  match d with
  | .none => ks_none
  | .bool _ => ks_bool
  | .int _ => ks_int
  | .str _ => ks_str
  | .list _ => ks_list
  | .tuple _ => ks_tuple
  | .dict _ => ks_dict
def fr2 : PyData → PyData → Bool
  | .int a, .int b => decide (0 < b) && decide (Nat.gcd a.natAbs b.natAbs = 1)
  | _, _ => false
def frL : List PyData → Bool
  | [x, y] => fr2 x y
  | _ => false
def isFr : PyData → Bool
  | .tuple ds => frL ds
  | _ => false
def lets : Str := Str.ofString "abcdefghijklmnopqrstuvwxyz"
def inL (c : Nat) : Bool := decide (c ∈ lets.cps.toList)
def isNm : PyData → Bool
  | .str z => decide (1 ≤ z.length) && decide (z.length ≤ 10) && z.cps.toList.all inL
  | _ => false
section
variable {P : Program} {w : World} {K : PySem.W.Frag} {mg : Str → Option Value} {base : Heap}
theorem Dq.tup {H : Hp} {v : V} {d : PyData} (h : Dq K H v d) (e : isT d = true) : ∃ (a : Addr) (xs : List V) (ds : List PyData), v = .ref a ∧ d = .tuple ds ∧ SqT K H a xs ∧ DpAll K H xs ds ∧ PyData.hasDictAll ds = false := by
  cases h with
  | dp h n =>
    cases h with
    | tup h1 h2 => exact ⟨_, _, _, rfl, rfl, h1, h2, by simpa [PyData.hasDict] using n⟩
    | non => cases e
    | bl _ => cases e
    | int _ => cases e
    | str _ => cases e
    | lst _ _ => cases e
  | dic _ _ => cases e
theorem Dq.txt {H : Hp} {v : V} {d : PyData} (h : Dq K H v d) (e : isS d = true) : ∃ z, v = .str z ∧ d = .str z := by
  cases h with
  | dp h n =>
    cases h with
    | str z => exact ⟨z, rfl, rfl⟩
    | non => cases e
    | bl _ => cases e
    | int _ => cases e
    | tup _ _ => cases e
    | lst _ _ => cases e
  | dic _ _ => cases e
theorem Dq.whole {H : Hp} {v : V} {d : PyData} (h : Dq K H v d) (e : isW d = true) : ∃ i, v = .int i ∧ d = .int i := by
  cases h with
  | dp h n =>
    cases h with
    | int i => exact ⟨i, rfl, rfl⟩
    | non => cases e
    | bl _ => cases e
    | str _ => cases e
    | tup _ _ => cases e
    | lst _ _ => cases e
  | dic _ _ => cases e

def sp_whole (K : PySem.W.Frag) : Sp := fun vs H Q _ => ∃ (v : V) (d : PyData), vs = [v] ∧ Dq K H v d ∧ Q (.bl (isW d)) H
/-! ### is_whole -/
theorem sc_is_whole : FnScope ["thing"] ["thing"] (defScope s_is_whole) := ⟨rfl, rfl, rfl, by decide +kernel, rfl, by decide +kernel, by decide +kernel⟩
theorem ok_whole {f : Addr} {fd : FuncData} (M : Blt mg) (Mx : Bltx mg) (F : Fun K "is_whole" "is_whole" s_is_whole f fd) : FnG P w K mg base CX0 1 f fd ["thing"] (sp_whole K) := by
  refine Gfun F sc_is_whole (fun vs H Q E h => ?_) (fun cdv A outer s H vs Q E hg hr h => ?_)
  · obtain ⟨v, d, rfl, _⟩ := h
    rfl
  · obtain ⟨v, d, rfl, hq, k⟩ := h
    refine ⟨_, (pss_one (ps_ret (pe_and (pe_callB call_isi rfl Mx.isinstance bt_isinstance (pa_cons (pv 0) (pa_cons (pe_bltn (v := .ty "int") rfl M.int bt_int rfl) pa_nil))) (pe_one (pe_not (pe_callB call_isi rfl Mx.isinstance bt_isinstance (pa_cons (pv 0) (pa_cons (pe_bltn (v := .ty "bool") rfl Mx.bool bt_bool rfl) pa_nil)))))))), ?_⟩
    refine ⟨_, rfl, _, _, _, _, _, rfl, .ty "int", hq.ty, kit_ty (ki d), _, rfl, ite2 (fun e => ?_) (fun e => ?_)⟩
    · refine ⟨_, rfl, _, _, _, _, _, rfl, .ty "bool", hq.ty, kit_ty (kb d), _, rfl, ?_⟩
      have : isW d = !isB d := by cases d <;> first | rfl | (cases e)
      rw [← this]
      exact k
    · have : isW d = false := by cases d <;> first | rfl | (exact absurd rfl e)
      rw [this] at k
      exact k

/-! ### _law_is_whole -/
theorem sc__law_is_whole : FnScope ["_law_thing"] ["_law_thing"] (defScope s__law_is_whole) := ⟨rfl, rfl, rfl, by decide +kernel, rfl, by decide +kernel, by decide +kernel⟩
theorem ok_lwhole {f : Addr} {fd : FuncData} (M : Blt mg) (Mx : Bltx mg) (F : Fun K "_law_is_whole" "_law_is_whole" s__law_is_whole f fd) : FnG P w K mg base CX0 1 f fd ["_law_thing"] (sp_whole K) := by
  refine Gfun F sc__law_is_whole (fun vs H Q E h => ?_) (fun cdv A outer s H vs Q E hg hr h => ?_)
  · obtain ⟨v, d, rfl, _⟩ := h
    rfl
  · obtain ⟨v, d, rfl, hq, k⟩ := h
    refine ⟨_, (pss_one (ps_ret (pe_and (pe_callB call_isi rfl Mx.isinstance bt_isinstance (pa_cons (pv 0) (pa_cons (pe_bltn (v := .ty "int") rfl M.int bt_int rfl) pa_nil))) (pe_one (pe_not (pe_callB call_isi rfl Mx.isinstance bt_isinstance (pa_cons (pv 0) (pa_cons (pe_bltn (v := .ty "bool") rfl Mx.bool bt_bool rfl) pa_nil)))))))), ?_⟩
    refine ⟨_, rfl, _, _, _, _, _, rfl, .ty "int", hq.ty, kit_ty (ki d), _, rfl, ite2 (fun e => ?_) (fun e => ?_)⟩
    · refine ⟨_, rfl, _, _, _, _, _, rfl, .ty "bool", hq.ty, kit_ty (kb d), _, rfl, ?_⟩
      have : isW d = !isB d := by cases d <;> first | rfl | (cases e)
      rw [← this]
      exact k
    · have : isW d = false := by cases d <;> first | rfl | (exact absurd rfl e)
      rw [this] at k
      exact k

/-! ### is_fraction -/
theorem sc_is_fraction : FnScope ["thing", "top", "bottom"] ["thing"] (defScope s_is_fraction) := ⟨rfl, rfl, rfl, by decide +kernel, rfl, by decide +kernel, by decide +kernel⟩
def sp_isfr (K : PySem.W.Frag) : Sp := fun vs H Q _ => ∃ (v : V) (d : PyData), vs = [v] ∧ Dq K H v d ∧ Q (.bl (isFr d)) H
theorem isFr_len {ds : List PyData} (h : ds.length ≠ 2) : isFr (.tuple ds) = false := by
  match ds, h with
  | [], _ => rfl
  | [_], _ => rfl
  | [_, _], h => exact absurd rfl h
  | _ :: _ :: _ :: _, _ => rfl
theorem isFr_no {d e : PyData} (h : isW d = false ∨ isW e = false) : isFr (.tuple [d, e]) = false := by
  cases d <;> cases e <;> first | rfl | (rcases h with h | h <;> cases h)
theorem isFr_two {a b : Int} : isFr (.tuple [.int a, .int b]) = (decide (0 < b) && decide (Nat.gcd a.natAbs b.natAbs = 1)) := rfl
theorem DpAll.len {H : Hp} : ∀ {vs : List V} {ds : List PyData}, DpAll K H vs ds → vs.length = ds.length
  | _, _, .nil => rfl
  | _, _, .cons _ r => congrArg Nat.succ (DpAll.len r)
theorem two_of {H : Hp} {xs : List V} {ds : List PyData} (h : DpAll K H xs ds) (hl : xs.length = 2) : ∃ x y d1 d2, xs = [x, y] ∧ ds = [d1, d2] ∧ Dp K H x d1 ∧ Dp K H y d2 := by
  match xs, ds, h, hl with
  | _, _, .cons h1 (.cons h2 .nil), _ => exact ⟨_, _, _, _, rfl, rfl, h1, h2⟩
  | _, _, .nil, e => cases e
  | _, _, .cons _ .nil, e => cases e
  | _, _, .cons _ (.cons _ (.cons _ _)), e => simp at e
theorem ok_isfr {f : Addr} {fd : FuncData} (M : Blt mg) (Mx : Bltx mg) (F : Fun K "is_fraction" "is_fraction" s_is_fraction f fd) (C_is_whole : Cal P w K mg base CX0 1 "is_whole" ["thing"] (sp_whole K)) (C_common : Cal P w K mg base CX0 1 "common" ["one", "other"] spCom) :
    FnG P w K mg base CX0 2 f fd ["thing"] (sp_isfr K) := by
  refine Gfun F sc_is_fraction (fun vs H Q E h => ?_) (fun cdv A outer s H vs Q E hg hr h => ?_)
  · obtain ⟨v, d, rfl, _⟩ := h
    rfl
  · obtain ⟨v, d, rfl, hq, k⟩ := h
    refine ⟨_, (pss_cons (ps_if (PW.pt (pw_or (pt_not (pt_val (pe_callB call_isi rfl Mx.isinstance bt_isinstance (pa_cons (pv 0) (pa_cons (pe_bltn (v := .ty "tuple") rfl Mx.tuple bt_tuple rfl) pa_nil))))) (pw_or1 (pt_cmpR op_ne (pe_callB call_len_seq rfl M.len bt_len (pa_cons (pv 0) pa_nil)) pe_int (nomark _)))))
      (pss_one (ps_ret pe_bl))
      pss_nil)
      (pss_cons (ps_asg (pv 0) (pg_tup rfl (pgs_cons (pg_name (i := 1) sc_is_fraction.nd rfl (.inl rfl)) (pgs_cons (pg_name (i := 2) sc_is_fraction.nd rfl (.inl rfl)) pgs_nil))))
      (pss_cons (ps_if (PW.pt (pw_or (pt_not (pt_val (pe_g C_is_whole (hr.mono (by decide)) hg (pa_cons (pv 1) pa_nil)))) (pw_or1 (pt_not (pt_val (pe_g C_is_whole (hr.mono (by decide)) hg (pa_cons (pv 2) pa_nil)))))))
      (pss_one (ps_ret pe_bl))
      pss_nil)
      (pss_one (ps_ret (pe_and (pe_cmpR op_gt (pv 2) pe_int (nomark _)) (pe_one (pe_cmpR op_eq (pe_g C_common (hr.mono (by decide)) hg (pa_cons (pe_callB call_abs rfl M.abs bt_abs (pa_cons (pv 1) pa_nil)) (pa_cons (pv 2) pa_nil))) pe_int (nomark _))))))))), ?_⟩
    refine ⟨_, rfl, _, _, _, _, _, rfl, .ty "tuple", hq.ty, kit_ty (kt d), _, rfl, ?_⟩
    by_cases ht : isT d = true
    · rw [ht]
      refine iteF ?_
      obtain ⟨a, xs, ds, rfl, rfl, hS, hA, hn⟩ := hq.tup ht
      refine ⟨_, rfl, a, xs, rfl, .inr hS, rfl, _, rfl, ?_⟩
      by_cases hl : xs.length = 2
      · refine iteNS (show V.int (xs.length : Int) = V.int 2 by rw [hl]; rfl) ?_
        obtain ⟨x, y, d1, d2, rfl, rfl, h1, h2⟩ := two_of hA hl
        refine ⟨_, rfl, a, _, rfl, hS, rfl, _, _, rfl, _, _, rfl, rfl, ?_⟩
        have hn' : d1.hasDict = false ∧ d2.hasDict = false := by simpa [PyData.hasDictAll] using hn
        have q1 : Dq K H x d1 := .dp h1 hn'.1
        have q2 : Dq K H y d2 := .dp h2 hn'.2
        refine ⟨_, rfl, x, d1, rfl, q1, _, rfl, ?_⟩
        by_cases w1 : isW d1 = true
        · rw [w1]
          refine iteF ?_
          refine ⟨_, rfl, y, d2, rfl, q2, _, rfl, ?_⟩
          by_cases w2 : isW d2 = true
          · rw [w2]
            refine iteF ?_
            obtain ⟨p, rfl, rfl⟩ := q1.whole w1
            obtain ⟨b, rfl, rfl⟩ := q2.whole w2
            rw [isFr_two] at k
            refine ⟨_, rfl, _, _, rfl, rfl, _, rfl, ite2 (fun e => ?_) (fun e => ?_)⟩
            · have hb : 0 < b := of_decide_eq_true e
              refine ⟨_, rfl, _, rfl, _, rfl, _, b, rfl, ?_, Int.le_of_lt hb, rfl, ?_⟩
              · rw [abs_is]
                omega
              · rw [abs_is, Int.natAbs_natCast]
                rw [decide_eq_true hb, Bool.true_and] at k
                have e2 : decide (V.int ((Nat.gcd p.natAbs b.natAbs : Nat) : Int) = V.int 1) = decide (Nat.gcd p.natAbs b.natAbs = 1) := by
                  by_cases z : Nat.gcd p.natAbs b.natAbs = 1
                  · rw [decide_eq_true z, z]
                    rfl
                  · rw [decide_eq_false z]
                    exact decide_eq_false fun q => z (by have := V.int.inj q; omega)
                rw [e2]
                exact k
            · rw [show decide (0 < b) = false from Bool.eq_false_iff.mpr e, Bool.false_and] at k
              exact k
          · have w2' : isW d2 = false := by cases h : isW d2 <;> first | rfl | exact absurd h w2
            rw [w2']
            refine iteT ?_
            rw [isFr_no (.inr w2')] at k
            exact k
        · have w1' : isW d1 = false := by cases h : isW d1 <;> first | rfl | exact absurd h w1
          rw [w1']
          refine iteT ?_
          rw [isFr_no (.inl w1')] at k
          exact k
      · refine iteN (fun z => hl (by have := V.int.inj z; omega)) ?_
        have hl2 : ds.length ≠ 2 := by rw [← DpAll.len hA]; exact hl
        rw [isFr_len hl2] at k
        exact k
    · have ht' : isT d = false := by cases h : isT d <;> first | rfl | exact absurd h ht
      rw [ht']
      refine iteT ?_
      have : isFr d = false := by
        cases d <;> first | rfl | exact absurd rfl ht
      rw [this] at k
      exact k

end
end Lf

set_option Elab.async false
set_option linter.all false
set_option maxRecDepth 100000
set_option maxHeartbeats 4000000
set_option exponentiation.threshold 3000
namespace Lf
open PySem PySem.Spec PyProof.Rows L2
theorem sm_l {K : PySem.W.Frag} {H H' : Hp} {a : Addr} {xs : List V} (s : Same H H') (h : SqL K H a xs) : SqL K H' a xs := s.seq h
theorem small30 {n : Int} (h : 0 ≤ n) (h2 : n < 2147483648) : Sm n := Nat.lt_of_lt_of_le (show n.natAbs < 2 ^ 31 by omega) (Nat.pow_le_pow_right (by decide) (by decide))
section
variable {P : Program} {w : World} {K : PySem.W.Frag} {mg : Str → Option Value} {base : Heap}

/-! ### _law_cell -/
theorem sc__law_cell : FnScope ["_law_script", "_law_k"] ["_law_script", "_law_k"] (defScope s__law_cell) := ⟨rfl, rfl, rfl, by decide +kernel, rfl, by decide +kernel, by decide +kernel⟩
def sp_cell (K : PySem.W.Frag) : Sp := fun vs H Q _ => ∃ (a : Addr) (ns : List Int) (k : Nat), vs = [.ref a, .int k] ∧ SqL K H a (ns.map V.int) ∧ k < 2 ^ 62 ∧ ∀ n : Int, Q (.int n) H
theorem ok_cell {f : Addr} {fd : FuncData} (M : Blt mg) (F : Fun K "_law_cell" "_law_cell" s__law_cell f fd) : FnG P w K mg base CX0 1 f fd ["_law_script", "_law_k"] (sp_cell K) := by
  refine Gfun F sc__law_cell (fun vs H Q E h => ?_) (fun cdv A outer s H vs Q E hg hr h => ?_)
  · obtain ⟨a, ns, k, rfl, _⟩ := h
    rfl
  · obtain ⟨a, ns, k, rfl, hS, hk, q⟩ := h
    refine ⟨_, (pss_one (ps_ret (pe_ifExp (pt_cmpR op_lt (pv 1) (pe_callB call_len_seq rfl M.len bt_len (pa_cons (pv 0) pa_nil)) (nomark _)) (pe_ix ix_list (pv 0) (pv 1) (fun _ _ => rfl)) pe_int))), ?_⟩
    refine ⟨_, rfl, _, rfl, a, _, rfl, .inl hS, _, _, rfl, rfl, _, rfl, ite2 (fun e => ?_) (fun e => ?_)⟩
    · have e' : (k : Int) < (((ns.map V.int).length : Nat) : Int) := of_decide_eq_true e
      rw [List.length_map] at e'
      have hlt : k < ns.length := by omega
      refine ⟨_, rfl, _, rfl, a, _, _, .int ns[k], rfl, rfl, hS, atI_nat ?_, q _⟩
      rw [List.getElem?_map, List.getElem?_eq_getElem hlt]
      rfl
    · exact q 0

/-! ### _law_pot -/
theorem sc__law_pot : FnScope ["_law_cell_here"] ["_law_cell_here"] (defScope s__law_pot) := ⟨rfl, rfl, rfl, by decide +kernel, rfl, by decide +kernel, by decide +kernel⟩
def sp_pot : Sp := fun vs H Q _ => ∃ n : Int, vs = [.int n] ∧ ∀ (x y : Int) (p : Addr), 0 ≤ y → y < 2147483648 → H p = none → Q (.ref p) (upd H p (.lst [.int x, .int y]))
theorem ok_pot {f : Addr} {fd : FuncData} (M : Blt mg) (F : Fun K "_law_pot" "_law_pot" s__law_pot f fd) : FnG P w K mg base CX0 1 f fd ["_law_cell_here"] sp_pot := by
  refine Gfun F sc__law_pot (fun vs H Q E h => ?_) (fun cdv A outer s H vs Q E hg hr h => ?_)
  · obtain ⟨n, rfl, _⟩ := h
    rfl
  · obtain ⟨n, rfl, q⟩ := h
    refine ⟨_, (pss_one (ps_ret (pe_lst (pa_cons (pe_callB (call_max2 rfl) rfl M.max bt_max (pa_cons pe_int (pa_cons (pe_op op_sub (pv 0) (pe_op op_pow pe_int pe_int)) pa_nil))) (pa_cons (pe_op op_mod (pe_op op_add (pe_op op_mulW (pe_op op_mod (pv 0) pe_int) pe_int) pe_int) pe_int) pa_nil))))), ?_⟩
    refine ⟨_, rfl, 10, 18, rfl, rfl, ⟨by decide, by decide, by decide⟩, _, _, rfl, rfl, _, _, rfl, ?_⟩
    have h1 := Int.emod_nonneg n (show (2147483629 : Int) ≠ 0 by decide)
    have h2 := Int.emod_lt_of_pos n (show (0 : Int) < 2147483629 by decide)
    refine ⟨_, rfl, _, _, rfl, rfl, (by show (0 : Int) < 2147483629; decide), _, _, rfl, rfl, Sm.mulW (small30 h1 (by omega)) (small30 (by decide) (by decide)), _, _, rfl, rfl, _, _, rfl, rfl, (by show (0 : Int) < 2147483647; decide), lst2 fun p hp => ?_⟩
    have h3 := Int.emod_nonneg (n % 2147483629 * 48271 + 7919) (show (2147483647 : Int) ≠ 0 by decide)
    have h4 := Int.emod_lt_of_pos (n % 2147483629 * 48271 + 7919) (show (0 : Int) < 2147483647 by decide)
    exact q _ _ p h3 (by omega) hp

/-! ### _law_draw -/
theorem sc__law_draw : FnScope ["_law_pot_here", "_law_many", "_law_digit"] ["_law_pot_here", "_law_many"] (defScope s__law_draw) := ⟨rfl, rfl, rfl, by decide +kernel, rfl, by decide +kernel, by decide +kernel⟩
/-- all but the pot at q stands as before -/
def But (q : Addr) (H H' : Hp) : Prop := ∀ b o, b ≠ q → H b = some o → H' b = some o
theorem But.rfl {q : Addr} {H : Hp} : But q H H := fun _ _ _ e => e
theorem But.trans {q : Addr} {H H1 H2 : Hp} (h : But q H H1) (k : But q H1 H2) : But q H H2 := fun b o n e => k b o n (h b o n e)
theorem But.same {q : Addr} {H H1 H2 : Hp} (h : But q H H1) (k : Same H1 H2) : But q H H2 := fun b o n e => k b o (h b o n e)
/-- a pot of draws at q -/
def Pot (H : Hp) (q : Addr) : Prop := ∃ x y : Int, 0 ≤ y ∧ y < 2147483648 ∧ H q = some (.lst [.int x, .int y])
def Drawn (H : Hp) (q : Addr) (Q : VK) (m : Int) : Prop := ∀ (r : Int) (H' : Hp), 0 ≤ r → r < m → Pot H' q → But q H H' → Q (.int r) H'
def sp_draw : Sp := fun vs H Q _ => ∃ (q : Addr) (m : Int), vs = [.ref q, .int m] ∧ 0 < m ∧ m.natAbs < 2 ^ 900 ∧ Pot H q ∧ Drawn H q Q m
theorem ok_draw {f : Addr} {fd : FuncData} (M : Blt mg) (F : Fun K "_law_draw" "_law_draw" s__law_draw f fd) : FnG P w K mg base CX0 1 f fd ["_law_pot_here", "_law_many"] sp_draw := by
  refine Gfun F sc__law_draw (fun vs H Q E h => ?_) (fun cdv A outer s H vs Q E hg hr h => ?_)
  · obtain ⟨q, m, rfl, _⟩ := h
    rfl
  · obtain ⟨q, m, rfl, hm, hm2, ⟨x, y, hy0, hy1, hP⟩, k⟩ := h
    refine ⟨_, (pss_cons (ps_if (pt_cmpR op_gt (pe_ix ix_list (pv 0) pe_int (fun _ _ => rfl)) pe_int (nomark _))
      (pss_cons (ps_asg (pe_callB call_divmodW rfl M.divmod bt_divmod (pa_cons (pe_ix ix_list (pv 0) pe_int (fun _ _ => rfl)) (pa_cons (pv 1) pa_nil))) (pg_tup rfl (pgs_cons (pg_sub (pv 0) pe_int set_list) (pgs_cons (pg_name (i := 2) sc__law_draw.nd rfl (.inl rfl)) pgs_nil))))
      (pss_one (ps_ret (pv 2))))
      pss_nil)
      (pss_cons (ps_asg (pe_op op_mod (pe_op op_add (pe_op op_mulW (pe_ix ix_list (pv 0) pe_int (fun _ _ => rfl)) pe_int) pe_int) pe_int) (pg_sub (pv 0) pe_int set_list))
      (pss_one (ps_ret (pe_op op_mod (pe_op op_fdivN (pe_op op_mod (pe_op op_mulW (pe_ix ix_list (pv 0) pe_int (fun _ _ => rfl)) (pe_ix ix_list (pv 0) pe_int (fun _ _ => rfl))) pe_int) pe_int) (pv 1)))))), ?_⟩
    refine ⟨_, rfl, q, _, _, _, rfl, rfl, .inl (.inl hP), rfl, _, _, rfl, rfl, _, rfl, ite2 (fun e => ?_) (fun e => ?_)⟩
    · refine ⟨_, rfl, q, _, _, _, rfl, rfl, .inl (.inl hP), rfl, _, rfl, x, m, rfl, ⟨hm, PyProof.noPylong_of_log2 (Nat.lt_of_lt_of_le (PySem.Flt.log2_lt_of (by decide) hm2) (by decide))⟩, fun p hp => ?_⟩
      have nq : q ≠ p := ne_of_none hP hp
      have hP2 : upd H p (.tup [.int (x / m), .int (x % m)]) q = some (.lst [.int x, .int y]) := by
        rw [upd_ne nq]
        exact hP
      refine ⟨p, _, rfl, .inl (.inl upd_same), rfl, _, _, rfl, ?_⟩
      refine ⟨_, rfl, q, _, _, _, rfl, rfl, hP2, rfl, ?_⟩
      refine ⟨_, _, rfl, rfl, ?_⟩
      refine ⟨_, rfl, k (x % m) _ (Int.emod_nonneg _ (by omega)) (Int.emod_lt_of_pos _ hm) ⟨x / m, y, hy0, hy1, upd_same⟩ fun b o nb eb => ?_⟩
      rw [upd_ne nb, upd_ne (ne_of_none eb hp)]
      exact eb
    · refine ⟨_, rfl, q, _, _, _, rfl, rfl, .inl (.inl hP), rfl, _, _, rfl, rfl, Sm.mulW (small30 hy0 hy1) (small30 (by decide) (by decide)), _, _, rfl, rfl, _, _, rfl, rfl, (by show (0 : Int) < 2147483587; decide), ?_⟩
      refine ⟨_, rfl, q, _, _, _, rfl, rfl, hP, rfl, ?_⟩
      have h3 := Int.emod_nonneg (y * 39373 + 8191) (show (2147483587 : Int) ≠ 0 by decide)
      have h4 := Int.emod_lt_of_pos (y * 39373 + 8191) (show (0 : Int) < 2147483587 by decide)
      have sz : Sm ((y * 39373 + 8191) % 2147483587) := small30 h3 (by omega)
      refine ⟨_, rfl, q, _, _, _, rfl, rfl, .inl (.inl upd_same), rfl, _, rfl, q, _, _, _, rfl, rfl, .inl (.inl upd_same), rfl, _, _, rfl, rfl, Sm.mulW sz sz, _, _, rfl, rfl, (by show (0 : Int) < 2147483543; decide), ?_⟩
      refine ⟨_, _, rfl, rfl, ⟨by decide, by decide⟩, _, rfl, _, _, rfl, rfl, hm, ?_⟩
      refine k _ _ (Int.emod_nonneg _ (by omega)) (Int.emod_lt_of_pos _ hm) ⟨x, _, h3, by omega, upd_same⟩ fun b o nb eb => ?_
      rw [upd_ne nb]
      exact eb

/-! ### _law_low -/
theorem sc__law_low : FnScope ["_law_top", "_law_bottom", "_law_one", "_law_other"] ["_law_top", "_law_bottom"] (defScope s__law_low) := ⟨rfl, rfl, rfl, by decide +kernel, rfl, by decide +kernel, by decide +kernel⟩
def sp_low : Sp := fun vs H Q _ => ∃ (n d : Int), vs = [.int n, .int d] ∧ d ≠ 0 ∧ Mid d ∧ Two H Q (low n d)
theorem ok_low {f : Addr} {fd : FuncData} (M : Blt mg) (F : Fun K "_law_low" "_law_low" s__law_low f fd) : FnG P w K mg base CX0 1 f fd ["_law_top", "_law_bottom"] sp_low := by
  refine Gfun F sc__law_low (fun vs H Q E h => ?_) (fun cdv A outer s H vs Q E hg hr h => ?_)
  · obtain ⟨n, d, rfl, _⟩ := h
    rfl
  · obtain ⟨n, d, rfl, hd, hd2, q⟩ := h
    refine ⟨_, (pss_cons (ps_par (i := 2) (j := 3) rfl sc__law_low.nd rfl rfl (by decide) rfl rfl (pa_cons (pe_callB call_abs rfl M.abs bt_abs (pa_cons (pv 0) pa_nil)) (pa_cons (pe_callB call_abs rfl M.abs bt_abs (pa_cons (pv 1) pa_nil)) pa_nil)) (by rfl))
      (pss_cons (ps_while PassesOwn.never (pt_cmpR op_gt (pv 3) pe_int (nomark _))
      (pss_one (ps_par (i := 2) (j := 3) rfl sc__law_low.nd rfl rfl (by decide) rfl rfl (pa_cons (pv 3) (pa_cons (pe_op op_mod (pv 2) (pv 3)) pa_nil)) (by rfl))))
      (pss_cons (ps_if (pt_cmpR op_lt (pv 1) pe_int (nomark _))
      (pss_one (ps_set (i := 2) sc__law_low.nd rfl (.inl rfl) (pe_un un_neg (pv 2))))
      pss_nil)
      (pss_one (ps_ret (pe_tup (pa_cons (pe_op op_fdivN (pv 0) (pv 2)) (pa_cons (pe_op op_fdivN (pv 1) (pv 2)) pa_nil)))))))), ?_⟩
    refine ⟨_, rfl, _, rfl, _, rfl, _, rfl, _, _, rfl, ?_⟩
    refine while_by (fun σ H' => ∃ x y : Int, σ = [some (.int n), some (.int d), some (.int x), some (.int y)] ∧ 0 ≤ x ∧ 0 ≤ y ∧ Nat.gcd x.natAbs y.natAbs = Nat.gcd n.natAbs d.natAbs ∧ H' = H)
      (fun σ _ => match σ with | [_, _, _, some (.int y)] => y.toNat | _ => 0) ⟨_, _, rfl, ?_, ?_, ?_, rfl⟩ ?_ ?_
    · rw [abs_is]
      omega
    · rw [abs_is]
      omega
    · rw [abs_is, abs_is, Int.natAbs_natCast, Int.natAbs_natCast]
    · rintro σ H1 ⟨x, y, rfl, hx, hy, hgc, rfl⟩
      refine ⟨_, rfl, _, _, rfl, rfl, _, rfl, ite2 (fun e => ?_) (fun e => ?_)⟩
      · have hyp : 0 < y := of_decide_eq_true e
        refine ⟨_, rfl, _, rfl, _, rfl, x, y, rfl, rfl, hyp, _, _, rfl, ⟨y, x % y, rfl, hy, Int.emod_nonneg _ (by omega), (gcd_step x y hyp hx).trans hgc, rfl⟩, ?_⟩
        show (x % y).toNat < y.toNat
        have := Int.emod_lt_of_pos x hyp
        omega
      · have hy0 : y = 0 := by
          have : ¬ 0 < y := fun z => e (decide_eq_true z)
          omega
        subst hy0
        rw [Int.natAbs_zero, Nat.gcd_zero_right] at hgc
        have ex : x = ((Nat.gcd n.natAbs d.natAbs : Nat) : Int) := by omega
        subst ex
        have hgz : ((Nat.gcd n.natAbs d.natAbs : Nat) : Int) ≠ 0 := by
          have := gcd_pos (n := n) hd
          omega
        have hlg := (gcd_mid (n := n) hd hd2).log
        refine ⟨_, rfl, _, _, rfl, rfl, _, rfl, ite2 (fun e => ?_) (fun e => ?_)⟩
        · have e' : d < 0 := of_decide_eq_true e
          have hm : ∀ i, CDivN i (-((Nat.gcd n.natAbs d.natAbs : Nat) : Int)) := fun i => ⟨by omega, by rw [Int.natAbs_neg]; exact hlg⟩
          refine ⟨_, rfl, _, rfl, _, rfl, _, rfl, n, _, rfl, rfl, hm n, _, rfl, _, rfl, d, _, rfl, rfl, hm d, (by show 2 ≤ sizeLine; decide), fun p hp => ?_⟩
          refine q _ p (same_new hp) ?_
          rw [← low_fdiv_neg (n := n) e']
          exact upd_same
        · have e' : 0 < d := by
            have : ¬ d < 0 := fun z => e (decide_eq_true z)
            omega
          have hm : ∀ i, CDivN i ((Nat.gcd n.natAbs d.natAbs : Nat) : Int) := fun i => ⟨hgz, hlg⟩
          refine ⟨_, rfl, _, rfl, n, _, rfl, rfl, hm n, _, rfl, _, rfl, d, _, rfl, rfl, hm d, (by show 2 ≤ sizeLine; decide), fun p hp => ?_⟩
          refine q _ p (same_new hp) ?_
          rw [← low_fdiv_pos (n := n) e']
          exact upd_same
    · rintro σ H1 Q1 Q2 hq ⟨u, hu, i, j, h1, h2, k, h3, h4⟩
      exact ⟨u, hu, i, j, h1, h2, k, h3, hq _ _ h4⟩

end
end Lf

set_option linter.all false
/-! Sums and products of fractions in any order, by rational numbers. -/
namespace Lf
def rv (f : Int × Int) : Rat := Rat.divInt f.1 f.2
def IsF (f : Int × Int) : Prop := IsLow f.1 f.2
theorem IsF.ne {f : Int × Int} (h : IsF f) : f.2 ≠ 0 := by
  have : 0 < f.2 := h.1
  omega
theorem rv_inj {f g : Int × Int} (hf : IsF f) (hg : IsF g) (e : rv f = rv g) : f = g := by
  have q := (Rat.divInt_eq_divInt_iff hf.ne hg.ne).mp e
  obtain ⟨e1, e2⟩ := low_uniq hf hg q
  exact Prod.ext e1 e2
theorem low_f {n d : Int} (h : d ≠ 0) : IsF (low n d) := low_is h
theorem rv_low {n d : Int} (h : d ≠ 0) : rv (low n d) = Rat.divInt n d :=
  (Rat.divInt_eq_divInt_iff (low_f (n := n) h).ne h).mpr (low_cross h)
def fadd (f g : Int × Int) : Int × Int := low (f.1 * g.2 + g.1 * f.2) (f.2 * g.2)
def fsub (f g : Int × Int) : Int × Int := low (f.1 * g.2 - g.1 * f.2) (f.2 * g.2)
def fmul (f g : Int × Int) : Int × Int := low (f.1 * g.1) (f.2 * g.2)
def fdiv (f g : Int × Int) : Int × Int := low (f.1 * g.2) (f.2 * g.1)
section
variable {f g : Int × Int}
theorem fadd_f (hf : IsF f) (hg : IsF g) : IsF (fadd f g) := low_f (Int.mul_ne_zero hf.ne hg.ne)
theorem fsub_f (hf : IsF f) (hg : IsF g) : IsF (fsub f g) := low_f (Int.mul_ne_zero hf.ne hg.ne)
theorem fmul_f (hf : IsF f) (hg : IsF g) : IsF (fmul f g) := low_f (Int.mul_ne_zero hf.ne hg.ne)
theorem fdiv_f (hf : IsF f) (h0 : g.1 ≠ 0) : IsF (fdiv f g) := low_f (Int.mul_ne_zero hf.ne h0)
theorem rv_add (hf : IsF f) (hg : IsF g) : rv (fadd f g) = rv f + rv g := by
  unfold fadd
  rw [rv_low (Int.mul_ne_zero hf.ne hg.ne)]
  exact (Rat.divInt_add_divInt _ _ hf.ne hg.ne).symm
theorem rv_sub (hf : IsF f) (hg : IsF g) : rv (fsub f g) = rv f - rv g := by
  unfold fsub
  rw [rv_low (Int.mul_ne_zero hf.ne hg.ne)]
  exact (Rat.divInt_sub_divInt _ _ hf.ne hg.ne).symm
theorem rv_mul (hf : IsF f) (hg : IsF g) : rv (fmul f g) = rv f * rv g := by
  unfold fmul
  rw [rv_low (Int.mul_ne_zero hf.ne hg.ne)]
  exact (Rat.divInt_mul_divInt _ _).symm
theorem rv_div (hf : IsF f) (h0 : g.1 ≠ 0) : rv (fdiv f g) = rv f * (rv g)⁻¹ := by
  unfold fdiv
  rw [rv_low (Int.mul_ne_zero hf.ne h0)]
  unfold rv
  rw [Rat.inv_divInt, Rat.divInt_mul_divInt]
end
def f0 : Int × Int := (0, 1)
def f1 : Int × Int := (1, 1)
theorem f0_f : IsF f0 := ⟨by decide, by decide⟩
theorem f1_f : IsF f1 := ⟨by decide, by decide⟩
theorem rv0 : rv f0 = 0 := Rat.zero_divInt 1
theorem rv1 : rv f1 = 1 := Rat.divInt_self' (by decide)
theorem rv_zero {f : Int × Int} (h : IsF f) : rv f = 0 ↔ f.1 = 0 := by
  constructor
  · intro e
    have := rv_inj h f0_f (e.trans rv0.symm)
    rw [this]
    rfl
  · intro e
    unfold rv
    rw [e, Rat.zero_divInt]
theorem is0 {f : Int × Int} (h : IsF f) : f.1 = 0 ↔ f = f0 := by
  constructor
  · intro e
    exact rv_inj h f0_f (((rv_zero h).mpr e).trans rv0.symm)
  · intro e
    rw [e]
    rfl
def rsum : List (Int × Int) → Rat
  | [] => 0
  | f :: r => rv f + rsum r
def rprod : List (Int × Int) → Rat
  | [] => 1
  | f :: r => rv f * rprod r
theorem rsum_perm {l m : List (Int × Int)} (p : l.Perm m) : rsum l = rsum m := by
  induction p with
  | nil => rfl
  | cons x _ ih => exact congrArg (rv x + ·) ih
  | swap x y l =>
    show rv y + (rv x + rsum l) = rv x + (rv y + rsum l)
    rw [← Rat.add_assoc, ← Rat.add_assoc, Rat.add_comm (rv y)]
  | trans _ _ h1 h2 => exact h1.trans h2
theorem rprod_perm {l m : List (Int × Int)} (p : l.Perm m) : rprod l = rprod m := by
  induction p with
  | nil => rfl
  | cons x _ ih => exact congrArg (rv x * ·) ih
  | swap x y l =>
    show rv y * (rv x * rprod l) = rv x * (rv y * rprod l)
    rw [← Rat.mul_assoc, ← Rat.mul_assoc, Rat.mul_comm (rv y)]
  | trans _ _ h1 h2 => exact h1.trans h2
def AllF (l : List (Int × Int)) : Prop := ∀ f ∈ l, IsF f
theorem AllF.tl {f : Int × Int} {l : List (Int × Int)} (h : AllF (f :: l)) : AllF l := fun g hg => h g (List.mem_cons_of_mem _ hg)
theorem AllF.hd {f : Int × Int} {l : List (Int × Int)} (h : AllF (f :: l)) : IsF f := h f List.mem_cons_self
theorem sum_fold : ∀ (l : List (Int × Int)) (a : Int × Int), IsF a → AllF l → IsF (l.foldl fadd a) ∧ rv (l.foldl fadd a) = rv a + rsum l
  | [], a, ha, _ => ⟨ha, (Rat.add_zero _).symm⟩
  | f :: l, a, ha, h => by
    obtain ⟨h1, h2⟩ := sum_fold l (fadd a f) (fadd_f ha h.hd) h.tl
    refine ⟨h1, ?_⟩
    show rv (l.foldl fadd (fadd a f)) = rv a + (rv f + rsum l)
    rw [h2, rv_add ha h.hd, Rat.add_assoc]
theorem mul_fold : ∀ (l : List (Int × Int)) (a : Int × Int), IsF a → AllF l → IsF (l.foldl fmul a) ∧ rv (l.foldl fmul a) = rv a * rprod l
  | [], a, ha, _ => ⟨ha, (Rat.mul_one _).symm⟩
  | f :: l, a, ha, h => by
    obtain ⟨h1, h2⟩ := mul_fold l (fmul a f) (fmul_f ha h.hd) h.tl
    refine ⟨h1, ?_⟩
    show rv (l.foldl fmul (fmul a f)) = rv a * (rv f * rprod l)
    rw [h2, rv_mul ha h.hd, Rat.mul_assoc]
theorem sub_fold : ∀ (l : List (Int × Int)) (a : Int × Int), IsF a → AllF l → IsF (l.foldl fsub a) ∧ rv (l.foldl fsub a) = rv a - rsum l
  | [], a, ha, _ => ⟨ha, by show rv a = rv a - 0; rw [Rat.sub_eq_add_neg, show -(0 : Rat) = 0 from rfl, Rat.add_zero]⟩
  | f :: l, a, ha, h => by
    obtain ⟨h1, h2⟩ := sub_fold l (fsub a f) (fsub_f ha h.hd) h.tl
    refine ⟨h1, ?_⟩
    show rv (l.foldl fsub (fsub a f)) = rv a - (rv f + rsum l)
    rw [h2, rv_sub ha h.hd, Rat.sub_eq_add_neg, Rat.sub_eq_add_neg, Rat.sub_eq_add_neg, Rat.neg_add, Rat.add_assoc]
/-- one division, where it is one -/
def ddiv (a f : Int × Int) : Int × Int := if f.1 ≠ 0 ∧ a.1 ≠ 0 then fdiv a f else a
theorem ddiv_f {a f : Int × Int} (ha : IsF a) (hf : IsF f) : IsF (ddiv a f) := by
  unfold ddiv
  split
  · exact fdiv_f ha (by rename_i h; exact h.1)
  · exact ha
theorem div_fold0 : ∀ (l : List (Int × Int)) (a : Int × Int), a.1 = 0 → l.foldl ddiv a = a
  | [], _, _ => rfl
  | f :: l, a, h => by
    show l.foldl ddiv (ddiv a f) = a
    have e : ddiv a f = a := if_neg fun z => z.2 h
    rw [e]
    exact div_fold0 l a h
theorem div_fold : ∀ (l : List (Int × Int)) (a : Int × Int), IsF a → AllF l → (∀ f ∈ l, f.1 ≠ 0) → a.1 ≠ 0 → IsF (l.foldl ddiv a) ∧ rv (l.foldl ddiv a) * rprod l = rv a
  | [], a, ha, _, _, _ => ⟨ha, Rat.mul_one _⟩
  | f :: l, a, ha, h, h0, ha0 => by
    have hf0 : f.1 ≠ 0 := h0 f List.mem_cons_self
    have e : ddiv a f = fdiv a f := if_pos ⟨hf0, ha0⟩
    have hq := fdiv_f (g := f) ha hf0
    have rq := rv_div (g := f) ha hf0
    have rf0 : rv f ≠ 0 := fun z => hf0 ((rv_zero h.hd).mp z)
    have hb : rv (fdiv a f) * rv f = rv a := by rw [rq, Rat.mul_assoc, Rat.inv_mul_cancel _ rf0, Rat.mul_one]
    have hq0 : (fdiv a f).1 ≠ 0 := fun z => by
      have := (rv_zero hq).mpr z
      rw [this, Rat.zero_mul] at hb
      exact ha0 ((rv_zero ha).mp hb.symm)
    obtain ⟨h1, h2⟩ := div_fold l (fdiv a f) hq h.tl (fun g hg => h0 g (List.mem_cons_of_mem _ hg)) hq0
    show IsF (l.foldl ddiv (ddiv a f)) ∧ rv (l.foldl ddiv (ddiv a f)) * (rv f * rprod l) = rv a
    rw [e]
    refine ⟨h1, ?_⟩
    rw [Rat.mul_comm (rv f), ← Rat.mul_assoc, h2, hb]
theorem rprod0 : ∀ {l : List (Int × Int)}, AllF l → (rprod l = 0 ↔ ∃ f ∈ l, f.1 = 0)
  | [], _ => ⟨fun e => absurd e (by decide), fun ⟨_, h, _⟩ => nomatch h⟩
  | f :: l, h => by
    show rv f * rprod l = 0 ↔ _
    rw [Rat.mul_eq_zero, rv_zero h.hd, rprod0 h.tl]
    constructor
    · rintro (e | ⟨g, hg, e⟩)
      · exact ⟨f, List.mem_cons_self, e⟩
      · exact ⟨g, List.mem_cons_of_mem _ hg, e⟩
    · rintro ⟨g, hg, e⟩
      rcases List.mem_cons.mp hg with z | z
      · exact Or.inl (z ▸ e)
      · exact Or.inr ⟨g, z, e⟩
/-- told in two orders the same -/
theorem sum_same {l m : List (Int × Int)} (p : l.Perm m) (h : AllF l) : l.foldl fadd f0 = m.foldl fadd f0 := by
  have hm : AllF m := fun f hf => h f (p.mem_iff.mpr hf)
  obtain ⟨a1, a2⟩ := sum_fold l f0 f0_f h
  obtain ⟨b1, b2⟩ := sum_fold m f0 f0_f hm
  exact rv_inj a1 b1 (by rw [a2, b2, rsum_perm p])
theorem mul_same {l m : List (Int × Int)} (p : l.Perm m) (h : AllF l) : l.foldl fmul f1 = m.foldl fmul f1 := by
  have hm : AllF m := fun f hf => h f (p.mem_iff.mpr hf)
  obtain ⟨a1, a2⟩ := mul_fold l f1 f1_f h
  obtain ⟨b1, b2⟩ := mul_fold m f1 f1_f hm
  exact rv_inj a1 b1 (by rw [a2, b2, rprod_perm p])
theorem sub_none {l m : List (Int × Int)} (p : l.Perm m) (h : AllF l) : m.foldl fsub (l.foldl fadd f0) = f0 := by
  have hm : AllF m := fun f hf => h f (p.mem_iff.mpr hf)
  obtain ⟨a1, a2⟩ := sum_fold l f0 f0_f h
  obtain ⟨b1, b2⟩ := sub_fold m _ a1 hm
  exact rv_inj b1 f0_f (by rw [b2, a2, rv0, Rat.zero_add, rsum_perm p, Rat.sub_self])
theorem div_none {l m : List (Int × Int)} (p : l.Perm m) (h : AllF l) : m.foldl ddiv (l.foldl fmul f1) = if f0 ∈ l then f0 else f1 := by
  have hm : AllF m := fun f hf => h f (p.mem_iff.mpr hf)
  obtain ⟨a1, a2⟩ := mul_fold l f1 f1_f h
  rw [rv1, Rat.one_mul] at a2
  by_cases hz : f0 ∈ l
  · rw [if_pos hz]
    have z : rprod l = 0 := (rprod0 h).mpr ⟨f0, hz, rfl⟩
    have z1 : (l.foldl fmul f1).1 = 0 := (rv_zero a1).mp (a2.trans z)
    rw [div_fold0 _ _ z1]
    exact (is0 a1).mp z1
  · rw [if_neg hz]
    have nz : ∀ f ∈ l, f.1 ≠ 0 := fun f hf e => hz ((is0 (h f hf)).mp e ▸ hf)
    have np : rprod l ≠ 0 := fun e => by
      obtain ⟨f, hf, e'⟩ := (rprod0 h).mp e
      exact nz f hf e'
    have n1 : (l.foldl fmul f1).1 ≠ 0 := fun e => np (a2.symm.trans ((rv_zero a1).mpr e))
    obtain ⟨b1, b2⟩ := div_fold m _ a1 hm (fun f hf => nz f (p.mem_iff.mpr hf)) n1
    refine rv_inj b1 f1_f ?_
    rw [a2, rprod_perm p] at b2
    have np' : rprod m ≠ 0 := by rw [← rprod_perm p]; exact np
    have : rv (m.foldl ddiv (l.foldl fmul f1)) * rprod m * (rprod m)⁻¹ = rprod m * (rprod m)⁻¹ := by rw [b2]
    rw [Rat.mul_assoc, Rat.mul_inv_cancel _ np', Rat.mul_one] at this
    rw [this, rv1]
/-- one fraction times a sum is the sum of its products -/
theorem spread_fold (x : Int × Int) (hx : IsF x) : ∀ (l : List (Int × Int)) (a : Int × Int), IsF a → AllF l → IsF (l.foldl (fun a f => fadd a (fmul x f)) a) ∧ rv (l.foldl (fun a f => fadd a (fmul x f)) a) = rv a + rv x * rsum l
  | [], a, ha, _ => ⟨ha, by show rv a = rv a + rv x * 0; rw [Rat.mul_zero, Rat.add_zero]⟩
  | f :: l, a, ha, h => by
    obtain ⟨h1, h2⟩ := spread_fold x hx l (fadd a (fmul x f)) (fadd_f ha (fmul_f hx h.hd)) h.tl
    refine ⟨h1, ?_⟩
    show rv (l.foldl (fun a f => fadd a (fmul x f)) (fadd a (fmul x f))) = rv a + rv x * (rv f + rsum l)
    rw [h2, rv_add ha (fmul_f hx h.hd), rv_mul hx h.hd, Rat.mul_add, Rat.add_assoc]
theorem spread_same {x : Int × Int} {l : List (Int × Int)} (hx : IsF x) (h : AllF l) : l.foldl (fun a f => fadd a (fmul x f)) f0 = fmul (fmul f1 x) (l.foldl fadd f0) := by
  obtain ⟨a1, a2⟩ := spread_fold x hx l f0 f0_f h
  obtain ⟨b1, b2⟩ := sum_fold l f0 f0_f h
  have c := fmul_f f1_f hx
  refine rv_inj a1 (fmul_f c b1) ?_
  rw [a2, rv_mul c b1, rv_mul f1_f hx, b2, rv0, rv1, Rat.one_mul, Rat.zero_add, Rat.zero_add]
/-! sizes -/
def Bt (k : Nat) (f : Int × Int) : Prop := f.1.natAbs < 2 ^ k ∧ f.2.natAbs < 2 ^ k
theorem Bt.mono {j k : Nat} {f : Int × Int} (h : Bt j f) (hk : j ≤ k) : Bt k f :=
  ⟨Nat.lt_of_lt_of_le h.1 (Nat.pow_le_pow_right (by decide) hk), Nat.lt_of_lt_of_le h.2 (Nat.pow_le_pow_right (by decide) hk)⟩
theorem mul_lt {a b : Int} {j k : Nat} (ha : a.natAbs < 2 ^ j) (hb : b.natAbs < 2 ^ k) : (a * b).natAbs < 2 ^ (j + k) := by
  rw [Int.natAbs_mul, Nat.pow_add]
  exact Nat.mul_lt_mul'' ha hb
theorem low_bt {n d : Int} {k : Nat} (h : d ≠ 0) (hn : n.natAbs < 2 ^ k) (hd : d.natAbs < 2 ^ k) : Bt k (low n d) :=
  ⟨Nat.lt_of_le_of_lt (low_top_le h) hn, Nat.lt_of_le_of_lt (low_bottom_le h) hd⟩
section
variable {f g : Int × Int} {j k : Nat}
theorem fadd_bt (hf : IsF f) (hg : IsF g) (a : Bt k f) (b : Bt j g) : Bt (k + j + 1) (fadd f g) := by
  have h1 := mul_lt a.1 b.2
  have h2 := mul_lt a.2 b.1
  have h3 := mul_lt a.2 b.2
  have h4 := Int.natAbs_add_le (f.1 * g.2) (g.1 * f.2)
  rw [Int.mul_comm g.1] at h4
  have h5 : (2 : Nat) ^ (k + j + 1) = 2 ^ (k + j) + 2 ^ (k + j) := Nat.two_pow_succ _
  refine low_bt (Int.mul_ne_zero hf.ne hg.ne) ?_ (by omega)
  rw [Int.mul_comm g.1]
  omega
theorem fsub_bt (hf : IsF f) (hg : IsF g) (a : Bt k f) (b : Bt j g) : Bt (k + j + 1) (fsub f g) := by
  have h1 := mul_lt a.1 b.2
  have h2 := mul_lt a.2 b.1
  have h3 := mul_lt a.2 b.2
  have h4 := Int.natAbs_sub_le (f.1 * g.2) (g.1 * f.2)
  rw [Int.mul_comm g.1] at h4
  have h5 : (2 : Nat) ^ (k + j + 1) = 2 ^ (k + j) + 2 ^ (k + j) := Nat.two_pow_succ _
  refine low_bt (Int.mul_ne_zero hf.ne hg.ne) ?_ (by omega)
  rw [Int.mul_comm g.1]
  omega
theorem fmul_bt (hf : IsF f) (hg : IsF g) (a : Bt k f) (b : Bt j g) : Bt (k + j) (fmul f g) :=
  low_bt (Int.mul_ne_zero hf.ne hg.ne) (mul_lt a.1 b.1) (mul_lt a.2 b.2)
theorem fdiv_bt (hf : IsF f) (h0 : g.1 ≠ 0) (a : Bt k f) (b : Bt j g) : Bt (k + j) (fdiv f g) :=
  low_bt (Int.mul_ne_zero hf.ne h0) (mul_lt a.1 b.2) (mul_lt a.2 b.1)
theorem ddiv_bt (hf : IsF f) (a : Bt k f) (b : Bt j g) : Bt (k + j) (ddiv f g) := by
  unfold ddiv
  split
  · rename_i h
    exact fdiv_bt hf h.1 a b
  · exact a.mono (Nat.le_add_right _ _)
end
end Lf

set_option Elab.async false
set_option linter.all false
set_option maxRecDepth 100000
set_option maxHeartbeats 4000000
set_option exponentiation.threshold 3000
/-! Fractions that stand in the heap or among the module's constants, and rows of them. -/
namespace Lf
open PySem PySem.Spec PyProof.Rows L2
/-- a fraction stands at v -/
def AtK (K : PySem.W.Frag) (H : Hp) (v : V) (f : Int × Int) : Prop := ∃ p, v = .ref p ∧ SqT K H p [.int f.1, .int f.2]
theorem AtK.same {K : PySem.W.Frag} {H H' : Hp} {v : V} {f : Int × Int} (s : Same H H') (h : AtK K H v f) : AtK K H' v f := by
  obtain ⟨p, e, h⟩ := h
  refine ⟨p, e, ?_⟩
  rcases h with (h | ⟨o, h⟩) | h
  · exact .inl (.inl (s _ _ h))
  · exact .inl (.inr ⟨o, s _ _ h⟩)
  · exact .inr h
theorem AtK.of {K : PySem.W.Frag} {H : Hp} {p : Addr} {f : Int × Int} (h : H p = some (.tup [.int f.1, .int f.2])) : AtK K H (.ref p) f := ⟨p, rfl, .inl (.inl h)⟩
/-- fractions stand at vs -/
def AtKs (K : PySem.W.Frag) (H : Hp) (vs : List V) (fs : List (Int × Int)) : Prop := Paired (AtK K H) vs fs
theorem AtKs.map {K : PySem.W.Frag} {H H' : Hp} (s : ∀ v f, AtK K H v f → AtK K H' v f) : ∀ {vs : List V} {fs : List (Int × Int)}, AtKs K H vs fs → AtKs K H' vs fs
  | _, _, .nil => .nil
  | _, _, .cons a r => .cons (s _ _ a) (AtKs.map s r)
theorem AtKs.same {K : PySem.W.Frag} {H H' : Hp} (s : Same H H') {vs : List V} {fs : List (Int × Int)} (h : AtKs K H vs fs) : AtKs K H' vs fs := h.map fun _ _ => AtK.same s
theorem AtKs.get {K : PySem.W.Frag} {H : Hp} : ∀ {vs : List V} {fs : List (Int × Int)} {i : Nat} {v : V}, AtKs K H vs fs → vs[i]? = some v → ∃ f, fs[i]? = some f ∧ AtK K H v f
  | _, _, _, _, .nil, e => by simp at e
  | _, _, 0, _, .cons a _, e => by
    simp at e
    subst e
    exact ⟨_, rfl, a⟩
  | _, _, i + 1, v, .cons _ r, e => by
    obtain ⟨f, h1, h2⟩ := AtKs.get (i := i) (v := v) r (by simpa using e)
    exact ⟨f, by simpa using h1, h2⟩
theorem AtKs.getF {K : PySem.W.Frag} {H : Hp} : ∀ {vs : List V} {fs : List (Int × Int)} {i : Nat} {f : Int × Int}, AtKs K H vs fs → fs[i]? = some f → ∃ v, vs[i]? = some v ∧ AtK K H v f
  | _, _, _, _, .nil, e => by simp at e
  | _, _, 0, _, .cons a _, e => by
    simp at e
    subst e
    exact ⟨_, rfl, a⟩
  | _, _, i + 1, f, .cons _ r, e => by
    obtain ⟨v, h1, h2⟩ := AtKs.getF (i := i) (f := f) r (by simpa using e)
    exact ⟨v, by simpa using h1, h2⟩
theorem AtKs.length {K : PySem.W.Frag} {H : Hp} {vs : List V} {fs : List (Int × Int)} (h : AtKs K H vs fs) : vs.length = fs.length := Paired.length h
theorem AtKs.app {K : PySem.W.Frag} {H : Hp} : ∀ {vs us : List V} {fs gs : List (Int × Int)}, AtKs K H vs fs → AtKs K H us gs → AtKs K H (vs ++ us) (fs ++ gs)
  | _, _, _, _, .nil, h => h
  | _, _, _, _, .cons a r, h => .cons a (AtKs.app r h)
theorem fold_take {α β : Type} (g : β → α → β) (a : β) {l : List α} {i : Nat} {x : α} (h : l[i]? = some x) : (l.take (i + 1)).foldl g a = g ((l.take i).foldl g a) x := by
  rw [List.take_add_one, h, List.foldl_append]
  rfl
theorem take_all {l : List (Int × Int)} (h : AllF l) (i : Nat) : AllF (l.take i) := fun f hf => h f (List.mem_of_mem_take hf)
def AllB (b : Nat) (l : List (Int × Int)) : Prop := ∀ f ∈ l, Bt b f
theorem add_bt {b : Nat} : ∀ (l : List (Int × Int)) (k : Nat) (a : Int × Int), IsF a → AllF l → Bt k a → AllB b l → Bt (k + (b + 1) * l.length) (l.foldl fadd a)
  | [], _, _, _, _, h, _ => h
  | f :: l, k, a, ha, h, hk, hb => by
    have := add_bt l (k + b + 1) (fadd a f) (fadd_f ha h.hd) h.tl (fadd_bt ha h.hd hk (hb f List.mem_cons_self)) (fun g hg => hb g (List.mem_cons_of_mem _ hg))
    refine this.mono ?_
    rw [List.length_cons, Nat.mul_succ]
    omega
theorem bt01 : Bt 1 f0 ∧ Bt 1 f1 := ⟨⟨by decide, by decide⟩, ⟨by decide, by decide⟩⟩
theorem fadd_0 {f : Int × Int} (h : IsF f) : fadd f0 f = f := by
  refine rv_inj (fadd_f f0_f h) h ?_
  rw [rv_add f0_f h, rv0]
  exact Rat.zero_add _
/-- what holds by two promises holds by either -/
theorem FnG.or {P : Program} {w : World} {K : PySem.W.Frag} {mg : Str → Option Value} {base : Heap} {CX : CXT} {k : Nat} {f : Addr} {fd : FuncData} {ps : List Str} {sp sq : Sp} (F : FnG P w K mg base CX k f fd ps sp) (G : FnG P w K mg base CX k f fd ps sq) :
    FnG P w K mg base CX k f fd ps (fun vs H Q E => sp vs H Q E ∨ sq vs H Q E) :=
  ⟨fun vs H Q E h => h.elim (F.size vs H Q E) (G.size vs H Q E), fun B out s H ar us vs Q E r hg e0 hb hv h => h.elim (F.goes B out s H ar us vs Q E r hg e0 hb hv) (G.goes B out s H ar us vs Q E r hg e0 hb hv)⟩
end Lf

set_option Elab.async false
set_option linter.all false
set_option maxRecDepth 100000
set_option maxHeartbeats 4000000
set_option exponentiation.threshold 3000
namespace Lf
open PySem PySem.Spec PyProof.Rows L2
theorem Bt.sm {k : Nat} {f : Int × Int} (h : Bt k f) (hk : k ≤ 900) : Sm f.1 ∧ Sm f.2 := ⟨(h.mono hk).1, (h.mono hk).2⟩
theorem pr_sq {K : PySem.W.Frag} {H : Hp} {p q : Addr} {f g : Int × Int} {j k : Nat} (hp : SqT K H p [.int f.1, .int f.2]) (hq : SqT K H q [.int g.1, .int g.2]) (hf : IsF f) (hg : IsF g) (bf : Bt j f) (bg : Bt k g) (hj : j ≤ 900) (hk : k ≤ 900) : Pr K H [.ref p, .ref q] f.1 f.2 g.1 g.2 :=
  ⟨⟨p, q, rfl, hp, hq⟩, hf.ne, hg.ne, (bf.sm hj).1, (bf.sm hj).2, (bg.sm hk).1, (bg.sm hk).2⟩
theorem pr_atk {K : PySem.W.Frag} {H : Hp} {v u : V} {f g : Int × Int} {j k : Nat} (hv : AtK K H v f) (hu : AtK K H u g) (hf : IsF f) (hg : IsF g) (bf : Bt j f) (bg : Bt k g) (hj : j ≤ 900) (hk : k ≤ 900) : Pr K H [v, u] f.1 f.2 g.1 g.2 := by
  obtain ⟨p, rfl, hp⟩ := hv
  obtain ⟨q, rfl, hq⟩ := hu
  exact pr_sq hp hq hf hg bf bg hj hk
section
variable {P : Program} {w : World} {K : PySem.W.Frag} {mg : Str → Option Value} {base : Heap}

/-! ### together -/
theorem sc_together : FnScope ["ones", "told", "one"] ["ones"] (defScope s_together) := ⟨rfl, rfl, rfl, by decide +kernel, rfl, by decide +kernel, by decide +kernel⟩
/-- fractions of a row, added up -/
def sp_togL (K : PySem.W.Frag) : Sp := fun vs H Q _ => ∃ (L : Addr) (xs : List V) (fs : List (Int × Int)) (b : Nat), vs = [.ref L] ∧ SqL K H L xs ∧ AtKs K H xs fs ∧ AllF fs ∧ AllB b fs ∧ b ≤ 900 ∧ 1 + (b + 1) * fs.length ≤ 900 ∧
  ∀ (H' : Hp) (v : V), Same H H' → AtK K H' v (fs.foldl fadd f0) → Q v H'
theorem ok_togL {f c0 : Addr} {fd : FuncData} (g0 : mg "NONE_OF_IT" = some (.ref c0)) (t0 : ∀ H, SqT K H c0 [.int 0, .int 1]) (F : Fun K "together" "together" s_together f fd) (C_plus : Cal P w K mg base CX0 5 "plus" ["one", "other"] (sp_plus K)) : FnG P w K mg base CX0 6 f fd ["ones"] (sp_togL K) := by
  refine Gfun F sc_together (fun vs H Q E h => ?_) (fun cdv A outer s H vs Q E hg hr h => ?_)
  · obtain ⟨L, xs, fs, b, rfl, _⟩ := h
    rfl
  · obtain ⟨L, xs, fs, b, rfl, hS, hA, hF, hB, hb8, hlen, k⟩ := h
    refine ⟨_, (pss_cons (ps_set (i := 1) sc_together.nd rfl (.inl rfl) (pe_glob (v := .ref c0) rfl g0 rfl))
      (pss_cons (ps_for PassesOwn.never rfl (pi_list (pv 0)) (pg_name (i := 2) sc_together.nd rfl (.inl rfl))
      (pss_one (ps_set (i := 1) sc_together.nd rfl (.inl rfl) (pe_g C_plus (hr.mono (by decide)) hg (pa_cons (pv 1) (pa_cons (pv 2) pa_nil))))))
      (pss_one (ps_ret (pv 1))))), ?_⟩
    refine ⟨_, rfl, L, rfl, ⟨_, hS⟩, for_list (K := K) (a := L) (xs := xs) (fun i σ H' => ∃ (v : Option V) (t : V), σ = [some (.ref L), some t, v] ∧ Same H H' ∧ AtK K H' t ((fs.take i).foldl fadd f0))
      ⟨none, .ref c0, rfl, same_rfl, ⟨c0, rfl, t0 H⟩⟩ (fun i σ H' _ ⟨_, _, _, sm, _⟩ => sm.seq hS) ?_ ?_⟩
    · rintro i x σ H' hi ⟨v, t, rfl, sm, ht⟩
      obtain ⟨g, hgi, hx0⟩ := hA.get hi
      have hx := hx0.same sm
      have hgf : IsF g := hF g (List.mem_of_getElem? hgi)
      have bg : Bt b g := hB g (List.mem_of_getElem? hgi)
      have hil : i < fs.length := (List.getElem?_eq_some_iff.mp hgi).1
      have htl : (fs.take i).length = i := by rw [List.length_take]; omega
      have hmn : (b + 1) * i ≤ (b + 1) * fs.length := Nat.mul_le_mul_left _ (Nat.le_of_lt hil)
      have fa := (sum_fold (fs.take i) f0 f0_f (take_all hF i)).1
      have ba := add_bt (b := b) (fs.take i) 1 f0 f0_f (take_all hF i) bt01.1 (fun f hf => hB f (List.mem_of_mem_take hf))
      rw [htl] at ba
      refine ⟨_, rfl, _, rfl, _, _, _, _, pr_atk ht hx fa hgf ba bg (by omega) hb8, fun H2 t' s2 e2 => ?_⟩
      refine ⟨some x, _, rfl, sm.trans s2, ?_⟩
      rw [fold_take _ _ hgi]
      exact AtK.of e2
    · rintro σ H' ⟨v, t, rfl, sm, ht⟩
      refine ⟨_, rfl, k H' t sm ?_⟩
      rw [hA.length, List.take_length] at ht
      exact ht

/-- fractions of a row, added up -/
def sp_togT (K : PySem.W.Frag) : Sp := fun vs H Q _ => ∃ (L : Addr) (xs : List V) (fs : List (Int × Int)) (b : Nat), vs = [.ref L] ∧ SqT K H L xs ∧ AtKs K H xs fs ∧ AllF fs ∧ AllB b fs ∧ b ≤ 900 ∧ 1 + (b + 1) * fs.length ≤ 900 ∧
  ∀ (H' : Hp) (v : V), Same H H' → AtK K H' v (fs.foldl fadd f0) → Q v H'
theorem ok_togT {f c0 : Addr} {fd : FuncData} (g0 : mg "NONE_OF_IT" = some (.ref c0)) (t0 : ∀ H, SqT K H c0 [.int 0, .int 1]) (F : Fun K "together" "together" s_together f fd) (C_plus : Cal P w K mg base CX0 5 "plus" ["one", "other"] (sp_plus K)) : FnG P w K mg base CX0 6 f fd ["ones"] (sp_togT K) := by
  refine Gfun F sc_together (fun vs H Q E h => ?_) (fun cdv A outer s H vs Q E hg hr h => ?_)
  · obtain ⟨L, xs, fs, b, rfl, _⟩ := h
    rfl
  · obtain ⟨L, xs, fs, b, rfl, hS, hA, hF, hB, hb8, hlen, k⟩ := h
    refine ⟨_, (pss_cons (ps_set (i := 1) sc_together.nd rfl (.inl rfl) (pe_glob (v := .ref c0) rfl g0 rfl))
      (pss_cons (ps_for PassesOwn.never rfl (pi_tup (pv 0)) (pg_name (i := 2) sc_together.nd rfl (.inl rfl))
      (pss_one (ps_set (i := 1) sc_together.nd rfl (.inl rfl) (pe_g C_plus (hr.mono (by decide)) hg (pa_cons (pv 1) (pa_cons (pv 2) pa_nil))))))
      (pss_one (ps_ret (pv 1))))), ?_⟩
    refine ⟨_, rfl, L, rfl, ⟨_, hS⟩, for_tup (K := K) (a := L) (xs := xs) (fun i σ H' => ∃ (v : Option V) (t : V), σ = [some (.ref L), some t, v] ∧ Same H H' ∧ AtK K H' t ((fs.take i).foldl fadd f0))
      ⟨none, .ref c0, rfl, same_rfl, ⟨c0, rfl, t0 H⟩⟩ (fun i σ H' _ ⟨_, _, _, sm, _⟩ => sm_t sm hS) ?_ ?_⟩
    · rintro i x σ H' hi ⟨v, t, rfl, sm, ht⟩
      obtain ⟨g, hgi, hx0⟩ := hA.get hi
      have hx := hx0.same sm
      have hgf : IsF g := hF g (List.mem_of_getElem? hgi)
      have bg : Bt b g := hB g (List.mem_of_getElem? hgi)
      have hil : i < fs.length := (List.getElem?_eq_some_iff.mp hgi).1
      have htl : (fs.take i).length = i := by rw [List.length_take]; omega
      have hmn : (b + 1) * i ≤ (b + 1) * fs.length := Nat.mul_le_mul_left _ (Nat.le_of_lt hil)
      have fa := (sum_fold (fs.take i) f0 f0_f (take_all hF i)).1
      have ba := add_bt (b := b) (fs.take i) 1 f0 f0_f (take_all hF i) bt01.1 (fun f hf => hB f (List.mem_of_mem_take hf))
      rw [htl] at ba
      refine ⟨_, rfl, _, rfl, _, _, _, _, pr_atk ht hx fa hgf ba bg (by omega) hb8, fun H2 t' s2 e2 => ?_⟩
      refine ⟨some x, _, rfl, sm.trans s2, ?_⟩
      rw [fold_take _ _ hgi]
      exact AtK.of e2
    · rintro σ H' ⟨v, t, rfl, sm, ht⟩
      refine ⟨_, rfl, k H' t sm ?_⟩
      rw [hA.length, List.take_length] at ht
      exact ht

end
end Lf

set_option Elab.async false
set_option linter.all false
set_option maxRecDepth 100000
set_option maxHeartbeats 4000000
set_option exponentiation.threshold 3000
/-! Weights, steps, how often a step goes into weights, aims. -/
namespace Lf
theorem low_b {n d : Int} (hd : 0 < d) : 0 < (low n d).2 := (low_is (n := n) (by omega)).1
theorem low_top_pos {n d : Int} (hd : 0 < d) (hn : 0 < n) : 0 < (low n d).1 := by
  have h := low_cross (n := n) (d := d) (by omega)
  have hb := low_b (n := n) hd
  have : 0 < (low n d).1 * d := by rw [h]; exact Int.mul_pos hn hb
  exact Int.pos_of_mul_pos_left this hd
theorem low_top_nn {n d : Int} (hd : 0 < d) (hn : 0 ≤ n) : 0 ≤ (low n d).1 := by
  have h := low_cross (n := n) (d := d) (by omega)
  have hb := low_b (n := n) hd
  have h2 : 0 ≤ (low n d).1 * d := by rw [h]; exact Int.mul_nonneg hn (Int.le_of_lt hb)
  exact Int.nonneg_of_mul_nonneg_left h2 hd
theorem fdiv_pos_eq {a b : Int} (h : 0 < b) : a.fdiv b = a / b := Int.fdiv_eq_ediv_of_nonneg a (Int.le_of_lt h)
theorem low_fl {n d : Int} (hd : 0 < d) : (low n d).1.fdiv (low n d).2 = n.fdiv d := by
  have h := low_cross (n := n) (d := d) (by omega)
  have hb := low_b (n := n) hd
  rw [fdiv_pos_eq hb, fdiv_pos_eq hd]
  have e1 : d * (low n d).1 / (d * (low n d).2) = (low n d).1 / (low n d).2 := Int.mul_ediv_mul_of_pos _ _ hd
  have e2 : (low n d).2 * n / ((low n d).2 * d) = n / d := Int.mul_ediv_mul_of_pos _ _ hb
  rw [← e1, ← e2, Int.mul_comm d (low n d).1, h, Int.mul_comm n, Int.mul_comm d]
/-- at most c -/
def Vb (c : Int) (f : Int × Int) : Prop := f.1 ≤ c * f.2
theorem vb_low {n d c : Int} (hd : 0 < d) (h : n ≤ c * d) : Vb c (low n d) := by
  have hc := low_cross (n := n) (d := d) (by omega)
  have hb := low_b (n := n) hd
  unfold Vb
  have h1 : (low n d).1 * d ≤ (c * (low n d).2) * d := by
    rw [hc]
    have := Int.mul_le_mul_of_nonneg_right h (Int.le_of_lt hb)
    have e : c * d * (low n d).2 = c * (low n d).2 * d := by grind
    omega
  exact Int.le_of_mul_le_mul_right h1 hd
theorem vb_add {f g : Int × Int} {c e : Int} (hf : IsF f) (hg : IsF g) (h : Vb c f) (k : Vb e g) : Vb (c + e) (fadd f g) := by
  have h2 : 0 < f.2 := hf.1
  have k2 : 0 < g.2 := hg.1
  refine vb_low (Int.mul_pos h2 k2) ?_
  have a := Int.mul_le_mul_of_nonneg_right h (Int.le_of_lt k2)
  have b := Int.mul_le_mul_of_nonneg_right k (Int.le_of_lt h2)
  have e1 : c * f.2 * g.2 + e * g.2 * f.2 = (c + e) * (f.2 * g.2) := by grind
  omega
theorem vb_fold {C : Int} : ∀ (l : List (Int × Int)) (c : Int) (a : Int × Int), IsF a → AllF l → Vb c a → (∀ f ∈ l, Vb C f) → Vb (c + C * l.length) (l.foldl fadd a)
  | [], c, a, _, _, h, _ => by simpa using h
  | f :: l, c, a, ha, h, hk, hb => by
    have := vb_fold l (c + C) (fadd a f) (fadd_f ha h.hd) h.tl (vb_add ha h.hd hk (hb f List.mem_cons_self)) (fun g hg => hb g (List.mem_cons_of_mem _ hg))
    rw [List.length_cons]
    have e : c + C + C * (l.length : Int) = c + C * ((l.length + 1 : Nat) : Int) := by
      rw [Int.natCast_add, Int.mul_add]
      omega
    rw [← e]
    exact this
/-- a weight -/
structure Wt (f : Int × Int) : Prop where
  lo : IsF f
  po : 0 < f.1
  bt : Bt 41 f
theorem Wt.vb {f : Int × Int} (h : Wt f) : Vb (2 ^ 41) f := by
  unfold Vb
  have h1 := h.bt.1
  have h2 : 0 < f.2 := h.lo.1
  have h3 : f.1 < 2 ^ 41 := by
    have := h.po
    omega
  have : (2 : Int) ^ 41 * 1 ≤ 2 ^ 41 * f.2 := Int.mul_le_mul_of_nonneg_left (by omega) (by decide)
  omega
/-- weights -/
structure Wts (fs : List (Int × Int)) : Prop where
  all : ∀ f ∈ fs, Wt f
  one : 1 ≤ fs.length
  few : fs.length ≤ 12
theorem Wts.f {fs : List (Int × Int)} (h : Wts fs) : AllF fs := fun f hf => (h.all f hf).lo
theorem Wts.b {fs : List (Int × Int)} (h : Wts fs) : AllB 41 fs := fun f hf => (h.all f hf).bt
def tot (fs : List (Int × Int)) : Int × Int := fs.foldl fadd f0
theorem tot_f {fs : List (Int × Int)} (h : AllF fs) : IsF (tot fs) := (sum_fold fs f0 f0_f h).1
theorem tot_bt {fs : List (Int × Int)} (h : Wts fs) : Bt 505 (tot fs) := by
  have := add_bt (b := 41) fs 1 f0 f0_f h.f bt01.1 h.b
  refine this.mono ?_
  have := h.few
  omega
theorem fold_pos : ∀ (l : List (Int × Int)) (a : Int × Int), IsF a → AllF l → (∀ f ∈ l, 0 < f.1) → 0 ≤ a.1 → (l ≠ [] ∨ 0 < a.1) → 0 < (l.foldl fadd a).1
  | [], a, _, _, _, _, h => h.elim (fun z => absurd rfl z) id
  | f :: l, a, ha, hF, hp, h0, _ => by
    have h2 : 0 < a.2 := ha.1
    have k2 : 0 < f.2 := hF.hd.1
    have hpos : 0 < (fadd a f).1 := by
      refine low_top_pos (Int.mul_pos h2 k2) ?_
      have a1 := Int.mul_nonneg h0 (Int.le_of_lt k2)
      have a2 := Int.mul_pos (hp f List.mem_cons_self) h2
      omega
    exact fold_pos l (fadd a f) (fadd_f ha hF.hd) hF.tl (fun g hg => hp g (List.mem_cons_of_mem _ hg)) (Int.le_of_lt hpos) (.inr hpos)
theorem tot_pos {fs : List (Int × Int)} (h : Wts fs) : 0 < (tot fs).1 := by
  refine fold_pos fs f0 f0_f h.f (fun f hf => (h.all f hf).po) (by decide) (.inl fun z => ?_)
  have := h.one
  rw [z] at this
  cases this
theorem tot_vb {fs : List (Int × Int)} (h : Wts fs) : Vb (2 ^ 45) (tot fs) := by
  have v := vb_fold (C := 2 ^ 41) fs 0 f0 f0_f h.f (by unfold Vb; decide) (fun f hf => (h.all f hf).vb)
  unfold Vb at v ⊢
  have hb : 0 < (tot fs).2 := (tot_f h.f).1
  have h12 : (0 : Int) + 2 ^ 41 * (fs.length : Int) ≤ 2 ^ 45 := by
    have := h.few
    omega
  have := Int.mul_le_mul_of_nonneg_right h12 (Int.le_of_lt hb)
  show (tot fs).1 ≤ _
  have v' : (tot fs).1 ≤ (0 + 2 ^ 41 * (fs.length : Int)) * (tot fs).2 := v
  omega
/-- how often the step goes into the weights -/
def many (fs : List (Int × Int)) (st : Int × Int) : Int := ((tot fs).1 * st.2).fdiv ((tot fs).2 * st.1)
theorem many_nn {fs : List (Int × Int)} {st : Int × Int} (h : Wts fs) (hs : Wt st) : 0 ≤ many fs st := by
  have hb : 0 < (tot fs).2 := (tot_f h.f).1
  have hd := Int.mul_pos hb hs.po
  unfold many
  rw [fdiv_pos_eq hd]
  exact Int.ediv_nonneg (Int.mul_nonneg (Int.le_of_lt (tot_pos h)) (Int.le_of_lt hs.lo.1)) (Int.le_of_lt hd)
theorem many_lt {fs : List (Int × Int)} {st : Int × Int} (h : Wts fs) (hs : Wt st) : (many fs st).natAbs < 2 ^ 90 := by
  have hb : 0 < (tot fs).2 := (tot_f h.f).1
  have hd := Int.mul_pos hb hs.po
  have h0 := many_nn h hs
  have hv : (tot fs).1 ≤ 2 ^ 45 * (tot fs).2 := tot_vb h
  have s2 : 0 < st.2 := hs.lo.1
  have s1 := hs.po
  have key : many fs st ≤ 2 ^ 45 * st.2 := by
    unfold many
    rw [fdiv_pos_eq hd]
    refine Int.ediv_le_of_le_mul hd ?_
    have a := Int.mul_le_mul_of_nonneg_right hv (Int.le_of_lt s2)
    have b : 2 ^ 45 * (tot fs).2 * st.2 * 1 ≤ 2 ^ 45 * (tot fs).2 * st.2 * st.1 := Int.mul_le_mul_of_nonneg_left (by omega) (Int.mul_nonneg (Int.mul_nonneg (by decide) (Int.le_of_lt hb)) (Int.le_of_lt s2))
    have e : 2 ^ 45 * (tot fs).2 * st.2 * st.1 = 2 ^ 45 * st.2 * ((tot fs).2 * st.1) := by grind
    omega
  have hb2 := hs.bt.2
  omega
theorem many_is {fs : List (Int × Int)} {st : Int × Int} (h : Wts fs) (hs : Wt st) : (fdiv (tot fs) st).1.fdiv (fdiv (tot fs) st).2 = many fs st := low_fl (Int.mul_pos (tot_f h.f).1 hs.po)
/-- all weights by how many steps -/
def factor (fs : List (Int × Int)) (st : Int × Int) : Int × Int := fdiv (many fs st, 1) (tot fs)
theorem m1_f (m : Int) : IsF (m, 1) := ⟨by show (0 : Int) < 1; decide, by show Nat.Coprime m.natAbs 1; exact Nat.coprime_one_right _⟩
theorem factor_f {fs : List (Int × Int)} {st : Int × Int} (h : Wts fs) : IsF (factor fs st) := fdiv_f (m1_f _) (by have := tot_pos h; omega)
theorem many_bt {fs : List (Int × Int)} {st : Int × Int} (h : Wts fs) (hs : Wt st) : Bt 90 (many fs st, 1) := ⟨many_lt h hs, by show (1 : Int).natAbs < 2 ^ 90; decide⟩
theorem factor_bt {fs : List (Int × Int)} {st : Int × Int} (h : Wts fs) (hs : Wt st) : Bt 595 (factor fs st) := fdiv_bt (m1_f _) (by have := tot_pos h; omega) (many_bt h hs) (tot_bt h)
def aim (fs : List (Int × Int)) (st f : Int × Int) : Int × Int := fmul f (factor fs st)
theorem aim_f {fs : List (Int × Int)} {st f : Int × Int} (h : Wts fs) (hf : Wt f) : IsF (aim fs st f) := fmul_f hf.lo (factor_f h)
theorem aim_bt {fs : List (Int × Int)} {st f : Int × Int} (h : Wts fs) (hs : Wt st) (hf : Wt f) : Bt 636 (aim fs st f) := fmul_bt hf.lo (factor_f h) hf.bt (factor_bt h hs)
/-- the aim as the law reckons it -/
theorem aim_low {fs : List (Int × Int)} {st f : Int × Int} (h : Wts fs) (hf : Wt f) : aim fs st f = low (f.1 * (tot fs).2 * many fs st) (f.2 * (tot fs).1) := by
  have t1 : (tot fs).1 ≠ 0 := by have := tot_pos h; omega
  have hd : f.2 * (tot fs).1 ≠ 0 := Int.mul_ne_zero hf.lo.ne t1
  refine rv_inj (aim_f h hf) (low_f hd) ?_
  have e : rv (aim fs st f) = rv f * rv (factor fs st) := rv_mul hf.lo (factor_f (st := st) h)
  have e2 : rv (factor fs st) = rv (many fs st, 1) * (rv (tot fs))⁻¹ := rv_div (m1_f _) t1
  rw [e, e2, rv_low hd]
  unfold rv
  rw [Rat.inv_divInt, Rat.divInt_mul_divInt, Rat.divInt_mul_divInt]
  congr 1 <;> grind
end Lf

set_option Elab.async false
set_option linter.all false
/-! Heaps without what stands at a place, and what is new in a heap. -/
namespace Lf
open PySem PySem.Spec PyProof.Rows L2
def wo (q : Addr) (H : Hp) : Hp := fun b => if b = q then none else H b
theorem wo_at {q p : Addr} {H : Hp} {o : HO} (n : p ≠ q) (e : H p = some o) : wo q H p = some o := by
  unfold wo
  rw [if_neg n]
  exact e
theorem wo_le {q : Addr} {H : Hp} : Same (wo q H) H := fun b o e => by
  unfold wo at e
  split at e
  · cases e
  · exact e
theorem wo_not {q p : Addr} {H : Hp} {o : HO} (e : wo q H p = some o) : p ≠ q := fun z => by
  unfold wo at e
  rw [if_pos z] at e
  cases e
theorem wo_wo {q : Addr} {H H' : Hp} (s : Same H H') : Same (wo q H) (wo q H') := fun b o e => wo_at (wo_not e) (s _ _ (wo_le _ _ e))
theorem wo_upd {q : Addr} {H : Hp} {o : HO} : Same (wo q H) (wo q (upd H q o)) := fun b o e => wo_at (wo_not e) (by rw [upd_ne (wo_not e)]; exact wo_le _ _ e)
/-- what is new -/
def nw (H H' : Hp) : Hp := fun b => match H b with | none => H' b | some _ => none
theorem nw_at {H H' : Hp} {p : Addr} {o : HO} (m : H p = none) (e : H' p = some o) : nw H H' p = some o := by
  unfold nw
  rw [m]
  exact e
theorem nw_of {H H' : Hp} {p : Addr} {o : HO} (e : nw H H' p = some o) : H p = none ∧ H' p = some o := by
  unfold nw at e
  cases h : H p with
  | none =>
    rw [h] at e
    exact ⟨rfl, e⟩
  | some u =>
    rw [h] at e
    cases e
theorem upd_twice {H : Hp} {a : Addr} {o o' : HO} : upd (upd H a o) a o' = upd H a o' := by
  funext b
  by_cases h : b = a
  · rw [h, upd_same, upd_same]
  · rw [upd_ne h, upd_ne h, upd_ne h]
theorem same_none {H H' : Hp} {a : Addr} (s : Same H H') (h : H' a = none) : H a = none := by
  cases e : H a with
  | none => rfl
  | some o =>
    rw [s _ _ e] at h
    cases h
end Lf

set_option Elab.async false
set_option linter.all false
set_option maxRecDepth 100000
set_option maxHeartbeats 4000000
set_option exponentiation.threshold 3000
namespace Lf
open PySem PySem.Spec PyProof.Rows L2
theorem bt_list : bootBuiltins "list" = some (.type "list") := by decide +kernel
/-- a statement that is never come to -/
theorem ps_dead {X : Cx} {st : Stmt} : PS X st (fun _ _ _ => False) := ⟨fun _ _ _ _ _ _ h => h.elim⟩
section
variable {P : Program} {w : World} {K : PySem.W.Frag} {mg : Str → Option Value} {base : Heap}
theorem isfr_t {f : Int × Int} (h : IsF f) : isFr (tD f) = true := by
  show (decide (0 < f.2) && decide (Nat.gcd f.1.natAbs f.2.natAbs = 1)) = true
  rw [decide_eq_true h.1, decide_eq_true h.2]
  rfl
theorem AtK.dq {H : Hp} {v : V} {f : Int × Int} (h : AtK K H v f) : Dq K H v (tD f) := by
  obtain ⟨p, rfl, hp⟩ := h
  exact .dp (dp2 hp) (by rfl)
/-- a row of fractions: a list or a tuple -/
def Sqx (T : Bool) (K : PySem.W.Frag) (H : Hp) (a : Addr) (xs : List V) : Prop := if T then SqT K H a xs else SqL K H a xs

/-! ### is_above_0 -/
theorem sc_is_above_0 : FnScope ["thing"] ["thing"] (defScope s_is_above_0) := ⟨rfl, rfl, rfl, by decide +kernel, rfl, by decide +kernel, by decide +kernel⟩
def sp_ab0 (K : PySem.W.Frag) : Sp := fun vs H Q _ => ∃ (v : V) (f : Int × Int), vs = [v] ∧ AtK K H v f ∧ IsF f ∧ Q (.bl (decide (0 < f.1))) H
theorem ok_ab0 {f : Addr} {fd : FuncData} (F : Fun K "is_above_0" "is_above_0" s_is_above_0 f fd) (C_is_fraction : Cal P w K mg base CX0 2 "is_fraction" ["thing"] (sp_isfr K)) : FnG P w K mg base CX0 3 f fd ["thing"] (sp_ab0 K) := by
  refine Gfun F sc_is_above_0 (fun vs H Q E h => ?_) (fun cdv A outer s H vs Q E hg hr h => ?_)
  · obtain ⟨v, d, rfl, _⟩ := h
    rfl
  · obtain ⟨v, d, rfl, hv, hf, k⟩ := h
    refine ⟨_, (pss_one (ps_ret (pe_and (pe_g C_is_fraction (hr.mono (by decide)) hg (pa_cons (pv 0) pa_nil)) (pe_one (pe_cmpR op_gt (pe_ix ix_tup (pv 0) pe_int (fun _ _ => rfl)) pe_int (nomark _)))))), ?_⟩
    refine ⟨_, rfl, v, tD d, rfl, hv.dq, ?_⟩
    rw [isfr_t hf]
    refine ⟨_, rfl, iteT ?_⟩
    obtain ⟨p, rfl, hp⟩ := hv
    exact ⟨_, rfl, p, _, _, _, rfl, rfl, hp, atI_nat (j := 0) rfl, _, _, rfl, rfl, k⟩

/-! ### are_weights -/
theorem sc_are_weights : FnScope ["thing", "one"] ["thing"] (defScope s_are_weights) := ⟨rfl, rfl, rfl, by decide +kernel, rfl, by decide +kernel, by decide +kernel⟩
def sp_arewL (K : PySem.W.Frag) : Sp := fun vs H Q _ => ∃ (a : Addr) (xs : List V) (fs : List (Int × Int)), vs = [.ref a] ∧ SqL K H a xs ∧ AtKs K H xs fs ∧ Wts fs ∧ ∀ H', Same H H' → Q (.bl true) H'
theorem ok_arewL {f : Addr} {fd : FuncData} {tk : Tok} (M : Blt mg) (Mx : Bltx mg) (ml : mg "list" = none) (G_MOST : mg "MOST_WEIGHTS" = some (.int 12 tk)) (F : Fun K "are_weights" "are_weights" s_are_weights f fd) (C_is_above_0 : Cal P w K mg base CX0 3 "is_above_0" ["thing"] (sp_ab0 K)) : FnG P w K mg base CX0 4 f fd ["thing"] (sp_arewL K) := by
  refine Gfun F sc_are_weights (fun vs H Q E h => ?_) (fun cdv A outer s H vs Q E hg hr h => ?_)
  · obtain ⟨a, xs, fs, rfl, _⟩ := h
    rfl
  · obtain ⟨a, xs, fs, rfl, hS, hA, hW, k⟩ := h
    refine ⟨_, (pss_cons (ps_if (PW.pt (pw_or (pt_not (pt_val (pe_callB call_isiT rfl Mx.isinstance bt_isinstance (pa_cons (pv 0) (pa_cons (pe_tup (pa_cons (pe_bltn (v := .ty "list") rfl ml bt_list rfl) (pa_cons (pe_bltn (v := .ty "tuple") rfl Mx.tuple bt_tuple rfl) pa_nil))) pa_nil))))) (pw_or1 (pt_not (pt_chain op_le op_le pe_int (pe_callB call_len_seq rfl M.len bt_len (pa_cons (pv 0) pa_nil)) (pe_glob (v := .int 12) rfl G_MOST ⟨_, rfl⟩))))))
      (pss_one (ps_ret pe_bl))
      pss_nil)
      (pss_one (ps_ret (pe_callB (cr_all rfl) rfl M.all bt_all (pa_cons (pe_lc (own := [("one", 1)]) (g := gName 1) (tt := tYes) rfl sc_are_weights.nd (pi_list (pv 0)) (blkOk_by (N := ["thing", "one"]) (sc := defScope s_are_weights) (by decide +kernel)) (fun _ _ _ _ _ => pg_name (i := 1) sc_are_weights.nd rfl (Or.inl rfl)) (fun _ _ _ _ _ => pts_nil) (fun _ _ _ _ _ => (pe_g C_is_above_0 (hr.mono (by decide)) hg (pa_cons (pv 1) pa_nil)))) pa_nil))))), ?_⟩
    refine ⟨_, rfl, len_show (Nat.le_of_ble_eq_true rfl), fun tp nt => ?_⟩
    have s1 : Same H (upd H tp (.tup [.ty "list", .ty "tuple"])) := same_new nt
    have ty : TyX K (upd H tp (.tup [.ty "list", .ty "tuple"])) (.ref a) (.type "list") := by
      rcases hS with (h | ⟨o, h⟩) | ⟨o, arr, n, hk, hc, _⟩
      · exact .base (.lst (same_new nt _ _ h))
      · exact .base (.frz (same_new nt _ _ h))
      · exact .kList hk hc
    refine ⟨_, tp, _, _, _, true, rfl, upd_same, .cons (.ty "list") (.cons (.ty "tuple") .nil), ty, kitAny_cons (kit_ty (show kitB "list" "list" = some true by decide +kernel)) (fun z => nomatch z) (fun _ => rfl), _, rfl, ?_⟩
    generalize upd H tp (.tup [.ty "list", .ty "tuple"]) = H1 at s1 ⊢
    refine iteF ?_
    have hl := hA.length
    have h1 := hW.one
    have h12 := hW.few
    refine ⟨_, rfl, a, xs, rfl, .inl (sm_l s1 hS), _, _, rfl, rfl, _, rfl, ?_⟩
    rw [decide_eq_true (show (1 : Int) ≤ (xs.length : Int) by omega)]
    refine iteT ⟨_, _, rfl, rfl, _, rfl, ?_⟩
    rw [decide_eq_true (show (xs.length : Int) ≤ 12 by omega)]
    refine iteF ?_
    refine ⟨_, rfl, a, rfl, ⟨_, sm_l s1 hS⟩, fun D hD => lc_list (xs := xs) (fun i H' => H' D = some (.lst (List.replicate i (.bl true))) ∧ Same H1 H') ⟨upd_same, same_new hD⟩ (fun i H' _ h => sm_l (s1.trans h.2) hS) ?_ ?_⟩
    · rintro i x H2 hx ⟨eD, sm⟩
      obtain ⟨g, hgi, hg0⟩ := hA.get hx
      have hw := hW.all g (List.mem_of_getElem? hgi)
      have hi : i < xs.length := (List.getElem?_eq_some_iff.mp hx).1
      refine ⟨rfl, _, rfl, x, g, rfl, hg0.same (s1.trans sm), hw.lo, ?_⟩
      rw [decide_eq_true hw.po]
      refine ⟨_, eD, ?_, ?_, fun b o e => ?_⟩
      · rw [List.length_replicate, sizeLine_eq]
        omega
      · rw [upd_same, List.replicate_succ']
      · rw [upd_ne (ne_of_none e hD)]
        exact sm _ _ e
    · rintro H2 ⟨eD, sm⟩
      refine ⟨D, List.replicate xs.length true, rfl, .inl (.inl ?_), ?_⟩
      · rw [eD, List.map_replicate]
      · have ha : (List.replicate xs.length true).all id = true := by
          rw [List.all_eq_true]
          intro b hb
          rw [(List.mem_replicate.mp hb).2]
          rfl
        rw [ha]
        exact k _ (s1.trans sm)

def sp_arewT (K : PySem.W.Frag) : Sp := fun vs H Q _ => ∃ (a : Addr) (xs : List V) (fs : List (Int × Int)), vs = [.ref a] ∧ SqT K H a xs ∧ AtKs K H xs fs ∧ Wts fs ∧ ∀ H', Same H H' → Q (.bl true) H'
theorem ok_arewT {f : Addr} {fd : FuncData} {tk : Tok} (M : Blt mg) (Mx : Bltx mg) (ml : mg "list" = none) (G_MOST : mg "MOST_WEIGHTS" = some (.int 12 tk)) (F : Fun K "are_weights" "are_weights" s_are_weights f fd) (C_is_above_0 : Cal P w K mg base CX0 3 "is_above_0" ["thing"] (sp_ab0 K)) : FnG P w K mg base CX0 4 f fd ["thing"] (sp_arewT K) := by
  refine Gfun F sc_are_weights (fun vs H Q E h => ?_) (fun cdv A outer s H vs Q E hg hr h => ?_)
  · obtain ⟨a, xs, fs, rfl, _⟩ := h
    rfl
  · obtain ⟨a, xs, fs, rfl, hS, hA, hW, k⟩ := h
    refine ⟨_, (pss_cons (ps_if (PW.pt (pw_or (pt_not (pt_val (pe_callB call_isiT rfl Mx.isinstance bt_isinstance (pa_cons (pv 0) (pa_cons (pe_tup (pa_cons (pe_bltn (v := .ty "list") rfl ml bt_list rfl) (pa_cons (pe_bltn (v := .ty "tuple") rfl Mx.tuple bt_tuple rfl) pa_nil))) pa_nil))))) (pw_or1 (pt_not (pt_chain op_le op_le pe_int (pe_callB call_len_seq rfl M.len bt_len (pa_cons (pv 0) pa_nil)) (pe_glob (v := .int 12) rfl G_MOST ⟨_, rfl⟩))))))
      (pss_one (ps_ret pe_bl))
      pss_nil)
      (pss_one (ps_ret (pe_callB (cr_all rfl) rfl M.all bt_all (pa_cons (pe_lc (own := [("one", 1)]) (g := gName 1) (tt := tYes) rfl sc_are_weights.nd (pi_tup (pv 0)) (blkOk_by (N := ["thing", "one"]) (sc := defScope s_are_weights) (by decide +kernel)) (fun _ _ _ _ _ => pg_name (i := 1) sc_are_weights.nd rfl (Or.inl rfl)) (fun _ _ _ _ _ => pts_nil) (fun _ _ _ _ _ => (pe_g C_is_above_0 (hr.mono (by decide)) hg (pa_cons (pv 1) pa_nil)))) pa_nil))))), ?_⟩
    refine ⟨_, rfl, len_show (Nat.le_of_ble_eq_true rfl), fun tp nt => ?_⟩
    have s1 : Same H (upd H tp (.tup [.ty "list", .ty "tuple"])) := same_new nt
    have ty : TyX K (upd H tp (.tup [.ty "list", .ty "tuple"])) (.ref a) (.type "tuple") := by
      rcases hS with (h | ⟨o, h⟩) | ⟨o, arr, n, hk, hc, _⟩
      · exact .base (.tup (same_new nt _ _ h))
      · exact .fTuple (same_new nt _ _ h)
      · exact .kTuple hk hc
    refine ⟨_, tp, _, _, _, true, rfl, upd_same, .cons (.ty "list") (.cons (.ty "tuple") .nil), ty, kitAny_cons (kit_ty (show kitB "tuple" "list" = some false by decide +kernel)) (fun _ => kitAny_cons (kit_ty (show kitB "tuple" "tuple" = some true by decide +kernel)) (fun z => nomatch z) (fun _ => rfl)) (fun z => nomatch z), _, rfl, ?_⟩
    generalize upd H tp (.tup [.ty "list", .ty "tuple"]) = H1 at s1 ⊢
    refine iteF ?_
    have hl := hA.length
    have h1 := hW.one
    have h12 := hW.few
    refine ⟨_, rfl, a, xs, rfl, .inr (sm_t s1 hS), _, _, rfl, rfl, _, rfl, ?_⟩
    rw [decide_eq_true (show (1 : Int) ≤ (xs.length : Int) by omega)]
    refine iteT ⟨_, _, rfl, rfl, _, rfl, ?_⟩
    rw [decide_eq_true (show (xs.length : Int) ≤ 12 by omega)]
    refine iteF ?_
    refine ⟨_, rfl, a, rfl, ⟨_, sm_t s1 hS⟩, fun D hD => lc_tup (xs := xs) (fun i H' => H' D = some (.lst (List.replicate i (.bl true))) ∧ Same H1 H') ⟨upd_same, same_new hD⟩ (fun i H' _ h => sm_t (s1.trans h.2) hS) ?_ ?_⟩
    · rintro i x H2 hx ⟨eD, sm⟩
      obtain ⟨g, hgi, hg0⟩ := hA.get hx
      have hw := hW.all g (List.mem_of_getElem? hgi)
      have hi : i < xs.length := (List.getElem?_eq_some_iff.mp hx).1
      refine ⟨rfl, _, rfl, x, g, rfl, hg0.same (s1.trans sm), hw.lo, ?_⟩
      rw [decide_eq_true hw.po]
      refine ⟨_, eD, ?_, ?_, fun b o e => ?_⟩
      · rw [List.length_replicate, sizeLine_eq]
        omega
      · rw [upd_same, List.replicate_succ']
      · rw [upd_ne (ne_of_none e hD)]
        exact sm _ _ e
    · rintro H2 ⟨eD, sm⟩
      refine ⟨D, List.replicate xs.length true, rfl, .inl (.inl ?_), ?_⟩
      · rw [eD, List.map_replicate]
      · have ha : (List.replicate xs.length true).all id = true := by
          rw [List.all_eq_true]
          intro b hb
          rw [(List.mem_replicate.mp hb).2]
          rfl
        rw [ha]
        exact k _ (s1.trans sm)

/-! ### floor_of -/
theorem sc_floor_of : FnScope ["one"] ["one"] (defScope s_floor_of) := ⟨rfl, rfl, rfl, by decide +kernel, rfl, by decide +kernel, by decide +kernel⟩
def sp_floor (K : PySem.W.Frag) : Sp := fun vs H Q _ => ∃ (v : V) (f : Int × Int), vs = [v] ∧ AtK K H v f ∧ f.2 ≠ 0 ∧ Mid f.2 ∧ Q (.int (f.1.fdiv f.2)) H
theorem ok_floor {f : Addr} {fd : FuncData} (F : Fun K "floor_of" "floor_of" s_floor_of f fd) : FnG P w K mg base CX0 1 f fd ["one"] (sp_floor K) := by
  refine Gfun F sc_floor_of (fun vs H Q E h => ?_) (fun cdv A outer s H vs Q E hg hr h => ?_)
  · obtain ⟨v, d, rfl, _⟩ := h
    rfl
  · obtain ⟨v, d, rfl, hv, h0, hm, k⟩ := h
    refine ⟨_, (pss_one (ps_ret (pe_op op_fdivN (pe_ix ix_tup (pv 0) pe_int (fun _ _ => rfl)) (pe_ix ix_tup (pv 0) pe_int (fun _ _ => rfl))))), ?_⟩
    obtain ⟨p, rfl, hp⟩ := hv
    exact ⟨_, rfl, p, _, _, _, rfl, rfl, hp, atI_nat (j := 0) rfl, _, rfl, p, _, _, _, rfl, rfl, hp, atI_nat (j := 1) rfl, _, _, rfl, rfl, ⟨h0, hm.log⟩, k⟩

/-! ### many_steps -/
theorem sc_many_steps : FnScope ["weights", "step", "many"] ["weights", "step"] (defScope s_many_steps) := ⟨rfl, rfl, rfl, by decide +kernel, rfl, by decide +kernel, by decide +kernel⟩
/-- how often the step goes in; C: the class of too little -/
def sp_manyL (K : PySem.W.Frag) (C : Addr) : Sp := fun vs H Q E => ∃ (a : Addr) (v : V) (xs : List V) (fs : List (Int × Int)) (st : Int × Int), vs = [.ref a, v] ∧ SqL K H a xs ∧ AtKs K H xs fs ∧ Wts fs ∧ AtK K H v st ∧ Wt st ∧
  ∀ H', Same H H' → (many fs st ≠ 0 → Q (.int (many fs st)) H') ∧ (many fs st = 0 → E (.ref C) none H')
theorem ok_manyL {f C : Addr} {fd : FuncData} (X : ExT K mg "TooLittle" C) (F : Fun K "many_steps" "many_steps" s_many_steps f fd) (C_are_weights : Cal P w K mg base CX0 4 "are_weights" ["thing"] (sp_arewL K)) (C_is_above_0 : Cal P w K mg base CX0 3 "is_above_0" ["thing"] (sp_ab0 K)) (C_together : Cal P w K mg base CX0 6 "together" ["ones"] (sp_togL K))
    (C_over : Cal P w K mg base CX0 5 "over" ["one", "other"] (sp_over K)) (C_floor_of : Cal P w K mg base CX0 1 "floor_of" ["one"] (sp_floor K)) : FnG P w K mg base (L2.CX P w) 7 f fd ["weights", "step"] (sp_manyL K C) := by
  refine GfunX F sc_many_steps (fun vs H Q E h => ?_) (fun cdv A outer s H vs Q E hg hr h => ?_)
  · obtain ⟨a, v, xs, fs, st, rfl, _⟩ := h
    rfl
  · obtain ⟨a, v, xs, fs, st, rfl, hS, hA, hW, hv, hs, k⟩ := h
    refine ⟨_, (pss_cons (ps_if (pt_not (pt_val (pe_g C_are_weights (hr.mono (by decide)) hg (pa_cons (pv 0) pa_nil))))
      (pss_one ps_dead)
      pss_nil)
      (pss_cons (ps_if (pt_not (pt_val (pe_g C_is_above_0 (hr.mono (by decide)) hg (pa_cons (pv 1) pa_nil))))
      (pss_one ps_dead)
      pss_nil)
      (pss_cons (ps_set (i := 2) sc_many_steps.nd rfl (.inl rfl) (pe_g C_floor_of (hr.mono (by decide)) hg (pa_cons (pe_g C_over (hr.mono (by decide)) hg (pa_cons (pe_g C_together (hr.mono (by decide)) hg (pa_cons (pv 0) pa_nil)) (pa_cons (pv 1) pa_nil))) pa_nil)))
      (pss_cons (ps_if (pt_cmpR op_eq (pv 2) pe_int (nomark _))
      (pss_one (ps_raise rfl (takes_of rfl rfl rfl rfl) (pmk_own PySem.F.excBase_ValueError X.x X.g X.k (raises_own X.b X.t) rfl)))
      pss_nil)
      (pss_one (ps_ret (pv 2))))))), ?_⟩
    refine ⟨_, rfl, a, xs, fs, rfl, hS, hA, hW, fun H1 s1 => ⟨_, rfl, iteF ?_⟩⟩
    refine ⟨_, rfl, v, st, rfl, hv.same s1, hs.lo, _, rfl, ?_⟩
    rw [decide_eq_true hs.po]
    refine iteF ?_
    refine ⟨_, rfl, a, xs, fs, 41, rfl, sm_l s1 hS, hA.same s1, hW.f, hW.b, by decide, ?_, fun H2 u s2 hu => ?_⟩
    · have := hW.few
      omega
    have hu' : AtK K H2 u (tot fs) := hu
    refine ⟨_, rfl, _, _, _, _, pr_atk hu' ((hv.same s1).same s2) (tot_f hW.f) hs.lo (tot_bt hW) hs.bt (by decide) (by decide), ?_, fun H3 p3 s3 e3 => ?_⟩
    · have := hs.po
      omega
    have hfd : IsF (fdiv (tot fs) st) := fdiv_f (tot_f hW.f) (by have := hs.po; omega)
    have hbd : Bt 546 (fdiv (tot fs) st) := fdiv_bt (tot_f hW.f) (by have := hs.po; omega) (tot_bt hW) hs.bt
    refine ⟨.ref p3, fdiv (tot fs) st, rfl, AtK.of e3, hfd.ne, Sm.mid (hbd.sm (by decide)).2, ?_⟩
    rw [many_is hW hs]
    have k3 := k H3 ((s1.trans s2).trans s3)
    refine ⟨_, rfl, rfl, _, rfl, ite2 (fun e => ?_) (fun e => ?_)⟩
    · exact k3.2 (V.int.inj (of_decide_eq_true e))
    · exact ⟨_, rfl, k3.1 fun z => e (by rw [z]; decide)⟩

/-- how often the step goes in; C: the class of too little -/
def sp_manyT (K : PySem.W.Frag) (C : Addr) : Sp := fun vs H Q E => ∃ (a : Addr) (v : V) (xs : List V) (fs : List (Int × Int)) (st : Int × Int), vs = [.ref a, v] ∧ SqT K H a xs ∧ AtKs K H xs fs ∧ Wts fs ∧ AtK K H v st ∧ Wt st ∧
  ∀ H', Same H H' → (many fs st ≠ 0 → Q (.int (many fs st)) H') ∧ (many fs st = 0 → E (.ref C) none H')
theorem ok_manyT {f C : Addr} {fd : FuncData} (X : ExT K mg "TooLittle" C) (F : Fun K "many_steps" "many_steps" s_many_steps f fd) (C_are_weights : Cal P w K mg base CX0 4 "are_weights" ["thing"] (sp_arewT K)) (C_is_above_0 : Cal P w K mg base CX0 3 "is_above_0" ["thing"] (sp_ab0 K)) (C_together : Cal P w K mg base CX0 6 "together" ["ones"] (sp_togT K))
    (C_over : Cal P w K mg base CX0 5 "over" ["one", "other"] (sp_over K)) (C_floor_of : Cal P w K mg base CX0 1 "floor_of" ["one"] (sp_floor K)) : FnG P w K mg base (L2.CX P w) 7 f fd ["weights", "step"] (sp_manyT K C) := by
  refine GfunX F sc_many_steps (fun vs H Q E h => ?_) (fun cdv A outer s H vs Q E hg hr h => ?_)
  · obtain ⟨a, v, xs, fs, st, rfl, _⟩ := h
    rfl
  · obtain ⟨a, v, xs, fs, st, rfl, hS, hA, hW, hv, hs, k⟩ := h
    refine ⟨_, (pss_cons (ps_if (pt_not (pt_val (pe_g C_are_weights (hr.mono (by decide)) hg (pa_cons (pv 0) pa_nil))))
      (pss_one ps_dead)
      pss_nil)
      (pss_cons (ps_if (pt_not (pt_val (pe_g C_is_above_0 (hr.mono (by decide)) hg (pa_cons (pv 1) pa_nil))))
      (pss_one ps_dead)
      pss_nil)
      (pss_cons (ps_set (i := 2) sc_many_steps.nd rfl (.inl rfl) (pe_g C_floor_of (hr.mono (by decide)) hg (pa_cons (pe_g C_over (hr.mono (by decide)) hg (pa_cons (pe_g C_together (hr.mono (by decide)) hg (pa_cons (pv 0) pa_nil)) (pa_cons (pv 1) pa_nil))) pa_nil)))
      (pss_cons (ps_if (pt_cmpR op_eq (pv 2) pe_int (nomark _))
      (pss_one (ps_raise rfl (takes_of rfl rfl rfl rfl) (pmk_own PySem.F.excBase_ValueError X.x X.g X.k (raises_own X.b X.t) rfl)))
      pss_nil)
      (pss_one (ps_ret (pv 2))))))), ?_⟩
    refine ⟨_, rfl, a, xs, fs, rfl, hS, hA, hW, fun H1 s1 => ⟨_, rfl, iteF ?_⟩⟩
    refine ⟨_, rfl, v, st, rfl, hv.same s1, hs.lo, _, rfl, ?_⟩
    rw [decide_eq_true hs.po]
    refine iteF ?_
    refine ⟨_, rfl, a, xs, fs, 41, rfl, sm_t s1 hS, hA.same s1, hW.f, hW.b, by decide, ?_, fun H2 u s2 hu => ?_⟩
    · have := hW.few
      omega
    have hu' : AtK K H2 u (tot fs) := hu
    refine ⟨_, rfl, _, _, _, _, pr_atk hu' ((hv.same s1).same s2) (tot_f hW.f) hs.lo (tot_bt hW) hs.bt (by decide) (by decide), ?_, fun H3 p3 s3 e3 => ?_⟩
    · have := hs.po
      omega
    have hfd : IsF (fdiv (tot fs) st) := fdiv_f (tot_f hW.f) (by have := hs.po; omega)
    have hbd : Bt 546 (fdiv (tot fs) st) := fdiv_bt (tot_f hW.f) (by have := hs.po; omega) (tot_bt hW) hs.bt
    refine ⟨.ref p3, fdiv (tot fs) st, rfl, AtK.of e3, hfd.ne, Sm.mid (hbd.sm (by decide)).2, ?_⟩
    rw [many_is hW hs]
    have k3 := k H3 ((s1.trans s2).trans s3)
    refine ⟨_, rfl, rfl, _, rfl, ite2 (fun e => ?_) (fun e => ?_)⟩
    · exact k3.2 (V.int.inj (of_decide_eq_true e))
    · exact ⟨_, rfl, k3.1 fun z => e (by rw [z]; decide)⟩

/-! ### aims -/
theorem sc_aims : FnScope ["weights", "step", "factor", "weight"] ["weights", "step"] (defScope s_aims) := ⟨rfl, rfl, rfl, by decide +kernel, rfl, by decide +kernel, by decide +kernel⟩
/-- the aims, a new list -/
def sp_aimsL (K : PySem.W.Frag) (C : Addr) : Sp := fun vs H Q E => ∃ (a : Addr) (v : V) (xs : List V) (fs : List (Int × Int)) (st : Int × Int), vs = [.ref a, v] ∧ SqL K H a xs ∧ AtKs K H xs fs ∧ Wts fs ∧ AtK K H v st ∧ Wt st ∧
  (many fs st ≠ 0 → ∀ H' D ys, Same H H' → H D = none → H' D = some (.lst ys) → AtKs K (wo D H') ys (fs.map (aim fs st)) → Q (.ref D) H') ∧ (many fs st = 0 → ∀ H', Same H H' → E (.ref C) none H')
theorem ok_aimsL {f C : Addr} {fd : FuncData} (F : Fun K "aims" "aims" s_aims f fd) (C_many_steps : Cal P w K mg base (L2.CX P w) 7 "many_steps" ["weights", "step"] (sp_manyL K C)) (C_together : Cal P w K mg base CX0 6 "together" ["ones"] (sp_togL K))
    (C_over : Cal P w K mg base CX0 5 "over" ["one", "other"] (sp_over K)) (C_times : Cal P w K mg base CX0 5 "times" ["one", "other"] (sp_times K)) : FnG P w K mg base (L2.CX P w) 8 f fd ["weights", "step"] (sp_aimsL K C) := by
  refine GfunX F sc_aims (fun vs H Q E h => ?_) (fun cdv A outer s H vs Q E hg hr h => ?_)
  · obtain ⟨a, v, xs, fs, st, rfl, _⟩ := h
    rfl
  · obtain ⟨a, v, xs, fs, st, rfl, hS, hA, hW, hv, hs, k1, k2⟩ := h
    refine ⟨_, (pss_cons (ps_set (i := 2) sc_aims.nd rfl (.inr rfl) (pe_g C_over (hr.mono (by decide)) hg (pa_cons (pe_tup (pa_cons (pe_gS C_many_steps (hr.mono (by decide)) hg (fun σ => passAt (takes_of rfl rfl rfl rfl) σ) (pa_cons (pv 0) (pa_cons (pv 1) pa_nil))) (pa_cons pe_int pa_nil))) (pa_cons (pe_g C_together (hr.mono (by decide)) hg (pa_cons (pv 0) pa_nil)) pa_nil))))
      (pss_one (ps_ret (pe_lc (own := [("weight", 3)]) (g := gName 3) (tt := tYes) rfl sc_aims.nd (pi_list (pv 0)) (blkOk_by (N := ["weights", "step", "factor", "weight"]) (sc := defScope s_aims) (by decide +kernel)) (fun _ _ _ _ _ => pg_name (i := 3) sc_aims.nd rfl (Or.inl rfl)) (fun _ _ _ _ _ => pts_nil) (fun _ _ _ _ _ => (pe_g C_times (hr.mono (by decide)) hg (pa_cons (pv 3) (pa_cons (pv 2) pa_nil)))))))), ?_⟩
    refine ⟨_, rfl, _, rfl, a, v, xs, fs, st, rfl, hS, hA, hW, hv, hs, fun H1 s1 => ⟨fun hm => ?_, fun hm => k2 hm H1 s1⟩⟩
    refine ⟨len_show (Nat.le_of_ble_eq_true rfl), fun p2 n2 => ?_⟩
    have s2 : Same H1 (upd H1 p2 (.tup [.int (many fs st), .int 1])) := same_new n2
    have e2 : AtK K (upd H1 p2 (.tup [.int (many fs st), .int 1])) (.ref p2) (many fs st, 1) := AtK.of upd_same
    generalize upd H1 p2 (.tup [.int (many fs st), .int 1]) = H2 at s2 e2 ⊢
    have s02 := s1.trans s2
    refine ⟨_, rfl, a, xs, fs, 41, rfl, sm_l s02 hS, hA.same s02, hW.f, hW.b, by decide, ?_, fun H3 u s3 hu => ?_⟩
    · have := hW.few
      omega
    have hu' : AtK K H3 u (tot fs) := hu
    have tp := tot_pos hW
    refine ⟨_, _, _, _, pr_atk (e2.same s3) hu' (m1_f _) (tot_f hW.f) (many_bt hW hs) (tot_bt hW) (by decide) (by decide), ?_, fun H4 p4 s4 e4 => ?_⟩
    · omega
    have s04 := (s02.trans s3).trans s4
    have ef : AtK K H4 (.ref p4) (factor fs st) := AtK.of e4
    refine ⟨_, rfl, a, rfl, ⟨_, sm_l s04 hS⟩, fun D hD => lc_list (xs := xs) (fun i H' => (∃ ys, H' D = some (.lst ys) ∧ AtKs K (wo D H') ys ((fs.map (aim fs st)).take i)) ∧ Same H4 H') ⟨⟨[], upd_same, .nil⟩, same_new hD⟩ (fun i H' _ h => sm_l (s04.trans h.2) hS) ?_ ?_⟩
    · rintro i x H5 hx ⟨⟨ys, eD, hy⟩, sm⟩
      obtain ⟨g, hgi, hg0⟩ := hA.get hx
      have hw := hW.all g (List.mem_of_getElem? hgi)
      have hi : i < xs.length := (List.getElem?_eq_some_iff.mp hx).1
      have hl := hA.length
      have h12 := hW.few
      refine ⟨rfl, _, rfl, _, rfl, _, _, _, _, pr_atk (hg0.same (s04.trans sm)) (ef.same sm) hw.lo (factor_f hW) hw.bt (factor_bt hW hs) (by decide) (by decide), fun H6 p6 s6 e6 => ?_⟩
      have hyl := hy.length
      rw [List.length_take, List.length_map] at hyl
      have nD : p6 ≠ D := fun z => by
        rw [z, s6 _ _ eD] at e6
        cases e6
      refine ⟨ys, s6 _ _ eD, by rw [sizeLine_eq]; omega, ⟨ys ++ [.ref p6], upd_same, ?_⟩, fun b o e => ?_⟩
      · rw [List.take_add_one, List.getElem?_map, hgi]
        have s7 : Same (wo D H5) (wo D (upd H6 D (.lst (ys ++ [.ref p6])))) := fun b o e => wo_at (wo_not e) (by rw [upd_ne (wo_not e)]; exact s6 _ _ (wo_le _ _ e))
        refine (hy.same s7).app (.cons (AtK.of (wo_at nD ?_)) .nil)
        rw [upd_ne nD]
        exact e6
      · rw [upd_ne (ne_of_none e hD)]
        exact s6 _ _ (sm _ _ e)
    · rintro H5 ⟨⟨ys, eD, hy⟩, sm⟩
      rw [hA.length, show fs.length = (fs.map (aim fs st)).length from (List.length_map _).symm, List.take_length] at hy
      refine k1 hm H5 D ys (s04.trans sm) ?_ eD hy
      cases h : H D with
      | none => rfl
      | some o =>
        rw [s04 _ _ h] at hD
        cases hD

/-- the aims, a new list -/
def sp_aimsT (K : PySem.W.Frag) (C : Addr) : Sp := fun vs H Q E => ∃ (a : Addr) (v : V) (xs : List V) (fs : List (Int × Int)) (st : Int × Int), vs = [.ref a, v] ∧ SqT K H a xs ∧ AtKs K H xs fs ∧ Wts fs ∧ AtK K H v st ∧ Wt st ∧
  (many fs st ≠ 0 → ∀ H' D ys, Same H H' → H D = none → H' D = some (.lst ys) → AtKs K (wo D H') ys (fs.map (aim fs st)) → Q (.ref D) H') ∧ (many fs st = 0 → ∀ H', Same H H' → E (.ref C) none H')
theorem ok_aimsT {f C : Addr} {fd : FuncData} (F : Fun K "aims" "aims" s_aims f fd) (C_many_steps : Cal P w K mg base (L2.CX P w) 7 "many_steps" ["weights", "step"] (sp_manyT K C)) (C_together : Cal P w K mg base CX0 6 "together" ["ones"] (sp_togT K))
    (C_over : Cal P w K mg base CX0 5 "over" ["one", "other"] (sp_over K)) (C_times : Cal P w K mg base CX0 5 "times" ["one", "other"] (sp_times K)) : FnG P w K mg base (L2.CX P w) 8 f fd ["weights", "step"] (sp_aimsT K C) := by
  refine GfunX F sc_aims (fun vs H Q E h => ?_) (fun cdv A outer s H vs Q E hg hr h => ?_)
  · obtain ⟨a, v, xs, fs, st, rfl, _⟩ := h
    rfl
  · obtain ⟨a, v, xs, fs, st, rfl, hS, hA, hW, hv, hs, k1, k2⟩ := h
    refine ⟨_, (pss_cons (ps_set (i := 2) sc_aims.nd rfl (.inr rfl) (pe_g C_over (hr.mono (by decide)) hg (pa_cons (pe_tup (pa_cons (pe_gS C_many_steps (hr.mono (by decide)) hg (fun σ => passAt (takes_of rfl rfl rfl rfl) σ) (pa_cons (pv 0) (pa_cons (pv 1) pa_nil))) (pa_cons pe_int pa_nil))) (pa_cons (pe_g C_together (hr.mono (by decide)) hg (pa_cons (pv 0) pa_nil)) pa_nil))))
      (pss_one (ps_ret (pe_lc (own := [("weight", 3)]) (g := gName 3) (tt := tYes) rfl sc_aims.nd (pi_tup (pv 0)) (blkOk_by (N := ["weights", "step", "factor", "weight"]) (sc := defScope s_aims) (by decide +kernel)) (fun _ _ _ _ _ => pg_name (i := 3) sc_aims.nd rfl (Or.inl rfl)) (fun _ _ _ _ _ => pts_nil) (fun _ _ _ _ _ => (pe_g C_times (hr.mono (by decide)) hg (pa_cons (pv 3) (pa_cons (pv 2) pa_nil)))))))), ?_⟩
    refine ⟨_, rfl, _, rfl, a, v, xs, fs, st, rfl, hS, hA, hW, hv, hs, fun H1 s1 => ⟨fun hm => ?_, fun hm => k2 hm H1 s1⟩⟩
    refine ⟨len_show (Nat.le_of_ble_eq_true rfl), fun p2 n2 => ?_⟩
    have s2 : Same H1 (upd H1 p2 (.tup [.int (many fs st), .int 1])) := same_new n2
    have e2 : AtK K (upd H1 p2 (.tup [.int (many fs st), .int 1])) (.ref p2) (many fs st, 1) := AtK.of upd_same
    generalize upd H1 p2 (.tup [.int (many fs st), .int 1]) = H2 at s2 e2 ⊢
    have s02 := s1.trans s2
    refine ⟨_, rfl, a, xs, fs, 41, rfl, sm_t s02 hS, hA.same s02, hW.f, hW.b, by decide, ?_, fun H3 u s3 hu => ?_⟩
    · have := hW.few
      omega
    have hu' : AtK K H3 u (tot fs) := hu
    have tp := tot_pos hW
    refine ⟨_, _, _, _, pr_atk (e2.same s3) hu' (m1_f _) (tot_f hW.f) (many_bt hW hs) (tot_bt hW) (by decide) (by decide), ?_, fun H4 p4 s4 e4 => ?_⟩
    · omega
    have s04 := (s02.trans s3).trans s4
    have ef : AtK K H4 (.ref p4) (factor fs st) := AtK.of e4
    refine ⟨_, rfl, a, rfl, ⟨_, sm_t s04 hS⟩, fun D hD => lc_tup (xs := xs) (fun i H' => (∃ ys, H' D = some (.lst ys) ∧ AtKs K (wo D H') ys ((fs.map (aim fs st)).take i)) ∧ Same H4 H') ⟨⟨[], upd_same, .nil⟩, same_new hD⟩ (fun i H' _ h => sm_t (s04.trans h.2) hS) ?_ ?_⟩
    · rintro i x H5 hx ⟨⟨ys, eD, hy⟩, sm⟩
      obtain ⟨g, hgi, hg0⟩ := hA.get hx
      have hw := hW.all g (List.mem_of_getElem? hgi)
      have hi : i < xs.length := (List.getElem?_eq_some_iff.mp hx).1
      have hl := hA.length
      have h12 := hW.few
      refine ⟨rfl, _, rfl, _, rfl, _, _, _, _, pr_atk (hg0.same (s04.trans sm)) (ef.same sm) hw.lo (factor_f hW) hw.bt (factor_bt hW hs) (by decide) (by decide), fun H6 p6 s6 e6 => ?_⟩
      have hyl := hy.length
      rw [List.length_take, List.length_map] at hyl
      have nD : p6 ≠ D := fun z => by
        rw [z, s6 _ _ eD] at e6
        cases e6
      refine ⟨ys, s6 _ _ eD, by rw [sizeLine_eq]; omega, ⟨ys ++ [.ref p6], upd_same, ?_⟩, fun b o e => ?_⟩
      · rw [List.take_add_one, List.getElem?_map, hgi]
        have s7 : Same (wo D H5) (wo D (upd H6 D (.lst (ys ++ [.ref p6])))) := fun b o e => wo_at (wo_not e) (by rw [upd_ne (wo_not e)]; exact s6 _ _ (wo_le _ _ e))
        refine (hy.same s7).app (.cons (AtK.of (wo_at nD ?_)) .nil)
        rw [upd_ne nD]
        exact e6
      · rw [upd_ne (ne_of_none e hD)]
        exact s6 _ _ (sm _ _ e)
    · rintro H5 ⟨⟨ys, eD, hy⟩, sm⟩
      rw [hA.length, show fs.length = (fs.map (aim fs st)).length from (List.length_map _).symm, List.take_length] at hy
      refine k1 hm H5 D ys (s04.trans sm) ?_ eD hy
      cases h : H D with
      | none => rfl
      | some o =>
        rw [s04 _ _ h] at hD
        cases hD

end
end Lf

set_option Elab.async false
set_option linter.all false
set_option maxRecDepth 100000
set_option maxHeartbeats 4000000
set_option exponentiation.threshold 3000
/-! Floors, rests beyond them, who is counted one more, how far counts are off. -/
namespace Lf
/-- the floor of a fraction -/
def fl (f : Int × Int) : Int := f.1.fdiv f.2
theorem fl_eq {f : Int × Int} (h : IsF f) : fl f = f.1 / f.2 := fdiv_pos_eq h.1
theorem fl_nn {f : Int × Int} (h : IsF f) (h0 : 0 ≤ f.1) : 0 ≤ fl f := by
  rw [fl_eq h]
  exact Int.ediv_nonneg h0 (Int.le_of_lt h.1)
theorem fl_le {f : Int × Int} (h : IsF f) (h0 : 0 ≤ f.1) : fl f ≤ f.1 := by
  rw [fl_eq h]
  exact Int.ediv_le_self _ h0
theorem fl_mod {f : Int × Int} (h : IsF f) : f.1 - fl f * f.2 = f.1 % f.2 := by
  rw [fl_eq h]
  have := Int.emod_add_mul_ediv f.1 f.2
  have e : f.1 / f.2 * f.2 = f.2 * (f.1 / f.2) := Int.mul_comm _ _
  omega
theorem fl_bt {k : Nat} {f : Int × Int} (h : IsF f) (h0 : 0 ≤ f.1) (b : Bt k f) (hk : 0 < k) : Bt k (fl f, 1) := by
  refine ⟨?_, ?_⟩
  · have h1 := fl_nn h h0
    have h2 := fl_le h h0
    have h3 := b.1
    show (fl f).natAbs < _
    omega
  · show (1 : Int).natAbs < 2 ^ k
    exact Nat.one_lt_two_pow (by omega)
/-- what a fraction has more than its floor -/
def rst (f : Int × Int) : Int × Int := fsub f (fl f, 1)
theorem rst_eq {f : Int × Int} (h : IsF f) : rst f = low (f.1 % f.2) f.2 := by
  show low (f.1 * 1 - fl f * f.2) (f.2 * 1) = _
  rw [Int.mul_one, Int.mul_one, fl_mod h]
theorem rst_f {f : Int × Int} (h : IsF f) : IsF (rst f) := fsub_f h (m1_f _)
theorem rst_nn {f : Int × Int} (h : IsF f) : 0 ≤ (rst f).1 := by
  rw [rst_eq h]
  exact low_top_nn h.1 (Int.emod_nonneg _ h.ne)
theorem rst_bt {k : Nat} {f : Int × Int} (h : IsF f) (b : Bt k f) : Bt k (rst f) := by
  rw [rst_eq h]
  have h1 := Int.emod_nonneg f.1 h.ne
  have h2 := Int.emod_lt_of_pos f.1 h.1
  have h3 := b.2
  have h4 : 0 < f.2 := h.1
  exact low_bt h.ne (by omega) h3
theorem aim_nn {fs : List (Int × Int)} {st f : Int × Int} (h : Wts fs) (hs : Wt st) (hf : Wt f) : 0 ≤ (aim fs st f).1 := by
  rw [aim_low h hf]
  refine low_top_nn (Int.mul_pos hf.lo.1 (tot_pos h)) ?_
  exact Int.mul_nonneg (Int.mul_nonneg (Int.le_of_lt hf.po) (Int.le_of_lt (tot_f h.f).1)) (many_nn h hs)
def lessB (f g : Int × Int) : Bool := decide (f.1 * g.2 < g.1 * f.2)
/-- whether the i-th is counted one more sooner than the j-th -/
def soon (rs : List (Int × Int)) (i j : Nat) : Bool := if rs.getD i f0 = rs.getD j f0 then decide (i < j) else lessB (rs.getD j f0) (rs.getD i f0)
theorem lessB_self (f : Int × Int) : lessB f f = false := decide_eq_false (by omega)
theorem soon_law (rs : List (Int × Int)) (i j : Nat) : soon rs i j = (lessB (rs.getD j f0) (rs.getD i f0) || (decide (rs.getD j f0 = rs.getD i f0) && decide (i < j))) := by
  unfold soon
  by_cases h : rs.getD i f0 = rs.getD j f0
  · rw [if_pos h, h, lessB_self]
    simp
  · rw [if_neg h, decide_eq_false (fun z => h z.symm)]
    simp
/-- how many are sooner than the j-th -/
def ahead (rs : List (Int × Int)) (j : Nat) : Nat := ((List.range rs.length).filter fun i => soon rs i j).length
theorem ahead_le (rs : List (Int × Int)) (j : Nat) : ahead rs j ≤ rs.length := by
  unfold ahead
  exact Nat.le_trans (List.length_filter_le _ _) (by rw [List.length_range]; exact Nat.le_refl _)
/-- all aims -/
def aimsF (fs : List (Int × Int)) (st : Int × Int) : List (Int × Int) := fs.map (aim fs st)
/-- how many are to be one more -/
def more (fs : List (Int × Int)) (st : Int × Int) : Int := many fs st - ((aimsF fs st).map fl).sum
/-- the count of the k-th -/
def cntAt (fs : List (Int × Int)) (st : Int × Int) (k : Nat) : Int := fl ((aimsF fs st).getD k f0) + if (ahead ((aimsF fs st).map rst) k : Int) < more fs st then 1 else 0
def cnt (fs : List (Int × Int)) (st : Int × Int) : List Int := (List.range fs.length).map (cntAt fs st)
theorem cnt_len (fs : List (Int × Int)) (st : Int × Int) : (cnt fs st).length = fs.length := by
  unfold cnt
  rw [List.length_map, List.length_range]
theorem cnt_get {fs : List (Int × Int)} {st : Int × Int} {k : Nat} (h : k < fs.length) : (cnt fs st)[k]? = some (cntAt fs st k) := by
  unfold cnt
  rw [List.getElem?_map, List.getElem?_range h]
  rfl
/-- the difference of a fraction and a count -/
def far (f : Int × Int) (c : Int) : Int × Int := low ((f.1 - c * f.2).natAbs : Int) f.2
theorem abs_low {n d : Int} (hd : 0 < d) : (((low n d).1.natAbs : Int), (low n d).2) = low (n.natAbs : Int) d := by
  have hl := low_is (n := n) (d := d) (by omega)
  have hc := low_cross (n := n) (d := d) (by omega)
  symm
  refine low_eq (by omega) ⟨hl.1, by rw [Int.natAbs_natCast]; exact hl.2⟩ ?_
  have h1 : ((low n d).1 * d).natAbs = (n * (low n d).2).natAbs := by rw [hc]
  rw [Int.natAbs_mul, Int.natAbs_mul] at h1
  have hb : 0 < (low n d).2 := hl.1
  have e1 : (d.natAbs : Int) = d := by omega
  have e2 : ((low n d).2.natAbs : Int) = (low n d).2 := by omega
  have h2 : ((low n d).1.natAbs : Int) * (d.natAbs : Int) = (n.natAbs : Int) * ((low n d).2.natAbs : Int) := by
    rw [← Int.natCast_mul, ← Int.natCast_mul, h1]
  rw [e1, e2] at h2
  exact h2
/-- as the program reckons it -/
theorem far_prog {f : Int × Int} (h : IsF f) (c : Int) : (((fsub (c, 1) f).1.natAbs : Int), (fsub (c, 1) f).2) = far f c := by
  have e : fsub (c, 1) f = low (c * f.2 - f.1) f.2 := by
    show low (c * f.2 - f.1 * 1) (1 * f.2) = _
    rw [Int.mul_one, Int.one_mul]
  rw [e, abs_low h.1]
  unfold far
  have : (c * f.2 - f.1).natAbs = (f.1 - c * f.2).natAbs := by omega
  rw [this]
theorem far_f {f : Int × Int} (h : IsF f) (c : Int) : IsF (far f c) := low_f h.ne
theorem far_nn {f : Int × Int} (h : IsF f) (c : Int) : 0 ≤ (far f c).1 := low_top_nn h.1 (by omega)
/-- the greater one -/
def wmax (w g : Int × Int) : Int × Int := if lessB w g = true then g else w
def wst (w : Int × Int) (p : (Int × Int) × Int) : Int × Int := wmax w (far p.1 p.2)
def worst (fs : List (Int × Int)) (cs : List Int) : Int × Int := (fs.zip cs).foldl wst f0
/-- counts near enough -/
def Near (k : Nat) (fs : List (Int × Int)) (cs : List Int) : Prop := ∀ p ∈ fs.zip cs, Bt k (far p.1 p.2) ∧ p.2.natAbs < 2 ^ k
theorem worst_step {fs : List (Int × Int)} {cs : List Int} {i : Nat} {f : Int × Int} {c : Int} (h1 : fs[i]? = some f) (h2 : cs[i]? = some c) : ((fs.zip cs).take (i + 1)).foldl wst f0 = wmax (((fs.zip cs).take i).foldl wst f0) (far f c) := by
  have h : (fs.zip cs)[i]? = some (f, c) := by
    rw [List.getElem?_zip_eq_some]
    exact ⟨h1, h2⟩
  rw [fold_take wst f0 h]
  simp only [wst]
theorem worst_ok {k : Nat} {fs : List (Int × Int)} {cs : List Int} (hF : AllF fs) (hk : 0 < k) (h : Near k fs cs) (i : Nat) : IsF (((fs.zip cs).take i).foldl wst f0) ∧ Bt k (((fs.zip cs).take i).foldl wst f0) ∧ 0 ≤ (((fs.zip cs).take i).foldl wst f0).1 := by
  induction i with
  | zero =>
    rw [List.take_zero, List.foldl_nil]
    exact ⟨f0_f, bt01.1.mono hk, Int.le_refl 0⟩
  | succ i ih =>
    cases e : (fs.zip cs)[i]? with
    | none =>
      rw [List.take_of_length_le (by have := List.getElem?_eq_none_iff.mp e; omega)]
      rw [List.take_of_length_le (by have := List.getElem?_eq_none_iff.mp e; omega)] at ih
      exact ih
    | some p =>
      rw [fold_take wst f0 e]
      have hm := List.mem_of_getElem? e
      have hp : p.1 ∈ fs := (List.of_mem_zip (show (p.1, p.2) ∈ fs.zip cs from hm)).1
      unfold wst wmax
      split
      · exact ⟨far_f (hF _ hp) _, (h p hm).1, far_nn (hF _ hp) _⟩
      · exact ih
/-- what the weights have more than so many steps -/
def left_ (fs : List (Int × Int)) (st : Int × Int) : Int × Int := fsub (tot fs) (fmul (many fs st, 1) st)
end Lf
namespace Lf
/-- the counts when the first i are looked at -/
def part (fs : List (Int × Int)) (st : Int × Int) (i : Nat) : List Int := (List.range fs.length).map fun k => if k < i then cntAt fs st k else fl ((aimsF fs st).getD k f0)
theorem part_0 (fs : List (Int × Int)) (st : Int × Int) : part fs st 0 = (aimsF fs st).map fl := by
  refine List.ext_getElem? fun k => ?_
  unfold part aimsF
  rw [List.getElem?_map, List.getElem?_map, List.getElem?_map]
  by_cases h : k < fs.length
  · rw [List.getElem?_range h, List.getElem?_eq_getElem h]
    simp [List.getD_eq_getElem?_getD, List.getElem?_map, h]
  · rw [List.getElem?_eq_none (by rw [List.length_range]; omega), List.getElem?_eq_none (by omega)]
    rfl
theorem part_n (fs : List (Int × Int)) (st : Int × Int) : part fs st fs.length = cnt fs st := by
  unfold part cnt
  refine List.map_congr_left fun k hk => ?_
  rw [if_pos (List.mem_range.mp hk)]
theorem part_get {fs : List (Int × Int)} {st : Int × Int} {i k : Nat} (h : k < fs.length) : (part fs st i)[k]? = some (if k < i then cntAt fs st k else fl ((aimsF fs st).getD k f0)) := by
  unfold part
  rw [List.getElem?_map, List.getElem?_range h]
  rfl
theorem part_len (fs : List (Int × Int)) (st : Int × Int) (i : Nat) : (part fs st i).length = fs.length := by
  unfold part
  rw [List.length_map, List.length_range]
theorem part_set {fs : List (Int × Int)} {st : Int × Int} {i : Nat} (h : i < fs.length) : part fs st (i + 1) = (part fs st i).set i (cntAt fs st i) := by
  refine List.ext_getElem? fun k => ?_
  rw [List.getElem?_set]
  by_cases hk : k < fs.length
  · rw [part_get hk]
    by_cases hi : i = k
    · subst hi
      rw [if_pos rfl, if_pos (Nat.lt_succ_self i), if_pos (by rw [part_len]; exact h)]
    · rw [if_neg hi, part_get hk]
      by_cases h1 : k < i
      · rw [if_pos h1, if_pos (by omega)]
      · rw [if_neg h1, if_neg (by omega)]
  · rw [List.getElem?_eq_none (by rw [part_len]; omega), if_neg (by omega), List.getElem?_eq_none (by rw [part_len]; omega)]
theorem part_stay {fs : List (Int × Int)} {st : Int × Int} {i : Nat} (h : cntAt fs st i = fl ((aimsF fs st).getD i f0)) : part fs st (i + 1) = part fs st i := by
  unfold part
  refine List.map_congr_left fun k hk => ?_
  by_cases h1 : k < i
  · rw [if_pos h1, if_pos (by omega)]
  · by_cases h2 : k = i
    · subst h2
      rw [if_neg h1, if_pos (Nat.lt_succ_self k), h]
    · rw [if_neg h1, if_neg (by omega)]
/-- a count is the floor or one more -/
theorem near_one {f : Int × Int} {c : Int} (h : IsF f) (h0 : 0 ≤ f.1) (b : Bt 636 f) (hc : c = fl f ∨ c = fl f + 1) : Bt 640 (far f c) ∧ c.natAbs < 2 ^ 640 := by
  have hm := fl_mod h
  have m0 := Int.emod_nonneg f.1 h.ne
  have m1 := Int.emod_lt_of_pos f.1 h.1
  have h2 : 0 < f.2 := h.1
  have hle : (f.1 - c * f.2).natAbs ≤ f.2.natAbs := by
    rcases hc with rfl | rfl
    · omega
    · have e : (fl f + 1) * f.2 = fl f * f.2 + f.2 := by rw [Int.add_mul, Int.one_mul]
      omega
  have p : (2 : Nat) ^ 636 + 2 ^ 636 ≤ 2 ^ 640 := by
    rw [show (640 : Nat) = 636 + 1 + 3 from rfl, Nat.pow_add, Nat.two_pow_succ]
    omega
  refine ⟨low_bt h.ne ?_ ?_, ?_⟩
  · rw [Int.natAbs_natCast]
    have := b.2
    omega
  · have := b.2
    omega
  · have a1 := fl_nn h h0
    have a2 := fl_le h h0
    have a3 := b.1
    omega
end Lf
namespace Lf
def fle (f g : Int × Int) : Prop := f.1 * g.2 ≤ g.1 * f.2
theorem fle_trans {a b c : Int × Int} (hb : 0 < b.2) (ha : 0 < a.2) (hc : 0 < c.2) (h : fle a b) (k : fle b c) : fle a c := by
  unfold fle at *
  have h1 := Int.mul_le_mul_of_nonneg_right h (Int.le_of_lt hc)
  have h2 := Int.mul_le_mul_of_nonneg_right k (Int.le_of_lt ha)
  have e1 : a.1 * b.2 * c.2 = a.1 * c.2 * b.2 := by grind
  have e2 : b.1 * a.2 * c.2 = b.1 * c.2 * a.2 := by grind
  have e3 : c.1 * b.2 * a.2 = c.1 * a.2 * b.2 := by grind
  exact Int.le_of_mul_le_mul_right (a := b.2) (by omega) hb
theorem fle_add {a g : Int × Int} (ha : IsF a) (hg : IsF g) (h0 : 0 ≤ g.1) : fle a (fadd a g) := by
  have h2 : 0 < a.2 := ha.1
  have k2 : 0 < g.2 := hg.1
  have hd := Int.mul_pos h2 k2
  have hc : (fadd a g).1 * (a.2 * g.2) = (a.1 * g.2 + g.1 * a.2) * (fadd a g).2 := low_cross (by omega)
  have hb : 0 < (fadd a g).2 := low_b hd
  unfold fle
  refine Int.le_of_mul_le_mul_right (a := g.2) ?_ k2
  have p := Int.mul_nonneg (Int.mul_nonneg h0 (Int.le_of_lt h2)) (Int.le_of_lt hb)
  have e1 : (fadd a g).1 * a.2 * g.2 = (fadd a g).1 * (a.2 * g.2) := by grind
  have e2 : (a.1 * g.2 + g.1 * a.2) * (fadd a g).2 = a.1 * (fadd a g).2 * g.2 + g.1 * a.2 * (fadd a g).2 := by grind
  rw [e1, hc, e2]
  omega
theorem fold_ge : ∀ (l : List (Int × Int)) (a : Int × Int), IsF a → AllF l → (∀ g ∈ l, 0 ≤ g.1) → fle a (l.foldl fadd a)
  | [], a, _, _, _ => by unfold fle; exact Int.le_refl _
  | g :: l, a, ha, hF, h => by
    have hf := fadd_f ha hF.hd
    have h1 := fle_add ha hF.hd (h g List.mem_cons_self)
    have h2 := fold_ge l (fadd a g) hf hF.tl (fun x hx => h x (List.mem_cons_of_mem _ hx))
    exact fle_trans hf.1 ha.1 (sum_fold l (fadd a g) hf hF.tl).1.1 h1 h2
theorem many_head {fs : List (Int × Int)} {f : Int × Int} (W : Wts fs) (h : fs[0]? = some f) : many fs f ≠ 0 := by
  match fs, h with
  | g :: l, h =>
    have e : g = f := by simpa using h
    subst e
    have wg := W.all g List.mem_cons_self
    have ht : tot (g :: l) = l.foldl fadd g := by
      show l.foldl fadd (fadd f0 g) = _
      rw [fadd_0 wg.lo]
    have hge : fle g (tot (g :: l)) := by
      rw [ht]
      exact fold_ge l g wg.lo W.f.tl fun x hx => Int.le_of_lt (W.all x (List.mem_cons_of_mem _ hx)).po
    have hd := Int.mul_pos (tot_f W.f).1 wg.po
    have : 1 ≤ many (g :: l) g := by
      unfold many
      rw [fdiv_pos_eq hd]
      refine Int.le_ediv_of_mul_le hd ?_
      unfold fle at hge
      rw [Int.one_mul, Int.mul_comm]
      exact hge
    omega
theorem lfar_rst {f : Int × Int} (h : IsF f) : low ((f.1 * 1 - fl f * f.2).natAbs : Int) (f.2 * 1) = rst f := by
  have hm := fl_mod h
  have m0 := Int.emod_nonneg f.1 h.ne
  have e : ((f.1 * 1 - fl f * f.2).natAbs : Int) = f.1 * 1 - fl f * f.2 := by omega
  rw [e]
  rfl
theorem lfar_far (f : Int × Int) (c : Int) : low ((f.1 * 1 - c * f.2).natAbs : Int) (f.2 * 1) = far f c := by
  unfold far
  rw [Int.mul_one, Int.mul_one]
theorem used_is (fs : List (Int × Int)) (st : Int × Int) : low (st.1 * many fs st) st.2 = fmul (many fs st, 1) st := by
  show _ = low (many fs st * st.1) (1 * st.2)
  rw [Int.mul_comm, Int.one_mul]
theorem lfar_left {fs : List (Int × Int)} {st : Int × Int} (W : Wts fs) (hs : Wt st) : low (((tot fs).1 * (fmul (many fs st, 1) st).2 - (fmul (many fs st, 1) st).1 * (tot fs).2).natAbs : Int) ((tot fs).2 * (fmul (many fs st, 1) st).2) = left_ fs st := by
  have t2 : 0 < (tot fs).2 := (tot_f W.f).1
  have s2 : 0 < st.2 := hs.lo.1
  have hd := Int.mul_pos t2 hs.po
  have hm : many fs st * ((tot fs).2 * st.1) ≤ (tot fs).1 * st.2 := by
    unfold many
    rw [fdiv_pos_eq hd]
    exact Int.ediv_mul_le _ (by omega)
  have hc : (fmul (many fs st, 1) st).1 * (1 * st.2) = (many fs st * st.1) * (fmul (many fs st, 1) st).2 := low_cross (by omega)
  have hb : 0 < (fmul (many fs st, 1) st).2 := low_b (by omega)
  obtain ⟨u, hu⟩ : ∃ u, u = fmul (many fs st, 1) st := ⟨_, rfl⟩
  rw [← hu] at hc hb ⊢
  have key : u.1 * (tot fs).2 ≤ (tot fs).1 * u.2 := by
    refine Int.le_of_mul_le_mul_right (a := st.2) ?_ s2
    have e1 : u.1 * (tot fs).2 * st.2 = u.1 * (1 * st.2) * (tot fs).2 := by grind
    have e2 : many fs st * st.1 * u.2 * (tot fs).2 = many fs st * ((tot fs).2 * st.1) * u.2 := by grind
    have e3 : (tot fs).1 * u.2 * st.2 = (tot fs).1 * st.2 * u.2 := by grind
    rw [e1, hc, e2, e3]
    exact Int.mul_le_mul_of_nonneg_right hm (Int.le_of_lt hb)
  have e : (((tot fs).1 * u.2 - u.1 * (tot fs).2).natAbs : Int) = (tot fs).1 * u.2 - u.1 * (tot fs).2 := by omega
  rw [e]
  unfold left_
  rw [← hu]
  rfl
end Lf

set_option Elab.async false
set_option linter.all false
set_option maxRecDepth 100000
set_option maxHeartbeats 4000000
/-! xs[i] += e of a list; promises of defs that let nothing out. -/
namespace Lf
open PySem PySem.Spec PyProof.Rows L2
def rGetN (K : PySem.W.Frag) : V → V → Hp → VK → Prop := fun x y H Q => ∃ (p : Addr) (xs : List V) (n : Nat) (v : V), x = .ref p ∧ y = .int n ∧ SqL K H p xs ∧ xs[n]? = some v ∧ n < 2 ^ 60 ∧ Q v H
theorem get_listN {X : Cx} : PGet X (rGetN X.K) := by
  intro pins s σ H o i ov iv Q I ro ri h
  obtain ⟨p, xs, n, v, rfl, rfl, hq, he, hn, q⟩ := h
  cases ro
  obtain ⟨t, rfl⟩ := ri
  obtain ⟨its, r, pl, hz⟩ := I.list hq
  obtain ⟨w, ew, rw'⟩ := r.get he
  exact getItem_listL (x := w) pl.isList (by omega) (by omega) (by simpa using ew) ⟨v, H, I, rw', q⟩
/-- a promise of more -/
theorem FnG.imp {P : Program} {w : World} {K : PySem.W.Frag} {mg : Str → Option Value} {base : Heap} {CX : CXT} {k : Nat} {f : Addr} {fd : FuncData} {ps : List Str} {sp sq : Sp} (F : FnG P w K mg base CX k f fd ps sp) (h : ∀ vs H Q E, sq vs H Q E → sp vs H Q E) : FnG P w K mg base CX k f fd ps sq :=
  ⟨fun vs H Q E q => F.size vs H Q E (h _ _ _ _ q), fun B out s H ar us vs Q E r hg e0 hb hv q => F.goes B out s H ar us vs Q E r hg e0 hb hv (h _ _ _ _ q)⟩
theorem Cal.imp {P : Program} {w : World} {K : PySem.W.Frag} {mg : Str → Option Value} {base : Heap} {CX : CXT} {k : Nat} {x : Str} {ps : List Str} {sp sq : Sp} (C : Cal P w K mg base CX k x ps sp) (h : ∀ vs H Q E, sq vs H Q E → sp vs H Q E) : Cal P w K mg base CX k x ps sq := by
  obtain ⟨f, fd, F, a, b, c, d, e⟩ := C.ex
  exact ⟨f, fd, F.imp h, a, b, c, d, e⟩
/-- where nothing is let out -/
theorem FnG.calm {P : Program} {w : World} {K : PySem.W.Frag} {mg : Str → Option Value} {base : Heap} {k : Nat} {f : Addr} {fd : FuncData} {ps : List Str} {sp : Sp} (F : FnG P w K mg base (L2.CX P w) k f fd ps sp) : FnG P w K mg base CX0 k f fd ps (fun vs H Q _ => sp vs H Q E0) := by
  refine ⟨fun vs H Q E q => F.size vs H Q E0 q, fun B out s H ar us vs Q E r hg e0 hb hv q => ?_⟩
  refine codeAny_mono (F.goes B out s H ar us vs Q E0 r hg e0 hb hv q) fun z s' hz => ?_
  cases z with
  | error e =>
    obtain ⟨_, _, _, _, _, _, _, _, _, _, _, _, z⟩ := (show L2.CX P w out H s E0 e s' from hz)
    exact z.elim
  | ok fl =>
    cases fl with
    | ret u => exact hz
    | next => exact False.elim hz
    | brk => exact False.elim hz
    | cont => exact False.elim hz
theorem Cal.calm {P : Program} {w : World} {K : PySem.W.Frag} {mg : Str → Option Value} {base : Heap} {k : Nat} {x : Str} {ps : List Str} {sp : Sp} (C : Cal P w K mg base (L2.CX P w) k x ps sp) : Cal P w K mg base CX0 k x ps (fun vs H Q _ => sp vs H Q E0) := by
  obtain ⟨f, fd, F, a, b, c, d, e⟩ := C.ex
  exact ⟨f, fd, F.calm, a, b, c, d, e⟩
theorem Cal.or {P : Program} {w : World} {K : PySem.W.Frag} {mg : Str → Option Value} {base : Heap} {CX : CXT} {k : Nat} {x : Str} {ps : List Str} {sp sq : Sp} {f : Addr} {fd : FuncData} (F : FnG P w K mg base CX k f fd ps sp) (G : FnG P w K mg base CX k f fd ps sq) :
    FnG P w K mg base CX k f fd ps (fun vs H Q E => sp vs H Q E ∨ sq vs H Q E) :=
  ⟨fun vs H Q E h => h.elim (F.size vs H Q E) (G.size vs H Q E), fun B out s H ar us vs Q E r hg e0 hb hv h => h.elim (F.goes B out s H ar us vs Q E r hg e0 hb hv) (G.goes B out s H ar us vs Q E r hg e0 hb hv)⟩
end Lf

set_option Elab.async false
set_option linter.all false
set_option maxRecDepth 100000
set_option maxHeartbeats 4000000
set_option exponentiation.threshold 3000
/-! Rows of fractions as data: shown, compared. -/
namespace Lf
open PySem PySem.Spec PyProof.Rows L2
section
variable {K : PySem.W.Frag}
theorem tD_shaped (f : Int × Int) : SeqAt.shaped (tD f) = true := by
  unfold SeqAt.shaped
  rw [Bool.and_eq_true]
  refine ⟨by simp only [tD, PyData.canLay0, PyData.canLayAll0, Bool.and_self], decide_eq_true ?_⟩
  simp only [tD, PyData.depth, PyData.depthAll]
  omega
theorem AtK.dp {H : Hp} {v : V} {f : Int × Int} (h : AtK K H v f) : Dp K H v (tD f) := by
  obtain ⟨p, rfl, hp⟩ := h
  exact dp2 hp
theorem AtKs.dpAll {H : Hp} : ∀ {vs : List V} {fs : List (Int × Int)}, AtKs K H vs fs → DpAll K H vs (fs.map tD)
  | _, _, .nil => .nil
  | _, _, .cons ⟨p, e, h⟩ r => by
    subst e
    exact .cons (dp2 h) (AtKs.dpAll r)
theorem row_lay : ∀ fs : List (Int × Int), PyData.canLayAll0 (fs.map tD) = true ∧ PyData.depthAll (fs.map tD) ≤ 1
  | [] => ⟨by simp only [List.map_nil, PyData.canLayAll0], by simp only [List.map_nil, PyData.depthAll]; omega⟩
  | f :: fs => by
    obtain ⟨i1, i2⟩ := row_lay fs
    refine ⟨?_, ?_⟩
    · simp only [List.map_cons, PyData.canLayAll0, i1, tD, PyData.canLay0, Bool.and_self]
    · simp only [List.map_cons, PyData.depthAll, tD, PyData.depth]
      omega
theorem row_shaped (fs : List (Int × Int)) : SeqAt.shaped (.list (fs.map tD)) = true := by
  obtain ⟨i1, i2⟩ := row_lay fs
  unfold SeqAt.shaped
  rw [Bool.and_eq_true]
  refine ⟨by simp only [PyData.canLay0]; exact i1, decide_eq_true ?_⟩
  simp only [PyData.depth]
  omega
theorem eqv_tD (f g : Int × Int) : PyData.eqv (tD f) (tD g) = decide (f = g) := by
  obtain ⟨a, b⟩ := f
  obtain ⟨c, d⟩ := g
  simp only [tD, PyData.eqv, PyData.eqvAll, Bool.and_true]
  by_cases h : (a, b) = (c, d)
  · rw [decide_eq_true h]
    cases h
    simp
  · rw [decide_eq_false h]
    by_cases h1 : a = c
    · by_cases h2 : b = d
      · exact absurd (by rw [h1, h2]) h
      · simp [h2]
    · simp [h1]
theorem row_eqv : ∀ fs : List (Int × Int), PyData.eqvAll (fs.map tD) (fs.map tD) = true
  | [] => by simp only [List.map_nil, PyData.eqvAll]
  | f :: fs => by simp only [List.map_cons, PyData.eqvAll, eqv_tD, row_eqv fs, decide_true, Bool.and_self]
theorem rowD_eqv (fs : List (Int × Int)) : PyData.eqv (.list (fs.map tD)) (.list (fs.map tD)) = true := by
  simp only [PyData.eqv]
  exact row_eqv fs
theorem Ft.intB {k : Nat} {n : Int} (h : n.natAbs < 2 ^ k) (hk : k ≤ 900) (h0 : 0 < k) : Ft k 0 (.int n) := by
  have f := Ft.int (n := n) (Nat.lt_of_lt_of_le h (Nat.pow_le_pow_right (by decide) hk))
  refine ⟨f.sh, f.nd, f.dp, f.lv, ?_⟩
  simp only [PyData.weight]
  have := PySem.Flt.log2_lt_of (by omega) h
  split <;> omega
theorem row_ft {k : Nat} (hk : k ≤ 900) (h0 : 0 < k) : ∀ fs : List (Int × Int), (∀ f ∈ fs, Bt k f) → FtA ((2 * k + 3) * fs.length) 1 (fs.map tD)
  | [], _ => by
    have := FtA.nil
    exact ⟨this.sh, this.nd, Nat.le_trans this.dp (by decide), this.lv, by simpa using this.wt⟩
  | f :: fs, h => by
    have hb := h f List.mem_cons_self
    have f1 : Ft _ _ (tD f) := Ft.tuple (.cons (Ft.intB hb.1 hk h0) (.cons (Ft.intB hb.2 hk h0) .nil))
    have r := FtA.cons f1 (row_ft hk h0 fs fun g hg => h g (List.mem_cons_of_mem _ hg))
    rw [List.map_cons]
    refine ⟨r.sh, r.nd, Nat.le_trans r.dp (by decide), r.lv, Nat.le_trans r.wt ?_⟩
    rw [List.length_cons, Nat.mul_succ]
    omega
theorem cut_last (ys : List V) (x : V) : cutV (ys ++ [x]) none (some (-1)) = ys := by
  unfold cutV
  have h1 : HT.sIx (ys ++ [x]).length 0 none = 0 := by simp [HT.sIx]
  have h2 : HT.sIx (ys ++ [x]).length (ys ++ [x]).length (some (-1)) = ys.length := by
    simp [HT.sIx]
    omega
  rw [h1, h2]
  simp
theorem rowD {H : Hp} {l : Addr} {xs : List V} {fs : List (Int × Int)} (h : SqL K H l xs) (a : AtKs K H xs fs) : Dp K H (.ref l) (.list (fs.map tD)) := .lst h a.dpAll
theorem pg_tupK {X : Cx} {K : PySem.W.Frag} {es : List Expr} {k : Nat} {t : TGs} {n : Nat} {pos : Pos} (hc : X.calm = true) (h : PGs X es t)
    (hn : (assignEach es X.env).length = n := by rfl) (hst : (assignEach es X.env).findIdx? (·.1) = none := by rfl) (hK : X.K = K := by rfl) : PG X (.Tuple es k pos) (gTup K n t) := hK ▸ pg_tup hc h hn hst
end
end Lf

set_option Elab.async false
set_option linter.all false
set_option maxRecDepth 100000
set_option maxHeartbeats 4000000
set_option exponentiation.threshold 3000
namespace Lf
open PySem PySem.Spec PyProof.Rows L2
theorem bt_sum : bootBuiltins "sum" = some (.builtin "sum") := by decide +kernel
section
variable {P : Program} {w : World} {K : PySem.W.Frag} {mg : Str → Option Value} {base : Heap}
/-- a row, list or tuple -/
def SqX (K : PySem.W.Frag) (H : Hp) (a : Addr) (xs : List V) : Prop := SqL K H a xs ∨ SqT K H a xs
theorem sm_x {H H' : Hp} {a : Addr} {xs : List V} (s : Same H H') (h : SqX K H a xs) : SqX K H' a xs := h.elim (fun h => .inl (sm_l s h)) fun h => .inr (sm_t s h)
/-- weights and a step that goes into them -/
structure Fit (K : PySem.W.Frag) (H : Hp) (a : Addr) (v : V) (xs : List V) (fs : List (Int × Int)) (st : Int × Int) : Prop where
  sq : SqX K H a xs
  at_ : AtKs K H xs fs
  w : Wts fs
  av : AtK K H v st
  s : Wt st
  m : many fs st ≠ 0
theorem Fit.same {H H' : Hp} {a : Addr} {v : V} {xs : List V} {fs : List (Int × Int)} {st : Int × Int} (s : Same H H') (h : Fit K H a v xs fs st) : Fit K H' a v xs fs st := ⟨sm_x s h.sq, h.at_.same s, h.w, h.av.same s, h.s, h.m⟩
def sp_manyX (K : PySem.W.Frag) : Sp := fun vs H Q _ => ∃ (a : Addr) (v : V) (xs : List V) (fs : List (Int × Int)) (st : Int × Int), vs = [.ref a, v] ∧ Fit K H a v xs fs st ∧ ∀ H', Same H H' → Q (.int (many fs st)) H'
theorem ok_manyX {f C : Addr} {fd : FuncData} {k : Nat} {ps : List Str} (F : FnG P w K mg base (L2.CX P w) k f fd ps (sp_manyL K C)) (G : FnG P w K mg base (L2.CX P w) k f fd ps (sp_manyT K C)) : FnG P w K mg base CX0 k f fd ps (sp_manyX K) := by
  refine (F.calm.or G.calm).imp fun vs H Q E h => ?_
  obtain ⟨a, v, xs, fs, st, e, T, k⟩ := h
  rcases T.sq with z | z
  · exact .inl ⟨a, v, xs, fs, st, e, z, T.at_, T.w, T.av, T.s, fun H' s => ⟨fun _ => k H' s, fun z => absurd z T.m⟩⟩
  · exact .inr ⟨a, v, xs, fs, st, e, z, T.at_, T.w, T.av, T.s, fun H' s => ⟨fun _ => k H' s, fun z => absurd z T.m⟩⟩
def sp_aimsX (K : PySem.W.Frag) : Sp := fun vs H Q _ => ∃ (a : Addr) (v : V) (xs : List V) (fs : List (Int × Int)) (st : Int × Int), vs = [.ref a, v] ∧ Fit K H a v xs fs st ∧ ∀ H' D ys, Same H H' → H D = none → H' D = some (.lst ys) → AtKs K (wo D H') ys (aimsF fs st) → Q (.ref D) H'
theorem ok_aimsX {f C : Addr} {fd : FuncData} {k : Nat} {ps : List Str} (F : FnG P w K mg base (L2.CX P w) k f fd ps (sp_aimsL K C)) (G : FnG P w K mg base (L2.CX P w) k f fd ps (sp_aimsT K C)) : FnG P w K mg base CX0 k f fd ps (sp_aimsX K) := by
  refine (F.calm.or G.calm).imp fun vs H Q E h => ?_
  obtain ⟨a, v, xs, fs, st, e, T, k⟩ := h
  rcases T.sq with z | z
  · exact .inl ⟨a, v, xs, fs, st, e, z, T.at_, T.w, T.av, T.s, fun _ => k, fun z => absurd z T.m⟩
  · exact .inr ⟨a, v, xs, fs, st, e, z, T.at_, T.w, T.av, T.s, fun _ => k, fun z => absurd z T.m⟩
def sp_togX (K : PySem.W.Frag) : Sp := fun vs H Q _ => ∃ (a : Addr) (xs : List V) (fs : List (Int × Int)), vs = [.ref a] ∧ SqX K H a xs ∧ AtKs K H xs fs ∧ Wts fs ∧ ∀ H' v, Same H H' → AtK K H' v (tot fs) → Q v H'
theorem ok_togX {f : Addr} {fd : FuncData} {k : Nat} {ps : List Str} (F : FnG P w K mg base CX0 k f fd ps (sp_togL K)) (G : FnG P w K mg base CX0 k f fd ps (sp_togT K)) : FnG P w K mg base CX0 k f fd ps (sp_togX K) := by
  refine (F.or G).imp fun vs H Q E h => ?_
  obtain ⟨a, xs, fs, e, hS, hA, W, k⟩ := h
  have h12 := W.few
  rcases hS with z | z
  · exact .inl ⟨a, xs, fs, 41, e, z, hA, W.f, W.b, by decide, by omega, k⟩
  · exact .inr ⟨a, xs, fs, 41, e, z, hA, W.f, W.b, by decide, by omega, k⟩
/-- an aim -/
structure Am (f : Int × Int) : Prop where
  lo : IsF f
  nn : 0 ≤ f.1
  bt : Bt 636 f
theorem aims_am {fs : List (Int × Int)} {st : Int × Int} (W : Wts fs) (hs : Wt st) : ∀ f ∈ aimsF fs st, Am f := by
  intro f hf
  obtain ⟨g, hg, rfl⟩ := List.mem_map.mp hf
  exact ⟨aim_f W (W.all g hg), aim_nn W hs (W.all g hg), aim_bt W hs (W.all g hg)⟩
theorem aims_len (fs : List (Int × Int)) (st : Int × Int) : (aimsF fs st).length = fs.length := List.length_map _

/-! ### above_floor -/
theorem sc_above_floor : FnScope ["one"] ["one"] (defScope s_above_floor) := ⟨rfl, rfl, rfl, by decide +kernel, rfl, by decide +kernel, by decide +kernel⟩
def sp_above (K : PySem.W.Frag) : Sp := fun vs H Q _ => ∃ (v : V) (f : Int × Int), vs = [v] ∧ AtK K H v f ∧ Am f ∧ ∀ H' p, Same H H' → H' p = some (.tup [.int (rst f).1, .int (rst f).2]) → Q (.ref p) H'
theorem ok_above {f : Addr} {fd : FuncData} (F : Fun K "above_floor" "above_floor" s_above_floor f fd) (C_floor_of : Cal P w K mg base CX0 1 "floor_of" ["one"] (sp_floor K)) (C_minus : Cal P w K mg base CX0 5 "minus" ["one", "other"] (sp_minus K)) : FnG P w K mg base CX0 6 f fd ["one"] (sp_above K) := by
  refine Gfun F sc_above_floor (fun vs H Q E h => ?_) (fun cdv A outer s H vs Q E hg hr h => ?_)
  · obtain ⟨v, g, rfl, _⟩ := h
    rfl
  · obtain ⟨v, g, rfl, hv, am, k⟩ := h
    refine ⟨_, (pss_one (ps_ret (pe_g C_minus (hr.mono (by decide)) hg (pa_cons (pv 0) (pa_cons (pe_tup (pa_cons (pe_g C_floor_of (hr.mono (by decide)) hg (pa_cons (pv 0) pa_nil)) (pa_cons pe_int pa_nil))) pa_nil))))), ?_⟩
    refine ⟨_, rfl, _, rfl, v, g, rfl, hv, am.lo.ne, Sm.mid (am.bt.sm (by decide)).2, len_show (Nat.le_of_ble_eq_true rfl), fun p1 n1 => ?_⟩
    have s1 : Same H (L2.upd H p1 (.tup [.int (g.1.fdiv g.2), .int 1])) := same_new n1
    have a1 : AtK K (L2.upd H p1 (.tup [.int (g.1.fdiv g.2), .int 1])) (.ref p1) (fl g, 1) := AtK.of upd_same
    generalize L2.upd H p1 (.tup [.int (g.1.fdiv g.2), .int 1]) = H1 at s1 a1 ⊢
    exact ⟨_, _, _, _, pr_atk (hv.same s1) a1 am.lo (m1_f _) am.bt (fl_bt am.lo am.nn am.bt (by decide)) (by decide) (by decide), fun H2 p2 s2 e2 => k H2 p2 (s1.trans s2) e2⟩

/-! ### how_many_more -/
theorem sc_how_many_more : FnScope ["weights", "step", "floors", "aim"] ["weights", "step"] (defScope s_how_many_more) := ⟨rfl, rfl, rfl, by decide +kernel, rfl, by decide +kernel, by decide +kernel⟩
def sp_more (K : PySem.W.Frag) : Sp := fun vs H Q _ => ∃ (a : Addr) (v : V) (xs : List V) (fs : List (Int × Int)) (st : Int × Int), vs = [.ref a, v] ∧ Fit K H a v xs fs st ∧ ∀ H', Same H H' → Q (.int (more fs st)) H'
theorem ok_more {f : Addr} {fd : FuncData} (msum : mg "sum" = none) (F : Fun K "how_many_more" "how_many_more" s_how_many_more f fd) (C_floor_of : Cal P w K mg base CX0 1 "floor_of" ["one"] (sp_floor K)) (C_aims : Cal P w K mg base CX0 8 "aims" ["weights", "step"] (sp_aimsX K)) (C_many_steps : Cal P w K mg base CX0 7 "many_steps" ["weights", "step"] (sp_manyX K)) : FnG P w K mg base CX0 9 f fd ["weights", "step"] (sp_more K) := by
  refine Gfun F sc_how_many_more (fun vs H Q E h => ?_) (fun cdv A outer s H vs Q E hg hr h => ?_)
  · obtain ⟨a, v, xs, fs, st, rfl, _⟩ := h
    rfl
  · obtain ⟨a, v, xs, fs, st, rfl, T, k⟩ := h
    refine ⟨_, (pss_cons (ps_setLc (i := 2) (own := [("aim", 3)]) (g := gName 3) (tt := tYes) rfl sc_how_many_more.nd rfl rfl (sw_true rfl rfl rfl (by decide +kernel)) (pi_list (pe_g C_aims (hr.mono (by decide)) hg (pa_cons (pv 0) (pa_cons (pv 1) pa_nil)))) (blkOk_by (N := ["weights", "step", "floors", "aim"]) (sc := defScope s_how_many_more) (by decide +kernel)) (fun _ _ _ _ _ => pg_name (i := 3) sc_how_many_more.nd rfl (Or.inl rfl)) (fun _ _ _ _ _ => pts_nil) (fun _ _ _ _ _ => (pe_g C_floor_of (hr.mono (by decide)) hg (pa_cons (pv 3) pa_nil))))
      (pss_one (ps_ret (pe_op op_sub (pe_g C_many_steps (hr.mono (by decide)) hg (pa_cons (pv 0) (pa_cons (pv 1) pa_nil))) (pe_callB (cr_sum rfl) rfl msum bt_sum (pa_cons (pv 2) pa_nil)))))), ?_⟩
    refine ⟨_, rfl, _, rfl, a, v, xs, fs, st, rfl, T, fun H1 D ys s1 nD eD hy => ?_⟩
    have am := aims_am T.w T.s
    have hyl := hy.length
    rw [aims_len] at hyl
    have h12 := T.w.few
    refine ⟨D, rfl, ⟨_, .inl (.inl eD)⟩, fun D2 hD2 => lc_list (xs := ys) (fun i H' => H' D2 = some (.lst ((((aimsF fs st).map fl).take i).map V.int)) ∧ Same H1 H') ⟨upd_same, same_new hD2⟩ (fun i H' _ h => sm_l h.2 (.inl (.inl eD))) ?_ ?_⟩
    · rintro i x H2 hx ⟨e2, s2⟩
      obtain ⟨g, hgi, hg0⟩ := hy.get hx
      have ag := am g (List.mem_of_getElem? hgi)
      refine ⟨rfl, _, rfl, x, g, rfl, (hg0.same wo_le).same s2, ag.lo.ne, Sm.mid (ag.bt.sm (by decide)).2, _, e2, ?_, ?_, fun b o e => ?_⟩
      · rw [List.length_map, List.length_take, List.length_map, aims_len, sizeLine_eq]
        omega
      · rw [upd_same, List.take_add_one, List.getElem?_map, hgi, List.map_append]
        rfl
      · rw [upd_ne (ne_of_none e hD2)]
        exact s2 _ _ e
    · rintro H2 ⟨e2, s2⟩
      rw [show ys.length = ((aimsF fs st).map fl).length by rw [List.length_map, aims_len, hyl], List.take_length] at e2
      have s02 := s1.trans s2
      refine ⟨_, rfl, _, rfl, a, v, xs, fs, st, rfl, T.same s02, fun H3 s3 => ⟨_, rfl, D2, _, rfl, .inl (.inl (s3 _ _ e2)), _, _, rfl, rfl, k H3 (s02.trans s3)⟩⟩

/-! ### is_sooner -/
theorem sc_is_sooner : FnScope ["aboves", "one", "other"] ["aboves", "one", "other"] (defScope s_is_sooner) := ⟨rfl, rfl, rfl, by decide +kernel, rfl, by decide +kernel, by decide +kernel⟩
def sp_sooner (K : PySem.W.Frag) : Sp := fun vs H Q _ => ∃ (L : Addr) (i j : Nat) (xs : List V) (rs : List (Int × Int)), vs = [.ref L, .int i, .int j] ∧ SqL K H L xs ∧ AtKs K H xs rs ∧ AllF rs ∧ AllB 636 rs ∧ i < rs.length ∧ j < rs.length ∧ Q (.bl (soon rs i j)) H
theorem getD_of {rs : List (Int × Int)} {i : Nat} {g : Int × Int} (h : rs[i]? = some g) : rs.getD i f0 = g := by rw [List.getD_eq_getElem?_getD, h]; rfl
theorem ok_sooner {f : Addr} {fd : FuncData} (F : Fun K "is_sooner" "is_sooner" s_is_sooner f fd) (C_is_less : Cal P w K mg base CX0 1 "is_less" ["one", "other"] (sp_is_less K)) : FnG P w K mg base CX0 2 f fd ["aboves", "one", "other"] (sp_sooner K) := by
  refine Gfun F sc_is_sooner (fun vs H Q E h => ?_) (fun cdv A outer s H vs Q E hg hr h => ?_)
  · obtain ⟨L, i, j, xs, rs, rfl, _⟩ := h
    rfl
  · obtain ⟨L, i, j, xs, rs, rfl, hS, hA, hF, hB, hi, hj, k⟩ := h
    refine ⟨_, (pss_cons (ps_if (pt_cmpR (op_eqD hr.units) (pe_ix ix_list (pv 0) (pv 1) (fun _ _ => rfl)) (pe_ix ix_list (pv 0) (pv 2) (fun _ _ => rfl)) (nomark _))
      (pss_one (ps_ret (pe_cmpR op_lt (pv 1) (pv 2) (nomark _))))
      pss_nil)
      (pss_one (ps_ret (pe_g C_is_less (hr.mono (by decide)) hg (pa_cons (pe_ix ix_list (pv 0) (pv 2) (fun _ _ => rfl)) (pa_cons (pe_ix ix_list (pv 0) (pv 1) (fun _ _ => rfl)) pa_nil)))))), ?_⟩
    obtain ⟨gi, hgi⟩ : ∃ g, rs[i]? = some g := ⟨_, List.getElem?_eq_getElem hi⟩
    obtain ⟨gj, hgj⟩ : ∃ g, rs[j]? = some g := ⟨_, List.getElem?_eq_getElem hj⟩
    obtain ⟨vi, hvi, ai⟩ := hA.getF hgi
    obtain ⟨vj, hvj, aj⟩ := hA.getF hgj
    have fi := hF gi (List.mem_of_getElem? hgi)
    have fj := hF gj (List.mem_of_getElem? hgj)
    have bi := hB gi (List.mem_of_getElem? hgi)
    have bj := hB gj (List.mem_of_getElem? hgj)
    unfold soon at k
    rw [getD_of hgi, getD_of hgj] at k
    refine ⟨_, rfl, _, rfl, L, xs, _, _, rfl, rfl, hS, atI_nat hvi, _, rfl, _, rfl, L, xs, _, _, rfl, rfl, hS, atI_nat hvj, _, _, ai.dp, aj.dp, tD_shaped _, tD_shaped _, _, rfl, ?_⟩
    rw [eqv_tD]
    refine ite2 (fun e => ?_) (fun e => ?_)
    · rw [if_pos (of_decide_eq_true e)] at k
      refine ⟨_, rfl, _, rfl, _, _, rfl, rfl, ?_⟩
      have e2 : decide ((i : Int) < (j : Int)) = decide (i < j) := by
        by_cases z : i < j
        · rw [decide_eq_true z, decide_eq_true (by omega)]
        · rw [decide_eq_false z, decide_eq_false (by omega)]
      show Q (.bl (decide ((i : Int) < (j : Int)))) H
      rw [e2]
      exact k
    · rw [if_neg (fun z => e (decide_eq_true z))] at k
      exact ⟨_, rfl, _, rfl, L, xs, _, _, rfl, rfl, hS, atI_nat hvj, _, rfl, _, rfl, L, xs, _, _, rfl, rfl, hS, atI_nat hvi, _, _, _, _, pr_atk aj ai fj fi bj bi (by decide) (by decide), k⟩

/-! ### are_sooner -/
theorem sc_are_sooner : FnScope ["aboves", "place", "other"] ["aboves", "place"] (defScope s_are_sooner) := ⟨rfl, rfl, rfl, by decide +kernel, rfl, by decide +kernel, by decide +kernel⟩
def sp_aresooner (K : PySem.W.Frag) : Sp := fun vs H Q _ => ∃ (L : Addr) (j : Nat) (xs : List V) (rs : List (Int × Int)), vs = [.ref L, .int j] ∧ SqL K H L xs ∧ AtKs K H xs rs ∧ AllF rs ∧ AllB 636 rs ∧ rs.length ≤ 12 ∧ j < rs.length ∧ ∀ H', Same H H' → Q (.int (ahead rs j : Nat)) H'
theorem filt_step {n : Nat} {p : Nat → Bool} : (List.range (n + 1)).filter p = (List.range n).filter p ++ (if p n = true then [n] else []) := by
  rw [List.range_succ, List.filter_append]
  by_cases h : p n = true
  · rw [if_pos h]
    simp [h]
  · rw [if_neg h]
    simp [h]
theorem ok_aresooner {f : Addr} {fd : FuncData} (M : Blt mg) (F : Fun K "are_sooner" "are_sooner" s_are_sooner f fd) (C_is_sooner : Cal P w K mg base CX0 2 "is_sooner" ["aboves", "one", "other"] (sp_sooner K)) : FnG P w K mg base CX0 3 f fd ["aboves", "place"] (sp_aresooner K) := by
  refine Gfun F sc_are_sooner (fun vs H Q E h => ?_) (fun cdv A outer s H vs Q E hg hr h => ?_)
  · obtain ⟨L, j, xs, rs, rfl, _⟩ := h
    rfl
  · obtain ⟨L, j, xs, rs, rfl, hS, hA, hF, hB, h12, hj, k⟩ := h
    refine ⟨_, (pss_one (ps_ret (pe_callB call_len_seq rfl M.len bt_len (pa_cons (pe_lc (own := [("other", 2)]) (g := gName 2) rfl sc_are_sooner.nd (pi_range1 rfl M.range (pa_cons (pe_callB call_len_seq rfl M.len bt_len (pa_cons (pv 0) pa_nil)) pa_nil)) (blkOk_by (N := ["aboves", "place", "other"]) (sc := defScope s_are_sooner) (by decide +kernel)) (fun _ _ _ _ _ => pg_name (i := 2) sc_are_sooner.nd rfl (Or.inl rfl)) (fun _ _ _ _ _ => (pts_one (pt_val (pe_g C_is_sooner (hr.mono (by decide)) hg (pa_cons (pv 0) (pa_cons (pv 2) (pa_cons (pv 1) pa_nil))))))) (fun _ _ _ _ _ => (pv 2))) pa_nil)))), ?_⟩
    have hl := hA.length
    refine ⟨_, rfl, L, xs, rfl, .inl hS, _, rfl, by omega, by omega, fun D hD => ?_⟩
    refine lc_range (lo := 0) (n := Int.toNat (xs.length : Int)) (fun i H' => H' D = some (.lst (((List.range i).filter fun o => soon rs o j).map fun o : Nat => V.int (o : Int))) ∧ Same H H') ⟨upd_same, same_new hD⟩ ?_ ?_
    · rintro i H1 hi ⟨eD, sm⟩
      have hi' : i < rs.length := by omega
      refine ⟨rfl, _, rfl, _, rfl, _, rfl, L, i, j, xs, rs, (by show [V.ref L, V.int (0 + (i : Int)), V.int (j : Int)] = _; rw [Int.zero_add]), sm_l sm hS, hA.same sm, hF, hB, hi', hj, _, rfl, ?_⟩
      by_cases hb : soon rs i j = true
      · rw [hb]
        refine iteT ⟨_, rfl, _, eD, ?_, ?_, fun b o e => ?_⟩
        · rw [List.length_map, sizeLine_eq]
          have := List.length_filter_le (fun o => soon rs o j) (List.range i)
          rw [List.length_range] at this
          omega
        · rw [upd_same, filt_step, if_pos hb, List.map_append, Int.zero_add]
          rfl
        · rw [upd_ne (ne_of_none e hD)]
          exact sm _ _ e
      · have hb' : soon rs i j = false := by cases h : soon rs i j <;> simp_all
        rw [hb']
        refine iteF ⟨?_, sm⟩
        rw [eD, filt_step, if_neg hb, List.append_nil]
    · rintro H1 ⟨eD, sm⟩
      refine ⟨D, _, rfl, .inl (.inl (.inl eD)), ?_⟩
      have e : Int.toNat (xs.length : Int) = rs.length := by omega
      rw [List.length_map, e]
      exact k _ sm

end
end Lf

set_option Elab.async false
set_option linter.all false
set_option maxRecDepth 100000
set_option maxHeartbeats 4000000
set_option exponentiation.threshold 3000
namespace Lf
open PySem PySem.Spec PyProof.Rows L2
section
variable {P : Program} {w : World} {K : PySem.W.Frag} {mg : Str → Option Value} {base : Heap}

/-! ### nearest -/
theorem sc_nearest : FnScope ["weights", "step", "goals", "counted", "aboves", "more", "place", "aim"] ["weights", "step"] (defScope s_nearest) := ⟨rfl, rfl, rfl, by decide +kernel, rfl, by decide +kernel, by decide +kernel⟩
def sp_nearest (K : PySem.W.Frag) : Sp := fun vs H Q _ => ∃ (a : Addr) (v : V) (xs : List V) (fs : List (Int × Int)) (st : Int × Int), vs = [.ref a, v] ∧ Fit K H a v xs fs st ∧ ∀ H' D, Same H H' → H D = none → H' D = some (.lst ((cnt fs st).map V.int)) → Q (.ref D) H'
theorem AtK.updL {H : Hp} {L : Addr} {xs ys : List V} {v : V} {f : Int × Int} (hL : H L = some (.lst xs)) (h : AtK K H v f) : AtK K (L2.upd H L (.lst ys)) v f := by
  obtain ⟨p, e, h⟩ := h
  refine ⟨p, e, ?_⟩
  rcases h with (h | ⟨ob, h⟩) | h
  · exact .inl (.inl (by rw [upd_ne (fun z => by rw [z, hL] at h; cases h)]; exact h))
  · exact .inl (.inr ⟨ob, by rw [upd_ne (fun z => by rw [z, hL] at h; cases h)]; exact h⟩)
  · exact .inr h
theorem ok_nearest {f : Addr} {fd : FuncData} (M : Blt mg) (F : Fun K "nearest" "nearest" s_nearest f fd) (C_floor_of : Cal P w K mg base CX0 1 "floor_of" ["one"] (sp_floor K)) (C_above_floor : Cal P w K mg base CX0 6 "above_floor" ["one"] (sp_above K)) (C_aims : Cal P w K mg base CX0 8 "aims" ["weights", "step"] (sp_aimsX K)) (C_how_many_more : Cal P w K mg base CX0 9 "how_many_more" ["weights", "step"] (sp_more K)) (C_are_sooner : Cal P w K mg base CX0 3 "are_sooner" ["aboves", "place"] (sp_aresooner K)) : FnG P w K mg base CX0 10 f fd ["weights", "step"] (sp_nearest K) := by
  refine Gfun F sc_nearest (fun vs H Q E h => ?_) (fun cdv A outer s H vs Q E hg hr h => ?_)
  · obtain ⟨a, v, xs, fs, st, rfl, _⟩ := h
    rfl
  · obtain ⟨a, v, xs, fs, st, rfl, T, k⟩ := h
    refine ⟨_, (pss_cons (ps_set (i := 2) sc_nearest.nd rfl (.inl rfl) (pe_g C_aims (hr.mono (by decide)) hg (pa_cons (pv 0) (pa_cons (pv 1) pa_nil))))
      (pss_cons (ps_setLc (i := 3) (own := [("aim", 7)]) (g := gName 7) (tt := tYes) rfl sc_nearest.nd rfl rfl (sw_true rfl rfl rfl (by decide +kernel)) (pi_list (pv 2)) (blkOk_by (N := ["weights", "step", "goals", "counted", "aboves", "more", "place", "aim"]) (sc := defScope s_nearest) (by decide +kernel)) (fun _ _ _ _ _ => pg_name (i := 7) sc_nearest.nd rfl (Or.inl rfl)) (fun _ _ _ _ _ => pts_nil) (fun _ _ _ _ _ => (pe_g C_floor_of (hr.mono (by decide)) hg (pa_cons (pv 7) pa_nil))))
      (pss_cons (ps_setLc (i := 4) (own := [("aim", 7)]) (g := gName 7) (tt := tYes) rfl sc_nearest.nd rfl rfl (sw_true rfl rfl rfl (by decide +kernel)) (pi_list (pv 2)) (blkOk_by (N := ["weights", "step", "goals", "counted", "aboves", "more", "place", "aim"]) (sc := defScope s_nearest) (by decide +kernel)) (fun _ _ _ _ _ => pg_name (i := 7) sc_nearest.nd rfl (Or.inl rfl)) (fun _ _ _ _ _ => pts_nil) (fun _ _ _ _ _ => (pe_g C_above_floor (hr.mono (by decide)) hg (pa_cons (pv 7) pa_nil))))
      (pss_cons (ps_set (i := 5) sc_nearest.nd rfl (.inl rfl) (pe_g C_how_many_more (hr.mono (by decide)) hg (pa_cons (pv 0) (pa_cons (pv 1) pa_nil))))
      (pss_cons (ps_for PassesOwn.never rfl (pi_range1 rfl M.range (pa_cons (pe_callB call_len_seq rfl M.len bt_len (pa_cons (pv 2) pa_nil)) pa_nil)) (pg_name (i := 6) sc_nearest.nd rfl (.inl rfl))
      (pss_one (ps_if (pt_cmpR op_lt (pe_g C_are_sooner (hr.mono (by decide)) hg (pa_cons (pv 4) (pa_cons (pv 6) pa_nil))) (pv 5) (nomark _))
      (pss_one (ps_augS (pv 3) (pv 6) get_listN pe_int ip_add set_list))
      pss_nil)))
      (pss_one (ps_ret (pv 3)))))))), ?_⟩
    have am := aims_am T.w T.s
    have h12 := T.w.few
    refine ⟨_, rfl, _, rfl, a, v, xs, fs, st, rfl, T, fun H1 D ys s1 nD eD hy => ?_⟩
    have hyl := hy.length
    rw [aims_len] at hyl
    have hyH : AtKs K H1 ys (aimsF fs st) := hy.same wo_le
    -- the floors
    refine ⟨_, rfl, D, rfl, ⟨_, .inl (.inl eD)⟩, fun D2 hD2 => lc_list (xs := ys) (fun i H' => H' D2 = some (.lst ((((aimsF fs st).map fl).take i).map V.int)) ∧ Same H1 H') ⟨upd_same, same_new hD2⟩ (fun i H' _ h => sm_l h.2 (.inl (.inl eD))) ?_ ?_⟩
    · rintro i x H2 hx ⟨e2, s2⟩
      obtain ⟨g, hgi, hg0⟩ := hyH.get hx
      have ag := am g (List.mem_of_getElem? hgi)
      refine ⟨rfl, _, rfl, x, g, rfl, hg0.same s2, ag.lo.ne, Sm.mid (ag.bt.sm (by decide)).2, _, e2, ?_, ?_, fun b o e => ?_⟩
      · rw [List.length_map, List.length_take, List.length_map, aims_len, sizeLine_eq]
        omega
      · rw [upd_same, List.take_add_one, List.getElem?_map, hgi, List.map_append]
        rfl
      · rw [upd_ne (ne_of_none e hD2)]
        exact s2 _ _ e
    · rintro H2 ⟨e2, s2⟩
      rw [show ys.length = ((aimsF fs st).map fl).length by rw [List.length_map, aims_len, hyl], List.take_length, ← part_0] at e2
      have nD2 : H D2 = none := same_none s1 hD2
      -- what is above them
      refine ⟨_, rfl, D, rfl, ⟨_, .inl (.inl (s2 _ _ eD))⟩, fun D3 hD3 => lc_list (xs := ys) (fun i H' => (∃ zs, H' D3 = some (.lst zs) ∧ AtKs K (wo D3 H') zs (((aimsF fs st).map rst).take i)) ∧ Same H2 H') ⟨⟨[], upd_same, .nil⟩, same_new hD3⟩ (fun i H' _ h => sm_l (s2.trans h.2) (.inl (.inl eD))) ?_ ?_⟩
      · rintro i x H3 hx ⟨⟨zs, e3, hz⟩, s3⟩
        obtain ⟨g, hgi, hg0⟩ := hyH.get hx
        have ag := am g (List.mem_of_getElem? hgi)
        refine ⟨rfl, _, rfl, x, g, rfl, hg0.same (s2.trans s3), ag, fun H4 p4 s4 e4 => ?_⟩
        have hzl := hz.length
        rw [List.length_take, List.length_map, aims_len] at hzl
        have n4 : p4 ≠ D3 := fun z => by
          rw [z, s4 _ _ e3] at e4
          cases e4
        refine ⟨zs, s4 _ _ e3, by rw [sizeLine_eq]; omega, ⟨zs ++ [.ref p4], upd_same, ?_⟩, fun b o e => ?_⟩
        · rw [List.take_add_one, List.getElem?_map, hgi]
          have s7 : Same (wo D3 H3) (wo D3 (L2.upd H4 D3 (.lst (zs ++ [.ref p4])))) := fun b o e => wo_at (wo_not e) (by rw [upd_ne (wo_not e)]; exact s4 _ _ (wo_le _ _ e))
          refine (hz.same s7).app (.cons (AtK.of (wo_at n4 ?_)) .nil)
          rw [upd_ne n4]
          exact e4
        · rw [upd_ne (ne_of_none e hD3)]
          exact s4 _ _ (s3 _ _ e)
      · rintro H3 ⟨⟨zs, e3, hz⟩, s3⟩
        rw [show ys.length = ((aimsF fs st).map rst).length by rw [List.length_map, aims_len, hyl], List.take_length] at hz
        have hzH : AtKs K H3 zs ((aimsF fs st).map rst) := hz.same wo_le
        have s03 := (s1.trans s2).trans s3
        refine ⟨_, rfl, _, rfl, a, v, xs, fs, st, rfl, T.same s03, fun H4 s4 => ?_⟩
        have s04 := s03.trans s4
        have e24 : H4 D2 = some (.lst ((part fs st 0).map V.int)) := s4 _ _ (s3 _ _ e2)
        have e34 := s4 _ _ e3
        have eD4 : H4 D = some (.lst ys) := s4 _ _ (s3 _ _ (s2 _ _ eD))
        have hz4 : AtKs K H4 zs ((aimsF fs st).map rst) := hzH.same s4
        have ne32 : D3 ≠ D2 := fun z => by
          rw [z, e2] at hD3
          cases hD3
        have rF : AllF ((aimsF fs st).map rst) := fun g hg => by
          obtain ⟨y, hy, rfl⟩ := List.mem_map.mp hg
          exact rst_f (am y hy).lo
        have rB : AllB 636 ((aimsF fs st).map rst) := fun g hg => by
          obtain ⟨y, hy, rfl⟩ := List.mem_map.mp hg
          exact rst_bt (am y hy).lo (am y hy).bt
        have rl : ((aimsF fs st).map rst).length = fs.length := by rw [List.length_map, aims_len]
        refine ⟨_, rfl, D, ys, rfl, .inl (.inl (.inl eD4)), _, rfl, by omega, by omega, ?_⟩
        refine for_range (lo := 0) (n := Int.toNat (ys.length : Int)) (fun i σ H' => ∃ (y5 y6 : Option V), σ = [some (.ref a), some v, some (.ref D), some (.ref D2), some (.ref D3), some (.int (more fs st)), y5, y6] ∧ H' D2 = some (.lst ((part fs st i).map V.int)) ∧ H' D3 = some (.lst zs) ∧ AtKs K H' zs ((aimsF fs st).map rst) ∧ Same H H') ⟨_, _, rfl, e24, e34, hz4, s04⟩ ?_ ?_
        · rintro i σ H5 hi ⟨y5, y6, rfl, e5, f5, hz5, s5⟩
          have hi' : i < fs.length := by omega
          refine ⟨_, rfl, _, rfl, D3, i, zs, _, (by show [V.ref D3, V.int (0 + (i : Int))] = _; rw [Int.zero_add]), .inl (.inl f5), hz5, rF, rB, by omega, by omega, fun H6 s6 => ⟨_, rfl, _, _, rfl, rfl, _, rfl, ite2 (fun e => ?_) (fun e => ?_)⟩⟩
          · have hlt : (ahead ((aimsF fs st).map rst) i : Int) < more fs st := of_decide_eq_true e
            have hc : cntAt fs st i = fl ((aimsF fs st).getD i f0) + 1 := by
              unfold cntAt
              rw [if_pos hlt]
            have hget : ((part fs st i).map V.int)[i]? = some (.int (fl ((aimsF fs st).getD i f0))) := by
              rw [List.getElem?_map, part_get hi', if_neg (Nat.lt_irrefl i)]
              rfl
            refine ⟨_, rfl, _, rfl, D2, _, i, _, rfl, (by rw [Int.zero_add]), .inl (.inl (s6 _ _ e5)), hget, by omega, ?_⟩
            refine ⟨_, _, rfl, rfl, D2, _, _, i, rfl, rfl, s6 _ _ e5, ?_, ?_⟩
            · rw [Int.zero_add]
              unfold ixN
              have h1 : ¬ (i : Int) < 0 := by omega
              simp [h1, part_len, hi']
            refine ⟨_, _, rfl, ?_, ?_, ?_, fun b o eb => ?_⟩
            · rw [upd_same, part_set hi', hc, List.map_set]
            · rw [upd_ne ne32]
              exact s6 _ _ f5
            · exact (hz5.same s6).map fun _ _ => AtK.updL (s6 _ _ e5)
            · rw [upd_ne (ne_of_none eb nD2)]
              exact s6 _ _ (s5 _ _ eb)
          · have hlt : ¬ (ahead ((aimsF fs st).map rst) i : Int) < more fs st := fun z => e (decide_eq_true z)
            have hc : cntAt fs st i = fl ((aimsF fs st).getD i f0) := by
              unfold cntAt
              rw [if_neg hlt, Int.add_zero]
            refine ⟨_, _, rfl, ?_, s6 _ _ f5, hz5.same s6, s5.trans s6⟩
            rw [part_stay hc]
            exact s6 _ _ e5
        · rintro σ H5 ⟨y5, y6, rfl, e5, f5, hz5, s5⟩
          rw [show Int.toNat (ys.length : Int) = fs.length by omega, part_n] at e5
          exact ⟨_, rfl, k H5 D2 s5 nD2 e5⟩

end
end Lf

set_option Elab.async false
set_option linter.all false
set_option maxRecDepth 100000
set_option maxHeartbeats 4000000
set_option exponentiation.threshold 3000
namespace Lf
open PySem PySem.Spec PyProof.Rows L2
section
variable {P : Program} {w : World} {K : PySem.W.Frag} {mg : Str → Option Value} {base : Heap}

/-! ### worst_of -/
theorem sc_worst_of : FnScope ["weights", "step", "counted", "worst", "aim", "count", "top", "bottom"] ["weights", "step", "counted"] (defScope s_worst_of) := ⟨rfl, rfl, rfl, by decide +kernel, rfl, by decide +kernel, by decide +kernel⟩
def sp_worst (K : PySem.W.Frag) : Sp := fun vs H Q _ => ∃ (a Lc : Addr) (v : V) (xs : List V) (fs : List (Int × Int)) (st : Int × Int) (cs : List Int), vs = [.ref a, v, .ref Lc] ∧ Fit K H a v xs fs st ∧ SqL K H Lc (cs.map V.int) ∧ cs.length = fs.length ∧ Near 640 (aimsF fs st) cs ∧ ∀ H' u, Same H H' → AtK K H' u (worst (aimsF fs st) cs) → Q u H'
theorem ok_worst {f c0 : Addr} {fd : FuncData} (M : Blt mg) (Mz : mg "zip" = none) (g0 : mg "NONE_OF_IT" = some (.ref c0)) (t0 : ∀ H, SqT K H c0 [.int 0, .int 1]) (F : Fun K "worst_of" "worst_of" s_worst_of f fd) (C_aims : Cal P w K mg base CX0 8 "aims" ["weights", "step"] (sp_aimsX K)) (C_minus : Cal P w K mg base CX0 5 "minus" ["one", "other"] (sp_minus K)) (C_is_less : Cal P w K mg base CX0 1 "is_less" ["one", "other"] (sp_is_less K)) : FnG P w K mg base CX0 9 f fd ["weights", "step", "counted"] (sp_worst K) := by
  refine Gfun F sc_worst_of (fun vs H Q E h => ?_) (fun cdv A outer s H vs Q E hg hr h => ?_)
  · obtain ⟨a, Lc, v, xs, fs, st, cs, rfl, _⟩ := h
    rfl
  · obtain ⟨a, Lc, v, xs, fs, st, cs, rfl, T, hC, hcl, hN, k⟩ := h
    refine ⟨_, (pss_cons (ps_set (i := 3) sc_worst_of.nd rfl (.inl rfl) (pe_glob (v := .ref c0) rfl g0 rfl))
      (pss_cons (ps_for PassesOwn.never rfl (RZ.pi_zipA rfl Mz (pa_cons (pe_g C_aims (hr.mono (by decide)) hg (pa_cons (pv 0) (pa_cons (pv 1) pa_nil))) (pa_cons (pv 2) pa_nil))) (pg_tup rfl (pgs_cons (pg_name (i := 4) sc_worst_of.nd rfl (.inl rfl)) (pgs_cons (pg_name (i := 5) sc_worst_of.nd rfl (.inl rfl)) pgs_nil)))
      (pss_cons (ps_asg (pe_g C_minus (hr.mono (by decide)) hg (pa_cons (pe_tup (pa_cons (pv 5) (pa_cons pe_int pa_nil))) (pa_cons (pv 4) pa_nil))) (pg_tup rfl (pgs_cons (pg_name (i := 6) sc_worst_of.nd rfl (.inl rfl)) (pgs_cons (pg_name (i := 7) sc_worst_of.nd rfl (.inl rfl)) pgs_nil))))
      (pss_one (ps_if (pt_val (pe_g C_is_less (hr.mono (by decide)) hg (pa_cons (pv 3) (pa_cons (pe_tup (pa_cons (pe_callB call_abs rfl M.abs bt_abs (pa_cons (pv 6) pa_nil)) (pa_cons (pv 7) pa_nil))) pa_nil))))
      (pss_one (ps_set (i := 3) sc_worst_of.nd rfl (.inl rfl) (pe_tup (pa_cons (pe_callB call_abs rfl M.abs bt_abs (pa_cons (pv 6) pa_nil)) (pa_cons (pv 7) pa_nil)))))
      pss_nil))))
      (pss_one (ps_ret (pv 3))))), ?_⟩
    have am := aims_am T.w T.s
    have aF : AllF (aimsF fs st) := fun f hf => (am f hf).lo
    refine ⟨_, rfl, _, rfl, a, v, xs, fs, st, rfl, T, fun H1 D ys s1 nD eD hy => ?_⟩
    have hyl := hy.length
    rw [aims_len] at hyl
    have hyH : AtKs K H1 ys (aimsF fs st) := hy.same wo_le
    have hn : fs.length = min ys.length (cs.map V.int).length := by
      rw [List.length_map]
      omega
    refine ⟨_, rfl, D, Lc, ys, cs.map V.int, rfl, .inl ⟨.inl (.inl eD), sm_l s1 hC, for_it (walk_zip (xs := ys) (ys := cs.map V.int) hn) (fun i σ H' => ∃ (y1 y2 y3 y4 : Option V) (tv : V), σ = [some (.ref a), some v, some (.ref Lc), some tv, y1, y2, y3, y4] ∧ Same H1 H' ∧ AtK K H' tv ((((aimsF fs st).zip cs).take i).foldl wst f0))
      ⟨_, _, _, _, .ref c0, rfl, same_rfl, ⟨c0, rfl, t0 H1⟩⟩ (fun i σ H' _ ⟨_, _, _, _, _, _, sm, _⟩ => ⟨.inl (.inl (sm _ _ eD)), sm_l (s1.trans sm) hC⟩) ?_ ?_⟩⟩
    · rintro i x σ H3 H4 hi ⟨y1, y2, y3, y4, tv, rfl, s3, ht⟩ ⟨T', x1, z1, rfl, hT, rfl, hx1, hz1⟩
      have s4 : Same H3 (L2.upd H3 T' (.tup [x1, z1])) := same_new hT
      have t4 : SqT K (L2.upd H3 T' (.tup [x1, z1])) T' [x1, z1] := .inl (.inl upd_same)
      generalize L2.upd H3 T' (.tup [x1, z1]) = H4 at s4 t4 ⊢
      have s34 := s3.trans s4
      obtain ⟨g, hgi, hg0⟩ := hyH.get (show ys[i]? = some x1 from hx1)
      obtain ⟨c, hci, rfl⟩ : ∃ c, cs[i]? = some c ∧ z1 = .int c := by
        have hz : (cs.map V.int)[i]? = some z1 := hz1
        rw [List.getElem?_map] at hz
        cases e : cs[i]? with
        | none => rw [e] at hz; cases hz
        | some c => rw [e] at hz; exact ⟨c, rfl, (Option.some.inj hz).symm⟩
      have ag := am g (List.mem_of_getElem? hgi)
      have hmem : (g, c) ∈ (aimsF fs st).zip cs := List.mem_of_getElem? (show ((aimsF fs st).zip cs)[i]? = some (g, c) by rw [List.getElem?_zip_eq_some]; exact ⟨hgi, hci⟩)
      obtain ⟨nb, cb⟩ := hN _ hmem
      have cb' : c.natAbs < 2 ^ 640 := cb
      have nb' : Bt 640 (far g c) := nb
      refine ⟨T', _, rfl, t4, rfl, _, _, rfl, _, _, rfl, rfl, ?_⟩
      refine ⟨_, rfl, len_show (Nat.le_of_ble_eq_true rfl), fun p5 n5 => ?_⟩
      have s5 : Same H4 (L2.upd H4 p5 (.tup [.int c, .int 1])) := same_new n5
      have a5 : AtK K (L2.upd H4 p5 (.tup [.int c, .int 1])) (.ref p5) (c, 1) := AtK.of upd_same
      generalize L2.upd H4 p5 (.tup [.int c, .int 1]) = H5 at s5 a5 ⊢
      have hx5 := (hg0.same s34).same s5
      have c1b : Bt 640 (c, 1) := ⟨cb', Nat.one_lt_two_pow (by decide)⟩
      refine ⟨_, rfl, _, _, _, _, pr_atk a5 hx5 (m1_f _) ag.lo c1b ag.bt (by decide) (by decide), fun H6 p6 s6 e6 => ?_⟩
      have t6 : SqT K H6 p6 [.int (fsub (c, 1) g).1, .int (fsub (c, 1) g).2] := .inl (.inl e6)
      have hfp := far_prog ag.lo c
      have h1 : (if (fsub (c, 1) g).1 < 0 then -(fsub (c, 1) g).1 else (fsub (c, 1) g).1) = (far g c).1 := by rw [abs_is, ← hfp]
      have h2 : (fsub (c, 1) g).2 = (far g c).2 := by rw [← hfp]
      refine ⟨p6, _, rfl, t6, rfl, _, _, rfl, _, _, rfl, rfl, ?_⟩
      have s16 := (s34.trans s5).trans s6
      have ht6 : AtK K H6 tv ((((aimsF fs st).zip cs).take i).foldl wst f0) := ((ht.same s4).same s5).same s6
      obtain ⟨wF, wB, _⟩ := worst_ok (k := 640) aF (by decide) hN i
      refine ⟨_, rfl, _, rfl, _, rfl, _, rfl, len_show (Nat.le_of_ble_eq_true rfl), fun p7 n7 => ?_⟩
      rw [h1, h2]
      have s7 : Same H6 (L2.upd H6 p7 (.tup [.int (far g c).1, .int (far g c).2])) := same_new n7
      have a7 : AtK K (L2.upd H6 p7 (.tup [.int (far g c).1, .int (far g c).2])) (.ref p7) (far g c) := AtK.of upd_same
      generalize L2.upd H6 p7 (.tup [.int (far g c).1, .int (far g c).2]) = H7 at s7 a7 ⊢
      refine ⟨_, _, _, _, pr_atk (ht6.same s7) a7 wF (far_f ag.lo c) wB nb' (by decide) (by decide), ?_⟩
      have hst := worst_step (cs := cs) hgi hci
      have s17 := s16.trans s7
      refine ⟨_, rfl, ite2 (fun e => ?_) (fun e => ?_)⟩
      · refine ⟨_, rfl, _, rfl, _, rfl, len_show (Nat.le_of_ble_eq_true rfl), fun p8 n8 => ?_⟩
        rw [h1]
        have s8 : Same H7 (L2.upd H7 p8 (.tup [.int (far g c).1, .int (far g c).2])) := same_new n8
        have a8 : AtK K (L2.upd H7 p8 (.tup [.int (far g c).1, .int (far g c).2])) (.ref p8) (far g c) := AtK.of upd_same
        refine ⟨_, _, _, _, _, rfl, s17.trans s8, ?_⟩
        rw [hst]
        unfold wmax
        rw [if_pos (show lessB _ _ = true from e)]
        exact a8
      · refine ⟨_, _, _, _, _, rfl, s17, ?_⟩
        rw [hst]
        unfold wmax
        rw [if_neg (show ¬ lessB _ _ = true from e)]
        exact ht6.same s7
    · rintro σ H3 ⟨y1, y2, y3, y4, tv, rfl, s3, ht⟩
      refine ⟨_, rfl, k H3 tv (s1.trans s3) ?_⟩
      rw [List.take_of_length_le (by rw [List.length_zip, aims_len]; omega)] at ht
      exact ht

/-! ### rounded -/
theorem sc_rounded : FnScope ["weights", "step", "counted", "rest"] ["weights", "step"] (defScope s_rounded) := ⟨rfl, rfl, rfl, by decide +kernel, rfl, by decide +kernel, by decide +kernel⟩
theorem near_cnt {fs : List (Int × Int)} {st : Int × Int} (W : Wts fs) (hs : Wt st) : Near 640 (aimsF fs st) (cnt fs st) := by
  intro p hp
  obtain ⟨i, hi⟩ := List.getElem?_of_mem hp
  obtain ⟨h1, h2⟩ := List.getElem?_zip_eq_some.mp hi
  have hlt : i < fs.length := by
    have := (List.getElem?_eq_some_iff.mp h1).1
    rw [aims_len] at this
    exact this
  rw [cnt_get hlt] at h2
  have am := aims_am W hs p.1 (List.mem_of_getElem? h1)
  have hd : (aimsF fs st).getD i f0 = p.1 := by rw [List.getD_eq_getElem?_getD, h1]; rfl
  refine near_one am.lo am.nn am.bt ?_
  rw [← Option.some.inj h2]
  unfold cntAt
  rw [hd]
  split
  · exact .inr rfl
  · exact .inl (Int.add_zero _)
theorem mstep_f {fs : List (Int × Int)} {st : Int × Int} (hs : Wt st) : IsF (fmul (many fs st, 1) st) := fmul_f (m1_f _) hs.lo
theorem mstep_bt {fs : List (Int × Int)} {st : Int × Int} (W : Wts fs) (hs : Wt st) : Bt 131 (fmul (many fs st, 1) st) := fmul_bt (m1_f _) hs.lo (many_bt W hs) hs.bt
def sp_rounded (K : PySem.W.Frag) : Sp := fun vs H Q _ => ∃ (a : Addr) (v : V) (xs : List V) (fs : List (Int × Int)) (st : Int × Int), vs = [.ref a, v] ∧ Fit K H a v xs fs st ∧ ∀ H' p D v1 v2, Same H H' → H D = none → H p = none → H' p = some (.tup [.ref D, v1, v2]) → H' D = some (.lst ((cnt fs st).map V.int)) → AtK K H' v1 (left_ fs st) → AtK K H' v2 (worst (aimsF fs st) (cnt fs st)) → Q (.ref p) H'
theorem ok_rounded {f : Addr} {fd : FuncData} (F : Fun K "rounded" "rounded" s_rounded f fd) (C_nearest : Cal P w K mg base CX0 10 "nearest" ["weights", "step"] (sp_nearest K)) (C_together : Cal P w K mg base CX0 6 "together" ["ones"] (sp_togX K)) (C_many_steps : Cal P w K mg base CX0 7 "many_steps" ["weights", "step"] (sp_manyX K)) (C_times : Cal P w K mg base CX0 5 "times" ["one", "other"] (sp_times K)) (C_minus : Cal P w K mg base CX0 5 "minus" ["one", "other"] (sp_minus K)) (C_worst_of : Cal P w K mg base CX0 9 "worst_of" ["weights", "step", "counted"] (sp_worst K)) : FnG P w K mg base CX0 11 f fd ["weights", "step"] (sp_rounded K) := by
  refine Gfun F sc_rounded (fun vs H Q E h => ?_) (fun cdv A outer s H vs Q E hg hr h => ?_)
  · obtain ⟨a, v, xs, fs, st, rfl, _⟩ := h
    rfl
  · obtain ⟨a, v, xs, fs, st, rfl, T, k⟩ := h
    refine ⟨_, (pss_cons (ps_set (i := 2) sc_rounded.nd rfl (.inl rfl) (pe_g C_nearest (hr.mono (by decide)) hg (pa_cons (pv 0) (pa_cons (pv 1) pa_nil))))
      (pss_cons (ps_set (i := 3) sc_rounded.nd rfl (.inl rfl) (pe_g C_minus (hr.mono (by decide)) hg (pa_cons (pe_g C_together (hr.mono (by decide)) hg (pa_cons (pv 0) pa_nil)) (pa_cons (pe_g C_times (hr.mono (by decide)) hg (pa_cons (pe_tup (pa_cons (pe_g C_many_steps (hr.mono (by decide)) hg (pa_cons (pv 0) (pa_cons (pv 1) pa_nil))) (pa_cons pe_int pa_nil))) (pa_cons (pv 1) pa_nil))) pa_nil))))
      (pss_one (ps_ret (pe_tup (pa_cons (pv 2) (pa_cons (pv 3) (pa_cons (pe_g C_worst_of (hr.mono (by decide)) hg (pa_cons (pv 0) (pa_cons (pv 1) (pa_cons (pv 2) pa_nil)))) pa_nil)))))))), ?_⟩
    refine ⟨_, rfl, _, rfl, a, v, xs, fs, st, rfl, T, fun H1 D s1 nD eD => ?_⟩
    have T1 := T.same s1
    refine ⟨_, rfl, a, xs, fs, rfl, T1.sq, T1.at_, T.w, fun H2 tv s2 ht => ?_⟩
    have T2 := T1.same s2
    refine ⟨_, rfl, _, rfl, a, v, xs, fs, st, rfl, T2, fun H3 s3 => ?_⟩
    refine ⟨len_show (Nat.le_of_ble_eq_true rfl), fun p4 n4 => ?_⟩
    have s4 : Same H3 (L2.upd H3 p4 (.tup [.int (many fs st), .int 1])) := same_new n4
    have a4 : AtK K (L2.upd H3 p4 (.tup [.int (many fs st), .int 1])) (.ref p4) (many fs st, 1) := AtK.of upd_same
    generalize L2.upd H3 p4 (.tup [.int (many fs st), .int 1]) = H4 at s4 a4 ⊢
    have s24 := s3.trans s4
    refine ⟨_, rfl, _, _, _, _, pr_atk a4 (T2.av.same s24) (m1_f _) T.s.lo (many_bt T.w T.s) T.s.bt (by decide) (by decide), fun H5 p5 s5 e5 => ?_⟩
    have s25 := s24.trans s5
    have a5 : AtK K H5 (.ref p5) (fmul (many fs st, 1) st) := AtK.of e5
    refine ⟨_, _, _, _, pr_atk (ht.same s25) a5 (tot_f T.w.f) (mstep_f T.s) (tot_bt T.w) (mstep_bt T.w T.s) (by decide) (by decide), fun H6 p6 s6 e6 => ?_⟩
    have s16 := (s2.trans s25).trans s6
    have s06 := s1.trans s16
    have a6 : AtK K H6 (.ref p6) (left_ fs st) := AtK.of e6
    refine ⟨_, rfl, _, rfl, _, rfl, _, rfl, _, rfl, a, D, v, xs, fs, st, cnt fs st, rfl, T.same s06, .inl (.inl (s16 _ _ eD)), cnt_len _ _, near_cnt T.w T.s, fun H7 u s7 hu => ?_⟩
    refine ⟨len_show (Nat.le_of_ble_eq_true rfl), fun p8 n8 => ?_⟩
    have s8 : Same H7 (L2.upd H7 p8 (.tup [.ref D, .ref p6, u])) := same_new n8
    have s08 := (s06.trans s7).trans s8
    exact k _ p8 D _ _ s08 nD (same_none (s06.trans s7) n8) upd_same (s8 _ _ (s7 _ _ (s16 _ _ eD))) ((a6.same s7).same s8) (hu.same s8)

end
end Lf

set_option Elab.async false
set_option linter.all false
set_option maxRecDepth 100000
set_option maxHeartbeats 4000000
set_option exponentiation.threshold 3000
/-! Papers: places that cannot be counted their floors, or one more. -/
namespace Lf
theorem rst_pair {f : Int × Int} (h : IsF f) (h0 : 0 ≤ f.1) : rst f = (f.1 % f.2, f.2) := by
  rw [rst_eq h]
  have m0 := Int.emod_nonneg f.1 h.ne
  have h2 : 0 < f.2 := h.1
  refine low_self ⟨h.1, ?_⟩
  show (f.1 % f.2).natAbs.gcd f.2.natAbs = 1
  rw [Nat.gcd_comm, gcd_step f.1 f.2 h.1 h0]
  exact h.2
theorem fsub_1 {r : Int × Int} (h : IsF r) : fsub f1 r = (r.2 - r.1, r.2) := by
  have e : fsub f1 r = low (r.2 - r.1) r.2 := by
    show low (1 * r.2 - r.1 * 1) (1 * r.2) = _
    rw [Int.one_mul, Int.mul_one]
  rw [e]
  refine low_self ⟨h.1, ?_⟩
  have g := h.2
  have : Int.gcd (r.2 - r.1) r.2 = Int.gcd r.1 r.2 := by simp
  unfold Int.gcd at this
  show (r.2 - r.1).natAbs.gcd r.2.natAbs = 1
  rw [this]
  exact g
def upP (R : List (Int × Int)) (b : Int × Int) (i : Nat) : Bool := !lessB (R.getD i f0) b
def dnP (R : List (Int × Int)) (b : Int × Int) (i : Nat) : Bool := !lessB (fsub f1 (R.getD i f0)) b
def upL (R : List (Int × Int)) (b : Int × Int) : List Nat := (List.range R.length).filter (upP R b)
def dnL (R : List (Int × Int)) (b : Int × Int) : List Nat := (List.range R.length).filter (dnP R b)
/-- whether a paper shows -/
def showsB (U D : List Nat) (m : Int) (n : Nat) : Bool := U.any (fun p => D.contains p) || (decide (m < (U.length : Int)) || decide ((n : Int) - (D.length : Int) < m))
theorem up_le (R : List (Int × Int)) (b : Int × Int) : (upL R b).length ≤ R.length := Nat.le_trans (List.length_filter_le _ _) (by rw [List.length_range]; exact Nat.le_refl _)
theorem dn_le (R : List (Int × Int)) (b : Int × Int) : (dnL R b).length ≤ R.length := Nat.le_trans (List.length_filter_le _ _) (by rw [List.length_range]; exact Nat.le_refl _)
theorem up_lt {R : List (Int × Int)} {b : Int × Int} {i : Nat} (h : i ∈ upL R b) : i < R.length := List.mem_range.mp (List.mem_filter.mp h).1
theorem dn_lt {R : List (Int × Int)} {b : Int × Int} {i : Nat} (h : i ∈ dnL R b) : i < R.length := List.mem_range.mp (List.mem_filter.mp h).1
end Lf

set_option Elab.async false
set_option linter.all false
set_option maxRecDepth 100000
set_option maxHeartbeats 4000000
set_option exponentiation.threshold 3000
namespace Lf
open PySem PySem.Spec PyProof.Rows L2
theorem bt_any : bootBuiltins "any" = some (.builtin "any") := by decide +kernel
theorem op_inK {X : Cx} {K : PySem.W.Frag} (hK : X.K = K := by rfl) : OpR X (compareOp .In) (rIn K false) := hK ▸ op_in_seq
section
variable {P : Program} {w : World} {K : PySem.W.Frag} {mg : Str → Option Value} {base : Heap}
/-- places as values -/
def nV (l : List Nat) : List V := l.map fun o : Nat => V.int (o : Int)
theorem nV_len (l : List Nat) : (nV l).length = l.length := List.length_map _
theorem nV_flat (l : List Nat) : (nV l).all flatV = true := by
  rw [List.all_eq_true]
  intro v hv
  obtain ⟨n, _, rfl⟩ := List.mem_map.mp hv
  rfl
theorem inV_nat (p : Nat) (l : List Nat) : inV (.int (p : Int)) (nV l) = l.contains p := by
  induction l with
  | nil => rfl
  | cons x l ih =>
    have e : inV (.int (p : Int)) (nV (x :: l)) = (eqV (.int (x : Int)) (.int (p : Int)) || inV (.int (p : Int)) (nV l)) := rfl
    rw [e, ih, List.contains_cons]
    congr 1
    by_cases h : x = p
    · subst h
      simp [eqV]
    · have h1 : ¬ (x : Int) = (p : Int) := by omega
      have h2 : ¬ p = x := fun z => h z.symm
      show ((x : Int) == (p : Int)) = (p == x)
      rw [show ((x : Int) == (p : Int)) = false from beq_eq_false_iff_ne.mpr h1, show (p == x) = false from beq_eq_false_iff_ne.mpr h2]
/-- a bound -/
structure Bd (b : Int × Int) : Prop where
  lo : IsF b
  bt : Bt 640 b
theorem one_less {r : Int × Int} (h : IsF r) (b : Bt 636 r) : IsF (fsub f1 r) ∧ Bt 640 (fsub f1 r) := ⟨fsub_f f1_f h, (fsub_bt f1_f h bt01.2 b).mono (by decide)⟩

/-! ### paper -/
theorem sc_paper : FnScope ["weights", "step", "bound", "aboves", "up", "down", "aim", "place", "above"] ["weights", "step", "bound"] (defScope s_paper) := ⟨rfl, rfl, rfl, by decide +kernel, rfl, by decide +kernel, by decide +kernel⟩
def sp_paper (K : PySem.W.Frag) : Sp := fun vs H Q _ => ∃ (a : Addr) (v u : V) (xs : List V) (fs : List (Int × Int)) (st b : Int × Int), vs = [.ref a, v, u] ∧ Fit K H a v xs fs st ∧ AtK K H u b ∧ Bd b ∧ ∀ H' p D E, Same H H' → H D = none → H E = none → H p = none → D ≠ E → H' p = some (.tup [.ref D, .ref E]) → H' D = some (.lst (nV (upL ((aimsF fs st).map rst) b))) → H' E = some (.lst (nV (dnL ((aimsF fs st).map rst) b))) → Q (.ref p) H'
set_option maxHeartbeats 8000000 in
theorem ok_paper {f c1 : Addr} {fd : FuncData} (M : Blt mg) (Me : mg "enumerate" = none) (g1 : mg "ALL_OF_IT" = some (.ref c1)) (t1 : ∀ H, SqT K H c1 [.int 1, .int 1]) (F : Fun K "paper" "paper" s_paper f fd) (C_above_floor : Cal P w K mg base CX0 6 "above_floor" ["one"] (sp_above K)) (C_aims : Cal P w K mg base CX0 8 "aims" ["weights", "step"] (sp_aimsX K)) (C_minus : Cal P w K mg base CX0 5 "minus" ["one", "other"] (sp_minus K)) (C_is_less : Cal P w K mg base CX0 1 "is_less" ["one", "other"] (sp_is_less K)) : FnG P w K mg base CX0 9 f fd ["weights", "step", "bound"] (sp_paper K) := by
  refine Gfun F sc_paper (fun vs H Q E h => ?_) (fun cdv A outer s H vs Q E hg hr h => ?_)
  · obtain ⟨a, v, u, xs, fs, st, b, rfl, _⟩ := h
    rfl
  · obtain ⟨a, v, u, xs, fs, st, b, rfl, T, hu, hb, k⟩ := h
    refine ⟨_, (pss_cons (ps_setLc (i := 3) (own := [("aim", 6)]) (g := gName 6) (tt := tYes) rfl sc_paper.nd rfl rfl (sw_true rfl rfl rfl (by decide +kernel)) (pi_list (pe_g C_aims (hr.mono (by decide)) hg (pa_cons (pv 0) (pa_cons (pv 1) pa_nil)))) (blkOk_by (N := ["weights", "step", "bound", "aboves", "up", "down", "aim", "place", "above"]) (sc := defScope s_paper) (by decide +kernel)) (fun _ _ _ _ _ => pg_name (i := 6) sc_paper.nd rfl (Or.inl rfl)) (fun _ _ _ _ _ => pts_nil) (fun _ _ _ _ _ => (pe_g C_above_floor (hr.mono (by decide)) hg (pa_cons (pv 6) pa_nil))))
      (pss_cons (ps_setLc (i := 4) (own := [("place", 7), ("above", 8)]) (g := gTup K 2 (gCons (gName 7) (gCons (gName 8) (gNil)))) rfl sc_paper.nd rfl rfl (sw_true rfl rfl rfl (by decide +kernel)) (pi_enum rfl Me (pa_cons (pv 3) pa_nil)) (blkOk_by (N := ["weights", "step", "bound", "aboves", "up", "down", "aim", "place", "above"]) (sc := defScope s_paper) (by decide +kernel)) (fun _ _ _ _ _ => pg_tupK (K := K) rfl (pgs_cons (pg_name (i := 7) sc_paper.nd rfl (Or.inl rfl)) (pgs_cons (pg_name (i := 8) sc_paper.nd rfl (Or.inl rfl)) pgs_nil))) (fun _ _ _ _ _ => (pts_one (pt_not (pt_val (pe_g C_is_less (hr.mono (by decide)) hg (pa_cons (pv 8) (pa_cons (pv 2) pa_nil))))))) (fun _ _ _ _ _ => (pv 7)))
      (pss_cons (ps_setLc (i := 5) (own := [("place", 7), ("above", 8)]) (g := gTup K 2 (gCons (gName 7) (gCons (gName 8) (gNil)))) rfl sc_paper.nd rfl rfl (sw_true rfl rfl rfl (by decide +kernel)) (pi_enum rfl Me (pa_cons (pv 3) pa_nil)) (blkOk_by (N := ["weights", "step", "bound", "aboves", "up", "down", "aim", "place", "above"]) (sc := defScope s_paper) (by decide +kernel)) (fun _ _ _ _ _ => pg_tupK (K := K) rfl (pgs_cons (pg_name (i := 7) sc_paper.nd rfl (Or.inl rfl)) (pgs_cons (pg_name (i := 8) sc_paper.nd rfl (Or.inl rfl)) pgs_nil))) (fun _ _ _ _ _ => (pts_one (pt_not (pt_val (pe_g C_is_less (hr.mono (by decide)) hg (pa_cons (pe_g C_minus (hr.mono (by decide)) hg (pa_cons (pe_glob (v := .ref c1) rfl g1 rfl) (pa_cons (pv 8) pa_nil))) (pa_cons (pv 2) pa_nil))))))) (fun _ _ _ _ _ => (pv 7)))
      (pss_one (ps_ret (pe_tup (pa_cons (pv 4) (pa_cons (pv 5) pa_nil)))))))), ?_⟩
    have am := aims_am T.w T.s
    have h12 := T.w.few
    have rF : AllF ((aimsF fs st).map rst) := fun g hg => by
      obtain ⟨y, hy, rfl⟩ := List.mem_map.mp hg
      exact rst_f (am y hy).lo
    have rB : AllB 636 ((aimsF fs st).map rst) := fun g hg => by
      obtain ⟨y, hy, rfl⟩ := List.mem_map.mp hg
      exact rst_bt (am y hy).lo (am y hy).bt
    have rl : ((aimsF fs st).map rst).length = fs.length := by rw [List.length_map, aims_len]
    refine ⟨_, rfl, _, rfl, a, v, xs, fs, st, rfl, T, fun H1 D0 ys s1 n0 e0 hy => ?_⟩
    have hyl := hy.length
    rw [aims_len] at hyl
    have hyH : AtKs K H1 ys (aimsF fs st) := hy.same wo_le
    refine ⟨D0, rfl, ⟨_, .inl (.inl e0)⟩, fun D3 hD3 => lc_list (xs := ys) (fun i H' => (∃ zs, H' D3 = some (.lst zs) ∧ AtKs K (wo D3 H') zs (((aimsF fs st).map rst).take i)) ∧ Same H1 H') ⟨⟨[], upd_same, .nil⟩, same_new hD3⟩ (fun i H' _ h => sm_l h.2 (.inl (.inl e0))) ?_ ?_⟩
    · rintro i x H3 hx ⟨⟨zs, e3, hz⟩, s3⟩
      obtain ⟨g, hgi, hg0⟩ := hyH.get hx
      have ag := am g (List.mem_of_getElem? hgi)
      refine ⟨rfl, _, rfl, x, g, rfl, hg0.same s3, ag, fun H4 p4 s4 e4 => ?_⟩
      have hzl := hz.length
      rw [List.length_take, List.length_map, aims_len] at hzl
      have n4 : p4 ≠ D3 := fun z => by
        rw [z, s4 _ _ e3] at e4
        cases e4
      refine ⟨zs, s4 _ _ e3, by rw [sizeLine_eq]; omega, ⟨zs ++ [.ref p4], upd_same, ?_⟩, fun c o e => ?_⟩
      · rw [List.take_add_one, List.getElem?_map, hgi]
        have s7 : Same (wo D3 H3) (wo D3 (L2.upd H4 D3 (.lst (zs ++ [.ref p4])))) := fun c o e => wo_at (wo_not e) (by rw [upd_ne (wo_not e)]; exact s4 _ _ (wo_le _ _ e))
        refine (hz.same s7).app (.cons (AtK.of (wo_at n4 ?_)) .nil)
        rw [upd_ne n4]
        exact e4
      · rw [upd_ne (ne_of_none e hD3)]
        exact s4 _ _ (s3 _ _ e)
    rintro H3 ⟨⟨zs, eH3, hz'⟩, s3⟩
    rw [show ys.length = ((aimsF fs st).map rst).length by rw [List.length_map, aims_len, hyl], List.take_length] at hz'
    have hzH3 : AtKs K H3 zs ((aimsF fs st).map rst) := hz'.same wo_le
    have hzl := hzH3.length
    have s03 := s1.trans s3
    refine ⟨_, rfl, D3, zs, rfl, .inl (.inl eH3), fun DU hDU => lc_it (walk_enum (xs := zs)) (fun i H' => H' DU = some (.lst (nV ((List.range i).filter (upP ((aimsF fs st).map rst) b)))) ∧ Same H3 H') ⟨upd_same, same_new hDU⟩ (fun i H' _ h => .inl (.inl (h.2 _ _ eH3))) ?_ ?_⟩
    · rintro i x H6 H7 hi ⟨e6, s6⟩ ⟨T', x1, z1, rfl, hT, rfl, hx1, hz1⟩
      cases hx1
      have hi' : i < fs.length := by omega
      have s7 : Same H6 (L2.upd H6 T' (.tup [.int (i : Nat), z1])) := same_new hT
      have t7 : SqT K (L2.upd H6 T' (.tup [.int (i : Nat), z1])) T' [.int (i : Nat), z1] := .inl (.inl upd_same)
      generalize L2.upd H6 T' (.tup [.int (i : Nat), z1]) = H7 at s7 t7 ⊢
      obtain ⟨g, hgi, hg0⟩ := hzH3.get (show zs[i]? = some z1 from hz1)
      have hgd : ((aimsF fs st).map rst).getD i f0 = g := getD_of hgi
      have gF := rF g (List.mem_of_getElem? hgi)
      have gB := rB g (List.mem_of_getElem? hgi)
      have s67 := s6.trans s7
      have keep : ∀ H8, Same H7 H8 → upP ((aimsF fs st).map rst) b i = true → ∃ acc, H8 DU = some (.lst acc) ∧ acc.length < sizeLine ∧ (L2.upd H8 DU (.lst (acc ++ [.int (i : Nat)])) DU = some (.lst (nV ((List.range (i + 1)).filter (upP ((aimsF fs st).map rst) b)))) ∧ Same H3 (L2.upd H8 DU (.lst (acc ++ [.int (i : Nat)])))) := by
        intro H8 s8 hb
        refine ⟨_, s8 _ _ (s7 _ _ e6), ?_, ?_, fun c o e => ?_⟩
        · rw [nV_len, sizeLine_eq]
          have := List.length_filter_le (upP ((aimsF fs st).map rst) b) (List.range i)
          rw [List.length_range] at this
          omega
        · rw [upd_same, filt_step, if_pos hb]
          show _ = some (HO.lst (List.map _ _))
          rw [List.map_append]
          rfl
        · rw [upd_ne (ne_of_none e hDU)]
          exact s8 _ _ (s67 _ _ e)
      have skip : ∀ H8, Same H7 H8 → upP ((aimsF fs st).map rst) b i = false → H8 DU = some (.lst (nV ((List.range (i + 1)).filter (upP ((aimsF fs st).map rst) b)))) ∧ Same H3 H8 := by
        intro H8 s8 hb
        refine ⟨?_, s67.trans s8⟩
        rw [s8 _ _ (s7 _ _ e6), filt_step, if_neg (by rw [hb]; decide), List.append_nil]
      refine ⟨T', _, rfl, t7, rfl, _, _, rfl, _, _, rfl, rfl, rfl, ?_⟩
      have hP : upP ((aimsF fs st).map rst) b i = !lessB g b := by unfold upP; rw [hgd]
      refine ⟨_, rfl, _, rfl, _, _, _, _, pr_atk (hg0.same s67) (((hu.same s03).same s67)) gF hb.lo gB hb.bt (by decide) (by decide), _, rfl, ?_⟩
      refine ite2 (fun e => ?_) (fun e => ?_)
      · refine ⟨_, rfl, keep H7 same_rfl ?_⟩
        rw [hP]
        exact e
      · refine skip H7 same_rfl ?_
        rw [hP]
        exact Bool.eq_false_iff.mpr e
    rintro H4 ⟨eU4, s4⟩
    rw [hzl] at eU4
    have eH4 := s4 _ _ eH3
    have hzH4 := hzH3.same s4
    have s04 := s03.trans s4
    refine ⟨_, rfl, D3, zs, rfl, .inl (.inl eH4), fun DV hDV => lc_it (walk_enum (xs := zs)) (fun i H' => H' DV = some (.lst (nV ((List.range i).filter (dnP ((aimsF fs st).map rst) b)))) ∧ Same H4 H') ⟨upd_same, same_new hDV⟩ (fun i H' _ h => .inl (.inl (h.2 _ _ eH4))) ?_ ?_⟩
    · rintro i x H6 H7 hi ⟨e6, s6⟩ ⟨T', x1, z1, rfl, hT, rfl, hx1, hz1⟩
      cases hx1
      have hi' : i < fs.length := by omega
      have s7 : Same H6 (L2.upd H6 T' (.tup [.int (i : Nat), z1])) := same_new hT
      have t7 : SqT K (L2.upd H6 T' (.tup [.int (i : Nat), z1])) T' [.int (i : Nat), z1] := .inl (.inl upd_same)
      generalize L2.upd H6 T' (.tup [.int (i : Nat), z1]) = H7 at s7 t7 ⊢
      obtain ⟨g, hgi, hg0⟩ := hzH4.get (show zs[i]? = some z1 from hz1)
      have hgd : ((aimsF fs st).map rst).getD i f0 = g := getD_of hgi
      have gF := rF g (List.mem_of_getElem? hgi)
      have gB := rB g (List.mem_of_getElem? hgi)
      have s67 := s6.trans s7
      have keep : ∀ H8, Same H7 H8 → dnP ((aimsF fs st).map rst) b i = true → ∃ acc, H8 DV = some (.lst acc) ∧ acc.length < sizeLine ∧ (L2.upd H8 DV (.lst (acc ++ [.int (i : Nat)])) DV = some (.lst (nV ((List.range (i + 1)).filter (dnP ((aimsF fs st).map rst) b)))) ∧ Same H4 (L2.upd H8 DV (.lst (acc ++ [.int (i : Nat)])))) := by
        intro H8 s8 hb
        refine ⟨_, s8 _ _ (s7 _ _ e6), ?_, ?_, fun c o e => ?_⟩
        · rw [nV_len, sizeLine_eq]
          have := List.length_filter_le (dnP ((aimsF fs st).map rst) b) (List.range i)
          rw [List.length_range] at this
          omega
        · rw [upd_same, filt_step, if_pos hb]
          show _ = some (HO.lst (List.map _ _))
          rw [List.map_append]
          rfl
        · rw [upd_ne (ne_of_none e hDV)]
          exact s8 _ _ (s67 _ _ e)
      have skip : ∀ H8, Same H7 H8 → dnP ((aimsF fs st).map rst) b i = false → H8 DV = some (.lst (nV ((List.range (i + 1)).filter (dnP ((aimsF fs st).map rst) b)))) ∧ Same H4 H8 := by
        intro H8 s8 hb
        refine ⟨?_, s67.trans s8⟩
        rw [s8 _ _ (s7 _ _ e6), filt_step, if_neg (by rw [hb]; decide), List.append_nil]
      refine ⟨T', _, rfl, t7, rfl, _, _, rfl, _, _, rfl, rfl, rfl, ?_⟩
      have hP : dnP ((aimsF fs st).map rst) b i = !lessB (fsub f1 g) b := by unfold dnP; rw [hgd]
      refine ⟨_, rfl, _, _, _, _, pr_atk (f := f1) ⟨c1, rfl, t1 H7⟩ (hg0.same s67) f1_f gF bt01.2 gB (by decide) (by decide), fun H8 p8 s8 e8 => ?_⟩
      obtain ⟨oF, oB⟩ := one_less gF gB
      have a8 : AtK K H8 (.ref p8) (fsub f1 g) := AtK.of e8
      refine ⟨_, rfl, _, _, _, _, pr_atk a8 (((hu.same s04).same s67).same s8) oF hb.lo oB hb.bt (by decide) (by decide), _, rfl, ?_⟩
      refine ite2 (fun e => ?_) (fun e => ?_)
      · refine ⟨_, rfl, keep H8 s8 ?_⟩
        rw [hP]
        exact e
      · refine skip H8 s8 ?_
        rw [hP]
        exact Bool.eq_false_iff.mpr e
    rintro H5 ⟨eV5, s5⟩
    rw [hzl] at eV5
    refine ⟨_, rfl, _, rfl, len_show (Nat.le_of_ble_eq_true rfl), fun p9 n9 => ?_⟩
    have s9 : Same H5 (L2.upd H5 p9 (.tup [.ref DU, .ref DV])) := same_new n9
    have s05 := s04.trans s5
    refine k _ p9 DU DV (s05.trans s9) (same_none s03 hDU) (same_none s04 hDV) (same_none s05 n9) (fun z => ?_) upd_same (s9 _ _ (s5 _ _ eU4)) (s9 _ _ eV5)
    rw [z, hDV] at eU4
    cases eU4

end
end Lf

set_option Elab.async false
set_option linter.all false
set_option maxRecDepth 100000
set_option maxHeartbeats 4000000
set_option exponentiation.threshold 3000
/-! Rows of whole numbers as data. -/
namespace Lf
open PySem PySem.Spec PyProof.Rows L2
section
variable {K : PySem.W.Frag}
theorem ints_dp {H : Hp} : ∀ cs : List Int, DpAll K H (cs.map V.int) (cs.map PyData.int)
  | [] => .nil
  | c :: cs => .cons (.int c) (ints_dp cs)
theorem ints_lay : ∀ cs : List Int, PyData.canLayAll0 (cs.map PyData.int) = true ∧ PyData.depthAll (cs.map PyData.int) = 0
  | [] => ⟨by simp only [List.map_nil, PyData.canLayAll0], by simp only [List.map_nil, PyData.depthAll]⟩
  | c :: cs => by
    obtain ⟨i1, i2⟩ := ints_lay cs
    exact ⟨by simp only [List.map_cons, PyData.canLayAll0, i1, PyData.canLay0, Bool.and_self], by simp only [List.map_cons, PyData.depthAll, PyData.depth, i2, Nat.max_self]⟩
theorem ints_shaped (cs : List Int) : SeqAt.shaped (.list (cs.map PyData.int)) = true := by
  obtain ⟨i1, i2⟩ := ints_lay cs
  unfold SeqAt.shaped
  rw [Bool.and_eq_true]
  refine ⟨by simp only [PyData.canLay0]; exact i1, decide_eq_true ?_⟩
  simp only [PyData.depth, i2]
  omega
theorem ints_eqvA : ∀ cs : List Int, PyData.eqvAll (cs.map PyData.int) (cs.map PyData.int) = true
  | [] => by simp only [List.map_nil, PyData.eqvAll]
  | c :: cs => by simp [List.map_cons, PyData.eqvAll, PyData.eqv, ints_eqvA cs]
theorem ints_eqv (cs : List Int) : PyData.eqv (.list (cs.map PyData.int)) (.list (cs.map PyData.int)) = true := by
  simp only [PyData.eqv]
  exact ints_eqvA cs
theorem ints_ft {k : Nat} (hk : k ≤ 900) (h0 : 0 < k) : ∀ cs : List Int, (∀ c ∈ cs, c.natAbs < 2 ^ k) → FtA ((k + 1) * cs.length) 0 (cs.map PyData.int)
  | [], _ => by
    have := FtA.nil
    exact ⟨this.sh, this.nd, this.dp, this.lv, by simpa using this.wt⟩
  | c :: cs, h => by
    have r := FtA.cons (Ft.intB (h c List.mem_cons_self) hk h0) (ints_ft hk h0 cs fun d hd => h d (List.mem_cons_of_mem _ hd))
    rw [List.map_cons]
    refine ⟨r.sh, r.nd, Nat.le_trans r.dp (by decide), r.lv, Nat.le_trans r.wt ?_⟩
    rw [List.length_cons, Nat.mul_succ]
    omega
end
end Lf

set_option Elab.async false
set_option linter.all false
set_option maxRecDepth 100000
set_option maxHeartbeats 4000000
set_option exponentiation.threshold 3000
/-! Who is counted one more: just so many as are wanted; a paper shows just where the worst is the bound or more. -/
namespace Lf
/-! ### ranks -/
theorem nodup_len : ∀ (n : Nat) (l : List Nat), l.Nodup → (∀ x ∈ l, x < n) → l.length ≤ n
  | 0, l, _, h => by
    cases l with
    | nil => exact Nat.le_refl _
    | cons x _ => exact absurd (h x List.mem_cons_self) (Nat.not_lt_zero _)
  | n + 1, l, hd, h => by
    by_cases hm : n ∈ l
    · have h1 := nodup_len n (l.erase n) (hd.erase n) (fun x hx => by
        have h2 := h x (List.mem_of_mem_erase hx)
        have h3 : x ≠ n := (hd.mem_erase_iff.mp hx).1
        omega)
      rw [List.length_erase_of_mem hm] at h1
      omega
    · have := nodup_len n l hd (fun x hx => by
        have h2 := h x hx
        have h3 : x ≠ n := fun z => hm (z ▸ hx)
        omega)
      omega
theorem nodup_perm : ∀ (n : Nat) (l : List Nat), l.Nodup → (∀ x ∈ l, x < n) → l.length = n → l.Perm (List.range n)
  | 0, l, _, _, hl => by
    rw [List.length_eq_zero_iff.mp hl]
    exact .refl _
  | n + 1, l, hd, h, hl => by
    have hm : n ∈ l := by
      by_cases hm : n ∈ l
      · exact hm
      · have := nodup_len n l hd (fun x hx => by
          have h2 := h x hx
          have h3 : x ≠ n := fun z => hm (z ▸ hx)
          omega)
        omega
    have p := nodup_perm n (l.erase n) (hd.erase n) (fun x hx => by
      have h2 := h x (List.mem_of_mem_erase hx)
      have h3 : x ≠ n := (hd.mem_erase_iff.mp hx).1
      omega) (by rw [List.length_erase_of_mem hm]; omega)
    rw [List.range_succ]
    exact (List.perm_cons_erase hm).trans ((List.Perm.cons n p).trans (List.perm_append_comm (l₁ := [n])))
theorem filter_less {α : Type} {p q : α → Bool} : ∀ (l : List α), (∀ k ∈ l, p k = true → q k = true) → (l.filter p).length ≤ (l.filter q).length ∧ ((∃ x ∈ l, q x = true ∧ p x = false) → (l.filter p).length < (l.filter q).length)
  | [], _ => ⟨Nat.le_refl _, fun ⟨x, hx, _⟩ => by cases hx⟩
  | a :: l, h => by
    obtain ⟨i1, i2⟩ := filter_less l fun k hk => h k (List.mem_cons_of_mem _ hk)
    have ha := h a List.mem_cons_self
    rw [List.filter_cons, List.filter_cons]
    cases hp : p a <;> cases hq : q a
    · refine ⟨by simpa using i1, fun ⟨x, hx, h1, h2⟩ => ?_⟩
      rcases List.mem_cons.mp hx with rfl | hx
      · rw [hq] at h1; cases h1
      · simpa using i2 ⟨x, hx, h1, h2⟩
    · refine ⟨?_, fun _ => ?_⟩
      · simp only [Bool.false_eq_true, if_false, if_true, List.length_cons]
        omega
      · simp only [Bool.false_eq_true, if_false, if_true, List.length_cons]
        omega
    · rw [hp] at ha
      exact absurd (ha rfl) (by rw [hq]; decide)
    · refine ⟨by simpa using i1, fun ⟨x, hx, h1, h2⟩ => ?_⟩
      rcases List.mem_cons.mp hx with rfl | hx
      · rw [hp] at h2; cases h2
      · have := i2 ⟨x, hx, h1, h2⟩
        simpa using this
theorem count_lt (m : Nat) : ∀ n : Nat, ((List.range n).filter fun x => decide (x < m)).length = min m n
  | 0 => by simp
  | n + 1 => by
    rw [List.range_succ, List.filter_append, List.length_append, count_lt m n, List.filter_cons]
    by_cases h : n < m
    · rw [decide_eq_true h]
      simp
      omega
    · rw [decide_eq_false h]
      simp
      omega
/-- of a strict order that tells any two apart just m have fewer than m ahead of them -/
theorem ranks {n : Nat} {lt : Nat → Nat → Bool} (irr : ∀ i, i < n → lt i i = false) (tr : ∀ i j k, i < n → j < n → k < n → lt i j = true → lt j k = true → lt i k = true) (to : ∀ i j, i < n → j < n → i ≠ j → lt i j = true ∨ lt j i = true) (m : Nat) :
    ((List.range n).filter fun j => decide (((List.range n).filter fun i => lt i j).length < m)).length = min m n := by
  have rk : ∀ i j, i < n → j < n → lt i j = true → ((List.range n).filter fun k => lt k i).length < ((List.range n).filter fun k => lt k j).length := fun i j hi hj h =>
    (filter_less (List.range n) fun k hk hp => tr k i j (List.mem_range.mp hk) hi hj hp h).2 ⟨i, List.mem_range.mpr hi, h, irr i hi⟩
  have hnd : ((List.range n).map fun j => ((List.range n).filter fun i => lt i j).length).Nodup := by
    rw [List.nodup_iff_pairwise_ne, List.pairwise_map]
    refine List.Pairwise.imp_of_mem ?_ (List.nodup_iff_pairwise_ne.mp List.nodup_range)
    intro i j hi hj hne
    rcases to i j (List.mem_range.mp hi) (List.mem_range.mp hj) hne with h | h
    · exact Nat.ne_of_lt (rk i j (List.mem_range.mp hi) (List.mem_range.mp hj) h)
    · exact Ne.symm (Nat.ne_of_lt (rk j i (List.mem_range.mp hj) (List.mem_range.mp hi) h))
  have hlt : ∀ x ∈ (List.range n).map (fun j => ((List.range n).filter fun i => lt i j).length), x < n := by
    intro x hx
    obtain ⟨j, hj, rfl⟩ := List.mem_map.mp hx
    have hj' := List.mem_range.mp hj
    have := (filter_less (p := fun i => lt i j) (q := fun _ => true) (List.range n) fun _ _ _ => rfl).2 ⟨j, hj, rfl, irr j hj'⟩
    rw [List.filter_eq_self.mpr (fun _ _ => rfl), List.length_range] at this
    exact this
  have p := nodup_perm n _ hnd hlt (by rw [List.length_map, List.length_range])
  have e := (p.filter fun x => decide (x < m)).length_eq
  rw [count_lt, List.filter_map, List.length_map] at e
  exact e
end Lf

set_option Elab.async false
set_option linter.all false
set_option maxRecDepth 100000
set_option maxHeartbeats 4000000
set_option exponentiation.threshold 3000
namespace Lf
/-! ### the order of fractions -/
theorem lessB_iff {f g : Int × Int} : lessB f g = true ↔ f.1 * g.2 < g.1 * f.2 := decide_eq_true_iff
theorem notless_iff {f g : Int × Int} : lessB f g = false ↔ fle g f := by
  unfold fle
  rw [Bool.eq_false_iff, Ne, lessB_iff]
  omega
theorem less_trans {a b c : Int × Int} (ha : IsF a) (hb : IsF b) (hc : IsF c) (h : lessB a b = true) (k : lessB b c = true) : lessB a c = true := by
  rw [lessB_iff] at *
  have a2 : 0 < a.2 := ha.1
  have b2 : 0 < b.2 := hb.1
  have c2 : 0 < c.2 := hc.1
  have h1 := Int.mul_lt_mul_of_pos_right h c2
  have h2 := Int.mul_lt_mul_of_pos_right k a2
  have e1 : a.1 * b.2 * c.2 = a.1 * c.2 * b.2 := by grind
  have e2 : b.1 * a.2 * c.2 = b.1 * c.2 * a.2 := by grind
  have e3 : c.1 * b.2 * a.2 = c.1 * a.2 * b.2 := by grind
  exact Int.lt_of_mul_lt_mul_right (a := b.2) (by omega) (Int.le_of_lt b2)
theorem less_tri {a b : Int × Int} (ha : IsF a) (hb : IsF b) (h : a ≠ b) : lessB a b = true ∨ lessB b a = true := by
  rw [lessB_iff, lessB_iff]
  by_cases e : a.1 * b.2 = b.1 * a.2
  · obtain ⟨e1, e2⟩ := low_uniq ha hb e
    exact absurd (Prod.ext e1 e2) h
  · omega
section
variable {rs : List (Int × Int)}
theorem getD_f (h : AllF rs) (i : Nat) : IsF (rs.getD i f0) := by
  rw [List.getD_eq_getElem?_getD]
  cases e : rs[i]? with
  | none => exact f0_f
  | some g => exact h g (List.mem_of_getElem? e)
theorem soon_irr (i : Nat) : soon rs i i = false := by
  unfold soon
  rw [if_pos rfl]
  exact decide_eq_false (Nat.lt_irrefl i)
theorem soon_cases (h : AllF rs) {i j : Nat} (hs : soon rs i j = true) : lessB (rs.getD j f0) (rs.getD i f0) = true ∨ (rs.getD i f0 = rs.getD j f0 ∧ i < j) := by
  unfold soon at hs
  by_cases e : rs.getD i f0 = rs.getD j f0
  · rw [if_pos e] at hs
    exact .inr ⟨e, of_decide_eq_true hs⟩
  · rw [if_neg e] at hs
    exact .inl hs
theorem soon_of_less (h : AllF rs) {i j : Nat} (hs : lessB (rs.getD j f0) (rs.getD i f0) = true) : soon rs i j = true := by
  unfold soon
  by_cases e : rs.getD i f0 = rs.getD j f0
  · rw [e, lessB_self] at hs
    cases hs
  · rw [if_neg e]
    exact hs
theorem soon_tr (h : AllF rs) {i j k : Nat} (h1 : soon rs i j = true) (h2 : soon rs j k = true) : soon rs i k = true := by
  have fi := getD_f h i
  have fj := getD_f h j
  have fk := getD_f h k
  rcases soon_cases h h1 with a | ⟨a, a'⟩ <;> rcases soon_cases h h2 with b | ⟨b, b'⟩
  · exact soon_of_less h (less_trans fk fj fi b a)
  · exact soon_of_less h (by rw [← b]; exact a)
  · exact soon_of_less h (by rw [a]; exact b)
  · unfold soon
    rw [if_pos (a.trans b)]
    exact decide_eq_true (Nat.lt_trans a' b')
theorem soon_to (h : AllF rs) {i j : Nat} (hne : i ≠ j) : soon rs i j = true ∨ soon rs j i = true := by
  by_cases e : rs.getD i f0 = rs.getD j f0
  · unfold soon
    rw [if_pos e, if_pos e.symm]
    rcases Nat.lt_or_gt_of_ne hne with z | z
    · exact .inl (decide_eq_true z)
    · exact .inr (decide_eq_true z)
  · rcases less_tri (getD_f h i) (getD_f h j) e with z | z
    · exact .inr (soon_of_less h z)
    · exact .inl (soon_of_less h z)
theorem soon_le (h : AllF rs) {i j : Nat} (hs : soon rs i j = true) : fle (rs.getD j f0) (rs.getD i f0) := by
  rcases soon_cases h hs with a | ⟨a, _⟩
  · have := lessB_iff.mp a
    unfold fle
    omega
  · rw [a]
    exact Int.le_refl _
/-- the k-th is counted one more -/
def chosen (rs : List (Int × Int)) (m k : Nat) : Bool := decide (ahead rs k < m)
theorem chosen_count (h : AllF rs) (m : Nat) : ((List.range rs.length).filter (chosen rs m)).length = min m rs.length :=
  ranks (n := rs.length) (lt := soon rs) (fun i _ => soon_irr i) (fun i j k _ _ _ a b => soon_tr h a b) (fun i j _ _ hne => soon_to h hne) m
theorem ahead_mono (h : AllF rs) {i j : Nat} (hi : i < rs.length) (hj : j < rs.length) (hs : soon rs i j = true) : ahead rs i < ahead rs j :=
  (filter_less (List.range rs.length) fun k hk hp => soon_tr h hp hs).2 ⟨i, List.mem_range.mpr hi, hs, soon_irr i⟩
theorem chosen_soon (h : AllF rs) {m j k : Nat} (hj : j < rs.length) (hk : k < rs.length) (cj : chosen rs m j = true) (ck : chosen rs m k = false) : soon rs j k = true := by
  have a1 : ahead rs j < m := of_decide_eq_true cj
  have a2 : ¬ ahead rs k < m := of_decide_eq_false ck
  have hne : j ≠ k := fun z => by
    subst z
    exact a2 a1
  rcases soon_to h hne with z | z
  · exact z
  · have := ahead_mono h hk hj z
    omega
/-- how far the k-th is off -/
def off (rs : List (Int × Int)) (m k : Nat) : Int × Int := if chosen rs m k = true then fsub f1 (rs.getD k f0) else rs.getD k f0
theorem one_le {x y : Int × Int} (hx : IsF x) (hy : IsF y) (h : fle x y) : fle (fsub f1 y) (fsub f1 x) := by
  rw [fsub_1 hx, fsub_1 hy]
  unfold fle at *
  have e1 : (y.2 - y.1) * x.2 = y.2 * x.2 - y.1 * x.2 := by grind
  have e2 : (x.2 - x.1) * y.2 = y.2 * x.2 - x.1 * y.2 := by grind
  show (y.2 - y.1) * x.2 ≤ (x.2 - x.1) * y.2
  omega
theorem filter_not (p : Nat → Bool) : ∀ l : List Nat, (l.filter p).length + (l.filter fun x => !p x).length = l.length
  | [] => rfl
  | a :: l => by
    have := filter_not p l
    rw [List.filter_cons, List.filter_cons]
    cases h : p a
    · simp
      omega
    · simp
      omega
/-- a paper shows just where some count is the bound or more off -/
theorem shows_iff (h : AllF rs) {b : Int × Int} (hb : IsF b) {m : Nat} (hm : m ≤ rs.length) : showsB (upL rs b) (dnL rs b) m rs.length = true ↔ ∃ k, k < rs.length ∧ lessB (off rs m k) b = false := by
  have hc : ((List.range rs.length).filter (chosen rs m)).length = m := by
    rw [chosen_count h]
    omega
  have hn := filter_not (chosen rs m) (List.range rs.length)
  rw [hc, List.length_range] at hn
  have f2 : 0 < b.2 := hb.1
  have g2 : ∀ k, 0 < (rs.getD k f0).2 := fun k => (getD_f h k).1
  have o2 : ∀ k, 0 < (fsub f1 (rs.getD k f0)).2 := fun k => (fsub_f f1_f (getD_f h k)).1
  constructor
  · intro hs
    unfold showsB at hs
    rw [Bool.or_eq_true, Bool.or_eq_true] at hs
    rcases hs with hs | hs | hs
    · obtain ⟨p, hp, hd⟩ := List.any_eq_true.mp hs
      have hd' : p ∈ dnL rs b := by simpa using hd
      have up : upP rs b p = true := (List.mem_filter.mp hp).2
      have dn : dnP rs b p = true := (List.mem_filter.mp hd').2
      refine ⟨p, up_lt hp, ?_⟩
      unfold off
      unfold upP at up
      unfold dnP at dn
      split
      · simpa using dn
      · simpa using up
    · have hlt : m < (upL rs b).length := by
        have := of_decide_eq_true hs
        omega
      by_cases hex : ∃ k, k < rs.length ∧ upP rs b k = true ∧ chosen rs m k = false
      · obtain ⟨k, hk, up, ck⟩ := hex
        refine ⟨k, hk, ?_⟩
        unfold off
        rw [ck]
        unfold upP at up
        simpa using up
      · have := (filter_less (p := upP rs b) (q := chosen rs m) (List.range rs.length) fun k hk hp => by
          cases hck : chosen rs m k with
          | true => rfl
          | false => exact absurd ⟨k, List.mem_range.mp hk, hp, hck⟩ hex).1
        rw [hc] at this
        exact absurd this (Nat.not_le.mpr hlt)
    · have hlt : (rs.length : Int) - ((dnL rs b).length : Int) < (m : Int) := of_decide_eq_true hs
      by_cases hex : ∃ k, k < rs.length ∧ dnP rs b k = true ∧ chosen rs m k = true
      · obtain ⟨k, hk, dn, ck⟩ := hex
        refine ⟨k, hk, ?_⟩
        unfold off
        rw [if_pos ck]
        unfold dnP at dn
        simpa using dn
      · have := (filter_less (p := dnP rs b) (q := fun x => !chosen rs m x) (List.range rs.length) fun k hk hp => by
          cases hck : chosen rs m k with
          | false => rfl
          | true => exact absurd ⟨k, List.mem_range.mp hk, hp, hck⟩ hex).1
        have hdl : (dnL rs b).length = ((List.range rs.length).filter (dnP rs b)).length := rfl
        omega
  · rintro ⟨k, hk, ho⟩
    unfold showsB
    rw [Bool.or_eq_true, Bool.or_eq_true]
    right
    unfold off at ho
    cases ck : chosen rs m k with
    | false =>
      left
      rw [ck] at ho
      have ho' : fle b (rs.getD k f0) := notless_iff.mp (by simpa using ho)
      have up : ∀ j, fle (rs.getD k f0) (rs.getD j f0) → upP rs b j = true := fun j hj => by
        unfold upP
        rw [notless_iff.mpr (fle_trans (g2 k) f2 (g2 j) ho' hj)]
        rfl
      have := (filter_less (p := chosen rs m) (q := upP rs b) (List.range rs.length) fun j hj hp => up j (soon_le h (chosen_soon h (List.mem_range.mp hj) hk hp ck))).2 ⟨k, List.mem_range.mpr hk, up k (Int.le_refl _), ck⟩
      rw [hc] at this
      have hul : (upL rs b).length = ((List.range rs.length).filter (upP rs b)).length := rfl
      exact decide_eq_true (by omega)
    | true =>
      right
      rw [if_pos ck] at ho
      have ho' : fle b (fsub f1 (rs.getD k f0)) := notless_iff.mp ho
      have dn : ∀ j, fle (rs.getD j f0) (rs.getD k f0) → dnP rs b j = true := fun j hj => by
        unfold dnP
        rw [notless_iff.mpr (fle_trans (o2 k) f2 (o2 j) ho' (one_le (getD_f h j) (getD_f h k) hj))]
        rfl
      have := (filter_less (p := fun x => !chosen rs m x) (q := dnP rs b) (List.range rs.length) fun j hj hp => dn j (soon_le h (chosen_soon h hk (List.mem_range.mp hj) ck (by simpa using hp)))).2 ⟨k, List.mem_range.mpr hk, dn k (Int.le_refl _), by rw [ck]; rfl⟩
      have hdl : (dnL rs b).length = ((List.range rs.length).filter (dnP rs b)).length := rfl
      exact decide_eq_true (by omega)
end
end Lf

set_option Elab.async false
set_option linter.all false
set_option maxRecDepth 100000
set_option maxHeartbeats 4000000
set_option exponentiation.threshold 3000
/-! How many are to be one more; the worst by what each is off. -/
namespace Lf
theorem rsum_mul (F : Int × Int) (hF : IsF F) : ∀ l : List (Int × Int), AllF l → rsum (l.map fun f => fmul f F) = rsum l * rv F
  | [], _ => by
    show (0 : Rat) = 0 * rv F
    rw [Rat.zero_mul]
  | f :: l, h => by
    show rv (fmul f F) + rsum (l.map fun f => fmul f F) = (rv f + rsum l) * rv F
    rw [rsum_mul F hF l h.tl, rv_mul h.hd hF, Rat.add_mul]
theorem rv_int (c : Int) : rv (c, 1) = (c : Rat) := by
  unfold rv
  show Rat.divInt c 1 = (c : Rat)
  have h : Rat.divInt c 1 = mkRat c 1 := rfl
  rw [h]
  first | exact Rat.mkRat_one c | exact mkRat_one c | (unfold mkRat Rat.normalize; simp; rfl) | grind [mkRat]
theorem rsum_tot {l : List (Int × Int)} (h : AllF l) : rv (tot l) = rsum l := by
  have := (sum_fold l f0 f0_f h).2
  rw [rv0, Rat.zero_add] at this
  exact this
theorem rsum_aims {fs : List (Int × Int)} {st : Int × Int} (W : Wts fs) : rsum (aimsF fs st) = (many fs st : Rat) := by
  have t1 : (tot fs).1 ≠ 0 := by have := tot_pos W; omega
  have h : aimsF fs st = fs.map fun f => fmul f (factor fs st) := rfl
  have e2 : rv (factor fs st) = rv (many fs st, 1) * (rv (tot fs))⁻¹ := rv_div (m1_f _) t1
  have hne : rv (tot fs) ≠ 0 := fun z => t1 ((rv_zero (tot_f W.f)).mp z)
  rw [h, rsum_mul _ (factor_f W) fs W.f, ← rsum_tot W.f, e2, rv_int, ← Rat.mul_assoc, Rat.mul_comm (rv (tot fs)), Rat.mul_assoc, Rat.mul_inv_cancel _ hne, Rat.mul_one]
theorem rsum_rst : ∀ l : List (Int × Int), AllF l → rsum (l.map rst) = rsum l - (((l.map fl).sum : Int) : Rat)
  | [], _ => by
    show (0 : Rat) = 0 - ((0 : Int) : Rat)
    first | decide | rfl | grind
  | f :: l, h => by
    show rv (rst f) + rsum (l.map rst) = (rv f + rsum l) - ((fl f + (l.map fl).sum : Int) : Rat)
    have e : rv (rst f) = rv f - rv (fl f, 1) := rv_sub h.hd (m1_f _)
    rw [rsum_rst l h.tl, e, rv_int, Rat.intCast_add]
    grind
theorem rests_f {l : List (Int × Int)} (h : AllF l) : AllF (l.map rst) := fun g hg => by
  obtain ⟨f, hf, rfl⟩ := List.mem_map.mp hg
  exact rst_f (h f hf)
theorem more_ok {fs : List (Int × Int)} {st : Int × Int} (W : Wts fs) (aF : AllF (aimsF fs st)) : 0 ≤ more fs st ∧ more fs st ≤ (fs.length : Int) := by
  have e : rv (tot ((aimsF fs st).map rst)) = rv (more fs st, 1) := by
    rw [rsum_tot (rests_f aF), rsum_rst _ aF, rsum_aims W, rv_int]
    unfold more
    rw [Rat.intCast_sub]
  have et : tot ((aimsF fs st).map rst) = (more fs st, 1) := rv_inj (tot_f (rests_f aF)) (m1_f _) e
  have rn : ∀ g ∈ (aimsF fs st).map rst, 0 ≤ g.1 ∧ Vb 1 g := fun g hg => by
    obtain ⟨f, hf, rfl⟩ := List.mem_map.mp hg
    have hF := aF f hf
    refine ⟨rst_nn hF, ?_⟩
    rw [rst_eq hF]
    have m1 := Int.emod_lt_of_pos f.1 hF.1
    exact vb_low hF.1 (by omega)
  have h1 : fle f0 (tot ((aimsF fs st).map rst)) := fold_ge _ f0 f0_f (rests_f aF) fun g hg => (rn g hg).1
  have h2 := vb_fold (C := 1) ((aimsF fs st).map rst) 0 f0 f0_f (rests_f aF) (by unfold Vb; decide) (fun g hg => (rn g hg).2)
  have h2' : Vb (0 + 1 * (((aimsF fs st).map rst).length : Int)) (tot ((aimsF fs st).map rst)) := h2
  rw [et] at h1 h2'
  unfold fle f0 at h1
  unfold Vb at h2'
  rw [List.length_map] at h2'
  have hl : (aimsF fs st).length = fs.length := List.length_map _
  rw [hl] at h2'
  simp only at h1 h2'
  omega
theorem far_fl {f : Int × Int} (h : IsF f) : far f (fl f) = rst f := by
  rw [← lfar_rst h]
  exact (lfar_far f (fl f)).symm
theorem far_fl1 {f : Int × Int} (h : IsF f) (h0 : 0 ≤ f.1) : far f (fl f + 1) = fsub f1 (rst f) := by
  have hm := fl_mod h
  have m0 := Int.emod_nonneg f.1 h.ne
  have m1 := Int.emod_lt_of_pos f.1 h.1
  have e : (fl f + 1) * f.2 = fl f * f.2 + f.2 := by rw [Int.add_mul, Int.one_mul]
  have hr := rst_f h
  rw [fsub_1 hr, rst_pair h h0] at *
  unfold far
  have e2 : ((f.1 - (fl f + 1) * f.2).natAbs : Int) = f.2 - f.1 % f.2 := by omega
  rw [e2]
  refine low_self ?_
  have := fsub_f f1_f hr
  rw [fsub_1 hr] at this
  exact this
theorem wmax_b {w g b : Int × Int} (hw : IsF w) (hg : IsF g) (hb : IsF b) : lessB (wmax w g) b = false ↔ lessB w b = false ∨ lessB g b = false := by
  have w2 : 0 < w.2 := hw.1
  have g2 : 0 < g.2 := hg.1
  have b2 : 0 < b.2 := hb.1
  rw [notless_iff, notless_iff, notless_iff]
  unfold wmax
  by_cases h : lessB w g = true
  · rw [if_pos h]
    have hle : fle w g := by
      have := lessB_iff.mp h
      unfold fle
      omega
    exact ⟨.inr, fun z => z.elim (fun z => fle_trans w2 b2 g2 z hle) id⟩
  · rw [if_neg h]
    have hle : fle g w := notless_iff.mp (by cases h' : lessB w g <;> simp_all)
    exact ⟨.inl, fun z => z.elim id fun z => fle_trans g2 b2 w2 z hle⟩
theorem wst_b {b : Int × Int} (hb : IsF b) : ∀ (l : List ((Int × Int) × Int)) (w : Int × Int), IsF w → (∀ p ∈ l, IsF p.1) → (lessB (l.foldl wst w) b = false ↔ lessB w b = false ∨ ∃ p ∈ l, lessB (far p.1 p.2) b = false)
  | [], w, _, _ => ⟨.inl, fun z => z.elim id fun ⟨p, hp, _⟩ => by cases hp⟩
  | p :: l, w, hw, h => by
    have hp := h p List.mem_cons_self
    have hf := far_f hp p.2
    have hw' : IsF (wst w p) := by
      unfold wst wmax
      split
      · exact hf
      · exact hw
    rw [List.foldl_cons, wst_b hb l (wst w p) hw' fun q hq => h q (List.mem_cons_of_mem _ hq)]
    have e : lessB (wst w p) b = false ↔ lessB w b = false ∨ lessB (far p.1 p.2) b = false := by
      unfold wst
      exact wmax_b hw hf hb
    rw [e]
    constructor
    · rintro ((z | z) | ⟨q, hq, z⟩)
      · exact .inl z
      · exact .inr ⟨p, List.mem_cons_self, z⟩
      · exact .inr ⟨q, List.mem_cons_of_mem _ hq, z⟩
    · rintro (z | ⟨q, hq, z⟩)
      · exact .inl (.inl z)
      · rcases List.mem_cons.mp hq with rfl | hq
        · exact .inl (.inr z)
        · exact .inr ⟨q, hq, z⟩
/-- the paper for a bound shows just where the worst is the bound or more -/
theorem paper_shows {fs : List (Int × Int)} {st b : Int × Int} (W : Wts fs) (aF : AllF (aimsF fs st)) (an : ∀ f ∈ aimsF fs st, 0 ≤ f.1) (hb : IsF b) (b0 : 0 < b.1) :
    showsB (upL ((aimsF fs st).map rst) b) (dnL ((aimsF fs st).map rst) b) (more fs st) fs.length = !lessB (worst (aimsF fs st) (cnt fs st)) b := by
  obtain ⟨m0, m1⟩ := more_ok W aF
  have rF := rests_f aF
  have rl : ((aimsF fs st).map rst).length = fs.length := by rw [List.length_map]; exact List.length_map _
  have hm : ((more fs st).toNat : Int) = more fs st := by omega
  have key := shows_iff (m := (more fs st).toNat) rF hb (by rw [rl]; omega)
  rw [hm, rl] at key
  have hf0 : lessB f0 b = true := by
    rw [lessB_iff]
    show 0 * b.2 < b.1 * 1
    omega
  have hw := wst_b hb ((aimsF fs st).zip (cnt fs st)) f0 f0_f (fun p hp => aF p.1 (List.of_mem_zip (show (p.1, p.2) ∈ (aimsF fs st).zip (cnt fs st) from hp)).1)
  have same : (∃ k, k < fs.length ∧ lessB (off ((aimsF fs st).map rst) (more fs st).toNat k) b = false) ↔ ∃ p ∈ (aimsF fs st).zip (cnt fs st), lessB (far p.1 p.2) b = false := by
    have at_ : ∀ k g, (aimsF fs st)[k]? = some g → k < fs.length → far g (cntAt fs st k) = off ((aimsF fs st).map rst) (more fs st).toNat k := fun k g hg hk => by
      have gF := aF g (List.mem_of_getElem? hg)
      have g0 := an g (List.mem_of_getElem? hg)
      have e1 : (aimsF fs st).getD k f0 = g := by rw [List.getD_eq_getElem?_getD, hg]; rfl
      have e2 : ((aimsF fs st).map rst).getD k f0 = rst g := by rw [List.getD_eq_getElem?_getD, List.getElem?_map, hg]; rfl
      unfold off cntAt chosen
      rw [e1, e2]
      by_cases z : (ahead ((aimsF fs st).map rst) k : Int) < more fs st
      · rw [if_pos z, if_pos (decide_eq_true (by omega)), far_fl1 gF g0]
      · rw [if_neg z, if_neg (by rw [decide_eq_true_eq]; omega), Int.add_zero, far_fl gF]
    constructor
    · rintro ⟨k, hk, z⟩
      obtain ⟨g, hg⟩ : ∃ g, (aimsF fs st)[k]? = some g := ⟨_, List.getElem?_eq_getElem (by show k < (fs.map _).length; rw [List.length_map]; exact hk)⟩
      refine ⟨(g, cntAt fs st k), List.mem_of_getElem? (show ((aimsF fs st).zip (cnt fs st))[k]? = some (g, cntAt fs st k) by rw [List.getElem?_zip_eq_some]; exact ⟨hg, cnt_get hk⟩), ?_⟩
      show lessB (far g (cntAt fs st k)) b = false
      rw [at_ k g hg hk]
      exact z
    · rintro ⟨p, hp, z⟩
      obtain ⟨k, hk⟩ := List.getElem?_of_mem hp
      obtain ⟨h1, h2⟩ := List.getElem?_zip_eq_some.mp hk
      have hlt : k < fs.length := by
        have := (List.getElem?_eq_some_iff.mp h2).1
        rw [cnt_len] at this
        exact this
      rw [cnt_get hlt] at h2
      refine ⟨k, hlt, ?_⟩
      rw [← at_ k p.1 h1 hlt, Option.some.inj h2]
      exact z
  rw [hf0] at hw
  have fin : showsB (upL ((aimsF fs st).map rst) b) (dnL ((aimsF fs st).map rst) b) (more fs st) fs.length = true ↔ lessB (worst (aimsF fs st) (cnt fs st)) b = false := by
    rw [key, same]
    show _ ↔ lessB (((aimsF fs st).zip (cnt fs st)).foldl wst f0) b = false
    rw [hw]
    exact ⟨.inr, fun z => z.elim (fun z => by cases z) id⟩
  cases h1 : showsB (upL ((aimsF fs st).map rst) b) (dnL ((aimsF fs st).map rst) b) (more fs st) fs.length <;> cases h2 : lessB (worst (aimsF fs st) (cnt fs st)) b
  · have := fin.mpr h2
    rw [h1] at this
    cases this
  · rfl
  · rfl
  · have := fin.mp h1
    rw [h2] at this
    cases this
end Lf

set_option Elab.async false
set_option linter.all false
set_option maxRecDepth 100000
set_option maxHeartbeats 4000000
set_option exponentiation.threshold 3000
namespace Lf
open PySem PySem.Spec PyProof.Rows L2
section
variable {P : Program} {w : World} {K : PySem.W.Frag} {mg : Str → Option Value} {base : Heap}
def nC (l : List Nat) : List Int := l.map fun n : Nat => (n : Int)
theorem nV_eq (l : List Nat) : nV l = (nC l).map V.int := by
  unfold nV nC
  rw [List.map_map]
  rfl
theorem nV_dp {H : Hp} {D : Addr} {l : List Nat} (e : H D = some (.lst (nV l))) : Dp K H (.ref D) (.list ((nC l).map PyData.int)) := by
  rw [nV_eq] at e
  exact .lst (.inl (.inl e)) (ints_dp _)
/-- a paper as data -/
def papD (U V' : List Nat) : PyData := .tuple [.list ((nC U).map PyData.int), .list ((nC V').map PyData.int)]
theorem pap_dp {H : Hp} {p D E : Addr} {U V' : List Nat} (e : H p = some (.tup [.ref D, .ref E])) (f : H D = some (.lst (nV U))) (g : H E = some (.lst (nV V'))) : Dp K H (.ref p) (papD U V') := .tup (.inl (.inl e)) (.cons (nV_dp f) (.cons (nV_dp g) .nil))
theorem pap_shaped (U V' : List Nat) : SeqAt.shaped (papD U V') = true := by
  obtain ⟨i1, i2⟩ := ints_lay (nC U)
  obtain ⟨j1, j2⟩ := ints_lay (nC V')
  unfold SeqAt.shaped
  rw [Bool.and_eq_true]
  refine ⟨by simp only [papD, PyData.canLay0, PyData.canLayAll0, i1, j1, Bool.and_self], decide_eq_true ?_⟩
  simp only [papD, PyData.depth, PyData.depthAll, i2, j2]
  omega
theorem pap_eqv (U V' : List Nat) : PyData.eqv (papD U V') (papD U V') = true := by
  simp only [papD, PyData.eqv, PyData.eqvAll, ints_eqvA, Bool.and_self]
theorem nC_sm {l : List Nat} {n : Nat} (h : ∀ i ∈ l, i < n) (hn : n ≤ 60) : ∀ c ∈ nC l, c.natAbs < 2 ^ 10 := by
  intro c hc
  obtain ⟨i, hi, rfl⟩ := List.mem_map.mp hc
  have := h i hi
  show (i : Int).natAbs < 1024
  omega
theorem pap_showy {U V' : List Nat} (hU : ∀ i ∈ U, i < 60) (hV : ∀ i ∈ V', i < 60) (lU : U.length ≤ 60) (lV : V'.length ≤ 60) : Showy (papD U V') := by
  have a := Ft.list (ints_ft (k := 10) (by decide) (by decide) (nC U) (nC_sm hU (Nat.le_refl _)))
  have b := Ft.list (ints_ft (k := 10) (by decide) (by decide) (nC V') (nC_sm hV (Nat.le_refl _)))
  have r := Ft.tuple (.cons a (.cons b .nil))
  have l1 : (nC U).length = U.length := List.length_map _
  have l2 : (nC V').length = V'.length := List.length_map _
  exact Ft.showy r (by omega) (by omega)
/-- data, or a dict of data -/
inductive Dz (K : PySem.W.Frag) (H : Hp) : V → PyData → Prop
  | dp {v : V} {d : PyData} (h : Dp K H v d) (n : d.hasDict = false) : Dz K H v d
  | dic {a : Addr} {kvs : List (Key × V)} {ds : List (PyData × PyData)} (h : H a = some (.dK kvs)) (p : Paired (fun (kv : Key × V) (d : PyData × PyData) => d.1 = kD kv.1 ∧ Dp K H kv.2 d.2 ∧ d.2.hasDict = false) kvs ds) : Dz K H (.ref a) (.dict ds)
theorem Dz.same {H H' : Hp} {v : V} {d : PyData} (s : Same H H') (h : Dz K H v d) : Dz K H' v d := by
  cases h with
  | dp h n => exact .dp (Dp.same s _ _ h) n
  | dic h p =>
    refine .dic (s _ _ h) ?_
    clear h
    induction p with
    | nil => exact .nil
    | cons q _ ih => exact .cons ⟨q.1, Dp.same s _ _ q.2.1, q.2.2⟩ ih
theorem Dz.ty {H : Hp} {v : V} {d : PyData} (h : Dz K H v d) : TyX K H v (.type (tyN d)) := by
  cases h with
  | dp h _ => exact Lf.Dp.ty h
  | dic h _ => exact .base (.dK h)
def isLs : PyData → Bool
  | .list _ => true
  | _ => false
theorem kl (d : PyData) : kitB (tyN d) "list" = some (isLs d) :=
  match d with
  | .none => (by decide +kernel : kitB "NoneType" "list" = some false)
  | .bool _ => (by decide +kernel : kitB "bool" "list" = some false)
  | .int _ => (by decide +kernel : kitB "int" "list" = some false)
  | .str _ => (by decide +kernel : kitB "str" "list" = some false)
  | .list _ => (by decide +kernel : kitB "list" "list" = some true)
  | .tuple _ => (by decide +kernel : kitB "tuple" "list" = some false)
  | .dict _ => (by decide +kernel : kitB "dict" "list" = some false)
def isPl : PyData → Bool
  | .list ds => ds.all isW
  | _ => false
def papL : List PyData → Bool
  | [a, b] => isPl a && isPl b
  | _ => false
def isPap : PyData → Bool
  | .tuple ds => papL ds
  | _ => false
/-- no part is too long -/
def Shrt (d : PyData) : Prop := ∀ ds, d = .list ds → ds.length ≤ 1000
theorem hd_all {ds : List PyData} {d : PyData} (h : PyData.hasDictAll ds = false) (m : d ∈ ds) : d.hasDict = false := by
  induction ds with
  | nil => cases m
  | cons a ds ih =>
    have h' : a.hasDict = false ∧ PyData.hasDictAll ds = false := by simpa [PyData.hasDictAll] using h
    rcases List.mem_cons.mp m with rfl | m
    · exact h'.1
    · exact ih h'.2 m
theorem DpAll.get {H : Hp} : ∀ {vs : List V} {ds : List PyData} {i : Nat} {v : V}, DpAll K H vs ds → vs[i]? = some v → ∃ d, ds[i]? = some d ∧ Dp K H v d
  | _, _, _, _, .nil, e => by simp at e
  | _, _, 0, _, .cons a _, e => by
    simp at e
    subst e
    exact ⟨_, rfl, a⟩
  | _, _, i + 1, v, .cons _ r, e => by
    obtain ⟨d, h1, h2⟩ := DpAll.get (i := i) (v := v) r (by simpa using e)
    exact ⟨d, by simpa using h1, h2⟩

/-! ### are_places -/
theorem sc_are_places : FnScope ["thing", "place"] ["thing"] (defScope s_are_places) := ⟨rfl, rfl, rfl, by decide +kernel, rfl, by decide +kernel, by decide +kernel⟩
def sp_places (K : PySem.W.Frag) : Sp := fun vs H Q _ => ∃ (v : V) (d : PyData), vs = [v] ∧ Dp K H v d ∧ d.hasDict = false ∧ Shrt d ∧ ∀ H', Same H H' → Q (.bl (isPl d)) H'
theorem ok_places {f : Addr} {fd : FuncData} (M : Blt mg) (Mx : Bltx mg) (ml : mg "list" = none) (F : Fun K "are_places" "are_places" s_are_places f fd) (C_is_whole : Cal P w K mg base CX0 1 "is_whole" ["thing"] (sp_whole K)) : FnG P w K mg base CX0 2 f fd ["thing"] (sp_places K) := by
  refine Gfun F sc_are_places (fun vs H Q E h => ?_) (fun cdv A outer s H vs Q E hg hr h => ?_)
  · obtain ⟨v, d, rfl, _⟩ := h
    rfl
  · obtain ⟨v, d, rfl, hd, hn, hsh, k⟩ := h
    refine ⟨_, (pss_one (ps_ret (pe_and (pe_callB call_isi rfl Mx.isinstance bt_isinstance (pa_cons (pv 0) (pa_cons (pe_bltn (v := .ty "list") rfl ml bt_list rfl) pa_nil))) (pe_one (pe_callB (cr_all rfl) rfl M.all bt_all (pa_cons (pe_lc (own := [("place", 1)]) (g := gName 1) (tt := tYes) rfl sc_are_places.nd (pi_list (pv 0)) (blkOk_by (N := ["thing", "place"]) (sc := defScope s_are_places) (by decide +kernel)) (fun _ _ _ _ _ => pg_name (i := 1) sc_are_places.nd rfl (Or.inl rfl)) (fun _ _ _ _ _ => pts_nil) (fun _ _ _ _ _ => (pe_g C_is_whole (hr.mono (by decide)) hg (pa_cons (pv 1) pa_nil)))) pa_nil)))))), ?_⟩
    refine ⟨_, rfl, _, _, _, _, _, rfl, .ty "list", Lf.Dp.ty hd, kit_ty (kl d), _, rfl, ?_⟩
    cases hd with
    | lst hS hA =>
      rename_i a xs ds
      have hl := DpAll.len hA
      have h1000 := hsh ds rfl
      refine iteT ?_
      refine ⟨_, rfl, a, rfl, ⟨_, hS⟩, fun D2 hD2 => lc_list (xs := xs) (fun i H' => H' D2 = some (.lst (((ds.take i).map isW).map V.bl)) ∧ Same H H') ⟨upd_same, same_new hD2⟩ (fun i H' _ h => sm_l h.2 hS) ?_ ?_⟩
      · rintro i x H1 hx ⟨e1, s1⟩
        obtain ⟨dx, hdx, hx1⟩ := Lf.DpAll.get hA hx
        have hnx : dx.hasDict = false := hd_all (by simpa [PyData.hasDict] using hn) (List.mem_of_getElem? hdx)
        refine ⟨rfl, _, rfl, x, dx, rfl, .dp (Dp.same s1 _ _ hx1) hnx, _, e1, ?_, ?_, fun b o eb => ?_⟩
        · rw [List.length_map, List.length_map, List.length_take, sizeLine_eq]
          omega
        · rw [upd_same, List.take_add_one, hdx, List.map_append, List.map_append]
          rfl
        · rw [upd_ne (ne_of_none eb hD2)]
          exact s1 _ _ eb
      · rintro H1 ⟨e1, s1⟩
        rw [hl, List.take_length] at e1
        refine ⟨D2, _, rfl, .inl (.inl e1), ?_⟩
        have ha : (ds.map isW).all id = isPl (.list ds) := by
          rw [List.all_map]
          rfl
        rw [ha]
        exact k _ s1
    | non => exact iteF (k H same_rfl)
    | bl _ => exact iteF (k H same_rfl)
    | int _ => exact iteF (k H same_rfl)
    | str _ => exact iteF (k H same_rfl)
    | tup _ _ => exact iteF (k H same_rfl)

/-! ### is_like_a_paper -/
theorem sc_is_like_a_paper : FnScope ["thing"] ["thing"] (defScope s_is_like_a_paper) := ⟨rfl, rfl, rfl, by decide +kernel, rfl, by decide +kernel, by decide +kernel⟩
/-- a tuple's parts are short -/
def Shrt2 (d : PyData) : Prop := ∀ ds, d = .tuple ds → ∀ x ∈ ds, Shrt x
def sp_like (K : PySem.W.Frag) : Sp := fun vs H Q _ => ∃ (v : V) (d : PyData), vs = [v] ∧ Dz K H v d ∧ Shrt2 d ∧ ∀ H', Same H H' → Q (.bl (isPap d)) H'
theorem pap_len {ds : List PyData} (h : ds.length ≠ 2) : papL ds = false := by
  match ds, h with
  | [], _ => rfl
  | [_], _ => rfl
  | [_, _], h => exact absurd rfl h
  | _ :: _ :: _ :: _, _ => rfl
theorem ok_like {f : Addr} {fd : FuncData} (M : Blt mg) (Mx : Bltx mg) (F : Fun K "is_like_a_paper" "is_like_a_paper" s_is_like_a_paper f fd) (C_are_places : Cal P w K mg base CX0 2 "are_places" ["thing"] (sp_places K)) : FnG P w K mg base CX0 3 f fd ["thing"] (sp_like K) := by
  refine Gfun F sc_is_like_a_paper (fun vs H Q E h => ?_) (fun cdv A outer s H vs Q E hg hr h => ?_)
  · obtain ⟨v, d, rfl, _⟩ := h
    rfl
  · obtain ⟨v, d, rfl, hd, hsh, k⟩ := h
    refine ⟨_, (pss_one (ps_ret (pe_and (pe_callB call_isi rfl Mx.isinstance bt_isinstance (pa_cons (pv 0) (pa_cons (pe_bltn (v := .ty "tuple") rfl Mx.tuple bt_tuple rfl) pa_nil))) (pe_and (pe_cmpR op_eq (pe_callB call_len_seq rfl M.len bt_len (pa_cons (pv 0) pa_nil)) pe_int (nomark _)) (pe_and (pe_g C_are_places (hr.mono (by decide)) hg (pa_cons (pe_ix ix_tup (pv 0) pe_int (fun _ _ => rfl)) pa_nil)) (pe_one (pe_g C_are_places (hr.mono (by decide)) hg (pa_cons (pe_ix ix_tup (pv 0) pe_int (fun _ _ => rfl)) pa_nil)))))))), ?_⟩
    refine ⟨_, rfl, _, _, _, _, _, rfl, .ty "tuple", hd.ty, kit_ty (kt d), _, rfl, ?_⟩
    by_cases ht : isT d = true
    · rw [ht]
      refine iteT ?_
      cases hd with
      | dic h p => cases ht
      | dp h n =>
        cases h with
        | tup hS hA =>
          rename_i a xs ds
          have hl := DpAll.len hA
          refine ⟨_, rfl, a, xs, rfl, .inr hS, rfl, _, rfl, ite2 (fun e => ?_) (fun e => ?_)⟩
          · have hl2 : xs.length = 2 := by
              have := V.int.inj (of_decide_eq_true e)
              omega
            obtain ⟨x, y, d1, d2, rfl, rfl, h1, h2⟩ := two_of hA hl2
            have hn' : d1.hasDict = false ∧ d2.hasDict = false := by simpa [PyData.hasDict, PyData.hasDictAll] using n
            refine ⟨_, rfl, a, _, _, _, rfl, rfl, hS, atI_nat (j := 0) rfl, x, d1, rfl, h1, hn'.1, hsh _ rfl d1 (by simp), fun H1 s1 => ⟨_, rfl, ite2 (fun e1 => ?_) (fun e1 => ?_)⟩⟩
            · refine ⟨_, rfl, a, _, _, _, rfl, rfl, sm_t s1 hS, atI_nat (j := 1) rfl, y, d2, rfl, Dp.same s1 _ _ h2, hn'.2, hsh _ rfl d2 (by simp), fun H2 s2 => ?_⟩
              have k2 := k H2 (s1.trans s2)
              have e2 : isPap (.tuple [d1, d2]) = (isPl d1 && isPl d2) := rfl
              rw [e2, e1, Bool.true_and] at k2
              exact k2
            · have k1 := k H1 s1
              have e2 : isPap (.tuple [d1, d2]) = (isPl d1 && isPl d2) := rfl
              rw [e2, Bool.eq_false_iff.mpr e1, Bool.false_and] at k1
              exact k1
          · have hl2 : ds.length ≠ 2 := fun z => e (decide_eq_true (by rw [hl, z]; rfl))
            have k1 := k H same_rfl
            have e2 : isPap (.tuple ds) = papL ds := rfl
            rw [e2, pap_len hl2] at k1
            exact k1
        | non => cases ht
        | bl _ => cases ht
        | int _ => cases ht
        | str _ => cases ht
        | lst _ _ => cases ht
    · have ht' : isT d = false := by cases h : isT d <;> first | rfl | exact absurd h ht
      rw [ht']
      refine iteF ?_
      have k1 := k H same_rfl
      have : isPap d = false := by cases d <;> first | rfl | cases ht'; done
      rw [this] at k1
      exact k1

end
end Lf

set_option Elab.async false
set_option linter.all false
set_option maxRecDepth 100000
set_option maxHeartbeats 4000000
set_option exponentiation.threshold 3000
namespace Lf
open PySem PySem.Spec PyProof.Rows L2
section
variable {P : Program} {w : World} {K : PySem.W.Frag} {mg : Str → Option Value} {base : Heap}
theorem isPl_ints {d : PyData} (h : isPl d = true) : ∃ cs : List Int, d = .list (cs.map PyData.int) := by
  cases d with
  | list ds =>
    have h' : ds.all isW = true := h
    have key : ∀ ds : List PyData, ds.all isW = true → ∃ cs : List Int, ds = cs.map PyData.int := by
      intro ds
      induction ds with
      | nil => exact fun _ => ⟨[], rfl⟩
      | cons a ds ih =>
        intro h
        rw [List.all_cons, Bool.and_eq_true] at h
        obtain ⟨cs, rfl⟩ := ih h.2
        cases a with
        | int n => exact ⟨n :: cs, rfl⟩
        | none => cases h.1
        | bool _ => cases h.1
        | str _ => cases h.1
        | list _ => cases h.1
        | tuple _ => cases h.1
        | dict _ => cases h.1
    obtain ⟨cs, rfl⟩ := key ds h'
    exact ⟨cs, rfl⟩
  | none => cases h
  | bool _ => cases h
  | int _ => cases h
  | str _ => cases h
  | tuple _ => cases h
  | dict _ => cases h
theorem isPap_ints {d : PyData} (h : isPap d = true) : ∃ cs es : List Int, d = .tuple [.list (cs.map PyData.int), .list (es.map PyData.int)] := by
  cases d with
  | tuple ds =>
    match ds, h with
    | [a, b], h =>
      have h' : (isPl a && isPl b) = true := h
      rw [Bool.and_eq_true] at h'
      obtain ⟨cs, rfl⟩ := isPl_ints h'.1
      obtain ⟨es, rfl⟩ := isPl_ints h'.2
      exact ⟨cs, es, rfl⟩
    | [], h => cases h
    | [_], h => cases h
    | _ :: _ :: _ :: _, h => cases h
  | none => cases h
  | bool _ => cases h
  | int _ => cases h
  | str _ => cases h
  | list _ => cases h
  | dict _ => cases h
theorem ints_eqvD : ∀ cs es : List Int, PyData.eqvAll (cs.map PyData.int) (es.map PyData.int) = decide (cs = es)
  | [], [] => by simp [PyData.eqvAll]
  | [], _ :: _ => by simp [PyData.eqvAll]
  | _ :: _, [] => by simp [PyData.eqvAll]
  | c :: cs, e :: es => by
    simp only [List.map_cons, PyData.eqvAll, PyData.eqv, ints_eqvD cs es]
    by_cases h : c = e
    · subst h
      simp
    · simp [h]
theorem pap_shaped2 (cs es : List Int) : SeqAt.shaped (.tuple [.list (cs.map PyData.int), .list (es.map PyData.int)]) = true := by
  obtain ⟨i1, i2⟩ := ints_lay cs
  obtain ⟨j1, j2⟩ := ints_lay es
  unfold SeqAt.shaped
  rw [Bool.and_eq_true]
  refine ⟨by simp only [PyData.canLay0, PyData.canLayAll0, i1, j1, Bool.and_self], decide_eq_true ?_⟩
  simp only [PyData.depth, PyData.depthAll, i2, j2]
  omega
theorem pap_eqv2 (cs es : List Int) (U V' : List Nat) : PyData.eqv (.tuple [.list (cs.map PyData.int), .list (es.map PyData.int)]) (papD U V') = decide (cs = nC U ∧ es = nC V') := by
  simp only [papD, PyData.eqv, PyData.eqvAll, ints_eqvD, Bool.and_true]
  by_cases h1 : cs = nC U
  · by_cases h2 : es = nC V'
    · simp [h1, h2]
    · simp [h1, h2]
  · simp [h1]

/-! ### shows -/
theorem sc_shows : FnScope ["weights", "step", "bound", "thing", "told", "more", "up", "down", "place"] ["weights", "step", "bound", "thing"] (defScope s_shows) := ⟨rfl, rfl, rfl, by decide +kernel, rfl, by decide +kernel, by decide +kernel⟩
/-- what shows tells of a thing -/
def isThe (d : PyData) (U V' : List Nat) : Bool := isPap d && PyData.eqv d (papD U V')
def sp_shows (K : PySem.W.Frag) : Sp := fun vs H Q _ => ∃ (a : Addr) (v u x : V) (d : PyData) (xs : List V) (fs : List (Int × Int)) (st b : Int × Int), vs = [.ref a, v, u, x] ∧ Fit K H a v xs fs st ∧ AtK K H u b ∧ Bd b ∧ Dz K H x d ∧ Shrt2 d ∧
  ∀ H', Same H H' → Q (.bl (isThe d (upL ((aimsF fs st).map rst) b) (dnL ((aimsF fs st).map rst) b) && showsB (upL ((aimsF fs st).map rst) b) (dnL ((aimsF fs st).map rst) b) (more fs st) fs.length)) H'
theorem ok_shows {f : Addr} {fd : FuncData} (M : Blt mg) (many_ : mg "any" = none) (F : Fun K "shows" "shows" s_shows f fd) (C_paper : Cal P w K mg base CX0 9 "paper" ["weights", "step", "bound"] (sp_paper K)) (C_is_like_a_paper : Cal P w K mg base CX0 3 "is_like_a_paper" ["thing"] (sp_like K)) (C_how_many_more : Cal P w K mg base CX0 9 "how_many_more" ["weights", "step"] (sp_more K)) : FnG P w K mg base CX0 10 f fd ["weights", "step", "bound", "thing"] (sp_shows K) := by
  refine Gfun F sc_shows (fun vs H Q E h => ?_) (fun cdv A outer s H vs Q E hg hr h => ?_)
  · obtain ⟨a, v, u, x, d, xs, fs, st, b, rfl, _⟩ := h
    rfl
  · obtain ⟨a, v, u, x, d, xs, fs, st, b, rfl, T, hu, hb, hz, hsh, k⟩ := h
    refine ⟨_, (pss_cons (ps_set (i := 4) sc_shows.nd rfl (.inl rfl) (pe_g C_paper (hr.mono (by decide)) hg (pa_cons (pv 0) (pa_cons (pv 1) (pa_cons (pv 2) pa_nil)))))
      (pss_cons (ps_if (PW.pt (pw_or (pt_not (pt_val (pe_g C_is_like_a_paper (hr.mono (by decide)) hg (pa_cons (pv 3) pa_nil)))) (pw_or1 (pt_cmpR (op_neD hr.units) (pv 3) (pv 4) (nomark _)))))
      (pss_one (ps_ret pe_bl))
      pss_nil)
      (pss_cons (ps_asg (pv 4) (pg_tup rfl (pgs_cons (pg_name (i := 6) sc_shows.nd rfl (.inl rfl)) (pgs_cons (pg_name (i := 7) sc_shows.nd rfl (.inr rfl)) pgs_nil))))
      (pss_cons (ps_set (i := 5) sc_shows.nd rfl (.inl rfl) (pe_g C_how_many_more (hr.mono (by decide)) hg (pa_cons (pv 0) (pa_cons (pv 1) pa_nil))))
      (pss_cons (ps_if (pt_val (pe_callB (cr_any rfl) rfl many_ bt_any (pa_cons (pe_lc (own := [("place", 8)]) (g := gName 8) (tt := tYes) rfl sc_shows.nd (pi_list (pv 6)) (blkOk_by (N := ["weights", "step", "bound", "thing", "told", "more", "up", "down", "place"]) (sc := defScope s_shows) (by decide +kernel)) (fun _ _ _ _ _ => pg_name (i := 8) sc_shows.nd rfl (Or.inl rfl)) (fun _ _ _ _ _ => pts_nil) (fun _ _ _ _ _ => (pe_cmpR (op_inK (K := K)) (pv 8) (pv 7) rfl))) pa_nil)))
      (pss_one (ps_ret pe_bl))
      pss_nil)
      (pss_one (ps_ret (pe_or (pe_cmpR op_gt (pe_callB call_len_seq rfl M.len bt_len (pa_cons (pv 6) pa_nil)) (pv 5) (nomark _)) (pe_one (pe_cmpR op_lt (pe_op op_sub (pe_callB call_len_seq rfl M.len bt_len (pa_cons (pv 0) pa_nil)) (pe_callB call_len_seq rfl M.len bt_len (pa_cons (pv 7) pa_nil))) (pv 5) (nomark _))))))))))), ?_⟩
    have h12 := T.w.few
    have rl : ((aimsF fs st).map rst).length = fs.length := by rw [List.length_map, aims_len]
    have lU := up_le ((aimsF fs st).map rst) b
    have lV := dn_le ((aimsF fs st).map rst) b
    obtain ⟨U, hU⟩ : ∃ U, U = upL ((aimsF fs st).map rst) b := ⟨_, rfl⟩
    obtain ⟨V', hV⟩ : ∃ V', V' = dnL ((aimsF fs st).map rst) b := ⟨_, rfl⟩
    rw [← hU] at lU k
    rw [← hV] at lV k
    refine ⟨_, rfl, _, rfl, _, rfl, a, v, u, xs, fs, st, b, rfl, T, hu, hb, fun H1 p1 D1 E1 s1 nD nE np ne e1 f1 g1 => ?_⟩
    rw [← hU] at f1
    rw [← hV] at g1
    refine ⟨_, rfl, x, d, rfl, hz.same s1, hsh, fun H2 s2 => ⟨_, rfl, ?_⟩⟩
    have s02 := s1.trans s2
    have no : isThe d U V' = false → Q (.bl false) H2 := fun e => by
      have k2 := k H2 s02
      rw [e, Bool.false_and] at k2
      exact k2
    by_cases hp : isPap d = true
    · rw [hp]
      refine iteF ?_
      obtain ⟨cs, es, rfl⟩ := isPap_ints hp
      have hdz : Dp K H2 x (.tuple [.list (cs.map PyData.int), .list (es.map PyData.int)]) := by
        have := hz.same s02
        cases this with
        | dp h _ => exact h
      refine ⟨_, rfl, _, rfl, _, _, hdz, pap_dp (s2 _ _ e1) (s2 _ _ f1) (s2 _ _ g1), pap_shaped2 _ _, pap_shaped _ _, _, rfl, ?_⟩
      by_cases he : PyData.eqv (.tuple [.list (cs.map PyData.int), .list (es.map PyData.int)]) (papD U V') = true
      · rw [he]
        refine iteF ?_
        have hthe : isThe (.tuple [.list (cs.map PyData.int), .list (es.map PyData.int)]) U V' = true := by
          unfold isThe
          rw [hp, he]
          rfl
        rw [hthe] at k
        simp only [Bool.true_and] at k
        refine ⟨_, rfl, p1, _, rfl, .inl (.inl (s2 _ _ e1)), rfl, _, _, rfl, _, _, rfl, rfl, ?_⟩
        refine ⟨_, rfl, _, rfl, a, v, xs, fs, st, rfl, T.same s02, fun H3 s3 => ?_⟩
        have s13 := s2.trans s3
        have f3 := s13 _ _ f1
        have g3 := s13 _ _ g1
        have s03 := s1.trans s13
        refine ⟨_, rfl, D1, rfl, ⟨_, .inl (.inl f3)⟩, fun D4 hD4 => lc_list (xs := nV U) (fun i H' => H' D4 = some (.lst (((U.take i).map fun q => V'.contains q).map V.bl)) ∧ Same H3 H') ⟨upd_same, same_new hD4⟩ (fun i H' _ h => .inl (.inl (h.2 _ _ f3))) ?_ ?_⟩
        · rintro i x H4 hx ⟨e4, s4⟩
          obtain ⟨n, hn, rfl⟩ : ∃ n : Nat, U[i]? = some n ∧ x = .int (n : Int) := by
            have hx' : (U.map fun o : Nat => V.int (o : Int))[i]? = some x := hx
            rw [List.getElem?_map] at hx'
            cases e : U[i]? with
            | none => rw [e] at hx'; cases hx'
            | some n => rw [e] at hx'; exact ⟨n, rfl, (Option.some.inj hx').symm⟩
          refine ⟨rfl, _, rfl, _, rfl, E1, _, rfl, .inl (.inl (.inl (s4 _ _ g3))), rfl, nV_flat _, _, e4, ?_, ?_, fun c o eb => ?_⟩
          · rw [List.length_map, List.length_map, List.length_take, sizeLine_eq]
            omega
          · rw [upd_same, List.take_add_one, hn, List.map_append, List.map_append]
            show some (HO.lst (_ ++ [V.bl (inV (.int (n : Int)) (nV V'))])) = _
            rw [inV_nat]
            rfl
          · rw [upd_ne (ne_of_none eb hD4)]
            exact s4 _ _ eb
        · rintro H4 ⟨e4, s4⟩
          rw [nV_len, List.take_length] at e4
          have hany : (U.map fun q => V'.contains q).any id = U.any fun q => V'.contains q := by
            rw [List.any_map]
            rfl
          have s04 := s03.trans s4
          have k4 := k H4 s04
          unfold showsB at k4
          refine ⟨D4, _, rfl, .inl (.inl e4), _, rfl, ?_⟩
          rw [hany]
          refine ite2 (fun e => ?_) (fun e => ?_)
          · rw [e] at k4
            exact k4
          · rw [Bool.eq_false_iff.mpr e, Bool.false_or] at k4
            have f4 := s4 _ _ f3
            have g4 := s4 _ _ g3
            refine ⟨_, rfl, D1, _, rfl, .inl (.inl (.inl f4)), _, rfl, _, _, rfl, rfl, _, rfl, ?_⟩
            rw [nV_len]
            refine ite2 (fun e2 => ?_) (fun e2 => ?_)
            · have e2' : decide (more fs st < (U.length : Int)) = true := e2
              rw [e2'] at k4
              exact k4
            · have e2' : decide (more fs st < (U.length : Int)) = false := Bool.eq_false_iff.mpr e2
              rw [e2', Bool.false_or] at k4
              refine ⟨_, rfl, a, xs, rfl, sm_x s04 T.sq, _, rfl, E1, _, rfl, .inl (.inl (.inl g4)), _, _, rfl, rfl, _, rfl, _, _, rfl, rfl, ?_⟩
              rw [nV_len, T.at_.length]
              exact k4
      · have he' : PyData.eqv (.tuple [.list (cs.map PyData.int), .list (es.map PyData.int)]) (papD U V') = false := Bool.eq_false_iff.mpr he
        rw [he']
        refine iteT ?_
        exact no (by unfold isThe; rw [he', Bool.and_false])
    · have hp' : isPap d = false := Bool.eq_false_iff.mpr hp
      rw [hp']
      refine iteT ?_
      exact no (by unfold isThe; rw [hp', Bool.false_and])

end
end Lf

set_option Elab.async false
set_option linter.all false
set_option maxRecDepth 100000
set_option maxHeartbeats 4000000
set_option exponentiation.threshold 3000
/-! repr of data with dicts at any depth: of what stands for d in a heap, and what repr tells of it. -/
namespace Lf
open PySem PySem.Spec PyProof.Rows L2
section
variable {P : Program} {w : World} {h : Heap}
/-- a row's texts can be told, none of them within one of the row's own objects -/
def RowSays (P : Program) (w : World) (h : Heap) (us : List Value) (ds : List PyData) : Prop :=
  PyData.showableAll ds = true → (∀ t ∈ PyData.shownAll ds, t.length ≤ sizeLine) → ∃ bs, ReadAtMost h (PyData.depthAll ds) bs ∧ ReprAllK P w bs h (PyData.depthAll ds) us (PyData.shownAll ds)
structure Row (P : Program) (w : World) (h : Heap) (us : List Value) (ds : List PyData) : Prop where
  rd : ∃ as, ReadsAll h us ds as
  say : RowSays P w h us ds
/-- u stands for d: it is read so, told so within another one, and, where it is an object, by its type's own repr -/
structure One (P : Program) (w : World) (h : Heap) (u : Value) (d : PyData) : Prop where
  rd : ∃ as, Reads h u d as
  say : d.showable = true → d.shown.length ≤ sizeLine → ∃ bs, ReadAtMost h d.depth bs ∧ ReprK P w bs h d.depth u d.shown
  top : d.showable = true → d.shown.length ≤ sizeLine → ∀ a, u = .ref a → ∃ T idr, ShowsBy P w h a d T idr
theorem One.plain {u : Value} {d : PyData} {as : List Addr} (r : Reads h u d as) (n : d.hasDict = false) : One P w h u d :=
  ⟨⟨as, r⟩, fun a b => ReprK.of_reads r a (PyData.noDict_hsm n) b, fun a b c e => showsBy_of_reads (e ▸ r) a (PyData.noDict_hsm n) b⟩
theorem Row.nil : Row P w h [] [] := ⟨⟨[], .nil⟩, fun _ _ => ⟨[], fun b hb => absurd hb List.not_mem_nil, by unfold PyData.shownAll; exact .nil⟩⟩
theorem Row.cons {u : Value} {us : List Value} {d : PyData} {ds : List PyData} (a : One P w h u d) (r : Row P w h us ds) : Row P w h (u :: us) (d :: ds) where
  rd := a.rd.elim fun _ ra => r.rd.elim fun _ rr => ⟨_, .cons ra rr⟩
  say := fun hs hz => by
    unfold PyData.showableAll at hs
    unfold PyData.shownAll at hz
    have both := Bool.and_eq_true_iff.mp hs
    obtain ⟨b1, m1, k1⟩ := a.say both.1 (hz d.shown (List.Mem.head _))
    obtain ⟨b2, m2, k2⟩ := r.say both.2 fun t ht => hz t (List.Mem.tail _ ht)
    have e : PyData.depthAll (d :: ds) = max d.depth (PyData.depthAll ds) := by rw [PyData.depthAll]
    refine ⟨b1 ++ b2, ?_, ?_⟩
    · rw [e]
      exact (m1.mono (Nat.le_max_left ..)).append (m2.mono (Nat.le_max_right ..))
    · rw [e]
      unfold PyData.shownAll
      refine .cons (ReprK.level_le (k1.more fun b hb => List.mem_append.mpr (.inl hb)) (Nat.le_max_left ..)) ?_
      exact ReprAllK.more_le (fun b hb => List.mem_append.mpr (.inr hb)) (Nat.le_max_right ..) k2
section
variable {a : Addr} {o : Obj} {n : Nat} {us : List Value} {ds : List PyData} {kvs : List (PyData × PyData)} {es : Array DictEntry}
/-- what a list's and a tuple's parts have to be -/
theorem parts_fit {f : List Str → Str} (hf : ∀ ts t, t ∈ ts → t.length ≤ (f ts).length) (hz : (f (PyData.shownAll ds)).length ≤ sizeLine) : ∀ t ∈ PyData.shownAll ds, t.length ≤ sizeLine := fun t ht => Nat.le_trans (hf _ _ ht) hz
theorem One.lst (ho : h.get? a = some o) (hc : o.cls = .type "list") (hd : o.data = .seq us.toArray n) (r : Row P w h us ds) : One P w h (.ref a) (.list ds) := by
  obtain ⟨as, ra⟩ := r.rd
  have ro : Reads h (.ref a) (.list ds) (a :: as) := .list ho hc hd ra
  have e1 : PyData.depth (.list ds) = PyData.depthAll ds + 1 := by unfold PyData.depth; rfl
  have e2 : PyData.shown (.list ds) = listText (PyData.shownAll ds) := by unfold PyData.shown; rfl
  have e3 : PyData.showable (.list ds) = PyData.showableAll ds := by unfold PyData.showable; rfl
  have in_ : PyData.showable (.list ds) = true → (PyData.shown (.list ds)).length ≤ sizeLine → ∃ bs, ReadAtMost h (PyData.depthAll ds) bs ∧ ReprAllK P w bs h (PyData.depthAll ds) us (PyData.shownAll ds) := fun hs hz => by
    rw [e3] at hs
    rw [e2] at hz
    exact r.say hs (parts_fit (fun _ _ => listText_mem_le) hz)
  have out : ∀ bs, ReadAtMost h (PyData.depthAll ds) bs → a ∉ bs := fun bs hb => not_mem_of_deeper ro (by rw [e1]; exact Nat.lt_succ_self _) hb
  cases us with
  | nil =>
    have e4 : ds = [] := by cases ra; rfl
    subst e4
    have e5 : PyData.hasDict (.list []) = false := by unfold PyData.hasDict PyData.hasDictAll; rfl
    exact One.plain ro e5
  | cons u us =>
    refine ⟨⟨_, ro⟩, fun hs hz => ?_, fun hs hz c ec => ?_⟩
    · obtain ⟨bs, hb, hk⟩ := in_ hs hz
      refine ⟨a :: bs, ReadAtMost.cons ro (by rw [e1]; exact Nat.le_succ _) hb, ?_⟩
      rw [e1, e2]
      exact ReprK.list ho hc hd (out bs hb) (by rw [List.size_toArray]; exact hk.length_eq) fun i y q => hk.item i y (by rw [List.getElem?_toArray] at q; exact q)
    · cases ec
      obtain ⟨bs, hb, hk⟩ := in_ hs hz
      rw [e2] at hz
      refine ⟨"list", "list.__repr__", ⟨F.slot_list_repr.toG, F.slot_list_str, F.slot_list_format, fun s k0 => ⟨o, k0 _ _ ho, hc⟩, fun A E s Q hg hu k0 q => ?_⟩⟩
      rw [e1] at hu
      rw [e2] at q
      exact call_list_reprK ho hc hd (out bs hb) (by rw [List.size_toArray]; exact hk.length_eq) (fun i y q => hk.item i y (by rw [List.getElem?_toArray] at q; exact q)) hg (fun b _ => Clear.nil b) hu k0 q hz
theorem One.tup (ho : h.get? a = some o) (hc : o.cls = .type "tuple") (hd : o.data = .seq us.toArray n) (r : Row P w h us ds) : One P w h (.ref a) (.tuple ds) := by
  obtain ⟨as, ra⟩ := r.rd
  have ro : Reads h (.ref a) (.tuple ds) as := .tuple ho hc hd ra
  have e1 : PyData.depth (.tuple ds) = PyData.depthAll ds + 1 := by unfold PyData.depth; rfl
  have e2 : PyData.shown (.tuple ds) = tupleText (PyData.shownAll ds) := by unfold PyData.shown; rfl
  have e3 : PyData.showable (.tuple ds) = PyData.showableAll ds := by unfold PyData.showable; rfl
  have in_ : PyData.showable (.tuple ds) = true → (PyData.shown (.tuple ds)).length ≤ sizeLine → ∃ bs, a ∉ bs ∧ ReadAtMost h (PyData.depthAll ds) bs ∧ ReprAllK P w bs h (PyData.depthAll ds) us (PyData.shownAll ds) := fun hs hz => by
    rw [e3] at hs
    rw [e2] at hz
    obtain ⟨bs, hb, hk⟩ := r.say hs (parts_fit (fun _ _ => tupleText_mem_le) hz)
    exact ⟨bs, not_mem_of_deeper ro (by rw [e1]; exact Nat.lt_succ_self _) hb, hb, hk⟩
  refine ⟨⟨_, ro⟩, fun hs hz => ?_, fun hs hz c ec => ?_⟩
  · obtain ⟨bs, na, hb, hk⟩ := in_ hs hz
    refine ⟨a :: bs, ReadAtMost.cons ro (by rw [e1]; exact Nat.le_succ _) hb, ?_⟩
    rw [e1, e2]
    exact ReprK.tuple ho hc hd na hk
  · cases ec
    obtain ⟨bs, na, hb, hk⟩ := in_ hs hz
    rw [e2] at hz
    refine ⟨"tuple", "tuple.__repr__", ⟨F.slot_tuple_repr, F.slot_tuple_str, F.slot_tuple_format, fun s k0 => ⟨o, k0 _ _ ho, hc⟩, fun A E s Q hg hu k0 q => ?_⟩⟩
    rw [e1] at hu
    rw [e2] at q
    exact call_tuple_reprK ho hc hd na hk hg (fun b _ => Clear.nil b) hu k0 q hz
theorem One.dic (ho : h.get? a = some o) (hc : o.cls = .type "dict") (hd : o.data = .dict es n) (sys : (a == sysModules) = false) (rk : Row P w h (es.toList.map (·.key)) (kvs.map (·.1))) (rv : Row P w h (es.toList.map (·.val)) (kvs.map (·.2))) : One P w h (.ref a) (.dict kvs) := by
  obtain ⟨as, ra⟩ := rk.rd
  obtain ⟨cs, rc⟩ := rv.rd
  have ro : Reads h (.ref a) (.dict kvs) (a :: as ++ cs) := .dict ho hc hd ra rc
  have e1 : PyData.depth (.dict kvs) = PyData.depthKv kvs + 1 := by unfold PyData.depth; rfl
  have e2 : PyData.shown (.dict kvs) = dictText (PyData.shownKv kvs) := by unfold PyData.shown; rfl
  have e3 : PyData.showable (.dict kvs) = PyData.showableKv kvs := by unfold PyData.showable; rfl
  have in_ : PyData.showable (.dict kvs) = true → (PyData.shown (.dict kvs)).length ≤ sizeLine → ∃ bs, a ∉ bs ∧ ReadAtMost h (PyData.depthKv kvs) bs ∧ ReprEntriesK P w bs h (PyData.depthKv kvs) es.toList (PyData.shownKv kvs) := fun hs hz => by
    rw [e3] at hs
    rw [e2] at hz
    have two := PyData.showableKv_split kvs hs
    have fits : ∀ t p : Str, p ∈ PyData.shownKv kvs → t.length ≤ p.length → t.length ≤ sizeLine := fun t p hp hl => Nat.le_trans hl (Nat.le_trans (dictText_mem_le hp) hz)
    obtain ⟨b1, m1, k1⟩ := rk.say two.1 fun t ht => by
      obtain ⟨p, hp, hl⟩ := PyData.shownKv_key_le kvs t ht
      exact fits t p hp hl
    obtain ⟨b2, m2, k2⟩ := rv.say two.2 fun t ht => by
      obtain ⟨p, hp, hl⟩ := PyData.shownKv_val_le kvs t ht
      exact fits t p hp hl
    have hb := (m1.mono (PyData.depthAll_keys_le kvs)).append (m2.mono (PyData.depthAll_vals_le kvs))
    refine ⟨b1 ++ b2, not_mem_of_deeper ro (by rw [e1]; exact Nat.lt_succ_self _) hb, hb, ?_⟩
    rw [PyData.shownKv_eq]
    refine ReprEntriesK.of_two _ _ _ (ReprAllK.more_le ?_ (PyData.depthAll_keys_le kvs) k1) (ReprAllK.more_le ?_ (PyData.depthAll_vals_le kvs) k2)
    · exact fun b hb => List.mem_append.mpr (.inl hb)
    · exact fun b hb => List.mem_append.mpr (.inr hb)
  refine ⟨⟨_, ro⟩, fun hs hz => ?_, fun hs hz c ec => ?_⟩
  · obtain ⟨bs, na, hb, hk⟩ := in_ hs hz
    refine ⟨a :: bs, ReadAtMost.cons ro (by rw [e1]; exact Nat.le_succ _) hb, ?_⟩
    rw [e1, e2]
    exact ReprK.dict ho hc hd sys na hk
  · cases ec
    obtain ⟨bs, na, hb, hk⟩ := in_ hs hz
    rw [e2] at hz
    refine ⟨"dict", "dict.__repr__", ⟨F.slot_dict_repr, F.slot_dict_str, F.slot_dict_format, fun s k0 => ⟨o, k0 _ _ ho, hc⟩, fun A E s Q hg hu k0 q => ?_⟩⟩
    rw [e1] at hu
    rw [e2] at q
    exact call_dict_reprK ho hc hd sys na hk hg (fun b _ => Clear.nil b) hu k0 q hz
end
end
/-! ### data of the abstract heap, dicts among them -/
mutual
inductive Dg (K : PySem.W.Frag) (H : Hp) : V → PyData → Prop
  | non : Dg K H .non .none
  | bl (b : Bool) : Dg K H (.bl b) (.bool b)
  | int (i : Int) : Dg K H (.int i) (.int i)
  | str (x : Str) : Dg K H (.str x) (.str x)
  | lst {a : Addr} {xs : List V} {ds : List PyData} : SqL K H a xs → DgAll K H xs ds → Dg K H (.ref a) (.list ds)
  | tup {a : Addr} {xs : List V} {ds : List PyData} : SqT K H a xs → DgAll K H xs ds → Dg K H (.ref a) (.tuple ds)
  | dk {a : Addr} {kvs : List (Key × V)} {ds : List (PyData × PyData)} : H a = some (.dK kvs) → DgKv K H kvs ds → Dg K H (.ref a) (.dict ds)
  | dt {a : Addr} {kvs : List (List Key × V)} {ds : List (PyData × PyData)} : H a = some (.dT kvs) → DgKt K H kvs ds → Dg K H (.ref a) (.dict ds)
inductive DgAll (K : PySem.W.Frag) (H : Hp) : List V → List PyData → Prop
  | nil : DgAll K H [] []
  | cons {v : V} {vs : List V} {d : PyData} {ds : List PyData} : Dg K H v d → DgAll K H vs ds → DgAll K H (v :: vs) (d :: ds)
inductive DgKv (K : PySem.W.Frag) (H : Hp) : List (Key × V) → List (PyData × PyData) → Prop
  | nil : DgKv K H [] []
  | cons {k : Key} {v : V} {vs : List (Key × V)} {d : PyData} {ds : List (PyData × PyData)} : Dg K H v d → DgKv K H vs ds → DgKv K H ((k, v) :: vs) ((kD k, d) :: ds)
inductive DgKt (K : PySem.W.Frag) (H : Hp) : List (List Key × V) → List (PyData × PyData) → Prop
  | nil : DgKt K H [] []
  | cons {k : List Key} {v : V} {vs : List (List Key × V)} {d : PyData} {ds : List (PyData × PyData)} : Dg K H v d → DgKt K H vs ds → DgKt K H ((k, v) :: vs) ((.tuple (k.map kD), d) :: ds)
end
mutual
theorem Dg.of {K : PySem.W.Frag} {H : Hp} : ∀ {d : PyData} {v : V}, Dp K H v d → Dg K H v d
  | _, _, .non => .non
  | _, _, .bl b => .bl b
  | _, _, .int i => .int i
  | _, _, .str x => .str x
  | _, _, .lst h r => .lst h (DgAll.of r)
  | _, _, .tup h r => .tup h (DgAll.of r)
theorem DgAll.of {K : PySem.W.Frag} {H : Hp} : ∀ {ds : List PyData} {vs : List V}, DpAll K H vs ds → DgAll K H vs ds
  | _, _, .nil => .nil
  | _, _, .cons a r => .cons (Dg.of a) (DgAll.of r)
end
theorem sqT_same {K : PySem.W.Frag} {H H' : Hp} (s : Same H H') {a : Addr} {xs : List V} (h : SqT K H a xs) : SqT K H' a xs := by
  rcases h with (h | ⟨o, h⟩) | h
  · exact .inl (.inl (s _ _ h))
  · exact .inl (.inr ⟨o, s _ _ h⟩)
  · exact .inr h
mutual
theorem Dg.same {K : PySem.W.Frag} {H H' : Hp} (s : Same H H') : ∀ {d : PyData} {v : V}, Dg K H v d → Dg K H' v d
  | _, _, .non => .non
  | _, _, .bl b => .bl b
  | _, _, .int i => .int i
  | _, _, .str x => .str x
  | _, _, .lst h r => .lst (s.seq h) (DgAll.same s r)
  | _, _, .tup h r => .tup (sqT_same s h) (DgAll.same s r)
  | _, _, .dk h r => .dk (s _ _ h) (DgKv.same s r)
  | _, _, .dt h r => .dt (s _ _ h) (DgKt.same s r)
theorem DgAll.same {K : PySem.W.Frag} {H H' : Hp} (s : Same H H') : ∀ {ds : List PyData} {vs : List V}, DgAll K H vs ds → DgAll K H' vs ds
  | _, _, .nil => .nil
  | _, _, .cons a r => .cons (Dg.same s a) (DgAll.same s r)
theorem DgKv.same {K : PySem.W.Frag} {H H' : Hp} (s : Same H H') : ∀ {ds : List (PyData × PyData)} {vs : List (Key × V)}, DgKv K H vs ds → DgKv K H' vs ds
  | _, _, .nil => .nil
  | _, _, .cons a r => .cons (Dg.same s a) (DgKv.same s r)
theorem DgKt.same {K : PySem.W.Frag} {H H' : Hp} (s : Same H H') : ∀ {ds : List (PyData × PyData)} {vs : List (List Key × V)}, DgKt K H vs ds → DgKt K H' vs ds
  | _, _, .nil => .nil
  | _, _, .cons a r => .cons (Dg.same s a) (DgKt.same s r)
end
section
variable {X : Cx} {pins : List (Addr × Obj)} {σ : L2.St} {H : Hp} {s : Shared}
theorem key_one {P : Program} {w : World} {h : Heap} {k : Key} {u : Value} (hk : keyIs k u = true) : One P w h u (kD k) := by
  rcases keyIs_shape hk with ⟨i, t, e1, e2⟩ | ⟨x, t, e1, e2⟩
  · rw [e1, e2]
    exact .plain (.int i t) (by unfold kD PyData.hasDict; rfl)
  · rw [e1, e2]
    exact .plain (.str x t) (by unfold kD PyData.hasDict; rfl)
theorem key_row {P : Program} {w : World} {h : Heap} : ∀ (ks : List Key) (us : List Value), Vals (ks.map kV) us → Row P w h us (ks.map kD)
  | [], _, r => by
    cases r
    exact .nil
  | .inl i :: ks, _, r => by
    cases r with
    | cons r1 r2 =>
      obtain ⟨t, rfl⟩ := r1
      exact .cons (.plain (.int i t) (by unfold kD PyData.hasDict; rfl)) (key_row ks _ r2)
  | .inr x :: ks, _, r => by
    cases r with
    | cons r1 r2 =>
      obtain ⟨t, rfl⟩ := r1
      exact .cons (.plain (.str x t) (by unfold kD PyData.hasDict; rfl)) (key_row ks _ r2)
mutual
theorem Dg.one (I : Inv X pins σ H s) : ∀ {d : PyData} {v : V} {u : Value}, Dg X.K H v d → RelV v u → One X.prog X.w s.heap u d
  | _, _, _, .non, r => by cases r; exact .plain .none (by unfold PyData.hasDict; rfl)
  | _, _, _, .bl b, r => by cases r; exact .plain (.bool b) (by unfold PyData.hasDict; rfl)
  | _, _, _, .int i, r => by obtain ⟨t, rfl⟩ := r; exact .plain (.int i t) (by unfold PyData.hasDict; rfl)
  | _, _, _, .str x, r => by obtain ⟨t, rfl⟩ := r; exact .plain (.str x t) (by unfold PyData.hasDict; rfl)
  | _, _, _, .lst h q, r => by
    cases r
    obtain ⟨its, rv, ⟨o, n, ho, hc, _, hd⟩, _⟩ := I.list h
    exact .lst ho hc hd (DgAll.row I q rv)
  | _, _, _, .tup h q, r => by
    cases r
    obtain ⟨its, rv, ⟨o, ho, hc, n, hd⟩, _⟩ := I.tuple h
    exact .tup ho hc hd (DgAll.row I q rv)
  | _, _, _, .dk (a := a) (kvs := kvs) h q, r => by
    cases r
    obtain ⟨_, sys, vs, kv, o, es, ep, h1, h2, h3, h4, h5, h6⟩ := (show ObjOk X.prog X.w H s.heap a (.dK kvs) from I.hok a _ h)
    obtain ⟨i1, i2⟩ := DgKv.rows I h5 kv q
    exact .dic h1 h2.1 h3 sys i1 i2
  | _, _, _, .dt (a := a) (kvs := kvs) h q, r => by
    cases r
    obtain ⟨_, sys, xs, hp, o, es, ep, h1, h2, h3, h4, h5⟩ := (show ObjOk X.prog X.w H s.heap a (.dT kvs) from I.hok a _ h)
    obtain ⟨i1, i2⟩ := DgKt.rows I q hp
    refine .dic h1 h2.1 h3 sys ?_ ?_
    · rw [h4, List.map_map]
      exact i1
    · rw [h4, List.map_map]
      exact i2
theorem DgAll.row (I : Inv X pins σ H s) : ∀ {ds : List PyData} {vs : List V} {us : List Value}, DgAll X.K H vs ds → Vals vs us → Row X.prog X.w s.heap us ds
  | _, _, _, .nil, r => by cases r; exact .nil
  | _, _, _, .cons a q, r => by
    cases r with
    | cons r1 r2 => exact .cons (Dg.one I a r1) (DgAll.row I q r2)
theorem DgKv.rows (I : Inv X pins σ H s) : ∀ {ds : List (PyData × PyData)} {kvs : List (Key × V)} {es : List DictEntry} {vs : List (Key × Value)}, Pairs (mixKind X.prog X.w) es vs → KV kvs vs → DgKv X.K H kvs ds →
    Row X.prog X.w s.heap (es.map (·.key)) (ds.map (·.1)) ∧ Row X.prog X.w s.heap (es.map (·.val)) (ds.map (·.2))
  | _, _, _, _, p, kv, .nil => by
    cases kv
    cases p
    exact ⟨.nil, .nil⟩
  | _, _, _, _, p, kv, .cons a q => by
    cases kv with
    | cons z kv =>
      cases p with
      | cons hk hv p =>
        obtain ⟨i1, i2⟩ := DgKv.rows I p kv q
        obtain ⟨z1, z2⟩ := z
        refine ⟨.cons ?_ i1, .cons ?_ i2⟩
        · simp only at z1
          rw [z1]
          exact key_one hk
        · show One _ _ _ (DictEntry.val _) _
          rw [hv]
          exact Dg.one I a z2
theorem DgKt.rows (I : Inv X pins σ H s) : ∀ {ds : List (PyData × PyData)} {kvs : List (List Key × V)} {xs : List (List Key × Addr × Value)}, DgKt X.K H kvs ds → Paired (fun (p : List Key × V) (q : List Key × Addr × Value) => p.1 = q.1 ∧ H q.2.1 = some (.tup (p.1.map kV)) ∧ RelV p.2 q.2.2) kvs xs →
    Row X.prog X.w s.heap (xs.map ((·.key) ∘ entryOfKey (tupleKind (mixKind X.prog X.w)))) (ds.map (·.1)) ∧ Row X.prog X.w s.heap (xs.map ((·.val) ∘ entryOfKey (tupleKind (mixKind X.prog X.w)))) (ds.map (·.2))
  | _, _, _, .nil, p => by
    cases p
    exact ⟨.nil, .nil⟩
  | _, _, _, .cons (k := k) a q, p => by
    cases p with
    | cons z p =>
      obtain ⟨i1, i2⟩ := DgKt.rows I q p
      obtain ⟨z1, z2, z3⟩ := z
      refine ⟨.cons ?_ i1, .cons (Dg.one I a z3) i2⟩
      have hk : ∀ {c : Addr}, H c = some (.tup (k.map kV)) → One X.prog X.w s.heap (.ref c) (.tuple (k.map kD)) := fun {c} e => by
        obtain ⟨its, rv, ⟨o, ho, hc, n, hd⟩, _⟩ := I.tuple (.inl (.inl e))
        exact .tup ho hc hd (key_row k its rv)
      exact hk z2
end
def rShowG (K : PySem.W.Frag) : List V → Hp → VK → Prop := fun xs H Q => ∃ (v : V) (d : PyData), xs = [v] ∧ Dg K H v d ∧
  d.showable = true ∧ d.depth ≤ 30 ∧ d.shown.length ≤ sizeLine ∧ Q (.str d.shown) H
/-- repr of data, dicts let -/
theorem call_showG (hG : X.A.guards = some []) {k : Nat} (hr : Room k X.A) : CallR X (.builtin "repr") (rShowG X.K) := by
  intro pins s σ H xs us Q I r h
  obtain ⟨v, d, rfl, hd, hs, h30, hz, q⟩ := h
  obtain ⟨u, rfl, r1⟩ := vals1 r
  have on := hd.one I r1
  have hu := hr.units
  have obj : ∀ a, u = .ref a → wpAny (model X.prog X.w) X.A (call (.builtin "repr") [u]) (EP X pins σ Q) X.xe s := fun a e => by
    subst e
    obtain ⟨T, idr, S⟩ := on.top hs hz a rfl
    refine call_repr_slot (by omega) (S.typeIs s fun _ _ z => z) S.slotRepr (S.call X.A.in1 _ s _ hG ?_ (fun _ _ z => z) fun h' u tk hk => ⟨_, _, rfl, ⟨.str _, H, I.kept hk, ⟨u, rfl⟩, q⟩⟩)
    show X.A.units + 1 + _ < cLine
    omega
  cases hd with
  | non =>
    cases r1
    unfold PyData.shown at q
    exact PySem.P.repr_of_none ⟨.str _, H, I.tok _, ⟨_, rfl⟩, q⟩
  | bl b =>
    cases r1
    unfold PyData.shown at q
    exact PySem.P.repr_of_bool ⟨.str _, H, I.tok _, ⟨_, rfl⟩, q⟩
  | int i =>
    obtain ⟨t, rfl⟩ := r1
    unfold PyData.shown at q
    unfold PyData.showable at hs
    exact PySem.P.repr_of_int (of_decide_eq_true hs) ⟨.str _, H, I.tok _, ⟨_, rfl⟩, q⟩
  | str x =>
    obtain ⟨t, rfl⟩ := r1
    unfold PyData.shown at q hz
    exact PySem.P.repr_of_str ⟨.str _, H, I.tok _, ⟨_, rfl⟩, q⟩ hz
  | lst _ _ => exact obj _ r1
  | tup _ _ => exact obj _ r1
  | dk _ _ => exact obj _ r1
  | dt _ _ => exact obj _ r1
/-- the same, the module's part given -/
theorem call_showK {K : PySem.W.Frag} (hG : X.A.guards = some []) {k : Nat} (hr : Room k X.A) (hK : X.K = K := by rfl) : CallR X (.builtin "repr") (rShowG K) := by
  subst hK
  exact call_showG hG hr
end
/-- what repr asks of a thing, dicts let -/
structure ShowG (d : PyData) : Prop where
  sh : d.showable = true
  dp : d.depth ≤ 30
  ln : d.shown.length ≤ sizeLine
theorem Ft.g {w k : Nat} {d : PyData} (h : Ft w k d) (hk : k ≤ 30 := by decide) (hw : w ≤ 16000 := by decide) : ShowG d := by
  have := h.showy hk hw
  exact ⟨this.sh, this.dp, this.ln⟩
/-- data that fits, dicts let -/
structure Fg (w k : Nat) (d : PyData) : Prop where
  sh : d.showable = true
  dp : d.depth ≤ k
  lv : d.leavesShort 1000 = true
  wt : d.weight ≤ w
structure FgA (w k : Nat) (ds : List PyData) : Prop where
  sh : PyData.showableAll ds = true
  dp : PyData.depthAll ds ≤ k
  lv : PyData.leavesShortAll 1000 ds = true
  wt : PyData.weightAll ds ≤ w
structure FgK (w k : Nat) (ds : List (PyData × PyData)) : Prop where
  sh : PyData.showableKv ds = true
  dp : PyData.depthKv ds ≤ k
  lv : PyData.leavesShortKv 1000 ds = true
  wt : PyData.weightKv ds ≤ w
theorem Ft.fg {w k : Nat} {d : PyData} (h : Ft w k d) : Fg w k d := ⟨h.sh, h.dp, h.lv, h.wt⟩
theorem FtA.fg {w k : Nat} {ds : List PyData} (h : FtA w k ds) : FgA w k ds := ⟨h.sh, h.dp, h.lv, h.wt⟩
theorem Fg.le {w k w' k' : Nat} {d : PyData} (h : Fg w k d) (hw : w ≤ w') (hk : k ≤ k') : Fg w' k' d := ⟨h.sh, Nat.le_trans h.dp hk, h.lv, Nat.le_trans h.wt hw⟩
theorem FgA.le {w k w' k' : Nat} {ds : List PyData} (h : FgA w k ds) (hw : w ≤ w') (hk : k ≤ k') : FgA w' k' ds := ⟨h.sh, Nat.le_trans h.dp hk, h.lv, Nat.le_trans h.wt hw⟩
theorem FgA.nil : FgA 0 0 [] := FtA.nil.fg
theorem FgA.cons {w k w' k' : Nat} {d : PyData} {ds : List PyData} (h : Fg w k d) (r : FgA w' k' ds) : FgA (w + 1 + w') (max k k') (d :: ds) := by
  refine ⟨?_, ?_, ?_, ?_⟩
  · simp only [PyData.showableAll, h.sh, r.sh, Bool.and_self]
  · simp only [PyData.depthAll]
    have := h.dp
    have := r.dp
    omega
  · simp only [PyData.leavesShortAll, h.lv, r.lv, Bool.and_self]
  · simp only [PyData.weightAll]
    have := h.wt
    have := r.wt
    omega
theorem FgA.all {w k : Nat} : ∀ {ds : List PyData}, (∀ d ∈ ds, Fg w k d) → FgA ((w + 1) * ds.length) k ds
  | [], _ => FgA.nil.le (Nat.zero_le _) (Nat.zero_le _)
  | d :: ds, h => by
    have r := FgA.cons (h d List.mem_cons_self) (FgA.all fun x hx => h x (List.mem_cons_of_mem _ hx))
    refine r.le ?_ (by omega)
    rw [List.length_cons, Nat.mul_succ]
    omega
theorem Fg.list {w k : Nat} {ds : List PyData} (r : FgA w k ds) : Fg w (k + 1) (.list ds) :=
  ⟨by simp only [PyData.showable]; exact r.sh, by simp only [PyData.depth]; exact Nat.succ_le_succ r.dp, by simp only [PyData.leavesShort]; exact r.lv, by simp only [PyData.weight]; exact r.wt⟩
theorem Fg.tuple {w k : Nat} {ds : List PyData} (r : FgA w k ds) : Fg w (k + 1) (.tuple ds) :=
  ⟨by simp only [PyData.showable]; exact r.sh, by simp only [PyData.depth]; exact Nat.succ_le_succ r.dp, by simp only [PyData.leavesShort]; exact r.lv, by simp only [PyData.weight]; exact r.wt⟩
theorem FgK.nil : FgK 0 0 [] := ⟨by simp only [PyData.showableKv], by simp only [PyData.depthKv, Nat.le_refl], by simp only [PyData.leavesShortKv], by simp only [PyData.weightKv, Nat.le_refl]⟩
theorem FgK.cons {w k w1 k1 w' k' : Nat} {d e : PyData} {ds : List (PyData × PyData)} (h : Fg w k d) (h1 : Fg w1 k1 e) (r : FgK w' k' ds) : FgK (w + w1 + 2 + w') (max (max k k1) k') ((d, e) :: ds) := by
  refine ⟨?_, ?_, ?_, ?_⟩
  · simp only [PyData.showableKv, h.sh, h1.sh, r.sh, Bool.and_self]
  · simp only [PyData.depthKv]
    have := h.dp
    have := h1.dp
    have := r.dp
    omega
  · simp only [PyData.leavesShortKv, h.lv, h1.lv, r.lv, Bool.and_self]
  · simp only [PyData.weightKv]
    have := h.wt
    have := h1.wt
    have := r.wt
    omega
theorem Fg.dict {w k : Nat} {ds : List (PyData × PyData)} (r : FgK w k ds) : Fg w (k + 1) (.dict ds) :=
  ⟨by simp only [PyData.showable]; exact r.sh, by simp only [PyData.depth]; exact Nat.succ_le_succ r.dp, by simp only [PyData.leavesShort]; exact r.lv, by simp only [PyData.weight]; exact r.wt⟩
theorem Fg.g {w k : Nat} {d : PyData} (h : Fg w k d) (hk : k ≤ 30 := by decide) (hw : w ≤ 16000 := by decide) : ShowG d := by
  refine ⟨h.sh, Nat.le_trans h.dp hk, ?_⟩
  have e := PyData.shown_le 1000 (by decide) d h.lv
  have e2 := h.wt
  have e3 : (1000 + 2) * d.weight ≤ 1002 * 16000 := Nat.mul_le_mul (Nat.le_refl _) (Nat.le_trans e2 hw)
  have e4 := sizeLine_eq
  omega
end Lf

set_option Elab.async false
set_option linter.all false
set_option maxRecDepth 100000
set_option maxHeartbeats 4000000
/-! Own classes made, and their methods called, where no guard stands (FnG). -/
namespace Lf
open PySem PySem.Spec PyProof.Rows L2
theorem make_guards {A : Around} (h : A.guards = some []) (C : Addr) (us : List Value) (kw : List (Str × Value)) : (A.under (.builtin "type.__call__" ⟨.ref C :: us, kw⟩)).guards = some [] := by
  show pushGuards (Code.guards (.builtin "type.__call__" ⟨.ref C :: us, kw⟩)) A.guards = some []
  rw [h]
  rfl
section
variable {X : Cx} {CX : CXT} {k n : Nat} {f C : Addr} {fd : FuncData} {ps ks : List Str} {sp : Sp} {x m : Str} {p pos apos : Pos} {e o : Expr} {es : List Expr} {kws : List Keyword} {ta : TE} {t tk : TA} {g : List Value → List Value → List Value} {gV : List V → List V → List V}
/-- an __init__ runs on a new object -/
theorem run_mkG {pins : List (Addr × Obj)} {σ : L2.St} {H : Hp} {s : Shared} {Q : VK} {us ws : List Value} {vs zs : List V} {E : XK} (M : Mk X.K C f) (F : FnG X.prog X.w X.K X.mg X.base CX k f fd ps sp) (hr : Room (k + 1) X.A) (hG : X.A.guards = some []) (hb : KBn X.K fd ps (n + 1) ks g gV)
    (hx : PassesAt CX X σ E) (I : Inv X pins σ H s) (r : Vals vs us) (rz : Vals zs ws) (l1 : vs.length = n) (l2 : zs.length = ks.length)
    (h : ∀ x dx, H x = none → H dx = none → dx ≠ x → sp (gV (.ref x :: vs) zs) (upd (upd H dx (.own x)) x (.ins C dx [])) (fun v H2 => v = .non ∧ Q (.ref x) H2) E) :
    wpAny (model X.prog X.w) X.A (call (.ref C) us (ks.zip ws)) (EP X pins σ Q) X.xe s := by
  have hq := h (s.heap.objs.size + 1) s.heap.objs.size (I.hok.fresh (Nat.le_succ _)) (I.hok.fresh (Nat.le_refl _)) (Nat.ne_of_lt (Nat.lt_succ_self _))
  have I2 := Inv.made (C := C) I
  have r1 : Vals (V.ref (s.heap.objs.size + 1) :: vs) (Value.ref (s.heap.objs.size + 1) :: us) := .cons rfl r
  have r2 := hb.rel r1 rz
  have lu : (Value.ref (s.heap.objs.size + 1) :: us).length = n + 1 := by
    rw [List.length_cons, ← Paired.length r, l1]
  have lw : ws.length = ks.length := by rw [← Paired.length rz, l2]
  refine wpAny_call (make_map (f := f) I.kIn M.makes M.init (beq_iff_eq.mp M.fn) (codeAny_mono (F.goes _ X.stack _ _ ⟨Value.ref (s.heap.objs.size + 1) :: us, ks.zip ws⟩ _ _ _ E (hr.make C us (ks.zip ws)) (make_guards hG C us (ks.zip ws))
    (I2.env0.make C us (ks.zip ws)) (hb.to _ _ _ I2.kIn lu lw) r2 hq) fun r s' hq' => ?_))
  cases r with
  | error e => exact hx pins _ _ e s' I2 hq'
  | ok fl =>
    cases fl with
    | ret u =>
      obtain ⟨v, H', I3, rv, ev, q3⟩ := I2.after hq'
      subst ev
      exact ⟨rv, ⟨V.ref (s.heap.objs.size + 1), H', I3, rfl, q3⟩⟩
    | next => exact False.elim hq'
    | brk => exact False.elim hq'
    | cont => exact False.elim hq'
/-- C(e, ..), C(e, .., k = v, ..) -/
def tMkG (C : Addr) (n m : Nat) (sp : Sp) (gV : List V → List V → List V) (E : L2.St → XK) (t tk : TA) : TE := fun σ H Q => t σ H fun vs H1 => tk σ H1 fun zs H2 => vs.length = n ∧ zs.length = m ∧ ∀ x dx, H2 x = none → H2 dx = none → dx ≠ x →
  sp (gV (.ref x :: vs) zs) (upd (upd H2 dx (.own x)) x (.ins C dx [])) (fun v H3 => v = .non ∧ Q (.ref x) H3) (E σ)
/-- the class of the module's name x can be made; sp: its __init__ -/
structure MakG (P : Program) (w : World) (K : PySem.W.Frag) (mg : Str → Option Value) (base : Heap) (CX : CXT) (k : Nat) (x : Str) (C f : Addr) (fd : FuncData) (ps : List Str) (sp : Sp) : Prop where
  mks : Mk K C f
  fn : FnG P w K mg base CX k f fd ps sp
  g : mg x = some (.ref C)
theorem pe_mkG {E : L2.St → XK} (M : MakG X.prog X.w X.K X.mg X.base CX k x C f fd ps sp) (hb : KBn X.K fd ps (n + 1) [] g gV) (hr : Room (k + 1) X.A) (hG : X.A.guards = some []) (hx : ∀ σ, PassesAt CX X σ (E σ))
    (ha : PA X (e :: es) t) (hg : Gl X x := by rfl) (hdb : (x == ("__debug__" : Str)) = false := by decide) (he : starEach (e :: es) X.env = (false, eval e X.env) :: starEach es X.env := by rfl) (hpl : (backTo pos (starEach es X.env)).any (·.1) = false := by rfl) :
    PE X (.Call (.Name x p) (e :: es) [] pos) (tMkG C n 0 sp gV E t tNil) := by
  refine ⟨fun pins s σ H Q I h => ?_⟩
  refine wpAny_Call_Name_kw (ld_glob I hg M.g ?_ hdb)
  refine PySem.W.callWith_K (h₀ := X.base) I.ok.mod.kin M.mks.kp (thn (ha.run pos pins s σ H _ I h) fun us s1 ⟨vs, H1, I1, r, l1, l2, q⟩ => ⟨I1.kIn, ?_⟩) he hpl
  exact run_mkG (ws := []) (zs := []) M.mks M.fn hr hG hb (hx σ) I1 r .nil l1 l2 q
theorem pe_mkGK {E : L2.St → XK} (M : MakG X.prog X.w X.K X.mg X.base CX k x C f fd ps sp) (hb : KBn X.K fd ps (n + 1) ks g gV) (hr : Room (k + 1) X.A) (hG : X.A.guards = some []) (hx : ∀ σ, PassesAt CX X σ (E σ))
    (ha : PA X (e :: es) t) (hkw : PK X kws tk) (hks : (backToKw pos (keywordEach kws X.env)).filterMap (·.1) = ks := by rfl) (hg : Gl X x := by rfl) (hall : (backToKw pos (keywordEach kws X.env)).all (·.1.isSome) = true := by rfl)
    (hdb : (x == ("__debug__" : Str)) = false := by decide) (he : starEach (e :: es) X.env = (false, eval e X.env) :: starEach es X.env := by rfl)
    (hpl : ((backTo pos (starEach (e :: es) X.env)).any (·.1) || (backToKw pos (keywordEach kws X.env)).any (·.1.isNone)) = false := by rfl) :
    PE X (.Call (.Name x p) (e :: es) kws pos) (tMkG C n ks.length sp gV E t tk) := by
  refine ⟨fun pins s σ H Q I h => ?_⟩
  refine wpAny_Call_Name_kw (ld_glob I hg M.g ?_ hdb)
  refine PySem.W.callWith_KW (h₀ := X.base) I.ok.mod.kin M.mks.kp hall (thn (ha.run pos pins s σ H _ I h) fun us s1 ⟨vs, H1, I1, r, q⟩ => ?_) hpl he
  refine thn (hkw.run pos pins s1 σ H1 _ I1 q) fun ws s2 ⟨zs, H2, I2, rz, l1, l2, q2⟩ => ⟨I2.kIn, ?_⟩
  rw [hks]
  exact run_mkG M.mks M.fn hr hG hb (hx σ) I2 r rz l1 l2 q2
theorem pe_mkGN {E : L2.St → XK} (M : MakG X.prog X.w X.K X.mg X.base CX k x C f fd ps sp) (hb : KBn X.K fd ps (0 + 1) ks g gV) (hr : Room (k + 1) X.A) (hG : X.A.guards = some []) (hx : ∀ σ, PassesAt CX X σ (E σ))
    (hkw : PK X kws tk) (hks : (backToKw pos (keywordEach kws X.env)).filterMap (·.1) = ks := by rfl) (hg : Gl X x := by rfl) (hall : (backToKw pos (keywordEach kws X.env)).all (·.1.isSome) = true := by rfl)
    (hdb : (x == ("__debug__" : Str)) = false := by decide)
    (hpl : ((backTo pos (starEach [] X.env)).any (·.1) || (backToKw pos (keywordEach kws X.env)).any (·.1.isNone)) = false := by rfl) :
    PE X (.Call (.Name x p) [] kws pos) (tMkG C 0 ks.length sp gV E tNil tk) := by
  refine ⟨fun pins s σ H Q I h => ?_⟩
  refine wpAny_Call_Name_kw (ld_glob I hg M.g ?_ hdb)
  refine PySem.W.callWith_KW0 (h₀ := X.base) I.ok.mod.kin M.mks.kp hall (thn (hkw.run pos pins s σ H _ I h) fun ws s2 ⟨zs, H2, I2, rz, l1, l2, q2⟩ => ⟨I2.kIn, ?_⟩) hpl
  rw [hks]
  exact run_mkG (us := []) (vs := []) M.mks M.fn hr hG hb (hx σ) I2 .nil rz l1 l2 q2
/-- o.m(e, ..) where no guard stands -/
def tMeG (C : Addr) (m : Str) (sp : Sp) (E : L2.St → XK) (ta : TE) (t : TA) : TE := fun σ H Q => ta σ H fun x H1 => ∃ a dx fs, x = .ref a ∧ H1 a = some (.ins C dx fs) ∧ fs.lookup m = none ∧ t σ H1 fun vs H2 => sp (.ref a :: vs) H2 Q (E σ)
structure MetG (P : Program) (w : World) (K : PySem.W.Frag) (mg : Str → Option Value) (base : Heap) (CX : CXT) (k : Nat) (C : Addr) (m : Str) (f : Addr) (fd : FuncData) (ps : List Str) (sp : Sp) : Prop where
  c : Cls K C
  m : Meth K C m f
  fn : FnG P w K mg base CX k f fd ps sp
  b : ∀ (s : Shared) (us : List Value), us.length = ps.length → BindsTo s fd ⟨us, []⟩ (ps.zip us)
theorem pe_meG {pl : Sem Bool} {E : L2.St → XK} (he : PE X o ta) (M : MetG X.prog X.w X.K X.mg X.base CX k C m f fd ps sp) (hr : Room k X.A) (hG : X.A.guards = some []) (hx : ∀ σ, PassesAt CX X σ (E σ)) (ha : PA X (e :: es) t)
    (hst : starEach (e :: es) X.env = (false, eval e X.env) :: starEach es X.env := by rfl) (hpl : (backTo pos (starEach es X.env)).any (·.1) = false := by rfl)
    (ht : eval (.Call (.Attribute o m apos) (e :: es) [] pos) X.env = (do
      let ov ← eval o X.env
      standAt apos.atName
      let (f, first) ← holding [ov] (getMethod ov m pl)
      callWith pos f first (backTo pos (starEach (e :: es) X.env)) (backToKw pos (keywordEach [] X.env))) := by rfl) :
    PE X (.Call (.Attribute o m apos) (e :: es) [] pos) (tMeG C m sp E ta t) := by
  refine ⟨fun pins s σ H Q I h => ?_⟩
  refine PySem.W.methodCall_KW (pl := pl) (thn (he.run pins s σ H _ I h) fun u s1 ⟨x, H1, I1, rx, a, dx, fs, ex, ea, l, q⟩ => ?_) ht
  subst ex
  obtain rfl : u = Value.ref a := rx
  refine getmeth_ok I1 ea M.c M.m l ?_
  refine PySem.W.callWith_K (first := [.ref a]) (h₀ := X.base) I.ok.mod.kin M.m.kp (thn (ha.run pos pins s1 σ H1 _ I1 q) fun us s2 ⟨vs, H2, I2, r, q2⟩ => ⟨I2.kIn, ?_⟩) hst hpl
  have r' : Vals (V.ref a :: vs) (Value.ref a :: us) := .cons rfl r
  exact run_g (ar := ⟨.ref a :: us, []⟩) M.fn hr hG (hx σ) I2 (M.b s2 _ ((Paired.length r').symm.trans (M.fn.size _ _ _ _ q2))) r' q2
theorem pe_meG0 {pl : Sem Bool} {E : L2.St → XK} (he : PE X o ta) (M : MetG X.prog X.w X.K X.mg X.base CX k C m f fd ps sp) (hr : Room k X.A) (hG : X.A.guards = some []) (hx : ∀ σ, PassesAt CX X σ (E σ))
    (ht : eval (.Call (.Attribute o m apos) [] [] pos) X.env = (do
      let ov ← eval o X.env
      standAt apos.atName
      let (f, first) ← holding [ov] (getMethod ov m pl)
      callWith pos f first (backTo pos (starEach [] X.env)) (backToKw pos (keywordEach [] X.env))) := by rfl) :
    PE X (.Call (.Attribute o m apos) [] [] pos) (tMeG C m sp E ta tNil) := by
  refine ⟨fun pins s σ H Q I h => ?_⟩
  refine PySem.W.methodCall_KW (pl := pl) (thn (he.run pins s σ H _ I h) fun u s1 ⟨x, H1, I1, rx, a, dx, fs, ex, ea, l, q⟩ => ?_) ht
  subst ex
  obtain rfl : u = Value.ref a := rx
  refine getmeth_ok I1 ea M.c M.m l ?_
  have r' : Vals [V.ref a] [Value.ref a] := .cons rfl .nil
  exact PySem.W.callWith_K0 (first := [.ref a]) I1.kIn M.m.kp (run_g (ar := ⟨[.ref a], []⟩) M.fn hr hG (hx σ) I1 (M.b s1 _ ((Paired.length r').symm.trans (M.fn.size _ _ _ _ q))) r' q)
end
section
variable {P : Program} {w : World} {K : PySem.W.Frag} {mg : Str → Option Value} {base : Heap} {CX : CXT} {k : Nat} {f : Addr} {fd : FuncData} {ps : List Str} {sp : Sp} {x qual : Str} {st : Stmt} {N : List Str} {dvs : List V} {kws : List (Str × V)}
/-- a def with defaults, by its body -/
theorem GfunDX (F : FunD K x qual (defArgs st) (defBody st) (defScope st) dvs kws f fd) (S : FnScope N ps (defScope st)) (size : ∀ vs H Q E, sp vs H Q E → vs.length = ps.length)
    (body : ∀ (cdv : Value) (B : Around) (out : List Env) (s : Shared) (H : Hp) (vs : List V) (Q : VK) (E : XK), B.guards = some [] →
      Room k (B.deeper (envOfC qual (defScope st) s.heap.objs.size f cdv)) → sp vs H Q E →
      ∃ t, PSs (cxOf CX P w K mg base N qual (defScope st) f cdv B out s H E) (defBody st) t ∧
        t { nx := fun _ H' => Q .non H', rt := Q } (start N vs) H) : FnG P w K mg base CX (k + 1) f fd ps sp := by
  obtain ⟨oc, od, dV, kV, doc, pm, an, cdv, ct, osl, rfl, lk, hcd, _, _⟩ := F.ex
  refine ⟨size, fun B out s H ar us vs Q E hr hg e0 hb r hs => ?_⟩
  have old : ∀ b o, base.get? b = some o → s.heap.get? b = some o := fun b o e => (e0.bs b o e).1
  have kin : K.In s.heap := e0.mod.kin.keeps old
  refine codeAny_call_function hr.depth (kin _ _ lk) rfl S.co S.gen rfl (PySem.W.codeRec_of kin hcd) (hb _ _ _ _ ?_)
  refine wpAny_newFunctionEnv_cells S.kind (fun ⟨n, v⟩ hy => ?_) fun env he s1 x => ?_
  · rcases S.par n (List.of_mem_zip hy).1 with q | q
    · exact Or.inl q
    · exact Or.inr ⟨q, PySem.W.cellsFrom_some _ _ _ (Or.inl q)⟩
  · subst he
    refine ⟨(e0.mod.nolimit.keeps old).keeps x.toInCall.keep, codeAny_func ?_⟩
    obtain ⟨t, ht, hq⟩ := body cdv B out s H vs Q E hg (hr.deeper _) hs
    have I := inv_start (CX := CX) (N := N) (qual := qual) (cd := cdv) (E := E) S hr.hd e0 (size _ _ _ _ hs) r x
    refine wpAny_mono (ht.run [] s1 (start N vs) H _ I hq) (fun fl s' hs' => ?_) fun e s' z => z
    cases fl with
    | ret u =>
      obtain ⟨v, σ', H', J, rv, q⟩ := hs'
      exact ⟨v, H', J.os, J.bare, J.base, J.hok, rv, q⟩
    | next =>
      obtain ⟨σ', H', J, q⟩ := hs'
      exact ⟨V.non, H', J.os, J.bare, J.base, J.hok, rfl, q⟩
    | brk =>
      obtain ⟨_, _, _, q⟩ := hs'
      exact q.elim
    | cont =>
      obtain ⟨_, _, _, q⟩ := hs'
      exact q.elim
end
end Lf

set_option Elab.async false
set_option linter.all false
set_option maxRecDepth 100000
set_option maxHeartbeats 4000000
/-! set(texts) of any number of texts, and how many there are. -/
namespace Lf
open PySem PySem.Spec PyProof.Rows
/-- a set of texts: just those of T, and T has each once -/
def TxtSet (prog : Program) (w : World) (h : Heap) (a : Addr) (T : List Str) : Prop := h.SetOf (PySem.strKind prog w) a (fun x => decide (x ∈ T)) T.length
/-- one more text -/
def into (T : List Str) (k : Str) : List Str := if k ∈ T then T else k :: T
theorem into_len (T : List Str) (k : Str) : (into T k).length ≤ T.length + 1 := by
  unfold into
  split
  · omega
  · simp
section
variable {prog : Program} {w : World} {A : Around} {E : Value → Shared → Prop} {R : Result → Shared → Prop} {s : Shared} {a : Addr} {T : List Str} {k : Str} {t : Tok}
theorem TxtSet.keep {h h' : Heap} (X : TxtSet prog w h a T) (e : ∀ o, h.get? a = some o → h'.get? a = some o) : TxtSet prog w h' a T := by
  obtain ⟨o, es, ep, tb, ho, r⟩ := X
  exact ⟨o, es, ep, tb, e o ho, r⟩
theorem put_txt {Q : Bool → Shared → Prop} (X : TxtSet prog w s.heap a T) (room : T.length + 1 < scanBound) (h : ∀ (b : Bool) (h' : Heap) (n : Nat), s.toks ≤ n → Heap.SameBut a s.heap h' → TxtSet prog w h' a (into T k) → Q b { s with heap := h', toks := n }) :
    wpAny (model prog w) A (setAdd a (.str k t)) Q E s := by
  have is : (PySem.strKind prog w).is k (.str k t) = true := by show Value.isStrOf k (.str k t) = true; simp [Value.isStrOf]
  unfold setAdd
  refine wpAny_holding (wpAny_bind ((PySem.strKind prog w).pyHash (k := k) is ?_))
  refine wpAny_setAddHashed_of (knd := PySem.strKind prog w) is rfl (S := fun x => decide (x ∈ T)) (n := T.length) X room fun h' sb X' => ?_
  refine h _ h' _ (by first | exact Nat.le_succ _ | exact Nat.le_refl _) sb ?_
  unfold TxtSet into
  by_cases hk : k ∈ T
  · rw [if_pos hk]
    refine SetOf_congr X' (fun x => ?_) (by simp [hk])
    by_cases hx : x ∈ T
    · simp [hx]
    · have : ¬ x = k := fun e => hx (e ▸ hk)
      simp [hx, this]
  · rw [if_neg hk]
    refine SetOf_congr X' (fun x => ?_) (by simp [hk])
    by_cases hx : x ∈ T
    · simp [hx]
    · simp [hx]
variable {I : Addr} {fp wr : List Addr} {G : Array GenState → Array GenState → Prop} {n : Nat} {P : Nat → Value → Prop} {St : Nat → Shared → Prop}
/-- all that is left to walk goes in -/
theorem fill_txt (W : WalksS prog w A.in1 I fp wr G n P St) (hf : a ∉ fp) (val : Nat → Str) (hv : ∀ i v, P i v → ∃ t, v = .str (val i) t) (hb : n + 1 < scanBound) : ∀ (m i : Nat) (T : List Str) (s : Shared), i + m = n → T.length ≤ i → St i s → TxtSet prog w s.heap a T →
    (∀ s', Moved (a :: wr) G s s' → TxtSet prog w s'.heap a ((List.range' i m).foldl (fun T j => into T (val j)) T) → R (.ok (.ret .none)) s') → codeAny (model prog w) A (.builtin "set.update.loop" ⟨[.ref a, .ref I], []⟩) R s := by
  have hw : a ∉ wr := fun z => hf (W.sub _ z)
  have more : ∀ b ∈ wr, b ∈ a :: wr := fun b z => List.mem_cons_of_mem _ z
  intro m
  induction m with
  | zero =>
    intro i T s e hl st X fin
    have ei : i = n := by omega
    subst ei
    apply codeAny_builtin PyProof.Rows.F.entry_set_update_loop
    rw [Around.under_plainId PyProof.Rows.F.plain_set_update_loop _]
    change wpAny _ A.in1 (pyNext (.ref I) >>= _) _ _ s
    exact wpAny_bind (W.done s _ _ st fun s' mv => wpAny_pure (fin s' (mv.mono more) (X.keep fun o ho => mv.heap a o hw ho)))
  | succ m ih =>
    intro i T s e hl st X fin
    apply codeAny_builtin PyProof.Rows.F.entry_set_update_loop
    rw [Around.under_plainId PyProof.Rows.F.plain_set_update_loop _]
    change wpAny _ A.in1 (pyNext (.ref I) >>= _) _ _ s
    apply wpAny_bind
    apply W.item i s _ _ (by omega) st
    intro v s1 hp st1 mv
    obtain ⟨t, rfl⟩ := hv i v hp
    change wpAny _ A.in1 (holding [Value.str (val i) t] (setAdd a (.str (val i) t)) >>= _) _ _ s1
    apply wpAny_bind
    apply wpAny_holding
    apply put_txt (X.keep fun o ho => mv.heap a o hw ho) (by omega)
    intro b h2 tk htk sb X2
    apply wpAny_pure
    refine ⟨plainId_quiet PyProof.Rows.F.plain_set_update_loop _, ih (i + 1) (into T (val i)) _ (by omega) (by have := into_len T (val i); omega) ?_ X2 ?_⟩
    · refine W.frame _ s1 _ _ st1 htk fun c hc o eo => ?_
      rw [sb.2 c (fun z => hf (z ▸ hc))]
      exact eo
    · intro s3 mv3 X3
      refine fin s3 (Moved.trans W.gtrans ((mv.mono more).then_heap htk fun c o hc eo => ?_) mv3) X3
      rw [sb.2 c (fun z => hc (z ▸ List.mem_cons_self))]
      exact eo
end
end Lf

set_option Elab.async false
set_option linter.all false
set_option maxRecDepth 100000
set_option maxHeartbeats 4000000
namespace Lf
open PySem PySem.Spec PyProof.Rows
/-- a new set, nothing in it -/
def emptySet (led : Bool) : Obj := { cls := .type "set", dict := none, data := .set #[] 0 (.fresh 0 0 led) }
/-- what n texts leave -/
def gone (val : Nat → Str) (n : Nat) : List Str := (List.range' 0 n).foldl (fun T j => into T (val j)) []
section
variable {prog : Program} {w : World} {A : Around} {E : Value → Shared → Prop} {s : Shared} {S l : Addr} {items : Array Value}
/-- set.__init__ of an empty set and a list of texts -/
theorem init_txt {Q : Value → Shared → Prop} {val : Nat → Str} {led : Bool} (hh : A.handled = none) (hS : s.heap.get? S = some (emptySet led)) (hl : s.heap.IsList l items) (ne : S ≠ l) (hv : ∀ i v, items[i]? = some v → ∃ t, v = Value.str (val i) t) (hb : items.size + 1 < scanBound)
    (h : ∀ h' tk, TxtSet prog w h' S (gone val items.size) → (∀ b o, b ≠ S → s.heap.get? b = some o → h'.get? b = some o) → Q .none { s with heap := h', toks := tk }) :
    codeAny (model prog w) A (.call (.builtin "set.__init__") ⟨[.ref S, .ref l], []⟩) (wants Q E) s := by
  have hT : s.TypeIs (.ref S) "set" := ⟨_, hS, rfl⟩
  have lS := Heap.lt_size hS
  apply codeAny_call_builtin PySem.F.called_set.init.plain PySem.F.entry_set_init
  apply check_set_init_1 hT
  obtain ⟨ol, hol, hcl, nl, hdl⟩ := id hl
  have ll := Heap.lt_size hol
  have tl : s.TypeIs (.ref l) "list" := ⟨ol, hol, hcl⟩
  have f1 := PySem.F.sub_list_set
  have f2 := PySem.F.sub_list_frozenset
  have f3 : (Value.type "list" == Value.type "dict") = false := by decide
  unfold Builtin.«set.__init__» noKeywords Builtin.Frozenset.updateFrom
  generalize hPI : pyIter = PI
  wp_walk
  subst hPI
  apply wpAny_pyIter_list hl
  apply wpAny_bind
  apply wpAny_runValue
  have hi : A.in1.in1.handled = none := by simp [hh]
  have nI : l ≠ s.heap.objs.size := Nat.ne_of_lt ll
  have off : S ∉ [s.heap.objs.size, l] := by
    simp only [List.mem_cons, List.not_mem_nil, or_false, not_or]
    exact ⟨Nat.ne_of_lt lS, ne⟩
  have X0 : TxtSet prog w (s.heap.push { cls := .type "list_iterator", data := .fields #[.ref l, .int 0 0] }) S [] := SetOf_congr ((setObjOf_fresh (knd := PySem.strKind prog w) led).setOf (Heap.get?_push_of_some _ hS) (by unfold scanBound; omega)) (fun _ => by simp) rfl
  refine fill_txt ((Walks.list hi _ l nI items).toS) off val hv hb items.size 0 [] _ (Nat.zero_add _) (Nat.le_refl _) ⟨⟨_, Heap.get?_push_size _ rfl, rfl, rfl⟩, hl.push _⟩ X0 fun s2 mv X2 => ?_
  have e2 : s2 = { s with heap := s2.heap, toks := s2.toks } := by
    have g := mv.gens
    have d := mv.drawn
    have o := mv.os
    cases s2
    cases g
    cases d
    cases o
    rfl
  change wpAny _ _ (pure ()) _ _ s2
  apply wpAny_pure
  change wpAny _ _ (ret Value.none) _ _ s2
  apply wpAny_pure
  change Q Value.none s2
  rw [e2]
  refine h s2.heap s2.toks X2 fun b o nb eb => ?_
  refine mv.heap b o ?_ (Heap.get?_push_of_some _ eb)
  simp only [List.mem_cons, List.not_mem_nil, or_false, not_or]
  exact ⟨nb, Nat.ne_of_lt (Heap.lt_size eb)⟩
/-- set(l) -/
theorem set_txt {Q : Value → Shared → Prop} {val : Nat → Str} (hh : A.handled = none) (hl : s.heap.IsList l items) (hv : ∀ i v, items[i]? = some v → ∃ t, v = Value.str (val i) t) (hb : items.size + 1 < scanBound)
    (h : ∀ h' tk, TxtSet prog w h' s.heap.objs.size (gone val items.size) → (∀ b o, s.heap.get? b = some o → h'.get? b = some o) → Q (.ref s.heap.objs.size) { s with heap := h', toks := tk }) : wpAny (model prog w) A (call (.type "set") [.ref l]) Q E s := by
  obtain ⟨c, tl, hmro⟩ := PySem.F.called_set.mro
  have k1 := PySem.F.called_set.made
  have k2 := PySem.F.called_set.sub
  have k3 := PySem.F.called_set.notType
  have k4 := PySem.F.called_set.canCreate
  have k5 := PySem.F.typeCall_set_1 (.ref l)
  have k6 := PySem.F.called_set.init.lookup
  apply wpAny_call
  apply codeAny_of_tree
  change wpAny _ _ (callAny (.type "set") _) _ _ _
  apply wpAny_pure
  refine ⟨Code.quiet_builtin _ (by decide +kernel), codeAny_builtin PySem.F.entry_type_call ?_⟩
  rw [Around.under_plain (weight_type_call_type "set" [.ref l] []) rfl]
  repeat (any_goals (first | assumption | wp_step))
  refine codeAny_mono (code_set_new_1 (.ref l) (E := E) (Q₁ := fun v s1 => ∃ led, v = .ref s.heap.objs.size ∧ s1 = { s with heap := s.heap.push (emptySet led) }) fun led => ⟨led, rfl, rfl⟩) ?_
  intro r s1 hr
  match r, hr with
  | .error e, hr => exact hr
  | .ok (.ret v), hr =>
    obtain ⟨led, rfl, rfl⟩ := hr
    have new : (s.heap.push (emptySet led)).get? s.heap.objs.size = some (emptySet led) := Heap.get?_push_size _ rfl
    have hT : Shared.TypeIs { s with heap := s.heap.push (emptySet led) } (.ref s.heap.objs.size) "set" := ⟨_, new, rfl⟩
    have k7 := PySem.F.called_set.init.bind (.ref s.heap.objs.size)
    have ll : l < s.heap.objs.size := by
      obtain ⟨ol, hol, _⟩ := id hl
      exact Heap.lt_size hol
    have run := init_txt (prog := prog) (w := w) (A := A.in1) (E := E) (s := { s with heap := s.heap.push (emptySet led) }) (Q := fun v s2 => v = .none ∧ Q (.ref s.heap.objs.size) s2) (by simp [hh]) new (hl.push _) (Nat.ne_of_gt ll) hv hb
      fun h' tk X' keep => ⟨rfl, h h' tk X' fun b o e => keep b o (Nat.ne_of_lt (Heap.lt_size e)) (Heap.get?_push_of_some _ e)⟩
    repeat (any_goals (first | assumption | wp_step))
    refine codeAny_mono run ?_
    intro r2 s2 hr2
    match r2, hr2 with
    | .error e, hr2 => exact hr2
    | .ok (.ret v2), hr2 =>
      obtain ⟨rfl, q⟩ := hr2
      repeat (any_goals (first | assumption | wp_step))
end
end Lf

set_option Elab.async false
set_option linter.all false
set_option maxRecDepth 100000
set_option maxHeartbeats 4000000
/-! len(set(texts)) -/
namespace Lf
open PySem PySem.Spec PyProof.Rows L2
/-- each text once -/
def once (xs : List Str) : List Str := xs.foldl into []
theorem once_go : ∀ (xs T : List Str), xs.Nodup → (∀ x ∈ xs, x ∉ T) → (xs.foldl into T).length = T.length + xs.length
  | [], T, _, _ => rfl
  | x :: xs, T, nd, h => by
    rw [List.foldl_cons, show into T x = x :: T from if_neg (h x List.mem_cons_self), once_go xs (x :: T) (List.nodup_cons.mp nd).2 fun y hy => ?_, List.length_cons, List.length_cons]
    · omega
    · rw [List.mem_cons, not_or]
      exact ⟨fun e => (List.nodup_cons.mp nd).1 (e ▸ hy), h y (List.mem_cons_of_mem _ hy)⟩
theorem once_all {xs : List Str} (nd : xs.Nodup) : (once xs).length = xs.length := by
  have := once_go xs [] nd fun _ _ z => nomatch z
  rw [List.length_nil, Nat.zero_add] at this
  exact this
theorem gone_once (xs : List Str) : gone (fun i => xs.getD i Str.empty) xs.length = once xs := by
  have e : (List.range' 0 xs.length).map (fun i => xs.getD i Str.empty) = xs := by
    apply List.ext_getElem
    · simp
    · intro i h1 h2
      rw [List.getElem_map, List.getElem_range', List.getD_eq_getElem?_getD]
      simp at h1
      simp [h1]
  unfold gone once
  conv => rhs; rw [← e]
  rw [List.foldl_map]
def tLenTxt (K : PySem.W.Frag) (ta : TE) : TE := fun σ H Q => ta σ H fun x H1 => ∃ (l : Addr) (xs : List Str), x = .ref l ∧ SqL K H1 l (xs.map V.str) ∧ xs.length ≤ 1000 ∧ Q (.int ((once xs).length : Nat)) H1
theorem once_le : ∀ (xs T : List Str), (xs.foldl into T).length ≤ T.length + xs.length
  | [], T => Nat.le_refl _
  | x :: xs, T => by
    have h1 := once_le xs (into T x)
    have h2 := into_len T x
    rw [List.foldl_cons, List.length_cons]
    omega
theorem strs_at : ∀ {xs : List Str} {us : List Value}, Vals (xs.map V.str) us → ∀ (i : Nat) (v : Value), us[i]? = some v → ∃ t, v = Value.str (xs.getD i Str.empty) t
  | [], _, .nil, i, v, h => by simp at h
  | x :: xs, _, .cons r t, 0, v, h => by
    obtain ⟨k, rfl⟩ := r
    simp at h
    exact ⟨k, h.symm⟩
  | x :: xs, _, .cons r t, i + 1, v, h => by
    obtain ⟨k, e⟩ := strs_at t i v (by simpa using h)
    exact ⟨k, by simpa using e⟩
theorem pe_lenTxt {X : Cx} {a : Expr} {ta : TE} {p p2 q pos : Pos} (hm : X.mg "len" = none) (hm2 : X.mg "set" = none) (ha : PE X a ta) (hg : Gl X "len" := by rfl) (hg2 : Gl X "set" := by rfl) (hc : X.calm = true := by rfl) (na : starEach [a] X.env = (false, eval a X.env) :: starEach [] X.env := by rfl) :
    PE X (.Call (.Name "len" p) [.Call (.Name "set" p2) [a] [] q] [] pos) (tLenTxt X.K ta) := by
  constructor
  intro pins s σ H Q I h
  refine Call_ ?_
  apply ld_blt I hg hm boot_len
  apply callWith_builtin1 _ rfl rfl
  apply args_cons _ rfl
  refine Call_ ?_
  apply ld_blt I hg2 hm2 boot_set
  apply callWith_type1 _ na rfl
  apply args_cons _ na
  apply thn (ha.run pins s σ H _ I h)
  rintro v s1 ⟨x, H1, I1, r1, l, xs, rfl, hq, hl, q1⟩
  cases (show v = Value.ref l from r1)
  apply args_nil
  obtain ⟨its, r, pl, hz⟩ := I1.list hq
  have hn : its.toArray.size = xs.length := by
    have := r.length
    rw [List.length_map] at this
    simp [this]
  refine set_txt (val := fun i => xs.getD i Str.empty) (I1.ok.hd hc) pl.isList (fun i v hv => strs_at r i v (by simpa using hv)) (by rw [hn]; unfold scanBound; omega) ?_
  intro h' tk X' keep
  rw [hn, gone_once] at X'
  apply args_nil
  obtain ⟨o, es, ep, t, ho, hex, hd, _, _, _, hf, he⟩ := X'
  have I2 : Inv X pins σ H1 { s1 with heap := h', toks := tk } := I1.kept keep
  have ob := once_le xs []
  rw [List.length_nil, Nat.zero_add] at ob
  have ob' : (once xs).length ≤ xs.length := ob
  exact call_len_set ho hex hd hf (by rw [he]; omega) ⟨.int ((once xs).length : Nat), H1, I2.tok _, ⟨_, by rw [he]⟩, q1⟩
end Lf

set_option Elab.async false
set_option linter.all false
set_option maxRecDepth 100000
set_option maxHeartbeats 4000000
/-! Promises of the __init__ of own exceptions. -/
namespace Lf
open PySem PySem.Spec PyProof.Rows L2
/-- one field, of anything -/
def sp_x1 (D : Addr) (f : Str) : Sp := fun vs H Q _ => ∃ (a : Addr) (v : V), vs = [.ref a, v] ∧ H a = some (exo a D none) ∧ ∀ dx, H dx = none → dx ≠ a → Q .non (upd (upd H dx (exd dx [(f, v)])) a (exo a D (some dx)))
/-- one field, a text -/
def sp_xt (D : Addr) (f : Str) : Sp := fun vs H Q _ => ∃ (a : Addr) (x : Str), vs = [.ref a, .str x] ∧ x.length ≤ 1000 ∧ H a = some (exo a D none) ∧ ∀ dx, H dx = none → dx ≠ a → Q .non (upd (upd H dx (exd dx [(f, .str x)])) a (exo a D (some dx)))
/-- two fields -/
def sp_x2 (D : Addr) (f g : Str) : Sp := fun vs H Q _ => ∃ (a : Addr) (v u : V), vs = [.ref a, v, u] ∧ H a = some (exo a D none) ∧ ∀ dx, H dx = none → dx ≠ a → Q .non (upd (upd (upd H dx (exd dx [(f, v)])) a (exo a D (some dx))) dx (exd dx [(f, v), (g, u)]))
/-- what a raise of an exception with fields leads to: the error's dict d is new and holds the fields -/
theorem raised {H : Hp} {a dx D : Addr} {fs : List (Str × V)} (ha : H a = none) (e1 : upd H a (exo a D none) dx = none) (e2 : dx ≠ a) {o1 o2 o3 : HO} : Same H (upd (del (upd (upd (upd H a o1) dx o2) a o3) a) dx (.xd fs)) ∧ H dx = none := by
  rw [upd_ne e2] at e1
  refine ⟨fun b o e => ?_, e1⟩
  have nb1 : b ≠ a := ne_of_none e ha
  have nb2 : b ≠ dx := ne_of_none e e1
  rw [upd_ne nb2, del_ne nb1, upd_ne nb1, upd_ne nb2, upd_ne nb1]
  exact e
end Lf

set_option Elab.async false
set_option linter.all false
set_option maxRecDepth 100000
/-! A call of a def that an expression tells; a promise without exceptions, where exceptions may be. -/
namespace Lf
open PySem PySem.Spec PyProof.Rows L2
section
variable {P : Program} {w : World} {K : PySem.W.Frag} {mg : Str → Option Value} {base : Heap} {CX : CXT} {k : Nat} {f : Addr} {fd : FuncData} {ps : List Str} {sp : Sp} {x : Str}
/-- the def at f -/
structure CalF (P : Program) (w : World) (K : PySem.W.Frag) (mg : Str → Option Value) (base : Heap) (CX : CXT) (k : Nat) (f : Addr) (ps : List Str) (sp : Sp) : Prop where
  ex : ∃ (fd : FuncData), FnG P w K mg base CX k f fd ps sp ∧ (∀ (s : Shared) (us : List Value), us.length = ps.length → BindsTo s fd ⟨us, []⟩ (ps.zip us)) ∧ PySem.W.keepIn K (.ref f) = true
theorem FnG.lift (F : FnG P w K mg base CX0 k f fd ps sp) : FnG P w K mg base (L2.CX P w) k f fd ps sp := by
  refine ⟨F.size, fun B out s H ar us vs Q E hr hg e0 hb r h => codeAny_mono (F.goes B out s H ar us vs Q E hr hg e0 hb r h) fun z s' q => ?_⟩
  cases z with
  | error e => exact q.elim
  | ok fl =>
    cases fl with
    | ret u => exact q
    | next => exact False.elim q
    | brk => exact False.elim q
    | cont => exact False.elim q
theorem Cal.lift (C : Cal P w K mg base CX0 k x ps sp) : Cal P w K mg base (L2.CX P w) k x ps sp := by
  obtain ⟨f, fd, F, h⟩ := C.ex
  exact ⟨f, fd, F.lift, h⟩
end
section
variable {X : Cx} {CX : CXT} {k : Nat} {ps : List Str} {p pos : Pos} {fe e : Expr} {es : List Expr} {tf : TE} {t : TA} {S : Addr → Prop} {F : Addr → Sp}
/-- e(a, ..) where e tells one of some defs -/
def tCallV (S : Addr → Prop) (F : Addr → Sp) (E : L2.St → XK) (tf : TE) (t : TA) : TE := fun σ H Q => tf σ H fun y H1 => ∃ f, S f ∧ y = .ref f ∧ t σ H1 fun vs H2 => F f vs H2 Q (E σ)
theorem pe_callV {E : L2.St → XK} (hf : PE X fe tf) (C : ∀ f, S f → CalF X.prog X.w X.K X.mg X.base CX k f ps (F f)) (hr : Room k X.A) (hG : X.A.guards = some []) (hx : ∀ σ, PassesAt CX X σ (E σ)) (ha : PA X (e :: es) t)
    (ht : eval (.Call fe (e :: es) [] pos) X.env = (do
      let v ← eval fe X.env
      callWith pos v [] (backTo pos (starEach (e :: es) X.env)) (backToKw pos (keywordEach [] X.env))) := by rfl)
    (he : starEach (e :: es) X.env = (false, eval e X.env) :: starEach es X.env := by rfl)
    (hpl : (backTo pos (starEach es X.env)).any (·.1) = false := by rfl) : PE X (.Call fe (e :: es) [] pos) (tCallV S F E tf t) := by
  refine ⟨fun pins s σ H Q I h => ?_⟩
  rw [ht]
  refine wpAny_bind (thn (hf.run pins s σ H _ I h) fun u s1 ⟨y, H1, I1, r1, f, hS, ey, q1⟩ => ?_)
  subst ey
  cases (show u = Value.ref f from r1)
  obtain ⟨fd, F', hb, hk⟩ := (C f hS).ex
  refine PySem.W.callWith_K (h₀ := X.base) I.ok.mod.kin hk (thn (ha.run pos pins s1 σ _ _ I1 q1) fun us s2 ⟨vs, H2, I2, r, q⟩ => ⟨I2.kIn, ?_⟩) he hpl
  exact run_g (ar := ⟨us, []⟩) F' hr hG (hx σ) I2 (hb s2 us (r.length.symm.trans (F'.size _ _ _ _ q))) r q
end
end Lf

set_option Elab.async false
set_option linter.all false
set_option maxRecDepth 100000
set_option maxHeartbeats 4000000
set_option exponentiation.threshold 3000
namespace Lf
open PySem PySem.Spec PyProof.Rows L2
/-- the top and the bottom of a fraction -/
def top2 : PyData → Int × Int
  | .tuple [.int a, .int b] => (a, b)
  | _ => (0, 1)
/-- a fraction above 0 -/
def isAb (d : PyData) : Bool := isFr d && decide (0 < (top2 d).1)
theorem isFr_inv {d : PyData} (h : isFr d = true) : ∃ a b : Int, d = .tuple [.int a, .int b] ∧ IsLow a b := by
  cases d with
  | tuple ds =>
    match ds, h with
    | [x, y], h =>
      have h' : fr2 x y = true := h
      cases x <;> cases y <;> first | (cases h'; done) | skip
      rename_i a b
      have h2 : (decide (0 < b) && decide (Nat.gcd a.natAbs b.natAbs = 1)) = true := h'
      rw [Bool.and_eq_true] at h2
      exact ⟨a, b, rfl, of_decide_eq_true h2.1, of_decide_eq_true h2.2⟩
    | [], h => cases h
    | [_], h => cases h
    | _ :: _ :: _ :: _, h => cases h
  | none => cases h
  | bool _ => cases h
  | int _ => cases h
  | str _ => cases h
  | list _ => cases h
  | dict _ => cases h
theorem klG_none : kitB "NoneType" "list" = some false := by decide +kernel
theorem klG_bool : kitB "bool" "list" = some false := by decide +kernel
theorem klG_int : kitB "int" "list" = some false := by decide +kernel
theorem klG_str : kitB "str" "list" = some false := by decide +kernel
theorem klG_list : kitB "list" "list" = some true := by decide +kernel
theorem klG_tuple : kitB "tuple" "list" = some false := by decide +kernel
theorem klG_dict : kitB "dict" "list" = some false := by decide +kernel
def isLi : PyData → Bool
  | .list _ => true
  | _ => false
theorem klG (d : PyData) : kitB (tyN d) "list" = some (isLi d) :=
  match d with
  | .none => klG_none
  | .bool _ => klG_bool
  | .int _ => klG_int
  | .str _ => klG_str
  | .list _ => klG_list
  | .tuple _ => klG_tuple
  | .dict _ => klG_dict
theorem k_lt {K : PySem.W.Frag} (d : PyData) : PySem.W.kitAny K (.type (tyN d)) [.type "list", .type "tuple"] = some (isLi d || isT d) := by
  refine kitAny_cons (kit_ty (klG d)) (fun h => ?_) (fun h => by rw [h]; rfl)
  rw [h, Bool.false_or]
  exact kitAny_cons (kit_ty (kt d)) (fun h => by rw [h]; rfl) (fun h => h)
section
variable {P : Program} {w : World} {K : PySem.W.Frag} {mg : Str → Option Value} {base : Heap}
theorem Dg.ty {H : Hp} {v : V} {d : PyData} (h : Dg K H v d) : TyX K H v (.type (tyN d)) := by
  cases h with
  | non => exact .base .non
  | bl b => exact .base (.bl b)
  | int i => exact .base (.int i)
  | str x => exact .base (.str x)
  | lst h _ =>
    rcases h with (h | ⟨o, h⟩) | ⟨o, arr, n, hk, hc, _⟩
    · exact .base (.lst h)
    · exact .base (.frz h)
    · exact .kList hk hc
  | tup h _ =>
    rcases h with (h | ⟨o, h⟩) | ⟨o, arr, n, hk, hc, _⟩
    · exact .base (.tup h)
    · exact .fTuple h
    · exact .kTuple hk hc
  | dk h _ => exact .base (.dK h)
  | dt h _ => exact .base (.dT h)
theorem Dg.tupI {H : Hp} {v : V} {d : PyData} (h : Dg K H v d) (e : isT d = true) : ∃ (a : Addr) (xs : List V) (ds : List PyData), v = .ref a ∧ d = .tuple ds ∧ SqT K H a xs ∧ DgAll K H xs ds ∧ True := by
  cases h with
  | tup h1 h2 => exact ⟨_, _, _, rfl, rfl, h1, h2, trivial⟩
  | non => cases e
  | bl _ => cases e
  | int _ => cases e
  | str _ => cases e
  | lst _ _ => cases e
  | dk _ _ => cases e
  | dt _ _ => cases e
theorem Dg.txt {H : Hp} {v : V} {d : PyData} (h : Dg K H v d) (e : isS d = true) : ∃ z, v = .str z ∧ d = .str z := by
  cases h with
  | str z => exact ⟨z, rfl, rfl⟩
  | non => cases e
  | bl _ => cases e
  | int _ => cases e
  | tup _ _ => cases e
  | lst _ _ => cases e
  | dk _ _ => cases e
  | dt _ _ => cases e
theorem Dg.whole {H : Hp} {v : V} {d : PyData} (h : Dg K H v d) (e : isW d = true) : ∃ i, v = .int i ∧ d = .int i := by
  cases h with
  | int i => exact ⟨i, rfl, rfl⟩
  | non => cases e
  | bl _ => cases e
  | str _ => cases e
  | tup _ _ => cases e
  | lst _ _ => cases e
  | dk _ _ => cases e
  | dt _ _ => cases e
def sp_wholeG (K : PySem.W.Frag) : Sp := fun vs H Q _ => ∃ (v : V) (d : PyData), vs = [v] ∧ Dg K H v d ∧ Q (.bl (isW d)) H
/-! ### is_whole -/
theorem ok_wholeG {f : Addr} {fd : FuncData} (M : Blt mg) (Mx : Bltx mg) (F : Fun K "is_whole" "is_whole" s_is_whole f fd) : FnG P w K mg base CX0 1 f fd ["thing"] (sp_wholeG K) := by
  refine Gfun F sc_is_whole (fun vs H Q E h => ?_) (fun cdv A outer s H vs Q E hg hr h => ?_)
  · obtain ⟨v, d, rfl, _⟩ := h
    rfl
  · obtain ⟨v, d, rfl, hq, k⟩ := h
    refine ⟨_, (pss_one (ps_ret (pe_and (pe_callB call_isi rfl Mx.isinstance bt_isinstance (pa_cons (pv 0) (pa_cons (pe_bltn (v := .ty "int") rfl M.int bt_int rfl) pa_nil))) (pe_one (pe_not (pe_callB call_isi rfl Mx.isinstance bt_isinstance (pa_cons (pv 0) (pa_cons (pe_bltn (v := .ty "bool") rfl Mx.bool bt_bool rfl) pa_nil)))))))), ?_⟩
    refine ⟨_, rfl, _, _, _, _, _, rfl, .ty "int", hq.ty, kit_ty (ki d), _, rfl, ite2 (fun e => ?_) (fun e => ?_)⟩
    · refine ⟨_, rfl, _, _, _, _, _, rfl, .ty "bool", hq.ty, kit_ty (kb d), _, rfl, ?_⟩
      have : isW d = !isB d := by cases d <;> first | rfl | (cases e)
      rw [← this]
      exact k
    · have : isW d = false := by cases d <;> first | rfl | (exact absurd rfl e)
      rw [this] at k
      exact k

/-! ### _law_is_whole -/
theorem ok_lwholeG {f : Addr} {fd : FuncData} (M : Blt mg) (Mx : Bltx mg) (F : Fun K "_law_is_whole" "_law_is_whole" s__law_is_whole f fd) : FnG P w K mg base CX0 1 f fd ["_law_thing"] (sp_wholeG K) := by
  refine Gfun F sc__law_is_whole (fun vs H Q E h => ?_) (fun cdv A outer s H vs Q E hg hr h => ?_)
  · obtain ⟨v, d, rfl, _⟩ := h
    rfl
  · obtain ⟨v, d, rfl, hq, k⟩ := h
    refine ⟨_, (pss_one (ps_ret (pe_and (pe_callB call_isi rfl Mx.isinstance bt_isinstance (pa_cons (pv 0) (pa_cons (pe_bltn (v := .ty "int") rfl M.int bt_int rfl) pa_nil))) (pe_one (pe_not (pe_callB call_isi rfl Mx.isinstance bt_isinstance (pa_cons (pv 0) (pa_cons (pe_bltn (v := .ty "bool") rfl Mx.bool bt_bool rfl) pa_nil)))))))), ?_⟩
    refine ⟨_, rfl, _, _, _, _, _, rfl, .ty "int", hq.ty, kit_ty (ki d), _, rfl, ite2 (fun e => ?_) (fun e => ?_)⟩
    · refine ⟨_, rfl, _, _, _, _, _, rfl, .ty "bool", hq.ty, kit_ty (kb d), _, rfl, ?_⟩
      have : isW d = !isB d := by cases d <;> first | rfl | (cases e)
      rw [← this]
      exact k
    · have : isW d = false := by cases d <;> first | rfl | (exact absurd rfl e)
      rw [this] at k
      exact k

/-! ### is_fraction -/
def sp_isfrG (K : PySem.W.Frag) : Sp := fun vs H Q _ => ∃ (v : V) (d : PyData), vs = [v] ∧ Dg K H v d ∧ Q (.bl (isFr d)) H
theorem DgAll.len {H : Hp} : ∀ {vs : List V} {ds : List PyData}, DgAll K H vs ds → vs.length = ds.length
  | _, _, .nil => rfl
  | _, _, .cons _ r => congrArg Nat.succ (DgAll.len r)
theorem two_ofG {H : Hp} {xs : List V} {ds : List PyData} (h : DgAll K H xs ds) (hl : xs.length = 2) : ∃ x y d1 d2, xs = [x, y] ∧ ds = [d1, d2] ∧ Dg K H x d1 ∧ Dg K H y d2 := by
  match xs, ds, h, hl with
  | _, _, .cons h1 (.cons h2 .nil), _ => exact ⟨_, _, _, _, rfl, rfl, h1, h2⟩
  | _, _, .nil, e => cases e
  | _, _, .cons _ .nil, e => cases e
  | _, _, .cons _ (.cons _ (.cons _ _)), e => simp at e
theorem ok_isfrG {f : Addr} {fd : FuncData} (M : Blt mg) (Mx : Bltx mg) (F : Fun K "is_fraction" "is_fraction" s_is_fraction f fd) (C_is_whole : Cal P w K mg base CX0 1 "is_whole" ["thing"] (sp_wholeG K)) (C_common : Cal P w K mg base CX0 1 "common" ["one", "other"] spCom) :
    FnG P w K mg base CX0 2 f fd ["thing"] (sp_isfrG K) := by
  refine Gfun F sc_is_fraction (fun vs H Q E h => ?_) (fun cdv A outer s H vs Q E hg hr h => ?_)
  · obtain ⟨v, d, rfl, _⟩ := h
    rfl
  · obtain ⟨v, d, rfl, hq, k⟩ := h
    refine ⟨_, (pss_cons (ps_if (PW.pt (pw_or (pt_not (pt_val (pe_callB call_isi rfl Mx.isinstance bt_isinstance (pa_cons (pv 0) (pa_cons (pe_bltn (v := .ty "tuple") rfl Mx.tuple bt_tuple rfl) pa_nil))))) (pw_or1 (pt_cmpR op_ne (pe_callB call_len_seq rfl M.len bt_len (pa_cons (pv 0) pa_nil)) pe_int (nomark _)))))
      (pss_one (ps_ret pe_bl))
      pss_nil)
      (pss_cons (ps_asg (pv 0) (pg_tup rfl (pgs_cons (pg_name (i := 1) sc_is_fraction.nd rfl (.inl rfl)) (pgs_cons (pg_name (i := 2) sc_is_fraction.nd rfl (.inl rfl)) pgs_nil))))
      (pss_cons (ps_if (PW.pt (pw_or (pt_not (pt_val (pe_g C_is_whole (hr.mono (by decide)) hg (pa_cons (pv 1) pa_nil)))) (pw_or1 (pt_not (pt_val (pe_g C_is_whole (hr.mono (by decide)) hg (pa_cons (pv 2) pa_nil)))))))
      (pss_one (ps_ret pe_bl))
      pss_nil)
      (pss_one (ps_ret (pe_and (pe_cmpR op_gt (pv 2) pe_int (nomark _)) (pe_one (pe_cmpR op_eq (pe_g C_common (hr.mono (by decide)) hg (pa_cons (pe_callB call_abs rfl M.abs bt_abs (pa_cons (pv 1) pa_nil)) (pa_cons (pv 2) pa_nil))) pe_int (nomark _))))))))), ?_⟩
    refine ⟨_, rfl, _, _, _, _, _, rfl, .ty "tuple", hq.ty, kit_ty (kt d), _, rfl, ?_⟩
    by_cases ht : isT d = true
    · rw [ht]
      refine iteF ?_
      obtain ⟨a, xs, ds, rfl, rfl, hS, hA, hn⟩ := hq.tupI ht
      refine ⟨_, rfl, a, xs, rfl, .inr hS, rfl, _, rfl, ?_⟩
      by_cases hl : xs.length = 2
      · refine iteNS (show V.int (xs.length : Int) = V.int 2 by rw [hl]; rfl) ?_
        obtain ⟨x, y, d1, d2, rfl, rfl, h1, h2⟩ := two_ofG hA hl
        refine ⟨_, rfl, a, _, rfl, hS, rfl, _, _, rfl, _, _, rfl, rfl, ?_⟩
        have q1 : Dg K H x d1 := h1
        have q2 : Dg K H y d2 := h2
        refine ⟨_, rfl, x, d1, rfl, q1, _, rfl, ?_⟩
        by_cases w1 : isW d1 = true
        · rw [w1]
          refine iteF ?_
          refine ⟨_, rfl, y, d2, rfl, q2, _, rfl, ?_⟩
          by_cases w2 : isW d2 = true
          · rw [w2]
            refine iteF ?_
            obtain ⟨p, rfl, rfl⟩ := q1.whole w1
            obtain ⟨b, rfl, rfl⟩ := q2.whole w2
            rw [isFr_two] at k
            refine ⟨_, rfl, _, _, rfl, rfl, _, rfl, ite2 (fun e => ?_) (fun e => ?_)⟩
            · have hb : 0 < b := of_decide_eq_true e
              refine ⟨_, rfl, _, rfl, _, rfl, _, b, rfl, ?_, Int.le_of_lt hb, rfl, ?_⟩
              · rw [abs_is]
                omega
              · rw [abs_is, Int.natAbs_natCast]
                rw [decide_eq_true hb, Bool.true_and] at k
                have e2 : decide (V.int ((Nat.gcd p.natAbs b.natAbs : Nat) : Int) = V.int 1) = decide (Nat.gcd p.natAbs b.natAbs = 1) := by
                  by_cases z : Nat.gcd p.natAbs b.natAbs = 1
                  · rw [decide_eq_true z, z]
                    rfl
                  · rw [decide_eq_false z]
                    exact decide_eq_false fun q => z (by have := V.int.inj q; omega)
                rw [e2]
                exact k
            · rw [show decide (0 < b) = false from Bool.eq_false_iff.mpr e, Bool.false_and] at k
              exact k
          · have w2' : isW d2 = false := by cases h : isW d2 <;> first | rfl | exact absurd h w2
            rw [w2']
            refine iteT ?_
            rw [isFr_no (.inr w2')] at k
            exact k
        · have w1' : isW d1 = false := by cases h : isW d1 <;> first | rfl | exact absurd h w1
          rw [w1']
          refine iteT ?_
          rw [isFr_no (.inl w1')] at k
          exact k
      · refine iteN (fun z => hl (by have := V.int.inj z; omega)) ?_
        have hl2 : ds.length ≠ 2 := by rw [← DgAll.len hA]; exact hl
        rw [isFr_len hl2] at k
        exact k
    · have ht' : isT d = false := by cases h : isT d <;> first | rfl | exact absurd h ht
      rw [ht']
      refine iteT ?_
      have : isFr d = false := by
        cases d <;> first | rfl | exact absurd rfl ht
      rw [this] at k
      exact k

theorem DgAll.get {H : Hp} : ∀ {vs : List V} {ds : List PyData} {i : Nat} {v : V}, DgAll K H vs ds → vs[i]? = some v → ∃ d, ds[i]? = some d ∧ Dg K H v d
  | _, _, _, _, .nil, e => by simp at e
  | _, _, 0, _, .cons a _, e => by simp at e; subst e; exact ⟨_, rfl, a⟩
  | _, _, i + 1, v, .cons _ r, e => by
    obtain ⟨d, h1, h2⟩ := DgAll.get (i := i) (v := v) r (by simpa using e)
    exact ⟨d, by simpa using h1, h2⟩
theorem Dg.pair {H : Hp} {v : V} {d1 d2 : PyData} (h : Dg K H v (.tuple [d1, d2])) : ∃ p x y, v = .ref p ∧ SqT K H p [x, y] ∧ Dg K H x d1 ∧ Dg K H y d2 := by
  cases h with
  | tup h1 h2 =>
    cases h2 with
    | cons a r =>
      cases r with
      | cons b r =>
        cases r
        exact ⟨_, _, _, rfl, h1, a, b⟩
theorem Dg.int_ {H : Hp} {v : V} {n : Int} (h : Dg K H v (.int n)) : v = .int n := by cases h; rfl
theorem Dg.str_ {H : Hp} {v : V} {z : Str} (h : Dg K H v (.str z)) : v = .str z := by cases h; rfl
/-- a thing that is a fraction stands so -/
theorem fr_atG {H : Hp} {v : V} {d : PyData} (h : Dg K H v d) (e : isFr d = true) : AtK K H v (top2 d) ∧ IsF (top2 d) ∧ d = tD (top2 d) := by
  obtain ⟨a, b, rfl, hl⟩ := isFr_inv e
  obtain ⟨p, x, y, rfl, hS, h1, h2⟩ := h.pair
  obtain rfl := h1.int_
  obtain rfl := h2.int_
  exact ⟨⟨p, rfl, hS⟩, hl, rfl⟩

def sp_ab0Q (K : PySem.W.Frag) : Sp := fun vs H Q _ => ∃ (v : V) (d : PyData), vs = [v] ∧ Dg K H v d ∧ Q (.bl (isAb d)) H
theorem ok_ab0Q {f : Addr} {fd : FuncData} (F : Fun K "is_above_0" "is_above_0" s_is_above_0 f fd) (C_is_fraction : Cal P w K mg base CX0 2 "is_fraction" ["thing"] (sp_isfrG K)) : FnG P w K mg base CX0 3 f fd ["thing"] (sp_ab0Q K) := by
  refine Gfun F sc_is_above_0 (fun vs H Q E h => ?_) (fun cdv A outer s H vs Q E hg hr h => ?_)
  · obtain ⟨v, d, rfl, _⟩ := h
    rfl
  · obtain ⟨v, d, rfl, hq, k⟩ := h
    refine ⟨_, (pss_one (ps_ret (pe_and (pe_g C_is_fraction (hr.mono (by decide)) hg (pa_cons (pv 0) pa_nil)) (pe_one (pe_cmpR op_gt (pe_ix ix_tup (pv 0) pe_int (fun _ _ => rfl)) pe_int (nomark _)))))), ?_⟩
    refine ⟨_, rfl, v, d, rfl, hq, _, rfl, ite2 (fun e => ?_) (fun e => ?_)⟩
    · obtain ⟨⟨p, rfl, hp⟩, _, _⟩ := fr_atG hq e
      refine ⟨_, rfl, p, _, _, _, rfl, rfl, hp, atI_nat (j := 0) rfl, _, _, rfl, rfl, ?_⟩
      have : isAb d = decide (0 < (top2 d).1) := by unfold isAb; rw [e]; rfl
      rw [this] at k
      exact k
    · have : isAb d = false := by unfold isAb; rw [show isFr d = false from Bool.eq_false_iff.mpr e]; rfl
      rw [this] at k
      exact k

end
end Lf

set_option Elab.async false
set_option linter.all false
set_option maxRecDepth 100000
set_option maxHeartbeats 4000000
set_option exponentiation.threshold 3000
namespace Lf
open PySem PySem.Spec PyProof.Rows L2
open NdefX
def isWtL (ds : List PyData) : Bool := decide (1 ≤ ds.length) && decide (ds.length ≤ 12) && ds.all isAb
def isWts : PyData → Bool
  | .list ds => isWtL ds
  | .tuple ds => isWtL ds
  | _ => false
def WsG (d : PyData) : Prop := ∀ ds, (d = .list ds ∨ d = .tuple ds) → ds.length ≤ 300
section
variable {P : Program} {w : World} {K : PySem.W.Frag} {mg : Str → Option Value} {base : Heap}

def sp_areqL (K : PySem.W.Frag) : Sp := fun vs H Q _ => ∃ (v : V) (ds : List PyData), vs = [v] ∧ Dg K H v (.list ds) ∧ ds.length ≤ 300 ∧ ∀ H', Same H H' → Q (.bl (isWtL ds)) H'
theorem ok_areqL {f : Addr} {fd : FuncData} {tk : Tok} (M : Blt mg) (Mx : Bltx mg) (ml : mg "list" = none) (G_MOST : mg "MOST_WEIGHTS" = some (.int 12 tk)) (F : Fun K "are_weights" "are_weights" s_are_weights f fd) (C_is_above_0 : Cal P w K mg base CX0 3 "is_above_0" ["thing"] (sp_ab0Q K)) : FnG P w K mg base CX0 4 f fd ["thing"] (sp_areqL K) := by
  refine Gfun F sc_are_weights (fun vs H Q E h => ?_) (fun cdv A outer s H vs Q E hg hr h => ?_)
  · obtain ⟨v, ds, rfl, _⟩ := h
    rfl
  · obtain ⟨v, ds, rfl, hq, hl300, k⟩ := h
    refine ⟨_, (pss_cons (ps_if (PW.pt (pw_or (pt_not (pt_val (pe_callB call_isiT rfl Mx.isinstance bt_isinstance (pa_cons (pv 0) (pa_cons (pe_tup (pa_cons (pe_bltn (v := .ty "list") rfl ml bt_list rfl) (pa_cons (pe_bltn (v := .ty "tuple") rfl Mx.tuple bt_tuple rfl) pa_nil))) pa_nil))))) (pw_or1 (pt_not (pt_chain op_le op_le pe_int (pe_callB call_len_seq rfl M.len bt_len (pa_cons (pv 0) pa_nil)) (pe_glob (v := .int 12) rfl G_MOST ⟨_, rfl⟩))))))
      (pss_one (ps_ret pe_bl))
      pss_nil)
      (pss_one (ps_ret (pe_callB (cr_all rfl) rfl M.all bt_all (pa_cons (pe_lc (own := [("one", 1)]) (g := gName 1) (tt := tYes) rfl sc_are_weights.nd (pi_list (pv 0)) (blkOk_by (N := ["thing", "one"]) (sc := defScope s_are_weights) (by decide +kernel)) (fun _ _ _ _ _ => pg_name (i := 1) sc_are_weights.nd rfl (Or.inl rfl)) (fun _ _ _ _ _ => pts_nil) (fun _ _ _ _ _ => (pe_g C_is_above_0 (hr.mono (by decide)) hg (pa_cons (pv 1) pa_nil)))) pa_nil))))), ?_⟩
    refine ⟨_, rfl, len_show (Nat.le_of_ble_eq_true rfl), fun tp nt => ?_⟩
    have s1 : Same H (L2.upd H tp (.tup [.ty "list", .ty "tuple"])) := same_new nt
    refine ⟨_, tp, _, _, _, true, rfl, upd_same, .cons (.ty "list") (.cons (.ty "tuple") .nil), (hq.same s1).ty, k_lt (.list ds), _, rfl, ?_⟩
    generalize L2.upd H tp (.tup [.ty "list", .ty "tuple"]) = H1 at s1 ⊢
    refine iteF ?_
    obtain ⟨a, xs, hx, hS, hA⟩ : ∃ a xs, v = .ref a ∧ SqL K H a xs ∧ DgAll K H xs ds := by
      cases hq with
      | lst h1 h2 => exact ⟨_, _, rfl, h1, h2⟩
    subst hx
    have hl : xs.length = ds.length := DgAll.len hA
    refine ⟨_, rfl, a, xs, rfl, .inl (sm_l s1 hS), _, _, rfl, rfl, _, rfl, ?_⟩
    unfold isWtL at k
    by_cases c1 : 1 ≤ ds.length
    · rw [decide_eq_true (show (1 : Int) ≤ (xs.length : Int) by omega)]
      refine iteT ⟨_, _, rfl, rfl, _, rfl, ?_⟩
      by_cases c8 : ds.length ≤ 12
      · rw [decide_eq_true (show (xs.length : Int) ≤ 12 by omega)]
        refine iteF ?_
        rw [decide_eq_true c1, decide_eq_true c8, Bool.true_and, Bool.true_and] at k
        refine ⟨_, rfl, a, rfl, ⟨_, sm_l s1 hS⟩, fun D hD => lc_list (xs := xs) (fun i H' => H' D = some (.lst ((ds.take i).map fun d => .bl (isAb d))) ∧ Same H1 H') ⟨upd_same, same_new hD⟩ (fun i H' _ h => sm_l (s1.trans h.2) hS) ?_ ?_⟩
        · rintro i x H2 hx ⟨eD, sm⟩
          obtain ⟨d, hd, hg0⟩ := hA.get hx
          have hi : i < xs.length := (List.getElem?_eq_some_iff.mp hx).1
          refine ⟨rfl, _, rfl, x, d, rfl, hg0.same (s1.trans sm), ?_⟩
          refine ⟨_, eD, ?_, ?_, fun b o e => ?_⟩
          · rw [List.length_map, List.length_take, sizeLine_eq]
            omega
          · rw [upd_same, List.take_succ, hd, List.map_append]
            rfl
          · rw [upd_ne (ne_of_none e hD)]
            exact sm _ _ e
        · rintro H2 ⟨eD, sm⟩
          rw [hl, List.take_length] at eD
          refine ⟨D, ds.map isAb, rfl, .inl (.inl (by rw [eD, List.map_map]; rfl)), ?_⟩
          rw [show (ds.map isAb).all id = ds.all isAb by rw [List.all_map]; rfl]
          exact k _ (s1.trans sm)
      · rw [decide_eq_false (show ¬ (xs.length : Int) ≤ 12 by omega)]
        rw [decide_eq_false c8, Bool.and_false, Bool.false_and] at k
        exact iteT (k _ s1)
    · rw [decide_eq_false (show ¬ (1 : Int) ≤ (xs.length : Int) by omega)]
      rw [decide_eq_false c1, Bool.false_and, Bool.false_and] at k
      exact iteF ⟨_, rfl, iteT (k _ s1)⟩

def sp_areqT (K : PySem.W.Frag) : Sp := fun vs H Q _ => ∃ (v : V) (ds : List PyData), vs = [v] ∧ Dg K H v (.tuple ds) ∧ ds.length ≤ 300 ∧ ∀ H', Same H H' → Q (.bl (isWtL ds)) H'
theorem ok_areqT {f : Addr} {fd : FuncData} {tk : Tok} (M : Blt mg) (Mx : Bltx mg) (ml : mg "list" = none) (G_MOST : mg "MOST_WEIGHTS" = some (.int 12 tk)) (F : Fun K "are_weights" "are_weights" s_are_weights f fd) (C_is_above_0 : Cal P w K mg base CX0 3 "is_above_0" ["thing"] (sp_ab0Q K)) : FnG P w K mg base CX0 4 f fd ["thing"] (sp_areqT K) := by
  refine Gfun F sc_are_weights (fun vs H Q E h => ?_) (fun cdv A outer s H vs Q E hg hr h => ?_)
  · obtain ⟨v, ds, rfl, _⟩ := h
    rfl
  · obtain ⟨v, ds, rfl, hq, hl300, k⟩ := h
    refine ⟨_, (pss_cons (ps_if (PW.pt (pw_or (pt_not (pt_val (pe_callB call_isiT rfl Mx.isinstance bt_isinstance (pa_cons (pv 0) (pa_cons (pe_tup (pa_cons (pe_bltn (v := .ty "list") rfl ml bt_list rfl) (pa_cons (pe_bltn (v := .ty "tuple") rfl Mx.tuple bt_tuple rfl) pa_nil))) pa_nil))))) (pw_or1 (pt_not (pt_chain op_le op_le pe_int (pe_callB call_len_seq rfl M.len bt_len (pa_cons (pv 0) pa_nil)) (pe_glob (v := .int 12) rfl G_MOST ⟨_, rfl⟩))))))
      (pss_one (ps_ret pe_bl))
      pss_nil)
      (pss_one (ps_ret (pe_callB (cr_all rfl) rfl M.all bt_all (pa_cons (pe_lc (own := [("one", 1)]) (g := gName 1) (tt := tYes) rfl sc_are_weights.nd (pi_tup (pv 0)) (blkOk_by (N := ["thing", "one"]) (sc := defScope s_are_weights) (by decide +kernel)) (fun _ _ _ _ _ => pg_name (i := 1) sc_are_weights.nd rfl (Or.inl rfl)) (fun _ _ _ _ _ => pts_nil) (fun _ _ _ _ _ => (pe_g C_is_above_0 (hr.mono (by decide)) hg (pa_cons (pv 1) pa_nil)))) pa_nil))))), ?_⟩
    refine ⟨_, rfl, len_show (Nat.le_of_ble_eq_true rfl), fun tp nt => ?_⟩
    have s1 : Same H (L2.upd H tp (.tup [.ty "list", .ty "tuple"])) := same_new nt
    refine ⟨_, tp, _, _, _, true, rfl, upd_same, .cons (.ty "list") (.cons (.ty "tuple") .nil), (hq.same s1).ty, k_lt (.tuple ds), _, rfl, ?_⟩
    generalize L2.upd H tp (.tup [.ty "list", .ty "tuple"]) = H1 at s1 ⊢
    refine iteF ?_
    obtain ⟨a, xs, hx, hS, hA⟩ : ∃ a xs, v = .ref a ∧ SqT K H a xs ∧ DgAll K H xs ds := by
      cases hq with
      | tup h1 h2 => exact ⟨_, _, rfl, h1, h2⟩
    subst hx
    have hl : xs.length = ds.length := DgAll.len hA
    refine ⟨_, rfl, a, xs, rfl, .inr (sm_t s1 hS), _, _, rfl, rfl, _, rfl, ?_⟩
    unfold isWtL at k
    by_cases c1 : 1 ≤ ds.length
    · rw [decide_eq_true (show (1 : Int) ≤ (xs.length : Int) by omega)]
      refine iteT ⟨_, _, rfl, rfl, _, rfl, ?_⟩
      by_cases c8 : ds.length ≤ 12
      · rw [decide_eq_true (show (xs.length : Int) ≤ 12 by omega)]
        refine iteF ?_
        rw [decide_eq_true c1, decide_eq_true c8, Bool.true_and, Bool.true_and] at k
        refine ⟨_, rfl, a, rfl, ⟨_, sm_t s1 hS⟩, fun D hD => lc_tup (xs := xs) (fun i H' => H' D = some (.lst ((ds.take i).map fun d => .bl (isAb d))) ∧ Same H1 H') ⟨upd_same, same_new hD⟩ (fun i H' _ h => sm_t (s1.trans h.2) hS) ?_ ?_⟩
        · rintro i x H2 hx ⟨eD, sm⟩
          obtain ⟨d, hd, hg0⟩ := hA.get hx
          have hi : i < xs.length := (List.getElem?_eq_some_iff.mp hx).1
          refine ⟨rfl, _, rfl, x, d, rfl, hg0.same (s1.trans sm), ?_⟩
          refine ⟨_, eD, ?_, ?_, fun b o e => ?_⟩
          · rw [List.length_map, List.length_take, sizeLine_eq]
            omega
          · rw [upd_same, List.take_succ, hd, List.map_append]
            rfl
          · rw [upd_ne (ne_of_none e hD)]
            exact sm _ _ e
        · rintro H2 ⟨eD, sm⟩
          rw [hl, List.take_length] at eD
          refine ⟨D, ds.map isAb, rfl, .inl (.inl (by rw [eD, List.map_map]; rfl)), ?_⟩
          rw [show (ds.map isAb).all id = ds.all isAb by rw [List.all_map]; rfl]
          exact k _ (s1.trans sm)
      · rw [decide_eq_false (show ¬ (xs.length : Int) ≤ 12 by omega)]
        rw [decide_eq_false c8, Bool.and_false, Bool.false_and] at k
        exact iteT (k _ s1)
    · rw [decide_eq_false (show ¬ (1 : Int) ≤ (xs.length : Int) by omega)]
      rw [decide_eq_false c1, Bool.false_and, Bool.false_and] at k
      exact iteF ⟨_, rfl, iteT (k _ s1)⟩

def sp_areqN (K : PySem.W.Frag) : Sp := fun vs H Q _ => ∃ (v : V) (d : PyData), vs = [v] ∧ Dg K H v d ∧ isLi d = false ∧ isT d = false ∧ ∀ H', Same H H' → Q (.bl false) H'
theorem ok_areqN {f : Addr} {fd : FuncData} {tk : Tok} (M : Blt mg) (Mx : Bltx mg) (ml : mg "list" = none) (G_MOST : mg "MOST_WEIGHTS" = some (.int 12 tk)) (F : Fun K "are_weights" "are_weights" s_are_weights f fd) (C_is_above_0 : Cal P w K mg base CX0 3 "is_above_0" ["thing"] (sp_ab0Q K)) : FnG P w K mg base CX0 4 f fd ["thing"] (sp_areqN K) := by
  refine Gfun F sc_are_weights (fun vs H Q E h => ?_) (fun cdv A outer s H vs Q E hg hr h => ?_)
  · obtain ⟨v, d, rfl, _⟩ := h
    rfl
  · obtain ⟨v, d, rfl, hq, nl, nt_, k⟩ := h
    refine ⟨_, (pss_cons (ps_if (PW.pt (pw_or (pt_not (pt_val (pe_callB call_isiT rfl Mx.isinstance bt_isinstance (pa_cons (pv 0) (pa_cons (pe_tup (pa_cons (pe_bltn (v := .ty "list") rfl ml bt_list rfl) (pa_cons (pe_bltn (v := .ty "tuple") rfl Mx.tuple bt_tuple rfl) pa_nil))) pa_nil))))) (pw_or1 (pt_not (pt_chain op_le op_le pe_int (pe_callB call_len_seq rfl M.len bt_len (pa_cons (pv 0) pa_nil)) (pe_glob (v := .int 12) rfl G_MOST ⟨_, rfl⟩))))))
      (pss_one (ps_ret pe_bl))
      pss_nil)
      (pss_one (ps_ret (pe_callB (cr_all rfl) rfl M.all bt_all (pa_cons (pe_lc (own := [("one", 1)]) (g := gName 1) (tt := tYes) rfl sc_are_weights.nd (pi_tup (pv 0)) (blkOk_by (N := ["thing", "one"]) (sc := defScope s_are_weights) (by decide +kernel)) (fun _ _ _ _ _ => pg_name (i := 1) sc_are_weights.nd rfl (Or.inl rfl)) (fun _ _ _ _ _ => pts_nil) (fun _ _ _ _ _ => (pe_g C_is_above_0 (hr.mono (by decide)) hg (pa_cons (pv 1) pa_nil)))) pa_nil))))), ?_⟩
    refine ⟨_, rfl, len_show (Nat.le_of_ble_eq_true rfl), fun tp nt => ?_⟩
    have s1 : Same H (L2.upd H tp (.tup [.ty "list", .ty "tuple"])) := same_new nt
    refine ⟨_, tp, _, _, _, false, rfl, upd_same, .cons (.ty "list") (.cons (.ty "tuple") .nil), (hq.same s1).ty, by rw [k_lt, nl, nt_]; rfl, _, rfl, ?_⟩
    exact iteT (k _ s1)
def sp_areq (K : PySem.W.Frag) : Sp := fun vs H Q _ => ∃ (v : V) (d : PyData), vs = [v] ∧ Dg K H v d ∧ WsG d ∧ ∀ H', Same H H' → Q (.bl (isWts d)) H'
theorem ok_areq {f : Addr} {fd : FuncData} {tk : Tok} (M : Blt mg) (Mx : Bltx mg) (ml : mg "list" = none) (G_MOST : mg "MOST_WEIGHTS" = some (.int 12 tk)) (F : Fun K "are_weights" "are_weights" s_are_weights f fd) (C_is_above_0 : Cal P w K mg base CX0 3 "is_above_0" ["thing"] (sp_ab0Q K)) : FnG P w K mg base CX0 4 f fd ["thing"] (sp_areq K) := by
  refine (((ok_areqL M Mx ml G_MOST F C_is_above_0).or (ok_areqT M Mx ml G_MOST F C_is_above_0)).or (ok_areqN M Mx ml G_MOST F C_is_above_0)).imp fun vs H Q E h => ?_
  obtain ⟨v, d, rfl, hq, rg, k⟩ := h
  cases d with
  | list ds => exact .inl (.inl ⟨v, ds, rfl, hq, rg ds (.inl rfl), k⟩)
  | tuple ds => exact .inl (.inr ⟨v, ds, rfl, hq, rg ds (.inr rfl), k⟩)
  | none => exact .inr ⟨v, _, rfl, hq, rfl, rfl, k⟩
  | bool _ => exact .inr ⟨v, _, rfl, hq, rfl, rfl, k⟩
  | int _ => exact .inr ⟨v, _, rfl, hq, rfl, rfl, k⟩
  | str _ => exact .inr ⟨v, _, rfl, hq, rfl, rfl, k⟩
  | dict _ => exact .inr ⟨v, _, rfl, hq, rfl, rfl, k⟩

/-- why weights and a step are refused, and by which class -/
inductive Bad (K : PySem.W.Frag) (CW CS CT : Addr) (H : Hp) : V → V → Addr → Prop
  | w {v u : V} {d : PyData} : Dg K H v d → WsG d → isWts d = false → Bad K CW CS CT H v u CW
  | s {v u : V} {d e : PyData} : Dg K H v d → WsG d → isWts d = true → Dg K H u e → isAb e = false → Bad K CW CS CT H v u CS
  | t {a : Addr} {u : V} {xs : List V} {fs : List (Int × Int)} {st : Int × Int} : SqX K H a xs → AtKs K H xs fs → Wts fs → AtK K H u st → Wt st → many fs st = 0 → Bad K CW CS CT H (.ref a) u CT
theorem Bad.same {CW CS CT C : Addr} {H H' : Hp} {v u : V} (h : Bad K CW CS CT H v u C) (s : Same H H') : Bad K CW CS CT H' v u C := by
  cases h with
  | w a b c => exact .w (a.same s) b c
  | s a b c d e => exact .s (a.same s) b c (d.same s) e
  | t a b c d e f => exact .t (sm_x s a) (b.same s) c (d.same s) e f
/-- refused: rest is what comes behind the step -/
def sp_bad (K : PySem.W.Frag) (CW CS CT : Addr) (n : Nat) : Sp := fun vs H Q E => ∃ (v u : V) (rest : List V) (C : Addr), vs = v :: u :: rest ∧ rest.length = n ∧ Bad K CW CS CT H v u C ∧ ∀ H', Same H H' → E (.ref C) none H'
def sp_badQ (K : PySem.W.Frag) (CW CS : Addr) : Sp := fun vs H Q E => ∃ (v u : V) (d e : PyData), vs = [v, u] ∧ Dg K H v d ∧ WsG d ∧ (isWts d = true → Dg K H u e) ∧ (isWts d = false ∨ isAb e = false) ∧ ∀ H', Same H H' → E (.ref (if isWts d = false then CW else CS)) none H'
theorem ok_manyQ {f CW CS : Addr} {fd : FuncData} (XW : ExT K mg "NoWeights" CW) (XS : ExT K mg "NoStep" CS) (F : Fun K "many_steps" "many_steps" s_many_steps f fd) (C_are_weights : Cal P w K mg base CX0 4 "are_weights" ["thing"] (sp_areq K)) (C_is_above_0 : Cal P w K mg base CX0 3 "is_above_0" ["thing"] (sp_ab0Q K)) (C_together : Cal P w K mg base CX0 6 "together" ["ones"] (sp_togL K)) (C_over : Cal P w K mg base CX0 5 "over" ["one", "other"] (sp_over K)) (C_floor_of : Cal P w K mg base CX0 1 "floor_of" ["one"] (sp_floor K)) : FnG P w K mg base (L2N.CX P w) 7 f fd ["weights", "step"] (sp_badQ K CW CS) := by
  refine GfunX F sc_many_steps (fun vs H Q E h => ?_) (fun cdv A outer s H vs Q E hg hr h => ?_)
  · obtain ⟨v, u, d, e, rfl, _⟩ := h
    rfl
  · obtain ⟨v, u, d, e, rfl, hv, wg, hu, bad, k⟩ := h
    refine ⟨_, (pss_cons (ps_if (pt_not (pt_val (pe_g C_are_weights (hr.mono (by decide)) hg (pa_cons (pv 0) pa_nil))))
      (pss_one (L2N.ps_raise rfl (L2N.takes_of rfl rfl rfl rfl) (L2N.pmk_own PySem.F.excBase_ValueError XW.x XW.g XW.k (raises_own XW.b XW.t) rfl)))
      pss_nil)
      (pss_cons (ps_if (pt_not (pt_val (pe_g C_is_above_0 (hr.mono (by decide)) hg (pa_cons (pv 1) pa_nil))))
      (pss_one (L2N.ps_raise rfl (L2N.takes_of rfl rfl rfl rfl) (L2N.pmk_own PySem.F.excBase_ValueError XS.x XS.g XS.k (raises_own XS.b XS.t) rfl)))
      pss_nil)
      (pss_cons (ps_set (i := 2) sc_many_steps.nd rfl (.inl rfl) (pe_g C_floor_of (hr.mono (by decide)) hg (pa_cons (pe_g C_over (hr.mono (by decide)) hg (pa_cons (pe_g C_together (hr.mono (by decide)) hg (pa_cons (pv 0) pa_nil)) (pa_cons (pv 1) pa_nil))) pa_nil)))
      (pss_cons (ps_if (pt_cmpR op_eq (pv 2) pe_int (nomark _))
      (pss_one ps_dead)
      pss_nil)
      (pss_one (ps_ret (pv 2))))))), ?_⟩
    refine ⟨_, rfl, v, d, rfl, hv, wg, fun H1 s1 => ?_⟩
    by_cases ew : isWts d = false
    · rw [ew]
      rw [if_pos ew] at k
      refine ⟨_, rfl, iteT ?_⟩
      exact k H1 s1
    · rw [if_neg ew] at k
      rw [show isWts d = true by cases h : isWts d <;> simp_all]
      have es : isAb e = false := bad.resolve_left ew
      refine ⟨_, rfl, iteF ?_⟩
      refine ⟨_, rfl, u, e, rfl, (hu (by cases h : isWts d <;> simp_all)).same s1, ?_⟩
      rw [es]
      refine ⟨_, rfl, iteT ?_⟩
      exact k H1 s1

theorem ok_manyLN {f C : Addr} {fd : FuncData} (X : ExT K mg "TooLittle" C) (F : Fun K "many_steps" "many_steps" s_many_steps f fd) (C_are_weights : Cal P w K mg base CX0 4 "are_weights" ["thing"] (sp_arewL K)) (C_is_above_0 : Cal P w K mg base CX0 3 "is_above_0" ["thing"] (sp_ab0 K)) (C_together : Cal P w K mg base CX0 6 "together" ["ones"] (sp_togL K))
    (C_over : Cal P w K mg base CX0 5 "over" ["one", "other"] (sp_over K)) (C_floor_of : Cal P w K mg base CX0 1 "floor_of" ["one"] (sp_floor K)) : FnG P w K mg base (L2N.CX P w) 7 f fd ["weights", "step"] (sp_manyL K C) := by
  refine GfunX F sc_many_steps (fun vs H Q E h => ?_) (fun cdv A outer s H vs Q E hg hr h => ?_)
  · obtain ⟨a, v, xs, fs, st, rfl, _⟩ := h
    rfl
  · obtain ⟨a, v, xs, fs, st, rfl, hS, hA, hW, hv, hs, k⟩ := h
    refine ⟨_, (pss_cons (ps_if (pt_not (pt_val (pe_g C_are_weights (hr.mono (by decide)) hg (pa_cons (pv 0) pa_nil))))
      (pss_one ps_dead)
      pss_nil)
      (pss_cons (ps_if (pt_not (pt_val (pe_g C_is_above_0 (hr.mono (by decide)) hg (pa_cons (pv 1) pa_nil))))
      (pss_one ps_dead)
      pss_nil)
      (pss_cons (ps_set (i := 2) sc_many_steps.nd rfl (.inl rfl) (pe_g C_floor_of (hr.mono (by decide)) hg (pa_cons (pe_g C_over (hr.mono (by decide)) hg (pa_cons (pe_g C_together (hr.mono (by decide)) hg (pa_cons (pv 0) pa_nil)) (pa_cons (pv 1) pa_nil))) pa_nil)))
      (pss_cons (ps_if (pt_cmpR op_eq (pv 2) pe_int (nomark _))
      (pss_one (L2N.ps_raise rfl (L2N.takes_of rfl rfl rfl rfl) (L2N.pmk_own PySem.F.excBase_ValueError X.x X.g X.k (raises_own X.b X.t) rfl)))
      pss_nil)
      (pss_one (ps_ret (pv 2))))))), ?_⟩
    refine ⟨_, rfl, a, xs, fs, rfl, hS, hA, hW, fun H1 s1 => ⟨_, rfl, iteF ?_⟩⟩
    refine ⟨_, rfl, v, st, rfl, hv.same s1, hs.lo, _, rfl, ?_⟩
    rw [decide_eq_true hs.po]
    refine iteF ?_
    refine ⟨_, rfl, a, xs, fs, 41, rfl, sm_l s1 hS, hA.same s1, hW.f, hW.b, by decide, ?_, fun H2 u s2 hu => ?_⟩
    · have := hW.few
      omega
    have hu' : AtK K H2 u (tot fs) := hu
    refine ⟨_, rfl, _, _, _, _, pr_atk hu' ((hv.same s1).same s2) (tot_f hW.f) hs.lo (tot_bt hW) hs.bt (by decide) (by decide), ?_, fun H3 p3 s3 e3 => ?_⟩
    · have := hs.po
      omega
    have hfd : IsF (fdiv (tot fs) st) := fdiv_f (tot_f hW.f) (by have := hs.po; omega)
    have hbd : Bt 546 (fdiv (tot fs) st) := fdiv_bt (tot_f hW.f) (by have := hs.po; omega) (tot_bt hW) hs.bt
    refine ⟨.ref p3, fdiv (tot fs) st, rfl, AtK.of e3, hfd.ne, Sm.mid (hbd.sm (by decide)).2, ?_⟩
    rw [many_is hW hs]
    have k3 := k H3 ((s1.trans s2).trans s3)
    refine ⟨_, rfl, rfl, _, rfl, ite2 (fun e => ?_) (fun e => ?_)⟩
    · exact k3.2 (V.int.inj (of_decide_eq_true e))
    · exact ⟨_, rfl, k3.1 fun z => e (by rw [z]; decide)⟩

theorem ok_manyTN {f C : Addr} {fd : FuncData} (X : ExT K mg "TooLittle" C) (F : Fun K "many_steps" "many_steps" s_many_steps f fd) (C_are_weights : Cal P w K mg base CX0 4 "are_weights" ["thing"] (sp_arewT K)) (C_is_above_0 : Cal P w K mg base CX0 3 "is_above_0" ["thing"] (sp_ab0 K)) (C_together : Cal P w K mg base CX0 6 "together" ["ones"] (sp_togT K))
    (C_over : Cal P w K mg base CX0 5 "over" ["one", "other"] (sp_over K)) (C_floor_of : Cal P w K mg base CX0 1 "floor_of" ["one"] (sp_floor K)) : FnG P w K mg base (L2N.CX P w) 7 f fd ["weights", "step"] (sp_manyT K C) := by
  refine GfunX F sc_many_steps (fun vs H Q E h => ?_) (fun cdv A outer s H vs Q E hg hr h => ?_)
  · obtain ⟨a, v, xs, fs, st, rfl, _⟩ := h
    rfl
  · obtain ⟨a, v, xs, fs, st, rfl, hS, hA, hW, hv, hs, k⟩ := h
    refine ⟨_, (pss_cons (ps_if (pt_not (pt_val (pe_g C_are_weights (hr.mono (by decide)) hg (pa_cons (pv 0) pa_nil))))
      (pss_one ps_dead)
      pss_nil)
      (pss_cons (ps_if (pt_not (pt_val (pe_g C_is_above_0 (hr.mono (by decide)) hg (pa_cons (pv 1) pa_nil))))
      (pss_one ps_dead)
      pss_nil)
      (pss_cons (ps_set (i := 2) sc_many_steps.nd rfl (.inl rfl) (pe_g C_floor_of (hr.mono (by decide)) hg (pa_cons (pe_g C_over (hr.mono (by decide)) hg (pa_cons (pe_g C_together (hr.mono (by decide)) hg (pa_cons (pv 0) pa_nil)) (pa_cons (pv 1) pa_nil))) pa_nil)))
      (pss_cons (ps_if (pt_cmpR op_eq (pv 2) pe_int (nomark _))
      (pss_one (L2N.ps_raise rfl (L2N.takes_of rfl rfl rfl rfl) (L2N.pmk_own PySem.F.excBase_ValueError X.x X.g X.k (raises_own X.b X.t) rfl)))
      pss_nil)
      (pss_one (ps_ret (pv 2))))))), ?_⟩
    refine ⟨_, rfl, a, xs, fs, rfl, hS, hA, hW, fun H1 s1 => ⟨_, rfl, iteF ?_⟩⟩
    refine ⟨_, rfl, v, st, rfl, hv.same s1, hs.lo, _, rfl, ?_⟩
    rw [decide_eq_true hs.po]
    refine iteF ?_
    refine ⟨_, rfl, a, xs, fs, 41, rfl, sm_t s1 hS, hA.same s1, hW.f, hW.b, by decide, ?_, fun H2 u s2 hu => ?_⟩
    · have := hW.few
      omega
    have hu' : AtK K H2 u (tot fs) := hu
    refine ⟨_, rfl, _, _, _, _, pr_atk hu' ((hv.same s1).same s2) (tot_f hW.f) hs.lo (tot_bt hW) hs.bt (by decide) (by decide), ?_, fun H3 p3 s3 e3 => ?_⟩
    · have := hs.po
      omega
    have hfd : IsF (fdiv (tot fs) st) := fdiv_f (tot_f hW.f) (by have := hs.po; omega)
    have hbd : Bt 546 (fdiv (tot fs) st) := fdiv_bt (tot_f hW.f) (by have := hs.po; omega) (tot_bt hW) hs.bt
    refine ⟨.ref p3, fdiv (tot fs) st, rfl, AtK.of e3, hfd.ne, Sm.mid (hbd.sm (by decide)).2, ?_⟩
    rw [many_is hW hs]
    have k3 := k H3 ((s1.trans s2).trans s3)
    refine ⟨_, rfl, rfl, _, rfl, ite2 (fun e => ?_) (fun e => ?_)⟩
    · exact k3.2 (V.int.inj (of_decide_eq_true e))
    · exact ⟨_, rfl, k3.1 fun z => e (by rw [z]; decide)⟩

/-! ### aims -/
theorem ok_manyR {f CW CS CT : Addr} {fd : FuncData} {k : Nat} (A : FnG P w K mg base (L2N.CX P w) k f fd ["weights", "step"] (sp_badQ K CW CS)) (B : FnG P w K mg base (L2N.CX P w) k f fd ["weights", "step"] (sp_manyL K CT)) (D : FnG P w K mg base (L2N.CX P w) k f fd ["weights", "step"] (sp_manyT K CT)) : FnG P w K mg base (L2N.CX P w) k f fd ["weights", "step"] (sp_bad K CW CS CT 0) := by
  refine (A.or (B.or D)).imp fun vs H Q E h => ?_
  obtain ⟨v, u, rest, C, rfl, hl, bad, k⟩ := h
  obtain rfl := List.length_eq_zero_iff.mp hl
  cases bad with
  | w hd wg ew => exact .inl ⟨v, u, _, .none, rfl, hd, wg, (fun z => absurd (ew.symm.trans z) (by decide)), .inl ew, fun H' s => by rw [if_pos ew]; exact k H' s⟩
  | s hd wg ew he es => exact .inl ⟨v, u, _, _, rfl, hd, wg, (fun _ => he), .inr es, fun H' s => by rw [if_neg (by rw [ew]; decide)]; exact k H' s⟩
  | t hS hA hW hu hs m0 =>
    refine .inr ?_
    rcases hS with z | z
    · exact .inl ⟨_, u, _, _, _, rfl, z, hA, hW, hu, hs, fun H' s => ⟨fun n => absurd m0 n, fun _ => k H' s⟩⟩
    · exact .inr ⟨_, u, _, _, _, rfl, z, hA, hW, hu, hs, fun H' s => ⟨fun n => absurd m0 n, fun _ => k H' s⟩⟩

theorem ok_aimsR {f CW CS CT : Addr} {fd : FuncData}  (F : Fun K "aims" "aims" s_aims f fd) (C_many_steps : Cal P w K mg base (L2N.CX P w) 7 "many_steps" ["weights", "step"] (sp_bad K CW CS CT 0)) (C_together : Cal P w K mg base CX0 6 "together" ["ones"] (sp_togX K)) (C_over : Cal P w K mg base CX0 5 "over" ["one", "other"] (sp_over K)) : FnG P w K mg base (L2N.CX P w) 8 f fd ["weights", "step"] (sp_bad K CW CS CT 0) := by
  refine GfunX F sc_aims (fun vs H Q E h => ?_) (fun cdv A outer s H vs Q E hg hr h => ?_)
  · obtain ⟨v, u, rest, C, rfl, hl, bad, k⟩ := h
    obtain rfl := List.length_eq_zero_iff.mp hl
    rfl
  · obtain ⟨v, u, rest, C, rfl, hl, bad, k⟩ := h
    obtain rfl := List.length_eq_zero_iff.mp hl
    refine ⟨_, (pss_cons (ps_set (i := 2) sc_aims.nd rfl (.inr rfl) (pe_g C_over (hr.mono (by decide)) hg (pa_cons (pe_tup (pa_cons (pe_gS C_many_steps (hr.mono (by decide)) hg (fun σ => L2N.passAt (L2N.takes_of rfl rfl rfl rfl) σ) (pa_cons (pv 0) (pa_cons (pv 1) pa_nil))) (pa_cons pe_int pa_nil))) (pa_cons (pe_g C_together (hr.mono (by decide)) hg (pa_cons (pv 0) pa_nil)) pa_nil))))
      (pss_one ps_dead)), ?_⟩
    refine ⟨_, rfl, _, rfl, v, u, [], C, rfl, rfl, bad, fun H1 s1 => ?_⟩
    exact k H1 s1

theorem ok_nearestR {f CW CS CT : Addr} {fd : FuncData}  (F : Fun K "nearest" "nearest" s_nearest f fd) (C_aims : Cal P w K mg base (L2N.CX P w) 8 "aims" ["weights", "step"] (sp_bad K CW CS CT 0)) : FnG P w K mg base (L2N.CX P w) 10 f fd ["weights", "step"] (sp_bad K CW CS CT 0) := by
  refine GfunX F sc_nearest (fun vs H Q E h => ?_) (fun cdv A outer s H vs Q E hg hr h => ?_)
  · obtain ⟨v, u, rest, C, rfl, hl, bad, k⟩ := h
    obtain rfl := List.length_eq_zero_iff.mp hl
    rfl
  · obtain ⟨v, u, rest, C, rfl, hl, bad, k⟩ := h
    obtain rfl := List.length_eq_zero_iff.mp hl
    refine ⟨_, (pss_cons (ps_set (i := 2) sc_nearest.nd rfl (.inl rfl) (pe_gS C_aims (hr.mono (by decide)) hg (fun σ => L2N.passAt (L2N.takes_of rfl rfl rfl rfl) σ) (pa_cons (pv 0) (pa_cons (pv 1) pa_nil))))
      (pss_cons ps_dead
      (pss_cons ps_dead
      (pss_cons ps_dead
      (pss_cons ps_dead
      (pss_one ps_dead)))))), ?_⟩
    refine ⟨_, rfl, _, rfl, v, u, [], C, rfl, rfl, bad, fun H1 s1 => ?_⟩
    exact k H1 s1

theorem ok_roundedR {f CW CS CT : Addr} {fd : FuncData}  (F : Fun K "rounded" "rounded" s_rounded f fd) (C_nearest : Cal P w K mg base (L2N.CX P w) 10 "nearest" ["weights", "step"] (sp_bad K CW CS CT 0)) : FnG P w K mg base (L2N.CX P w) 11 f fd ["weights", "step"] (sp_bad K CW CS CT 0) := by
  refine GfunX F sc_rounded (fun vs H Q E h => ?_) (fun cdv A outer s H vs Q E hg hr h => ?_)
  · obtain ⟨v, u, rest, C, rfl, hl, bad, k⟩ := h
    obtain rfl := List.length_eq_zero_iff.mp hl
    rfl
  · obtain ⟨v, u, rest, C, rfl, hl, bad, k⟩ := h
    obtain rfl := List.length_eq_zero_iff.mp hl
    refine ⟨_, (pss_cons (ps_set (i := 2) sc_rounded.nd rfl (.inl rfl) (pe_gS C_nearest (hr.mono (by decide)) hg (fun σ => L2N.passAt (L2N.takes_of rfl rfl rfl rfl) σ) (pa_cons (pv 0) (pa_cons (pv 1) pa_nil))))
      (pss_cons ps_dead
      (pss_one ps_dead))), ?_⟩
    refine ⟨_, rfl, _, rfl, v, u, [], C, rfl, rfl, bad, fun H1 s1 => ?_⟩
    exact k H1 s1

theorem ok_paperR {f CW CS CT : Addr} {fd : FuncData}  (F : Fun K "paper" "paper" s_paper f fd) (C_aims : Cal P w K mg base (L2N.CX P w) 8 "aims" ["weights", "step"] (sp_bad K CW CS CT 0)) (C_above_floor : Cal P w K mg base CX0 6 "above_floor" ["one"] (sp_above K)) : FnG P w K mg base (L2N.CX P w) 9 f fd ["weights", "step", "bound"] (sp_bad K CW CS CT 1) := by
  refine GfunX F sc_paper (fun vs H Q E h => ?_) (fun cdv A outer s H vs Q E hg hr h => ?_)
  · obtain ⟨v, u, rest, C, rfl, hl, bad, k⟩ := h
    obtain ⟨x0, rfl⟩ := List.length_eq_one_iff.mp hl
    rfl
  · obtain ⟨v, u, rest, C, rfl, hl, bad, k⟩ := h
    obtain ⟨x0, rfl⟩ := List.length_eq_one_iff.mp hl
    refine ⟨_, (pss_cons (ps_setLc (i := 3) (own := [("aim", 6)]) (g := gName 6) (tt := tYes) rfl sc_paper.nd rfl rfl (sw_true rfl rfl rfl (by decide +kernel)) (pi_list (pe_gS C_aims (hr.mono (by decide)) hg (fun σ => L2N.passAt (L2N.takes_of rfl rfl rfl rfl) σ) (pa_cons (pv 0) (pa_cons (pv 1) pa_nil)))) (blkOk_by (N := ["weights", "step", "bound", "aboves", "up", "down", "aim", "place", "above"]) (sc := defScope s_paper) (by decide +kernel)) (fun _ _ _ _ _ => pg_name (i := 6) sc_paper.nd rfl (Or.inl rfl)) (fun _ _ _ _ _ => pts_nil) (fun _ _ _ _ _ => (pe_g C_above_floor (hr.mono (by decide)) hg (pa_cons (pv 6) pa_nil))))
      (pss_cons ps_dead
      (pss_cons ps_dead
      (pss_one ps_dead)))), ?_⟩
    refine ⟨_, rfl, _, rfl, v, u, [], C, rfl, rfl, bad, fun H1 s1 => ?_⟩
    exact k H1 s1

theorem ok_worst_ofR {f CW CS CT : Addr} {fd : FuncData} {c0 : Addr} (M : Blt mg) (Mz : mg "zip" = none) (g0 : mg "NONE_OF_IT" = some (.ref c0)) (F : Fun K "worst_of" "worst_of" s_worst_of f fd) (C_aims : Cal P w K mg base (L2N.CX P w) 8 "aims" ["weights", "step"] (sp_bad K CW CS CT 0)) : FnG P w K mg base (L2N.CX P w) 9 f fd ["weights", "step", "counted"] (sp_bad K CW CS CT 1) := by
  refine GfunX F sc_worst_of (fun vs H Q E h => ?_) (fun cdv A outer s H vs Q E hg hr h => ?_)
  · obtain ⟨v, u, rest, C, rfl, hl, bad, k⟩ := h
    obtain ⟨x0, rfl⟩ := List.length_eq_one_iff.mp hl
    rfl
  · obtain ⟨v, u, rest, C, rfl, hl, bad, k⟩ := h
    obtain ⟨x0, rfl⟩ := List.length_eq_one_iff.mp hl
    refine ⟨_, (pss_cons (ps_set (i := 3) sc_worst_of.nd rfl (.inl rfl) (pe_glob (v := .ref c0) rfl g0 rfl))
      (pss_cons (ps_for (passes_of rfl) rfl (RZ.pi_zipA rfl Mz (pa_cons (pe_gS C_aims (hr.mono (by decide)) hg (fun σ => L2N.passAt (L2N.takes_of rfl rfl rfl rfl) σ) (pa_cons (pv 0) (pa_cons (pv 1) pa_nil))) (pa_cons (pv 2) pa_nil))) (pg_tup rfl (pgs_cons (pg_name (i := 4) sc_worst_of.nd rfl (.inl rfl)) (pgs_cons (pg_name (i := 5) sc_worst_of.nd rfl (.inl rfl)) pgs_nil)))
      (pss_cons ps_dead
      (pss_one ps_dead)))
      (pss_one ps_dead))), ?_⟩
    refine ⟨_, rfl, _, rfl, v, u, [], C, rfl, rfl, bad, fun H1 s1 => ?_⟩
    exact k H1 s1

theorem ok_showsR {f CW CS CT : Addr} {fd : FuncData}  (F : Fun K "shows" "shows" s_shows f fd) (C_paper : Cal P w K mg base (L2N.CX P w) 9 "paper" ["weights", "step", "bound"] (sp_bad K CW CS CT 1)) : FnG P w K mg base (L2N.CX P w) 10 f fd ["weights", "step", "bound", "thing"] (sp_bad K CW CS CT 2) := by
  refine GfunX F sc_shows (fun vs H Q E h => ?_) (fun cdv A outer s H vs Q E hg hr h => ?_)
  · obtain ⟨v, u, rest, C, rfl, hl, bad, k⟩ := h
    obtain ⟨x0, x1, rfl⟩ : ∃ x0 x1 : V, rest = [x0, x1] := by
      match rest, hl with
      | [a, b], _ => exact ⟨a, b, rfl⟩
    rfl
  · obtain ⟨v, u, rest, C, rfl, hl, bad, k⟩ := h
    obtain ⟨x0, x1, rfl⟩ : ∃ x0 x1 : V, rest = [x0, x1] := by
      match rest, hl with
      | [a, b], _ => exact ⟨a, b, rfl⟩
    refine ⟨_, (pss_cons (ps_set (i := 4) sc_shows.nd rfl (.inl rfl) (pe_gS C_paper (hr.mono (by decide)) hg (fun σ => L2N.passAt (L2N.takes_of rfl rfl rfl rfl) σ) (pa_cons (pv 0) (pa_cons (pv 1) (pa_cons (pv 2) pa_nil)))))
      (pss_cons ps_dead
      (pss_cons ps_dead
      (pss_cons ps_dead
      (pss_cons ps_dead
      (pss_one ps_dead)))))), ?_⟩
    refine ⟨_, rfl, _, rfl, _, rfl, v, u, [x0], C, rfl, rfl, bad, fun H1 s1 => ?_⟩
    exact k H1 s1

end
end Lf

set_option Elab.async false
set_option linter.all false
set_option maxRecDepth 100000
set_option maxHeartbeats 4000000
/-! max of a tuple of two whole numbers; isinstance of a caught error and a tuple of classes. -/
namespace Lf
open PySem PySem.Spec PyProof.Rows L2
def rMaxT2 (K : PySem.W.Frag) : List V → Hp → VK → Prop := fun xs H Q => ∃ (p : Addr) (i j : Int), xs = [.ref p] ∧ SqT K H p [.int i, .int j] ∧ ∀ m : Int, i ≤ m → j ≤ m → Q (.int m) H
theorem call_maxT2 {X : Cx} (hc : X.calm = true) {k : Nat} (hr : Room k X.A) : CallR X (.builtin "max") (rMaxT2 X.K) := by
  intro pins s σ H xs us Q I r h
  obtain ⟨p, i, j, rfl, hS, q⟩ := h
  obtain ⟨its, rv, ht, _⟩ := I.tuple hS
  rw [Vals.ref1 r]
  have hu := hr.units
  have rd : ∃ as, ReadsAll s.heap its [PyData.int i, PyData.int j] as := by
    cases rv with
    | cons r1 rv =>
      cases rv with
      | cons r2 rv =>
        cases rv
        obtain ⟨t1, rfl⟩ := r1
        obtain ⟨t2, rfl⟩ := r2
        exact ⟨_, .cons (.int i t1) (.cons (.int j t2) .nil)⟩
  obtain ⟨as, rd⟩ := rd
  have al : PySem.W.AlikeAll [PyData.int i, PyData.int j] := by
    refine ⟨fun x hx y hy => ?_, fun x hx => ?_⟩
    · simp only [List.mem_cons, List.not_mem_nil, or_false] at hx hy
      rcases hx with rfl | rfl <;> rcases hy with rfl | rfl <;> rfl
    · simp only [List.mem_cons, List.not_mem_nil, or_false] at hx
      rcases hx with rfl | rfl <;> exact fun z => nomatch z
  refine PySem.W.max_tuple_data (x := .int i) (xs := [.int j]) (as := as) (I.ok.hd hc) ht (by simpa using rd) al (by simp only [PyData.depthAll, PyData.depth]; omega) fun n v h' tk bs hn rr hk => ?_
  have e : PySem.W.maxD (.int i) [PyData.int j] = .int (max i j) := PySem.W.maxD_ints i [j]
  rw [e] at rr
  cases rr with
  | int _ t => exact ⟨.int (max i j), H, I.kept hk, ⟨_, rfl⟩, q _ (by omega) (by omega)⟩
/-- isinstance(e, (C1, ..)), e the error that the suite holds -/
def rIsXT (K : PySem.W.Frag) (D a : Addr) (cls : Value) (d : Option Addr) : List V → Hp → VK → Prop := fun xs H Q => cls = .ref D ∧ (d = none ∨ ∃ (dd : Addr) (fs : List (Str × V)), d = some dd ∧ H dd = some (.xd fs)) ∧
  ∃ (tp : Addr) (cs : List V) (ws : List Value) (b : Bool), xs = [.ref a, .ref tp] ∧ H tp = some (.tup cs) ∧ Paired ClsV cs ws ∧ PySem.W.kitAny K (.ref D) ws = some b ∧ Q (.bl b) H
theorem call_isXT {X : Cx} {a D : Addr} {oe : Obj} {cls : Value} {d : Option Addr} {pn : List (Addr × Obj)} (C : ExcC X.K D) (hz : Zc cls d oe) (hf : ∃ vs, oe.data = .fields vs) : CallR (X.suite a ((a, oe) :: pn)) (.builtin "isinstance") (rIsXT X.K D a cls d) := by
  intro pins s σ H xs us Q I r h
  obtain ⟨ec, hd, tp, cs, ws, b, rfl, hT, hcv, e, q⟩ := h
  obtain ⟨u1, u2, rfl, r1, r2⟩ := vals2 r
  cases (show u2 = Value.ref tp from r2)
  cases (show u1 = Value.ref a from r1)
  obtain ⟨_, its, rv, o, h1, h2, n, h3⟩ := (show ObjOk X.prog X.w H s.heap tp (.tup cs) from I.hok tp _ hT)
  have e3 := ClsV.all hcv rv
  subst e3
  obtain ⟨oc, od0, dt, sl⟩ := o
  simp only at h2 h3
  subst h2 h3
  obtain ⟨hget, _⟩ := I.pin (a, oe) (List.mem_append.mpr (.inl List.mem_cons_self))
  obtain ⟨vs, hv⟩ := hf
  have J : ∃ od, PySem.W.InstAt s.heap a oe D od := by
    rcases hd with hd | ⟨dd, fs, hd, hH⟩
    · exact ⟨none, hget, by rw [hz.1, ec], by unfold PySem.W.notCls; rw [hv] <;> rfl, by rw [hz.2, hd]; trivial⟩
    · have hx : ObjOk X.prog X.w H s.heap dd (.xd fs) := I.hok dd _ hH
      obtain ⟨o, ho⟩ := objOk_get hx
      exact ⟨some o, hget, by rw [hz.1, ec], by unfold PySem.W.notCls; rw [hv] <;> rfl, by rw [hz.2, hd]; exact ho⟩
  obtain ⟨od, J⟩ := J
  exact PySem.W.kia_tup (kit_own (od := od) C) I.kIn J h1 e (fun z => nomatch z) fun tk => ⟨.bl b, H, I.kept (t' := tk) fun _ _ z => z, rfl, q⟩
end Lf

set_option Elab.async false
set_option linter.all false
set_option maxRecDepth 100000
set_option maxHeartbeats 4000000
set_option exponentiation.threshold 3000
namespace Lf
open PySem PySem.Spec PyProof.Rows L2
theorem pot_same {H H' : Hp} {q : Addr} (h : Pot H q) (s : Same H H') : Pot H' q := by
  obtain ⟨x, y, a, b, e⟩ := h
  exact ⟨x, y, a, b, s _ _ e⟩
theorem pot_ne {q p : Addr} {H : Hp} (h : Pot H q) (n : H p = none) : p ≠ q := fun z => by
  obtain ⟨x, y, _, _, e⟩ := h
  rw [← z, n] at e
  cases e
section
variable {P : Program} {w : World} {K : PySem.W.Frag} {mg : Str → Option Value} {base : Heap}
theorem AtK.but {q : Addr} {H H' : Hp} {v : V} {f : Int × Int} (b : But q H H') (hP : Pot H q) (h : AtK K H v f) : AtK K H' v f := by
  obtain ⟨p, e, h⟩ := h
  obtain ⟨x, y, _, _, eq⟩ := hP
  refine ⟨p, e, ?_⟩
  rcases h with (h | ⟨ob, h⟩) | h
  · exact .inl (.inl (b _ _ (fun z => by rw [z, eq] at h; cases h) h))
  · exact .inl (.inr ⟨ob, b _ _ (fun z => by rw [z, eq] at h; cases h) h⟩)
  · exact .inr h
theorem AtKs.but {q : Addr} {H H' : Hp} {vs : List V} {fs : List (Int × Int)} (b : But q H H') (hP : Pot H q) (h : AtKs K H vs fs) : AtKs K H' vs fs := h.map fun _ _ => AtK.but b hP
theorem sql_but {H H' : Hp} {q t : Addr} {xs : List V} (b : But q H H') (n : t ≠ q) (h : SqL K H t xs) : SqL K H' t xs := by
  rcases h with (h | ⟨ob, h⟩) | h
  · exact .inl (.inl (b _ _ n h))
  · exact .inl (.inr ⟨ob, b _ _ n h⟩)
  · exact .inr h
theorem AtK.upd {H : Hp} {L : Addr} {xs ys : List V} {v : V} {f : Int × Int} (hL : H L = some (.lst xs)) (h : AtK K H v f) : AtK K (L2.upd H L (.lst ys)) v f := by
  obtain ⟨p, e, h⟩ := h
  refine ⟨p, e, ?_⟩
  rcases h with (h | ⟨ob, h⟩) | h
  · exact .inl (.inl (by rw [upd_ne (fun z => by rw [z, hL] at h; cases h)]; exact h))
  · exact .inl (.inr ⟨ob, by rw [upd_ne (fun z => by rw [z, hL] at h; cases h)]; exact h⟩)
  · exact .inr h
theorem AtKs.drop {H : Hp} : ∀ (n : Nat) {vs : List V} {fs : List (Int × Int)}, AtKs K H vs fs → AtKs K H (vs.drop n) (fs.drop n)
  | 0, _, _, h => h
  | _ + 1, _, _, .nil => .nil
  | n + 1, _, _, .cons _ r => AtKs.drop n r
theorem AtKs.take {H : Hp} : ∀ (n : Nat) {vs : List V} {fs : List (Int × Int)}, AtKs K H vs fs → AtKs K H (vs.take n) (fs.take n)
  | 0, _, _, _ => .nil
  | _ + 1, _, _, .nil => .nil
  | n + 1, _, _, .cons a r => .cons a (AtKs.take n r)
theorem AtKs.rep {H : Hp} {v : V} {f : Int × Int} (h : AtK K H v f) : ∀ n : Nat, AtKs K H (List.replicate n [v]).flatten (List.replicate n f)
  | 0 => .nil
  | n + 1 => .cons h (AtKs.rep h n)
theorem wt_low {n d : Int} (hn : 0 < n) (hd : 0 < d) (bn : n < 2 ^ 41) (bd : d < 2 ^ 41) : Wt (low n d) := by
  refine ⟨low_f (by omega), low_top_pos hd hn, low_bt (by omega) ?_ ?_⟩ <;> omega
theorem mid41 {n : Int} (h0 : 0 ≤ n) (h1 : n < 2 ^ 41) : Mid n := Nat.lt_of_lt_of_le (show n.natAbs < 2 ^ 41 by omega) (Nat.pow_le_pow_right (by decide) (by decide))
/-- a weight is told, the pot drawn from -/
def GivesW (K : PySem.W.Frag) (H : Hp) (q : Addr) (Q : VK) : Prop := ∀ (v : V) (f : Int × Int) (H' : Hp), AtK K H' v f → Wt f → Pot H' q → But q H H' → Q v H'

/-! ### _law_sum -/
theorem sc__law_sum : FnScope ["_law_one", "_law_other"] ["_law_one", "_law_other"] (defScope s__law_sum) := ⟨rfl, rfl, rfl, by decide +kernel, rfl, by decide +kernel, by decide +kernel⟩
theorem ok_lsum {f : Addr} {fd : FuncData} (F : Fun K "_law_sum" "_law_sum" s__law_sum f fd) (C__law_low : Cal P w K mg base CX0 1 "_law_low" ["_law_top", "_law_bottom"] sp_low) : FnG P w K mg base CX0 2 f fd ["_law_one", "_law_other"] (sp_plus K) := by
  refine Gfun F sc__law_sum (fun vs H Q E h => ?_) (fun cdv A outer s H vs Q E hg hr h => ?_)
  · obtain ⟨a, b, c, d, h, _⟩ := h
    obtain ⟨p, q, rfl, _⟩ := h.ex
    rfl
  · obtain ⟨a, b, c, d, h, k⟩ := h
    obtain ⟨p, q, rfl, hp, hq⟩ := h.ex
    refine ⟨_, (pss_one (ps_ret (pe_g C__law_low (hr.mono (by decide)) hg (pa_cons (pe_op op_add (pe_op op_mulW (pe_ix ix_tup (pv 0) pe_int (fun _ _ => rfl)) (pe_ix ix_tup (pv 1) pe_int (fun _ _ => rfl))) (pe_op op_mulW (pe_ix ix_tup (pv 1) pe_int (fun _ _ => rfl)) (pe_ix ix_tup (pv 0) pe_int (fun _ _ => rfl)))) (pa_cons (pe_op op_mulW (pe_ix ix_tup (pv 0) pe_int (fun _ _ => rfl)) (pe_ix ix_tup (pv 1) pe_int (fun _ _ => rfl))) pa_nil))))), ?_⟩
    refine ⟨_, rfl, p, _, _, _, rfl, rfl, hp, rfl, _, rfl, q, _, _, _, rfl, rfl, hq, rfl, _, _, rfl, rfl, Sm.mulW h.a1 h.d1, ?_⟩
    refine ⟨_, rfl, q, _, _, _, rfl, rfl, hq, rfl, _, rfl, p, _, _, _, rfl, rfl, hp, rfl, _, _, rfl, rfl, Sm.mulW h.c1 h.b1, ?_⟩
    refine ⟨_, _, rfl, rfl, ?_⟩
    refine ⟨_, rfl, p, _, _, _, rfl, rfl, hp, rfl, _, rfl, q, _, _, _, rfl, rfl, hq, rfl, _, _, rfl, rfl, Sm.mulW h.b1 h.d1, ?_⟩
    exact ⟨_, _, rfl, mul_ne h.hb h.hd, Sm.mul h.b1 h.d1, k⟩

/-! ### _law_total -/
theorem sc__law_total : FnScope ["_law_some_here", "_law_found", "_law_one"] ["_law_some_here"] (defScope s__law_total) := ⟨rfl, rfl, rfl, by decide +kernel, rfl, by decide +kernel, by decide +kernel⟩
theorem ok_ltotal {f : Addr} {fd : FuncData} (F : Fun K "_law_total" "_law_total" s__law_total f fd) (C__law_sum : Cal P w K mg base CX0 2 "_law_sum" ["_law_one", "_law_other"] (sp_plus K)) : FnG P w K mg base CX0 3 f fd ["_law_some_here"] (sp_togL K) := by
  refine Gfun F sc__law_total (fun vs H Q E h => ?_) (fun cdv A outer s H vs Q E hg hr h => ?_)
  · obtain ⟨L, xs, fs, b, rfl, _⟩ := h
    rfl
  · obtain ⟨L, xs, fs, b, rfl, hS, hA, hF, hB, hb8, hlen, k⟩ := h
    refine ⟨_, (pss_cons (ps_set (i := 1) sc__law_total.nd rfl (.inl rfl) (pe_tup (pa_cons pe_int (pa_cons pe_int pa_nil))))
      (pss_cons (ps_for PassesOwn.never rfl (pi_list (pv 0)) (pg_name (i := 2) sc__law_total.nd rfl (.inl rfl))
      (pss_one (ps_set (i := 1) sc__law_total.nd rfl (.inl rfl) (pe_g C__law_sum (hr.mono (by decide)) hg (pa_cons (pv 1) (pa_cons (pv 2) pa_nil))))))
      (pss_one (ps_ret (pv 1))))), ?_⟩
    refine ⟨len_show (Nat.le_of_ble_eq_true rfl), fun p0 n0 => ?_⟩
    have s0 : Same H (L2.upd H p0 (.tup [.int 0, .int 1])) := same_new n0
    have a0 : AtK K (L2.upd H p0 (.tup [.int 0, .int 1])) (.ref p0) f0 := AtK.of upd_same
    generalize L2.upd H p0 (.tup [.int 0, .int 1]) = H0 at s0 a0 ⊢
    refine ⟨_, rfl, L, rfl, ⟨_, sm_l s0 hS⟩, for_list (K := K) (a := L) (xs := xs) (fun i σ H' => ∃ (v : Option V) (t : V), σ = [some (.ref L), some t, v] ∧ Same H H' ∧ AtK K H' t ((fs.take i).foldl fadd f0))
      ⟨none, .ref p0, rfl, s0, a0⟩ (fun i σ H' _ ⟨_, _, _, sm, _⟩ => sm.seq hS) ?_ ?_⟩
    · rintro i x σ H' hi ⟨v, t, rfl, sm, ht⟩
      obtain ⟨g, hgi, hx0⟩ := hA.get hi
      have hx := hx0.same sm
      have hgf : IsF g := hF g (List.mem_of_getElem? hgi)
      have bg : Bt b g := hB g (List.mem_of_getElem? hgi)
      have hil : i < fs.length := (List.getElem?_eq_some_iff.mp hgi).1
      have htl : (fs.take i).length = i := by rw [List.length_take]; omega
      have hmn : (b + 1) * i ≤ (b + 1) * fs.length := Nat.mul_le_mul_left _ (Nat.le_of_lt hil)
      have fa := (sum_fold (fs.take i) f0 f0_f (take_all hF i)).1
      have ba := add_bt (b := b) (fs.take i) 1 f0 f0_f (take_all hF i) bt01.1 (fun f hf => hB f (List.mem_of_mem_take hf))
      rw [htl] at ba
      refine ⟨_, rfl, _, rfl, _, _, _, _, pr_atk ht hx fa hgf ba bg (by omega) hb8, fun H2 t' s2 e2 => ?_⟩
      refine ⟨some x, _, rfl, sm.trans s2, ?_⟩
      rw [fold_take _ _ hgi]
      exact AtK.of e2
    · rintro σ H' ⟨v, t, rfl, sm, ht⟩
      refine ⟨_, rfl, k H' t sm ?_⟩
      rw [hA.length, List.take_length] at ht
      exact ht

/-! ### _law_some -/
theorem sc__law_some : FnScope ["_law_pot_here"] ["_law_pot_here"] (defScope s__law_some) := ⟨rfl, rfl, rfl, by decide +kernel, rfl, by decide +kernel, by decide +kernel⟩
def sp_wsome (K : PySem.W.Frag) : Sp := fun vs H Q _ => ∃ q : Addr, vs = [.ref q] ∧ Pot H q ∧ GivesW K H q Q
theorem ok_wsome {f : Addr} {fd : FuncData} (F : Fun K "_law_some" "_law_some" s__law_some f fd) (C__law_draw : Cal P w K mg base CX0 1 "_law_draw" ["_law_pot_here", "_law_many"] sp_draw) (C__law_low : Cal P w K mg base CX0 1 "_law_low" ["_law_top", "_law_bottom"] sp_low) : FnG P w K mg base CX0 2 f fd ["_law_pot_here"] (sp_wsome K) := by
  refine Gfun F sc__law_some (fun vs H Q E h => ?_) (fun cdv A outer s H vs Q E hg hr h => ?_)
  · obtain ⟨q, rfl, _⟩ := h
    rfl
  · obtain ⟨q, rfl, hP, k⟩ := h
    refine ⟨_, (pss_cons (ps_if (pt_cmpR op_eq (pe_g C__law_draw (hr.mono (by decide)) hg (pa_cons (pv 0) (pa_cons pe_int pa_nil))) pe_int (nomark _))
      (pss_one (ps_ret (pe_g C__law_low (hr.mono (by decide)) hg (pa_cons (pe_op op_add pe_int (pe_g C__law_draw (hr.mono (by decide)) hg (pa_cons (pv 0) (pa_cons pe_int pa_nil)))) (pa_cons (pe_op op_add pe_int (pe_g C__law_draw (hr.mono (by decide)) hg (pa_cons (pv 0) (pa_cons pe_int pa_nil)))) pa_nil)))))
      pss_nil)
      (pss_one (ps_ret (pe_g C__law_low (hr.mono (by decide)) hg (pa_cons (pe_op op_add pe_int (pe_g C__law_draw (hr.mono (by decide)) hg (pa_cons (pv 0) (pa_cons (pe_op op_sub (pe_op op_pow pe_int pe_int) pe_int) pa_nil)))) (pa_cons (pe_op op_add pe_int (pe_g C__law_draw (hr.mono (by decide)) hg (pa_cons (pv 0) (pa_cons (pe_op op_sub (pe_op op_pow pe_int pe_int) pe_int) pa_nil)))) pa_nil)))))), ?_⟩
    refine ⟨_, rfl, q, 2, rfl, by decide, by decide, hP, fun r1 H1 r10 r11 hP1 b1 => ⟨rfl, _, rfl, ite2 (fun e => ?_) (fun e => ?_)⟩⟩
    · refine ⟨_, rfl, q, 40, rfl, by decide, by decide, hP1, fun r2 H2 r20 r21 hP2 b2 => ?_⟩
      refine ⟨_, _, rfl, rfl, _, rfl, q, 12, rfl, by decide, by decide, hP2, fun r3 H3 r30 r31 hP3 b3 => ?_⟩
      refine ⟨_, _, rfl, rfl, _, _, rfl, by omega, mid41 (by omega) (by omega), fun H4 p4 s4 e4 => ?_⟩
      exact k _ _ H4 (AtK.of e4) (wt_low (by omega) (by omega) (by omega) (by omega)) (pot_same hP3 s4) (((b1.trans b2).trans b3).same s4)
    · refine ⟨_, rfl, _, _, rfl, rfl, ⟨by decide, by decide, by decide⟩, _, _, rfl, rfl, q, _, rfl, by decide, by decide, hP1, fun r2 H2 r20 r21 hP2 b2 => ?_⟩
      have r21' : r2 < 10 ^ 12 - 1 := r21
      refine ⟨_, _, rfl, rfl, _, rfl, _, _, rfl, rfl, ⟨by decide, by decide, by decide⟩, _, _, rfl, rfl, q, _, rfl, by decide, by decide, hP2, fun r3 H3 r30 r31 hP3 b3 => ?_⟩
      have r31' : r3 < 10 ^ 12 - 1 := r31
      refine ⟨_, _, rfl, rfl, _, _, rfl, by omega, mid41 (by omega) (by omega), fun H4 p4 s4 e4 => ?_⟩
      exact k _ _ H4 (AtK.of e4) (wt_low (by omega) (by omega) (by omega) (by omega)) (pot_same hP3 s4) (((b1.trans b2).trans b3).same s4)

end
def S60 (n : Int) : Prop := n.natAbs < 2 ^ 60
theorem S60.sm {n : Int} (h : S60 n) : Sm n := Nat.lt_of_lt_of_le h (Nat.pow_le_pow_right (by decide) (by decide))
theorem Ft.i60 {n : Int} (h : S60 n) : Ft 60 0 (.int n) := by
  have f := Ft.int h.sm
  refine ⟨f.sh, f.nd, f.dp, f.lv, ?_⟩
  simp only [PyData.weight]
  have := PySem.Flt.log2_lt_of (by decide) h
  split <;> omega
/-- a pair of numbers that fits -/
structure El (d : PyData) : Prop where
  fr : ∀ a b, d = .tuple [.int a, .int b] → a.natAbs < 2 ^ 41 ∧ b.natAbs < 2 ^ 41
/-- what a thing of a menu fits -/
def good (d : PyData) : Bool := d.showable && decide (d.depth ≤ 4) && d.leavesShort 1000 && decide (d.weight ≤ 300) && (match d with
  | .tuple [.int a, .int b] => decide (a.natAbs < 2 ^ 41) && decide (b.natAbs < 2 ^ 41)
  | _ => true)
structure Gd (d : PyData) : Prop where
  fg : Fg 300 4 d
  el : El d
theorem gd_good {d : PyData} (h : good d = true) : Gd d := by
  unfold good at h
  rw [Bool.and_eq_true, Bool.and_eq_true, Bool.and_eq_true, Bool.and_eq_true] at h
  obtain ⟨⟨⟨⟨h1, h2⟩, h3⟩, h4⟩, h5⟩ := h
  refine ⟨⟨h1, of_decide_eq_true h2, h3, of_decide_eq_true h4⟩, ⟨fun a b e => ?_⟩⟩
  subst e
  have h5 : (decide (a.natAbs < 2 ^ 41) && decide (b.natAbs < 2 ^ 41)) = true := h5
  rw [Bool.and_eq_true] at h5
  exact ⟨of_decide_eq_true h5.1, of_decide_eq_true h5.2⟩
theorem Wt.gd {f : Int × Int} (h : Wt f) : Gd (tD f) := by
  have b := h.bt
  have e1 := b.1
  have e2 := b.2
  have F1 : f.1.natAbs < 2 ^ 60 := Nat.lt_of_lt_of_le e1 (by decide)
  have F2 : f.2.natAbs < 2 ^ 60 := Nat.lt_of_lt_of_le e2 (by decide)
  refine ⟨(Ft.tuple (.cons (.i60 F1) (.cons (.i60 F2) .nil))).fg.le (by decide) (by decide), ⟨fun a b e => ?_⟩⟩
  · have e : PyData.tuple [.int f.1, .int f.2] = .tuple [.int a, .int b] := e
    injection e with e
    injection e with e e'
    injection e with e
    injection e' with e' _
    injection e' with e'
    rw [← e, ← e']
    exact ⟨e1, e2⟩
section
variable {P : Program} {w : World} {K : PySem.W.Frag} {mg : Str → Option Value} {base : Heap} {c0 c1 : Addr}
theorem DgAll.app {H : Hp} : ∀ {vs us : List V} {ds es : List PyData}, DgAll K H vs ds → DgAll K H us es → DgAll K H (vs ++ us) (ds ++ es)
  | _, _, _, _, .nil, h => h
  | _, _, _, _, .cons a r, h => .cons a (DgAll.app r h)
theorem DgAll.length {H : Hp} {vs : List V} {ds : List PyData} (h : DgAll K H vs ds) : vs.length = ds.length := DgAll.len h

/-! ### _law_odd_weight -/
theorem sc__law_odd_weight : FnScope ["_law_pot_here", "_law_some_here"] ["_law_pot_here"] (defScope s__law_odd_weight) := ⟨rfl, rfl, rfl, by decide +kernel, rfl, by decide +kernel, by decide +kernel⟩
def odd_weightD : List PyData := ([.tuple [.int 0, .int 1], .tuple [.int (-1), .int 2], .tuple [.int 2, .int 4], .tuple [.int 1, .int 0], .tuple [.int 1, .int (-2)], .tuple [.int (-1), .int (-2)], .tuple [.bool true, .int 1], .tuple [.int 1, .bool true], .tuple [.int 1], .tuple [.int 1, .int 2, .int 3], .list [.int 1, .int 2], .str (Str.ofString "1/2")] ++ [.int 5, .int 1, .int 0, .none, .tuple [], .dict [], .tuple [.str (Str.ofString "1"), .int 2], .tuple [.int 1, .none], .tuple [.none, .int 1], .tuple [.tuple [.int 1, .int 1], .int 1], .tuple [.int 0, .int 0], .bool true, .list [], .tuple [.int 3, .int 2], .tuple [.int 1, .int 1]])
def sp_oddw (K : PySem.W.Frag) : Sp := fun vs H Q _ => ∃ (q : Addr), vs = [.ref q] ∧ Pot H q ∧ ∀ (v : V) (d : PyData) (H' : Hp), Dg K (wo q H') v d → Gd d → Pot H' q → But q H H' → Q v H'
theorem ok_oddw {f : Addr} {fd : FuncData} (M : Blt mg) (F : Fun K "_law_odd_weight" "_law_odd_weight" s__law_odd_weight f fd) (C__law_draw : Cal P w K mg base CX0 1 "_law_draw" ["_law_pot_here", "_law_many"] (sp_draw)) : FnG P w K mg base CX0 2 f fd ["_law_pot_here"] (sp_oddw K) := by
  refine Gfun F sc__law_odd_weight (fun vs H Q E h => ?_) (fun cdv A outer s H vs Q E hg hr h => ?_)
  · obtain ⟨q, rfl, _⟩ := h
    rfl
  · obtain ⟨q, rfl, P0, k⟩ := h
    refine ⟨_, (pss_cons (ps_set (i := 1) sc__law_odd_weight.nd rfl (.inl rfl) (pe_lst (pa_cons (pe_tup (pa_cons pe_int (pa_cons pe_int pa_nil))) (pa_cons (pe_tup (pa_cons (pe_un un_neg pe_int) (pa_cons pe_int pa_nil))) (pa_cons (pe_tup (pa_cons pe_int (pa_cons pe_int pa_nil))) (pa_cons (pe_tup (pa_cons pe_int (pa_cons pe_int pa_nil))) (pa_cons (pe_tup (pa_cons pe_int (pa_cons (pe_un un_neg pe_int) pa_nil))) (pa_cons (pe_tup (pa_cons (pe_un un_neg pe_int) (pa_cons (pe_un un_neg pe_int) pa_nil))) (pa_cons (pe_tup (pa_cons pe_bl (pa_cons pe_int pa_nil))) (pa_cons (pe_tup (pa_cons pe_int (pa_cons pe_bl pa_nil))) (pa_cons (pe_tup (pa_cons pe_int pa_nil)) (pa_cons (pe_tup (pa_cons pe_int (pa_cons pe_int (pa_cons pe_int pa_nil)))) (pa_cons (pe_lst (pa_cons pe_int (pa_cons pe_int pa_nil))) (pa_cons pe_str pa_nil))))))))))))))
      (pss_cons (ps_set (i := 1) sc__law_odd_weight.nd rfl (.inl rfl) (pe_op op_cat (pv 1) (pe_lst (pa_cons pe_int (pa_cons pe_int (pa_cons pe_int (pa_cons pe_non (pa_cons (pe_tup pa_nil) (pa_cons pe_dnewK (pa_cons (pe_tup (pa_cons pe_str (pa_cons pe_int pa_nil))) (pa_cons (pe_tup (pa_cons pe_int (pa_cons pe_non pa_nil))) (pa_cons (pe_tup (pa_cons pe_non (pa_cons pe_int pa_nil))) (pa_cons (pe_tup (pa_cons (pe_tup (pa_cons pe_int (pa_cons pe_int pa_nil))) (pa_cons pe_int pa_nil))) (pa_cons (pe_tup (pa_cons pe_int (pa_cons pe_int pa_nil))) (pa_cons pe_bl (pa_cons (pe_lst pa_nil) (pa_cons (pe_tup (pa_cons pe_int (pa_cons pe_int pa_nil))) (pa_cons (pe_tup (pa_cons pe_int (pa_cons pe_int pa_nil))) pa_nil))))))))))))))))))
      (pss_one (ps_ret (pe_ix ix_list (pv 1) (pe_g C__law_draw (hr.mono (by decide)) hg (pa_cons (pv 0) (pa_cons pe_int pa_nil))) (fun _ _ => rfl)))))), ?_⟩
    refine ⟨len_show (Nat.le_of_ble_eq_true rfl), fun m1 nm1 => ?_⟩
    have sm1 : Same H (L2.upd H m1 (.tup [.int 0, .int 1])) := same_new nm1
    have em1 : L2.upd H m1 (.tup [.int 0, .int 1]) m1 = some (.tup [.int 0, .int 1]) := upd_same
    generalize L2.upd H m1 (.tup [.int 0, .int 1]) = G1 at sm1 em1 ⊢
    refine ⟨_, rfl, len_show (Nat.le_of_ble_eq_true rfl), fun m2 nm2 => ?_⟩
    have sm2 : Same G1 (L2.upd G1 m2 (.tup [.int (-1), .int 2])) := same_new nm2
    have em2 : L2.upd G1 m2 (.tup [.int (-1), .int 2]) m2 = some (.tup [.int (-1), .int 2]) := upd_same
    generalize L2.upd G1 m2 (.tup [.int (-1), .int 2]) = G2 at sm2 em2 ⊢
    refine ⟨len_show (Nat.le_of_ble_eq_true rfl), fun m3 nm3 => ?_⟩
    have sm3 : Same G2 (L2.upd G2 m3 (.tup [.int 2, .int 4])) := same_new nm3
    have em3 : L2.upd G2 m3 (.tup [.int 2, .int 4]) m3 = some (.tup [.int 2, .int 4]) := upd_same
    generalize L2.upd G2 m3 (.tup [.int 2, .int 4]) = G3 at sm3 em3 ⊢
    refine ⟨len_show (Nat.le_of_ble_eq_true rfl), fun m4 nm4 => ?_⟩
    have sm4 : Same G3 (L2.upd G3 m4 (.tup [.int 1, .int 0])) := same_new nm4
    have em4 : L2.upd G3 m4 (.tup [.int 1, .int 0]) m4 = some (.tup [.int 1, .int 0]) := upd_same
    generalize L2.upd G3 m4 (.tup [.int 1, .int 0]) = G4 at sm4 em4 ⊢
    refine ⟨_, rfl, len_show (Nat.le_of_ble_eq_true rfl), fun m5 nm5 => ?_⟩
    have sm5 : Same G4 (L2.upd G4 m5 (.tup [.int 1, .int (-2)])) := same_new nm5
    have em5 : L2.upd G4 m5 (.tup [.int 1, .int (-2)]) m5 = some (.tup [.int 1, .int (-2)]) := upd_same
    generalize L2.upd G4 m5 (.tup [.int 1, .int (-2)]) = G5 at sm5 em5 ⊢
    refine ⟨_, rfl, _, rfl, len_show (Nat.le_of_ble_eq_true rfl), fun m6 nm6 => ?_⟩
    have sm6 : Same G5 (L2.upd G5 m6 (.tup [.int (-1), .int (-2)])) := same_new nm6
    have em6 : L2.upd G5 m6 (.tup [.int (-1), .int (-2)]) m6 = some (.tup [.int (-1), .int (-2)]) := upd_same
    generalize L2.upd G5 m6 (.tup [.int (-1), .int (-2)]) = G6 at sm6 em6 ⊢
    refine ⟨len_show (Nat.le_of_ble_eq_true rfl), fun m7 nm7 => ?_⟩
    have sm7 : Same G6 (L2.upd G6 m7 (.tup [.bl true, .int 1])) := same_new nm7
    have em7 : L2.upd G6 m7 (.tup [.bl true, .int 1]) m7 = some (.tup [.bl true, .int 1]) := upd_same
    generalize L2.upd G6 m7 (.tup [.bl true, .int 1]) = G7 at sm7 em7 ⊢
    refine ⟨len_show (Nat.le_of_ble_eq_true rfl), fun m8 nm8 => ?_⟩
    have sm8 : Same G7 (L2.upd G7 m8 (.tup [.int 1, .bl true])) := same_new nm8
    have em8 : L2.upd G7 m8 (.tup [.int 1, .bl true]) m8 = some (.tup [.int 1, .bl true]) := upd_same
    generalize L2.upd G7 m8 (.tup [.int 1, .bl true]) = G8 at sm8 em8 ⊢
    refine ⟨len_show (Nat.le_of_ble_eq_true rfl), fun m9 nm9 => ?_⟩
    have sm9 : Same G8 (L2.upd G8 m9 (.tup [.int 1])) := same_new nm9
    have em9 : L2.upd G8 m9 (.tup [.int 1]) m9 = some (.tup [.int 1]) := upd_same
    generalize L2.upd G8 m9 (.tup [.int 1]) = G9 at sm9 em9 ⊢
    refine ⟨len_show (Nat.le_of_ble_eq_true rfl), fun m10 nm10 => ?_⟩
    have sm10 : Same G9 (L2.upd G9 m10 (.tup [.int 1, .int 2, .int 3])) := same_new nm10
    have em10 : L2.upd G9 m10 (.tup [.int 1, .int 2, .int 3]) m10 = some (.tup [.int 1, .int 2, .int 3]) := upd_same
    generalize L2.upd G9 m10 (.tup [.int 1, .int 2, .int 3]) = G10 at sm10 em10 ⊢
    refine ⟨len_show (Nat.le_of_ble_eq_true rfl), fun m11 nm11 => ?_⟩
    have sm11 : Same G10 (L2.upd G10 m11 (.lst [.int 1, .int 2])) := same_new nm11
    have em11 : L2.upd G10 m11 (.lst [.int 1, .int 2]) m11 = some (.lst [.int 1, .int 2]) := upd_same
    generalize L2.upd G10 m11 (.lst [.int 1, .int 2]) = G11 at sm11 em11 ⊢
    refine ⟨len_show (Nat.le_of_ble_eq_true rfl), fun m12 nm12 => ?_⟩
    have sm12 : Same G11 (L2.upd G11 m12 (.lst [.ref m1, .ref m2, .ref m3, .ref m4, .ref m5, .ref m6, .ref m7, .ref m8, .ref m9, .ref m10, .ref m11, .str (Str.ofString "1/2")])) := same_new nm12
    have em12 : L2.upd G11 m12 (.lst [.ref m1, .ref m2, .ref m3, .ref m4, .ref m5, .ref m6, .ref m7, .ref m8, .ref m9, .ref m10, .ref m11, .str (Str.ofString "1/2")]) m12 = some (.lst [.ref m1, .ref m2, .ref m3, .ref m4, .ref m5, .ref m6, .ref m7, .ref m8, .ref m9, .ref m10, .ref m11, .str (Str.ofString "1/2")]) := upd_same
    generalize L2.upd G11 m12 (.lst [.ref m1, .ref m2, .ref m3, .ref m4, .ref m5, .ref m6, .ref m7, .ref m8, .ref m9, .ref m10, .ref m11, .str (Str.ofString "1/2")]) = G12 at sm12 em12 ⊢
    refine ⟨_, rfl, len_show (Nat.le_of_ble_eq_true rfl), fun m13 nm13 => ?_⟩
    have sm13 : Same G12 (L2.upd G12 m13 (.tup [])) := same_new nm13
    have em13 : L2.upd G12 m13 (.tup []) m13 = some (.tup []) := upd_same
    generalize L2.upd G12 m13 (.tup []) = G13 at sm13 em13 ⊢
    refine fun m14 nm14 => ?_
    have sm14 : Same G13 (L2.upd G13 m14 (.dK [])) := same_new nm14
    have em14 : L2.upd G13 m14 (.dK []) m14 = some (.dK []) := upd_same
    generalize L2.upd G13 m14 (.dK []) = G14 at sm14 em14 ⊢
    refine ⟨len_show (Nat.le_of_ble_eq_true rfl), fun m15 nm15 => ?_⟩
    have sm15 : Same G14 (L2.upd G14 m15 (.tup [.str (Str.ofString "1"), .int 2])) := same_new nm15
    have em15 : L2.upd G14 m15 (.tup [.str (Str.ofString "1"), .int 2]) m15 = some (.tup [.str (Str.ofString "1"), .int 2]) := upd_same
    generalize L2.upd G14 m15 (.tup [.str (Str.ofString "1"), .int 2]) = G15 at sm15 em15 ⊢
    refine ⟨len_show (Nat.le_of_ble_eq_true rfl), fun m16 nm16 => ?_⟩
    have sm16 : Same G15 (L2.upd G15 m16 (.tup [.int 1, .non])) := same_new nm16
    have em16 : L2.upd G15 m16 (.tup [.int 1, .non]) m16 = some (.tup [.int 1, .non]) := upd_same
    generalize L2.upd G15 m16 (.tup [.int 1, .non]) = G16 at sm16 em16 ⊢
    refine ⟨len_show (Nat.le_of_ble_eq_true rfl), fun m17 nm17 => ?_⟩
    have sm17 : Same G16 (L2.upd G16 m17 (.tup [.non, .int 1])) := same_new nm17
    have em17 : L2.upd G16 m17 (.tup [.non, .int 1]) m17 = some (.tup [.non, .int 1]) := upd_same
    generalize L2.upd G16 m17 (.tup [.non, .int 1]) = G17 at sm17 em17 ⊢
    refine ⟨len_show (Nat.le_of_ble_eq_true rfl), fun m18 nm18 => ?_⟩
    have sm18 : Same G17 (L2.upd G17 m18 (.tup [.int 1, .int 1])) := same_new nm18
    have em18 : L2.upd G17 m18 (.tup [.int 1, .int 1]) m18 = some (.tup [.int 1, .int 1]) := upd_same
    generalize L2.upd G17 m18 (.tup [.int 1, .int 1]) = G18 at sm18 em18 ⊢
    refine ⟨len_show (Nat.le_of_ble_eq_true rfl), fun m19 nm19 => ?_⟩
    have sm19 : Same G18 (L2.upd G18 m19 (.tup [.ref m18, .int 1])) := same_new nm19
    have em19 : L2.upd G18 m19 (.tup [.ref m18, .int 1]) m19 = some (.tup [.ref m18, .int 1]) := upd_same
    generalize L2.upd G18 m19 (.tup [.ref m18, .int 1]) = G19 at sm19 em19 ⊢
    refine ⟨len_show (Nat.le_of_ble_eq_true rfl), fun m20 nm20 => ?_⟩
    have sm20 : Same G19 (L2.upd G19 m20 (.tup [.int 0, .int 0])) := same_new nm20
    have em20 : L2.upd G19 m20 (.tup [.int 0, .int 0]) m20 = some (.tup [.int 0, .int 0]) := upd_same
    generalize L2.upd G19 m20 (.tup [.int 0, .int 0]) = G20 at sm20 em20 ⊢
    refine ⟨len_show (Nat.le_of_ble_eq_true rfl), fun m21 nm21 => ?_⟩
    have sm21 : Same G20 (L2.upd G20 m21 (.lst [])) := same_new nm21
    have em21 : L2.upd G20 m21 (.lst []) m21 = some (.lst []) := upd_same
    generalize L2.upd G20 m21 (.lst []) = G21 at sm21 em21 ⊢
    refine ⟨len_show (Nat.le_of_ble_eq_true rfl), fun m22 nm22 => ?_⟩
    have sm22 : Same G21 (L2.upd G21 m22 (.tup [.int 3, .int 2])) := same_new nm22
    have em22 : L2.upd G21 m22 (.tup [.int 3, .int 2]) m22 = some (.tup [.int 3, .int 2]) := upd_same
    generalize L2.upd G21 m22 (.tup [.int 3, .int 2]) = G22 at sm22 em22 ⊢
    refine ⟨len_show (Nat.le_of_ble_eq_true rfl), fun m23 nm23 => ?_⟩
    have sm23 : Same G22 (L2.upd G22 m23 (.tup [.int 1, .int 1])) := same_new nm23
    have em23 : L2.upd G22 m23 (.tup [.int 1, .int 1]) m23 = some (.tup [.int 1, .int 1]) := upd_same
    generalize L2.upd G22 m23 (.tup [.int 1, .int 1]) = G23 at sm23 em23 ⊢
    refine ⟨len_show (Nat.le_of_ble_eq_true rfl), fun m24 nm24 => ?_⟩
    have sm24 : Same G23 (L2.upd G23 m24 (.lst [.int 5, .int 1, .int 0, .non, .ref m13, .ref m14, .ref m15, .ref m16, .ref m17, .ref m19, .ref m20, .bl true, .ref m21, .ref m22, .ref m23])) := same_new nm24
    have em24 : L2.upd G23 m24 (.lst [.int 5, .int 1, .int 0, .non, .ref m13, .ref m14, .ref m15, .ref m16, .ref m17, .ref m19, .ref m20, .bl true, .ref m21, .ref m22, .ref m23]) m24 = some (.lst [.int 5, .int 1, .int 0, .non, .ref m13, .ref m14, .ref m15, .ref m16, .ref m17, .ref m19, .ref m20, .bl true, .ref m21, .ref m22, .ref m23]) := upd_same
    generalize L2.upd G23 m24 (.lst [.int 5, .int 1, .int 0, .non, .ref m13, .ref m14, .ref m15, .ref m16, .ref m17, .ref m19, .ref m20, .bl true, .ref m21, .ref m22, .ref m23]) = G24 at sm24 em24 ⊢
    refine ⟨m12, m24, _, _, rfl, rfl, (sm24 _ _ (sm23 _ _ (sm22 _ _ (sm21 _ _ (sm20 _ _ (sm19 _ _ (sm18 _ _ (sm17 _ _ (sm16 _ _ (sm15 _ _ (sm14 _ _ (sm13 _ _ em12)))))))))))), em24, by rw [sizeLine_eq]; exact Nat.le_of_ble_eq_true rfl, fun m25 nm25 => ?_⟩
    have sm25 : Same G24 (L2.upd G24 m25 (.lst ([.ref m1, .ref m2, .ref m3, .ref m4, .ref m5, .ref m6, .ref m7, .ref m8, .ref m9, .ref m10, .ref m11, .str (Str.ofString "1/2")] ++ [.int 5, .int 1, .int 0, .non, .ref m13, .ref m14, .ref m15, .ref m16, .ref m17, .ref m19, .ref m20, .bl true, .ref m21, .ref m22, .ref m23]))) := same_new nm25
    have em25 : L2.upd G24 m25 (.lst ([.ref m1, .ref m2, .ref m3, .ref m4, .ref m5, .ref m6, .ref m7, .ref m8, .ref m9, .ref m10, .ref m11, .str (Str.ofString "1/2")] ++ [.int 5, .int 1, .int 0, .non, .ref m13, .ref m14, .ref m15, .ref m16, .ref m17, .ref m19, .ref m20, .bl true, .ref m21, .ref m22, .ref m23])) m25 = some (.lst ([.ref m1, .ref m2, .ref m3, .ref m4, .ref m5, .ref m6, .ref m7, .ref m8, .ref m9, .ref m10, .ref m11, .str (Str.ofString "1/2")] ++ [.int 5, .int 1, .int 0, .non, .ref m13, .ref m14, .ref m15, .ref m16, .ref m17, .ref m19, .ref m20, .bl true, .ref m21, .ref m22, .ref m23])) := upd_same
    generalize L2.upd G24 m25 (.lst ([.ref m1, .ref m2, .ref m3, .ref m4, .ref m5, .ref m6, .ref m7, .ref m8, .ref m9, .ref m10, .ref m11, .str (Str.ofString "1/2")] ++ [.int 5, .int 1, .int 0, .non, .ref m13, .ref m14, .ref m15, .ref m16, .ref m17, .ref m19, .ref m20, .bl true, .ref m21, .ref m22, .ref m23])) = G25 at sm25 em25 ⊢
    have nqm1 : m1 ≠ q := pot_ne P0 nm1
    have fm1 : G25 m1 = some (.tup [.int 0, .int 1]) := (sm25 _ _ (sm24 _ _ (sm23 _ _ (sm22 _ _ (sm21 _ _ (sm20 _ _ (sm19 _ _ (sm18 _ _ (sm17 _ _ (sm16 _ _ (sm15 _ _ (sm14 _ _ (sm13 _ _ (sm12 _ _ (sm11 _ _ (sm10 _ _ (sm9 _ _ (sm8 _ _ (sm7 _ _ (sm6 _ _ (sm5 _ _ (sm4 _ _ (sm3 _ _ (sm2 _ _ em1))))))))))))))))))))))))
    have nqm2 : m2 ≠ q := pot_ne (pot_same P0 sm1) nm2
    have fm2 : G25 m2 = some (.tup [.int (-1), .int 2]) := (sm25 _ _ (sm24 _ _ (sm23 _ _ (sm22 _ _ (sm21 _ _ (sm20 _ _ (sm19 _ _ (sm18 _ _ (sm17 _ _ (sm16 _ _ (sm15 _ _ (sm14 _ _ (sm13 _ _ (sm12 _ _ (sm11 _ _ (sm10 _ _ (sm9 _ _ (sm8 _ _ (sm7 _ _ (sm6 _ _ (sm5 _ _ (sm4 _ _ (sm3 _ _ em2)))))))))))))))))))))))
    have nqm3 : m3 ≠ q := pot_ne (pot_same P0 (sm1.trans sm2)) nm3
    have fm3 : G25 m3 = some (.tup [.int 2, .int 4]) := (sm25 _ _ (sm24 _ _ (sm23 _ _ (sm22 _ _ (sm21 _ _ (sm20 _ _ (sm19 _ _ (sm18 _ _ (sm17 _ _ (sm16 _ _ (sm15 _ _ (sm14 _ _ (sm13 _ _ (sm12 _ _ (sm11 _ _ (sm10 _ _ (sm9 _ _ (sm8 _ _ (sm7 _ _ (sm6 _ _ (sm5 _ _ (sm4 _ _ em3))))))))))))))))))))))
    have nqm4 : m4 ≠ q := pot_ne (pot_same P0 ((sm1.trans sm2).trans sm3)) nm4
    have fm4 : G25 m4 = some (.tup [.int 1, .int 0]) := (sm25 _ _ (sm24 _ _ (sm23 _ _ (sm22 _ _ (sm21 _ _ (sm20 _ _ (sm19 _ _ (sm18 _ _ (sm17 _ _ (sm16 _ _ (sm15 _ _ (sm14 _ _ (sm13 _ _ (sm12 _ _ (sm11 _ _ (sm10 _ _ (sm9 _ _ (sm8 _ _ (sm7 _ _ (sm6 _ _ (sm5 _ _ em4)))))))))))))))))))))
    have nqm5 : m5 ≠ q := pot_ne (pot_same P0 (((sm1.trans sm2).trans sm3).trans sm4)) nm5
    have fm5 : G25 m5 = some (.tup [.int 1, .int (-2)]) := (sm25 _ _ (sm24 _ _ (sm23 _ _ (sm22 _ _ (sm21 _ _ (sm20 _ _ (sm19 _ _ (sm18 _ _ (sm17 _ _ (sm16 _ _ (sm15 _ _ (sm14 _ _ (sm13 _ _ (sm12 _ _ (sm11 _ _ (sm10 _ _ (sm9 _ _ (sm8 _ _ (sm7 _ _ (sm6 _ _ em5))))))))))))))))))))
    have nqm6 : m6 ≠ q := pot_ne (pot_same P0 ((((sm1.trans sm2).trans sm3).trans sm4).trans sm5)) nm6
    have fm6 : G25 m6 = some (.tup [.int (-1), .int (-2)]) := (sm25 _ _ (sm24 _ _ (sm23 _ _ (sm22 _ _ (sm21 _ _ (sm20 _ _ (sm19 _ _ (sm18 _ _ (sm17 _ _ (sm16 _ _ (sm15 _ _ (sm14 _ _ (sm13 _ _ (sm12 _ _ (sm11 _ _ (sm10 _ _ (sm9 _ _ (sm8 _ _ (sm7 _ _ em6)))))))))))))))))))
    have nqm7 : m7 ≠ q := pot_ne (pot_same P0 (((((sm1.trans sm2).trans sm3).trans sm4).trans sm5).trans sm6)) nm7
    have fm7 : G25 m7 = some (.tup [.bl true, .int 1]) := (sm25 _ _ (sm24 _ _ (sm23 _ _ (sm22 _ _ (sm21 _ _ (sm20 _ _ (sm19 _ _ (sm18 _ _ (sm17 _ _ (sm16 _ _ (sm15 _ _ (sm14 _ _ (sm13 _ _ (sm12 _ _ (sm11 _ _ (sm10 _ _ (sm9 _ _ (sm8 _ _ em7))))))))))))))))))
    have nqm8 : m8 ≠ q := pot_ne (pot_same P0 ((((((sm1.trans sm2).trans sm3).trans sm4).trans sm5).trans sm6).trans sm7)) nm8
    have fm8 : G25 m8 = some (.tup [.int 1, .bl true]) := (sm25 _ _ (sm24 _ _ (sm23 _ _ (sm22 _ _ (sm21 _ _ (sm20 _ _ (sm19 _ _ (sm18 _ _ (sm17 _ _ (sm16 _ _ (sm15 _ _ (sm14 _ _ (sm13 _ _ (sm12 _ _ (sm11 _ _ (sm10 _ _ (sm9 _ _ em8)))))))))))))))))
    have nqm9 : m9 ≠ q := pot_ne (pot_same P0 (((((((sm1.trans sm2).trans sm3).trans sm4).trans sm5).trans sm6).trans sm7).trans sm8)) nm9
    have fm9 : G25 m9 = some (.tup [.int 1]) := (sm25 _ _ (sm24 _ _ (sm23 _ _ (sm22 _ _ (sm21 _ _ (sm20 _ _ (sm19 _ _ (sm18 _ _ (sm17 _ _ (sm16 _ _ (sm15 _ _ (sm14 _ _ (sm13 _ _ (sm12 _ _ (sm11 _ _ (sm10 _ _ em9))))))))))))))))
    have nqm10 : m10 ≠ q := pot_ne (pot_same P0 ((((((((sm1.trans sm2).trans sm3).trans sm4).trans sm5).trans sm6).trans sm7).trans sm8).trans sm9)) nm10
    have fm10 : G25 m10 = some (.tup [.int 1, .int 2, .int 3]) := (sm25 _ _ (sm24 _ _ (sm23 _ _ (sm22 _ _ (sm21 _ _ (sm20 _ _ (sm19 _ _ (sm18 _ _ (sm17 _ _ (sm16 _ _ (sm15 _ _ (sm14 _ _ (sm13 _ _ (sm12 _ _ (sm11 _ _ em10)))))))))))))))
    have nqm11 : m11 ≠ q := pot_ne (pot_same P0 (((((((((sm1.trans sm2).trans sm3).trans sm4).trans sm5).trans sm6).trans sm7).trans sm8).trans sm9).trans sm10)) nm11
    have fm11 : G25 m11 = some (.lst [.int 1, .int 2]) := (sm25 _ _ (sm24 _ _ (sm23 _ _ (sm22 _ _ (sm21 _ _ (sm20 _ _ (sm19 _ _ (sm18 _ _ (sm17 _ _ (sm16 _ _ (sm15 _ _ (sm14 _ _ (sm13 _ _ (sm12 _ _ em11))))))))))))))
    have nqm12 : m12 ≠ q := pot_ne (pot_same P0 ((((((((((sm1.trans sm2).trans sm3).trans sm4).trans sm5).trans sm6).trans sm7).trans sm8).trans sm9).trans sm10).trans sm11)) nm12
    have fm12 : G25 m12 = some (.lst [.ref m1, .ref m2, .ref m3, .ref m4, .ref m5, .ref m6, .ref m7, .ref m8, .ref m9, .ref m10, .ref m11, .str (Str.ofString "1/2")]) := (sm25 _ _ (sm24 _ _ (sm23 _ _ (sm22 _ _ (sm21 _ _ (sm20 _ _ (sm19 _ _ (sm18 _ _ (sm17 _ _ (sm16 _ _ (sm15 _ _ (sm14 _ _ (sm13 _ _ em12)))))))))))))
    have nqm13 : m13 ≠ q := pot_ne (pot_same P0 (((((((((((sm1.trans sm2).trans sm3).trans sm4).trans sm5).trans sm6).trans sm7).trans sm8).trans sm9).trans sm10).trans sm11).trans sm12)) nm13
    have fm13 : G25 m13 = some (.tup []) := (sm25 _ _ (sm24 _ _ (sm23 _ _ (sm22 _ _ (sm21 _ _ (sm20 _ _ (sm19 _ _ (sm18 _ _ (sm17 _ _ (sm16 _ _ (sm15 _ _ (sm14 _ _ em13))))))))))))
    have nqm14 : m14 ≠ q := pot_ne (pot_same P0 ((((((((((((sm1.trans sm2).trans sm3).trans sm4).trans sm5).trans sm6).trans sm7).trans sm8).trans sm9).trans sm10).trans sm11).trans sm12).trans sm13)) nm14
    have fm14 : G25 m14 = some (.dK []) := (sm25 _ _ (sm24 _ _ (sm23 _ _ (sm22 _ _ (sm21 _ _ (sm20 _ _ (sm19 _ _ (sm18 _ _ (sm17 _ _ (sm16 _ _ (sm15 _ _ em14)))))))))))
    have nqm15 : m15 ≠ q := pot_ne (pot_same P0 (((((((((((((sm1.trans sm2).trans sm3).trans sm4).trans sm5).trans sm6).trans sm7).trans sm8).trans sm9).trans sm10).trans sm11).trans sm12).trans sm13).trans sm14)) nm15
    have fm15 : G25 m15 = some (.tup [.str (Str.ofString "1"), .int 2]) := (sm25 _ _ (sm24 _ _ (sm23 _ _ (sm22 _ _ (sm21 _ _ (sm20 _ _ (sm19 _ _ (sm18 _ _ (sm17 _ _ (sm16 _ _ em15))))))))))
    have nqm16 : m16 ≠ q := pot_ne (pot_same P0 ((((((((((((((sm1.trans sm2).trans sm3).trans sm4).trans sm5).trans sm6).trans sm7).trans sm8).trans sm9).trans sm10).trans sm11).trans sm12).trans sm13).trans sm14).trans sm15)) nm16
    have fm16 : G25 m16 = some (.tup [.int 1, .non]) := (sm25 _ _ (sm24 _ _ (sm23 _ _ (sm22 _ _ (sm21 _ _ (sm20 _ _ (sm19 _ _ (sm18 _ _ (sm17 _ _ em16)))))))))
    have nqm17 : m17 ≠ q := pot_ne (pot_same P0 (((((((((((((((sm1.trans sm2).trans sm3).trans sm4).trans sm5).trans sm6).trans sm7).trans sm8).trans sm9).trans sm10).trans sm11).trans sm12).trans sm13).trans sm14).trans sm15).trans sm16)) nm17
    have fm17 : G25 m17 = some (.tup [.non, .int 1]) := (sm25 _ _ (sm24 _ _ (sm23 _ _ (sm22 _ _ (sm21 _ _ (sm20 _ _ (sm19 _ _ (sm18 _ _ em17))))))))
    have nqm18 : m18 ≠ q := pot_ne (pot_same P0 ((((((((((((((((sm1.trans sm2).trans sm3).trans sm4).trans sm5).trans sm6).trans sm7).trans sm8).trans sm9).trans sm10).trans sm11).trans sm12).trans sm13).trans sm14).trans sm15).trans sm16).trans sm17)) nm18
    have fm18 : G25 m18 = some (.tup [.int 1, .int 1]) := (sm25 _ _ (sm24 _ _ (sm23 _ _ (sm22 _ _ (sm21 _ _ (sm20 _ _ (sm19 _ _ em18)))))))
    have nqm19 : m19 ≠ q := pot_ne (pot_same P0 (((((((((((((((((sm1.trans sm2).trans sm3).trans sm4).trans sm5).trans sm6).trans sm7).trans sm8).trans sm9).trans sm10).trans sm11).trans sm12).trans sm13).trans sm14).trans sm15).trans sm16).trans sm17).trans sm18)) nm19
    have fm19 : G25 m19 = some (.tup [.ref m18, .int 1]) := (sm25 _ _ (sm24 _ _ (sm23 _ _ (sm22 _ _ (sm21 _ _ (sm20 _ _ em19))))))
    have nqm20 : m20 ≠ q := pot_ne (pot_same P0 ((((((((((((((((((sm1.trans sm2).trans sm3).trans sm4).trans sm5).trans sm6).trans sm7).trans sm8).trans sm9).trans sm10).trans sm11).trans sm12).trans sm13).trans sm14).trans sm15).trans sm16).trans sm17).trans sm18).trans sm19)) nm20
    have fm20 : G25 m20 = some (.tup [.int 0, .int 0]) := (sm25 _ _ (sm24 _ _ (sm23 _ _ (sm22 _ _ (sm21 _ _ em20)))))
    have nqm21 : m21 ≠ q := pot_ne (pot_same P0 (((((((((((((((((((sm1.trans sm2).trans sm3).trans sm4).trans sm5).trans sm6).trans sm7).trans sm8).trans sm9).trans sm10).trans sm11).trans sm12).trans sm13).trans sm14).trans sm15).trans sm16).trans sm17).trans sm18).trans sm19).trans sm20)) nm21
    have fm21 : G25 m21 = some (.lst []) := (sm25 _ _ (sm24 _ _ (sm23 _ _ (sm22 _ _ em21))))
    have nqm22 : m22 ≠ q := pot_ne (pot_same P0 ((((((((((((((((((((sm1.trans sm2).trans sm3).trans sm4).trans sm5).trans sm6).trans sm7).trans sm8).trans sm9).trans sm10).trans sm11).trans sm12).trans sm13).trans sm14).trans sm15).trans sm16).trans sm17).trans sm18).trans sm19).trans sm20).trans sm21)) nm22
    have fm22 : G25 m22 = some (.tup [.int 3, .int 2]) := (sm25 _ _ (sm24 _ _ (sm23 _ _ em22)))
    have nqm23 : m23 ≠ q := pot_ne (pot_same P0 (((((((((((((((((((((sm1.trans sm2).trans sm3).trans sm4).trans sm5).trans sm6).trans sm7).trans sm8).trans sm9).trans sm10).trans sm11).trans sm12).trans sm13).trans sm14).trans sm15).trans sm16).trans sm17).trans sm18).trans sm19).trans sm20).trans sm21).trans sm22)) nm23
    have fm23 : G25 m23 = some (.tup [.int 1, .int 1]) := (sm25 _ _ (sm24 _ _ em23))
    have nqm24 : m24 ≠ q := pot_ne (pot_same P0 ((((((((((((((((((((((sm1.trans sm2).trans sm3).trans sm4).trans sm5).trans sm6).trans sm7).trans sm8).trans sm9).trans sm10).trans sm11).trans sm12).trans sm13).trans sm14).trans sm15).trans sm16).trans sm17).trans sm18).trans sm19).trans sm20).trans sm21).trans sm22).trans sm23)) nm24
    have fm24 : G25 m24 = some (.lst [.int 5, .int 1, .int 0, .non, .ref m13, .ref m14, .ref m15, .ref m16, .ref m17, .ref m19, .ref m20, .bl true, .ref m21, .ref m22, .ref m23]) := (sm25 _ _ em24)
    have nqm25 : m25 ≠ q := pot_ne (pot_same P0 (((((((((((((((((((((((sm1.trans sm2).trans sm3).trans sm4).trans sm5).trans sm6).trans sm7).trans sm8).trans sm9).trans sm10).trans sm11).trans sm12).trans sm13).trans sm14).trans sm15).trans sm16).trans sm17).trans sm18).trans sm19).trans sm20).trans sm21).trans sm22).trans sm23).trans sm24)) nm25
    have fm25 : G25 m25 = some (.lst ([.ref m1, .ref m2, .ref m3, .ref m4, .ref m5, .ref m6, .ref m7, .ref m8, .ref m9, .ref m10, .ref m11, .str (Str.ofString "1/2")] ++ [.int 5, .int 1, .int 0, .non, .ref m13, .ref m14, .ref m15, .ref m16, .ref m17, .ref m19, .ref m20, .bl true, .ref m21, .ref m22, .ref m23])) := em25
    have PG := pot_same P0 ((((((((((((((((((((((((sm1.trans sm2).trans sm3).trans sm4).trans sm5).trans sm6).trans sm7).trans sm8).trans sm9).trans sm10).trans sm11).trans sm12).trans sm13).trans sm14).trans sm15).trans sm16).trans sm17).trans sm18).trans sm19).trans sm20).trans sm21).trans sm22).trans sm23).trans sm24).trans sm25)
    have bG : But q H G25 := fun b o _ e => ((((((((((((((((((((((((sm1.trans sm2).trans sm3).trans sm4).trans sm5).trans sm6).trans sm7).trans sm8).trans sm9).trans sm10).trans sm11).trans sm12).trans sm13).trans sm14).trans sm15).trans sm16).trans sm17).trans sm18).trans sm19).trans sm20).trans sm21).trans sm22).trans sm23).trans sm24).trans sm25) _ _ e
    generalize G25 = HG at fm1 fm2 fm3 fm4 fm5 fm6 fm7 fm8 fm9 fm10 fm11 fm12 fm13 fm14 fm15 fm16 fm17 fm18 fm19 fm20 fm21 fm22 fm23 fm24 fm25 PG bG ⊢
    refine ⟨_, rfl, _, rfl, q, 27, rfl, by decide, by decide, PG, fun c H2 c0_ c1_ P2 b2 => ?_⟩
    obtain ⟨cn, rfl⟩ : ∃ cn : Nat, c = (cn : Int) := ⟨c.toNat, by omega⟩
    have hall : DgAll K (wo q H2) ([.ref m1, .ref m2, .ref m3, .ref m4, .ref m5, .ref m6, .ref m7, .ref m8, .ref m9, .ref m10, .ref m11, .str (Str.ofString "1/2")] ++ [.int 5, .int 1, .int 0, .non, .ref m13, .ref m14, .ref m15, .ref m16, .ref m17, .ref m19, .ref m20, .bl true, .ref m21, .ref m22, .ref m23]) odd_weightD := (DgAll.app ((.cons (.tup (.inl (.inl (wo_at nqm1 (b2 _ _ nqm1 fm1)))) (.cons (.int _) (.cons (.int _) .nil))) (.cons (.tup (.inl (.inl (wo_at nqm2 (b2 _ _ nqm2 fm2)))) (.cons (.int _) (.cons (.int _) .nil))) (.cons (.tup (.inl (.inl (wo_at nqm3 (b2 _ _ nqm3 fm3)))) (.cons (.int _) (.cons (.int _) .nil))) (.cons (.tup (.inl (.inl (wo_at nqm4 (b2 _ _ nqm4 fm4)))) (.cons (.int _) (.cons (.int _) .nil))) (.cons (.tup (.inl (.inl (wo_at nqm5 (b2 _ _ nqm5 fm5)))) (.cons (.int _) (.cons (.int _) .nil))) (.cons (.tup (.inl (.inl (wo_at nqm6 (b2 _ _ nqm6 fm6)))) (.cons (.int _) (.cons (.int _) .nil))) (.cons (.tup (.inl (.inl (wo_at nqm7 (b2 _ _ nqm7 fm7)))) (.cons (.bl _) (.cons (.int _) .nil))) (.cons (.tup (.inl (.inl (wo_at nqm8 (b2 _ _ nqm8 fm8)))) (.cons (.int _) (.cons (.bl _) .nil))) (.cons (.tup (.inl (.inl (wo_at nqm9 (b2 _ _ nqm9 fm9)))) (.cons (.int _) .nil)) (.cons (.tup (.inl (.inl (wo_at nqm10 (b2 _ _ nqm10 fm10)))) (.cons (.int _) (.cons (.int _) (.cons (.int _) .nil)))) (.cons (.lst (.inl (.inl (wo_at nqm11 (b2 _ _ nqm11 fm11)))) (.cons (.int _) (.cons (.int _) .nil))) (.cons (.str _) .nil))))))))))))) ((.cons (.int _) (.cons (.int _) (.cons (.int _) (.cons (.non) (.cons (.tup (.inl (.inl (wo_at nqm13 (b2 _ _ nqm13 fm13)))) .nil) (.cons (.dk (wo_at nqm14 (b2 _ _ nqm14 fm14)) .nil) (.cons (.tup (.inl (.inl (wo_at nqm15 (b2 _ _ nqm15 fm15)))) (.cons (.str _) (.cons (.int _) .nil))) (.cons (.tup (.inl (.inl (wo_at nqm16 (b2 _ _ nqm16 fm16)))) (.cons (.int _) (.cons (.non) .nil))) (.cons (.tup (.inl (.inl (wo_at nqm17 (b2 _ _ nqm17 fm17)))) (.cons (.non) (.cons (.int _) .nil))) (.cons (.tup (.inl (.inl (wo_at nqm19 (b2 _ _ nqm19 fm19)))) (.cons (.tup (.inl (.inl (wo_at nqm18 (b2 _ _ nqm18 fm18)))) (.cons (.int _) (.cons (.int _) .nil))) (.cons (.int _) .nil))) (.cons (.tup (.inl (.inl (wo_at nqm20 (b2 _ _ nqm20 fm20)))) (.cons (.int _) (.cons (.int _) .nil))) (.cons (.bl _) (.cons (.lst (.inl (.inl (wo_at nqm21 (b2 _ _ nqm21 fm21)))) .nil) (.cons (.tup (.inl (.inl (wo_at nqm22 (b2 _ _ nqm22 fm22)))) (.cons (.int _) (.cons (.int _) .nil))) (.cons (.tup (.inl (.inl (wo_at nqm23 (b2 _ _ nqm23 fm23)))) (.cons (.int _) (.cons (.int _) .nil))) .nil)))))))))))))))))
    have hlen : odd_weightD.length = 27 := rfl
    obtain ⟨v, hv⟩ : ∃ v, (([.ref m1, .ref m2, .ref m3, .ref m4, .ref m5, .ref m6, .ref m7, .ref m8, .ref m9, .ref m10, .ref m11, .str (Str.ofString "1/2")] ++ [.int 5, .int 1, .int 0, .non, .ref m13, .ref m14, .ref m15, .ref m16, .ref m17, .ref m19, .ref m20, .bl true, .ref m21, .ref m22, .ref m23]) : List V)[cn]? = some v := ⟨_, List.getElem?_eq_getElem (by rw [hall.length, hlen]; omega)⟩
    obtain ⟨d, hd, hq⟩ := hall.get hv
    have gd : good d = true := (by decide +kernel : ∀ d ∈ odd_weightD, good d = true) d (List.mem_of_getElem? hd)
    refine ⟨m25, _, _, _, rfl, rfl, .inl (.inl (b2 _ _ nqm25 fm25)), atI_nat (j := cn) hv, ?_⟩
    exact k v d H2 hq (gd_good gd) P2 fun b o n e => b2 _ _ n (bG _ _ n e)

end
end Lf

set_option Elab.async false
set_option linter.all false
/-! Slices of lists, by whole numbers from 0. -/
namespace Lf
open PySem PySem.Spec PyProof.Rows L2
theorem cutTo {xs : List V} {i : Int} {k : Nat} (h : i = (k : Int)) : cutV xs none (some i) = xs.take k := by
  rw [h]
  unfold cutV
  rw [HT.sIx_nat, HT.sIx_none, List.drop_zero, Nat.sub_zero]
  by_cases c : k ≤ xs.length
  · rw [Nat.min_eq_left c]
  · rw [Nat.min_eq_right (by omega), List.take_of_length_le (Nat.le_refl _), List.take_of_length_le (by omega)]
theorem cutFrom {xs : List V} {i : Int} {k : Nat} (h : i = (k : Int)) : cutV xs (some i) none = xs.drop k := by
  rw [h]
  unfold cutV
  rw [HT.sIx_nat, HT.sIx_none]
  by_cases c : k ≤ xs.length
  · rw [Nat.min_eq_left c]
    exact List.take_of_length_le (by rw [List.length_drop]; exact Nat.le_refl _)
  · rw [Nat.min_eq_right (by omega), Nat.sub_self, List.take_zero, List.drop_of_length_le (by omega)]
theorem cutMid {xs : List V} {i j : Int} {k n : Nat} (hi : i = (k : Int)) (hj : j = ((k + n : Nat) : Int)) (hl : k + n ≤ xs.length) : cutV xs (some i) (some j) = (xs.drop k).take n := by
  rw [hi, hj]
  unfold cutV
  rw [HT.sIx_nat, HT.sIx_nat, Nat.min_eq_left hl, Nat.min_eq_left (show k ≤ xs.length by omega), Nat.add_sub_cancel_left]
end Lf

set_option Elab.async false
set_option linter.all false
set_option maxRecDepth 100000
set_option maxHeartbeats 4000000
/-! {(False, ..): a, (True, ..): b}.get(x, z): a display of two entries whose keys are tuples of truths, asked at once. -/
namespace Lf
open PySem PySem.Spec PyProof.Rows L2
/-- truths as keys -/
def leafB (bs : List Bool) : List Leaf := bs.map fun b => .num (if b = true then 1 else 0)
theorem leafB_inj : ∀ {xs ys : List Bool}, leafB xs = leafB ys → xs = ys
  | [], [], _ => rfl
  | [], _ :: _, h => nomatch h
  | _ :: _, [], h => nomatch h
  | x :: xs, y :: ys, h => by
    have h1 : Leaf.num (if x = true then 1 else 0) = Leaf.num (if y = true then 1 else 0) := (List.cons.inj h).1
    have h2 := leafB_inj (show leafB xs = leafB ys from (List.cons.inj h).2)
    rw [h2]
    cases x <;> cases y <;> first | rfl | (exact absurd (Leaf.num.inj h1) (by decide))
theorem leafB_items {P : Program} {w : World} : ∀ {bs : List Bool} {us : List Value}, Vals (bs.map V.bl) us → ItemsAre (leafKind P w) (leafB bs) us
  | [], _, r => by rw [List.map_nil] at r; cases r; exact .nil
  | b :: bs, _, r => by
    rw [List.map_cons] at r
    cases r with
    | cons h t =>
      cases (show _ = Value.bool b from h)
      exact .cons (by cases b <;> rfl) (leafB_items t)
section
variable {P : Program} {w : World} {H : Hp} {h : Heap} {a : Addr}
/-- a tracked tuple of truths is a key -/
theorem leafB_key {bs : List Bool} (ok : HOk P w H h) (e : H a = some (.tup (bs.map V.bl))) : (tupleKind (leafKind P w)).is h (leafB bs) a := by
  obtain ⟨_, its, r, o, h1, h2, n, h3⟩ := (show ObjOk P w H h a (.tup (bs.map V.bl)) from ok a _ e)
  exact ⟨o, its.toArray, n, h1, h2, h3, by simpa using leafB_items r⟩
/-- the object of such a dict -/
def TabE (P : Program) (w : World) (a : Addr) (xs : List (List Leaf × Addr × Value)) (h : Heap) : Prop :=
  ∃ o es ep, h.get? a = some o ∧ o.ExactDict ∧ o.data = .dict es ep ∧ es.toList = xs.map (entryOfKey (tupleKind (leafKind P w)))
end
/-- a display, its keys told with their places -/
theorem disp_at {P : Program} {w : World} {A : Around} {E Q : Value → Shared → Prop} {s : Shared} {env : Env} {keys : List (Option Expr)} {values : List Expr} {pos : Pos} (room : A.units < cLine) (all : keys.all (·.isSome) = true) (len : keys.length = values.length) (some_ : 1 ≤ keys.length) (few : keys.length ≤ 15)
    (h : wpAny (model P w) A (evalPairs (pairTrees keys values env pos)) (fun vs s₁ => ∃ ps, CarriesH (tupleKind (leafKind P w)) s₁.heap vs ps ∧ s₁.heap.DictOfH (tupleKind (leafKind P w)) s.heap.objs.size [] ∧
      ∀ h' tk, h'.DictOfH (tupleKind (leafKind P w)) s.heap.objs.size (storedAllH [] ps) → Heap.SameBut s.heap.objs.size s₁.heap h' → Q (.ref s.heap.objs.size) { s₁ with heap := h', toks := tk }) E
      { s with heap := s.heap.push { cls := .type "dict", data := .dict #[] } }) : wpAny (model P w) A (eval (.Dict keys values pos) env) Q E s := by
  have hl := pairTrees_length keys values env pos all len
  have hz := zip_pairTrees keys values env pos all len
  have hd := dictDisplay_pairs (pairTrees keys values env pos) (fun z => by rw [z] at hl; rw [← hl] at some_; cases some_) (by omega)
  rw [arm_eval_Dict]
  rw [hz, hd]
  refine wpAny_bind (wpAny_standAt ?_)
  refine wpAny_bind ?_
  refine wpAny_subDictH (Q := fun a s3 => wpAny (model P w) A (pure (Value.ref a)) Q E s3) (knd := tupleKind (leafKind P w)) room (by omega) ?_
  refine wpAny_mono h ?_ (fun _ _ y => y)
  rintro vs s3 ⟨ps, x1, x2, x3⟩
  exact ⟨ps, x1, x2, fun h3 tk y1 y2 => wpAny_pure (x3 h3 tk y1 y2)⟩
variable {X : Cx} {dpos apos cpos : Pos} {k1 k2 u1 u2 e f : Expr} {tk1 tk2 tu1 tu2 ty tx : TE}
def tTab (tk1 tu1 tk2 tu2 ty tx : TE) : TE := fun σ H Q => ∀ p, H p = none → tPairs [(tk1, tu1), (tk2, tu2)] σ (upd H p (.dK [])) fun ps H2 => H2 p = some (.dK []) ∧
  ∃ (b1 b2 : List Bool) (a1 a2 : Addr) (v1 v2 : V), ps = [(.ref a1, v1), (.ref a2, v2)] ∧ H2 a1 = some (.tup (b1.map V.bl)) ∧ H2 a2 = some (.tup (b2.map V.bl)) ∧ b1 ≠ b2 ∧
  ∀ o : HO, ty σ (upd H2 p o) fun y H3 => tx σ H3 fun z H4 => ∃ (bs : List Bool) (c : Addr), y = .ref c ∧ H4 p = some o ∧ H4 a1 = some (.tup (b1.map V.bl)) ∧ H4 a2 = some (.tup (b2.map V.bl)) ∧ H4 c = some (.tup (bs.map V.bl)) ∧
    Q (if bs = b1 then v1 else if bs = b2 then v2 else z) H4
theorem pe_tab (hu : X.A.units + 1 < cLine) (h1 : PE X k1 tk1) (g1 : PE X u1 tu1) (h2 : PE X k2 tk2) (g2 : PE X u2 tu2) (he : PE X e ty) (hf : PE X f tx)
    (m : M2 X (.Dict [some k1, some k2] [u1, u2] dpos) "get" apos e f cpos) : PE X (.Call (.Attribute (.Dict [some k1, some k2] [u1, u2] dpos) "get" apos) [e, f] [] cpos) (tTab tk1 tu1 tk2 tu2 ty tx) := by
  refine ⟨fun pins s σ H Q I q => ?_⟩
  refine wpAny_Call_method m.base m.few m.line PySem.F.plainAttrs_dict PySem.F.slot_dict_get PySem.F.type_dict_get ?_
  have hn := I.hok.fresh (Nat.le_refl s.heap.objs.size)
  have I1 := I.laid (a := s.heap.objs.size) (o := .dK []) (h' := s.heap.push { cls := .type "dict", data := .dict #[] }) (t' := s.toks) (fun _ _ q => Heap.get?_push_of_some _ q) (Nat.le_refl _) (dk_empty s.heap I.big)
  have pps : PPs X dpos [some k1, some k2] [u1, u2] [(tk1, tu1), (tk2, tu2)] := pps_cons h1 g1 (pps_cons h2 g2 pps_nil)
  refine disp_at (by omega) rfl rfl (by exact Nat.le_of_ble_eq_true rfl) (by exact Nat.le_of_ble_eq_true rfl)
    (thn (pps.run pins _ σ _ _ I1 (q _ hn)) fun ws s2 ⟨ps, H2, I2, rel, ep, b1, b2, a1, a2, v1, v2, eps, ea1, ea2, nb, q2⟩ => ?_)
  subst eps
  obtain ⟨z, hd, vs0, r0, dd⟩ := dk_of I2.hok ep
  cases r0
  obtain ⟨c1, x1, c2, x2, rfl, hc1, hx1, hc2, hx2⟩ : ∃ c1 x1 c2 x2, ws = [(c1, x1), (c2, x2)] ∧ RelV (V.ref a1) c1 ∧ RelV v1 x1 ∧ RelV (V.ref a2) c2 ∧ RelV v2 x2 := by
    cases rel with
    | cons hr1 rel =>
      cases rel with
      | cons hr2 rel =>
        cases rel
        exact ⟨_, _, _, _, rfl, hr1.1, hr1.2, hr2.1, hr2.2⟩
  cases (show c1 = Value.ref a1 from hc1)
  cases (show c2 = Value.ref a2 from hc2)
  have K1 := leafB_key I2.hok ea1
  have K2 := leafB_key I2.hok ea2
  obtain ⟨o0, es0, ep0, ho0, hc0, hd0, he0⟩ := dd
  refine ⟨[(leafB b1, a1, x1), (leafB b2, a2, x2)], ⟨rfl, rfl, K1, rfl, rfl, K2, trivial⟩, ?_, ?_⟩
  · refine ⟨o0, es0, ep0, ho0, hc0, hd0, ?_, (fun x hx => by cases hx), List.nodup_nil⟩
    cases hes : es0.toList with
    | nil => rfl
    | cons y ys =>
      exfalso
      have := he0.2.1
      rw [hes] at this
      cases this
  · intro h' tk dk hs
    have nl : leafB b1 ≠ leafB b2 := fun z => nb (leafB_inj z)
    have est : storedAllH ([] : List (List Leaf × Addr × Value)) [(leafB b1, a1, x1), (leafB b2, a2, x2)] = [(leafB b1, a1, x1), (leafB b2, a2, x2)] := by
      simp [storedAllH, storedH, atKey, nl]
    rw [est] at dk
    have dx0 := dk
    obtain ⟨o3, es3, ep3, ho3, hc3, hd3, he3, hi3, hn3⟩ := dk
    generalize hxs : [(leafB b1, a1, x1), (leafB b2, a2, x2)] = xs at *
    have I3 : Inv X pins σ (upd H2 s.heap.objs.size (.ext (TabE X.prog X.w s.heap.objs.size xs))) { s2 with heap := h', toks := tk } :=
      d_write I2 (by rw [ep]; exact True.intro) hs ⟨o3, ho3⟩ ⟨⟨o3, es3, ep3, ho3, hc3, hd3, he3⟩, ⟨o3, ho3⟩, fun g1 g2 ⟨o, es, ep, r1, r2, r3, r4⟩ keep => ⟨o, es, ep, keep _ r1, r2, r3, r4⟩⟩
    refine ⟨dx0.typeIs, fun b hb => ?_, ?_⟩
    · cases hb
      exact ⟨o3, ho3, hc3.2.1⟩
    rw [m.trees]
    refine Calls.callWith_builtin rfl (Calls.evalArgs_plain (Calls.spliced_cons (thn (he.run pins _ σ _ _ I3 (q2 _)) fun iv s4 ⟨y, H3, I4, ry, q3⟩ =>
      Calls.spliced_cons (thn (hf.run pins s4 σ H3 _ I4 q3) fun fv s5 ⟨z, H4, I5, rz, bs, c, ey, e4, f1, f2, f3, q4⟩ => Calls.spliced_nil ?_))))
    subst ey
    cases (show iv = Value.ref c from ry)
    obtain ⟨⟨o4, es4, ep4, t1, t2, t3, t4⟩, _, _⟩ := (show ObjOk X.prog X.w H4 s5.heap _ (.ext (TabE X.prog X.w s.heap.objs.size xs)) from I5.hok _ _ e4)
    have D5 : s5.heap.DictOfH (tupleKind (leafKind X.prog X.w)) s.heap.objs.size xs := ⟨o4, es4, ep4, t1, t2, t3, t4, (fun x hx => by
      rw [← hxs] at hx
      simp only [List.mem_cons, List.not_mem_nil, or_false] at hx
      rcases hx with rfl | rfl
      · exact leafB_key I5.hok f1
      · exact leafB_key I5.hok f2), hn3⟩
    have kc := leafB_key (bs := bs) I5.hok f3
    refine getOr_keyed (knd := tupleKind (leafKind X.prog X.w)) (tupleKind_room_in1 (knd := leafKind X.prog X.w) hu) kc hd ⟨xs, D5, rfl⟩ ⟨_, H4, I5.tok _, ?_, q4⟩
    rw [← hxs]
    by_cases z1 : bs = b1
    · subst z1
      rw [if_pos rfl]
      simpa [pairsH, valueAt] using hx1
    · have y1 : ¬ leafB b1 = leafB bs := fun z => z1 (leafB_inj z.symm)
      rw [if_neg z1]
      by_cases z2 : bs = b2
      · subst z2
        rw [if_pos rfl]
        simpa [pairsH, valueAt, y1] using hx2
      · have y2 : ¬ leafB b2 = leafB bs := fun z => z2 (leafB_inj z.symm)
        rw [if_neg z2]
        simpa [pairsH, valueAt, y1, y2] using rz
end Lf

set_option Elab.async false
set_option linter.all false
set_option maxRecDepth 100000
set_option maxHeartbeats 4000000
/-! {(1, 1): v}: a display of one entry whose key is a tuple of numbers or texts. -/
namespace Lf
open PySem PySem.Spec PyProof.Rows L2
/-- a display by keys of any kind, told with their places -/
theorem disp_any {P : Program} {w : World} {A : Around} {E Q : Value → Shared → Prop} {s : Shared} {env : Env} {keys : List (Option Expr)} {values : List Expr} {pos : Pos} (room : A.units + 1 < cLine) (all : keys.all (·.isSome) = true) (len : keys.length = values.length) (some_ : 1 ≤ keys.length) (few : keys.length ≤ 15)
    (h : wpAny (model P w) A (evalPairs (pairTrees keys values env pos)) (fun vs s₁ => ∃ ps, CarriesH (tupleKind (mixKind P w)) s₁.heap vs ps ∧ s₁.heap.DictOfH (tupleKind (mixKind P w)) s.heap.objs.size [] ∧
      ∀ h' tk, h'.DictOfH (tupleKind (mixKind P w)) s.heap.objs.size (storedAllH [] ps) → Heap.SameBut s.heap.objs.size s₁.heap h' → Q (.ref s.heap.objs.size) { s₁ with heap := h', toks := tk }) E
      { s with heap := s.heap.push { cls := .type "dict", data := .dict #[] } }) : wpAny (model P w) A (eval (.Dict keys values pos) env) Q E s := by
  have hl := pairTrees_length keys values env pos all len
  have hz := zip_pairTrees keys values env pos all len
  have hd := dictDisplay_pairs (pairTrees keys values env pos) (fun z => by rw [z] at hl; rw [← hl] at some_; cases some_) (by omega)
  rw [arm_eval_Dict]
  rw [hz, hd]
  refine wpAny_bind (wpAny_standAt ?_)
  refine wpAny_bind ?_
  refine wpAny_subDictH (Q := fun a s3 => wpAny (model P w) A (pure (Value.ref a)) Q E s3) (knd := tupleKind (mixKind P w)) (by show A.units < cLine; omega) (by omega) ?_
  refine wpAny_mono h ?_ (fun _ _ y => y)
  rintro vs s3 ⟨ps, x1, x2, x3⟩
  exact ⟨ps, x1, x2, fun h3 tk y1 y2 => wpAny_pure (x3 h3 tk y1 y2)⟩
variable {X : Cx} {pos : Pos} {k v : Expr} {tk tv : TE}
def tDispT (tk tv : TE) : TE := fun σ H Q => ∀ p, H p = none → tPairs [(tk, tv)] σ (L2.upd H p (.dT [])) fun ps H2 => H2 p = some (.dT []) ∧ ∃ (a : Addr) (ks : List L2.Key) (y : V), ps = [(.ref a, y)] ∧ H2 a = some (.tup (ks.map kV)) ∧ Q (.ref p) (L2.upd H2 p (.dT [(ks, y)]))
theorem pe_dispT (hu : X.A.units + 1 < cLine) (hk : PE X k tk) (hv : PE X v tv) : PE X (.Dict [some k] [v] pos) (tDispT tk tv) := by
  refine ⟨fun pins s σ H Q I q => ?_⟩
  have fresh := I.hok.fresh (Nat.le_refl s.heap.objs.size)
  have I1 := I.laid (a := s.heap.objs.size) (o := .dT []) (h' := s.heap.push { cls := .type "dict", data := .dict #[] }) (t' := s.toks) (fun _ _ z => Heap.get?_push_of_some _ z) (Nat.le_refl _) (dt_empty s.heap I.big)
  have one : PPs X pos [some k] [v] [(tk, tv)] := pps_cons hk hv pps_nil
  refine disp_any hu rfl rfl (by exact Nat.le_of_ble_eq_true rfl) (by exact Nat.le_of_ble_eq_true rfl)
    (thn (one.run pins _ σ _ _ I1 (q _ fresh)) fun ws s2 ⟨ps, H2, I2, rel, ep, a, ks, y, e1, ea, q2⟩ => ?_)
  · subst e1
    obtain ⟨z, hd, xs, r0, dd⟩ := dt_of I2.hok ep
    cases r0
    obtain ⟨c1, x1, rfl, hc1, hx1⟩ : ∃ c1 x1, ws = [(c1, x1)] ∧ RelV (V.ref a) c1 ∧ RelV y x1 := by
      cases rel with
      | cons hr rel =>
        cases rel
        exact ⟨_, _, rfl, hr.1, hr.2⟩
    cases (show c1 = Value.ref a from hc1)
    refine ⟨[(ks, a, x1)], ⟨rfl, rfl, key_of I2.hok ea, trivial⟩, dd, fun h' tk' dk hs => ⟨.ref s.heap.objs.size, _, ?_, rfl, q2⟩⟩
    obtain ⟨o, es, ep', ho, h2, h3, h4, _, h5⟩ := dk
    have ne : a ≠ s.heap.objs.size := fun z => by rw [z, ep] at ea; cases ea
    refine d_write I2 (by rw [ep]; exact True.intro) hs ⟨o, ho⟩ ⟨by rw [sizeLine_eq]; show 1 ≤ _; omega, hd, _, KT.put (kvs := []) (xs := []) .nil ks (b := a) (by rw [upd_ne ne]; exact ea) hx1, o, es, ep', ho, h2, h3, h4, h5⟩
end Lf

set_option Elab.async false
set_option linter.all false
set_option maxRecDepth 100000
set_option maxHeartbeats 4000000
set_option exponentiation.threshold 3000
namespace Lf
open PySem PySem.Spec PyProof.Rows L2
theorem Ft.i41 {n : Int} (h : n.natAbs < 2 ^ 41) : Ft 41 0 (.int n) := by
  have f := Ft.int (Nat.lt_of_lt_of_le h (Nat.pow_le_pow_right (by decide) (by decide)) : Sm n)
  refine ⟨f.sh, f.nd, f.dp, f.lv, ?_⟩
  simp only [PyData.weight]
  have := PySem.Flt.log2_lt_of (by decide) h
  split <;> omega
theorem Wt.fg {f : Int × Int} (h : Wt f) : Fg 84 1 (tD f) := (Ft.tuple (.cons (.i41 h.bt.1) (.cons (.i41 h.bt.2) .nil))).fg.le (by decide) (by decide)
theorem Wt.el {f : Int × Int} (h : Wt f) : El (tD f) := h.gd.el
/-- weights of any kind -/
structure WD (d : PyData) : Prop where
  fg : Fg 12500 5 d
  ln : WsG d
  el : ∀ ds, (d = .list ds ∨ d = .tuple ds) → ∀ e ∈ ds, El e
  tu : ∀ ds, d = .tuple ds → isWtL ds = false
theorem wd_list {ds : List PyData} {w : Nat} (n : ds.length ≤ 145) (h : ∀ e ∈ ds, Fg w 4 e) (hw : (w + 1) * ds.length ≤ 12500) (el : ∀ e ∈ ds, El e) : WD (.list ds) :=
  ⟨(Fg.list (FgA.all h)).le hw (by decide), (fun es h => by rcases h with h | h <;> cases h; omega), (fun es h => by rcases h with h | h <;> cases h; exact el), (fun es h => nomatch h)⟩
theorem wd_no {d : PyData} (f : Fg 300 4 d) (h : ∀ ds, ¬ (d = .list ds ∨ d = .tuple ds)) : WD d := ⟨f.le (by decide) (by decide), (fun es e => absurd e (h es)), (fun es e => absurd e (h es)), (fun es e => absurd (.inr e) (h es))⟩
theorem wd_good {d : PyData} (f : Gd d) (ds : List PyData) (e : d = .list ds ∨ d = .tuple ds) (n : ds.length ≤ 145) (el : ∀ e ∈ ds, El e) (tu : ∀ es, d = .tuple es → isWtL es = false) : WD d :=
  ⟨f.fg.le (by decide) (by decide), (fun es h => by rcases e with rfl | rfl <;> rcases h with h | h <;> cases h <;> omega), (fun es h => by rcases e with rfl | rfl <;> rcases h with h | h <;> cases h <;> exact el), tu⟩
theorem el_of {d : PyData} (h : good d = true) : El d := (gd_good h).el
section
variable {P : Program} {w : World} {K : PySem.W.Frag} {mg : Str → Option Value} {base : Heap} {c0 c1 : Addr}
theorem wo_but {q : Addr} {H H' : Hp} (b : But q H H') : Same (wo q H) (wo q H') := fun c o e => wo_at (wo_not e) (b _ _ (wo_not e) (wo_le _ _ e))
theorem AtK.dg {H : Hp} {v : V} {f : Int × Int} (h : AtK K H v f) : Dg K H v (tD f) := by
  obtain ⟨p, rfl, hp⟩ := h
  exact .tup hp (.cons (.int _) (.cons (.int _) .nil))
theorem AtKs.dg {H : Hp} : ∀ {vs : List V} {fs : List (Int × Int)}, AtKs K H vs fs → DgAll K H vs (fs.map tD)
  | _, _, .nil => .nil
  | _, _, .cons a r => .cons a.dg (AtKs.dg r)
theorem DgAll.take {H : Hp} : ∀ (k : Nat) {xs : List V} {ds : List PyData}, DgAll K H xs ds → DgAll K H (xs.take k) (ds.take k)
  | 0, _, _, _ => by simp only [List.take_zero]; exact .nil
  | k + 1, _, _, .nil => by simp only [List.take_nil]; exact .nil
  | k + 1, _, _, .cons a r => .cons a (DgAll.take k r)
theorem DgAll.drop {H : Hp} : ∀ (k : Nat) {xs : List V} {ds : List PyData}, DgAll K H xs ds → DgAll K H (xs.drop k) (ds.drop k)
  | 0, _, _, h => h
  | k + 1, _, _, .nil => by simp only [List.drop_nil]; exact .nil
  | k + 1, _, _, .cons _ r => DgAll.drop k r
theorem DgAll.rep {H : Hp} {xs : List V} {ds : List PyData} (h : DgAll K H xs ds) : ∀ n : Nat, DgAll K H (List.replicate n xs).flatten (List.replicate n ds).flatten
  | 0 => .nil
  | n + 1 => by
    rw [List.replicate_succ, List.flatten_cons, List.replicate_succ, List.flatten_cons]
    exact DgAll.app h (DgAll.rep h n)

/-! ### _law_odd_weights -/
theorem sc__law_odd_weights : FnScope ["_law_pot_here", "_law_weights", "_law_at", "_law_way"] ["_law_pot_here", "_law_weights"] (defScope s__law_odd_weights) := ⟨rfl, rfl, rfl, by decide +kernel, rfl, by decide +kernel, by decide +kernel⟩
theorem el_i (n : Int) : El (.int n) := ⟨fun a b e => nomatch e⟩

def sp_oddws (K : PySem.W.Frag) : Sp := fun vs H Q _ => ∃ (q L : Addr) (xs : List V) (fs : List (Int × Int)), vs = [.ref q, .ref L] ∧ Pot H q ∧ L ≠ q ∧ H L = some (.lst xs) ∧ AtKs K (wo q H) xs fs ∧ Wts fs ∧ ∀ (v : V) (d : PyData) (H' : Hp), Dg K (wo q H') v d → WD d → Pot H' q → But q H H' → Q v H'
set_option maxHeartbeats 16000000 in
theorem ok_oddws {f : Addr} {fd : FuncData} (M : Blt mg) (F : Fun K "_law_odd_weights" "_law_odd_weights" s__law_odd_weights f fd) (C__law_draw : Cal P w K mg base CX0 1 "_law_draw" ["_law_pot_here", "_law_many"] (sp_draw)) (C__law_odd_weight : Cal P w K mg base CX0 2 "_law_odd_weight" ["_law_pot_here"] (sp_oddw K)) : FnG P w K mg base CX0 3 f fd ["_law_pot_here", "_law_weights"] (sp_oddws K) := by
  refine Gfun F sc__law_odd_weights (fun vs H Q E h => ?_) (fun cdv A outer s H vs Q E hg hr h => ?_)
  · obtain ⟨q, L, xs, fs, rfl, _⟩ := h
    rfl
  · obtain ⟨q, L, xs, fs, rfl, P0, nL, eL, hx, W, k⟩ := h
    refine ⟨_, (pss_cons (ps_set (i := 2) sc__law_odd_weights.nd rfl (.inl rfl) (pe_g C__law_draw (hr.mono (by decide)) hg (pa_cons (pv 0) (pa_cons (pe_callB call_len_seq rfl M.len bt_len (pa_cons (pv 1) pa_nil)) pa_nil))))
      (pss_cons (ps_set (i := 3) sc__law_odd_weights.nd rfl (.inl rfl) (pe_g C__law_draw (hr.mono (by decide)) hg (pa_cons (pv 0) (pa_cons pe_int pa_nil))))
      (pss_cons (ps_if (pt_cmpR op_lt (pv 3) pe_int (nomark _))
      (pss_one (ps_ret (pe_op op_cat (pe_op op_cat (pe_slice sl_list (pv 1) po_none (po_some (pv 2))) (pe_lst (pa_cons (pe_g C__law_odd_weight (hr.mono (by decide)) hg (pa_cons (pv 0) pa_nil)) pa_nil))) (pe_slice sl_list (pv 1) (po_some (pe_op op_add (pv 2) pe_int)) po_none))))
      pss_nil)
      (pss_cons (ps_if (pt_cmpR op_eq (pv 3) pe_int (nomark _))
      (pss_one (ps_ret (pe_op op_cat (pe_op op_rep (pv 1) pe_int) (pe_lst (pa_cons (pe_tup (pa_cons pe_int (pa_cons pe_int pa_nil))) pa_nil)))))
      pss_nil)
      (pss_one (ps_ret (pe_ix ix_list (pe_lst (pa_cons pe_non (pa_cons (pe_lst pa_nil) (pa_cons (pe_tup pa_nil) (pa_cons pe_str (pa_cons pe_str (pa_cons pe_int (pa_cons pe_bl (pa_cons pe_dnewK (pa_cons (pe_dispT (Nat.lt_of_le_of_lt (Nat.add_le_add_left (by decide) _) (u65 hr)) (pe_tup (pa_cons pe_int (pa_cons pe_int pa_nil))) pe_int) (pa_cons (pe_tup (pa_cons pe_int (pa_cons pe_int pa_nil))) (pa_cons (pe_ix ix_list (pv 1) pe_int (fun _ _ => rfl)) (pa_cons (pe_lst (pa_cons (pe_lst pa_nil) pa_nil)) pa_nil))))))))))))) (pe_g C__law_draw (hr.mono (by decide)) hg (pa_cons (pv 0) (pa_cons pe_int pa_nil))) (fun _ _ => rfl)))))))), ?_⟩
    have hA := hx.dg
    have lx := hx.length
    have w1 := W.one
    have w12 := W.few
    have wel : ∀ e ∈ fs.map tD, El e := fun e h => by
      obtain ⟨f, hf, rfl⟩ := List.mem_map.mp h
      exact (W.all f hf).el
    have wfg : ∀ e ∈ fs.map tD, Fg 84 1 e := fun e h => by
      obtain ⟨f, hf, rfl⟩ := List.mem_map.mp h
      exact (W.all f hf).fg
    refine ⟨_, rfl, _, rfl, L, xs, rfl, .inl (.inl (.inl eL)), q, _, rfl, by omega, by rw [show (((xs.length : Nat) : Int)).natAbs = xs.length from rfl]; exact Nat.lt_of_lt_of_le (show xs.length < 2 ^ 4 by omega) (Nat.pow_le_pow_right (by decide) (by decide)), P0, fun a H1 a0 a1 P1 b1 => ?_⟩
    obtain ⟨an, rfl⟩ : ∃ an : Nat, a = (an : Int) := ⟨a.toNat, by omega⟩
    have han : an < xs.length := by omega
    refine ⟨_, rfl, q, 4, rfl, by decide, by decide, P1, fun wy H2 y0 y1 P2 b2 => ?_⟩
    have b02 := b1.trans b2
    have eL2 := b02 _ _ nL eL
    have hA2 : DgAll K (wo q H2) xs (fs.map tD) := DgAll.same (wo_but b02) hA
    refine ⟨_, rfl, _, _, rfl, rfl, _, rfl, ite2 (fun _ => ?_) (fun _ => ?_)⟩
    · refine ⟨_, rfl, _, rfl, _, rfl, L, _, rfl, .inl (.inl eL2), fun l1 nl1 => ?_⟩
      rw [cutTo (k := an) rfl]
      have sl1 : Same H2 (L2.upd H2 l1 (.lst (xs.take an))) := same_new nl1
      have el1 : L2.upd H2 l1 (.lst (xs.take an)) l1 = some (.lst (xs.take an)) := upd_same
      generalize L2.upd H2 l1 (.lst (xs.take an)) = I1 at sl1 el1 ⊢
      have nq1 : l1 ≠ q := pot_ne P2 nl1
      have P21 := pot_same P2 sl1
      refine ⟨_, rfl, q, rfl, P21, fun v' d' K1 hv0 gd0 Pk bk => ?_⟩
      refine ⟨len_show (Nat.le_of_ble_eq_true rfl), fun l2 nl2 => ?_⟩
      have sl2 : Same K1 (L2.upd K1 l2 (.lst [v'])) := same_new nl2
      have el2 : L2.upd K1 l2 (.lst [v']) l2 = some (.lst [v']) := upd_same
      generalize L2.upd K1 l2 (.lst [v']) = I5 at sl2 el2 ⊢
      have b15 : But q I1 I5 := fun b o n e => sl2 _ _ (bk _ _ n e)
      have P5 := pot_same Pk sl2
      have hv' : Dg K (wo q I5) v' d' := hv0.same (wo_wo sl2)
      have fl1 : I5 l1 = some (.lst (xs.take an)) := b15 _ _ nq1 el1
      refine ⟨l1, l2, _, _, rfl, rfl, fl1, el2, by rw [sizeLine_eq]; simp only [List.length_take, List.length_drop, List.length_cons, List.length_nil, List.length_append]; omega, fun l3 nl3 => ?_⟩
      have sl3 : Same I5 (L2.upd I5 l3 (.lst (xs.take an ++ [v']))) := same_new nl3
      have el3 : L2.upd I5 l3 (.lst (xs.take an ++ [v'])) l3 = some (.lst (xs.take an ++ [v'])) := upd_same
      generalize L2.upd I5 l3 (.lst (xs.take an ++ [v'])) = I6 at sl3 el3 ⊢
      have eL6 : I6 L = some (.lst xs) := sl3 _ _ (b15 _ _ nL (sl1 _ _ eL2))
      refine ⟨_, rfl, _, rfl, _, _, rfl, rfl, _, rfl, L, _, rfl, .inl (.inl eL6), fun l4 nl4 => ?_⟩
      rw [cutFrom (k := an + 1) (by push_cast; rfl)]
      have sl4 : Same I6 (L2.upd I6 l4 (.lst (xs.drop (an + 1)))) := same_new nl4
      have el4 : L2.upd I6 l4 (.lst (xs.drop (an + 1))) l4 = some (.lst (xs.drop (an + 1))) := upd_same
      generalize L2.upd I6 l4 (.lst (xs.drop (an + 1))) = I7 at sl4 el4 ⊢
      refine ⟨l3, l4, _, _, rfl, rfl, sl4 _ _ el3, el4, by rw [sizeLine_eq]; simp only [List.length_take, List.length_drop, List.length_cons, List.length_nil, List.length_append]; omega, fun l5 nl5 => ?_⟩
      have sl5 : Same I7 (L2.upd I7 l5 (.lst (xs.take an ++ [v'] ++ xs.drop (an + 1)))) := same_new nl5
      have el5 : L2.upd I7 l5 (.lst (xs.take an ++ [v'] ++ xs.drop (an + 1))) l5 = some (.lst (xs.take an ++ [v'] ++ xs.drop (an + 1))) := upd_same
      generalize L2.upd I7 l5 (.lst (xs.take an ++ [v'] ++ xs.drop (an + 1))) = I8 at sl5 el5 ⊢
      have P8 := pot_same P5 ((sl3.trans sl4).trans sl5)
      have nq5 : l5 ≠ q := pot_ne (pot_same P5 (sl3.trans sl4)) nl5
      have b08 : But q H I8 := fun b o n e => sl5 _ _ (sl4 _ _ (sl3 _ _ (b15 _ _ n (sl1 _ _ (b02 _ _ n e)))))
      have w58 : Same (wo q I5) (wo q I8) := wo_wo ((sl3.trans sl4).trans sl5)
      have hA8 : DgAll K (wo q I8) xs (fs.map tD) := DgAll.same (wo_but b08) hA
      have hall := DgAll.app (DgAll.app (DgAll.take an hA8) (.cons (hv'.same w58) .nil)) (DgAll.drop (an + 1) hA8)
      have ln : ((fs.map tD).take an ++ [d'] ++ (fs.map tD).drop (an + 1)).length ≤ 13 := by
        rw [List.length_append, List.length_append, List.length_take, List.length_drop, List.length_cons, List.length_nil, List.length_map]
        omega
      refine k (.ref l5) _ I8 (.lst (.inl (.inl (wo_at nq5 el5))) hall) (wd_list (w := 300) (by omega) (fun e he => ?_) (by omega) (fun e he => ?_)) P8 b08
      · rcases List.mem_append.mp he with he | he
        · rcases List.mem_append.mp he with he | he
          · exact (wfg e (List.mem_of_mem_take he)).le (by decide) (by decide)
          · rw [List.mem_singleton.mp he]; exact gd0.fg
        · exact (wfg e (List.mem_of_mem_drop he)).le (by decide) (by decide)
      · rcases List.mem_append.mp he with he | he
        · rcases List.mem_append.mp he with he | he
          · exact wel e (List.mem_of_mem_take he)
          · rw [List.mem_singleton.mp he]; exact gd0.el
        · exact wel e (List.mem_of_mem_drop he)
    refine ⟨_, rfl, rfl, _, rfl, ite2 (fun _ => ?_) (fun _ => ?_)⟩
    · refine ⟨_, rfl, L, 12, xs, rfl, rfl, eL2, by decide, by decide, by rw [sizeLine_eq, show (12 : Int).toNat = 12 from rfl]; omega, fun l1 nl1 => ?_⟩
      rw [show (12 : Int).toNat = 12 from rfl]
      have sl1 : Same H2 (L2.upd H2 l1 (.lst (List.replicate 12 xs).flatten)) := same_new nl1
      have el1 : L2.upd H2 l1 (.lst (List.replicate 12 xs).flatten) l1 = some (.lst (List.replicate 12 xs).flatten) := upd_same
      generalize L2.upd H2 l1 (.lst (List.replicate 12 xs).flatten) = I1 at sl1 el1 ⊢
      refine ⟨len_show (Nat.le_of_ble_eq_true rfl), fun tp ntp => ?_⟩
      have stp : Same I1 (L2.upd I1 tp (.tup [.int 1, .int 1])) := same_new ntp
      have etp : L2.upd I1 tp (.tup [.int 1, .int 1]) tp = some (.tup [.int 1, .int 1]) := upd_same
      generalize L2.upd I1 tp (.tup [.int 1, .int 1]) = I2 at stp etp ⊢
      refine ⟨len_show (Nat.le_of_ble_eq_true rfl), fun l2 nl2 => ?_⟩
      have sl2 : Same I2 (L2.upd I2 l2 (.lst [.ref tp])) := same_new nl2
      have el2 : L2.upd I2 l2 (.lst [.ref tp]) l2 = some (.lst [.ref tp]) := upd_same
      generalize L2.upd I2 l2 (.lst [.ref tp]) = I3 at sl2 el2 ⊢
      have P3 := pot_same P2 ((sl1.trans stp).trans sl2)
      have lr : (List.replicate 12 xs).flatten.length = 12 * xs.length := by simp only [List.replicate, List.flatten_cons, List.flatten_nil, List.length_append, List.length_nil]; omega
      refine ⟨l1, l2, _, _, rfl, rfl, sl2 _ _ (stp _ _ el1), el2, by rw [sizeLine_eq, lr]; show _ + 1 ≤ _; omega, fun l3 nl3 => ?_⟩
      have sl3 : Same I3 (L2.upd I3 l3 (.lst ((List.replicate 12 xs).flatten ++ [.ref tp]))) := same_new nl3
      have el3 : L2.upd I3 l3 (.lst ((List.replicate 12 xs).flatten ++ [.ref tp])) l3 = some (.lst ((List.replicate 12 xs).flatten ++ [.ref tp])) := upd_same
      generalize L2.upd I3 l3 (.lst ((List.replicate 12 xs).flatten ++ [.ref tp])) = I4 at sl3 el3 ⊢
      have P4 := pot_same P3 sl3
      have nq3 : l3 ≠ q := pot_ne P3 nl3
      have nqt : tp ≠ q := pot_ne (pot_same P2 sl1) ntp
      have b04 : But q H I4 := fun b o n e => sl3 _ _ (sl2 _ _ (stp _ _ (sl1 _ _ (b02 _ _ n e))))
      have hA4 : DgAll K (wo q I4) xs (fs.map tD) := DgAll.same (wo_but b04) hA
      have one : Dg K (wo q I4) (.ref tp) (.tuple [.int 1, .int 1]) := .tup (.inl (.inl (wo_at nqt (sl3 _ _ (sl2 _ _ etp))))) (.cons (.int _) (.cons (.int _) .nil))
      have hall := DgAll.app (DgAll.rep hA4 12) (.cons one .nil)
      have lr2 : (List.replicate 12 (fs.map tD)).flatten.length = 12 * fs.length := by simp only [List.replicate, List.flatten_cons, List.flatten_nil, List.length_append, List.length_nil, List.length_map]; omega
      have ln : ((List.replicate 12 (fs.map tD)).flatten ++ [PyData.tuple [.int 1, .int 1]]).length ≤ 145 := by
        rw [List.length_append, lr2, List.length_cons, List.length_nil]
        omega
      have mem : ∀ e ∈ (List.replicate 12 (fs.map tD)).flatten, e ∈ fs.map tD := fun e he => by
        obtain ⟨l, hl, he⟩ := List.mem_flatten.mp he
        rw [List.eq_of_mem_replicate hl] at he
        exact he
      refine k (.ref l3) _ I4 (.lst (.inl (.inl (wo_at nq3 el3))) hall) (wd_list (w := 84) ln (fun e he => ?_) (by omega) (fun e he => ?_)) P4 b04
      · rcases List.mem_append.mp he with he | he
        · exact (wfg e (mem e he)).le (by decide) (by decide)
        · rw [List.mem_singleton.mp he]; exact (Ft.tuple (.cons (.i41 (by decide)) (.cons (.i41 (by decide)) .nil))).fg.le (by decide) (by decide)
      · rcases List.mem_append.mp he with he | he
        · exact wel e (mem e he)
        · rw [List.mem_singleton.mp he]; exact el_of (by decide +kernel)
    obtain ⟨v0, hx0⟩ : ∃ v0, xs[0]? = some v0 := ⟨_, List.getElem?_eq_getElem (by omega)⟩
    obtain ⟨f0_, hf0, ha0⟩ := hx.get hx0
    have W0 := W.all f0_ (List.mem_of_getElem? hf0)
    refine ⟨len_show (Nat.le_of_ble_eq_true rfl), fun m1 nm1 => ?_⟩
    have sm1 : Same H2 (L2.upd H2 m1 (.lst [])) := same_new nm1
    have em1 : L2.upd H2 m1 (.lst []) m1 = some (.lst []) := upd_same
    generalize L2.upd H2 m1 (.lst []) = G1 at sm1 em1 ⊢
    refine ⟨len_show (Nat.le_of_ble_eq_true rfl), fun m2 nm2 => ?_⟩
    have sm2 : Same G1 (L2.upd G1 m2 (.tup [])) := same_new nm2
    have em2 : L2.upd G1 m2 (.tup []) m2 = some (.tup []) := upd_same
    generalize L2.upd G1 m2 (.tup []) = G2 at sm2 em2 ⊢
    refine fun m3 nm3 => ?_
    have sm3 : Same G2 (L2.upd G2 m3 (.dK [])) := same_new nm3
    have em3 : L2.upd G2 m3 (.dK []) m3 = some (.dK []) := upd_same
    generalize L2.upd G2 m3 (.dK []) = G3 at sm3 em3 ⊢
    refine fun m4 nm4 => ?_
    refine ⟨len_show (Nat.le_of_ble_eq_true rfl), fun m5 nm5 => ?_⟩
    have qm5 : m4 ≠ m5 := fun z => by rw [← z, upd_same] at nm5; cases nm5
    refine ⟨by rw [upd_ne qm5]; exact upd_same, m5, [Sum.inl 1, Sum.inl 1], .int 1, rfl, upd_same, ?_⟩
    have sm4 : Same G3 (L2.upd (L2.upd (L2.upd G3 m4 (.dT [])) m5 (.tup [.int 1, .int 1])) m4 (.dT [([Sum.inl 1, Sum.inl 1], .int 1)])) := fun b o e => by
      have n1 := ne_of_none e nm4
      have n2 : b ≠ m5 := fun z => by rw [z] at e; rw [upd_ne (fun y => qm5 y.symm)] at nm5; rw [e] at nm5; cases nm5
      rw [upd_ne n1, upd_ne n2, upd_ne n1]
      exact e
    have em4 : (L2.upd (L2.upd (L2.upd G3 m4 (.dT [])) m5 (.tup [.int 1, .int 1])) m4 (.dT [([Sum.inl 1, Sum.inl 1], .int 1)])) m4 = some (.dT [([Sum.inl 1, Sum.inl 1], .int 1)]) := by rw [upd_same]
    generalize L2.upd (L2.upd (L2.upd G3 m4 (.dT [])) m5 (.tup [.int 1, .int 1])) m4 (.dT [([Sum.inl 1, Sum.inl 1], .int 1)]) = G5 at sm4 em4 ⊢
    refine ⟨len_show (Nat.le_of_ble_eq_true rfl), fun m6 nm6 => ?_⟩
    have sm6 : Same G5 (L2.upd G5 m6 (.tup [.int 1, .int 2])) := same_new nm6
    have em6 : L2.upd G5 m6 (.tup [.int 1, .int 2]) m6 = some (.tup [.int 1, .int 2]) := upd_same
    generalize L2.upd G5 m6 (.tup [.int 1, .int 2]) = G6 at sm6 em6 ⊢
    refine ⟨_, rfl, L, _, _, _, rfl, rfl, .inl (.inl (((((sm1.trans sm2).trans sm3).trans sm4).trans sm6) _ _ eL2)), atI_nat (j := 0) hx0, len_show (Nat.le_of_ble_eq_true rfl), fun m7 nm7 => ?_⟩
    have sm7 : Same G6 (L2.upd G6 m7 (.lst [])) := same_new nm7
    have em7 : L2.upd G6 m7 (.lst []) m7 = some (.lst []) := upd_same
    generalize L2.upd G6 m7 (.lst []) = G7 at sm7 em7 ⊢
    refine ⟨len_show (Nat.le_of_ble_eq_true rfl), fun m8 nm8 => ?_⟩
    have sm8 : Same G7 (L2.upd G7 m8 (.lst [.ref m7])) := same_new nm8
    have em8 : L2.upd G7 m8 (.lst [.ref m7]) m8 = some (.lst [.ref m7]) := upd_same
    generalize L2.upd G7 m8 (.lst [.ref m7]) = G8 at sm8 em8 ⊢
    refine ⟨len_show (Nat.le_of_ble_eq_true rfl), fun m9 nm9 => ?_⟩
    have sm9 : Same G8 (L2.upd G8 m9 (.lst [.non, .ref m1, .ref m2, .str (Str.ofString ""), .str (Str.ofString "ab"), .int 7, .bl true, .ref m3, .ref m4, .ref m6, v0, .ref m8])) := same_new nm9
    have em9 : L2.upd G8 m9 (.lst [.non, .ref m1, .ref m2, .str (Str.ofString ""), .str (Str.ofString "ab"), .int 7, .bl true, .ref m3, .ref m4, .ref m6, v0, .ref m8]) m9 = some (.lst [.non, .ref m1, .ref m2, .str (Str.ofString ""), .str (Str.ofString "ab"), .int 7, .bl true, .ref m3, .ref m4, .ref m6, v0, .ref m8]) := upd_same
    generalize L2.upd G8 m9 (.lst [.non, .ref m1, .ref m2, .str (Str.ofString ""), .str (Str.ofString "ab"), .int 7, .bl true, .ref m3, .ref m4, .ref m6, v0, .ref m8]) = G9 at sm9 em9 ⊢
    have nqm1 : m1 ≠ q := pot_ne P2 nm1
    have fm1 : G9 m1 = some (.lst []) := (sm9 _ _ (sm8 _ _ (sm7 _ _ (sm6 _ _ (sm4 _ _ (sm3 _ _ (sm2 _ _ em1)))))))
    have nqm2 : m2 ≠ q := pot_ne (pot_same P2 sm1) nm2
    have fm2 : G9 m2 = some (.tup []) := (sm9 _ _ (sm8 _ _ (sm7 _ _ (sm6 _ _ (sm4 _ _ (sm3 _ _ em2))))))
    have nqm3 : m3 ≠ q := pot_ne (pot_same P2 (sm1.trans sm2)) nm3
    have fm3 : G9 m3 = some (.dK []) := (sm9 _ _ (sm8 _ _ (sm7 _ _ (sm6 _ _ (sm4 _ _ em3)))))
    have nqm4 : m4 ≠ q := pot_ne (pot_same P2 ((sm1.trans sm2).trans sm3)) nm4
    have fm4 : G9 m4 = some (.dT [([Sum.inl 1, Sum.inl 1], .int 1)]) := (sm9 _ _ (sm8 _ _ (sm7 _ _ (sm6 _ _ em4))))
    have nqm6 : m6 ≠ q := pot_ne (pot_same P2 (((sm1.trans sm2).trans sm3).trans sm4)) nm6
    have fm6 : G9 m6 = some (.tup [.int 1, .int 2]) := (sm9 _ _ (sm8 _ _ (sm7 _ _ em6)))
    have nqm7 : m7 ≠ q := pot_ne (pot_same P2 ((((sm1.trans sm2).trans sm3).trans sm4).trans sm6)) nm7
    have fm7 : G9 m7 = some (.lst []) := (sm9 _ _ (sm8 _ _ em7))
    have nqm8 : m8 ≠ q := pot_ne (pot_same P2 (((((sm1.trans sm2).trans sm3).trans sm4).trans sm6).trans sm7)) nm8
    have fm8 : G9 m8 = some (.lst [.ref m7]) := (sm9 _ _ em8)
    have nqm9 : m9 ≠ q := pot_ne (pot_same P2 ((((((sm1.trans sm2).trans sm3).trans sm4).trans sm6).trans sm7).trans sm8)) nm9
    have fm9 : G9 m9 = some (.lst [.non, .ref m1, .ref m2, .str (Str.ofString ""), .str (Str.ofString "ab"), .int 7, .bl true, .ref m3, .ref m4, .ref m6, v0, .ref m8]) := em9
    have PG := pot_same P2 (((((((sm1.trans sm2).trans sm3).trans sm4).trans sm6).trans sm7).trans sm8).trans sm9)
    have bG : But q H G9 := fun b o n e => (((((((sm1.trans sm2).trans sm3).trans sm4).trans sm6).trans sm7).trans sm8).trans sm9) _ _ (b02 _ _ n e)
    generalize G9 = HG at fm1 fm2 fm3 fm4 fm6 fm7 fm8 fm9 PG bG ⊢
    refine ⟨_, rfl, q, 12, rfl, by decide, by decide, PG, fun c H3 c0_ c1_ P3 b3 => ?_⟩
    obtain ⟨cn, rfl⟩ : ∃ cn : Nat, c = (cn : Int) := ⟨c.toNat, by omega⟩
    have hv0F : Dg K (wo q H3) v0 (tD f0_) := ha0.dg.same (wo_but (bG.trans b3))
    have hall : DgAll K (wo q H3) [.non, .ref m1, .ref m2, .str (Str.ofString ""), .str (Str.ofString "ab"), .int 7, .bl true, .ref m3, .ref m4, .ref m6, v0, .ref m8] [.none, .list [], .tuple [], .str (Str.ofString ""), .str (Str.ofString "ab"), .int 7, .bool true, .dict [], .dict [(.tuple (List.map kD [Sum.inl 1, Sum.inl 1]), .int 1)], .tuple [.int 1, .int 2], tD f0_, .list [.list []]] := ((.cons (.non) (.cons (.lst (.inl (.inl (wo_at nqm1 (b3 _ _ nqm1 fm1)))) .nil) (.cons (.tup (.inl (.inl (wo_at nqm2 (b3 _ _ nqm2 fm2)))) .nil) (.cons (.str _) (.cons (.str _) (.cons (.int _) (.cons (.bl _) (.cons (.dk (wo_at nqm3 (b3 _ _ nqm3 fm3)) .nil) (.cons (.dt (wo_at nqm4 (b3 _ _ nqm4 fm4)) (.cons (.int _) .nil)) (.cons (.tup (.inl (.inl (wo_at nqm6 (b3 _ _ nqm6 fm6)))) (.cons (.int _) (.cons (.int _) .nil))) (.cons (hv0F) (.cons (.lst (.inl (.inl (wo_at nqm8 (b3 _ _ nqm8 fm8)))) (.cons (.lst (.inl (.inl (wo_at nqm7 (b3 _ _ nqm7 fm7)))) .nil) .nil)) .nil)))))))))))))
    have hc12 : cn < 12 := by omega
    obtain ⟨v', hv'⟩ : ∃ v', ([.non, .ref m1, .ref m2, .str (Str.ofString ""), .str (Str.ofString "ab"), .int 7, .bl true, .ref m3, .ref m4, .ref m6, v0, .ref m8] : List V)[cn]? = some v' := ⟨_, List.getElem?_eq_getElem (by show cn < 12; omega)⟩
    obtain ⟨d, hd, hq⟩ := hall.get hv'
    refine ⟨m9, _, _, _, rfl, rfl, .inl (.inl (b3 _ _ nqm9 fm9)), atI_nat (j := cn) hv', ?_⟩
    have wd : WD d := by
      clear hall hq hv'
      match cn, hc12, hd with
      | 0, _, hd => cases hd; exact wd_no (gd_good (by decide +kernel)).fg (fun ds h => by rcases h with h | h <;> cases h)
      | 1, _, hd => cases hd; exact wd_good (gd_good (by decide +kernel)) _ (.inl rfl) (by decide) (fun e h => nomatch h) (fun es h => by cases h <;> rfl)
      | 2, _, hd => cases hd; exact wd_good (gd_good (by decide +kernel)) _ (.inr rfl) (by decide) (fun e h => nomatch h) (fun es h => by cases h <;> rfl)
      | 3, _, hd => cases hd; exact wd_no (gd_good (by decide +kernel)).fg (fun ds h => by rcases h with h | h <;> cases h)
      | 4, _, hd => cases hd; exact wd_no (gd_good (by decide +kernel)).fg (fun ds h => by rcases h with h | h <;> cases h)
      | 5, _, hd => cases hd; exact wd_no (gd_good (by decide +kernel)).fg (fun ds h => by rcases h with h | h <;> cases h)
      | 6, _, hd => cases hd; exact wd_no (gd_good (by decide +kernel)).fg (fun ds h => by rcases h with h | h <;> cases h)
      | 7, _, hd => cases hd; exact wd_no (gd_good (by decide +kernel)).fg (fun ds h => by rcases h with h | h <;> cases h)
      | 8, _, hd => cases hd; exact wd_no (gd_good (by decide +kernel)).fg (fun ds h => by rcases h with h | h <;> cases h)
      | 9, _, hd => cases hd; exact wd_good (gd_good (by decide +kernel)) _ (.inr rfl) (by decide) (fun e h => by rcases List.mem_cons.mp h with rfl | h; exact el_of (by decide +kernel); rw [List.mem_singleton.mp h]; exact el_of (by decide +kernel)) (fun es h => by cases h <;> rfl)
      | 10, _, hd => cases hd; exact wd_good W0.gd _ (.inr rfl) (by show 2 ≤ 145; decide) (fun e h => by rcases List.mem_cons.mp h with rfl | h; exact el_i _; rw [List.mem_singleton.mp h]; exact el_i _) (fun es h => by cases h <;> rfl)
      | 11, _, hd => cases hd; exact wd_good (gd_good (by decide +kernel)) _ (.inl rfl) (by decide) (fun e h => by rw [List.mem_singleton.mp h]; exact el_of (by decide +kernel)) (fun es h => by cases h <;> rfl)
      | m + 12, h, _ => exact absurd h (by omega)
    exact k v' d H3 hq wd P3 (bG.trans b3)

end
end Lf

set_option Elab.async false
set_option linter.all false
set_option maxRecDepth 100000
set_option maxHeartbeats 4000000
set_option exponentiation.threshold 3000
namespace Lf
open PySem PySem.Spec PyProof.Rows L2
section
variable {P : Program} {w : World} {K : PySem.W.Frag} {mg : Str → Option Value} {base : Heap} {c0 c1 : Addr}
theorem low_one {a b : Int} (hb : 0 < b) : decide (low a b = (a, b)) = decide (Nat.gcd a.natAbs b.natAbs = 1) := by
  by_cases h : Nat.gcd a.natAbs b.natAbs = 1
  · rw [decide_eq_true h]
    exact decide_eq_true (low_self ⟨hb, h⟩)
  · rw [decide_eq_false h]
    refine decide_eq_false fun z => h ?_
    have := (low_is (n := a) (d := b) (by omega)).2
    rw [z] at this
    exact this
/-! ### _law_is_weight -/
theorem sc__law_is_weight : FnScope ["_law_thing", "_law_one"] ["_law_thing"] (defScope s__law_is_weight) := ⟨rfl, rfl, rfl, by decide +kernel, rfl, by decide +kernel, by decide +kernel⟩
def sp_lisw (K : PySem.W.Frag) : Sp := fun vs H Q _ => ∃ (v : V) (d : PyData), vs = [v] ∧ Dg K H v d ∧ (∀ a b, d = .tuple [.int a, .int b] → Mid b) ∧ ∀ H', Same H H' → Q (.bl (isAb d)) H'
theorem isAb_no {d : PyData} (h : isFr d = false) : isAb d = false := by unfold isAb; rw [h]; rfl
theorem ok_lisw {f : Addr} {fd : FuncData} (M : Blt mg) (Mx : Bltx mg) (F : Fun K "_law_is_weight" "_law_is_weight" s__law_is_weight f fd) (C__law_is_whole : Cal P w K mg base CX0 1 "_law_is_whole" ["_law_thing"] (sp_wholeG K)) (C__law_low : Cal P w K mg base CX0 1 "_law_low" ["_law_top", "_law_bottom"] (sp_low)) :
    FnG P w K mg base CX0 2 f fd ["_law_thing"] (sp_lisw K) := by
  refine Gfun F sc__law_is_weight (fun vs H Q E h => ?_) (fun cdv A outer s H vs Q E hg hr h => ?_)
  · obtain ⟨v, d, rfl, _⟩ := h
    rfl
  · obtain ⟨v, d, rfl, hq, hmid, k⟩ := h
    refine ⟨_, (pss_cons (ps_if (PW.pt (pw_or (pt_not (pt_val (pe_callB call_isi rfl Mx.isinstance bt_isinstance (pa_cons (pv 0) (pa_cons (pe_bltn (v := .ty "tuple") rfl Mx.tuple bt_tuple rfl) pa_nil))))) (pw_or (pt_cmpR op_ne (pe_callB call_len_seq rfl M.len bt_len (pa_cons (pv 0) pa_nil)) pe_int (nomark _)) (pw_or1 (pt_not (pt_val (pe_callB (cr_all rfl) rfl M.all bt_all (pa_cons (pe_lc (own := [("_law_one", 1)]) (g := gName 1) (tt := tYes) rfl sc__law_is_weight.nd (pi_tup (pv 0)) (blkOk_by (N := ["_law_thing", "_law_one"]) (sc := defScope s__law_is_weight) (by decide +kernel)) (fun _ _ _ _ _ => pg_name (i := 1) sc__law_is_weight.nd rfl (Or.inl rfl)) (fun _ _ _ _ _ => pts_nil) (fun _ _ _ _ _ => (pe_g C__law_is_whole (hr.mono (by decide)) hg (pa_cons (pv 1) pa_nil)))) pa_nil))))))))
      (pss_one (ps_ret pe_bl))
      pss_nil)
      (pss_one (ps_ret (pe_and (pe_cmpR op_gt (pe_ix ix_tup (pv 0) pe_int (fun _ _ => rfl)) pe_int (nomark _)) (pe_and (pe_cmpR op_gt (pe_ix ix_tup (pv 0) pe_int (fun _ _ => rfl)) pe_int (nomark _)) (pe_one (pe_cmpR (op_eqD hr.units) (pe_g C__law_low (hr.mono (by decide)) hg (pa_cons (pe_ix ix_tup (pv 0) pe_int (fun _ _ => rfl)) (pa_cons (pe_ix ix_tup (pv 0) pe_int (fun _ _ => rfl)) pa_nil))) (pv 0) (nomark _)))))))), ?_⟩
    have fin : ∀ b : Bool, isAb d = b → ∀ H', Same H H' → Q (.bl b) H' := fun b e H' s => e ▸ k H' s
    refine ⟨_, rfl, _, _, _, _, _, rfl, .ty "tuple", hq.ty, kit_ty (kt d), _, rfl, ?_⟩
    by_cases ht : isT d = true
    · rw [ht]
      refine iteF ?_
      obtain ⟨a, xs, ds, rfl, rfl, hS, hA, hn⟩ := hq.tupI ht
      refine ⟨_, rfl, a, xs, rfl, .inr hS, rfl, _, rfl, ?_⟩
      by_cases hl : xs.length = 2
      · refine iteNS (show V.int (xs.length : Int) = V.int 2 by rw [hl]; rfl) ?_
        obtain ⟨x, y, d1, d2, rfl, rfl, q1, q2⟩ := two_ofG hA hl
        refine ⟨_, rfl, a, rfl, ⟨_, hS⟩, fun D hD => lc_tup (xs := [x, y]) (fun i H' => H' D = some (.lst (([isW d1, isW d2].take i).map V.bl)) ∧ Same H H') ⟨upd_same, same_new hD⟩ (fun i H' _ h => sm_t h.2 hS) ?_ ?_⟩
        · rintro i u H' hu ⟨eD, sm⟩
          obtain ⟨du, hdu, hw⟩ : ∃ du, Dg K H u du ∧ [isW d1, isW d2][i]? = some (isW du) := by
            match i, hu with
            | 0, hu => cases hu; exact ⟨d1, q1, rfl⟩
            | 1, hu => cases hu; exact ⟨d2, q2, rfl⟩
            | n + 2, hu => simp at hu
          refine ⟨rfl, _, rfl, u, du, rfl, hdu.same sm, _, eD, ?_, ?_, fun b o e => ?_⟩
          · rw [List.length_map, List.length_take, sizeLine_eq]
            have : ([isW d1, isW d2] : List Bool).length = 2 := rfl
            omega
          · rw [upd_same, List.take_add_one, hw, List.map_append]
            rfl
          · rw [upd_ne (ne_of_none e hD)]
            exact sm _ _ e
        · rintro H1 ⟨eD, sm⟩
          refine ⟨D, [isW d1, isW d2], rfl, .inl (.inl eD), _, rfl, ?_⟩
          by_cases w1 : isW d1 = true
          · by_cases w2 : isW d2 = true
            · rw [w1, w2]
              refine iteF ?_
              obtain ⟨p, rfl, rfl⟩ := q1.whole w1
              obtain ⟨b, rfl, rfl⟩ := q2.whole w2
              have hS1 := sm_t sm hS
              have hab : isAb (.tuple [.int p, .int b]) = (decide (0 < b) && decide (Nat.gcd p.natAbs b.natAbs = 1) && decide (0 < p)) := rfl
              refine ⟨_, rfl, a, _, _, _, rfl, rfl, hS1, rfl, _, _, rfl, rfl, _, rfl, ite2 (fun ep => ?_) (fun ep => ?_)⟩
              · have hp : 0 < p := of_decide_eq_true ep
                refine ⟨_, rfl, a, _, _, _, rfl, rfl, hS1, rfl, _, _, rfl, rfl, _, rfl, ite2 (fun e => ?_) (fun e => ?_)⟩
                · have hb : 0 < b := of_decide_eq_true e
                  refine ⟨_, rfl, a, _, _, _, rfl, rfl, hS1, rfl, _, rfl, a, _, _, _, rfl, rfl, hS1, rfl, p, b, rfl, by omega, hmid p b rfl, fun H2 p2 s2 e2 => ?_⟩
                  refine ⟨_, rfl, tD (low p b), tD (p, b), dp2' e2, dp2 (sm_t s2 hS1), tD_shaped _, tD_shaped _, ?_⟩
                  rw [eqv_tD, low_one hb]
                  refine fin _ ?_ H2 (sm.trans s2)
                  rw [hab, decide_eq_true hb, decide_eq_true hp, Bool.true_and, Bool.and_true]
                · refine fin _ ?_ H1 sm
                  rw [hab, show decide (0 < b) = false from Bool.eq_false_iff.mpr e, Bool.false_and, Bool.false_and]
              · refine fin _ ?_ H1 sm
                rw [hab, show decide (0 < p) = false from Bool.eq_false_iff.mpr ep, Bool.and_false]
            · have w2' : isW d2 = false := by cases h : isW d2 <;> first | rfl | exact absurd h w2
              rw [w2', show List.all [isW d1, false] id = false by simp]
              exact iteT (fin _ (isAb_no (isFr_no (.inr w2'))) H1 sm)
          · have w1' : isW d1 = false := by cases h : isW d1 <;> first | rfl | exact absurd h w1
            rw [w1', show List.all [false, isW d2] id = false by simp]
            exact iteT (fin _ (isAb_no (isFr_no (.inl w1'))) H1 sm)
      · refine iteN (fun z => hl (by have := V.int.inj z; omega)) ?_
        have hl2 : ds.length ≠ 2 := by rw [← DgAll.len hA]; exact hl
        exact fin _ (isAb_no (isFr_len hl2)) H same_rfl
    · have ht' : isT d = false := by cases h : isT d <;> first | rfl | exact absurd h ht
      rw [ht']
      refine iteT ?_
      have : isFr d = false := by
        cases d <;> first | rfl | exact absurd rfl ht
      exact fin _ (isAb_no this) H same_rfl

def wtsOf : PyData → List (Int × Int)
  | .list ds => ds.map top2
  | _ => []
/-- what is due -/
def kindOf (d e : PyData) : Str := if isWts d = false then ("weights" : Str) else if isAb e = false then ("step" : Str) else if many (wtsOf d) (top2 e) = 0 then ("little" : Str) else ("made" : Str)
theorem isAb_inv {d : PyData} (h : isAb d = true) (g : El d) : Wt (top2 d) ∧ d = tD (top2 d) := by
  unfold isAb at h
  rw [Bool.and_eq_true] at h
  obtain ⟨a, b, rfl, hl⟩ := isFr_inv h.1
  exact ⟨⟨hl, of_decide_eq_true h.2, g.fr a b rfl⟩, rfl⟩
theorem many_zero {fs : List (Int × Int)} {st : Int × Int} (h : Wts fs) (hs : Wt st) : (many fs st = 0) ↔ (tot fs).1 * st.2 < st.1 * (tot fs).2 := by
  have p1 := tot_pos h
  have p2 := (tot_f h.f).1
  have q1 := hs.po
  have q2 := hs.lo.1
  have n0 : 0 ≤ (tot fs).1 * st.2 := Int.mul_nonneg (Int.le_of_lt p1) (Int.le_of_lt q2)
  have d0 : 0 < (tot fs).2 * st.1 := Int.mul_pos p2 q1
  unfold many
  rw [fdiv_pos_eq d0, Int.mul_comm st.1]
  constructor
  · intro e
    rcases Int.lt_or_le ((tot fs).1 * st.2) ((tot fs).2 * st.1) with l | l
    · exact l
    · have := Int.le_ediv_of_mul_le d0 (show 1 * ((tot fs).2 * st.1) ≤ (tot fs).1 * st.2 by rw [Int.one_mul]; exact l)
      omega
  · intro l
    exact Int.ediv_eq_zero_of_lt n0 l
theorem dgall_wts {H : Hp} : ∀ {xs : List V} {ds : List PyData}, DgAll K H xs ds → (∀ d ∈ ds, isAb d = true) → AtKs K H xs (ds.map top2)
  | _, _, .nil, _ => .nil
  | _, _, .cons a r, h => .cons (fr_atG a (by have := h _ List.mem_cons_self; unfold isAb at this; rw [Bool.and_eq_true] at this; exact this.1)).1 (dgall_wts r fun d hd => h d (List.mem_cons_of_mem _ hd))
/-- weights told right -/
theorem wts_of {ds : List PyData} (h : isWtL ds = true) (el : ∀ e ∈ ds, El e) : Wts (ds.map top2) ∧ ∀ d ∈ ds, isAb d = true := by
  unfold isWtL at h
  rw [Bool.and_eq_true, Bool.and_eq_true] at h
  have al := List.all_eq_true.mp h.2
  have h1 := of_decide_eq_true h.1.1
  have h2 := of_decide_eq_true h.1.2
  refine ⟨⟨fun f hf => ?_, by rw [List.length_map]; exact h1, by rw [List.length_map]; exact h2⟩, al⟩
  obtain ⟨d, hd, rfl⟩ := List.mem_map.mp hf
  exact (isAb_inv (al d hd) (el d hd)).1
theorem el_mid {d : PyData} (h : El d) : ∀ a b, d = .tuple [.int a, .int b] → Mid b := fun a b e => Nat.lt_of_lt_of_le (h.fr a b e).2 (Nat.pow_le_pow_right (by decide) (by decide))

/-! ### _law_due -/
theorem sc__law_due : FnScope ["_law_weights", "_law_step", "_law_whole", "_law_one"] ["_law_weights", "_law_step"] (defScope s__law_due) := ⟨rfl, rfl, rfl, by decide +kernel, rfl, by decide +kernel, by decide +kernel⟩
def sp_dueL (K : PySem.W.Frag) : Sp := fun vs H Q _ => ∃ (v u : V) (ds : List PyData) (e : PyData), vs = [v, u] ∧ Dg K H v (.list ds) ∧ (∀ x ∈ ds, El x) ∧ ds.length ≤ 300 ∧ Dg K H u e ∧ El e ∧ ∀ H', Same H H' → Q (.str (kindOf (.list ds) e)) H'
set_option maxHeartbeats 16000000 in
theorem ok_dueL {f : Addr} {fd : FuncData} (M : Blt mg) (Mx : Bltx mg) (ml : mg "list" = none) (mint : mg "int" = none) (F : Fun K "_law_due" "_law_due" s__law_due f fd) (C__law_is_weight : Cal P w K mg base CX0 2 "_law_is_weight" ["_law_thing"] (sp_lisw K)) (C__law_total : Cal P w K mg base CX0 3 "_law_total" ["_law_some_here"] (sp_togL K)) : FnG P w K mg base CX0 4 f fd ["_law_weights", "_law_step"] (sp_dueL K) := by
  refine Gfun F sc__law_due (fun vs H Q E h => ?_) (fun cdv A outer s H vs Q E hg hr h => ?_)
  · obtain ⟨v, u, ds, e, rfl, _⟩ := h
    rfl
  · obtain ⟨v, u, ds, e, rfl, hq, el, h300, hu, eu, k⟩ := h
    refine ⟨_, (pss_cons (ps_if (PW.pt (pw_or (pt_not (pt_val (pe_callB call_isiT rfl Mx.isinstance bt_isinstance (pa_cons (pv 0) (pa_cons (pe_tup (pa_cons (pe_bltn (v := .ty "list") rfl ml bt_list rfl) (pa_cons (pe_bltn (v := .ty "tuple") rfl Mx.tuple bt_tuple rfl) pa_nil))) pa_nil))))) (pw_or1 (pt_not (pt_chain op_le op_le pe_int (pe_callB call_len_seq rfl M.len bt_len (pa_cons (pv 0) pa_nil)) pe_int)))))
      (pss_one (ps_ret pe_str))
      pss_nil)
      (pss_cons (ps_if (pt_not (pt_val (pe_callB (cr_all rfl) rfl M.all bt_all (pa_cons (pe_lc (own := [("_law_one", 3)]) (g := gName 3) (tt := tYes) rfl sc__law_due.nd (pi_list (pv 0)) (blkOk_by (N := ["_law_weights", "_law_step", "_law_whole", "_law_one"]) (sc := defScope s__law_due) (by decide +kernel)) (fun _ _ _ _ _ => pg_name (i := 3) sc__law_due.nd rfl (Or.inl rfl)) (fun _ _ _ _ _ => pts_nil) (fun _ _ _ _ _ => (pe_g C__law_is_weight (hr.mono (by decide)) hg (pa_cons (pv 3) pa_nil)))) pa_nil))))
      (pss_one (ps_ret pe_str))
      pss_nil)
      (pss_cons (ps_if (pt_not (pt_val (pe_g C__law_is_weight (hr.mono (by decide)) hg (pa_cons (pv 1) pa_nil))))
      (pss_one (ps_ret pe_str))
      pss_nil)
      (pss_cons (ps_set (i := 2) sc__law_due.nd rfl (.inl rfl) (pe_g C__law_total (hr.mono (by decide)) hg (pa_cons (pv 0) pa_nil)))
      (pss_one (ps_ret (pe_ix ix_list (pe_lst (pa_cons pe_str (pa_cons pe_str pa_nil))) (pe_callTy call_int1 rfl M.int bt_int (pa_cons (pe_cmpR op_lt (pe_op op_mulW (pe_ix ix_tup (pv 2) pe_int (fun _ _ => rfl)) (pe_ix ix_tup (pv 1) pe_int (fun _ _ => rfl))) (pe_op op_mulW (pe_ix ix_tup (pv 1) pe_int (fun _ _ => rfl)) (pe_ix ix_tup (pv 2) pe_int (fun _ _ => rfl))) (nomark _)) pa_nil)) (fun _ _ => rfl)))))))), ?_⟩
    have bad : isWtL ds = false → ∀ H', Same H H' → Q (.str ("weights" : Str)) H' := fun h H' s => by
      have := k H' s
      unfold kindOf at this
      rw [show isWts (.list ds) = isWtL ds from rfl, h, if_pos rfl] at this
      exact this
    refine ⟨_, rfl, len_show (Nat.le_of_ble_eq_true rfl), fun tp nt => ?_⟩
    have s1 : Same H (L2.upd H tp (.tup [.ty "list", .ty "tuple"])) := same_new nt
    refine ⟨_, tp, _, _, _, true, rfl, upd_same, .cons (.ty "list") (.cons (.ty "tuple") .nil), (hq.same s1).ty, k_lt (.list ds), _, rfl, ?_⟩
    generalize L2.upd H tp (.tup [.ty "list", .ty "tuple"]) = H1 at s1 ⊢
    refine iteF ?_
    obtain ⟨a, xs, hx, hS, hA⟩ : ∃ a xs, v = .ref a ∧ SqL K H a xs ∧ DgAll K H xs ds := by
      cases hq with
      | lst h1 h2 => exact ⟨_, _, rfl, h1, h2⟩
    subst hx
    have hl : xs.length = ds.length := DgAll.len hA
    refine ⟨_, rfl, a, xs, rfl, .inl (sm_l s1 hS), _, _, rfl, rfl, _, rfl, ?_⟩
    by_cases c1 : 1 ≤ ds.length
    · rw [decide_eq_true (show (1 : Int) ≤ (xs.length : Int) by omega)]
      refine iteT ⟨_, _, rfl, rfl, _, rfl, ?_⟩
      by_cases c8 : ds.length ≤ 12
      · rw [decide_eq_true (show (xs.length : Int) ≤ 12 by omega)]
        refine iteF ?_
        refine ⟨_, rfl, a, rfl, ⟨_, sm_l s1 hS⟩, fun D hD => lc_list (xs := xs) (fun i H' => H' D = some (.lst ((ds.take i).map fun d => .bl (isAb d))) ∧ Same H1 H') ⟨upd_same, same_new hD⟩ (fun i H' _ h => sm_l (s1.trans h.2) hS) ?_ ?_⟩
        · rintro i x H2 hx ⟨eD, sm⟩
          obtain ⟨d, hd, hg0⟩ := hA.get hx
          have hi : i < xs.length := (List.getElem?_eq_some_iff.mp hx).1
          refine ⟨rfl, _, rfl, x, d, rfl, hg0.same (s1.trans sm), el_mid (el d (List.mem_of_getElem? hd)), fun H3 s3 => ?_⟩
          refine ⟨_, s3 _ _ eD, ?_, ?_, fun b o e => ?_⟩
          · rw [List.length_map, List.length_take, sizeLine_eq]
            omega
          · rw [upd_same, List.take_succ, hd, List.map_append]
            rfl
          · rw [upd_ne (ne_of_none e hD)]
            exact s3 _ _ (sm _ _ e)
        · rintro H2 ⟨eD, sm⟩
          rw [hl, List.take_length] at eD
          refine ⟨D, ds.map isAb, rfl, .inl (.inl (by rw [eD, List.map_map]; rfl)), ?_⟩
          rw [show (ds.map isAb).all id = ds.all isAb by rw [List.all_map]; rfl]
          have s2 := s1.trans sm
          by_cases ca : ds.all isAb = true
          · rw [ca]
            have hw : isWtL ds = true := by unfold isWtL; rw [decide_eq_true c1, decide_eq_true c8, ca]; rfl
            obtain ⟨W, al⟩ := wts_of hw el
            refine ⟨_, rfl, iteF ?_⟩
            refine ⟨_, rfl, u, e, rfl, hu.same s2, el_mid eu, fun H3 s3 => ?_⟩
            have s23 := s2.trans s3
            by_cases es : isAb e = true
            · rw [es]
              refine ⟨_, rfl, iteF ?_⟩
              obtain ⟨We, he⟩ := isAb_inv es eu
              have hu3 : AtK K H3 u (top2 e) := (fr_atG (hu.same s23) (by have := es; unfold isAb at this; rw [Bool.and_eq_true] at this; exact this.1)).1
              have hA3 : AtKs K H3 xs (ds.map top2) := dgall_wts (DgAll.same s23 hA) al
              refine ⟨_, rfl, a, xs, ds.map top2, 41, rfl, sm_l s23 hS, hA3, W.f, W.b, by decide, ?_, fun H4 t4 s4 h4 => ?_⟩
              · have := W.few
                omega
              have ht4 : AtK K H4 t4 (tot (ds.map top2)) := h4
              obtain ⟨p4, rfl, hp4⟩ := ht4
              obtain ⟨pu, rfl, hpu⟩ := hu3.same s4
              have kk := k
              unfold kindOf at kk
              rw [show isWts (.list ds) = isWtL ds from rfl, hw, es, if_neg (by decide), if_neg (by decide), show wtsOf (.list ds) = ds.map top2 from rfl] at kk
              refine ⟨len_show (Nat.le_of_ble_eq_true rfl), fun l5 nl5 => ?_⟩
              have s5 : Same H4 (L2.upd H4 l5 (.lst [.str ("made" : Str), .str ("little" : Str)])) := same_new nl5
              have e5 : L2.upd H4 l5 (.lst [.str ("made" : Str), .str ("little" : Str)]) l5 = some (.lst [.str ("made" : Str), .str ("little" : Str)]) := upd_same
              generalize L2.upd H4 l5 (.lst [.str ("made" : Str), .str ("little" : Str)]) = H5 at s5 e5 ⊢
              have hp5 := sm_t s5 hp4
              have hpu5 := sm_t s5 hpu
              have bt1 := (tot_bt W).sm (by decide)
              have bs1 := We.bt.sm (by decide)
              have sE := (s23.trans s4).trans s5
              refine ⟨_, rfl, p4, _, _, _, rfl, rfl, hp5, atI_nat (j := 0) rfl, _, rfl, pu, _, _, _, rfl, rfl, hpu5, atI_nat (j := 1) rfl, _, _, rfl, rfl, Sm.mulW bt1.1 bs1.2, ?_⟩
              refine ⟨_, rfl, pu, _, _, _, rfl, rfl, hpu5, atI_nat (j := 0) rfl, _, rfl, p4, _, _, _, rfl, rfl, hp5, atI_nat (j := 1) rfl, _, _, rfl, rfl, Sm.mulW bs1.1 bt1.2, ?_⟩
              refine ⟨_, _, rfl, rfl, .inr ⟨_, rfl, ?_⟩⟩
              by_cases lt : (tot (ds.map top2)).1 * (top2 e).2 < (top2 e).1 * (tot (ds.map top2)).2
              · rw [if_pos ((many_zero W We).mpr lt)] at kk
                exact ⟨l5, _, _, _, rfl, by rw [decide_eq_true lt]; rfl, .inl (.inl e5), atI_nat (j := 1) rfl, kk _ sE⟩
              · rw [if_neg (fun z => lt ((many_zero W We).mp z))] at kk
                exact ⟨l5, _, _, _, rfl, by rw [decide_eq_false lt]; rfl, .inl (.inl e5), atI_nat (j := 0) rfl, kk _ sE⟩
            · have es' : isAb e = false := Bool.eq_false_iff.mpr es
              rw [es']
              refine ⟨_, rfl, iteT ?_⟩
              have := k H3 s23
              unfold kindOf at this
              rw [show isWts (.list ds) = isWtL ds from rfl, hw, if_neg (by decide), if_pos es'] at this
              exact this
          · have ca' : ds.all isAb = false := Bool.eq_false_iff.mpr ca
            rw [ca']
            exact ⟨_, rfl, iteT (bad (by unfold isWtL; rw [ca', Bool.and_false]) _ s2)⟩
      · rw [decide_eq_false (show ¬ (xs.length : Int) ≤ 12 by omega)]
        exact iteT (bad (by unfold isWtL; rw [decide_eq_false c8, Bool.and_false, Bool.false_and]) _ s1)
    · rw [decide_eq_false (show ¬ (1 : Int) ≤ (xs.length : Int) by omega)]
      exact iteF ⟨_, rfl, iteT (bad (by unfold isWtL; rw [decide_eq_false c1, Bool.false_and, Bool.false_and]) _ s1)⟩

def sp_dueT (K : PySem.W.Frag) : Sp := fun vs H Q _ => ∃ (v u : V) (ds : List PyData) (e : PyData), vs = [v, u] ∧ Dg K H v (.tuple ds) ∧ (∀ x ∈ ds, El x) ∧ ds.length ≤ 300 ∧ Dg K H u e ∧ El e ∧ isWtL ds = false ∧ ∀ H', Same H H' → Q (.str (kindOf (.tuple ds) e)) H'
set_option maxHeartbeats 16000000 in
theorem ok_dueT {f : Addr} {fd : FuncData} (M : Blt mg) (Mx : Bltx mg) (ml : mg "list" = none) (mint : mg "int" = none) (F : Fun K "_law_due" "_law_due" s__law_due f fd) (C__law_is_weight : Cal P w K mg base CX0 2 "_law_is_weight" ["_law_thing"] (sp_lisw K)) (C__law_total : Cal P w K mg base CX0 3 "_law_total" ["_law_some_here"] (sp_togL K)) : FnG P w K mg base CX0 4 f fd ["_law_weights", "_law_step"] (sp_dueT K) := by
  refine Gfun F sc__law_due (fun vs H Q E h => ?_) (fun cdv A outer s H vs Q E hg hr h => ?_)
  · obtain ⟨v, u, ds, e, rfl, _⟩ := h
    rfl
  · obtain ⟨v, u, ds, e, rfl, hq, el, h300, hu, eu, hbad, k⟩ := h
    refine ⟨_, (pss_cons (ps_if (PW.pt (pw_or (pt_not (pt_val (pe_callB call_isiT rfl Mx.isinstance bt_isinstance (pa_cons (pv 0) (pa_cons (pe_tup (pa_cons (pe_bltn (v := .ty "list") rfl ml bt_list rfl) (pa_cons (pe_bltn (v := .ty "tuple") rfl Mx.tuple bt_tuple rfl) pa_nil))) pa_nil))))) (pw_or1 (pt_not (pt_chain op_le op_le pe_int (pe_callB call_len_seq rfl M.len bt_len (pa_cons (pv 0) pa_nil)) pe_int)))))
      (pss_one (ps_ret pe_str))
      pss_nil)
      (pss_cons (ps_if (pt_not (pt_val (pe_callB (cr_all rfl) rfl M.all bt_all (pa_cons (pe_lc (own := [("_law_one", 3)]) (g := gName 3) (tt := tYes) rfl sc__law_due.nd (pi_tup (pv 0)) (blkOk_by (N := ["_law_weights", "_law_step", "_law_whole", "_law_one"]) (sc := defScope s__law_due) (by decide +kernel)) (fun _ _ _ _ _ => pg_name (i := 3) sc__law_due.nd rfl (Or.inl rfl)) (fun _ _ _ _ _ => pts_nil) (fun _ _ _ _ _ => (pe_g C__law_is_weight (hr.mono (by decide)) hg (pa_cons (pv 3) pa_nil)))) pa_nil))))
      (pss_one (ps_ret pe_str))
      pss_nil)
      (pss_cons (ps_if (pt_not (pt_val (pe_g C__law_is_weight (hr.mono (by decide)) hg (pa_cons (pv 1) pa_nil))))
      (pss_one (ps_ret pe_str))
      pss_nil)
      (pss_cons (ps_set (i := 2) sc__law_due.nd rfl (.inl rfl) (pe_g C__law_total (hr.mono (by decide)) hg (pa_cons (pv 0) pa_nil)))
      (pss_one (ps_ret (pe_ix ix_list (pe_lst (pa_cons pe_str (pa_cons pe_str pa_nil))) (pe_callTy call_int1 rfl M.int bt_int (pa_cons (pe_cmpR op_lt (pe_op op_mulW (pe_ix ix_tup (pv 2) pe_int (fun _ _ => rfl)) (pe_ix ix_tup (pv 1) pe_int (fun _ _ => rfl))) (pe_op op_mulW (pe_ix ix_tup (pv 1) pe_int (fun _ _ => rfl)) (pe_ix ix_tup (pv 2) pe_int (fun _ _ => rfl))) (nomark _)) pa_nil)) (fun _ _ => rfl)))))))), ?_⟩
    have bad : isWtL ds = false → ∀ H', Same H H' → Q (.str ("weights" : Str)) H' := fun h H' s => by
      have := k H' s
      unfold kindOf at this
      rw [show isWts (.tuple ds) = isWtL ds from rfl, h, if_pos rfl] at this
      exact this
    refine ⟨_, rfl, len_show (Nat.le_of_ble_eq_true rfl), fun tp nt => ?_⟩
    have s1 : Same H (L2.upd H tp (.tup [.ty "list", .ty "tuple"])) := same_new nt
    refine ⟨_, tp, _, _, _, true, rfl, upd_same, .cons (.ty "list") (.cons (.ty "tuple") .nil), (hq.same s1).ty, k_lt (.tuple ds), _, rfl, ?_⟩
    generalize L2.upd H tp (.tup [.ty "list", .ty "tuple"]) = H1 at s1 ⊢
    refine iteF ?_
    obtain ⟨a, xs, hx, hS, hA⟩ : ∃ a xs, v = .ref a ∧ SqT K H a xs ∧ DgAll K H xs ds := by
      cases hq with
      | tup h1 h2 => exact ⟨_, _, rfl, h1, h2⟩
    subst hx
    have hl : xs.length = ds.length := DgAll.len hA
    refine ⟨_, rfl, a, xs, rfl, .inr (sm_t s1 hS), _, _, rfl, rfl, _, rfl, ?_⟩
    by_cases c1 : 1 ≤ ds.length
    · rw [decide_eq_true (show (1 : Int) ≤ (xs.length : Int) by omega)]
      refine iteT ⟨_, _, rfl, rfl, _, rfl, ?_⟩
      by_cases c8 : ds.length ≤ 12
      · rw [decide_eq_true (show (xs.length : Int) ≤ 12 by omega)]
        refine iteF ?_
        refine ⟨_, rfl, a, rfl, ⟨_, sm_t s1 hS⟩, fun D hD => lc_tup (xs := xs) (fun i H' => H' D = some (.lst ((ds.take i).map fun d => .bl (isAb d))) ∧ Same H1 H') ⟨upd_same, same_new hD⟩ (fun i H' _ h => sm_t (s1.trans h.2) hS) ?_ ?_⟩
        · rintro i x H2 hx ⟨eD, sm⟩
          obtain ⟨d, hd, hg0⟩ := hA.get hx
          have hi : i < xs.length := (List.getElem?_eq_some_iff.mp hx).1
          refine ⟨rfl, _, rfl, x, d, rfl, hg0.same (s1.trans sm), el_mid (el d (List.mem_of_getElem? hd)), fun H3 s3 => ?_⟩
          refine ⟨_, s3 _ _ eD, ?_, ?_, fun b o e => ?_⟩
          · rw [List.length_map, List.length_take, sizeLine_eq]
            omega
          · rw [upd_same, List.take_succ, hd, List.map_append]
            rfl
          · rw [upd_ne (ne_of_none e hD)]
            exact s3 _ _ (sm _ _ e)
        · rintro H2 ⟨eD, sm⟩
          rw [hl, List.take_length] at eD
          refine ⟨D, ds.map isAb, rfl, .inl (.inl (by rw [eD, List.map_map]; rfl)), ?_⟩
          rw [show (ds.map isAb).all id = ds.all isAb by rw [List.all_map]; rfl]
          have s2 := s1.trans sm
          by_cases ca : ds.all isAb = true
          · rw [ca]
            have hw : isWtL ds = true := by unfold isWtL; rw [decide_eq_true c1, decide_eq_true c8, ca]; rfl
            exact absurd (hw.symm.trans hbad) (by decide)
          · have ca' : ds.all isAb = false := Bool.eq_false_iff.mpr ca
            rw [ca']
            exact ⟨_, rfl, iteT (bad (by unfold isWtL; rw [ca', Bool.and_false]) _ s2)⟩
      · rw [decide_eq_false (show ¬ (xs.length : Int) ≤ 12 by omega)]
        exact iteT (bad (by unfold isWtL; rw [decide_eq_false c8, Bool.and_false, Bool.false_and]) _ s1)
    · rw [decide_eq_false (show ¬ (1 : Int) ≤ (xs.length : Int) by omega)]
      exact iteF ⟨_, rfl, iteT (bad (by unfold isWtL; rw [decide_eq_false c1, Bool.false_and, Bool.false_and]) _ s1)⟩

def sp_dueN (K : PySem.W.Frag) : Sp := fun vs H Q _ => ∃ (v u : V) (d : PyData), vs = [v, u] ∧ Dg K H v d ∧ isLi d = false ∧ isT d = false ∧ ∀ H', Same H H' → Q (.str ("weights" : Str)) H'
theorem ok_dueN {f : Addr} {fd : FuncData} (M : Blt mg) (Mx : Bltx mg) (ml : mg "list" = none) (mint : mg "int" = none) (F : Fun K "_law_due" "_law_due" s__law_due f fd) (C__law_is_weight : Cal P w K mg base CX0 2 "_law_is_weight" ["_law_thing"] (sp_lisw K)) (C__law_total : Cal P w K mg base CX0 3 "_law_total" ["_law_some_here"] (sp_togL K)) : FnG P w K mg base CX0 4 f fd ["_law_weights", "_law_step"] (sp_dueN K) := by
  refine Gfun F sc__law_due (fun vs H Q E h => ?_) (fun cdv A outer s H vs Q E hg hr h => ?_)
  · obtain ⟨v, u, d, rfl, _⟩ := h
    rfl
  · obtain ⟨v, u, d, rfl, hq, nl, nt_, k⟩ := h
    refine ⟨_, (pss_cons (ps_if (PW.pt (pw_or (pt_not (pt_val (pe_callB call_isiT rfl Mx.isinstance bt_isinstance (pa_cons (pv 0) (pa_cons (pe_tup (pa_cons (pe_bltn (v := .ty "list") rfl ml bt_list rfl) (pa_cons (pe_bltn (v := .ty "tuple") rfl Mx.tuple bt_tuple rfl) pa_nil))) pa_nil))))) (pw_or1 (pt_not (pt_chain op_le op_le pe_int (pe_callB call_len_seq rfl M.len bt_len (pa_cons (pv 0) pa_nil)) pe_int)))))
      (pss_one (ps_ret pe_str))
      pss_nil)
      (pss_cons (ps_if (pt_not (pt_val (pe_callB (cr_all rfl) rfl M.all bt_all (pa_cons (pe_lc (own := [("_law_one", 3)]) (g := gName 3) (tt := tYes) rfl sc__law_due.nd (pi_list (pv 0)) (blkOk_by (N := ["_law_weights", "_law_step", "_law_whole", "_law_one"]) (sc := defScope s__law_due) (by decide +kernel)) (fun _ _ _ _ _ => pg_name (i := 3) sc__law_due.nd rfl (Or.inl rfl)) (fun _ _ _ _ _ => pts_nil) (fun _ _ _ _ _ => (pe_g C__law_is_weight (hr.mono (by decide)) hg (pa_cons (pv 3) pa_nil)))) pa_nil))))
      (pss_one (ps_ret pe_str))
      pss_nil)
      (pss_cons (ps_if (pt_not (pt_val (pe_g C__law_is_weight (hr.mono (by decide)) hg (pa_cons (pv 1) pa_nil))))
      (pss_one (ps_ret pe_str))
      pss_nil)
      (pss_cons (ps_set (i := 2) sc__law_due.nd rfl (.inl rfl) (pe_g C__law_total (hr.mono (by decide)) hg (pa_cons (pv 0) pa_nil)))
      (pss_one (ps_ret (pe_ix ix_list (pe_lst (pa_cons pe_str (pa_cons pe_str pa_nil))) (pe_callTy call_int1 rfl M.int bt_int (pa_cons (pe_cmpR op_lt (pe_op op_mulW (pe_ix ix_tup (pv 2) pe_int (fun _ _ => rfl)) (pe_ix ix_tup (pv 1) pe_int (fun _ _ => rfl))) (pe_op op_mulW (pe_ix ix_tup (pv 1) pe_int (fun _ _ => rfl)) (pe_ix ix_tup (pv 2) pe_int (fun _ _ => rfl))) (nomark _)) pa_nil)) (fun _ _ => rfl)))))))), ?_⟩
    refine ⟨_, rfl, len_show (Nat.le_of_ble_eq_true rfl), fun tp nt => ?_⟩
    have s1 : Same H (L2.upd H tp (.tup [.ty "list", .ty "tuple"])) := same_new nt
    refine ⟨_, tp, _, _, _, false, rfl, upd_same, .cons (.ty "list") (.cons (.ty "tuple") .nil), (hq.same s1).ty, by rw [k_lt, nl, nt_]; rfl, _, rfl, ?_⟩
    exact iteT (k _ s1)

def sp_due (K : PySem.W.Frag) : Sp := fun vs H Q _ => ∃ (v u : V) (d e : PyData), vs = [v, u] ∧ Dg K H v d ∧ WD d ∧ Dg K H u e ∧ El e ∧ ∀ H', Same H H' → Q (.str (kindOf d e)) H'
theorem ok_due {f : Addr} {fd : FuncData} (M : Blt mg) (Mx : Bltx mg) (ml : mg "list" = none) (mint : mg "int" = none) (F : Fun K "_law_due" "_law_due" s__law_due f fd) (C__law_is_weight : Cal P w K mg base CX0 2 "_law_is_weight" ["_law_thing"] (sp_lisw K)) (C__law_total : Cal P w K mg base CX0 3 "_law_total" ["_law_some_here"] (sp_togL K)) : FnG P w K mg base CX0 4 f fd ["_law_weights", "_law_step"] (sp_due K) := by
  refine (((ok_dueL M Mx ml mint F C__law_is_weight C__law_total).or (ok_dueT M Mx ml mint F C__law_is_weight C__law_total)).or (ok_dueN M Mx ml mint F C__law_is_weight C__law_total)).imp fun vs H Q E h => ?_
  obtain ⟨v, u, d, e, rfl, hv, wd, hu, eu, k⟩ := h
  cases d with
  | list ds => exact .inl (.inl ⟨v, u, ds, e, rfl, hv, wd.el ds (.inl rfl), wd.ln ds (.inl rfl), hu, eu, k⟩)
  | tuple ds => exact .inl (.inr ⟨v, u, ds, e, rfl, hv, wd.el ds (.inr rfl), wd.ln ds (.inr rfl), hu, eu, wd.tu ds rfl, k⟩)
  | none => exact .inr ⟨v, u, _, rfl, hv, rfl, rfl, k⟩
  | bool _ => exact .inr ⟨v, u, _, rfl, hv, rfl, rfl, k⟩
  | int _ => exact .inr ⟨v, u, _, rfl, hv, rfl, rfl, k⟩
  | str _ => exact .inr ⟨v, u, _, rfl, hv, rfl, rfl, k⟩
  | dict _ => exact .inr ⟨v, u, _, rfl, hv, rfl, rfl, k⟩

end
end Lf

set_option Elab.async false
set_option linter.all false
set_option maxRecDepth 100000
/-! Clauses of a try, one after the other, some with a name: each clause by itself (Heard), then the try. -/
namespace Lf
open PySem PySem.Spec PyProof.Rows L2
/-- the exception at a has come to the clauses of a try -/
structure Came (X : Cx) (pins : List (Addr × Obj)) (a : Addr) (cls : Value) (d : Option Addr) (σ : L2.St) (H : Hp) (s : Shared) : Prop where
  own : H a = none
  bare : AllBare s.gens
  way : ∃ (B : Heap) (s₀ : Shared), HandSPX.FlyingZ B (X.env :: X.outer) a (Zc cls d) s.heap ∧ Inv X pins σ H s₀ ∧ (∀ b o, s₀.heap.get? b = some o → b ∉ frs X.stack → B.get? b = some o) ∧ s₀.heap.UpToSlots s.heap ∧ s.os = s₀.os
section
variable {X : Cx} {pins : List (Addr × Obj)} {a : Addr} {cls : Value} {d : Option Addr} {σ : L2.St} {H : Hp} {s : Shared}
theorem Came.inv (c : Came X pins a cls d σ H s) : Inv X pins σ H s := by
  obtain ⟨_, _, g1, g2, g3, g4, g5⟩ := c.way
  exact Inv.landed g2 g3 g1.1 g4 g5 c.bare
/-- landed again: its slots alone are others -/
theorem Came.next (c : Came X pins a cls d σ H s) {B : Heap} {s₀ : Shared} (g2 : Inv X pins σ H s₀) (g3 : ∀ b o, s₀.heap.get? b = some o → b ∉ frs X.stack → B.get? b = some o) (g4 : s₀.heap.UpToSlots s.heap) (g5 : s.os = s₀.os) {h : Heap}
    (f : HandSPX.FlyingZ B (X.env :: X.outer) a (Zc cls d) h) (u : s.heap.UpToSlots h) : Came X pins a cls d σ H { s with heap := h } :=
  ⟨c.own, c.bare, B, s₀, f, g2, g3, Heap.UpToSlots.trans g4 u, g5⟩
/-- what a clause's suite starts from -/
theorem Came.suite (c : Came X pins a cls d σ H s) (lk : X.env.frame = some X.env.locals) : ∃ oe vs, s.heap.get? a = some oe ∧ oe.data = .fields vs ∧ Zc cls d oe ∧ Inv (X.suite a ((a, oe) :: (X.pn ++ pins))) [] σ H s := by
  obtain ⟨B, _, fly, _⟩ := c.way
  obtain ⟨oe, vs, at_, kind, data⟩ := HandSPX.FlyingZ.there fly
  have out : ∀ e ∈ X.env :: X.outer, e.frame ≠ some a := fun e he z => by
    obtain ⟨_, ob, there, bad⟩ := Heap.FunFrames.mem fly.2.2.1 (List.mem_filterMap.mpr ⟨e, he, z⟩)
    rw [at_] at there
    exact bad vs (Option.some.inj there ▸ data)
  refine ⟨oe, vs, at_, data, kind, Inv.suite c.inv at_ data c.own (fun z => out X.env List.mem_cons_self (z ▸ lk)) fun z => ?_⟩
  obtain ⟨e, he, ef⟩ := List.mem_filterMap.mp z
  exact out e (List.mem_cons_of_mem _ he) ef
end
/-- these clauses do as W says with what comes to them -/
def Heard (X : Cx) (hds : List ExceptHandler) (W : Ends → WX) : Prop :=
  ∀ (pins : List (Addr × Obj)) (D : Ends) (a : Addr) (cls : Value) (d : Option Addr) (σ : L2.St) (H : Hp) (s : Shared), Came X pins a cls d σ H s → W D cls d σ H → wpAny (model X.prog X.w) X.A (handleBy (.ref a) X.env hds) (SP X pins D) X.xe s
section
variable {X : Cx} {x n : Str} {c : Value} {i : Nat} {body suite : List Stmt} {b₀ : Stmt} {np pos pos' : Pos} {tb : WX → TS} {ts : Addr → Value → Option Addr → TS} {W : Ends → WX} {Wout : WX} {hds : List ExceptHandler} {h₀ : ExceptHandler}
/-- no clause is left: it goes on -/
theorem heard_nil (hs : X.stack = X.env :: X.outer) (hf : X.env.frame = some X.env.locals) (tk : Takes X Wout) : Heard X [] fun _ => Wout := by
  intro pins D a cls d σ H s ca w
  obtain ⟨B, s₀, fly, g2, g3, g4, g5⟩ := ca.way
  have fly2 := fly
  obtain ⟨_, _, _, _, vs, T, _, _, at_, _, data, tb_, _⟩ := fly2
  apply wpAny_handleBy_nil
  unfold PySem.passOn
  apply wpAny_bind
  apply wpAny_field at_ data tb_
  have last : wpAny (model X.prog X.w) X.A (setFlight (.ref a) X.env.frame) (fun _ s' => wpAny (model X.prog X.w) X.A (throw (.ref a) : Sem Flow) (SP X pins D) X.xe s') X.xe s := by
    rw [hf]
    apply HandSPX.setFlight_upZ fly
    intro h held u
    apply wpAny_throw
    apply tk
    exact ⟨a, B, s₀, pins, σ, H, cls, d, rfl, g2, g3, Heap.UpToSlots.trans g4 u, Or.inr (Or.inr (hs ▸ held)), ca.own, g5, ca.bare, w⟩
  have some_ : ¬ ((Value.ref T == Value.none) = true) := by simp
  rw [if_neg some_]
  first
    | exact wpAny_bind last
    | exact wpAny_bind (wpAny_pure (wpAny_bind last))
/-- the class that a clause names is told -/
theorem Names.told (hc : Names X x c) {a : Addr} {q : Addr × Obj} {pn : List (Addr × Obj)} {σ : L2.St} {H : Hp} {s : Shared} (I : Inv (X.suite a (q :: pn)) [] σ H s) {Q E : Value → Shared → Prop} (k : Q c s) : wpAny (model X.prog X.w) (X.A.mark (some (.ref a))) (eval (.Name x np) X.env) Q E s := by
  obtain ⟨g, nd, m | ⟨m, b, nn⟩⟩ := hc
  · exact ld_glob (X := X.suite a (q :: pn)) I g m k nd
  · exact ld_blt (X := X.suite a (q :: pn)) I g m b k nn nd
/-- whether it is of the class -/
theorem Came.test {pins : List (Addr × Obj)} {a : Addr} {cls : Value} {d : Option Addr} {σ : L2.St} {H : Hp} {s : Shared} (ca : Came X pins a cls d σ H s) {b : Bool} (e : PySem.W.exmOne X.K cls c = some b) : PySem.W.Looks (model X.prog X.w) s.heap (excMatches (.ref a) c) b := by
  obtain ⟨B, _, fly, _⟩ := ca.way
  obtain ⟨oe, _, at_, kind, _⟩ := HandSPX.FlyingZ.there fly
  refine PySem.W.exm_one ca.inv.kIn (fun A Q E s' keep q => ?_) e
  have at' := keep _ _ at_
  apply wpAny_typeOf_ref at'
  rwa [kind.1]
/-- except x as n: .. -/
theorem heard_as (hf : X.env.frame = some X.env.locals) (hN : X.N.Nodup) (hi : X.N[i]? = some n) (hln : X.env.kindOf n = some .local) (hc : Names X x c) (ok : X.Ok)
    (hsu : ∀ (a : Addr) (oe : Obj) (cls : Value) (d : Option Addr) (pn : List (Addr × Obj)), Zc cls d oe → (∃ vs, oe.data = .fields vs) → PSs (X.suite a ((a, oe) :: pn)) (b₀ :: suite) (ts a cls d)) (r : Heard X hds W) :
    Heard X (.ExceptHandler (some (.Name x np)) (some n) (b₀ :: suite) pos' :: hds) fun D => wAs X.K c i ts (W D) D := by
  intro pins D a cls d σ H s ca ⟨b, eb, yes, no⟩
  obtain ⟨oe, vs, _, _, _, S⟩ := ca.suite hf
  apply wpAny_handleBy_cons
  case hnb => exact fun z => nomatch z
  apply codeAny_handlers_test
  apply Names.told hc S
  apply PySem.W.Looks.here (ca.test eb)
  cases b
  · exact r pins D a cls d σ H s ca (no rfl)
  apply codeAny_handlers_suite_as
  obtain ⟨B, s₀, fly, g2, g3, g4, g5⟩ := ca.way
  apply HandSPX.lands_againZ fly
  intro h fly' u
  have ca' := ca.next g2 g3 g4 g5 fly' u
  obtain ⟨oe', vs', _, data', kind', S'⟩ := ca'.suite hf
  apply store_ok (v := .ref a) S' hN hi (.inl hln) rfl _ (.inr hln)
  intro s5 I5
  have run := (hsu a oe' cls d (X.pn ++ pins) kind' ⟨vs', data'⟩).run [] s5 _ H _ I5 (yes rfl a ca.own)
  refine wpAny_mono run (fun f s6 told => ?_) fun _ _ z => False.elim z
  have clean : ∀ {σ6 : L2.St} {H6 : Hp} {Q : Shared → Prop}, Inv (X.suite a ((a, oe') :: (X.pn ++ pins))) [] σ6 H6 s6 → (∀ s7, Inv X pins (σ6.set i none) H6 s7 → Q s7) → wpAny (model X.prog X.w) X.A (do bindName X.env n .none; unbindBehindTheSuite X.env n pos') (fun _ s7 => Q s7) X.xe s6 :=
    fun I6 k => gone_ok (Inv.unsuite I6 ok) hN hi hln k
  cases f
  case ret u =>
    obtain ⟨v, σ6, H6, I6, rv_, q⟩ := told
    exact clean I6 fun _ I7 => ⟨v, _, H6, I7, rv_, q⟩
  all_goals
    obtain ⟨σ6, H6, I6, q⟩ := told
    exact clean I6 fun _ I7 => ⟨_, H6, I7, q⟩
/-- what becomes of an exception of the body -/
def Caught (X : Cx) (hds : List ExceptHandler) (Q : Flow → Shared → Prop) : Value → Shared → Prop := fun u s' =>
  wpAny (model X.prog X.w) X.A (noteFrame u X.env) (fun _ s1 => wpAny (model X.prog X.w) X.A (setFlight u none) (fun _ s2 => wpAny (model X.prog X.w) X.A (handleBy u X.env hds) Q X.xe s2) X.xe s1) X.xe s'
theorem caught_of {pins : List (Addr × Obj)} {D : Ends} {l : List ExceptHandler} (hs : X.stack = X.env :: X.outer) (hf : X.env.frame = some X.env.locals) (ok : X.Ok) (hh : Heard X l W) : Takes (X.tr (X.pn ++ pins) (Caught X l (SP X pins D))) (W D) := by
  intro u s' came
  obtain ⟨a, B, s₀, pn', σ', H', cls, d, rfl, I', g3, g4, sky, own, g5, ag, w⟩ := came
  have sky' : Sky B (X.env :: X.outer) a (Zc cls d) X.env.locals s'.heap := by
    rw [← hs]
    exact sky
  have fr : X.A.frames = some (X.env :: X.outer) := by rw [ok.frames, hs]
  exact Sky.land Zc.steady fr hf sky' fun h fly u => hh pins D a cls d σ' H' _ ⟨own, ag, B, s₀, fly, Inv.ofTry I' ok, g3, Heap.UpToSlots.trans g4 u, g5⟩ w
/-- a try by its clauses -/
theorem ps_try_heard (hs : X.stack = X.env :: X.outer) (hf : X.env.frame = some X.env.locals)
    (hb : ∀ (W : WX) (pn : List (Addr × Obj)) (xe : Value → Shared → Prop), Takes (X.tr pn xe) W → PassesOwn (model X.prog X.w) X.A X.env xe → PSs (X.tr pn xe) body (tb W))
    (hh : X.Ok → Heard X (h₀ :: hds) W) : PS X (.Try body (h₀ :: hds) [] [] pos) fun D σ H => tb (W D) D σ H := by
  constructor
  intro pins s σ H D I h
  have ok := I.ok
  apply wpAny_Try_except
  have run := (hb (W D) (X.pn ++ pins) (Caught X (h₀ :: hds) (SP X pins D)) (caught_of hs hf ok (hh ok)) PassesOwn.looking).run [] s σ H D (I.toTry _) h
  refine wpAny_mono run (fun f s1 told => ?_) fun _ _ z => z
  cases f
  case next =>
    obtain ⟨σ1, H1, I1, q⟩ := told
    exact wpAny_execs_nil ⟨σ1, H1, Inv.ofTry I1 ok, q⟩
  case ret u =>
    obtain ⟨v, σ1, H1, I1, rv_, q⟩ := told
    exact ⟨v, σ1, H1, Inv.ofTry I1 ok, rv_, q⟩
  all_goals
    obtain ⟨σ1, H1, I1, q⟩ := told
    exact ⟨σ1, H1, Inv.ofTry I1 ok, q⟩
end
end Lf

set_option Elab.async false
set_option linter.all false
set_option maxRecDepth 100000
set_option maxHeartbeats 4000000
/-! isinstance of a caught error, the part K given. -/
namespace Lf
open PySem PySem.Spec PyProof.Rows L2
theorem call_isXK {X : Cx} {K : PySem.W.Frag} {a D : Addr} {oe : Obj} {cls : Value} {d : Option Addr} {pn : List (Addr × Obj)} (C : ExcC K D) (hz : Zc cls d oe) (hf : ∃ vs, oe.data = .fields vs) (hK : X.K = K := by rfl) : CallR (X.suite a ((a, oe) :: pn)) (.builtin "isinstance") (rIsX K D a cls d) := by
  subst hK
  exact call_isX C hz hf
theorem call_isXTK {X : Cx} {K : PySem.W.Frag} {a D : Addr} {oe : Obj} {cls : Value} {d : Option Addr} {pn : List (Addr × Obj)} (C : ExcC K D) (hz : Zc cls d oe) (hf : ∃ vs, oe.data = .fields vs) (hK : X.K = K := by rfl) : CallR (X.suite a ((a, oe) :: pn)) (.builtin "isinstance") (rIsXT K D a cls d) := by
  subst hK
  exact call_isXT C hz hf
end Lf

set_option Elab.async false
set_option linter.all false
set_option maxRecDepth 100000
set_option maxHeartbeats 4000000
/-! A caught error that is handed to a def: the def stands while the error is held; what is known of the error is told at the reading. -/
namespace Lf
open PySem PySem.Spec PyProof.Rows L2
open L2H (RoomH PinOk cxH inv_startH)
section
variable {P : Program} {w : World} {K : PySem.W.Frag} {mg : Str → Option Value} {base : Heap} {k : Nat} {f : Addr} {fd : FuncData} {ps : List Str} {sp : Addr × Obj → Sp}
/-- a def's promise where an error is held -/
structure FnL (P : Program) (w : World) (K : PySem.W.Frag) (mg : Str → Option Value) (base : Heap) (k : Nat) (f : Addr) (fd : FuncData) (ps : List Str) (sp : Addr × Obj → Sp) : Prop where
  size : ∀ p vs H Q E, sp p vs H Q E → vs.length = ps.length
  goes : ∀ (p : Addr × Obj) (B : Around) (out : List Env) (s : Shared) (H : Hp) (ar : Args) (us : List Value) (vs : List V) (Q : VK) (E : XK),
    RoomH k B → B.guards = some [] → PinOk out H s p → Env0 P w K mg base B out s H → BindsTo s fd ar (ps.zip us) → Vals vs us → sp p vs H Q E →
      codeAny (model P w) B (.call (.ref f) ar) (CR CX0 out P w H s Q E) s
theorem Lfun {x qual : Str} {st : Stmt} {N : List Str} (F : Fun K x qual st f fd) (S : FnScope N ps (defScope st)) (size : ∀ p vs H Q E, sp p vs H Q E → vs.length = ps.length)
    (body : ∀ (cdv : Value) (B : Around) (out : List Env) (s : Shared) (H : Hp) (vs : List V) (Q : VK) (E : XK) (p : Addr × Obj), B.guards = some [] →
      RoomH k (B.deeper (envOfC qual (defScope st) s.heap.objs.size f cdv)) → sp p vs H Q E →
      ∃ t, PSs (cxH CX0 P w K mg base N qual (defScope st) f cdv B out s H E p) (defBody st) t ∧
        t { nx := fun _ H' => Q .non H', rt := Q } (start N vs) H) : FnL P w K mg base (k + 1) f fd ps sp := by
  obtain ⟨oc, od, kV, doc, pm, an, cdv, ct, osl, rfl, lk, hcd⟩ := F.ex
  refine ⟨size, fun p B out s H ar us vs Q E hr hg hp e0 hb r hs => ?_⟩
  have old : ∀ b o, base.get? b = some o → s.heap.get? b = some o := fun b o e => (e0.bs b o e).1
  have kin : K.In s.heap := e0.mod.kin.keeps old
  refine codeAny_call_function hr.depth (kin _ _ lk) rfl S.co S.gen rfl (PySem.W.codeRec_of kin hcd) (hb _ _ _ _ ?_)
  refine wpAny_newFunctionEnv_cells S.kind (fun ⟨n, v⟩ hy => ?_) fun env he s1 x => ?_
  · rcases S.par n (List.of_mem_zip hy).1 with q | q
    · exact Or.inl q
    · exact Or.inr ⟨q, PySem.W.cellsFrom_some _ _ _ (Or.inl q)⟩
  · subst he
    refine ⟨(e0.mod.nolimit.keeps old).keeps x.toInCall.keep, codeAny_func ?_⟩
    obtain ⟨t, ht, hq⟩ := body cdv B out s H vs Q E p hg (hr.deeper _) hs
    have I := inv_startH (CX := CX0) (N := N) (qual := qual) (cd := cdv) (E := E) S hp e0 (size _ _ _ _ _ hs) r x
    refine wpAny_mono (ht.run [] s1 (start N vs) H _ I hq) (fun fl s' hs' => ?_) fun e s' z => z
    cases fl with
    | ret u =>
      obtain ⟨v, σ', H', J, rv, q⟩ := hs'
      exact ⟨v, H', J.os, J.bare, J.base, J.hok, rv, q⟩
    | next =>
      obtain ⟨σ', H', J, q⟩ := hs'
      exact ⟨V.non, H', J.os, J.bare, J.base, J.hok, rfl, q⟩
    | brk =>
      obtain ⟨_, _, _, q⟩ := hs'
      exact q.elim
    | cont =>
      obtain ⟨_, _, _, q⟩ := hs'
      exact q.elim
/-- a def of the module's name x -/
structure CalL (P : Program) (w : World) (K : PySem.W.Frag) (mg : Str → Option Value) (base : Heap) (k : Nat) (x : Str) (ps : List Str) (sp : Addr × Obj → Sp) : Prop where
  ex : ∃ (f : Addr) (fd : FuncData), FnL P w K mg base k f fd ps sp ∧ (∀ (s : Shared) (us : List Value), us.length = ps.length → BindsTo s fd ⟨us, []⟩ (ps.zip us)) ∧ mg x = some (.ref f) ∧ PySem.W.keepIn K (.ref f) = true
end
section
variable {X : Cx} {K : PySem.W.Frag} {k : Nat} {f : Addr} {fd : FuncData} {ps : List Str} {sp : Addr × Obj → Sp} {x : Str} {pos q : Pos} {e : Expr} {es : List Expr} {t : TA} {p : Addr × Obj}
theorem pin_ok {pins : List (Addr × Obj)} {σ : L2.St} {H : Hp} {s : Shared} (I : Inv X pins σ H s) (hp : p ∈ X.pn) : PinOk X.stack H s p := by
  obtain ⟨h1, h2, h3, h4, h5⟩ := I.pin p (List.mem_append.mpr (.inl hp))
  refine ⟨h1, h2, fun z => ?_, h5⟩
  rcases I.ok.stk with e | ⟨e, fr⟩
  · rw [e] at z
    exact h4 z
  · rw [e] at z
    obtain ⟨en, he, ef⟩ := List.mem_filterMap.mp z
    rcases List.mem_cons.mp he with rfl | he
    · rw [fr] at ef
      exact h3 (Option.some.inj ef).symm
    · exact h4 (List.mem_filterMap.mpr ⟨en, he, ef⟩)
/-- room where an error is held -/
theorem hot {A : Around} {v : Option Value} {j k : Nat} (h : Room k A) (hj : j ≤ k) : RoomH j (A.mark v) := let r := (L2H.roomH_of h).mono hj; ⟨r.dp, r.un⟩
/-- f(e, ..) while the error is held -/
def tGL (p : Addr × Obj) (sp : Addr × Obj → Sp) (t : TA) : TE := fun σ H Q => t σ H fun vs H1 => sp p vs H1 Q E0
theorem pe_lend (hp : p ∈ X.pn) (C : CalL X.prog X.w X.K X.mg X.base k x ps sp) (hr : RoomH k X.A) (hG : X.A.guards = some []) (ha : PA X (e :: es) t) (hg : Gl X x := by rfl)
    (hdb : (x == ("__debug__" : Str)) = false := by decide) (he : starEach (e :: es) X.env = (false, eval e X.env) :: starEach es X.env := by rfl)
    (hpl : (backTo pos (starEach es X.env)).any (·.1) = false := by rfl) : PE X (.Call (.Name x q) (e :: es) [] pos) (tGL p sp t) := by
  obtain ⟨f, fd, F, hb, hm, hk⟩ := C.ex
  refine ⟨fun pins s σ H Q I h => wpAny_Call_Name_kw (ld_glob I hg hm (PySem.W.callWith_K (h₀ := X.base) I.ok.mod.kin hk
    (thn (ha.run pos pins s σ H _ I h) fun us s1 ⟨vs, H1, I1, r, q⟩ => ⟨I1.kIn, ?_⟩) he hpl) hdb)⟩
  refine wpAny_call (codeAny_mono (F.goes p X.A X.stack s1 H1 ⟨us, []⟩ us vs _ E0 hr hG (pin_ok I1 hp) I1.env0 (hb s1 us (r.length.symm.trans (F.size _ _ _ _ _ q))) r q) fun z s' hq => ?_)
  cases z with
  | error e => exact hq.elim
  | ok fl =>
    cases fl with
    | ret u => exact I1.after hq
    | next => exact False.elim hq
    | brk => exact False.elim hq
    | cont => exact False.elim hq
/-- what is known of a held error: its class, its fields -/
def Er (H : Hp) (p : Addr × Obj) (D : Addr) (fs : Option (List (Str × V))) : Prop := p.2.cls = .ref D ∧ (∃ vs, p.2.data = .fields vs) ∧ match fs with
  | none => p.2.dict = none
  | some l => ∃ dd, p.2.dict = some dd ∧ H dd = some (.xd l)
theorem Er.same {H H' : Hp} {D : Addr} {fs : Option (List (Str × V))} (s : Same H H') (h : Er H p D fs) : Er H' p D fs := by
  obtain ⟨h2, h3, h4⟩ := h
  refine ⟨h2, h3, ?_⟩
  cases fs with
  | none => exact h4
  | some l =>
    obtain ⟨dd, e1, e2⟩ := h4
    exact ⟨dd, e1, s _ _ e2⟩
/-- as it is caught -/
theorem er_of {H : Hp} {a D : Addr} {oe : Obj} {cls : Value} {d : Option Addr} {fs : Option (List (Str × V))} (hz : Zc cls d oe) (hf : ∃ vs, oe.data = .fields vs) (ec : cls = .ref D) (e : match fs with | none => d = none | some l => ∃ dd, d = some dd ∧ H dd = some (.xd l)) : Er H (a, oe) D fs := by
  refine ⟨by rw [hz.1, ec], hf, ?_⟩
  cases fs with
  | none => exact hz.2.trans e
  | some l =>
    obtain ⟨dd, e1, e2⟩ := e
    exact ⟨dd, hz.2.trans e1, e2⟩
theorem Er.inst {pins : List (Addr × Obj)} {σ : L2.St} {H : Hp} {s : Shared} {D : Addr} {fs : Option (List (Str × V))} (e : Er H p D fs) (I : Inv X pins σ H s) (hp : p ∈ X.pn) : ∃ od, PySem.W.InstAt s.heap p.1 p.2 D od := by
  obtain ⟨h2, ⟨vs, h3⟩, h4⟩ := e
  obtain ⟨hget, _⟩ := I.pin p (List.mem_append.mpr (.inl hp))
  cases fs with
  | none => exact ⟨none, hget, h2, by unfold PySem.W.notCls; rw [h3] <;> rfl, by rw [h4]; trivial⟩
  | some l =>
    obtain ⟨dd, e1, e2⟩ := h4
    obtain ⟨o, ho⟩ := objOk_get (I.hok dd _ e2)
    exact ⟨some o, hget, h2, by unfold PySem.W.notCls; rw [h3] <;> rfl, by rw [e1]; exact ho⟩
/-- isinstance(e, c), e held -/
def rIsE (K : PySem.W.Frag) (p : Addr × Obj) : List V → Hp → VK → Prop := fun xs H Q => ∃ (D : Addr) (fs : Option (List (Str × V))) (c : V) (cv : Value) (b : Bool), xs = [.ref p.1, c] ∧ Er H p D fs ∧ ExcC K D ∧ (∀ u, RelV c u → u = cv) ∧ PySem.W.kitOne K (.ref D) cv = some b ∧ Q (.bl b) H
theorem call_isE (hp : p ∈ X.pn) (hK : X.K = K := by rfl) : CallR X (.builtin "isinstance") (rIsE K p) := by
  subst hK
  intro pins s σ H xs us Q I r h
  obtain ⟨D, fs, c, cv, b, rfl, er, C, hcv, e, q⟩ := h
  cases r with
  | cons rx rr =>
    cases rr with
    | cons rt rr =>
      cases rr
      cases rx
      have ecv := hcv _ rt
      subst ecv
      obtain ⟨od, J⟩ := er.inst I hp
      exact PySem.W.kia_one (kit_own (od := od) C) I.kIn J e (fun z => nomatch z) fun tk => ⟨.bl b, H, I.kept (t' := tk) fun _ _ z => z, rfl, q⟩
/-- isinstance(e, (c1, ..)), e held -/
def rIsET (K : PySem.W.Frag) (p : Addr × Obj) : List V → Hp → VK → Prop := fun xs H Q => ∃ (D tp : Addr) (fs : Option (List (Str × V))) (cs : List V) (ws : List Value) (b : Bool), xs = [.ref p.1, .ref tp] ∧ Er H p D fs ∧ ExcC K D ∧ H tp = some (.tup cs) ∧ Paired ClsV cs ws ∧ PySem.W.kitAny K (.ref D) ws = some b ∧ Q (.bl b) H
theorem call_isET (hp : p ∈ X.pn) (hK : X.K = K := by rfl) : CallR X (.builtin "isinstance") (rIsET K p) := by
  subst hK
  intro pins s σ H xs us Q I r h
  obtain ⟨D, tp, fs, cs, ws, b, rfl, er, C, hT, hcv, e, q⟩ := h
  obtain ⟨u1, u2, rfl, r1, r2⟩ := vals2 r
  cases (show u2 = Value.ref tp from r2)
  cases (show u1 = Value.ref p.1 from r1)
  obtain ⟨_, its, rv, o, h1, h2, n, h3⟩ := (show ObjOk X.prog X.w H s.heap tp (.tup cs) from I.hok tp _ hT)
  have e3 := ClsV.all hcv rv
  subst e3
  obtain ⟨oc, od0, dt, sl⟩ := o
  simp only at h2 h3
  subst h2 h3
  obtain ⟨od, J⟩ := er.inst I hp
  exact PySem.W.kia_tup (kit_own (od := od) C) I.kIn J h1 e (fun z => nomatch z) fun tk => ⟨.bl b, H, I.kept (t' := tk) fun _ _ z => z, rfl, q⟩
/-- e.n, e held -/
def tXfE (K : PySem.W.Frag) (p : Addr × Obj) (n : Str) (te : TE) : TE := fun σ H Q => te σ H fun x H1 => ∃ (D : Addr) (l : List (Str × V)) (v : V), x = .ref p.1 ∧ Er H1 p D (some l) ∧ XfC K D ∧ PySem.W.findIn K (.ref D) n = some none ∧ l.lookup n = some v ∧ Q v H1
theorem pe_xfE {e : Expr} {te : TE} {pos : Pos} {n : Str} (hp : p ∈ X.pn) (h : PE X e te) (hb : attributeBase e n X.env (eval e X.env) = eval e X.env := by rfl) (hK : X.K = K := by rfl) : PE X (.Attribute e n pos) (tXfE K p n te) := by
  subst hK
  refine ⟨fun pins s σ H Q I hw => attr_of hb (thn (h.run pins s σ H _ I hw) fun u s1 ⟨x, H1, I1, r, D, l, v, ex, er, T, no, lk, q⟩ => ?_)⟩
  subst ex
  cases (show u = Value.ref p.1 from r)
  obtain ⟨h2, ⟨vs, h3⟩, dd, e1, e2⟩ := er
  obtain ⟨hget, _⟩ := I1.pin p (List.mem_append.mpr (.inl hp))
  obtain ⟨m, hns, hm⟩ := (show ObjOk X.prog X.w H1 s1.heap dd (.xd l) from I1.hok dd _ e2)
  obtain ⟨od, ho, look⟩ := lookIn_ns hns
  have rl := hm n
  rw [lk] at rl
  obtain ⟨uv, ev, rv⟩ := RelO.some_of rl
  refine PySem.HandSPX.exc_get (gt := none) I1.kIn (⟨hget, h2, by unfold PySem.W.notCls; rw [h3] <;> rfl, by rw [e1]; exact ho⟩ : PySem.W.InstAt s1.heap p.1 p.2 D (some od)) T.ga T.gg T.exC (PySem.W.findObj_own T.hdC no rfl (by rw [look, ev])) (handed_of rv) ⟨v, H1, I1.tok _, rv, q⟩
end
/-- what a clause with a name does; the error's object is told at the reading -/
def wAsO (K : PySem.W.Frag) (c : Value) (i : Nat) (ts : Addr → Obj → Value → Option Addr → TS) (Wout : WX) (D : Ends) : WX := fun cls d σ H => ∃ b, PySem.W.exmOne K cls c = some b ∧
  (b = true → ∀ a oe, Zc cls d oe → (∃ vs, oe.data = .fields vs) → H a = none → ts a oe cls d { nx := fun σ2 H2 => D.nx (σ2.set i none) H2, rt := D.rt, bk := fun σ2 H2 => D.bk (σ2.set i none) H2, ct := fun σ2 H2 => D.ct (σ2.set i none) H2 } (σ.set i (some (.ref a))) H) ∧ (b = false → Wout cls d σ H)
section
variable {X : Cx} {x n : Str} {c : Value} {i : Nat} {body suite : List Stmt} {b₀ : Stmt} {np pos pos' : Pos} {tb : WX → TS} {W : Ends → WX} {Wout : WX} {hds : List ExceptHandler} {h₀ : ExceptHandler}
/-- except x as n: .., the error told as an object -/
theorem heard_asO {ts : Addr → Obj → Value → Option Addr → TS} (hf : X.env.frame = some X.env.locals) (hN : X.N.Nodup) (hi : X.N[i]? = some n) (hln : X.env.kindOf n = some .local) (hc : Names X x c) (ok : X.Ok)
    (hsu : ∀ (a : Addr) (oe : Obj) (cls : Value) (d : Option Addr) (pn : List (Addr × Obj)), Zc cls d oe → (∃ vs, oe.data = .fields vs) → PSs (X.suite a ((a, oe) :: pn)) (b₀ :: suite) (ts a oe cls d)) (r : Heard X hds W) :
    Heard X (.ExceptHandler (some (.Name x np)) (some n) (b₀ :: suite) pos' :: hds) fun D => wAsO X.K c i ts (W D) D := by
  intro pins D a cls d σ H s ca ⟨b, eb, yes, no⟩
  obtain ⟨oe, vs, _, _, _, S⟩ := ca.suite hf
  apply wpAny_handleBy_cons
  case hnb => exact fun z => nomatch z
  apply codeAny_handlers_test
  apply Names.told hc S
  apply PySem.W.Looks.here (ca.test eb)
  cases b
  · exact r pins D a cls d σ H s ca (no rfl)
  apply codeAny_handlers_suite_as
  obtain ⟨B, s₀, fly, g2, g3, g4, g5⟩ := ca.way
  apply HandSPX.lands_againZ fly
  intro h fly' u
  have ca' := ca.next g2 g3 g4 g5 fly' u
  obtain ⟨oe', vs', _, data', kind', S'⟩ := ca'.suite hf
  apply store_ok (v := .ref a) S' hN hi (.inl hln) rfl _ (.inr hln)
  intro s5 I5
  have run := (hsu a oe' cls d (X.pn ++ pins) kind' ⟨vs', data'⟩).run [] s5 _ H _ I5 (yes rfl a oe' kind' ⟨vs', data'⟩ ca.own)
  refine wpAny_mono run (fun f s6 told => ?_) fun _ _ z => False.elim z
  have clean : ∀ {σ6 : L2.St} {H6 : Hp} {Q : Shared → Prop}, Inv (X.suite a ((a, oe') :: (X.pn ++ pins))) [] σ6 H6 s6 → (∀ s7, Inv X pins (σ6.set i none) H6 s7 → Q s7) → wpAny (model X.prog X.w) X.A (do bindName X.env n .none; unbindBehindTheSuite X.env n pos') (fun _ s7 => Q s7) X.xe s6 :=
    fun I6 k => gone_ok (Inv.unsuite I6 ok) hN hi hln k
  cases f
  case ret u =>
    obtain ⟨v, σ6, H6, I6, rv_, q⟩ := told
    exact clean I6 fun _ I7 => ⟨v, _, H6, I7, rv_, q⟩
  all_goals
    obtain ⟨σ6, H6, I6, q⟩ := told
    exact clean I6 fun _ I7 => ⟨_, H6, I7, q⟩
/-- a method of a built-in type, the part K given -/
theorem pe_bmK {X : Cx} {K : PySem.W.Frag} {e : Expr} {to : TE} {t : TA} {T : String} {r : V → List V → Hp → VK → Prop} (h : PE X e (tBM X.K T r to t)) (hK : X.K = K := by rfl) : PE X e (tBM K T r to t) := hK ▸ h
end
end Lf

set_option Elab.async false
set_option linter.all false
set_option maxRecDepth 100000
set_option maxHeartbeats 4000000
/-! sum of a list of truths where an exception is being handled whose context is None. -/
namespace Lf
open PySem PySem.Spec PyProof.Rows L2
/-- the handled one stands there, its context None -/
def HotH (x : Addr) (h : Heap) : Prop := ∃ (o : Obj) (vs : Array Value), h.get? x = some o ∧ o.data = .fields vs ∧ vs[2]? = some .none
section
variable {P : Program} {w : World} {A : Around} {E : Value → Shared → Prop} {s : Shared}
/-- a list's iterator at its end -/
theorem end_hot {I l x : Addr} {i : Nat} {items : Array Value} {Q : Option Value → Shared → Prop} (hh : A.handled = some (.ref x)) (hx : HotH x s.heap) (nx : x ≠ I) (hit : s.heap.IsListIter I l i) (hl : s.heap.IsList l items) (hi : items[i]? = none)
    (k : ∀ h', Heap.ExtBut I s.heap h' → Q none { s with heap := h' }) : wpAny (model P w) A (pyNext (.ref I)) Q E s := by
  obtain ⟨o, ho, hc, hd⟩ := id hit
  obtain ⟨ol, hol, _, nl, hdl⟩ := hl
  obtain ⟨o1, vs1, e1, d1, c1⟩ := hx
  unfold pyNext
  refine wpAny_bind (wpAny_attempt (wpAny_callSpecial?_slot (name := Str.ofString "__next__") hit.typeIs slot_listiter_next (wpAny_call_entry slot_listiter_next hit.typeIs entry_listiter_next ?_ (args_listiter_next _))))
  show wpAny _ _ (field (.ref I) 0 >>= _) _ _ s
  refine wpAny_bind (wpAny_field ho hd (x := .ref l) rfl ?_)
  show wpAny _ _ (if (Value.ref l == Value.none) = true then _ else _) _ _ s
  rw [if_neg (show ¬ ((Value.ref l == Value.none) = true) from Bool.false_ne_true)]
  show wpAny _ _ (field (.ref I) 1 >>= _) _ _ s
  refine wpAny_bind (wpAny_field ho hd (x := .int i 0) rfl ?_)
  show wpAny _ _ (seqItems? (.ref l) >>= _) _ _ s
  refine wpAny_bind (wpAny_seqItems hol hdl ?_)
  simp only [Int.toNat_natCast, hi]
  refine wpAny_bind (wpAny_rule (wpAny_bind (wpAny_setField ho hd (by simp) ?_)))
  show wpAny _ _ (newExc (.type "StopIteration") [] >>= _) _ _ _
  refine wpAny_bind ?_
  simp only [newExc, newTuple]
  refine wpAny_bind (wpAny_newObj_type ?_ (by size_fits))
  refine wpAny_bind (m := firstArgMember _ _) (wpAny_of_eq (a := Value.none) (by first | rfl | (simp only [firstArgMember]; rfl)) ?_)
  refine wpAny_newObj_type ?_ (by size_fits)
  have stay := (Heap.get?_update_other s.heap (Obj.mapFields (·.setIfInBounds 0 Value.none)) (show I ≠ x from fun z => nx z.symm)).trans e1
  have stay2 := Heap.get?_push_of_some (h := s.heap.update I (Obj.mapFields (·.setIfInBounds 0 Value.none))) { cls := .type "tuple", dict := none, data := .seq ([] : List Value).toArray 0 } stay
  refine HotX.raiseNew_hot (x1 := x) ⟨hh, o1, vs1, Heap.get?_push_of_some _ stay2, d1, c1⟩ (Nat.ne_of_lt (Heap.lt_size stay2)) (Heap.get?_push_size _ rfl) rfl (by first | (simp; done) | (simp; omega) | (simp only [Array.size_append]; simp; omega)) ?_
  refine wpAny_bind (wpAny_isInstance (T := "StopIteration") (b := true) ⟨_, Heap.get?_update_self _ (Heap.get?_push_size _ rfl) rfl, rfl⟩ isSubtype_stop ?_)
  refine wpAny_pure (k _ fun b ob nb eb => ?_)
  have old := Heap.get?_push_of_some (h := s.heap.update I (Obj.mapFields (·.setIfInBounds 0 Value.none))) { cls := .type "tuple", dict := none, data := .seq ([] : List Value).toArray 0 } ((Heap.get?_update_other s.heap (Obj.mapFields (·.setIfInBounds 0 Value.none)) (show I ≠ b from fun z => nb z.symm)).trans eb)
  rw [Heap.get?_update_other _ _ (Nat.ne_of_gt (Heap.lt_size old))]
  exact Heap.get?_push_of_some _ old
/-- how many of the first i are true -/
def cntB (bs : List Bool) (i : Nat) : Int := (((bs.take i).filter id).length : Nat)
theorem cntB_step {bs : List Bool} {i : Nat} {b : Bool} (h : bs[i]? = some b) : cntB bs (i + 1) = cntB bs i + (if b = true then 1 else 0) := by
  unfold cntB
  rw [List.take_add_one, h, Option.toList_some, List.filter_append, List.length_append]
  cases b
  · show (((_ + 0 : Nat)) : Int) = _
    rw [Nat.add_zero, if_neg (by decide), Int.add_zero]
  · show (((_ + 1 : Nat)) : Int) = _
    rw [if_pos rfl]
    push_cast
    rfl
theorem cntB_lt (bs : List Bool) (i : Nat) (h : bs.length ≤ 1000) : 0 ≤ cntB bs i ∧ cntB bs i ≤ 1000 := by
  unfold cntB
  have h1 := List.length_filter_le id (bs.take i)
  rw [List.length_take] at h1
  omega
def valsB (bs : List Bool) : Array Value := (bs.map Value.bool).toArray
theorem valsB_at {bs : List Bool} {i : Nat} {b : Bool} (h : bs[i]? = some b) : (valsB bs)[i]? = some (.bool b) := by
  unfold valsB
  rw [List.getElem?_toArray, List.getElem?_map, h]
  rfl
/-- the loop, from the item i on -/
theorem loop_hot {R : Result → Shared → Prop} {I l x S : Addr} {bs : List Bool} (hh : A.handled = some (.ref x)) (h1000 : bs.length ≤ 1000) (nx : x ≠ I) (nl : l ≠ I) (sI : S ≠ I) (sl : S ≠ l) (sx : S ≠ x) :
    ∀ (k i : Nat) (s : Shared) (tA : Tok) (c : Nat), bs.length - i = k → i ≤ bs.length → s.heap.IsListIter I l i → s.heap.IsList l (valsB bs) → HotH x s.heap →
      s.heap.get? S = some { cls := .type "list", dict := none, data := .seq #[.int (cntB bs i) tA] c, slots := #[] } →
      (∀ h' tk t', (∀ b o, b ≠ I → b ≠ S → s.heap.get? b = some o → h'.get? b = some o) → R (.ok (.ret (.int (cntB bs bs.length) t'))) { s with heap := h', toks := tk }) →
      codeAny (model P w) A (.builtin "sum.loop" ⟨[.ref I, .ref S, rawInt 0, rawInt 0], []⟩) R s := by
  intro k
  induction k with
  | zero =>
    intro i s tA c hk hi hit hl hx hS fin
    obtain rfl : i = bs.length := by omega
    apply codeAny_builtin PySem.F.entry_sum_loop
    rw [Around.under_plainId PySem.F.plain_sum_loop _]
    apply wpAny_bind
    refine wpAny_seqItems hS rfl ?_
    refine wpAny_bind (wpAny_tryCatch ?_)
    refine end_hot (A := A.in1) hh hx nx hit hl (by unfold valsB; simp) fun h' keep => ?_
    exact wpAny_pure (fin h' s.toks tA fun b o hb _ e => keep b o hb e)
  | succ k ih =>
    intro i s tA c hk hi hit hl hx hS fin
    obtain ⟨b, hb⟩ : ∃ b, bs[i]? = some b := ⟨_, List.getElem?_eq_getElem (by omega)⟩
    apply codeAny_builtin PySem.F.entry_sum_loop
    rw [Around.under_plainId PySem.F.plain_sum_loop _]
    apply wpAny_bind
    refine wpAny_seqItems hS rfl ?_
    refine wpAny_bind (wpAny_tryCatch ?_)
    refine wpAny_pyNext_list_item hit hl (valsB_at hb) fun h' hit' same => ?_
    obtain ⟨z0, z1⟩ := cntB_lt bs i h1000
    have eS := same.extBut S _ sI hS
    have step := cntB_step hb
    have big : ∀ (d : Int), 0 ≤ d → d ≤ 1 → ((decide (-(2 ^ 63) ≤ d) && decide (d < 2 ^ 63)) && (decide (-(2 ^ 63) ≤ cntB bs i + d) && decide (cntB bs i + d < 2 ^ 63))) = true := fun d h0 h1 => by
      rw [decide_eq_true (show -(2 ^ 63) ≤ d by omega), decide_eq_true (show d < 2 ^ 63 by omega), decide_eq_true (show -(2 ^ 63) ≤ cntB bs i + d by omega), decide_eq_true (show cntB bs i + d < 2 ^ 63 by omega)]
      rfl
    have d0 : (0 : Int) ≤ (if b = true then 1 else 0) ∧ ((if b = true then 1 else 0) : Int) ≤ 1 := by split <;> omega
    show wpAny _ A.in1 (if (_ : Bool) = true then (mkInt (cntB bs i + (if b = true then 1 else 0)) >>= _) else _) _ _ _
    have pick : ∀ {c : Bool} {X Y : Sem Fin} {Q : Fin → Shared → Prop} {F : Value → Shared → Prop} {s : Shared}, c = true → wpAny (model P w) A.in1 X Q F s → wpAny (model P w) A.in1 (if c = true then X else Y) Q F s := fun h g => by rw [if_pos h]; exact g
    refine pick ?_ ?_
    · have z := big (if b = true then 1 else 0) d0.1 d0.2
      generalize (if b = true then 1 else 0 : Int) = d at z ⊢
      generalize cntB bs i = m at z ⊢
      exact z
    · refine wpAny_bind (wpAny_mkInt ?_)
      show wpAny _ A.in1 (updateSeq S (fun _ => #[.int (cntB bs i + (if b = true then 1 else 0)) s.toks]) >>= _) _ _ _
      refine wpAny_bind ?_
      refine wpAny_updateSeq eS rfl (wpAny_pure ⟨plainId_quiet PySem.F.plain_sum_loop _, ih (i + 1) _ s.toks c (by omega) (by omega) ?_ ?_ ?_ ?_ fun h2 tk t' keep => ?_⟩)
      · exact hit'.at fun o e => (Heap.get?_update_other _ _ (show S ≠ I from sI)).trans e
      · exact (hl.extBut same.extBut nl).at fun o e => (Heap.get?_update_other _ _ (show S ≠ l from sl)).trans e
      · obtain ⟨o1, v1, e1, d1, c1⟩ := hx
        exact ⟨o1, v1, (Heap.get?_update_other _ _ (show S ≠ x from sx)).trans (same.extBut _ _ nx e1), d1, c1⟩
      · rw [step]
        exact Heap.get?_update_self _ eS rfl
      · exact fin h2 tk t' fun b o n1 n2 e => keep b o n1 n2 ((Heap.get?_update_other _ _ (fun z => n2 z.symm)).trans (same.extBut _ _ n1 e))
theorem sum_hot {l x : Addr} {bs : List Bool} {Q : Value → Shared → Prop} (hh : A.handled = some (.ref x)) (hx : HotH x s.heap) (hl : s.heap.IsList l (valsB bs)) (h1000 : bs.length ≤ 1000)
    (k : ∀ h' tk t', (∀ b o, s.heap.get? b = some o → h'.get? b = some o) → Q (.int (cntB bs bs.length) t') { s with heap := h', toks := tk }) : wpAny (model P w) A (call (.builtin "sum") [.ref l]) Q E s := by
  obtain ⟨ol, el, _⟩ := id hl
  obtain ⟨o1, v1, e1, d1, c1⟩ := id hx
  have l0 := Heap.lt_size el
  have x0 := Heap.lt_size e1
  apply call_function_tree PySem.F.kind_sum PySem.F.plain_sum PySem.F.entry_sum (PySem.F.args_sum1 _)
  unfold Builtin.«sum»
  simp only [List.length_cons, List.length_nil]
  rw [if_neg (by decide)]
  apply wpAny_bind
  refine wpAny_of_eq (show Builtin.Builtins.bindParams "sum" ["start"] 0 { } = pure [none] from rfl) ?_
  apply wpAny_bind
  refine wpAny_pyIter_list hl ?_
  apply wpAny_bind
  refine wpAny_mkInt (wpAny_bind (wpAny_pure ?_))
  simp only [List.forIn_cons, List.forIn_nil]
  refine wpAny_bind (wpAny_bind (wpAny_bind (wpAny_isInstance (T := "int") (b := false) (typeIs_int _ _ _) PySem.sub_int_str ?_)))
  simp only [Bool.false_eq_true, if_false]
  refine wpAny_pure (wpAny_bind (wpAny_bind (wpAny_isInstance (T := "int") (b := false) (typeIs_int _ _ _) PySem.sub_int_bytes ?_)))
  simp only [Bool.false_eq_true, if_false]
  refine wpAny_pure (wpAny_bind (wpAny_bind (wpAny_isInstance (T := "int") (b := false) (typeIs_int _ _ _) PySem.sub_int_bytearray ?_)))
  simp only [Bool.false_eq_true, if_false]
  refine wpAny_pure (wpAny_pure (wpAny_bind (wpAny_newObj_type ?_)))
  let h1 := s.heap.push { cls := .type "list_iterator", data := .fields #[.ref l, .int 0 0] }
  have g1 : h1.objs.size = s.heap.objs.size + 1 := Heap.size_push _ _
  have gI : h1.objs.size ≠ s.heap.objs.size := by rw [g1]; omega
  have gl : h1.objs.size ≠ l := by rw [g1]; exact Nat.ne_of_gt (Nat.lt_succ_of_lt l0)
  have gx : h1.objs.size ≠ x := by rw [g1]; exact Nat.ne_of_gt (Nat.lt_succ_of_lt x0)
  refine wpAny_pure ⟨plainId_quiet PySem.F.plain_sum_loop _, loop_hot (x := x) (l := l) (I := s.heap.objs.size) (S := h1.objs.size) (bs := bs) (A := A) hh h1000 (Nat.ne_of_lt x0) (Nat.ne_of_lt l0) gI gl gx bs.length 0 _ s.toks 0 rfl (Nat.zero_le _) ?_ ?_ ?_ ?_ fun h' tk t' keep => ?_⟩
  · exact ⟨_, Heap.get?_push_of_some _ (Heap.get?_push_size _ rfl), rfl, rfl⟩
  · exact (hl.push _).push _
  · exact ⟨o1, v1, Heap.get?_push_of_some _ (Heap.get?_push_of_some _ e1), d1, c1⟩
  · exact Heap.get?_push_size _ rfl
  · refine k h' tk t' fun b o e => keep b o ?_ ?_ (Heap.get?_push_of_some _ (Heap.get?_push_of_some _ e))
    · exact Nat.ne_of_lt (Heap.lt_size e)
    · have := Heap.lt_size e
      show b ≠ h1.objs.size
      rw [g1]
      exact Nat.ne_of_lt (Nat.lt_succ_of_lt this)
theorem vals_bools : ∀ {bs : List Bool} {us : List Value}, Vals (bs.map V.bl) us → us = bs.map Value.bool
  | [], _, r => by rw [List.map_nil] at r; cases r; rfl
  | b :: bs, _, r => by
    rw [List.map_cons] at r
    cases r with
    | cons h t =>
      cases (show _ = Value.bool b from h)
      rw [vals_bools t, List.map_cons]
/-- sum(..) of a list of truths within a suite -/
def rSumB (K : PySem.W.Frag) : List V → Hp → VK → Prop := fun vs H Q => ∃ (a : Addr) (bs : List Bool), vs = [V.ref a] ∧ SqL K H a (bs.map V.bl) ∧ bs.length ≤ 1000 ∧ Q (.int (cntB bs bs.length)) H
theorem call_sumH {X : Cx} {K : PySem.W.Frag} (hot : L2H.HotC X) (hK : X.K = K := by rfl) : CallR X (.builtin "sum") (rSumB K) := by
  subst hK
  intro pins s σ H vs us Q I r h
  obtain ⟨a, bs, rfl, hs, n1, q⟩ := h
  obtain ⟨its, rv, hl, _⟩ := I.list hs
  rw [Vals.ref1 r]
  obtain ⟨x1, hh, o1, v1, e1, d1, c1⟩ := hot.at I
  have ev : its = bs.map Value.bool := vals_bools rv
  subst ev
  exact sum_hot hh ⟨o1, v1, e1, d1, c1⟩ hl.isList n1 fun h' tk t' hk => ⟨.int _, H, I.kept hk, ⟨_, rfl⟩, q⟩
end
end Lf

set_option Elab.async false
set_option linter.all false
set_option maxRecDepth 100000
set_option maxHeartbeats 4000000
set_option exponentiation.threshold 3000
namespace Lf
open PySem PySem.Spec PyProof.Rows L2
/-- classes of errors -/
structure Oths (K : PySem.W.Frag) (mg : Str → Option Value) : Type where
  cNoCount : Addr
  gNoCount : mg "NoCount" = some (.ref cNoCount)
  cNoFraction : Addr
  gNoFraction : mg "NoFraction" = some (.ref cNoFraction)
  cNoName : Addr
  gNoName : mg "NoName" = some (.ref cNoName)
  cNoWeight : Addr
  gNoWeight : mg "NoWeight" = some (.ref cNoWeight)
/-- what is known of an error's class: of which of the three it is -/
structure FaD (K : PySem.W.Frag) (mg : Str → Option Value) (T : Oths K mg) (CW CS CT cL D : Addr) (bw bs bt : Bool) : Prop where
  ex : ExcC K D
  kv : PySem.W.kitOne K (.ref D) (.type "ValueError") = some true
  k0 : PySem.W.kitAny K (.ref D) [.ref T.cNoCount, .ref T.cNoFraction, .ref T.cNoName, .ref T.cNoWeight] = some false
  kw : PySem.W.kitOne K (.ref D) (.ref CW) = some bw
  ks : PySem.W.kitOne K (.ref D) (.ref CS) = some bs
  kt : PySem.W.kitOne K (.ref D) (.ref CT) = some bt
  l : PySem.W.exmOne K (.ref D) (.ref cL) = some true
section
variable {P : Program} {w : World} {K : PySem.W.Frag} {mg : Str → Option Value} {base : Heap} {c0 c1 : Addr}
theorem FnG.liftN {k : Nat} {f : Addr} {fd : FuncData} {ps : List Str} {sp : Sp} (F : FnG P w K mg base CX0 k f fd ps sp) : FnG P w K mg base (L2N.CX P w) k f fd ps sp := by
  refine ⟨F.size, fun B out s H ar us vs Q E hr hg e0 hb r h => codeAny_mono (F.goes B out s H ar us vs Q E hr hg e0 hb r h) fun z s' q => ?_⟩
  cases z with
  | error e => exact q.elim
  | ok fl =>
    cases fl with
    | ret u => exact q
    | next => exact False.elim q
    | brk => exact False.elim q
    | cont => exact False.elim q
/-- what may be told of a call: what it does, or what it raises -/
def sp_or (s1 s2 : Sp) : Sp := fun vs H Q E => s1 vs H Q E ∨ s2 vs H Q E
theorem takesN {X : Cx} : L2N.Takes X (fun _ _ _ _ => False) := fun u s' ⟨_, _, _, _, _, _, _, _, _, _, _, _, _, _, _, _, z⟩ => z.elim
theorem pss_obj {X : Cx} {su : List Stmt} {Z : Obj → Prop} {t : Obj → TS} {oe : Obj} (h : PSs X su (t oe)) (z : Z oe) : PSs X su (fun D σ H => ∀ ob, Z ob → t ob D σ H) := ⟨fun pins s σ H D I k => h.run pins s σ H D I (k oe z)⟩
theorem try_asN {X : Cx} {x n : Str} {c : Value} {i : Nat} {body suite : List Stmt} {b₀ : Stmt} {np pos pos' : Pos} {tb : WX → TS} {ts : Addr → Obj → Value → Option Addr → TS} {Wout : WX} (hs : X.stack = X.env :: X.outer) (hf : X.env.frame = some X.env.locals) (hN : X.N.Nodup) (hi : X.N[i]? = some n) (hln : X.env.kindOf n = some .local) (hc : Names X x c) (tk : L2N.Takes X Wout)
    (hb : ∀ (W : WX) (pn : List (Addr × Obj)) (xe : Value → Shared → Prop), L2N.Takes (X.tr pn xe) W → PassesOwn (model X.prog X.w) X.A X.env xe → PSs (X.tr pn xe) body (tb W))
    (hsu : ∀ (a : Addr) (oe : Obj) (cls : Value) (d : Option Addr) (pn : List (Addr × Obj)), L2N.Zn cls d oe → (∃ vs, oe.data = .fields vs) → PSs (X.suite a ((a, oe) :: pn)) (b₀ :: suite) (ts a oe cls d)) :
    PS X (.Try body [.ExceptHandler (some (.Name x np)) (some n) (b₀ :: suite) pos'] [] [] pos) (fun D σ H => tb (wAs X.K c i (fun a cls d D σ H => ∀ ob, (L2N.Zn cls d ob ∧ ∃ vs, ob.data = .fields vs) → ts a ob cls d D σ H) Wout D) D σ H) :=
  L2N.ps_try_as hs hf hN hi hln hc tk hb fun a oe cls d pn hz hf => pss_obj (Z := fun ob => L2N.Zn cls d ob ∧ ∃ vs, ob.data = .fields vs) (t := fun ob => ts a ob cls d) (hsu a oe cls d pn hz hf) ⟨hz, hf⟩
theorem ix_listK {X : Cx} {K : PySem.W.Frag} (hK : X.K = K := by rfl) : IxR X (rIxL K) := hK ▸ ix_list
theorem len_seqK {X : Cx} {K : PySem.W.Frag} (hK : X.K = K := by rfl) : CallR X (.builtin "len") (fun xs H Q => ∃ p ys, xs = [V.ref p] ∧ (SqL K H p ys ∨ SqT K H p ys) ∧ Q (V.int (ys.length : Nat)) H) := hK ▸ call_len_seq
theorem isiTK {X : Cx} {K : PySem.W.Frag} (hK : X.K = K := by rfl) : CallR X (.builtin "isinstance") (rIsiT K) := hK ▸ call_isiT
theorem mt_indexK {X : Cx} {K : PySem.W.Frag} (hK : X.K = K := by rfl) : MtR X "list.index" (rIndex K) := hK ▸ mt_index
theorem bd12 : Bd (1, 2) := ⟨⟨by decide, by decide⟩, ⟨by decide, by decide⟩⟩
theorem sh2 : Shrt2 (.tuple [.list [], .list []]) := fun ds h x hx es he => by
  cases h
  rcases List.mem_cons.mp hx with rfl | hx
  · cases he; decide
  · rw [List.mem_singleton.mp hx] at he; cases he; decide
/-- the four ways of a call -/
theorem ways {H : Hp} {v u : V} {d e : PyData} {CW CS CT : Addr} (hv : Dg K H v d) (wd : WD d) (hu : Dg K H u e) (eu : El e) :
    (∃ C, Bad K CW CS CT H v u C ∧ ((C = CW ∧ kindOf d e = "weights") ∨ (C = CS ∧ kindOf d e = "step") ∨ (C = CT ∧ kindOf d e = "little"))) ∨ (kindOf d e = "made" ∧ ∃ a xs fs, v = .ref a ∧ Fit K H a u xs fs (top2 e)) := by
  unfold kindOf
  by_cases ew : isWts d = false
  · rw [if_pos ew]
    exact .inl ⟨CW, .w hv wd.ln ew, .inl ⟨rfl, rfl⟩⟩
  rw [if_neg ew]
  have ew' : isWts d = true := by cases h : isWts d <;> simp_all
  by_cases es : isAb e = false
  · rw [if_pos es]
    exact .inl ⟨CS, .s hv wd.ln ew' hu es, .inr (.inl ⟨rfl, rfl⟩)⟩
  rw [if_neg es]
  have es' : isAb e = true := by cases h : isAb e <;> simp_all
  obtain ⟨We, _⟩ := isAb_inv es' eu
  have au : AtK K H u (top2 e) := (fr_atG hu (by unfold isAb at es'; rw [Bool.and_eq_true] at es'; exact es'.1)).1
  cases d with
  | list ds =>
    obtain ⟨W, al⟩ := wts_of (show isWtL ds = true from ew') (wd.el ds (.inl rfl))
    cases hv with
    | lst hS hA =>
      have hx := dgall_wts hA al
      by_cases m0 : many (ds.map top2) (top2 e) = 0
      · rw [if_pos (show many (wtsOf (.list ds)) (top2 e) = 0 from m0)]
        exact .inl ⟨CT, .t (.inl hS) hx W au We m0, .inr (.inr ⟨rfl, rfl⟩)⟩
      · rw [if_neg (show ¬ many (wtsOf (.list ds)) (top2 e) = 0 from m0)]
        exact .inr ⟨rfl, _, _, _, rfl, .inl hS, hx, W, au, We, m0⟩
  | tuple ds =>
    have := wd.tu ds rfl
    rw [show isWts (.tuple ds) = isWtL ds from rfl, this] at ew'
    cases ew'
  | none => cases ew'
  | bool _ => cases ew'
  | int _ => cases ew'
  | str _ => cases ew'
  | dict _ => cases ew'

/-! ### _law_told -/
theorem sc__law_told : FnScope ["_law_way", "_law_weights", "_law_step", "_law_told_here", "e", "_law_kinds", "_law_others"] ["_law_way", "_law_weights", "_law_step"] (defScope s__law_told) := ⟨rfl, rfl, rfl, by decide +kernel, rfl, by decide +kernel, by decide +kernel⟩
def sp_told (K : PySem.W.Frag) : Sp := fun vs H Q _ => ∃ (wy : Nat) (v u : V) (d e : PyData), vs = [.int wy, v, u] ∧ wy < 5 ∧ Dg K H v d ∧ WD d ∧ Dg K H u e ∧ El e ∧ (wy = 2 → kindOf d e ≠ "made") ∧ ∀ H', Same H H' → Q (.str (kindOf d e)) H'
set_option maxHeartbeats 16000000 in
theorem ok_told {CW CS CT cL f : Addr} {fd : FuncData} (M : Blt mg) (Mx : Bltx mg) (ml : mg "list" = none) (ms : mg "sum" = none) (MV : mg "ValueError" = none) (T : Oths K mg) (gL : mg "LoafError" = some (.ref cL))
    (gW : mg "NoWeights" = some (.ref CW)) (gS : mg "NoStep" = some (.ref CS)) (gT : mg "TooLittle" = some (.ref CT)) (XW : FaD K mg T CW CS CT cL CW true false false) (XS : FaD K mg T CW CS CT cL CS false true false) (XT : FaD K mg T CW CS CT cL CT false false true)
    (F : Fun K "_law_told" "_law_told" s__law_told f fd) (C_aims : Cal P w K mg base (L2N.CX P w) 8 "aims" ["weights", "step"] (sp_or (sp_aimsX K) (sp_bad K CW CS CT 0))) (C_rounded : Cal P w K mg base (L2N.CX P w) 11 "rounded" ["weights", "step"] (sp_or (sp_rounded K) (sp_bad K CW CS CT 0))) (C_worst_of : Cal P w K mg base (L2N.CX P w) 9 "worst_of" ["weights", "step", "counted"] (sp_bad K CW CS CT 1)) (C_paper : Cal P w K mg base (L2N.CX P w) 9 "paper" ["weights", "step", "bound"] (sp_or (sp_paper K) (sp_bad K CW CS CT 1))) (C_shows : Cal P w K mg base (L2N.CX P w) 10 "shows" ["weights", "step", "bound", "thing"] (sp_or (sp_shows K) (sp_bad K CW CS CT 2))) : FnG P w K mg base CX0 12 f fd ["_law_way", "_law_weights", "_law_step"] (sp_told K) := by
  refine Gfun F sc__law_told (fun vs H Q E h => ?_) (fun cdv A outer s H vs Q E hg hr h => ?_)
  · obtain ⟨wy, v, u, d, e, rfl, _⟩ := h
    rfl
  · obtain ⟨wy, v, u, d, e, rfl, w5, hv, wd, hu, eu, n2, k⟩ := h
    refine ⟨_, (pss_cons (ps_set (i := 3) sc__law_told.nd rfl (.inl rfl) pe_str)
      (pss_cons (try_asN (i := 4) (n := "e") (c := .ref cL) (Wout := fun _ _ _ _ => False) rfl rfl sc__law_told.nd rfl rfl ⟨rfl, by decide, Or.inl gL⟩ takesN
        (fun W pn xe tk _ => (pss_one (ps_if (pt_cmpR op_eq (pv 0) pe_int (nomark _))
      (pss_one (ps_expr (pe_gS C_aims (hr.mono (by decide)) hg (fun σ => L2N.passAt tk σ) (pa_cons (pv 1) (pa_cons (pv 2) pa_nil)))))
      (pss_one (ps_if (pt_cmpR op_eq (pv 0) pe_int (nomark _))
      (pss_one (ps_expr (pe_gS C_rounded (hr.mono (by decide)) hg (fun σ => L2N.passAt tk σ) (pa_cons (pv 1) (pa_cons (pv 2) pa_nil)))))
      (pss_one (ps_if (pt_cmpR op_eq (pv 0) pe_int (nomark _))
      (pss_one (ps_expr (pe_gS C_worst_of (hr.mono (by decide)) hg (fun σ => L2N.passAt tk σ) (pa_cons (pv 1) (pa_cons (pv 2) (pa_cons (pe_op op_rep (pe_lst (pa_cons pe_int pa_nil)) (pe_ifExp (pt_val (pe_callB (isiTK (K := K)) rfl Mx.isinstance bt_isinstance (pa_cons (pv 1) (pa_cons (pe_tup (pa_cons (pe_bltn (v := .ty "list") rfl ml bt_list rfl) (pa_cons (pe_bltn (v := .ty "tuple") rfl Mx.tuple bt_tuple rfl) pa_nil))) pa_nil)))) (pe_callB (len_seqK (K := K)) rfl M.len bt_len (pa_cons (pv 1) pa_nil)) pe_int)) pa_nil))))))
      (pss_one (ps_if (pt_cmpR op_eq (pv 0) pe_int (nomark _))
      (pss_one (ps_expr (pe_gS C_paper (hr.mono (by decide)) hg (fun σ => L2N.passAt tk σ) (pa_cons (pv 1) (pa_cons (pv 2) (pa_cons (pe_tup (pa_cons pe_int (pa_cons pe_int pa_nil))) pa_nil))))))
      (pss_one (ps_expr (pe_gS C_shows (hr.mono (by decide)) hg (fun σ => L2N.passAt tk σ) (pa_cons (pv 1) (pa_cons (pv 2) (pa_cons (pe_tup (pa_cons pe_int (pa_cons pe_int pa_nil))) (pa_cons (pe_tup (pa_cons (pe_lst pa_nil) (pa_cons (pe_lst pa_nil) pa_nil))) pa_nil))))))))))))))))
        (fun a oe cls d pn hz hf => (pss_cons (ps_set (i := 5) sc__law_told.nd rfl (.inl rfl) (pe_lst (pa_cons (pe_callB (call_isE (K := K) (p := (a, oe)) List.mem_cons_self) rfl Mx.isinstance bt_isinstance (pa_cons (pv 4) (pa_cons (pe_glob (v := .ref CW) rfl gW rfl) pa_nil))) (pa_cons (pe_callB (call_isE (K := K) (p := (a, oe)) List.mem_cons_self) rfl Mx.isinstance bt_isinstance (pa_cons (pv 4) (pa_cons (pe_glob (v := .ref CS) rfl gS rfl) pa_nil))) (pa_cons (pe_callB (call_isE (K := K) (p := (a, oe)) List.mem_cons_self) rfl Mx.isinstance bt_isinstance (pa_cons (pv 4) (pa_cons (pe_glob (v := .ref CT) rfl gT rfl) pa_nil))) pa_nil)))))
      (pss_cons (ps_set (i := 6) sc__law_told.nd rfl (.inl rfl) (pe_or (pe_callB (call_isET (K := K) (p := (a, oe)) List.mem_cons_self) rfl Mx.isinstance bt_isinstance (pa_cons (pv 4) (pa_cons (pe_tup (pa_cons (pe_glob (v := .ref T.cNoCount) rfl T.gNoCount rfl) (pa_cons (pe_glob (v := .ref T.cNoFraction) rfl T.gNoFraction rfl) (pa_cons (pe_glob (v := .ref T.cNoName) rfl T.gNoName rfl) (pa_cons (pe_glob (v := .ref T.cNoWeight) rfl T.gNoWeight rfl) pa_nil))))) pa_nil))) (pe_one (pe_not (pe_callB (call_isE (K := K) (p := (a, oe)) List.mem_cons_self) rfl Mx.isinstance bt_isinstance (pa_cons (pv 4) (pa_cons (pe_bltn (v := .ty "ValueError") rfl MV PyProof.Rows.Boot.«ValueError» rfl) pa_nil)))))))
      (pss_one (ps_set (i := 3) sc__law_told.nd rfl (.inl rfl) (pe_ifExp (PW.pt (pw_or (pt_val (pv 6)) (pw_or1 (pt_cmpR op_ne (pe_callB (call_sumH (K := K) ⟨(a, oe), ⟨rfl, hf.elim fun vs h => ⟨vs, h, hz.2.2 vs h⟩⟩, List.mem_cons_self⟩) rfl ms bt_sum (pa_cons (pv 5) pa_nil)) pe_int (nomark _))))) pe_str (pe_ix (ix_listK (K := K)) (pe_lst (pa_cons pe_str (pa_cons pe_str (pa_cons pe_str pa_nil)))) (pe_bmK (K := K) (pe_bm PySem.F.plainAttrs_list PySem.F.slot_list_index PySem.F.type_list_index (mt_indexK (K := K)) (pv 5) (pa_cons pe_bl pa_nil))) (fun _ _ => rfl)))))))))
      (pss_one (ps_ret (pv 3))))), ?_⟩
    have facts : ∀ C : Addr, (C = CW ∧ kindOf d e = "weights") ∨ (C = CS ∧ kindOf d e = "step") ∨ (C = CT ∧ kindOf d e = "little") →
        ∃ (bw bs bt : Bool) (_ : FaD K mg T CW CS CT cL C bw bs bt) (j : Nat), ([bw, bs, bt].map V.bl)[j]? = some (.bl true) ∧ (∀ (m : Nat) (z : V), m < j → ([bw, bs, bt].map V.bl)[m]? = some z → eqV z (.bl true) = false) ∧ cntB [bw, bs, bt] 3 = 1 ∧
          ([V.str ("weights" : Str), .str ("step" : Str), .str ("little" : Str)])[j]? = some (.str (kindOf d e)) := fun C h => by
      rcases h with ⟨rfl, h⟩ | ⟨rfl, h⟩ | ⟨rfl, h⟩
      · exact ⟨true, false, false, XW, 0, rfl, (fun m z hm => absurd hm (by omega)), by decide, by rw [h]; rfl⟩
      · exact ⟨false, true, false, XS, 1, rfl, (fun m z hm hz => by obtain rfl : m = 0 := by omega
                                                                    cases hz; decide +kernel), by decide, by rw [h]; rfl⟩
      · exact ⟨false, false, true, XT, 2, rfl, (fun m z hm hz => by
            rcases (show m = 0 ∨ m = 1 by omega) with rfl | rfl <;> cases hz <;> decide +kernel), by decide, by rw [h]; rfl⟩
    have lL : ∀ C : Addr, (C = CW ∧ kindOf d e = "weights") ∨ (C = CS ∧ kindOf d e = "step") ∨ (C = CT ∧ kindOf d e = "little") → PySem.W.exmOne K (.ref C) (.ref cL) = some true := fun C h => by
      obtain ⟨_, _, _, X, _⟩ := facts C h
      exact X.l
    rcases ways (CW := CW) (CS := CS) (CT := CT) hv wd hu eu with ⟨C, bad, kd⟩ | ⟨kd, a, xs, fs, rfl, fit⟩
    · match wy, w5, n2 with
      | 0, _, _ =>
        refine ⟨_, rfl, rfl, _, rfl, iteT ?_⟩
        refine ⟨_, rfl, _, rfl, .inr ⟨v, u, [], C, rfl, rfl, bad, fun H1 s1 => ?_⟩⟩
        refine ⟨true, lL C kd, fun _ a ha ob ⟨hz, hf⟩ => ?_, fun z => Bool.noConfusion z⟩
        have er : Er H1 (a, ob) C none := er_of hz.zc hf rfl rfl
        obtain ⟨bw, bs, bt, X, j, hj, hm, hc, ht⟩ := facts C kd
        refine ⟨_, rfl, C, none, .ref CW, .ref CW, bw, rfl, er, X.ex, fun u r => r, X.kw, _, rfl, C, none, .ref CS, .ref CS, bs, rfl, er, X.ex, fun u r => r, X.ks, _, rfl, C, none, .ref CT, .ref CT, bt, rfl, er, X.ex, fun u r => r, X.kt, len_show (Nat.le_of_ble_eq_true rfl), fun l nl => ?_⟩
        have sl : Same H1 (L2.upd H1 l (.lst [.bl bw, .bl bs, .bl bt])) := same_new nl
        have el : L2.upd H1 l (.lst [.bl bw, .bl bs, .bl bt]) l = some (.lst [.bl bw, .bl bs, .bl bt]) := upd_same
        generalize L2.upd H1 l (.lst [.bl bw, .bl bs, .bl bt]) = K1 at sl el ⊢
        have er1 := er.same sl
        refine ⟨_, rfl, len_show (Nat.le_of_ble_eq_true rfl), fun t1 n1 => ?_⟩
        have st1 : Same K1 (L2.upd K1 t1 (.tup [.ref T.cNoCount, .ref T.cNoFraction, .ref T.cNoName, .ref T.cNoWeight])) := same_new n1
        have et1 : L2.upd K1 t1 (.tup [.ref T.cNoCount, .ref T.cNoFraction, .ref T.cNoName, .ref T.cNoWeight]) t1 = some (.tup [.ref T.cNoCount, .ref T.cNoFraction, .ref T.cNoName, .ref T.cNoWeight]) := upd_same
        generalize L2.upd K1 t1 (.tup [.ref T.cNoCount, .ref T.cNoFraction, .ref T.cNoName, .ref T.cNoWeight]) = K2 at st1 et1 ⊢
        have er2 := er1.same st1
        refine ⟨C, t1, none, _, _, false, rfl, er2, X.ex, et1, .cons (.own _) (.cons (.own _) (.cons (.own _) (.cons (.own _) (.nil)))), X.k0, ?_⟩
        refine ⟨_, rfl, iteF ?_⟩
        refine ⟨_, rfl, C, none, .ty "ValueError", .type "ValueError", true, rfl, er2, X.ex, fun u r => r, X.kv, _, rfl, ?_⟩
        have el2 := st1 _ _ el
        refine ⟨_, rfl, _, rfl, iteF ?_⟩
        refine ⟨_, rfl, l, [bw, bs, bt], rfl, .inl (.inl el2), by show 3 ≤ 1000; decide, ?_⟩
        rw [show ([bw, bs, bt] : List Bool).length = 3 from rfl, hc]
        refine ⟨rfl, _, rfl, iteF ?_⟩
        refine ⟨len_show (Nat.le_of_ble_eq_true rfl), fun l2 nl2 => ?_⟩
        have sl2 : Same K2 (L2.upd K2 l2 (.lst [.str ("weights" : Str), .str ("step" : Str), .str ("little" : Str)])) := same_new nl2
        have el2' : L2.upd K2 l2 (.lst [.str ("weights" : Str), .str ("step" : Str), .str ("little" : Str)]) l2 = some (.lst [.str ("weights" : Str), .str ("step" : Str), .str ("little" : Str)]) := upd_same
        generalize L2.upd K2 l2 (.lst [.str ("weights" : Str), .str ("step" : Str), .str ("little" : Str)]) = K3 at sl2 el2' ⊢
        have el3 := sl2 _ _ el2
        exact ⟨_, rfl, .inl ⟨rfl, _, .inl (.inl el3)⟩, l, [bw, bs, bt].map V.bl, .bl true, j, .bl true, rfl, rfl, .inl (.inl el3), rfl, rfl, hj, rfl, hm, l2, _, _, _, rfl, rfl, .inl (.inl el2'), atI_nat (j := j) ht, _, rfl, k _ (s1.trans ((sl.trans st1).trans sl2))⟩
      | 1, _, _ =>
        refine ⟨_, rfl, rfl, _, rfl, iteF ⟨_, rfl, rfl, _, rfl, iteT ?_⟩⟩
        refine ⟨_, rfl, _, rfl, .inr ⟨v, u, [], C, rfl, rfl, bad, fun H1 s1 => ?_⟩⟩
        refine ⟨true, lL C kd, fun _ a ha ob ⟨hz, hf⟩ => ?_, fun z => Bool.noConfusion z⟩
        have er : Er H1 (a, ob) C none := er_of hz.zc hf rfl rfl
        obtain ⟨bw, bs, bt, X, j, hj, hm, hc, ht⟩ := facts C kd
        refine ⟨_, rfl, C, none, .ref CW, .ref CW, bw, rfl, er, X.ex, fun u r => r, X.kw, _, rfl, C, none, .ref CS, .ref CS, bs, rfl, er, X.ex, fun u r => r, X.ks, _, rfl, C, none, .ref CT, .ref CT, bt, rfl, er, X.ex, fun u r => r, X.kt, len_show (Nat.le_of_ble_eq_true rfl), fun l nl => ?_⟩
        have sl : Same H1 (L2.upd H1 l (.lst [.bl bw, .bl bs, .bl bt])) := same_new nl
        have el : L2.upd H1 l (.lst [.bl bw, .bl bs, .bl bt]) l = some (.lst [.bl bw, .bl bs, .bl bt]) := upd_same
        generalize L2.upd H1 l (.lst [.bl bw, .bl bs, .bl bt]) = K1 at sl el ⊢
        have er1 := er.same sl
        refine ⟨_, rfl, len_show (Nat.le_of_ble_eq_true rfl), fun t1 n1 => ?_⟩
        have st1 : Same K1 (L2.upd K1 t1 (.tup [.ref T.cNoCount, .ref T.cNoFraction, .ref T.cNoName, .ref T.cNoWeight])) := same_new n1
        have et1 : L2.upd K1 t1 (.tup [.ref T.cNoCount, .ref T.cNoFraction, .ref T.cNoName, .ref T.cNoWeight]) t1 = some (.tup [.ref T.cNoCount, .ref T.cNoFraction, .ref T.cNoName, .ref T.cNoWeight]) := upd_same
        generalize L2.upd K1 t1 (.tup [.ref T.cNoCount, .ref T.cNoFraction, .ref T.cNoName, .ref T.cNoWeight]) = K2 at st1 et1 ⊢
        have er2 := er1.same st1
        refine ⟨C, t1, none, _, _, false, rfl, er2, X.ex, et1, .cons (.own _) (.cons (.own _) (.cons (.own _) (.cons (.own _) (.nil)))), X.k0, ?_⟩
        refine ⟨_, rfl, iteF ?_⟩
        refine ⟨_, rfl, C, none, .ty "ValueError", .type "ValueError", true, rfl, er2, X.ex, fun u r => r, X.kv, _, rfl, ?_⟩
        have el2 := st1 _ _ el
        refine ⟨_, rfl, _, rfl, iteF ?_⟩
        refine ⟨_, rfl, l, [bw, bs, bt], rfl, .inl (.inl el2), by show 3 ≤ 1000; decide, ?_⟩
        rw [show ([bw, bs, bt] : List Bool).length = 3 from rfl, hc]
        refine ⟨rfl, _, rfl, iteF ?_⟩
        refine ⟨len_show (Nat.le_of_ble_eq_true rfl), fun l2 nl2 => ?_⟩
        have sl2 : Same K2 (L2.upd K2 l2 (.lst [.str ("weights" : Str), .str ("step" : Str), .str ("little" : Str)])) := same_new nl2
        have el2' : L2.upd K2 l2 (.lst [.str ("weights" : Str), .str ("step" : Str), .str ("little" : Str)]) l2 = some (.lst [.str ("weights" : Str), .str ("step" : Str), .str ("little" : Str)]) := upd_same
        generalize L2.upd K2 l2 (.lst [.str ("weights" : Str), .str ("step" : Str), .str ("little" : Str)]) = K3 at sl2 el2' ⊢
        have el3 := sl2 _ _ el2
        exact ⟨_, rfl, .inl ⟨rfl, _, .inl (.inl el3)⟩, l, [bw, bs, bt].map V.bl, .bl true, j, .bl true, rfl, rfl, .inl (.inl el3), rfl, rfl, hj, rfl, hm, l2, _, _, _, rfl, rfl, .inl (.inl el2'), atI_nat (j := j) ht, _, rfl, k _ (s1.trans ((sl.trans st1).trans sl2))⟩
      | 2, _, _ =>
        refine ⟨_, rfl, rfl, _, rfl, iteF ⟨_, rfl, rfl, _, rfl, iteF ⟨_, rfl, rfl, _, rfl, iteT ?_⟩⟩⟩
        refine ⟨_, rfl, _, rfl, len_show (Nat.le_of_ble_eq_true rfl), fun z0 nz0 => ?_⟩
        have sz0 : Same H (L2.upd H z0 (.lst [.int 0])) := same_new nz0
        have ez0 : L2.upd H z0 (.lst [.int 0]) z0 = some (.lst [.int 0]) := upd_same
        generalize L2.upd H z0 (.lst [.int 0]) = G1 at sz0 ez0 ⊢
        refine ⟨_, rfl, len_show (Nat.le_of_ble_eq_true rfl), fun tp ntp => ?_⟩
        have stp : Same G1 (L2.upd G1 tp (.tup [.ty "list", .ty "tuple"])) := same_new ntp
        refine ⟨_, tp, _, _, _, isLi d || isT d, rfl, upd_same, .cons (.ty "list") (.cons (.ty "tuple") .nil), (hv.same (sz0.trans stp)).ty, k_lt d, ?_⟩
        generalize L2.upd G1 tp (.tup [.ty "list", .ty "tuple"]) = G2 at stp ⊢
        have s02 := sz0.trans stp
        have ez2 := stp _ _ ez0
        refine ⟨_, rfl, ?_⟩
        by_cases lt : (isLi d || isT d) = true
        · rw [lt]
          obtain ⟨va, vxs, rfl, hvs, hvl⟩ : ∃ va vxs, v = .ref va ∧ (SqL K G2 va vxs ∨ SqT K G2 va vxs) ∧ vxs.length ≤ 300 := by
            cases d with
            | list ds =>
              cases hv with
              | lst h1 h2 => exact ⟨_, _, rfl, .inl (sm_l s02 h1), by rw [DgAll.length h2]; exact wd.ln ds (.inl rfl)⟩
            | tuple ds =>
              cases hv with
              | tup h1 h2 => exact ⟨_, _, rfl, .inr (sm_t s02 h1), by rw [DgAll.length h2]; exact wd.ln ds (.inr rfl)⟩
            | none => cases lt
            | bool _ => cases lt
            | int _ => cases lt
            | str _ => cases lt
            | dict _ => cases lt
          refine iteT ⟨_, rfl, va, vxs, rfl, hvs, ?_⟩
          refine ⟨z0, _, _, rfl, rfl, ez2, by omega, by omega, by rw [sizeLine_eq]; show 1 * (vxs.length : Int).toNat ≤ _; rw [Int.toNat_natCast]; omega, fun z1 nz1 => ?_⟩
          have sz1 : Same G2 (L2.upd G2 z1 (.lst (List.replicate (vxs.length : Int).toNat [.int 0]).flatten)) := same_new nz1
          have ez1 : L2.upd G2 z1 (.lst (List.replicate (vxs.length : Int).toNat [.int 0]).flatten) z1 = some (.lst (List.replicate (vxs.length : Int).toNat [.int 0]).flatten) := upd_same
          generalize L2.upd G2 z1 (.lst (List.replicate (vxs.length : Int).toNat [.int 0]).flatten) = G3 at sz1 ez1 ⊢
          refine ⟨.ref va, u, [.ref z1], C, rfl, rfl, bad.same (s02.trans sz1), fun H1 s1 => ?_⟩
          refine ⟨true, lL C kd, fun _ a ha ob ⟨hz, hf⟩ => ?_, fun z => Bool.noConfusion z⟩
          have er : Er H1 (a, ob) C none := er_of hz.zc hf rfl rfl
          obtain ⟨bw, bs, bt, X, j, hj, hm, hc, ht⟩ := facts C kd
          refine ⟨_, rfl, C, none, .ref CW, .ref CW, bw, rfl, er, X.ex, fun u r => r, X.kw, _, rfl, C, none, .ref CS, .ref CS, bs, rfl, er, X.ex, fun u r => r, X.ks, _, rfl, C, none, .ref CT, .ref CT, bt, rfl, er, X.ex, fun u r => r, X.kt, len_show (Nat.le_of_ble_eq_true rfl), fun l nl => ?_⟩
          have sl : Same H1 (L2.upd H1 l (.lst [.bl bw, .bl bs, .bl bt])) := same_new nl
          have el : L2.upd H1 l (.lst [.bl bw, .bl bs, .bl bt]) l = some (.lst [.bl bw, .bl bs, .bl bt]) := upd_same
          generalize L2.upd H1 l (.lst [.bl bw, .bl bs, .bl bt]) = K1 at sl el ⊢
          have er1 := er.same sl
          refine ⟨_, rfl, len_show (Nat.le_of_ble_eq_true rfl), fun t1 n1 => ?_⟩
          have st1 : Same K1 (L2.upd K1 t1 (.tup [.ref T.cNoCount, .ref T.cNoFraction, .ref T.cNoName, .ref T.cNoWeight])) := same_new n1
          have et1 : L2.upd K1 t1 (.tup [.ref T.cNoCount, .ref T.cNoFraction, .ref T.cNoName, .ref T.cNoWeight]) t1 = some (.tup [.ref T.cNoCount, .ref T.cNoFraction, .ref T.cNoName, .ref T.cNoWeight]) := upd_same
          generalize L2.upd K1 t1 (.tup [.ref T.cNoCount, .ref T.cNoFraction, .ref T.cNoName, .ref T.cNoWeight]) = K2 at st1 et1 ⊢
          have er2 := er1.same st1
          refine ⟨C, t1, none, _, _, false, rfl, er2, X.ex, et1, .cons (.own _) (.cons (.own _) (.cons (.own _) (.cons (.own _) (.nil)))), X.k0, ?_⟩
          refine ⟨_, rfl, iteF ?_⟩
          refine ⟨_, rfl, C, none, .ty "ValueError", .type "ValueError", true, rfl, er2, X.ex, fun u r => r, X.kv, _, rfl, ?_⟩
          have el2 := st1 _ _ el
          refine ⟨_, rfl, _, rfl, iteF ?_⟩
          refine ⟨_, rfl, l, [bw, bs, bt], rfl, .inl (.inl el2), by show 3 ≤ 1000; decide, ?_⟩
          rw [show ([bw, bs, bt] : List Bool).length = 3 from rfl, hc]
          refine ⟨rfl, _, rfl, iteF ?_⟩
          refine ⟨len_show (Nat.le_of_ble_eq_true rfl), fun l2 nl2 => ?_⟩
          have sl2 : Same K2 (L2.upd K2 l2 (.lst [.str ("weights" : Str), .str ("step" : Str), .str ("little" : Str)])) := same_new nl2
          have el2' : L2.upd K2 l2 (.lst [.str ("weights" : Str), .str ("step" : Str), .str ("little" : Str)]) l2 = some (.lst [.str ("weights" : Str), .str ("step" : Str), .str ("little" : Str)]) := upd_same
          generalize L2.upd K2 l2 (.lst [.str ("weights" : Str), .str ("step" : Str), .str ("little" : Str)]) = K3 at sl2 el2' ⊢
          have el3 := sl2 _ _ el2
          exact ⟨_, rfl, .inl ⟨rfl, _, .inl (.inl el3)⟩, l, [bw, bs, bt].map V.bl, .bl true, j, .bl true, rfl, rfl, .inl (.inl el3), rfl, rfl, hj, rfl, hm, l2, _, _, _, rfl, rfl, .inl (.inl el2'), atI_nat (j := j) ht, _, rfl, k _ (((s02.trans sz1).trans s1).trans ((sl.trans st1).trans sl2))⟩
        · rw [show (isLi d || isT d) = false from Bool.eq_false_iff.mpr lt]
          refine iteF ?_
          refine ⟨z0, 1, _, rfl, rfl, ez2, by decide, by decide, by rw [sizeLine_eq]; decide, fun z1 nz1 => ?_⟩
          have sz1 : Same G2 (L2.upd G2 z1 (.lst (List.replicate (1 : Int).toNat [.int 0]).flatten)) := same_new nz1
          have ez1 : L2.upd G2 z1 (.lst (List.replicate (1 : Int).toNat [.int 0]).flatten) z1 = some (.lst (List.replicate (1 : Int).toNat [.int 0]).flatten) := upd_same
          generalize L2.upd G2 z1 (.lst (List.replicate (1 : Int).toNat [.int 0]).flatten) = G3 at sz1 ez1 ⊢
          refine ⟨v, u, [.ref z1], C, rfl, rfl, bad.same (s02.trans sz1), fun H1 s1 => ?_⟩
          refine ⟨true, lL C kd, fun _ a ha ob ⟨hz, hf⟩ => ?_, fun z => Bool.noConfusion z⟩
          have er : Er H1 (a, ob) C none := er_of hz.zc hf rfl rfl
          obtain ⟨bw, bs, bt, X, j, hj, hm, hc, ht⟩ := facts C kd
          refine ⟨_, rfl, C, none, .ref CW, .ref CW, bw, rfl, er, X.ex, fun u r => r, X.kw, _, rfl, C, none, .ref CS, .ref CS, bs, rfl, er, X.ex, fun u r => r, X.ks, _, rfl, C, none, .ref CT, .ref CT, bt, rfl, er, X.ex, fun u r => r, X.kt, len_show (Nat.le_of_ble_eq_true rfl), fun l nl => ?_⟩
          have sl : Same H1 (L2.upd H1 l (.lst [.bl bw, .bl bs, .bl bt])) := same_new nl
          have el : L2.upd H1 l (.lst [.bl bw, .bl bs, .bl bt]) l = some (.lst [.bl bw, .bl bs, .bl bt]) := upd_same
          generalize L2.upd H1 l (.lst [.bl bw, .bl bs, .bl bt]) = K1 at sl el ⊢
          have er1 := er.same sl
          refine ⟨_, rfl, len_show (Nat.le_of_ble_eq_true rfl), fun t1 n1 => ?_⟩
          have st1 : Same K1 (L2.upd K1 t1 (.tup [.ref T.cNoCount, .ref T.cNoFraction, .ref T.cNoName, .ref T.cNoWeight])) := same_new n1
          have et1 : L2.upd K1 t1 (.tup [.ref T.cNoCount, .ref T.cNoFraction, .ref T.cNoName, .ref T.cNoWeight]) t1 = some (.tup [.ref T.cNoCount, .ref T.cNoFraction, .ref T.cNoName, .ref T.cNoWeight]) := upd_same
          generalize L2.upd K1 t1 (.tup [.ref T.cNoCount, .ref T.cNoFraction, .ref T.cNoName, .ref T.cNoWeight]) = K2 at st1 et1 ⊢
          have er2 := er1.same st1
          refine ⟨C, t1, none, _, _, false, rfl, er2, X.ex, et1, .cons (.own _) (.cons (.own _) (.cons (.own _) (.cons (.own _) (.nil)))), X.k0, ?_⟩
          refine ⟨_, rfl, iteF ?_⟩
          refine ⟨_, rfl, C, none, .ty "ValueError", .type "ValueError", true, rfl, er2, X.ex, fun u r => r, X.kv, _, rfl, ?_⟩
          have el2 := st1 _ _ el
          refine ⟨_, rfl, _, rfl, iteF ?_⟩
          refine ⟨_, rfl, l, [bw, bs, bt], rfl, .inl (.inl el2), by show 3 ≤ 1000; decide, ?_⟩
          rw [show ([bw, bs, bt] : List Bool).length = 3 from rfl, hc]
          refine ⟨rfl, _, rfl, iteF ?_⟩
          refine ⟨len_show (Nat.le_of_ble_eq_true rfl), fun l2 nl2 => ?_⟩
          have sl2 : Same K2 (L2.upd K2 l2 (.lst [.str ("weights" : Str), .str ("step" : Str), .str ("little" : Str)])) := same_new nl2
          have el2' : L2.upd K2 l2 (.lst [.str ("weights" : Str), .str ("step" : Str), .str ("little" : Str)]) l2 = some (.lst [.str ("weights" : Str), .str ("step" : Str), .str ("little" : Str)]) := upd_same
          generalize L2.upd K2 l2 (.lst [.str ("weights" : Str), .str ("step" : Str), .str ("little" : Str)]) = K3 at sl2 el2' ⊢
          have el3 := sl2 _ _ el2
          exact ⟨_, rfl, .inl ⟨rfl, _, .inl (.inl el3)⟩, l, [bw, bs, bt].map V.bl, .bl true, j, .bl true, rfl, rfl, .inl (.inl el3), rfl, rfl, hj, rfl, hm, l2, _, _, _, rfl, rfl, .inl (.inl el2'), atI_nat (j := j) ht, _, rfl, k _ (((s02.trans sz1).trans s1).trans ((sl.trans st1).trans sl2))⟩
      | 3, _, _ =>
        refine ⟨_, rfl, rfl, _, rfl, iteF ⟨_, rfl, rfl, _, rfl, iteF ⟨_, rfl, rfl, _, rfl, iteF ⟨_, rfl, rfl, _, rfl, iteT ?_⟩⟩⟩⟩
        refine ⟨_, rfl, _, rfl, len_show (Nat.le_of_ble_eq_true rfl), fun b1 nb1 => ?_⟩
        have sb1 : Same H (L2.upd H b1 (.tup [.int 1, .int 2])) := same_new nb1
        have eb1 : L2.upd H b1 (.tup [.int 1, .int 2]) b1 = some (.tup [.int 1, .int 2]) := upd_same
        generalize L2.upd H b1 (.tup [.int 1, .int 2]) = G1 at sb1 eb1 ⊢
        refine .inr ⟨v, u, [.ref b1], C, rfl, rfl, bad.same sb1, fun H1 s1 => ?_⟩
        refine ⟨true, lL C kd, fun _ a ha ob ⟨hz, hf⟩ => ?_, fun z => Bool.noConfusion z⟩
        have er : Er H1 (a, ob) C none := er_of hz.zc hf rfl rfl
        obtain ⟨bw, bs, bt, X, j, hj, hm, hc, ht⟩ := facts C kd
        refine ⟨_, rfl, C, none, .ref CW, .ref CW, bw, rfl, er, X.ex, fun u r => r, X.kw, _, rfl, C, none, .ref CS, .ref CS, bs, rfl, er, X.ex, fun u r => r, X.ks, _, rfl, C, none, .ref CT, .ref CT, bt, rfl, er, X.ex, fun u r => r, X.kt, len_show (Nat.le_of_ble_eq_true rfl), fun l nl => ?_⟩
        have sl : Same H1 (L2.upd H1 l (.lst [.bl bw, .bl bs, .bl bt])) := same_new nl
        have el : L2.upd H1 l (.lst [.bl bw, .bl bs, .bl bt]) l = some (.lst [.bl bw, .bl bs, .bl bt]) := upd_same
        generalize L2.upd H1 l (.lst [.bl bw, .bl bs, .bl bt]) = K1 at sl el ⊢
        have er1 := er.same sl
        refine ⟨_, rfl, len_show (Nat.le_of_ble_eq_true rfl), fun t1 n1 => ?_⟩
        have st1 : Same K1 (L2.upd K1 t1 (.tup [.ref T.cNoCount, .ref T.cNoFraction, .ref T.cNoName, .ref T.cNoWeight])) := same_new n1
        have et1 : L2.upd K1 t1 (.tup [.ref T.cNoCount, .ref T.cNoFraction, .ref T.cNoName, .ref T.cNoWeight]) t1 = some (.tup [.ref T.cNoCount, .ref T.cNoFraction, .ref T.cNoName, .ref T.cNoWeight]) := upd_same
        generalize L2.upd K1 t1 (.tup [.ref T.cNoCount, .ref T.cNoFraction, .ref T.cNoName, .ref T.cNoWeight]) = K2 at st1 et1 ⊢
        have er2 := er1.same st1
        refine ⟨C, t1, none, _, _, false, rfl, er2, X.ex, et1, .cons (.own _) (.cons (.own _) (.cons (.own _) (.cons (.own _) (.nil)))), X.k0, ?_⟩
        refine ⟨_, rfl, iteF ?_⟩
        refine ⟨_, rfl, C, none, .ty "ValueError", .type "ValueError", true, rfl, er2, X.ex, fun u r => r, X.kv, _, rfl, ?_⟩
        have el2 := st1 _ _ el
        refine ⟨_, rfl, _, rfl, iteF ?_⟩
        refine ⟨_, rfl, l, [bw, bs, bt], rfl, .inl (.inl el2), by show 3 ≤ 1000; decide, ?_⟩
        rw [show ([bw, bs, bt] : List Bool).length = 3 from rfl, hc]
        refine ⟨rfl, _, rfl, iteF ?_⟩
        refine ⟨len_show (Nat.le_of_ble_eq_true rfl), fun l2 nl2 => ?_⟩
        have sl2 : Same K2 (L2.upd K2 l2 (.lst [.str ("weights" : Str), .str ("step" : Str), .str ("little" : Str)])) := same_new nl2
        have el2' : L2.upd K2 l2 (.lst [.str ("weights" : Str), .str ("step" : Str), .str ("little" : Str)]) l2 = some (.lst [.str ("weights" : Str), .str ("step" : Str), .str ("little" : Str)]) := upd_same
        generalize L2.upd K2 l2 (.lst [.str ("weights" : Str), .str ("step" : Str), .str ("little" : Str)]) = K3 at sl2 el2' ⊢
        have el3 := sl2 _ _ el2
        exact ⟨_, rfl, .inl ⟨rfl, _, .inl (.inl el3)⟩, l, [bw, bs, bt].map V.bl, .bl true, j, .bl true, rfl, rfl, .inl (.inl el3), rfl, rfl, hj, rfl, hm, l2, _, _, _, rfl, rfl, .inl (.inl el2'), atI_nat (j := j) ht, _, rfl, k _ ((sb1.trans s1).trans ((sl.trans st1).trans sl2))⟩
      | 4, _, _ =>
        refine ⟨_, rfl, rfl, _, rfl, iteF ⟨_, rfl, rfl, _, rfl, iteF ⟨_, rfl, rfl, _, rfl, iteF ⟨_, rfl, rfl, _, rfl, iteF ?_⟩⟩⟩⟩
        refine ⟨_, rfl, _, rfl, len_show (Nat.le_of_ble_eq_true rfl), fun b1 nb1 => ?_⟩
        have sb1 : Same H (L2.upd H b1 (.tup [.int 1, .int 2])) := same_new nb1
        have eb1 : L2.upd H b1 (.tup [.int 1, .int 2]) b1 = some (.tup [.int 1, .int 2]) := upd_same
        generalize L2.upd H b1 (.tup [.int 1, .int 2]) = G1 at sb1 eb1 ⊢
        refine ⟨len_show (Nat.le_of_ble_eq_true rfl), fun b2 nb2 => ?_⟩
        have sb2 : Same G1 (L2.upd G1 b2 (.lst [])) := same_new nb2
        have eb2 : L2.upd G1 b2 (.lst []) b2 = some (.lst []) := upd_same
        generalize L2.upd G1 b2 (.lst []) = G2 at sb2 eb2 ⊢
        refine ⟨len_show (Nat.le_of_ble_eq_true rfl), fun b3 nb3 => ?_⟩
        have sb3 : Same G2 (L2.upd G2 b3 (.lst [])) := same_new nb3
        have eb3 : L2.upd G2 b3 (.lst []) b3 = some (.lst []) := upd_same
        generalize L2.upd G2 b3 (.lst []) = G3 at sb3 eb3 ⊢
        refine ⟨len_show (Nat.le_of_ble_eq_true rfl), fun b4 nb4 => ?_⟩
        have sb4 : Same G3 (L2.upd G3 b4 (.tup [.ref b2, .ref b3])) := same_new nb4
        have eb4 : L2.upd G3 b4 (.tup [.ref b2, .ref b3]) b4 = some (.tup [.ref b2, .ref b3]) := upd_same
        generalize L2.upd G3 b4 (.tup [.ref b2, .ref b3]) = G4 at sb4 eb4 ⊢
        have sG := ((sb1.trans sb2).trans sb3).trans sb4
        refine .inr ⟨v, u, [.ref b1, .ref b4], C, rfl, rfl, bad.same sG, fun H1 s1 => ?_⟩
        refine ⟨true, lL C kd, fun _ a ha ob ⟨hz, hf⟩ => ?_, fun z => Bool.noConfusion z⟩
        have er : Er H1 (a, ob) C none := er_of hz.zc hf rfl rfl
        obtain ⟨bw, bs, bt, X, j, hj, hm, hc, ht⟩ := facts C kd
        refine ⟨_, rfl, C, none, .ref CW, .ref CW, bw, rfl, er, X.ex, fun u r => r, X.kw, _, rfl, C, none, .ref CS, .ref CS, bs, rfl, er, X.ex, fun u r => r, X.ks, _, rfl, C, none, .ref CT, .ref CT, bt, rfl, er, X.ex, fun u r => r, X.kt, len_show (Nat.le_of_ble_eq_true rfl), fun l nl => ?_⟩
        have sl : Same H1 (L2.upd H1 l (.lst [.bl bw, .bl bs, .bl bt])) := same_new nl
        have el : L2.upd H1 l (.lst [.bl bw, .bl bs, .bl bt]) l = some (.lst [.bl bw, .bl bs, .bl bt]) := upd_same
        generalize L2.upd H1 l (.lst [.bl bw, .bl bs, .bl bt]) = K1 at sl el ⊢
        have er1 := er.same sl
        refine ⟨_, rfl, len_show (Nat.le_of_ble_eq_true rfl), fun t1 n1 => ?_⟩
        have st1 : Same K1 (L2.upd K1 t1 (.tup [.ref T.cNoCount, .ref T.cNoFraction, .ref T.cNoName, .ref T.cNoWeight])) := same_new n1
        have et1 : L2.upd K1 t1 (.tup [.ref T.cNoCount, .ref T.cNoFraction, .ref T.cNoName, .ref T.cNoWeight]) t1 = some (.tup [.ref T.cNoCount, .ref T.cNoFraction, .ref T.cNoName, .ref T.cNoWeight]) := upd_same
        generalize L2.upd K1 t1 (.tup [.ref T.cNoCount, .ref T.cNoFraction, .ref T.cNoName, .ref T.cNoWeight]) = K2 at st1 et1 ⊢
        have er2 := er1.same st1
        refine ⟨C, t1, none, _, _, false, rfl, er2, X.ex, et1, .cons (.own _) (.cons (.own _) (.cons (.own _) (.cons (.own _) (.nil)))), X.k0, ?_⟩
        refine ⟨_, rfl, iteF ?_⟩
        refine ⟨_, rfl, C, none, .ty "ValueError", .type "ValueError", true, rfl, er2, X.ex, fun u r => r, X.kv, _, rfl, ?_⟩
        have el2 := st1 _ _ el
        refine ⟨_, rfl, _, rfl, iteF ?_⟩
        refine ⟨_, rfl, l, [bw, bs, bt], rfl, .inl (.inl el2), by show 3 ≤ 1000; decide, ?_⟩
        rw [show ([bw, bs, bt] : List Bool).length = 3 from rfl, hc]
        refine ⟨rfl, _, rfl, iteF ?_⟩
        refine ⟨len_show (Nat.le_of_ble_eq_true rfl), fun l2 nl2 => ?_⟩
        have sl2 : Same K2 (L2.upd K2 l2 (.lst [.str ("weights" : Str), .str ("step" : Str), .str ("little" : Str)])) := same_new nl2
        have el2' : L2.upd K2 l2 (.lst [.str ("weights" : Str), .str ("step" : Str), .str ("little" : Str)]) l2 = some (.lst [.str ("weights" : Str), .str ("step" : Str), .str ("little" : Str)]) := upd_same
        generalize L2.upd K2 l2 (.lst [.str ("weights" : Str), .str ("step" : Str), .str ("little" : Str)]) = K3 at sl2 el2' ⊢
        have el3 := sl2 _ _ el2
        exact ⟨_, rfl, .inl ⟨rfl, _, .inl (.inl el3)⟩, l, [bw, bs, bt].map V.bl, .bl true, j, .bl true, rfl, rfl, .inl (.inl el3), rfl, rfl, hj, rfl, hm, l2, _, _, _, rfl, rfl, .inl (.inl el2'), atI_nat (j := j) ht, _, rfl, k _ ((sG.trans s1).trans ((sl.trans st1).trans sl2))⟩
      | m + 5, h, _ => exact absurd h (by omega)
    · rw [kd] at k n2
      match wy, w5, n2 with
      | 0, _, _ =>
        refine ⟨_, rfl, rfl, _, rfl, iteT ?_⟩
        exact ⟨_, rfl, _, rfl, .inl ⟨a, u, xs, fs, _, rfl, fit, fun H' D ys s1 _ _ _ => ⟨_, rfl, k H' s1⟩⟩⟩
      | 1, _, _ =>
        refine ⟨_, rfl, rfl, _, rfl, iteF ⟨_, rfl, rfl, _, rfl, iteT ?_⟩⟩
        exact ⟨_, rfl, _, rfl, .inl ⟨a, u, xs, fs, _, rfl, fit, fun H' p D v1 v2 s1 _ _ _ _ _ _ => ⟨_, rfl, k H' s1⟩⟩⟩
      | 2, _, n2 => exact absurd rfl (n2 rfl)
      | 3, _, _ =>
        refine ⟨_, rfl, rfl, _, rfl, iteF ⟨_, rfl, rfl, _, rfl, iteF ⟨_, rfl, rfl, _, rfl, iteF ⟨_, rfl, rfl, _, rfl, iteT ?_⟩⟩⟩⟩
        refine ⟨_, rfl, _, rfl, len_show (Nat.le_of_ble_eq_true rfl), fun b1 nb1 => ?_⟩
        have sb1 : Same H (L2.upd H b1 (.tup [.int 1, .int 2])) := same_new nb1
        have eb1 : L2.upd H b1 (.tup [.int 1, .int 2]) b1 = some (.tup [.int 1, .int 2]) := upd_same
        generalize L2.upd H b1 (.tup [.int 1, .int 2]) = G1 at sb1 eb1 ⊢
        exact .inl ⟨a, u, .ref b1, xs, fs, _, (1, 2), rfl, fit.same sb1, AtK.of eb1, bd12, fun H' p D E s1 _ _ _ _ _ _ _ => ⟨_, rfl, k H' (sb1.trans s1)⟩⟩
      | 4, _, _ =>
        refine ⟨_, rfl, rfl, _, rfl, iteF ⟨_, rfl, rfl, _, rfl, iteF ⟨_, rfl, rfl, _, rfl, iteF ⟨_, rfl, rfl, _, rfl, iteF ?_⟩⟩⟩⟩
        refine ⟨_, rfl, _, rfl, len_show (Nat.le_of_ble_eq_true rfl), fun b1 nb1 => ?_⟩
        have sb1 : Same H (L2.upd H b1 (.tup [.int 1, .int 2])) := same_new nb1
        have eb1 : L2.upd H b1 (.tup [.int 1, .int 2]) b1 = some (.tup [.int 1, .int 2]) := upd_same
        generalize L2.upd H b1 (.tup [.int 1, .int 2]) = G1 at sb1 eb1 ⊢
        refine ⟨len_show (Nat.le_of_ble_eq_true rfl), fun b2 nb2 => ?_⟩
        have sb2 : Same G1 (L2.upd G1 b2 (.lst [])) := same_new nb2
        have eb2 : L2.upd G1 b2 (.lst []) b2 = some (.lst []) := upd_same
        generalize L2.upd G1 b2 (.lst []) = G2 at sb2 eb2 ⊢
        refine ⟨len_show (Nat.le_of_ble_eq_true rfl), fun b3 nb3 => ?_⟩
        have sb3 : Same G2 (L2.upd G2 b3 (.lst [])) := same_new nb3
        have eb3 : L2.upd G2 b3 (.lst []) b3 = some (.lst []) := upd_same
        generalize L2.upd G2 b3 (.lst []) = G3 at sb3 eb3 ⊢
        refine ⟨len_show (Nat.le_of_ble_eq_true rfl), fun b4 nb4 => ?_⟩
        have sb4 : Same G3 (L2.upd G3 b4 (.tup [.ref b2, .ref b3])) := same_new nb4
        have eb4 : L2.upd G3 b4 (.tup [.ref b2, .ref b3]) b4 = some (.tup [.ref b2, .ref b3]) := upd_same
        generalize L2.upd G3 b4 (.tup [.ref b2, .ref b3]) = G4 at sb4 eb4 ⊢
        have sG := ((sb1.trans sb2).trans sb3).trans sb4
        exact .inl ⟨a, u, .ref b1, .ref b4, .tuple [.list [], .list []], xs, fs, _, (1, 2), rfl, fit.same sG, AtK.of (sb4 _ _ (sb3 _ _ (sb2 _ _ eb1))), bd12, .dp (.tup (.inl (.inl eb4)) (.cons (.lst (.inl (.inl (sb4 _ _ (sb3 _ _ eb2)))) .nil) (.cons (.lst (.inl (.inl (sb4 _ _ eb3))) .nil) .nil))) (by rfl), sh2, fun H' s1 => ⟨_, rfl, k H' (sG.trans s1)⟩⟩
      | m + 5, h, _ => exact absurd h (by omega)

end
end Lf

set_option Elab.async false
set_option linter.all false
set_option maxRecDepth 100000
set_option maxHeartbeats 4000000
set_option exponentiation.threshold 3000
namespace Lf
open PySem PySem.Spec PyProof.Rows L2
theorem two_show {a b : PyData} (ha : WD a) (hb : Gd b) : ShowG (.tuple [a, b]) := (Fg.tuple (.cons ha.fg (.cons hb.fg .nil))).g
section
variable {P : Program} {w : World} {K : PySem.W.Frag} {mg : Str → Option Value} {base : Heap} {c0 c1 : Addr}

/-! ### law -/
theorem sc_law : FnScope ["_law_script", "_law_k", "_law_pot_here", "_law_weights", "_law_step", "_law_before", "_law_due_here", "_law_way", "_law_turn"] ["_law_script"] (defScope s_law) := ⟨rfl, rfl, rfl, by decide +kernel, rfl, by decide +kernel, by decide +kernel⟩
def sp_law (K : PySem.W.Frag) : Sp := fun vs H Q _ => ∃ (a : Addr) (ns : List Int), vs = [.ref a] ∧ SqL K H a (ns.map V.int) ∧ ns.length ≤ 63 ∧ ∀ H', Q (.bl true) H'
set_option maxHeartbeats 16000000 in
theorem ok_law {f : Addr} {fd : FuncData} (M : Blt mg) (F : Fun K "law" "law" s_law f fd) (C__law_cell : Cal P w K mg base CX0 1 "_law_cell" ["_law_script", "_law_k"] (sp_cell K)) (C__law_pot : Cal P w K mg base CX0 1 "_law_pot" ["_law_cell_here"] (sp_pot)) (C__law_draw : Cal P w K mg base CX0 1 "_law_draw" ["_law_pot_here", "_law_many"] (sp_draw)) (C__law_some : Cal P w K mg base CX0 2 "_law_some" ["_law_pot_here"] (sp_wsome K))
    (C__law_odd_weights : Cal P w K mg base CX0 3 "_law_odd_weights" ["_law_pot_here", "_law_weights"] (sp_oddws K)) (C__law_odd_weight : Cal P w K mg base CX0 2 "_law_odd_weight" ["_law_pot_here"] (sp_oddw K)) (C__law_due : Cal P w K mg base CX0 4 "_law_due" ["_law_weights", "_law_step"] (sp_due K)) (C__law_told : Cal P w K mg base CX0 12 "_law_told" ["_law_way", "_law_weights", "_law_step"] (sp_told K)) : FnG P w K mg base CX0 13 f fd ["_law_script"] (sp_law K) := by
  refine Gfun F sc_law (fun vs H Q E h => ?_) (fun cdv A outer s H vs Q E hg hr h => ?_)
  · obtain ⟨a, ns, rfl, _⟩ := h
    rfl
  · obtain ⟨a, ns, rfl, hS, hl, k⟩ := h
    refine ⟨_, (pss_cons (ps_for PassesOwn.never rfl (pi_range1 rfl M.range (pa_cons (pe_callB (call_max2 rfl) rfl M.max bt_max (pa_cons pe_int (pa_cons (pe_callB (call_min2 rfl) rfl M.min bt_min (pa_cons pe_int (pa_cons (pe_callB call_len_seq rfl M.len bt_len (pa_cons (pv 0) pa_nil)) pa_nil))) pa_nil))) pa_nil)) (pg_name (i := 1) sc_law.nd rfl (by first | exact .inl rfl | exact .inr rfl))
      (pss_cons (ps_set (i := 2) sc_law.nd rfl (.inr rfl) (pe_g C__law_pot (hr.mono (by decide)) hg (pa_cons (pe_g C__law_cell (hr.mono (by decide)) hg (pa_cons (pv 0) (pa_cons (pv 1) pa_nil))) pa_nil)))
      (pss_cons (ps_setLc (i := 3) (own := [("_law_turn", 8)]) (g := gName 8) (tt := tYes) rfl sc_law.nd rfl rfl (sw_true rfl rfl rfl (by decide +kernel)) (pi_range1 rfl M.range (pa_cons (pe_op op_add pe_int (pe_g C__law_draw (hr.mono (by decide)) hg (pa_cons (pv 2) (pa_cons pe_int pa_nil)))) pa_nil)) (blkOk_by (N := ["_law_script", "_law_k", "_law_pot_here", "_law_weights", "_law_step", "_law_before", "_law_due_here", "_law_way", "_law_turn"]) (sc := defScope s_law) (by decide +kernel)) (fun _ _ _ _ _ => pg_name (i := 8) sc_law.nd rfl (Or.inl rfl)) (fun _ _ _ _ _ => pts_nil) (fun _ _ _ _ _ => (pe_g C__law_some (hr.mono (by decide)) hg (pa_cons (pv 2) pa_nil))))
      (pss_cons (ps_set (i := 4) sc_law.nd rfl (by first | exact .inl rfl | exact .inr rfl) (pe_ix ix_list (pe_lst (pa_cons (pe_g C__law_some (hr.mono (by decide)) hg (pa_cons (pv 2) pa_nil)) (pa_cons (pe_g C__law_some (hr.mono (by decide)) hg (pa_cons (pv 2) pa_nil)) (pa_cons (pe_tup (pa_cons (pe_op op_sub (pe_op op_pow pe_int pe_int) pe_int) (pa_cons pe_int pa_nil))) pa_nil)))) (pe_g C__law_draw (hr.mono (by decide)) hg (pa_cons (pv 2) (pa_cons pe_int pa_nil))) (fun _ _ => rfl)))
      (C8.pss_cut (ps_if (pt_cmpR op_eq (pe_g C__law_draw (hr.mono (by decide)) hg (pa_cons (pv 2) (pa_cons pe_int pa_nil))) pe_int (nomark _))
      (pss_one (ps_set (i := 3) sc_law.nd rfl (by first | exact .inl rfl | exact .inr rfl) (pe_g C__law_odd_weights (hr.mono (by decide)) hg (pa_cons (pv 2) (pa_cons (pv 3) pa_nil)))))
      pss_nil)
      (C8.pss_cut (ps_if (pt_cmpR op_eq (pe_g C__law_draw (hr.mono (by decide)) hg (pa_cons (pv 2) (pa_cons pe_int pa_nil))) pe_int (nomark _))
      (pss_one (ps_set (i := 4) sc_law.nd rfl (by first | exact .inl rfl | exact .inr rfl) (pe_g C__law_odd_weight (hr.mono (by decide)) hg (pa_cons (pv 2) pa_nil))))
      pss_nil)
      (pss_cons (ps_set (i := 5) sc_law.nd rfl (by first | exact .inl rfl | exact .inr rfl) (pe_callB (call_showG hg hr) rfl M.repr bt_repr (pa_cons (pe_tup (pa_cons (pv 3) (pa_cons (pv 4) pa_nil))) pa_nil)))
      (pss_cons (ps_set (i := 6) sc_law.nd rfl (by first | exact .inl rfl | exact .inr rfl) (pe_g C__law_due (hr.mono (by decide)) hg (pa_cons (pv 3) (pa_cons (pv 4) pa_nil))))
      (pss_one (ps_for PassesOwn.never rfl (pi_range1 rfl M.range (pa_cons pe_int pa_nil)) (pg_name (i := 7) sc_law.nd rfl (by first | exact .inl rfl | exact .inr rfl))
      (pss_one (ps_if (PW.pt (pw_or (pt_cmpR op_ne (pv 7) pe_int (nomark _)) (pw_or1 (pt_cmpR op_ne (pv 6) pe_str (nomark _)))))
      (pss_one (ps_if (PW.pt (pw_or (pt_cmpR op_ne (pe_g C__law_told (hr.mono (by decide)) hg (pa_cons (pv 7) (pa_cons (pv 3) (pa_cons (pv 4) pa_nil)))) (pv 6) (nomark _)) (pw_or1 (pt_cmpR op_ne (pe_callB (call_showG hg hr) rfl M.repr bt_repr (pa_cons (pe_tup (pa_cons (pv 3) (pa_cons (pv 4) pa_nil))) pa_nil)) (pv 5) (nomark _)))))
      (pss_one (ps_ret pe_bl))
      pss_nil))
      pss_nil))))))))))))
      (pss_one (ps_ret pe_bl))), ?_⟩
    refine ⟨_, rfl, a, _, rfl, .inl hS, _, _, rfl, _, _, rfl, _, rfl, ?_, ?_, ?_⟩
    · split <;> split <;> omega
    · split <;> split <;> omega
    generalize hN : Int.toNat _ = N
    have hN2 : N ≤ 64 := by
      rw [← hN]
      split <;> split <;> omega
    refine for_range (lo := 0) (n := N) (fun i σ H' => ∃ (y1 y2 y3 y4 y5 y6 y7 y8 : Option V), σ = [some (.ref a), y1, y2, y3, y4, y5, y6, y7, y8] ∧ Same H H') ⟨_, _, _, _, _, _, _, _, rfl, same_rfl⟩ ?_ ?_
    · rintro i σ H1 hi ⟨y1, y2, y3, y4, y5, y6, y7, y8, rfl, s1⟩
      refine ⟨_, rfl, _, rfl, a, ns, i, (by show [V.ref a, V.int (0 + (i : Int))] = _; rw [Int.zero_add]), sm_l s1 hS, by omega, fun c => ?_⟩
      refine ⟨c, rfl, fun x0 y0 q y00 y0l nq => ?_⟩
      have P2 : Pot (L2.upd H1 q (.lst [.int x0, .int y0])) q := ⟨x0, y0, y00, y0l, upd_same⟩
      have s2 : Same H1 (L2.upd H1 q (.lst [.int x0, .int y0])) := same_new nq
      generalize L2.upd H1 q (.lst [.int x0, .int y0]) = H2 at P2 s2 ⊢
      have back : ∀ {G : Hp}, But q H2 G → Same H1 G := fun b bb o e => b _ _ (ne_of_none e nq) (s2 _ _ e)
      refine ⟨_, rfl, q, 12, rfl, by decide, by decide, P2, fun n12 H3 n0 n1 P3 b3 => ?_⟩
      obtain ⟨m, rfl⟩ : ∃ m : Nat, n12 = (m : Int) := ⟨n12.toNat, by omega⟩
      refine ⟨_, _, rfl, rfl, _, rfl, by omega, by omega, fun D hD => ?_⟩
      have nDq : D ≠ q := pot_ne P3 hD
      refine lc_range (lo := 0) (n := _) (fun j H' => ∃ (xs : List V) (fs : List (Int × Int)), H' D = some (.lst xs) ∧ AtKs K (wo D (wo q H')) xs fs ∧ fs.length = j ∧ (∀ f ∈ fs, Wt f) ∧ Pot H' q ∧ But q H3 H') ⟨[], [], upd_same, .nil, rfl, (fun e h => nomatch h), pot_same P3 (same_new hD), fun b o n e => same_new hD _ _ e⟩ ?_ ?_
      · rintro j H4 hj ⟨xs, fs, eD, hx, lf, wt, P4, b4⟩
        refine ⟨rfl, _, rfl, q, rfl, P4, fun v f H5 af wf P5 b5 => ?_⟩
        have eD5 := b5 _ _ nDq eD
        have lx := hx.length
        refine ⟨xs, eD5, ?_, xs ++ [v], fs ++ [f], upd_same, ?_, ?_, fun g hg' => ?_, ?_, fun b o n e => ?_⟩
        · rw [sizeLine_eq]
          have : (1 + (m : Int)).toNat ≤ 13 := by omega
          omega
        · have keep : Same (wo D (wo q H5)) (wo D (wo q (L2.upd H5 D (.lst (xs ++ [v]))))) := fun b o e => by
            have h1 := wo_not e
            have h2 := wo_le _ _ e
            exact wo_at h1 (wo_at (wo_not h2) (by rw [upd_ne h1]; exact wo_le _ _ h2))
          have fv : AtK K (wo D (wo q H5)) v f := by
            obtain ⟨pv, rfl, hp⟩ := af
            refine ⟨pv, rfl, ?_⟩
            obtain ⟨u1, u2, _, _, eq9⟩ := P5
            rcases hp with (h | ⟨ob, h⟩) | h
            · exact .inl (.inl (wo_at (fun w => by rw [w, eD5] at h; cases h) (wo_at (fun w => by rw [w, eq9] at h; cases h) h)))
            · exact .inl (.inr ⟨ob, wo_at (fun w => by rw [w, eD5] at h; cases h) (wo_at (fun w => by rw [w, eq9] at h; cases h) h)⟩)
            · exact .inr h
          exact ((hx.same (wo_wo (wo_but b5))).app (.cons fv .nil)).same keep
        · rw [List.length_append, lf]; rfl
        · rcases List.mem_append.mp hg' with h | h
          · exact wt g h
          · rw [List.mem_singleton.mp h]; exact wf
        · obtain ⟨u1, u2, k1, k2, e⟩ := P5
          exact ⟨u1, u2, k1, k2, by rw [upd_ne (fun z => nDq z.symm)]; exact e⟩
        · rw [upd_ne (ne_of_none e hD)]
          exact b5 _ _ n (b4 _ _ n e)
      · rintro H4 ⟨xs, fs, eD, hx, lf, wt, P4, b4⟩
        have W : Wts fs := ⟨wt, by omega, by omega⟩
        have hx4 : AtKs K (wo q H4) xs fs := hx.same wo_le
        refine ⟨_, rfl, q, rfl, P4, fun v1 f1 H5 a1 w1 P5 b5 => ?_⟩
        refine ⟨_, rfl, q, rfl, P5, fun v2 f2 H6 a2 w2 P6 b6 => ?_⟩
        refine ⟨_, _, rfl, rfl, ⟨by decide, by decide, by decide⟩, _, _, rfl, rfl, len_show (Nat.le_of_ble_eq_true rfl), fun tp ntp => ?_⟩
        have stp : Same H6 (L2.upd H6 tp (.tup [.int (10 ^ Int.toNat 12 - 1), .int 1])) := same_new ntp
        have etp : L2.upd H6 tp (.tup [.int (10 ^ Int.toNat 12 - 1), .int 1]) tp = some (.tup [.int (10 ^ Int.toNat 12 - 1), .int 1]) := upd_same
        generalize L2.upd H6 tp (.tup [.int (10 ^ Int.toNat 12 - 1), .int 1]) = H7 at stp etp ⊢
        refine ⟨len_show (Nat.le_of_ble_eq_true rfl), fun tm ntm => ?_⟩
        have stm : Same H7 (L2.upd H7 tm (.lst [v1, v2, .ref tp])) := same_new ntm
        have etm : L2.upd H7 tm (.lst [v1, v2, .ref tp]) tm = some (.lst [v1, v2, .ref tp]) := upd_same
        generalize L2.upd H7 tm (.lst [v1, v2, .ref tp]) = H8 at stm etm ⊢
        have s68 := stp.trans stm
        have P8 := pot_same P6 s68
        have nqt : tp ≠ q := pot_ne P6 ntp
        have nqm : tm ≠ q := pot_ne (pot_same P6 stp) ntm
        refine ⟨_, rfl, q, 3, rfl, by decide, by decide, P8, fun c3 H9 c30 c31 P9 b9 => ?_⟩
        obtain ⟨cn, rfl⟩ : ∃ cn : Nat, c3 = (cn : Int) := ⟨c3.toNat, by omega⟩
        have b69 : But q H6 H9 := fun b o n e => b9 _ _ n (s68 _ _ e)
        have b59 := b6.trans b69
        have b49 := b5.trans b59
        have eD9 := b49 _ _ nDq eD
        have hx9 : AtKs K (wo q H9) xs fs := hx4.same (wo_but b49)
        have atq : ∀ {G G' : Hp} {v : V} {f : Int × Int}, Pot G q → But q G G' → AtK K G v f → AtK K (wo q G') v f := fun {G G' v f} hP hb h => by
          obtain ⟨pv, rfl, hp⟩ := h
          obtain ⟨u1, u2, _, _, eq9⟩ := hP
          refine ⟨pv, rfl, ?_⟩
          rcases hp with (h | ⟨ob, h⟩) | h
          · have n : pv ≠ q := fun w => by rw [w, eq9] at h; cases h
            exact .inl (.inl (wo_at n (hb _ _ n h)))
          · have n : pv ≠ q := fun w => by rw [w, eq9] at h; cases h
            exact .inl (.inr ⟨ob, wo_at n (hb _ _ n h)⟩)
          · exact .inr h
        have w12 : Wt (10 ^ Int.toNat 12 - 1, 1) := ⟨⟨by decide, by decide⟩, by decide, by decide, by decide⟩
        obtain ⟨vs_, f, hvs, ws, as⟩ : ∃ (v : V) (f : Int × Int), [v1, v2, .ref tp][cn]? = some v ∧ Wt f ∧ AtK K (wo q H9) v f := by
          match cn, c31 with
          | 0, _ => exact ⟨v1, f1, rfl, w1, atq P5 b59 a1⟩
          | 1, _ => exact ⟨v2, f2, rfl, w2, atq P6 b69 a2⟩
          | 2, _ => exact ⟨.ref tp, (10 ^ Int.toNat 12 - 1, 1), rfl, w12, AtK.of (wo_at nqt (b9 _ _ nqt (stm _ _ etp)))⟩
          | n + 3, h => exact absurd h (by omega)
        refine ⟨tm, _, _, _, rfl, rfl, .inl (.inl (b9 _ _ nqm etm)), atI_nat (j := cn) hvs, ?_⟩
        have wd0 : WD (.list (fs.map tD)) := wd_list (w := 84) (by rw [List.length_map]; omega) (fun e he => by
          obtain ⟨g, hg', rfl⟩ := List.mem_map.mp he
          exact (wt g hg').fg.le (by decide) (by decide)) (by rw [List.length_map]; omega) (fun e he => by
          obtain ⟨g, hg', rfl⟩ := List.mem_map.mp he
          exact (wt g hg').el)
        have gd0 : Gd (tD f) := ws.gd
        have dD9 : Dg K (wo q H9) (.ref D) (.list (fs.map tD)) := .lst (.inl (.inl (wo_at nDq eD9))) hx9.dg
        have dU9 : Dg K (wo q H9) vs_ (tD f) := as.dg
        have b29 : But q H2 H9 := (b3.trans b4).trans b49
        let MP : L2.St → Hp → Prop := fun σ' H' => ∃ (vD vU : V) (dD dU : PyData), σ' = [some (.ref a), some (.int (0 + (i : Int))), some (.ref q), some (vD), some (vU), y5, y6, y7, y8] ∧ Dg K (wo q H') vD dD ∧ WD dD ∧ Dg K (wo q H') vU dU ∧ Gd dU ∧ Pot H' q ∧ But q H2 H'
        refine ⟨MP, ?_, ?_⟩
        · refine ⟨_, rfl, q, 3, rfl, by decide, by decide, P9, fun r1 Ha _ _ Pa ba => ⟨rfl, _, rfl, ite2 (fun _ => ?_) (fun _ => ?_)⟩⟩
          · refine ⟨_, rfl, _, rfl, q, D, xs, fs, rfl, Pa, nDq, ba _ _ nDq eD9, hx9.same (wo_but ba), W, fun vD dD Hb hDp wdD Pb bb => ?_⟩
            exact ⟨vD, vs_, dD, tD f, rfl, hDp, wdD, dU9.same (wo_but (ba.trans bb)), gd0, Pb, b29.trans (ba.trans bb)⟩
          · exact ⟨.ref D, vs_, _, tD f, rfl, dD9.same (wo_but ba), wd0, dU9.same (wo_but ba), gd0, Pa, b29.trans ba⟩
        · rintro _ Ha ⟨vD, vU, dD, dU, rfl, hD0, wdD, hU0, gU, Pa, ba⟩
          refine ⟨MP, ?_, ?_⟩
          · refine ⟨_, rfl, q, 3, rfl, by decide, by decide, Pa, fun r2 Hc _ _ Pc bc => ⟨rfl, _, rfl, ite2 (fun _ => ?_) (fun _ => ?_)⟩⟩
            · refine ⟨_, rfl, q, rfl, Pc, fun vU dU Hd hU gU Pd bd => ?_⟩
              exact ⟨vD, vU, dD, dU, rfl, hD0.same (wo_but (bc.trans bd)), wdD, hU, gU, Pd, ba.trans (bc.trans bd)⟩
            · exact ⟨vD, vU, dD, dU, rfl, hD0.same (wo_but bc), wdD, hU0.same (wo_but bc), gU, Pc, ba.trans bc⟩
          · rintro _ Hb ⟨vD, vU, dD, dU, rfl, hD1, wdD, hU1, gU, Pb, bb⟩
            clear MP
            have hDr : Dg K Hb vD dD := hD1.same wo_le
            have hUr : Dg K Hb vU dU := hU1.same wo_le
            have sh := two_show wdD gU
            refine ⟨_, rfl, _, rfl, len_show (Nat.le_of_ble_eq_true rfl), fun t1 nt1 => ?_⟩
            have sj : Same Hb (L2.upd Hb t1 (.tup [vD, vU])) := same_new nt1
            have ej : L2.upd Hb t1 (.tup [vD, vU]) t1 = some (.tup [vD, vU]) := upd_same
            generalize L2.upd Hb t1 (.tup [vD, vU]) = J1 at sj ej ⊢
            refine ⟨.ref t1, .tuple [dD, dU], rfl, .tup (.inl (.inl ej)) (.cons (hDr.same sj) (.cons (hUr.same sj) .nil)), sh.sh, sh.dp, sh.ln, ?_⟩
            refine ⟨_, rfl, _, rfl, vD, vU, dD, dU, rfl, hDr.same sj, wdD, hUr.same sj, gU.el, fun J2 s2j => ?_⟩
            generalize ebf : PyData.shown (.tuple [dD, dU]) = bf
            refine ⟨_, rfl, by decide, by decide, ?_⟩
            refine for_range (lo := 0) (n := 5) (fun j σ H' => ∃ (y7 : Option V), σ = [some (.ref a), some (.int (0 + (i : Int))), some (.ref q), some (vD), some (vU), some (.str bf), some (.str (kindOf dD dU)), y7, y8] ∧ Same J2 H') ⟨_, rfl, same_rfl⟩ ?_ ?_
            · rintro j σ J3 hj ⟨y7, rfl, s3j⟩
              have sR := (sj.trans s2j).trans s3j
              refine ⟨_, rfl, rfl, _, rfl, ?_⟩
              refine ite2 (fun hne => ?_) (fun heq => ⟨_, rfl, rfl, _, rfl, ite2 (fun hk => ?_) (fun hk => ?_)⟩)
              · refine ⟨_, rfl, _, rfl, _, rfl, j, vD, vU, dD, dU, (by show [V.int (0 + (j : Int)), vD, vU] = _; rw [Int.zero_add]), hj, hDr.same sR, wdD, hUr.same sR, gU.el, (fun z => absurd hne (by subst z; decide)), fun J4 s4j => ?_⟩
                refine ⟨_, rfl, rfl, _, rfl, ?_⟩
                refine ite2 (fun z => absurd z (by simp)) (fun _ => ?_)
                refine ⟨_, rfl, _, rfl, len_show (Nat.le_of_ble_eq_true rfl), fun t2 nt2 => ?_⟩
                have s5j : Same J4 (L2.upd J4 t2 (.tup [vD, vU])) := same_new nt2
                have e5 : L2.upd J4 t2 (.tup [vD, vU]) t2 = some (.tup [vD, vU]) := upd_same
                generalize L2.upd J4 t2 (.tup [vD, vU]) = J5 at s5j e5 ⊢
                refine ⟨.ref t2, .tuple [dD, dU], rfl, .tup (.inl (.inl e5)) (.cons (hDr.same ((sR.trans s4j).trans s5j)) (.cons (hUr.same ((sR.trans s4j).trans s5j)) .nil)), sh.sh, sh.dp, sh.ln, ?_⟩
                refine ⟨_, rfl, rfl, _, rfl, ?_⟩
                refine ite2 (fun z => absurd z (by rw [ebf]; simp)) (fun _ => ?_)
                exact ⟨_, rfl, (s3j.trans s4j).trans s5j⟩
              · refine ⟨_, rfl, _, rfl, _, rfl, j, vD, vU, dD, dU, (by show [V.int (0 + (j : Int)), vD, vU] = _; rw [Int.zero_add]), hj, hDr.same sR, wdD, hUr.same sR, gU.el, (fun _ => by simpa using hk), fun J4 s4j => ?_⟩
                refine ⟨_, rfl, rfl, _, rfl, ?_⟩
                refine ite2 (fun z => absurd z (by simp)) (fun _ => ?_)
                refine ⟨_, rfl, _, rfl, len_show (Nat.le_of_ble_eq_true rfl), fun t2 nt2 => ?_⟩
                have s5j : Same J4 (L2.upd J4 t2 (.tup [vD, vU])) := same_new nt2
                have e5 : L2.upd J4 t2 (.tup [vD, vU]) t2 = some (.tup [vD, vU]) := upd_same
                generalize L2.upd J4 t2 (.tup [vD, vU]) = J5 at s5j e5 ⊢
                refine ⟨.ref t2, .tuple [dD, dU], rfl, .tup (.inl (.inl e5)) (.cons (hDr.same ((sR.trans s4j).trans s5j)) (.cons (hUr.same ((sR.trans s4j).trans s5j)) .nil)), sh.sh, sh.dp, sh.ln, ?_⟩
                refine ⟨_, rfl, rfl, _, rfl, ?_⟩
                refine ite2 (fun z => absurd z (by rw [ebf]; simp)) (fun _ => ?_)
                exact ⟨_, rfl, (s3j.trans s4j).trans s5j⟩
              · exact ⟨_, rfl, s3j⟩
            · rintro σ J3 ⟨y7, rfl, s3j⟩
              have sR := (sj.trans s2j).trans s3j
              exact ⟨_, _, _, _, _, _, _, _, rfl, s1.trans ((back bb).trans sR)⟩
    · rintro σ H1 ⟨y1, y2, y3, y4, y5, y6, y7, y8, rfl, s1⟩
      exact k H1

end
end Lf

set_option Elab.async false
set_option linter.all false
set_option maxRecDepth 100000
set_option maxHeartbeats 8000000
namespace Lf
open PySem PySem.Spec PyProof.Rows L2
theorem bp_0 {x q : Str} {p0 : Pos} {body : List Stmt} {sc : Scope} {kV doc pm : Value} {an : Option Addr} {cdv ct : Value} (s : Shared) (us : List Value) (hl : us.length = 1) : BindsTo s (PySem.W.fnOf x q (plainA [{ arg := "thing", annotation := none, pos := p0 }]) body sc .none kV doc pm an cdv ct) ⟨us, []⟩ ((["thing"] : List Str).zip us) := .of_eq (match us, hl with | [_], _ => rfl)
theorem df_is_whole {K : PySem.W.Frag} {mg : Str → Option Value} {f : Addr} {fd : FuncData} (F : FunD K "is_whole" "is_whole" (defArgs s_is_whole) (defBody s_is_whole) (defScope s_is_whole) [] [] f fd) (g : mg "is_whole" = some (.ref f)) : Df K mg "is_whole" s_is_whole ["thing"] f fd := by
  obtain ⟨kV, doc, pm, an, cdv, ct, rfl, F⟩ := fun_of F
  have ⟨p0, ea⟩ : ∃ p0 : Pos, defArgs s_is_whole = plainA [{ arg := "thing", annotation := none, pos := p0 }] := ⟨_, rfl⟩
  exact ⟨F, g, by rw [ea]; exact bp_0, no_kw (by decide +kernel), no_kw (by decide +kernel)⟩
theorem bp_1 {x q : Str} {p0 p1 : Pos} {body : List Stmt} {sc : Scope} {kV doc pm : Value} {an : Option Addr} {cdv ct : Value} (s : Shared) (us : List Value) (hl : us.length = 2) : BindsTo s (PySem.W.fnOf x q (plainA [{ arg := "one", annotation := none, pos := p0 }, { arg := "other", annotation := none, pos := p1 }]) body sc .none kV doc pm an cdv ct) ⟨us, []⟩ ((["one", "other"] : List Str).zip us) := .of_eq (match us, hl with | [_, _], _ => rfl)
theorem df_common {K : PySem.W.Frag} {mg : Str → Option Value} {f : Addr} {fd : FuncData} (F : FunD K "common" "common" (defArgs sCom) (defBody sCom) (defScope sCom) [] [] f fd) (g : mg "common" = some (.ref f)) : Df K mg "common" sCom ["one", "other"] f fd := by
  obtain ⟨kV, doc, pm, an, cdv, ct, rfl, F⟩ := fun_of F
  have ⟨p0, p1, ea⟩ : ∃ p0 p1 : Pos, defArgs sCom = plainA [{ arg := "one", annotation := none, pos := p0 }, { arg := "other", annotation := none, pos := p1 }] := ⟨_, _, rfl⟩
  exact ⟨F, g, by rw [ea]; exact bp_1, no_kw (by decide +kernel), no_kw (by decide +kernel)⟩
theorem bp_2 {x q : Str} {p0 p1 : Pos} {body : List Stmt} {sc : Scope} {kV doc pm : Value} {an : Option Addr} {cdv ct : Value} (s : Shared) (us : List Value) (hl : us.length = 2) : BindsTo s (PySem.W.fnOf x q (plainA [{ arg := "top", annotation := none, pos := p0 }, { arg := "bottom", annotation := none, pos := p1 }]) body sc .none kV doc pm an cdv ct) ⟨us, []⟩ ((["top", "bottom"] : List Str).zip us) := .of_eq (match us, hl with | [_, _], _ => rfl)
theorem df_fraction {K : PySem.W.Frag} {mg : Str → Option Value} {f : Addr} {fd : FuncData} (F : FunD K "fraction" "fraction" (defArgs sFrac) (defBody sFrac) (defScope sFrac) [] [] f fd) (g : mg "fraction" = some (.ref f)) : Df K mg "fraction" sFrac ["top", "bottom"] f fd := by
  obtain ⟨kV, doc, pm, an, cdv, ct, rfl, F⟩ := fun_of F
  have ⟨p0, p1, ea⟩ : ∃ p0 p1 : Pos, defArgs sFrac = plainA [{ arg := "top", annotation := none, pos := p0 }, { arg := "bottom", annotation := none, pos := p1 }] := ⟨_, _, rfl⟩
  exact ⟨F, g, by rw [ea]; exact bp_2, fun _ s us hl => .of_eq (match us, hl with | [_, _], _ => rfl), fun _ s us hl => .of_eq (match us, hl with | [_, _], _ => rfl)⟩
theorem df_plus {K : PySem.W.Frag} {mg : Str → Option Value} {f : Addr} {fd : FuncData} (F : FunD K "plus" "plus" (defArgs s_plus) (defBody s_plus) (defScope s_plus) [] [] f fd) (g : mg "plus" = some (.ref f)) : Df K mg "plus" s_plus ["one", "other"] f fd := by
  obtain ⟨kV, doc, pm, an, cdv, ct, rfl, F⟩ := fun_of F
  have ⟨p0, p1, ea⟩ : ∃ p0 p1 : Pos, defArgs s_plus = plainA [{ arg := "one", annotation := none, pos := p0 }, { arg := "other", annotation := none, pos := p1 }] := ⟨_, _, rfl⟩
  exact ⟨F, g, by rw [ea]; exact bp_1, fun _ s us hl => .of_eq (match us, hl with | [_, _], _ => rfl), fun _ s us hl => .of_eq (match us, hl with | [_, _], _ => rfl)⟩
theorem df_minus {K : PySem.W.Frag} {mg : Str → Option Value} {f : Addr} {fd : FuncData} (F : FunD K "minus" "minus" (defArgs s_minus) (defBody s_minus) (defScope s_minus) [] [] f fd) (g : mg "minus" = some (.ref f)) : Df K mg "minus" s_minus ["one", "other"] f fd := by
  obtain ⟨kV, doc, pm, an, cdv, ct, rfl, F⟩ := fun_of F
  have ⟨p0, p1, ea⟩ : ∃ p0 p1 : Pos, defArgs s_minus = plainA [{ arg := "one", annotation := none, pos := p0 }, { arg := "other", annotation := none, pos := p1 }] := ⟨_, _, rfl⟩
  exact ⟨F, g, by rw [ea]; exact bp_1, fun _ s us hl => .of_eq (match us, hl with | [_, _], _ => rfl), fun _ s us hl => .of_eq (match us, hl with | [_, _], _ => rfl)⟩
theorem df_times {K : PySem.W.Frag} {mg : Str → Option Value} {f : Addr} {fd : FuncData} (F : FunD K "times" "times" (defArgs s_times) (defBody s_times) (defScope s_times) [] [] f fd) (g : mg "times" = some (.ref f)) : Df K mg "times" s_times ["one", "other"] f fd := by
  obtain ⟨kV, doc, pm, an, cdv, ct, rfl, F⟩ := fun_of F
  have ⟨p0, p1, ea⟩ : ∃ p0 p1 : Pos, defArgs s_times = plainA [{ arg := "one", annotation := none, pos := p0 }, { arg := "other", annotation := none, pos := p1 }] := ⟨_, _, rfl⟩
  exact ⟨F, g, by rw [ea]; exact bp_1, fun _ s us hl => .of_eq (match us, hl with | [_, _], _ => rfl), fun _ s us hl => .of_eq (match us, hl with | [_, _], _ => rfl)⟩
theorem df_over {K : PySem.W.Frag} {mg : Str → Option Value} {f : Addr} {fd : FuncData} (F : FunD K "over" "over" (defArgs s_over) (defBody s_over) (defScope s_over) [] [] f fd) (g : mg "over" = some (.ref f)) : Df K mg "over" s_over ["one", "other"] f fd := by
  obtain ⟨kV, doc, pm, an, cdv, ct, rfl, F⟩ := fun_of F
  have ⟨p0, p1, ea⟩ : ∃ p0 p1 : Pos, defArgs s_over = plainA [{ arg := "one", annotation := none, pos := p0 }, { arg := "other", annotation := none, pos := p1 }] := ⟨_, _, rfl⟩
  exact ⟨F, g, by rw [ea]; exact bp_1, fun _ s us hl => .of_eq (match us, hl with | [_, _], _ => rfl), fun _ s us hl => .of_eq (match us, hl with | [_, _], _ => rfl)⟩
theorem bp_3 {x q : Str} {p0 : Pos} {body : List Stmt} {sc : Scope} {kV doc pm : Value} {an : Option Addr} {cdv ct : Value} (s : Shared) (us : List Value) (hl : us.length = 1) : BindsTo s (PySem.W.fnOf x q (plainA [{ arg := "ones", annotation := none, pos := p0 }]) body sc .none kV doc pm an cdv ct) ⟨us, []⟩ ((["ones"] : List Str).zip us) := .of_eq (match us, hl with | [_], _ => rfl)
theorem df_together {K : PySem.W.Frag} {mg : Str → Option Value} {f : Addr} {fd : FuncData} (F : FunD K "together" "together" (defArgs s_together) (defBody s_together) (defScope s_together) [] [] f fd) (g : mg "together" = some (.ref f)) : Df K mg "together" s_together ["ones"] f fd := by
  obtain ⟨kV, doc, pm, an, cdv, ct, rfl, F⟩ := fun_of F
  have ⟨p0, ea⟩ : ∃ p0 : Pos, defArgs s_together = plainA [{ arg := "ones", annotation := none, pos := p0 }] := ⟨_, rfl⟩
  exact ⟨F, g, by rw [ea]; exact bp_3, no_kw (by decide +kernel), no_kw (by decide +kernel)⟩
theorem df_is_less {K : PySem.W.Frag} {mg : Str → Option Value} {f : Addr} {fd : FuncData} (F : FunD K "is_less" "is_less" (defArgs s_is_less) (defBody s_is_less) (defScope s_is_less) [] [] f fd) (g : mg "is_less" = some (.ref f)) : Df K mg "is_less" s_is_less ["one", "other"] f fd := by
  obtain ⟨kV, doc, pm, an, cdv, ct, rfl, F⟩ := fun_of F
  have ⟨p0, p1, ea⟩ : ∃ p0 p1 : Pos, defArgs s_is_less = plainA [{ arg := "one", annotation := none, pos := p0 }, { arg := "other", annotation := none, pos := p1 }] := ⟨_, _, rfl⟩
  exact ⟨F, g, by rw [ea]; exact bp_1, fun _ s us hl => .of_eq (match us, hl with | [_, _], _ => rfl), fun _ s us hl => .of_eq (match us, hl with | [_, _], _ => rfl)⟩
theorem bp_4 {x q : Str} {p0 : Pos} {body : List Stmt} {sc : Scope} {kV doc pm : Value} {an : Option Addr} {cdv ct : Value} (s : Shared) (us : List Value) (hl : us.length = 1) : BindsTo s (PySem.W.fnOf x q (plainA [{ arg := "one", annotation := none, pos := p0 }]) body sc .none kV doc pm an cdv ct) ⟨us, []⟩ ((["one"] : List Str).zip us) := .of_eq (match us, hl with | [_], _ => rfl)
theorem df_floor_of {K : PySem.W.Frag} {mg : Str → Option Value} {f : Addr} {fd : FuncData} (F : FunD K "floor_of" "floor_of" (defArgs s_floor_of) (defBody s_floor_of) (defScope s_floor_of) [] [] f fd) (g : mg "floor_of" = some (.ref f)) : Df K mg "floor_of" s_floor_of ["one"] f fd := by
  obtain ⟨kV, doc, pm, an, cdv, ct, rfl, F⟩ := fun_of F
  have ⟨p0, ea⟩ : ∃ p0 : Pos, defArgs s_floor_of = plainA [{ arg := "one", annotation := none, pos := p0 }] := ⟨_, rfl⟩
  exact ⟨F, g, by rw [ea]; exact bp_4, no_kw (by decide +kernel), no_kw (by decide +kernel)⟩
theorem df_is_fraction {K : PySem.W.Frag} {mg : Str → Option Value} {f : Addr} {fd : FuncData} (F : FunD K "is_fraction" "is_fraction" (defArgs s_is_fraction) (defBody s_is_fraction) (defScope s_is_fraction) [] [] f fd) (g : mg "is_fraction" = some (.ref f)) : Df K mg "is_fraction" s_is_fraction ["thing"] f fd := by
  obtain ⟨kV, doc, pm, an, cdv, ct, rfl, F⟩ := fun_of F
  have ⟨p0, ea⟩ : ∃ p0 : Pos, defArgs s_is_fraction = plainA [{ arg := "thing", annotation := none, pos := p0 }] := ⟨_, rfl⟩
  exact ⟨F, g, by rw [ea]; exact bp_0, fun _ s us hl => .of_eq (match us, hl with | [_], _ => rfl), fun _ s us hl => .of_eq (match us, hl with | [_], _ => rfl)⟩
theorem df_is_above_0 {K : PySem.W.Frag} {mg : Str → Option Value} {f : Addr} {fd : FuncData} (F : FunD K "is_above_0" "is_above_0" (defArgs s_is_above_0) (defBody s_is_above_0) (defScope s_is_above_0) [] [] f fd) (g : mg "is_above_0" = some (.ref f)) : Df K mg "is_above_0" s_is_above_0 ["thing"] f fd := by
  obtain ⟨kV, doc, pm, an, cdv, ct, rfl, F⟩ := fun_of F
  have ⟨p0, ea⟩ : ∃ p0 : Pos, defArgs s_is_above_0 = plainA [{ arg := "thing", annotation := none, pos := p0 }] := ⟨_, rfl⟩
  exact ⟨F, g, by rw [ea]; exact bp_0, no_kw (by decide +kernel), no_kw (by decide +kernel)⟩
theorem df_are_weights {K : PySem.W.Frag} {mg : Str → Option Value} {f : Addr} {fd : FuncData} (F : FunD K "are_weights" "are_weights" (defArgs s_are_weights) (defBody s_are_weights) (defScope s_are_weights) [] [] f fd) (g : mg "are_weights" = some (.ref f)) : Df K mg "are_weights" s_are_weights ["thing"] f fd := by
  obtain ⟨kV, doc, pm, an, cdv, ct, rfl, F⟩ := fun_of F
  have ⟨p0, ea⟩ : ∃ p0 : Pos, defArgs s_are_weights = plainA [{ arg := "thing", annotation := none, pos := p0 }] := ⟨_, rfl⟩
  exact ⟨F, g, by rw [ea]; exact bp_0, no_kw (by decide +kernel), no_kw (by decide +kernel)⟩
theorem df_above_floor {K : PySem.W.Frag} {mg : Str → Option Value} {f : Addr} {fd : FuncData} (F : FunD K "above_floor" "above_floor" (defArgs s_above_floor) (defBody s_above_floor) (defScope s_above_floor) [] [] f fd) (g : mg "above_floor" = some (.ref f)) : Df K mg "above_floor" s_above_floor ["one"] f fd := by
  obtain ⟨kV, doc, pm, an, cdv, ct, rfl, F⟩ := fun_of F
  have ⟨p0, ea⟩ : ∃ p0 : Pos, defArgs s_above_floor = plainA [{ arg := "one", annotation := none, pos := p0 }] := ⟨_, rfl⟩
  exact ⟨F, g, by rw [ea]; exact bp_4, no_kw (by decide +kernel), no_kw (by decide +kernel)⟩
theorem bp_5 {x q : Str} {p0 p1 : Pos} {body : List Stmt} {sc : Scope} {kV doc pm : Value} {an : Option Addr} {cdv ct : Value} (s : Shared) (us : List Value) (hl : us.length = 2) : BindsTo s (PySem.W.fnOf x q (plainA [{ arg := "weights", annotation := none, pos := p0 }, { arg := "step", annotation := none, pos := p1 }]) body sc .none kV doc pm an cdv ct) ⟨us, []⟩ ((["weights", "step"] : List Str).zip us) := .of_eq (match us, hl with | [_, _], _ => rfl)
theorem df_many_steps {K : PySem.W.Frag} {mg : Str → Option Value} {f : Addr} {fd : FuncData} (F : FunD K "many_steps" "many_steps" (defArgs s_many_steps) (defBody s_many_steps) (defScope s_many_steps) [] [] f fd) (g : mg "many_steps" = some (.ref f)) : Df K mg "many_steps" s_many_steps ["weights", "step"] f fd := by
  obtain ⟨kV, doc, pm, an, cdv, ct, rfl, F⟩ := fun_of F
  have ⟨p0, p1, ea⟩ : ∃ p0 p1 : Pos, defArgs s_many_steps = plainA [{ arg := "weights", annotation := none, pos := p0 }, { arg := "step", annotation := none, pos := p1 }] := ⟨_, _, rfl⟩
  exact ⟨F, g, by rw [ea]; exact bp_5, no_kw (by decide +kernel), no_kw (by decide +kernel)⟩
theorem df_aims {K : PySem.W.Frag} {mg : Str → Option Value} {f : Addr} {fd : FuncData} (F : FunD K "aims" "aims" (defArgs s_aims) (defBody s_aims) (defScope s_aims) [] [] f fd) (g : mg "aims" = some (.ref f)) : Df K mg "aims" s_aims ["weights", "step"] f fd := by
  obtain ⟨kV, doc, pm, an, cdv, ct, rfl, F⟩ := fun_of F
  have ⟨p0, p1, ea⟩ : ∃ p0 p1 : Pos, defArgs s_aims = plainA [{ arg := "weights", annotation := none, pos := p0 }, { arg := "step", annotation := none, pos := p1 }] := ⟨_, _, rfl⟩
  exact ⟨F, g, by rw [ea]; exact bp_5, fun _ s us hl => .of_eq (match us, hl with | [_, _], _ => rfl), fun _ s us hl => .of_eq (match us, hl with | [_, _], _ => rfl)⟩
theorem df_how_many_more {K : PySem.W.Frag} {mg : Str → Option Value} {f : Addr} {fd : FuncData} (F : FunD K "how_many_more" "how_many_more" (defArgs s_how_many_more) (defBody s_how_many_more) (defScope s_how_many_more) [] [] f fd) (g : mg "how_many_more" = some (.ref f)) : Df K mg "how_many_more" s_how_many_more ["weights", "step"] f fd := by
  obtain ⟨kV, doc, pm, an, cdv, ct, rfl, F⟩ := fun_of F
  have ⟨p0, p1, ea⟩ : ∃ p0 p1 : Pos, defArgs s_how_many_more = plainA [{ arg := "weights", annotation := none, pos := p0 }, { arg := "step", annotation := none, pos := p1 }] := ⟨_, _, rfl⟩
  exact ⟨F, g, by rw [ea]; exact bp_5, no_kw (by decide +kernel), no_kw (by decide +kernel)⟩
theorem bp_6 {x q : Str} {p0 p1 p2 : Pos} {body : List Stmt} {sc : Scope} {kV doc pm : Value} {an : Option Addr} {cdv ct : Value} (s : Shared) (us : List Value) (hl : us.length = 3) : BindsTo s (PySem.W.fnOf x q (plainA [{ arg := "aboves", annotation := none, pos := p0 }, { arg := "one", annotation := none, pos := p1 }, { arg := "other", annotation := none, pos := p2 }]) body sc .none kV doc pm an cdv ct) ⟨us, []⟩ ((["aboves", "one", "other"] : List Str).zip us) := .of_eq (match us, hl with | [_, _, _], _ => rfl)
theorem df_is_sooner {K : PySem.W.Frag} {mg : Str → Option Value} {f : Addr} {fd : FuncData} (F : FunD K "is_sooner" "is_sooner" (defArgs s_is_sooner) (defBody s_is_sooner) (defScope s_is_sooner) [] [] f fd) (g : mg "is_sooner" = some (.ref f)) : Df K mg "is_sooner" s_is_sooner ["aboves", "one", "other"] f fd := by
  obtain ⟨kV, doc, pm, an, cdv, ct, rfl, F⟩ := fun_of F
  have ⟨p0, p1, p2, ea⟩ : ∃ p0 p1 p2 : Pos, defArgs s_is_sooner = plainA [{ arg := "aboves", annotation := none, pos := p0 }, { arg := "one", annotation := none, pos := p1 }, { arg := "other", annotation := none, pos := p2 }] := ⟨_, _, _, rfl⟩
  exact ⟨F, g, by rw [ea]; exact bp_6, no_kw (by decide +kernel), no_kw (by decide +kernel)⟩
theorem bp_7 {x q : Str} {p0 p1 : Pos} {body : List Stmt} {sc : Scope} {kV doc pm : Value} {an : Option Addr} {cdv ct : Value} (s : Shared) (us : List Value) (hl : us.length = 2) : BindsTo s (PySem.W.fnOf x q (plainA [{ arg := "aboves", annotation := none, pos := p0 }, { arg := "place", annotation := none, pos := p1 }]) body sc .none kV doc pm an cdv ct) ⟨us, []⟩ ((["aboves", "place"] : List Str).zip us) := .of_eq (match us, hl with | [_, _], _ => rfl)
theorem df_are_sooner {K : PySem.W.Frag} {mg : Str → Option Value} {f : Addr} {fd : FuncData} (F : FunD K "are_sooner" "are_sooner" (defArgs s_are_sooner) (defBody s_are_sooner) (defScope s_are_sooner) [] [] f fd) (g : mg "are_sooner" = some (.ref f)) : Df K mg "are_sooner" s_are_sooner ["aboves", "place"] f fd := by
  obtain ⟨kV, doc, pm, an, cdv, ct, rfl, F⟩ := fun_of F
  have ⟨p0, p1, ea⟩ : ∃ p0 p1 : Pos, defArgs s_are_sooner = plainA [{ arg := "aboves", annotation := none, pos := p0 }, { arg := "place", annotation := none, pos := p1 }] := ⟨_, _, rfl⟩
  exact ⟨F, g, by rw [ea]; exact bp_7, no_kw (by decide +kernel), no_kw (by decide +kernel)⟩
theorem df_nearest {K : PySem.W.Frag} {mg : Str → Option Value} {f : Addr} {fd : FuncData} (F : FunD K "nearest" "nearest" (defArgs s_nearest) (defBody s_nearest) (defScope s_nearest) [] [] f fd) (g : mg "nearest" = some (.ref f)) : Df K mg "nearest" s_nearest ["weights", "step"] f fd := by
  obtain ⟨kV, doc, pm, an, cdv, ct, rfl, F⟩ := fun_of F
  have ⟨p0, p1, ea⟩ : ∃ p0 p1 : Pos, defArgs s_nearest = plainA [{ arg := "weights", annotation := none, pos := p0 }, { arg := "step", annotation := none, pos := p1 }] := ⟨_, _, rfl⟩
  exact ⟨F, g, by rw [ea]; exact bp_5, no_kw (by decide +kernel), no_kw (by decide +kernel)⟩
theorem bp_8 {x q : Str} {p0 p1 p2 : Pos} {body : List Stmt} {sc : Scope} {kV doc pm : Value} {an : Option Addr} {cdv ct : Value} (s : Shared) (us : List Value) (hl : us.length = 3) : BindsTo s (PySem.W.fnOf x q (plainA [{ arg := "weights", annotation := none, pos := p0 }, { arg := "step", annotation := none, pos := p1 }, { arg := "counted", annotation := none, pos := p2 }]) body sc .none kV doc pm an cdv ct) ⟨us, []⟩ ((["weights", "step", "counted"] : List Str).zip us) := .of_eq (match us, hl with | [_, _, _], _ => rfl)
theorem df_worst_of {K : PySem.W.Frag} {mg : Str → Option Value} {f : Addr} {fd : FuncData} (F : FunD K "worst_of" "worst_of" (defArgs s_worst_of) (defBody s_worst_of) (defScope s_worst_of) [] [] f fd) (g : mg "worst_of" = some (.ref f)) : Df K mg "worst_of" s_worst_of ["weights", "step", "counted"] f fd := by
  obtain ⟨kV, doc, pm, an, cdv, ct, rfl, F⟩ := fun_of F
  have ⟨p0, p1, p2, ea⟩ : ∃ p0 p1 p2 : Pos, defArgs s_worst_of = plainA [{ arg := "weights", annotation := none, pos := p0 }, { arg := "step", annotation := none, pos := p1 }, { arg := "counted", annotation := none, pos := p2 }] := ⟨_, _, _, rfl⟩
  exact ⟨F, g, by rw [ea]; exact bp_8, fun _ s us hl => .of_eq (match us, hl with | [_, _, _], _ => rfl), fun _ s us hl => .of_eq (match us, hl with | [_, _, _], _ => rfl)⟩
theorem df_rounded {K : PySem.W.Frag} {mg : Str → Option Value} {f : Addr} {fd : FuncData} (F : FunD K "rounded" "rounded" (defArgs s_rounded) (defBody s_rounded) (defScope s_rounded) [] [] f fd) (g : mg "rounded" = some (.ref f)) : Df K mg "rounded" s_rounded ["weights", "step"] f fd := by
  obtain ⟨kV, doc, pm, an, cdv, ct, rfl, F⟩ := fun_of F
  have ⟨p0, p1, ea⟩ : ∃ p0 p1 : Pos, defArgs s_rounded = plainA [{ arg := "weights", annotation := none, pos := p0 }, { arg := "step", annotation := none, pos := p1 }] := ⟨_, _, rfl⟩
  exact ⟨F, g, by rw [ea]; exact bp_5, fun _ s us hl => .of_eq (match us, hl with | [_, _], _ => rfl), fun _ s us hl => .of_eq (match us, hl with | [_, _], _ => rfl)⟩
theorem bp_9 {x q : Str} {p0 p1 p2 : Pos} {body : List Stmt} {sc : Scope} {kV doc pm : Value} {an : Option Addr} {cdv ct : Value} (s : Shared) (us : List Value) (hl : us.length = 3) : BindsTo s (PySem.W.fnOf x q (plainA [{ arg := "weights", annotation := none, pos := p0 }, { arg := "step", annotation := none, pos := p1 }, { arg := "bound", annotation := none, pos := p2 }]) body sc .none kV doc pm an cdv ct) ⟨us, []⟩ ((["weights", "step", "bound"] : List Str).zip us) := .of_eq (match us, hl with | [_, _, _], _ => rfl)
theorem df_paper {K : PySem.W.Frag} {mg : Str → Option Value} {f : Addr} {fd : FuncData} (F : FunD K "paper" "paper" (defArgs s_paper) (defBody s_paper) (defScope s_paper) [] [] f fd) (g : mg "paper" = some (.ref f)) : Df K mg "paper" s_paper ["weights", "step", "bound"] f fd := by
  obtain ⟨kV, doc, pm, an, cdv, ct, rfl, F⟩ := fun_of F
  have ⟨p0, p1, p2, ea⟩ : ∃ p0 p1 p2 : Pos, defArgs s_paper = plainA [{ arg := "weights", annotation := none, pos := p0 }, { arg := "step", annotation := none, pos := p1 }, { arg := "bound", annotation := none, pos := p2 }] := ⟨_, _, _, rfl⟩
  exact ⟨F, g, by rw [ea]; exact bp_9, fun _ s us hl => .of_eq (match us, hl with | [_, _, _], _ => rfl), fun _ s us hl => .of_eq (match us, hl with | [_, _, _], _ => rfl)⟩
theorem df_are_places {K : PySem.W.Frag} {mg : Str → Option Value} {f : Addr} {fd : FuncData} (F : FunD K "are_places" "are_places" (defArgs s_are_places) (defBody s_are_places) (defScope s_are_places) [] [] f fd) (g : mg "are_places" = some (.ref f)) : Df K mg "are_places" s_are_places ["thing"] f fd := by
  obtain ⟨kV, doc, pm, an, cdv, ct, rfl, F⟩ := fun_of F
  have ⟨p0, ea⟩ : ∃ p0 : Pos, defArgs s_are_places = plainA [{ arg := "thing", annotation := none, pos := p0 }] := ⟨_, rfl⟩
  exact ⟨F, g, by rw [ea]; exact bp_0, no_kw (by decide +kernel), no_kw (by decide +kernel)⟩
theorem df_is_like_a_paper {K : PySem.W.Frag} {mg : Str → Option Value} {f : Addr} {fd : FuncData} (F : FunD K "is_like_a_paper" "is_like_a_paper" (defArgs s_is_like_a_paper) (defBody s_is_like_a_paper) (defScope s_is_like_a_paper) [] [] f fd) (g : mg "is_like_a_paper" = some (.ref f)) : Df K mg "is_like_a_paper" s_is_like_a_paper ["thing"] f fd := by
  obtain ⟨kV, doc, pm, an, cdv, ct, rfl, F⟩ := fun_of F
  have ⟨p0, ea⟩ : ∃ p0 : Pos, defArgs s_is_like_a_paper = plainA [{ arg := "thing", annotation := none, pos := p0 }] := ⟨_, rfl⟩
  exact ⟨F, g, by rw [ea]; exact bp_0, no_kw (by decide +kernel), no_kw (by decide +kernel)⟩
theorem bp_10 {x q : Str} {p0 p1 p2 p3 : Pos} {body : List Stmt} {sc : Scope} {kV doc pm : Value} {an : Option Addr} {cdv ct : Value} (s : Shared) (us : List Value) (hl : us.length = 4) : BindsTo s (PySem.W.fnOf x q (plainA [{ arg := "weights", annotation := none, pos := p0 }, { arg := "step", annotation := none, pos := p1 }, { arg := "bound", annotation := none, pos := p2 }, { arg := "thing", annotation := none, pos := p3 }]) body sc .none kV doc pm an cdv ct) ⟨us, []⟩ ((["weights", "step", "bound", "thing"] : List Str).zip us) := .of_eq (match us, hl with | [_, _, _, _], _ => rfl)
theorem df_shows {K : PySem.W.Frag} {mg : Str → Option Value} {f : Addr} {fd : FuncData} (F : FunD K "shows" "shows" (defArgs s_shows) (defBody s_shows) (defScope s_shows) [] [] f fd) (g : mg "shows" = some (.ref f)) : Df K mg "shows" s_shows ["weights", "step", "bound", "thing"] f fd := by
  obtain ⟨kV, doc, pm, an, cdv, ct, rfl, F⟩ := fun_of F
  have ⟨p0, p1, p2, p3, ea⟩ : ∃ p0 p1 p2 p3 : Pos, defArgs s_shows = plainA [{ arg := "weights", annotation := none, pos := p0 }, { arg := "step", annotation := none, pos := p1 }, { arg := "bound", annotation := none, pos := p2 }, { arg := "thing", annotation := none, pos := p3 }] := ⟨_, _, _, _, rfl⟩
  exact ⟨F, g, by rw [ea]; exact bp_10, fun _ s us hl => .of_eq (match us, hl with | [_, _, _, _], _ => rfl), fun _ s us hl => .of_eq (match us, hl with | [_, _, _, _], _ => rfl)⟩
theorem bp_11 {x q : Str} {p0 p1 : Pos} {body : List Stmt} {sc : Scope} {kV doc pm : Value} {an : Option Addr} {cdv ct : Value} (s : Shared) (us : List Value) (hl : us.length = 2) : BindsTo s (PySem.W.fnOf x q (plainA [{ arg := "_law_script", annotation := none, pos := p0 }, { arg := "_law_k", annotation := none, pos := p1 }]) body sc .none kV doc pm an cdv ct) ⟨us, []⟩ ((["_law_script", "_law_k"] : List Str).zip us) := .of_eq (match us, hl with | [_, _], _ => rfl)
theorem df__law_cell {K : PySem.W.Frag} {mg : Str → Option Value} {f : Addr} {fd : FuncData} (F : FunD K "_law_cell" "_law_cell" (defArgs s__law_cell) (defBody s__law_cell) (defScope s__law_cell) [] [] f fd) (g : mg "_law_cell" = some (.ref f)) : Df K mg "_law_cell" s__law_cell ["_law_script", "_law_k"] f fd := by
  obtain ⟨kV, doc, pm, an, cdv, ct, rfl, F⟩ := fun_of F
  have ⟨p0, p1, ea⟩ : ∃ p0 p1 : Pos, defArgs s__law_cell = plainA [{ arg := "_law_script", annotation := none, pos := p0 }, { arg := "_law_k", annotation := none, pos := p1 }] := ⟨_, _, rfl⟩
  exact ⟨F, g, by rw [ea]; exact bp_11, no_kw (by decide +kernel), no_kw (by decide +kernel)⟩
theorem bp_12 {x q : Str} {p0 : Pos} {body : List Stmt} {sc : Scope} {kV doc pm : Value} {an : Option Addr} {cdv ct : Value} (s : Shared) (us : List Value) (hl : us.length = 1) : BindsTo s (PySem.W.fnOf x q (plainA [{ arg := "_law_cell_here", annotation := none, pos := p0 }]) body sc .none kV doc pm an cdv ct) ⟨us, []⟩ ((["_law_cell_here"] : List Str).zip us) := .of_eq (match us, hl with | [_], _ => rfl)
theorem df__law_pot {K : PySem.W.Frag} {mg : Str → Option Value} {f : Addr} {fd : FuncData} (F : FunD K "_law_pot" "_law_pot" (defArgs s__law_pot) (defBody s__law_pot) (defScope s__law_pot) [] [] f fd) (g : mg "_law_pot" = some (.ref f)) : Df K mg "_law_pot" s__law_pot ["_law_cell_here"] f fd := by
  obtain ⟨kV, doc, pm, an, cdv, ct, rfl, F⟩ := fun_of F
  have ⟨p0, ea⟩ : ∃ p0 : Pos, defArgs s__law_pot = plainA [{ arg := "_law_cell_here", annotation := none, pos := p0 }] := ⟨_, rfl⟩
  exact ⟨F, g, by rw [ea]; exact bp_12, no_kw (by decide +kernel), no_kw (by decide +kernel)⟩
theorem bp_13 {x q : Str} {p0 p1 : Pos} {body : List Stmt} {sc : Scope} {kV doc pm : Value} {an : Option Addr} {cdv ct : Value} (s : Shared) (us : List Value) (hl : us.length = 2) : BindsTo s (PySem.W.fnOf x q (plainA [{ arg := "_law_pot_here", annotation := none, pos := p0 }, { arg := "_law_many", annotation := none, pos := p1 }]) body sc .none kV doc pm an cdv ct) ⟨us, []⟩ ((["_law_pot_here", "_law_many"] : List Str).zip us) := .of_eq (match us, hl with | [_, _], _ => rfl)
theorem df__law_draw {K : PySem.W.Frag} {mg : Str → Option Value} {f : Addr} {fd : FuncData} (F : FunD K "_law_draw" "_law_draw" (defArgs s__law_draw) (defBody s__law_draw) (defScope s__law_draw) [] [] f fd) (g : mg "_law_draw" = some (.ref f)) : Df K mg "_law_draw" s__law_draw ["_law_pot_here", "_law_many"] f fd := by
  obtain ⟨kV, doc, pm, an, cdv, ct, rfl, F⟩ := fun_of F
  have ⟨p0, p1, ea⟩ : ∃ p0 p1 : Pos, defArgs s__law_draw = plainA [{ arg := "_law_pot_here", annotation := none, pos := p0 }, { arg := "_law_many", annotation := none, pos := p1 }] := ⟨_, _, rfl⟩
  exact ⟨F, g, by rw [ea]; exact bp_13, no_kw (by decide +kernel), no_kw (by decide +kernel)⟩
theorem bp_14 {x q : Str} {p0 p1 : Pos} {body : List Stmt} {sc : Scope} {kV doc pm : Value} {an : Option Addr} {cdv ct : Value} (s : Shared) (us : List Value) (hl : us.length = 2) : BindsTo s (PySem.W.fnOf x q (plainA [{ arg := "_law_top", annotation := none, pos := p0 }, { arg := "_law_bottom", annotation := none, pos := p1 }]) body sc .none kV doc pm an cdv ct) ⟨us, []⟩ ((["_law_top", "_law_bottom"] : List Str).zip us) := .of_eq (match us, hl with | [_, _], _ => rfl)
theorem df__law_low {K : PySem.W.Frag} {mg : Str → Option Value} {f : Addr} {fd : FuncData} (F : FunD K "_law_low" "_law_low" (defArgs s__law_low) (defBody s__law_low) (defScope s__law_low) [] [] f fd) (g : mg "_law_low" = some (.ref f)) : Df K mg "_law_low" s__law_low ["_law_top", "_law_bottom"] f fd := by
  obtain ⟨kV, doc, pm, an, cdv, ct, rfl, F⟩ := fun_of F
  have ⟨p0, p1, ea⟩ : ∃ p0 p1 : Pos, defArgs s__law_low = plainA [{ arg := "_law_top", annotation := none, pos := p0 }, { arg := "_law_bottom", annotation := none, pos := p1 }] := ⟨_, _, rfl⟩
  exact ⟨F, g, by rw [ea]; exact bp_14, no_kw (by decide +kernel), no_kw (by decide +kernel)⟩
theorem bp_15 {x q : Str} {p0 p1 : Pos} {body : List Stmt} {sc : Scope} {kV doc pm : Value} {an : Option Addr} {cdv ct : Value} (s : Shared) (us : List Value) (hl : us.length = 2) : BindsTo s (PySem.W.fnOf x q (plainA [{ arg := "_law_one", annotation := none, pos := p0 }, { arg := "_law_other", annotation := none, pos := p1 }]) body sc .none kV doc pm an cdv ct) ⟨us, []⟩ ((["_law_one", "_law_other"] : List Str).zip us) := .of_eq (match us, hl with | [_, _], _ => rfl)
theorem df__law_sum {K : PySem.W.Frag} {mg : Str → Option Value} {f : Addr} {fd : FuncData} (F : FunD K "_law_sum" "_law_sum" (defArgs s__law_sum) (defBody s__law_sum) (defScope s__law_sum) [] [] f fd) (g : mg "_law_sum" = some (.ref f)) : Df K mg "_law_sum" s__law_sum ["_law_one", "_law_other"] f fd := by
  obtain ⟨kV, doc, pm, an, cdv, ct, rfl, F⟩ := fun_of F
  have ⟨p0, p1, ea⟩ : ∃ p0 p1 : Pos, defArgs s__law_sum = plainA [{ arg := "_law_one", annotation := none, pos := p0 }, { arg := "_law_other", annotation := none, pos := p1 }] := ⟨_, _, rfl⟩
  exact ⟨F, g, by rw [ea]; exact bp_15, no_kw (by decide +kernel), no_kw (by decide +kernel)⟩
theorem bp_16 {x q : Str} {p0 : Pos} {body : List Stmt} {sc : Scope} {kV doc pm : Value} {an : Option Addr} {cdv ct : Value} (s : Shared) (us : List Value) (hl : us.length = 1) : BindsTo s (PySem.W.fnOf x q (plainA [{ arg := "_law_some_here", annotation := none, pos := p0 }]) body sc .none kV doc pm an cdv ct) ⟨us, []⟩ ((["_law_some_here"] : List Str).zip us) := .of_eq (match us, hl with | [_], _ => rfl)
theorem df__law_total {K : PySem.W.Frag} {mg : Str → Option Value} {f : Addr} {fd : FuncData} (F : FunD K "_law_total" "_law_total" (defArgs s__law_total) (defBody s__law_total) (defScope s__law_total) [] [] f fd) (g : mg "_law_total" = some (.ref f)) : Df K mg "_law_total" s__law_total ["_law_some_here"] f fd := by
  obtain ⟨kV, doc, pm, an, cdv, ct, rfl, F⟩ := fun_of F
  have ⟨p0, ea⟩ : ∃ p0 : Pos, defArgs s__law_total = plainA [{ arg := "_law_some_here", annotation := none, pos := p0 }] := ⟨_, rfl⟩
  exact ⟨F, g, by rw [ea]; exact bp_16, no_kw (by decide +kernel), no_kw (by decide +kernel)⟩
theorem bp_17 {x q : Str} {p0 : Pos} {body : List Stmt} {sc : Scope} {kV doc pm : Value} {an : Option Addr} {cdv ct : Value} (s : Shared) (us : List Value) (hl : us.length = 1) : BindsTo s (PySem.W.fnOf x q (plainA [{ arg := "_law_pot_here", annotation := none, pos := p0 }]) body sc .none kV doc pm an cdv ct) ⟨us, []⟩ ((["_law_pot_here"] : List Str).zip us) := .of_eq (match us, hl with | [_], _ => rfl)
theorem df__law_some {K : PySem.W.Frag} {mg : Str → Option Value} {f : Addr} {fd : FuncData} (F : FunD K "_law_some" "_law_some" (defArgs s__law_some) (defBody s__law_some) (defScope s__law_some) [] [] f fd) (g : mg "_law_some" = some (.ref f)) : Df K mg "_law_some" s__law_some ["_law_pot_here"] f fd := by
  obtain ⟨kV, doc, pm, an, cdv, ct, rfl, F⟩ := fun_of F
  have ⟨p0, ea⟩ : ∃ p0 : Pos, defArgs s__law_some = plainA [{ arg := "_law_pot_here", annotation := none, pos := p0 }] := ⟨_, rfl⟩
  exact ⟨F, g, by rw [ea]; exact bp_17, no_kw (by decide +kernel), no_kw (by decide +kernel)⟩
theorem df__law_odd_weight {K : PySem.W.Frag} {mg : Str → Option Value} {f : Addr} {fd : FuncData} (F : FunD K "_law_odd_weight" "_law_odd_weight" (defArgs s__law_odd_weight) (defBody s__law_odd_weight) (defScope s__law_odd_weight) [] [] f fd) (g : mg "_law_odd_weight" = some (.ref f)) : Df K mg "_law_odd_weight" s__law_odd_weight ["_law_pot_here"] f fd := by
  obtain ⟨kV, doc, pm, an, cdv, ct, rfl, F⟩ := fun_of F
  have ⟨p0, ea⟩ : ∃ p0 : Pos, defArgs s__law_odd_weight = plainA [{ arg := "_law_pot_here", annotation := none, pos := p0 }] := ⟨_, rfl⟩
  exact ⟨F, g, by rw [ea]; exact bp_17, no_kw (by decide +kernel), no_kw (by decide +kernel)⟩
theorem bp_18 {x q : Str} {p0 p1 : Pos} {body : List Stmt} {sc : Scope} {kV doc pm : Value} {an : Option Addr} {cdv ct : Value} (s : Shared) (us : List Value) (hl : us.length = 2) : BindsTo s (PySem.W.fnOf x q (plainA [{ arg := "_law_pot_here", annotation := none, pos := p0 }, { arg := "_law_weights", annotation := none, pos := p1 }]) body sc .none kV doc pm an cdv ct) ⟨us, []⟩ ((["_law_pot_here", "_law_weights"] : List Str).zip us) := .of_eq (match us, hl with | [_, _], _ => rfl)
theorem df__law_odd_weights {K : PySem.W.Frag} {mg : Str → Option Value} {f : Addr} {fd : FuncData} (F : FunD K "_law_odd_weights" "_law_odd_weights" (defArgs s__law_odd_weights) (defBody s__law_odd_weights) (defScope s__law_odd_weights) [] [] f fd) (g : mg "_law_odd_weights" = some (.ref f)) : Df K mg "_law_odd_weights" s__law_odd_weights ["_law_pot_here", "_law_weights"] f fd := by
  obtain ⟨kV, doc, pm, an, cdv, ct, rfl, F⟩ := fun_of F
  have ⟨p0, p1, ea⟩ : ∃ p0 p1 : Pos, defArgs s__law_odd_weights = plainA [{ arg := "_law_pot_here", annotation := none, pos := p0 }, { arg := "_law_weights", annotation := none, pos := p1 }] := ⟨_, _, rfl⟩
  exact ⟨F, g, by rw [ea]; exact bp_18, no_kw (by decide +kernel), no_kw (by decide +kernel)⟩
theorem bp_19 {x q : Str} {p0 : Pos} {body : List Stmt} {sc : Scope} {kV doc pm : Value} {an : Option Addr} {cdv ct : Value} (s : Shared) (us : List Value) (hl : us.length = 1) : BindsTo s (PySem.W.fnOf x q (plainA [{ arg := "_law_thing", annotation := none, pos := p0 }]) body sc .none kV doc pm an cdv ct) ⟨us, []⟩ ((["_law_thing"] : List Str).zip us) := .of_eq (match us, hl with | [_], _ => rfl)
theorem df__law_is_whole {K : PySem.W.Frag} {mg : Str → Option Value} {f : Addr} {fd : FuncData} (F : FunD K "_law_is_whole" "_law_is_whole" (defArgs s__law_is_whole) (defBody s__law_is_whole) (defScope s__law_is_whole) [] [] f fd) (g : mg "_law_is_whole" = some (.ref f)) : Df K mg "_law_is_whole" s__law_is_whole ["_law_thing"] f fd := by
  obtain ⟨kV, doc, pm, an, cdv, ct, rfl, F⟩ := fun_of F
  have ⟨p0, ea⟩ : ∃ p0 : Pos, defArgs s__law_is_whole = plainA [{ arg := "_law_thing", annotation := none, pos := p0 }] := ⟨_, rfl⟩
  exact ⟨F, g, by rw [ea]; exact bp_19, no_kw (by decide +kernel), no_kw (by decide +kernel)⟩
theorem df__law_is_weight {K : PySem.W.Frag} {mg : Str → Option Value} {f : Addr} {fd : FuncData} (F : FunD K "_law_is_weight" "_law_is_weight" (defArgs s__law_is_weight) (defBody s__law_is_weight) (defScope s__law_is_weight) [] [] f fd) (g : mg "_law_is_weight" = some (.ref f)) : Df K mg "_law_is_weight" s__law_is_weight ["_law_thing"] f fd := by
  obtain ⟨kV, doc, pm, an, cdv, ct, rfl, F⟩ := fun_of F
  have ⟨p0, ea⟩ : ∃ p0 : Pos, defArgs s__law_is_weight = plainA [{ arg := "_law_thing", annotation := none, pos := p0 }] := ⟨_, rfl⟩
  exact ⟨F, g, by rw [ea]; exact bp_19, no_kw (by decide +kernel), no_kw (by decide +kernel)⟩
theorem bp_20 {x q : Str} {p0 p1 : Pos} {body : List Stmt} {sc : Scope} {kV doc pm : Value} {an : Option Addr} {cdv ct : Value} (s : Shared) (us : List Value) (hl : us.length = 2) : BindsTo s (PySem.W.fnOf x q (plainA [{ arg := "_law_weights", annotation := none, pos := p0 }, { arg := "_law_step", annotation := none, pos := p1 }]) body sc .none kV doc pm an cdv ct) ⟨us, []⟩ ((["_law_weights", "_law_step"] : List Str).zip us) := .of_eq (match us, hl with | [_, _], _ => rfl)
theorem df__law_due {K : PySem.W.Frag} {mg : Str → Option Value} {f : Addr} {fd : FuncData} (F : FunD K "_law_due" "_law_due" (defArgs s__law_due) (defBody s__law_due) (defScope s__law_due) [] [] f fd) (g : mg "_law_due" = some (.ref f)) : Df K mg "_law_due" s__law_due ["_law_weights", "_law_step"] f fd := by
  obtain ⟨kV, doc, pm, an, cdv, ct, rfl, F⟩ := fun_of F
  have ⟨p0, p1, ea⟩ : ∃ p0 p1 : Pos, defArgs s__law_due = plainA [{ arg := "_law_weights", annotation := none, pos := p0 }, { arg := "_law_step", annotation := none, pos := p1 }] := ⟨_, _, rfl⟩
  exact ⟨F, g, by rw [ea]; exact bp_20, no_kw (by decide +kernel), no_kw (by decide +kernel)⟩
theorem bp_21 {x q : Str} {p0 p1 p2 : Pos} {body : List Stmt} {sc : Scope} {kV doc pm : Value} {an : Option Addr} {cdv ct : Value} (s : Shared) (us : List Value) (hl : us.length = 3) : BindsTo s (PySem.W.fnOf x q (plainA [{ arg := "_law_way", annotation := none, pos := p0 }, { arg := "_law_weights", annotation := none, pos := p1 }, { arg := "_law_step", annotation := none, pos := p2 }]) body sc .none kV doc pm an cdv ct) ⟨us, []⟩ ((["_law_way", "_law_weights", "_law_step"] : List Str).zip us) := .of_eq (match us, hl with | [_, _, _], _ => rfl)
theorem df__law_told {K : PySem.W.Frag} {mg : Str → Option Value} {f : Addr} {fd : FuncData} (F : FunD K "_law_told" "_law_told" (defArgs s__law_told) (defBody s__law_told) (defScope s__law_told) [] [] f fd) (g : mg "_law_told" = some (.ref f)) : Df K mg "_law_told" s__law_told ["_law_way", "_law_weights", "_law_step"] f fd := by
  obtain ⟨kV, doc, pm, an, cdv, ct, rfl, F⟩ := fun_of F
  have ⟨p0, p1, p2, ea⟩ : ∃ p0 p1 p2 : Pos, defArgs s__law_told = plainA [{ arg := "_law_way", annotation := none, pos := p0 }, { arg := "_law_weights", annotation := none, pos := p1 }, { arg := "_law_step", annotation := none, pos := p2 }] := ⟨_, _, _, rfl⟩
  exact ⟨F, g, by rw [ea]; exact bp_21, no_kw (by decide +kernel), no_kw (by decide +kernel)⟩
theorem bp_22 {x q : Str} {p0 : Pos} {body : List Stmt} {sc : Scope} {kV doc pm : Value} {an : Option Addr} {cdv ct : Value} (s : Shared) (us : List Value) (hl : us.length = 1) : BindsTo s (PySem.W.fnOf x q (plainA [{ arg := "_law_script", annotation := none, pos := p0 }]) body sc .none kV doc pm an cdv ct) ⟨us, []⟩ ((["_law_script"] : List Str).zip us) := .of_eq (match us, hl with | [_], _ => rfl)
theorem df_law {K : PySem.W.Frag} {mg : Str → Option Value} {f : Addr} {fd : FuncData} (F : FunD K "law" "law" (defArgs s_law) (defBody s_law) (defScope s_law) [] [] f fd) (g : mg "law" = some (.ref f)) : Df K mg "law" s_law ["_law_script"] f fd := by
  obtain ⟨kV, doc, pm, an, cdv, ct, rfl, F⟩ := fun_of F
  have ⟨p0, ea⟩ : ∃ p0 : Pos, defArgs s_law = plainA [{ arg := "_law_script", annotation := none, pos := p0 }] := ⟨_, rfl⟩
  exact ⟨F, g, by rw [ea]; exact bp_22, no_kw (by decide +kernel), no_kw (by decide +kernel)⟩

theorem all_mk {l : PySem.W.OpenLaw} {w : World} {K : PySem.W.Frag} {h : Heap} {mg : Str → Option Value} {fa : Addr} (X : K.In h) (G : h.Ns mainGlobals mg) (hfa : mg "law" = some (.ref fa)) (c : SaysY hdFa hdFn K) (hfile : l.prog.main.file = FILE) (htop : (l.prog.main.scope.names.lookup ("super" : Str)).isSome = false) :
    ∃ fd : FuncData, (∀ (s : Shared) (v : Value), BindsTo s fd ⟨[v], []⟩ [("_law_script", v)]) ∧ ∀ base : Heap, K.In base → base.Ns mainGlobals mg → FnG l.prog w K mg base CX0 13 fa fd ["_law_script"] (sp_law K) := by
  have M : Blt mg := ⟨He.free_ok X G (c.fact 52), He.free_ok X G (c.fact 53), He.free_ok X G (c.fact 54), He.free_ok X G (c.fact 55), He.free_ok X G (c.fact 56), He.free_ok X G (c.fact 57), He.free_ok X G (c.fact 58), He.free_ok X G (c.fact 19), He.free_ok X G (c.fact 59), He.free_ok X G (c.fact 60)⟩
  obtain ⟨xC, kC, bC, tC⟩ := He.exc_ok (c.fact 61)
  have T : ExT K mg "NoFraction" (He.ga K "NoFraction") := ⟨He.glo_ok X G (c.fact 31), xC, kC, bC, tC, He.exm_ok (c.fact 62)⟩
  obtain ⟨t_MOST_WEIGHTS, g_MOST_WEIGHTS⟩ := He.int_ok X G (c.fact 63)
  obtain ⟨fd0, FD0⟩ := c.def_ 0
  have D0 := df_is_whole FD0 (He.glo_ok X G (c.fact 64))
  obtain ⟨fd1, FD1⟩ := c.def_ 1
  have D1 := df_common FD1 (He.glo_ok X G (c.fact 65))
  obtain ⟨fd2, FD2⟩ := c.def_ 2
  have D2 := df_fraction FD2 (He.glo_ok X G (c.fact 66))
  obtain ⟨fd3, FD3⟩ := c.def_ 3
  have D3 := df_plus FD3 (He.glo_ok X G (c.fact 67))
  obtain ⟨fd4, FD4⟩ := c.def_ 4
  have D4 := df_minus FD4 (He.glo_ok X G (c.fact 68))
  obtain ⟨fd5, FD5⟩ := c.def_ 5
  have D5 := df_times FD5 (He.glo_ok X G (c.fact 69))
  obtain ⟨fd6, FD6⟩ := c.def_ 6
  have D6 := df_over FD6 (He.glo_ok X G (c.fact 70))
  obtain ⟨fd7, FD7⟩ := c.def_ 7
  have D7 := df_together FD7 (He.glo_ok X G (c.fact 71))
  obtain ⟨fd8, FD8⟩ := c.def_ 8
  have D8 := df_is_less FD8 (He.glo_ok X G (c.fact 72))
  obtain ⟨fd9, FD9⟩ := c.def_ 9
  have D9 := df_floor_of FD9 (He.glo_ok X G (c.fact 73))
  obtain ⟨fd10, FD10⟩ := c.def_ 10
  have D10 := df_is_fraction FD10 (He.glo_ok X G (c.fact 74))
  obtain ⟨fd11, FD11⟩ := c.def_ 11
  have D11 := df_is_above_0 FD11 (He.glo_ok X G (c.fact 75))
  obtain ⟨fd12, FD12⟩ := c.def_ 12
  have D12 := df_are_weights FD12 (He.glo_ok X G (c.fact 76))
  obtain ⟨fd13, FD13⟩ := c.def_ 13
  have D13 := df_above_floor FD13 (He.glo_ok X G (c.fact 77))
  obtain ⟨fd14, FD14⟩ := c.def_ 14
  have D14 := df_many_steps FD14 (He.glo_ok X G (c.fact 78))
  obtain ⟨fd15, FD15⟩ := c.def_ 15
  have D15 := df_aims FD15 (He.glo_ok X G (c.fact 79))
  obtain ⟨fd16, FD16⟩ := c.def_ 16
  have D16 := df_how_many_more FD16 (He.glo_ok X G (c.fact 80))
  obtain ⟨fd17, FD17⟩ := c.def_ 17
  have D17 := df_is_sooner FD17 (He.glo_ok X G (c.fact 81))
  obtain ⟨fd18, FD18⟩ := c.def_ 18
  have D18 := df_are_sooner FD18 (He.glo_ok X G (c.fact 82))
  obtain ⟨fd19, FD19⟩ := c.def_ 19
  have D19 := df_nearest FD19 (He.glo_ok X G (c.fact 83))
  obtain ⟨fd20, FD20⟩ := c.def_ 20
  have D20 := df_worst_of FD20 (He.glo_ok X G (c.fact 84))
  obtain ⟨fd21, FD21⟩ := c.def_ 21
  have D21 := df_rounded FD21 (He.glo_ok X G (c.fact 85))
  obtain ⟨fd22, FD22⟩ := c.def_ 22
  have D22 := df_paper FD22 (He.glo_ok X G (c.fact 86))
  obtain ⟨fd23, FD23⟩ := c.def_ 23
  have D23 := df_are_places FD23 (He.glo_ok X G (c.fact 87))
  obtain ⟨fd24, FD24⟩ := c.def_ 24
  have D24 := df_is_like_a_paper FD24 (He.glo_ok X G (c.fact 88))
  obtain ⟨fd25, FD25⟩ := c.def_ 25
  have D25 := df_shows FD25 (He.glo_ok X G (c.fact 89))
  obtain ⟨fd26, FD26⟩ := c.def_ 26
  have D26 := df__law_cell FD26 (He.glo_ok X G (c.fact 90))
  obtain ⟨fd27, FD27⟩ := c.def_ 27
  have D27 := df__law_pot FD27 (He.glo_ok X G (c.fact 91))
  obtain ⟨fd28, FD28⟩ := c.def_ 28
  have D28 := df__law_draw FD28 (He.glo_ok X G (c.fact 92))
  obtain ⟨fd29, FD29⟩ := c.def_ 29
  have D29 := df__law_low FD29 (He.glo_ok X G (c.fact 93))
  obtain ⟨fd30, FD30⟩ := c.def_ 30
  have D30 := df__law_sum FD30 (He.glo_ok X G (c.fact 94))
  obtain ⟨fd31, FD31⟩ := c.def_ 31
  have D31 := df__law_total FD31 (He.glo_ok X G (c.fact 95))
  obtain ⟨fd32, FD32⟩ := c.def_ 32
  have D32 := df__law_some FD32 (He.glo_ok X G (c.fact 96))
  obtain ⟨fd33, FD33⟩ := c.def_ 33
  have D33 := df__law_odd_weight FD33 (He.glo_ok X G (c.fact 97))
  obtain ⟨fd34, FD34⟩ := c.def_ 34
  have D34 := df__law_odd_weights FD34 (He.glo_ok X G (c.fact 98))
  obtain ⟨fd35, FD35⟩ := c.def_ 35
  have D35 := df__law_is_whole FD35 (He.glo_ok X G (c.fact 99))
  obtain ⟨fd36, FD36⟩ := c.def_ 36
  have D36 := df__law_is_weight FD36 (He.glo_ok X G (c.fact 100))
  obtain ⟨fd37, FD37⟩ := c.def_ 37
  have D37 := df__law_due FD37 (He.glo_ok X G (c.fact 101))
  obtain ⟨fd38, FD38⟩ := c.def_ 38
  have D38 := df__law_told FD38 (He.glo_ok X G (c.fact 102))
  obtain ⟨fd39, FD39⟩ := c.def_ 39
  have D39 := df_law FD39 (He.glo_ok X G (c.fact 103))
  have e := hfa.symm.trans D39.g
  cases e
  refine ⟨_, fun s v => D39.b1 s [v] rfl, fun base _ _ => ?_⟩
  have Mx : Bltx mg := ⟨He.free_ok X G (c.fact 0), He.free_ok X G (c.fact 1), He.free_ok X G (c.fact 2)⟩
  have hn : PySem.W.specialIn K (.builtin "object.__class__") "__get__" = some (some (.builtin "getset_descriptor.__get__")) := of_decide_eq_true (c.fact 3)
  have htk : PySem.W.takesIn K (.builtin "object.__class__") = some true := of_decide_eq_true (c.fact 4)
  have ml := He.free_ok X G (c.fact 5)
  have ms := He.free_ok X G (c.fact 6)
  have Gc0 := He.glo_ok X G (c.fact 7)
  have Tc0 : ∀ H, SqT K H (He.ga K "NONE_OF_IT") [.int 0, .int 1] := fun H => He.tupB_ok (c.fact 8) H
  have Gc1 := He.glo_ok X G (c.fact 9)
  have Tc1 : ∀ H, SqT K H (He.ga K "ALL_OF_IT") [.int 1, .int 1] := fun H => He.tupB_ok (c.fact 10) H
  have msum := He.free_ok X G (c.fact 11)
  have mzi := He.free_ok X G (c.fact 12)
  have many_ := He.free_ok X G (c.fact 13)
  have menu := He.free_ok X G (c.fact 14)
  obtain ⟨x_TT, k_TT, b_TT, t_TT⟩ := He.exc_ok (c.fact 15)
  have TT : ExT K mg "TooLittle" (He.ga K "TooLittle") := ⟨He.glo_ok X G (c.fact 18), x_TT, k_TT, b_TT, t_TT, He.exm_ok (c.fact 16)⟩
  have TTE : ExcC K (He.ga K "TooLittle") := (excB_ok (c.fact 17)).1
  have C1 : Cal l.prog w K mg base CX0 1 "common" ["one", "other"] (spCom) := D1.cal (ok_com D1.fn)
  have C2 : Cal l.prog w K mg base CX0 2 "fraction" ["top", "bottom"] (fun _ _ _ _ => False) := D2.cal FnG.no
  have C4 : Cal l.prog w K mg base CX0 4 "fraction" ["top", "bottom"] (spFrac true) := by
    have P1 : FnG l.prog w K mg base CX0 3 _ _ ["top", "bottom"] (spFrac false) := ok_frac (j := 1) false _ (fun n d H Q hd hs => by
      obtain ⟨n', d', e, _, hp, _⟩ := hs
      cases e
      have := hp rfl
      omega) M T D2.fn C1 C2
    have CR : Cal l.prog w K mg base CX0 3 "fraction" ["top", "bottom"] (spFrac false) := D2.cal P1
    exact D2.cal (ok_frac (j := 2) true _ (fun n d H Q hd hs => by
      obtain ⟨n', d', e, h0, _, h1, h2, q⟩ := hs
      cases e
      refine ⟨-n, -d, rfl, by omega, fun _ => by omega, ?_, ?_, ?_⟩
      · show (-n).natAbs < _
        rw [Int.natAbs_neg]
        exact h1
      · show (-d).natAbs < _
        rw [Int.natAbs_neg]
        exact h2
      · rw [low_neg]
        exact q) M T D2.fn C1 CR)
  have CPl : Cal l.prog w K mg base CX0 5 "plus" ["one", "other"] (sp_plus K) := D3.cal (ok_plus D3.fn C4)
  have CMi : Cal l.prog w K mg base CX0 5 "minus" ["one", "other"] (sp_minus K) := D4.cal (ok_minus D4.fn C4)
  have CTi : Cal l.prog w K mg base CX0 5 "times" ["one", "other"] (sp_times K) := D5.cal (ok_times D5.fn C4)
  have COv : Cal l.prog w K mg base CX0 5 "over" ["one", "other"] (sp_over K) := D6.cal (ok_over D6.fn C4)
  have CL : Cal l.prog w K mg base CX0 1 "is_less" ["one", "other"] (sp_is_less K) := D8.cal (ok_is_less D8.fn)
  have CTg : Cal l.prog w K mg base CX0 6 "together" ["ones"] (sp_togL K) := D7.cal (ok_togL Gc0 Tc0 D7.fn CPl)
  have CW : Cal l.prog w K mg base CX0 1 "is_whole" ["thing"] (sp_whole K) := D0.cal (ok_whole M Mx D0.fn)
  have CF : Cal l.prog w K mg base CX0 2 "is_fraction" ["thing"] (sp_isfr K) := D10.cal (ok_isfr M Mx D10.fn CW C1)
  have CA : Cal l.prog w K mg base CX0 3 "is_above_0" ["thing"] (sp_ab0 K) := D11.cal (ok_ab0 D11.fn CF)
  have CTgT : Cal l.prog w K mg base CX0 6 "together" ["ones"] (sp_togT K) := D7.cal (ok_togT Gc0 Tc0 D7.fn CPl)
  have AL : Cal l.prog w K mg base CX0 4 "are_weights" ["thing"] (sp_arewL K) := D12.cal (ok_arewL M Mx ml g_MOST_WEIGHTS D12.fn CA)
  have AT : Cal l.prog w K mg base CX0 4 "are_weights" ["thing"] (sp_arewT K) := D12.cal (ok_arewT M Mx ml g_MOST_WEIGHTS D12.fn CA)
  have FL : Cal l.prog w K mg base CX0 1 "floor_of" ["one"] (sp_floor K) := D9.cal (ok_floor D9.fn)
  have ML : Cal l.prog w K mg base (L2.CX l.prog w) 7 "many_steps" ["weights", "step"] (sp_manyL K (He.ga K "TooLittle")) := D14.cal (ok_manyL TT D14.fn AL CA CTg COv FL)
  have MT : Cal l.prog w K mg base (L2.CX l.prog w) 7 "many_steps" ["weights", "step"] (sp_manyT K (He.ga K "TooLittle")) := D14.cal (ok_manyT TT D14.fn AT CA CTgT COv FL)
  have IL : Cal l.prog w K mg base (L2.CX l.prog w) 8 "aims" ["weights", "step"] (sp_aimsL K (He.ga K "TooLittle")) := D15.cal (ok_aimsL D15.fn ML CTg COv CTi)
  have IT : Cal l.prog w K mg base (L2.CX l.prog w) 8 "aims" ["weights", "step"] (sp_aimsT K (He.ga K "TooLittle")) := D15.cal (ok_aimsT D15.fn MT CTgT COv CTi)
  have MX : Cal l.prog w K mg base CX0 7 "many_steps" ["weights", "step"] (sp_manyX K) := D14.cal (ok_manyX (ok_manyL TT D14.fn AL CA CTg COv FL) (ok_manyT TT D14.fn AT CA CTgT COv FL))
  have IX : Cal l.prog w K mg base CX0 8 "aims" ["weights", "step"] (sp_aimsX K) := D15.cal (ok_aimsX (ok_aimsL D15.fn ML CTg COv CTi) (ok_aimsT D15.fn MT CTgT COv CTi))
  have TgX : Cal l.prog w K mg base CX0 6 "together" ["ones"] (sp_togX K) := D7.cal (ok_togX (ok_togL Gc0 Tc0 D7.fn CPl) (ok_togT Gc0 Tc0 D7.fn CPl))
  have AB : Cal l.prog w K mg base CX0 6 "above_floor" ["one"] (sp_above K) := D13.cal (ok_above D13.fn FL CMi)
  have MO : Cal l.prog w K mg base CX0 9 "how_many_more" ["weights", "step"] (sp_more K) := D16.cal (ok_more msum D16.fn FL IX MX)
  have SO : Cal l.prog w K mg base CX0 2 "is_sooner" ["aboves", "one", "other"] (sp_sooner K) := D17.cal (ok_sooner D17.fn CL)
  have AS : Cal l.prog w K mg base CX0 3 "are_sooner" ["aboves", "place"] (sp_aresooner K) := D18.cal (ok_aresooner M D18.fn SO)
  have NE : Cal l.prog w K mg base CX0 10 "nearest" ["weights", "step"] (sp_nearest K) := D19.cal (ok_nearest M D19.fn FL AB IX MO AS)
  have WO : Cal l.prog w K mg base CX0 9 "worst_of" ["weights", "step", "counted"] (sp_worst K) := D20.cal (ok_worst M mzi Gc0 Tc0 D20.fn IX CMi CL)
  have RO : Cal l.prog w K mg base CX0 11 "rounded" ["weights", "step"] (sp_rounded K) := D21.cal (ok_rounded D21.fn NE TgX MX CTi CMi WO)
  have PA_ : Cal l.prog w K mg base CX0 9 "paper" ["weights", "step", "bound"] (sp_paper K) := D22.cal (ok_paper M menu Gc1 Tc1 D22.fn AB IX CMi CL)
  have PL : Cal l.prog w K mg base CX0 2 "are_places" ["thing"] (sp_places K) := D23.cal (ok_places M Mx ml D23.fn CW)
  have LI : Cal l.prog w K mg base CX0 3 "is_like_a_paper" ["thing"] (sp_like K) := D24.cal (ok_like M Mx D24.fn PL)
  have SH : Cal l.prog w K mg base CX0 10 "shows" ["weights", "step", "bound", "thing"] (sp_shows K) := D25.cal (ok_shows M many_ D25.fn PA_ LI MO)
  have mint := He.free_ok X G (c.fact 19)
  have gL := He.glo_ok X G (c.fact 20)
  have MV := He.free_ok X G (c.fact 21)
  obtain ⟨x_TW, k_TW, b_TW, t_TW⟩ := He.exc_ok (c.fact 22)
  have TW : ExT K mg "NoWeights" (He.ga K "NoWeights") := ⟨He.glo_ok X G (c.fact 25), x_TW, k_TW, b_TW, t_TW, He.exm_ok (c.fact 23)⟩
  have TWE : ExcC K (He.ga K "NoWeights") := (excB_ok (c.fact 24)).1
  obtain ⟨x_TS, k_TS, b_TS, t_TS⟩ := He.exc_ok (c.fact 26)
  have TS : ExT K mg "NoStep" (He.ga K "NoStep") := ⟨He.glo_ok X G (c.fact 29), x_TS, k_TS, b_TS, t_TS, He.exm_ok (c.fact 27)⟩
  have TSE : ExcC K (He.ga K "NoStep") := (excB_ok (c.fact 28)).1
  have WG : Cal l.prog w K mg base CX0 1 "is_whole" ["thing"] (sp_wholeG K) := D0.cal (ok_wholeG M Mx D0.fn)
  have FG : Cal l.prog w K mg base CX0 2 "is_fraction" ["thing"] (sp_isfrG K) := D10.cal (ok_isfrG M Mx D10.fn WG C1)
  have AQ : Cal l.prog w K mg base CX0 3 "is_above_0" ["thing"] (sp_ab0Q K) := D11.cal (ok_ab0Q D11.fn FG)
  have WQ : Cal l.prog w K mg base CX0 4 "are_weights" ["thing"] (sp_areq K) := D12.cal (ok_areq M Mx ml g_MOST_WEIGHTS D12.fn AQ)
  have MR : Cal l.prog w K mg base (L2N.CX l.prog w) 7 "many_steps" ["weights", "step"] (sp_bad K (He.ga K "NoWeights") (He.ga K "NoStep") (He.ga K "TooLittle") 0) := D14.cal (ok_manyR (ok_manyQ TW TS D14.fn WQ AQ CTg COv FL) (ok_manyLN TT D14.fn AL CA CTg COv FL) (ok_manyTN TT D14.fn AT CA CTgT COv FL))
  have AR : Cal l.prog w K mg base (L2N.CX l.prog w) 8 "aims" ["weights", "step"] (sp_bad K (He.ga K "NoWeights") (He.ga K "NoStep") (He.ga K "TooLittle") 0) := D15.cal (ok_aimsR D15.fn MR TgX COv)
  have NR : Cal l.prog w K mg base (L2N.CX l.prog w) 10 "nearest" ["weights", "step"] (sp_bad K (He.ga K "NoWeights") (He.ga K "NoStep") (He.ga K "TooLittle") 0) := D19.cal (ok_nearestR D19.fn AR)
  have PR : Cal l.prog w K mg base (L2N.CX l.prog w) 9 "paper" ["weights", "step", "bound"] (sp_bad K (He.ga K "NoWeights") (He.ga K "NoStep") (He.ga K "TooLittle") 1) := D22.cal (ok_paperR D22.fn AR AB)
  have EA : Cal l.prog w K mg base (L2N.CX l.prog w) 8 "aims" ["weights", "step"] (sp_or (sp_aimsX K) (sp_bad K (He.ga K "NoWeights") (He.ga K "NoStep") (He.ga K "TooLittle") 0)) := D15.cal ((ok_aimsX (ok_aimsL D15.fn ML CTg COv CTi) (ok_aimsT D15.fn MT CTgT COv CTi)).liftN.or (ok_aimsR D15.fn MR TgX COv))
  have ER : Cal l.prog w K mg base (L2N.CX l.prog w) 11 "rounded" ["weights", "step"] (sp_or (sp_rounded K) (sp_bad K (He.ga K "NoWeights") (He.ga K "NoStep") (He.ga K "TooLittle") 0)) := D21.cal ((ok_rounded D21.fn NE TgX MX CTi CMi WO).liftN.or (ok_roundedR D21.fn NR))
  have EW : Cal l.prog w K mg base (L2N.CX l.prog w) 9 "worst_of" ["weights", "step", "counted"] (sp_bad K (He.ga K "NoWeights") (He.ga K "NoStep") (He.ga K "TooLittle") 1) := D20.cal (ok_worst_ofR M mzi Gc0 D20.fn AR)
  have EP : Cal l.prog w K mg base (L2N.CX l.prog w) 9 "paper" ["weights", "step", "bound"] (sp_or (sp_paper K) (sp_bad K (He.ga K "NoWeights") (He.ga K "NoStep") (He.ga K "TooLittle") 1)) := D22.cal ((ok_paper M menu Gc1 Tc1 D22.fn AB IX CMi CL).liftN.or (ok_paperR D22.fn AR AB))
  have ES : Cal l.prog w K mg base (L2N.CX l.prog w) 10 "shows" ["weights", "step", "bound", "thing"] (sp_or (sp_shows K) (sp_bad K (He.ga K "NoWeights") (He.ga K "NoStep") (He.ga K "TooLittle") 2)) := D25.cal ((ok_shows M many_ D25.fn PA_ LI MO).liftN.or (ok_showsR D25.fn PR))
  let OT : Oths K mg := ⟨(He.ga K "NoCount"), He.glo_ok X G (c.fact 30), (He.ga K "NoFraction"), He.glo_ok X G (c.fact 31), (He.ga K "NoName"), He.glo_ok X G (c.fact 32), (He.ga K "NoWeight"), He.glo_ok X G (c.fact 33)⟩
  have koW : PySem.W.kitAny K (.ref (He.ga K "NoWeights")) [.ref (He.ga K "NoCount"), .ref (He.ga K "NoFraction"), .ref (He.ga K "NoName"), .ref (He.ga K "NoWeight")] = some false := of_decide_eq_true (c.fact 34)
  have kVW : PySem.W.kitOne K (.ref (He.ga K "NoWeights")) (.type "ValueError") = some true := of_decide_eq_true (c.fact 35)
  have elW : PySem.W.exmOne K (.ref (He.ga K "NoWeights")) (.ref (He.ga K "LoafError")) = some true := of_decide_eq_true (c.fact 36)
  have kWW : PySem.W.kitOne K (.ref (He.ga K "NoWeights")) (.ref (He.ga K "NoWeights")) = some true := of_decide_eq_true (c.fact 37)
  have kWS : PySem.W.kitOne K (.ref (He.ga K "NoWeights")) (.ref (He.ga K "NoStep")) = some false := of_decide_eq_true (c.fact 38)
  have kWT : PySem.W.kitOne K (.ref (He.ga K "NoWeights")) (.ref (He.ga K "TooLittle")) = some false := of_decide_eq_true (c.fact 39)
  have FAW : FaD K mg OT (He.ga K "NoWeights") (He.ga K "NoStep") (He.ga K "TooLittle") (He.ga K "LoafError") (He.ga K "NoWeights") true false false := ⟨TWE, kVW, koW, kWW, kWS, kWT, elW⟩
  have koS : PySem.W.kitAny K (.ref (He.ga K "NoStep")) [.ref (He.ga K "NoCount"), .ref (He.ga K "NoFraction"), .ref (He.ga K "NoName"), .ref (He.ga K "NoWeight")] = some false := of_decide_eq_true (c.fact 40)
  have kVS : PySem.W.kitOne K (.ref (He.ga K "NoStep")) (.type "ValueError") = some true := of_decide_eq_true (c.fact 41)
  have elS : PySem.W.exmOne K (.ref (He.ga K "NoStep")) (.ref (He.ga K "LoafError")) = some true := of_decide_eq_true (c.fact 42)
  have kSW : PySem.W.kitOne K (.ref (He.ga K "NoStep")) (.ref (He.ga K "NoWeights")) = some false := of_decide_eq_true (c.fact 43)
  have kSS : PySem.W.kitOne K (.ref (He.ga K "NoStep")) (.ref (He.ga K "NoStep")) = some true := of_decide_eq_true (c.fact 44)
  have kST : PySem.W.kitOne K (.ref (He.ga K "NoStep")) (.ref (He.ga K "TooLittle")) = some false := of_decide_eq_true (c.fact 45)
  have FAS : FaD K mg OT (He.ga K "NoWeights") (He.ga K "NoStep") (He.ga K "TooLittle") (He.ga K "LoafError") (He.ga K "NoStep") false true false := ⟨TSE, kVS, koS, kSW, kSS, kST, elS⟩
  have koT : PySem.W.kitAny K (.ref (He.ga K "TooLittle")) [.ref (He.ga K "NoCount"), .ref (He.ga K "NoFraction"), .ref (He.ga K "NoName"), .ref (He.ga K "NoWeight")] = some false := of_decide_eq_true (c.fact 46)
  have kVT : PySem.W.kitOne K (.ref (He.ga K "TooLittle")) (.type "ValueError") = some true := of_decide_eq_true (c.fact 47)
  have elT : PySem.W.exmOne K (.ref (He.ga K "TooLittle")) (.ref (He.ga K "LoafError")) = some true := of_decide_eq_true (c.fact 48)
  have kTW : PySem.W.kitOne K (.ref (He.ga K "TooLittle")) (.ref (He.ga K "NoWeights")) = some false := of_decide_eq_true (c.fact 49)
  have kTS : PySem.W.kitOne K (.ref (He.ga K "TooLittle")) (.ref (He.ga K "NoStep")) = some false := of_decide_eq_true (c.fact 50)
  have kTT : PySem.W.kitOne K (.ref (He.ga K "TooLittle")) (.ref (He.ga K "TooLittle")) = some true := of_decide_eq_true (c.fact 51)
  have FAT : FaD K mg OT (He.ga K "NoWeights") (He.ga K "NoStep") (He.ga K "TooLittle") (He.ga K "LoafError") (He.ga K "TooLittle") false false true := ⟨TTE, kVT, koT, kTW, kTS, kTT, elT⟩
  have B1 : Cal l.prog w K mg base CX0 1 "_law_cell" ["_law_script", "_law_k"] (sp_cell K) := D26.cal (ok_cell M D26.fn)
  have B2 : Cal l.prog w K mg base CX0 1 "_law_pot" ["_law_cell_here"] (sp_pot) := D27.cal (ok_pot M D27.fn)
  have B3 : Cal l.prog w K mg base CX0 1 "_law_draw" ["_law_pot_here", "_law_many"] (sp_draw) := D28.cal (ok_draw M D28.fn)
  have B4 : Cal l.prog w K mg base CX0 1 "_law_low" ["_law_top", "_law_bottom"] (sp_low) := D29.cal (ok_low M D29.fn)
  have BS : Cal l.prog w K mg base CX0 2 "_law_sum" ["_law_one", "_law_other"] (sp_plus K) := D30.cal (ok_lsum D30.fn B4)
  have BT : Cal l.prog w K mg base CX0 3 "_law_total" ["_law_some_here"] (sp_togL K) := D31.cal (ok_ltotal D31.fn BS)
  have B7 : Cal l.prog w K mg base CX0 2 "_law_some" ["_law_pot_here"] (sp_wsome K) := D32.cal (ok_wsome D32.fn B3 B4)
  have BW : Cal l.prog w K mg base CX0 2 "_law_odd_weight" ["_law_pot_here"] (sp_oddw K) := D33.cal (ok_oddw M D33.fn B3)
  have BWs : Cal l.prog w K mg base CX0 3 "_law_odd_weights" ["_law_pot_here", "_law_weights"] (sp_oddws K) := D34.cal (ok_oddws M D34.fn B3 BW)
  have LW : Cal l.prog w K mg base CX0 1 "_law_is_whole" ["_law_thing"] (sp_wholeG K) := D35.cal (ok_lwholeG M Mx D35.fn)
  have LG : Cal l.prog w K mg base CX0 2 "_law_is_weight" ["_law_thing"] (sp_lisw K) := D36.cal (ok_lisw M Mx D36.fn LW B4)
  have LD : Cal l.prog w K mg base CX0 4 "_law_due" ["_law_weights", "_law_step"] (sp_due K) := D37.cal (ok_due M Mx ml mint D37.fn LG BT)
  have LT : Cal l.prog w K mg base CX0 12 "_law_told" ["_law_way", "_law_weights", "_law_step"] (sp_told K) := D38.cal (ok_told M Mx ml msum MV OT gL TW.g TS.g TT.g FAW FAS FAT D38.fn EA ER EW EP ES)
  exact ok_law M D39.fn B1 B2 B3 B7 BWs BW LD LT
end Lf

set_option Elab.async false
set_option linter.all false
set_option maxRecDepth 100000
set_option maxHeartbeats 0
namespace Lf
open PySem PySem.Spec PyProof.Rows L2
end Lf
open PySem PySem.W PySem.Calls PyProof.Rows
theorem PySem.Challenge.cw_loafshares_k59_scales_refused_holds : PySem.Challenge.rw_loafshares_k59_scales_refused.Holds := by
  w_on; o_law
  refine HandSHeadRun.head_any (r := OpenLaw.row PySem.Challenge.rw_loafshares_k59_scales_refused) (q := view (OpenLaw.row PySem.Challenge.rw_loafshares_k59_scales_refused).prog [54]) (H := Lf.hdK) (ob := Lf.hdOb) (M := 20000) (loose := Lf.hdLoose) (d := HandSHeadRun.topDef (OpenLaw.row PySem.Challenge.rw_loafshares_k59_scales_refused).prog 54) (kwd := []) Lf.hdOb_eq
    (by kernel_rfl) (fun s => by kernel_rfl) Lf.hdRun (by kernel_rfl) (by kernel_rfl) (by kernel_rfl) (by rfl) (by first | assumption | decide +kernel) (by decide +kernel) ⟨rfl, rfl, rfl, rfl, rfl, by decide +kernel⟩ ?hw ?hc
  case hw => w_witness2
  case hc =>
    refine Lf.walkX (l := PySem.Challenge.rw_loafshares_k59_scales_refused) (n := 63) (k := 13) (x := "_law_script") (sp := Lf.sp_law) rfl (by decide) (by kernel_rfl) ⟨rfl, by decide, by decide⟩ ?F (fun K H a ns hl _ hS => ⟨a, ns, rfl, hS, hl, fun _ => rfl⟩)
    intro w mg fa h Y G hmg0
    obtain ⟨K, KX, c⟩ := Y
    have hmg : mg ("law" : PySem.Str) = some (.ref fa) := by
      have e : (HandSHeadRun.topDef (OpenLaw.row PySem.Challenge.rw_loafshares_k59_scales_refused).prog 54).name = ("law" : PySem.Str) := by kernel_rfl
      rw [← e]
      exact hmg0
    obtain ⟨fd, hb, hF⟩ := Lf.all_mk (l := PySem.Challenge.rw_loafshares_k59_scales_refused) (w := w) KX G hmg c (by kernel_rfl) (by kernel_rfl)
    exact ⟨K, KX, fd, hb, hF⟩
