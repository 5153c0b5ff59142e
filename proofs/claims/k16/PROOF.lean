import PyProof.Rows.All
import Wide.All
import OpenK.AllK
import Wide.FinOn
import HandS.ForExc
import HandS.Comp
import HandS.Wide
import KE.KStateDown
import HandS.Ends
import HandS.More
import HandS.Defaults
import HandS.Head0
import HandS.Head1
import HandS.Head2
import HandS.HeadEnd
import HandS.HeadHook1
import HandS.HeadHook2
import KE.KExcSuper
import HandS.Nested
import HandS.ExcInit
import KE.KIsAll
import KE.KExcIs
import KE.KTryMore
import HandS.Base
import HandS.Call
import HandS.Exc
import HandS.ExcIs
import HandS.ExcField
import HandS.ExcOwn
import HandS.FStr
import HandS.CallLocal
import HandS.WideBits
import HandS.Text
import HandS.IsInst
import HandS.Dict
import HandS.Steps
import HandS.Walk
import HandS.Deep
import HandS.Zip
import HandS.MakeKw
import HandS.TryMany
import KE.DataMinMax
import HandS.HotCalls
import HandS.TupSets
import HandS.Strs
import HandS.DeepEq
import PyProof.NeKinds
import PyProof.CallFns
import HandS.OwnEq
import PyProof.Rows.AssignMoreSeq
import HandS.Iter
import PySem.Challenge.RW_loafshares_k16_refusals_told_apart
set_option Elab.async false
set_option linter.all false
set_option maxRecDepth 100000
set_option maxHeartbeats 4000000
/-! Defs that show data by repr: the promise FnG holds where nothing is being shown (no guard stands), as it is behind a law's call. -/
namespace Lf
open PySem PySem.Spec PyProof.Rows L2
/-- a def's promise where no guard stands -/
structure FnG (P : Program) (w : World) (K : PySem.W.Frag) (mg : Str → Option Value) (base : Heap) (CX : CXT) (k : Nat) (f : Addr) (fd : FuncData) (ps : List Str) (sp : Sp) : Prop where
  size : ∀ vs H Q E, sp vs H Q E → vs.length = ps.length
  goes : ∀ (B : Around) (out : List Env) (s : Shared) (H : Hp) (ar : Args) (us : List Value) (vs : List V) (Q : VK) (E : XK),
    Room k B → B.guards = some [] → Env0 P w K mg base B out s H → BindsTo s fd ar (ps.zip us) → Vals vs us → sp vs H Q E →
      codeAny (model P w) B (.call (.ref f) ar) (CR CX out P w H s Q E) s
section
variable {P : Program} {w : World} {K : PySem.W.Frag} {mg : Str → Option Value} {base : Heap} {CX : CXT} {k : Nat} {f : Addr} {fd : FuncData} {ps : List Str} {sp : Sp}
theorem FnG.mono {j : Nat} (F : FnG P w K mg base CX j f fd ps sp) (h : j ≤ k) : FnG P w K mg base CX k f fd ps sp :=
  ⟨F.size, fun B out s H ar us vs Q E r => F.goes B out s H ar us vs Q E (r.mono h)⟩
theorem FnG.of (F : FnOk P w K mg base CX k f fd ps sp) : FnG P w K mg base CX k f fd ps sp :=
  ⟨F.len, fun B out s H ar us vs Q E r _ => F.run B out s H ar us vs Q E r⟩
/-- by its body: behind the entry no guard stands either -/
theorem GfunX {x qual : Str} {st : Stmt} {N : List Str} (F : Fun K x qual st f fd) (S : FnScope N ps (defScope st)) (size : ∀ vs H Q E, sp vs H Q E → vs.length = ps.length)
    (body : ∀ (cdv : Value) (B : Around) (out : List Env) (s : Shared) (H : Hp) (vs : List V) (Q : VK) (E : XK), B.guards = some [] →
      Room k (B.deeper (envOfC qual (defScope st) s.heap.objs.size f cdv)) → sp vs H Q E →
      ∃ t, PSs (cxOf CX P w K mg base N qual (defScope st) f cdv B out s H E) (defBody st) t ∧
        t { nx := fun _ H' => Q .non H', rt := Q } (start N vs) H) : FnG P w K mg base CX (k + 1) f fd ps sp := by
  obtain ⟨oc, od, kV, doc, pm, an, cdv, ct, osl, rfl, lk, hcd⟩ := F.ex
  refine ⟨size, fun B out s H ar us vs Q E hr hg e0 hb r hs => ?_⟩
  have old : ∀ b o, base.get? b = some o → s.heap.get? b = some o := fun b o e => (e0.bs b o e).1
  have kin : K.In s.heap := e0.mod.kin.keeps old
  refine codeAny_call_function hr.depth (kin _ _ lk) rfl S.co S.gen rfl (PySem.W.codeRec_of kin hcd) (hb _ _ _ _ ?_)
  refine wpAny_newFunctionEnv_cells S.kind (fun ⟨n, v⟩ hy => ?_) fun env he s1 x => ?_
  · rcases S.par n (List.of_mem_zip hy).1 with q | q
    · exact Or.inl q
    · exact Or.inr ⟨q, PySem.W.cellsFrom_some _ _ _ (Or.inl q)⟩
  · subst he
    refine ⟨(e0.mod.nolimit.keeps old).keeps x.toInCall.keep, codeAny_func ?_⟩
    obtain ⟨t, ht, hq⟩ := body cdv B out s H vs Q E hg (hr.deeper _) hs
    have I := inv_start (CX := CX) (N := N) (qual := qual) (cd := cdv) (E := E) S hr.hd e0 (size _ _ _ _ hs) r x
    refine wpAny_mono (ht.run [] s1 (start N vs) H _ I hq) (fun fl s' hs' => ?_) fun e s' z => z
    cases fl with
    | ret u =>
      obtain ⟨v, σ', H', J, rv, q⟩ := hs'
      exact ⟨v, H', J.os, J.bare, J.base, J.hok, rv, q⟩
    | next =>
      obtain ⟨σ', H', J, q⟩ := hs'
      exact ⟨V.non, H', J.os, J.bare, J.base, J.hok, rfl, q⟩
    | brk =>
      obtain ⟨_, _, _, q⟩ := hs'
      exact q.elim
    | cont =>
      obtain ⟨_, _, _, q⟩ := hs'
      exact q.elim
theorem Gfun {x qual : Str} {st : Stmt} {N : List Str} (F : Fun K x qual st f fd) (S : FnScope N ps (defScope st)) (size : ∀ vs H Q E, sp vs H Q E → vs.length = ps.length)
    (body : ∀ (cdv : Value) (B : Around) (out : List Env) (s : Shared) (H : Hp) (vs : List V) (Q : VK) (E : XK), B.guards = some [] →
      Room k (B.deeper (envOfC qual (defScope st) s.heap.objs.size f cdv)) → sp vs H Q E →
      ∃ t, PSs (cxOf CX0 P w K mg base N qual (defScope st) f cdv B out s H E).nox (defBody st) t ∧
        t { nx := fun _ H' => Q .non H', rt := Q } (start N vs) H) : FnG P w K mg base CX0 (k + 1) f fd ps sp :=
  GfunX F S size fun cdv B out s H vs Q E hg hr hs => by
    obtain ⟨t, ht, hq⟩ := body cdv B out s H vs Q E hg hr hs
    exact ⟨t, ht.nox, hq⟩
end
/-- the names that are called by their arguments' names -/
def kwNamesA : List Str := ["aims", "book_text", "by_shares", "changed", "cost", "dough_for", "feel", "fraction", "fraction_text", "is_fraction", "is_less", "is_name", "left", "loaves", "measured", "minus", "moves", "opened"]
def kwNamesB : List Str := ["over", "pan_for", "paper", "parting", "plus", "read_book", "rejoined", "rounded", "row_shares", "scaled", "shares", "sheet", "shows", "times", "tree", "weighed", "worst_of"]
def kwNames : List Str := kwNamesA ++ kwNamesB
def kwN (x : Str) : Bool := kwNames.any fun y => y == x
/-- a def of the module's name x that keeps sp, by level k -/
structure Cal (P : Program) (w : World) (K : PySem.W.Frag) (mg : Str → Option Value) (base : Heap) (CX : CXT) (k : Nat) (x : Str) (ps : List Str) (sp : Sp) : Prop where
  ex : ∃ (f : Addr) (fd : FuncData), FnG P w K mg base CX k f fd ps sp ∧ (∀ (s : Shared) (us : List Value), us.length = ps.length → BindsTo s fd ⟨us, []⟩ (ps.zip us)) ∧
    (kwN x = true → ∀ (s : Shared) (us : List Value), us.length = ps.length → BindsTo s fd ⟨[], ps.zip us⟩ (ps.zip us)) ∧
    (kwN x = true → ∀ (s : Shared) (us : List Value), us.length = ps.length → BindsTo s fd ⟨[], ps.reverse.zip us⟩ (ps.zip us.reverse)) ∧ mg x = some (.ref f) ∧ PySem.W.keepIn K (.ref f) = true
theorem paired_rev {α β : Type} {R : α → β → Prop} : ∀ {xs : List α} {ys : List β}, Paired R xs ys → Paired R xs.reverse ys.reverse := by
  have app : ∀ {xs : List α} {ys : List β} {x : α} {y : β}, Paired R xs ys → R x y → Paired R (xs ++ [x]) (ys ++ [y]) := by
    intro xs ys x y h r
    induction h with
    | nil => exact .cons r .nil
    | cons q _ ih => exact .cons q ih
  intro xs ys h
  induction h with
  | nil => exact .nil
  | cons r _ ih =>
    rw [List.reverse_cons, List.reverse_cons]
    exact app ih r
section
variable {X : Cx} {CX : CXT} {k i : Nat} {f : Addr} {fd : FuncData} {ps : List Str} {sp : Sp} {x : Str} {p pos : Pos} {e : Expr} {es : List Expr} {kws : List Keyword} {t : TA}
/-- what is raised is wished for at the caller's slots -/
theorem run_g {pins : List (Addr × Obj)} {σ : L2.St} {H : Hp} {s : Shared} {Q : VK} {us : List Value} {vs : List V} {ar : Args} {E : XK} (F : FnG X.prog X.w X.K X.mg X.base CX k f fd ps sp) (hr : Room k X.A) (hG : X.A.guards = some [])
    (hx : PassesAt CX X σ E) (I : Inv X pins σ H s) (hb : BindsTo s fd ar (ps.zip us)) (r : Vals vs us) (h : sp vs H Q E) : wpAny (model X.prog X.w) X.A (call (.ref f) ar.pos ar.kw) (EP X pins σ Q) X.xe s := by
  refine wpAny_call (codeAny_mono (F.goes X.A X.stack s H ar us vs Q E hr hG I.env0 hb r h) fun z s' hq => ?_)
  cases z with
  | error e => exact hx pins H s e s' I hq
  | ok fl =>
    cases fl with
    | ret u => exact I.after hq
    | next => exact False.elim hq
    | brk => exact False.elim hq
    | cont => exact False.elim hq
/-- f(e, ..); E: what is wished of an exception at the slots -/
def tG (sp : Sp) (E : L2.St → XK) (t : TA) : TE := fun σ H Q => t σ H fun vs H1 => sp vs H1 Q (E σ)
theorem pe_gS {E : L2.St → XK} (C : Cal X.prog X.w X.K X.mg X.base CX k x ps sp) (hr : Room k X.A) (hG : X.A.guards = some []) (hx : ∀ σ, PassesAt CX X σ (E σ)) (ha : PA X (e :: es) t) (hg : Gl X x := by rfl)
    (hdb : (x == ("__debug__" : Str)) = false := by decide) (he : starEach (e :: es) X.env = (false, eval e X.env) :: starEach es X.env := by rfl)
    (hpl : (backTo pos (starEach es X.env)).any (·.1) = false := by rfl) : PE X (.Call (.Name x p) (e :: es) [] pos) (tG sp E t) := by
  obtain ⟨f, fd, F, hb, _, _, hm, hk⟩ := C.ex
  refine ⟨fun pins s σ H Q I h => wpAny_Call_Name_kw (ld_glob I hg hm (PySem.W.callWith_K (h₀ := X.base) I.ok.mod.kin hk
    (thn (ha.run pos pins s σ H _ I h) fun us s1 ⟨vs, H1, I1, r, q⟩ => ⟨I1.kIn, ?_⟩) he hpl) hdb)⟩
  exact run_g (ar := ⟨us, []⟩) F hr hG (hx σ) I1 (hb s1 us (r.length.symm.trans (F.size _ _ _ _ q))) r q
theorem pass_no {σ : L2.St} : PassesAt CX0 X σ E0 := fun _ _ _ _ _ _ z => z.elim
theorem pe_g (C : Cal X.prog X.w X.K X.mg X.base CX0 k x ps sp) (hr : Room k X.A) (hG : X.A.guards = some []) (ha : PA X (e :: es) t) (hg : Gl X x := by rfl)
    (hdb : (x == ("__debug__" : Str)) = false := by decide) (he : starEach (e :: es) X.env = (false, eval e X.env) :: starEach es X.env := by rfl)
    (hpl : (backTo pos (starEach es X.env)).any (·.1) = false := by rfl) : PE X (.Call (.Name x p) (e :: es) [] pos) (tG sp (fun _ => E0) t) :=
  pe_gS C hr hG (fun _ => pass_no) ha hg hdb he hpl
/-- f(a = e, ..): all by names, in the parameters' order -/
theorem pe_gk (C : Cal X.prog X.w X.K X.mg X.base CX0 k x ps sp) (hr : Room k X.A) (hG : X.A.guards = some []) (ha : PK X kws t) (hks : (backToKw pos (keywordEach kws X.env)).filterMap (·.1) = ps := by rfl) (hg : Gl X x := by rfl)
    (hall : (backToKw pos (keywordEach kws X.env)).all (·.1.isSome) = true := by rfl) (hdb : (x == ("__debug__" : Str)) = false := by decide)
    (hpl : ((backTo pos (starEach [] X.env)).any (·.1) || (backToKw pos (keywordEach kws X.env)).any (·.1.isNone)) = false := by rfl) (hkw : kwN x = true := by decide +kernel) : PE X (.Call (.Name x p) [] kws pos) (tG sp (fun _ => E0) t) := by
  obtain ⟨f, fd, F, _, hb, _, hm, hk⟩ := C.ex
  refine ⟨fun pins s σ H Q I h => wpAny_Call_Name_kw (ld_glob I hg hm (PySem.W.callWith_KW0 (h₀ := X.base) I.ok.mod.kin hk hall (thn (ha.run pos pins s σ H _ I h) fun us s1 ⟨vs, H1, I1, r, q⟩ => ⟨I1.kIn, ?_⟩) hpl) hdb)⟩
  rw [hks]
  exact run_g (ar := ⟨[], ps.zip us⟩) F hr hG pass_no I1 (hb hkw s1 us (r.length.symm.trans (F.size _ _ _ _ q))) r q
/-- f(b = e, a = ..): all by names, from the last parameter to the first -/
def tGr (sp : Sp) (t : TA) : TE := fun σ H Q => t σ H fun vs H1 => sp vs.reverse H1 Q E0
theorem pe_gr (C : Cal X.prog X.w X.K X.mg X.base CX0 k x ps sp) (hr : Room k X.A) (hG : X.A.guards = some []) (ha : PK X kws t) (hks : (backToKw pos (keywordEach kws X.env)).filterMap (·.1) = ps.reverse := by rfl) (hg : Gl X x := by rfl)
    (hall : (backToKw pos (keywordEach kws X.env)).all (·.1.isSome) = true := by rfl) (hdb : (x == ("__debug__" : Str)) = false := by decide)
    (hpl : ((backTo pos (starEach [] X.env)).any (·.1) || (backToKw pos (keywordEach kws X.env)).any (·.1.isNone)) = false := by rfl) (hkw : kwN x = true := by decide +kernel) : PE X (.Call (.Name x p) [] kws pos) (tGr sp t) := by
  obtain ⟨f, fd, F, _, _, hb, hm, hk⟩ := C.ex
  refine ⟨fun pins s σ H Q I h => wpAny_Call_Name_kw (ld_glob I hg hm (PySem.W.callWith_KW0 (h₀ := X.base) I.ok.mod.kin hk hall (thn (ha.run pos pins s σ H _ I h) fun us s1 ⟨vs, H1, I1, r, q⟩ => ⟨I1.kIn, ?_⟩) hpl) hdb)⟩
  rw [hks]
  have hl : us.length = ps.length := r.length.symm.trans ((List.length_reverse (as := vs)).symm.trans (F.size _ _ _ _ q))
  exact run_g (ar := ⟨[], ps.reverse.zip us⟩) (us := us.reverse) (vs := vs.reverse) F hr hG pass_no I1 (hb hkw s1 us hl) (paired_rev r) q
/-- d(e, ..) where the i-th slot holds the def of the module's name y -/
def tGl (i : Nat) (mg : Str → Option Value) (y : Str) (sp : Sp) (E : L2.St → XK) (t : TA) : TE := fun σ H Q => ∃ f, mg y = some (.ref f) ∧ σ[i]? = some (some (.ref f)) ∧ t σ H fun vs H1 => sp vs H1 Q (E σ)
theorem pe_gl {E : L2.St → XK} {y : Str} (C : Cal X.prog X.w X.K X.mg X.base CX k y ps sp) (hr : Room k X.A) (hG : X.A.guards = some []) (hx : ∀ σ, PassesAt CX X σ (E σ)) (ha : PA X (e :: es) t) (hN : X.N[i]? = some x := by rfl)
    (hv : Vis X.env.scope x := by first | exact Or.inl rfl | exact Or.inr (Or.inl rfl) | exact Or.inr (Or.inr rfl))
    (hdb : (x == ("__debug__" : Str)) = false := by decide) (hcd : (x == ("__classdict__" : Str)) = false := by decide) (he : starEach (e :: es) X.env = (false, eval e X.env) :: starEach es X.env := by rfl)
    (hpl : (backTo pos (starEach es X.env)).any (·.1) = false := by rfl) : PE X (.Call (.Name x p) (e :: es) [] pos) (tGl i X.mg y sp E t) := by
  obtain ⟨f, fd, F, hb, _, _, hm, hk⟩ := C.ex
  refine ⟨fun pins s σ H Q I h => ?_⟩
  obtain ⟨f', hf', hs, ht⟩ := h
  obtain rfl : f' = f := by
    rw [hm] at hf'
    cases hf'
    rfl
  refine wpAny_Call_Name_kw (thn ((pe_var (pos := p) hN hv hdb hcd).run pins s σ H (fun v H1 => v = .ref f' ∧ H1 = H) I ⟨.ref f', hs, rfl, rfl⟩) fun u s1 ⟨v, H1, I1, r1, q1⟩ => ?_)
  obtain ⟨rfl, rfl⟩ := q1
  cases r1
  refine PySem.W.callWith_K (h₀ := X.base) I.ok.mod.kin hk (thn (ha.run pos pins s1 σ _ _ I1 ht) fun us s2 ⟨vs, H2, I2, r, q⟩ => ⟨I2.kIn, ?_⟩) he hpl
  exact run_g (ar := ⟨us, []⟩) F hr hG (hx σ) I2 (hb s2 us (r.length.symm.trans (F.size _ _ _ _ q))) r q
end
/-! ### repr of data -/
section
variable {X : Cx}
def rShow (K : PySem.W.Frag) : List V → Hp → VK → Prop := fun xs H Q => ∃ (a : Addr) (d : PyData), xs = [.ref a] ∧ Dp K H (.ref a) d ∧
  d.showable = true ∧ d.hasDict = false ∧ d.depth ≤ 30 ∧ d.shown.length ≤ sizeLine ∧ Q (.str d.shown) H
theorem call_show (hG : X.A.guards = some []) {k : Nat} (hr : Room k X.A) : CallR X (.builtin "repr") (rShow X.K) := by
  intro pins s σ H xs us Q I r h
  obtain ⟨a, d, rfl, hd, hs, hn, h30, hz, q⟩ := h
  cases r with
  | cons r1 r2 =>
    cases r2
    obtain ⟨as, rd⟩ := Dp.reads I d _ _ hd r1
    cases r1
    have hu := hr.units
    exact repr_of_reads' rd hs (PyData.noDict_hsm hn) hG (by omega) (fun _ _ z => z) (fun h' u tk hk => ⟨.str d.shown, H, I.kept hk, ⟨u, rfl⟩, q⟩) hz
/-- // by any divisor but 0 -/
def CDivN (_ j : Int) : Prop := j ≠ 0 ∧ j.natAbs.log2 < 9000
theorem op_fdivN : OpR X (binaryOp .FloorDiv) (rI CDivN fun i j => .int (i.fdiv j)) := opI fun i j _ _ _ _ _ hc q =>
  floordiv_int hc.1 q (.inl (PyProof.noPylong_of_log2 hc.2))
end
/-! ### the end of a law's row -/
theorem at_caller {P : Program} {w : World} {K : PySem.W.Frag} {mg mb : Str → Option Value} {k : Nat} {fa a : Addr} {fd : FuncData} {x : Str} {sp : Sp} {s : Shared} {us : List Value} {ns : List Int}
    (KX : K.In s.heap) (hns : s.heap.Ns mainGlobals mg) (hb : s.heap.Ns builtinsNs mb) (hbb : ∀ x : Str, x ≠ "__name__" → mb x = bootBuiltins x) (hlim : s.heap.NoLimit) (hgen : s.gens = #[])
    (ha : s.heap.get? a = some { cls := .type "list", data := .seq us.toArray }) (hi : IntsAre us ns) (hl : ns.length ≤ sizeLine) (hr : Room k callerA)
    (F : ∀ base : Heap, K.In base → base.Ns mainGlobals mg → FnG P w K mg base CX0 k fa fd [x] sp) (hbind : ∀ (s : Shared) (u : Value), BindsTo s fd ⟨[u], []⟩ [(x, u)])
    (hsp : ∀ H : Hp, Only H → SqL K H a (ns.map V.int) → sp [.ref a] H (fun v _ => v = .bl true) E0) :
    codeAny (model P w) callerA (.call (.ref fa) ⟨[.ref a], []⟩) (fun r s' => r = .ok (.ret (.bool true)) ∧ OldK s.heap s'.heap ∧ s'.os = s.os ∧ AllBare s'.gens) s := by
  -- from a heap that tracks at most the script
  have go : ∀ H : Hp, Only H → SqL K H a (ns.map V.int) → HOk P w H s.heap → (∀ b, H b ≠ none → b = a) → (H a ≠ none → K.lookup a = none) →
      codeAny (model P w) callerA (.call (.ref fa) ⟨[.ref a], []⟩) (fun r s' => r = .ok (.ret (.bool true)) ∧ OldK s.heap s'.heap ∧ s'.os = s.os ∧ AllBare s'.gens) s := by
    intro H only sq hok one key
    have keep : ∀ {b : Addr} {o : Obj}, s.heap.get? b = some o → (∀ vs n, o.data ≠ .seq vs n) → (hidT s.heap H).get? b = some o := by
      intro b o e hd
      refine hidT_get e ?_
      cases q : H b with
      | none => rfl
      | some u =>
        obtain rfl : b = a := one b (by rw [q]; exact fun z => nomatch z)
        rw [ha] at e
        cases e
        exact absurd rfl (hd _ _)
    have names : ∀ {b : Addr} {m : Str → Option Value}, s.heap.Ns b m → (hidT s.heap H).Ns b m := by
      rintro b m ⟨o, es, ep, e, d, r⟩
      exact ⟨o, es, ep, keep e (fun vs n z => by rw [d] at z; cases z), d, r⟩
    have kin : K.In (hidT s.heap H) := by
      intro b o e
      refine hidT_get (KX b o e) ?_
      cases q : H b with
      | none => rfl
      | some u =>
        have nn : H b ≠ none := by rw [q]; exact fun z => nomatch z
        obtain rfl : b = a := one b nn
        rw [key nn] at e
        cases e
    have md : Mod K mg (hidT s.heap H) := ⟨kin, names hns, ⟨mb, names hb, hbb⟩, by obtain ⟨mc, h1, h2⟩ := hlim; exact ⟨mc, names h1, h2⟩⟩
    have none_in : ∀ b : Addr, b ∉ frs [] := fun b z => absurd (show b ∈ ([] : List Addr) from z) (by simp)
    have e0 : Env0 P w K mg (hidT s.heap H) callerA [] s H := { frames := rfl, mod := md, bs := fun b o e => of_hidT e, bsz := Nat.le_of_eq (hidT_size _ _), funs := trivial, frf := fun b z => absurd z (none_in b), hok := hok, bare := .of_eq hgen }
    refine codeAny_mono ((F _ kin (names hns)).goes callerA [] s H ⟨[.ref a], []⟩ [.ref a] [.ref a] _ _ hr rfl e0 (hbind s (.ref a)) (.cons rfl .nil) (hsp H only sq)) fun r s' h => ?_
    cases r with
    | error e => exact False.elim h
    | ok fl =>
      cases fl with
      | next => exact False.elim h
      | brk => exact False.elim h
      | cont => exact False.elim h
      | ret u =>
        obtain ⟨v, H', os, bare, un, hok', rv, q⟩ := h
        obtain rfl : v = .bl true := q
        obtain rfl : u = Value.bool true := rv
        refine ⟨rfl, OldK.of_keep fun b o e => ?_, os, bare⟩
        cases q : H b with
        | none => exact un.keep b o e q (none_in b) (by simp)
        | some y =>
          rcases only b with z | ⟨ob, xs, z⟩
          · rw [q] at z
            cases z
          · obtain ⟨e1, _⟩ := hok b _ z
            obtain ⟨e2, _⟩ := hok' b _ (un.frzs b ob _ z)
            rw [e] at e1
            cases e1
            exact e2
  have rv := vals_ints hi
  cases hk : K.lookup a with
  | some o =>
    have e := KX a o hk
    rw [ha] at e
    cases e
    exact go (fun _ => none) (fun _ => Or.inl rfl) (Or.inr ⟨_, us.toArray, _, hk, rfl, rfl, rfl, by rw [List.size_toArray, hi.length]; exact hl, by simpa using rv⟩)
      (fun b u z => by cases (show (none : Option HO) = some u from z)) (fun b z => absurd rfl z) (fun z => absurd rfl z)
  | none =>
    refine go (fun b => if b = a then some (.frz { cls := .type "list", data := .seq us.toArray } (.lst (ns.map V.int))) else none) ?_ (Or.inl (Or.inr ⟨_, if_pos rfl⟩)) ?_ ?_ (fun _ => hk)
    · intro b
      by_cases h : b = a
      · exact Or.inr ⟨_, _, if_pos h⟩
      · exact Or.inl (if_neg h)
    · intro b u z
      by_cases h : b = a
      · cases (if_pos h).symm.trans z
        subst h
        exact ⟨ha, by rw [List.length_map]; exact hl, us, _, rv, ha⟩
      · cases (if_neg h).symm.trans z
    · intro b z
      by_cases h : b = a
      · exact h
      · exact absurd (if_neg h) z
theorem walkG {l : PySem.W.OpenLaw} {n k : Nat} {q : Program} {loose : List Str} {XP : (Str → Option Value) → Heap → Prop} {YP : World → Heap → Prop} {d : DefRec} {K : Params → PySem.W.Frag} {sp : PySem.W.Frag → Sp} {x : Str}
    (hn : l.most = some n) (hn2 : n ≤ sizeLine) (hdf : d.params.defaults = []) (hr : Room k callerA) (hY : ∀ (w : World) (h : Heap), YP w h → (K w.params).In h)
    (F : ∀ (w : World) (mg : Str → Option Value) (fa : Addr) (h : Heap), (K w.params).In h → h.Ns mainGlobals mg → mg d.name = some (.ref fa) →
      ∃ fd : FuncData, (∀ (s : Shared) (u : Value), BindsTo s fd ⟨[u], []⟩ [(x, u)]) ∧ ∀ base : Heap, (K w.params).In base → base.Ns mainGlobals mg → FnG l.prog w (K w.params) mg base CX0 k fa fd [x] (sp (K w.params)))
    (hsp : ∀ (K : PySem.W.Frag) (H : Hp) (a : Addr) (ns : List Int), ns.length ≤ n → Only H → SqL K H a (ns.map V.int) → sp K [.ref a] H (fun v _ => v = .bl true) E0) :
    PySem.W.WalkO q loose XP YP l.row.toRowW d [] (fun f vs => PySem.call f vs) := by
  refine Att.attach_call hn hdf fun w s0 s mg mb fa o pm cd doc a us ns G Y ho hd hcd hmg hobj hints hlen hg => ?_
  obtain ⟨fd, hb, hF⟩ := F w mg fa _ (hY w _ Y) G.T.g hmg
  exact at_caller (hY w _ Y) G.T.g G.T.b G.T.builtins G.T.nolimit hg hobj hints (Nat.le_trans hlen hn2) hr hF hb fun H hO hS => hsp _ H a ns hlen hO hS
end Lf

set_option Elab.async false
set_option linter.all false
set_option maxRecDepth 100000
set_option maxHeartbeats 4000000
/-! The head by one kernel run, with facts of any form: a fact is a Bool of the part of the heap that the module's names reach. -/
namespace Lf
open PySem PySem.Spec PyProof.Rows L2
abbrev Fct : Type := PySem.W.Frag → Bool
def obsX (fa : List Fct) (fn : List He.DefD) (K : PySem.W.Frag) : He.AlD := ((fa.all fun f => f K) && fn.all fun d => d.ok K, fn.map fun d => He.fnW K d.at_)
def SaysX (fa : List Fct) (fn : List He.DefD) (K : PySem.W.Frag) : Prop := obsX fa fn K = He.valD fn
def obsXG (n : Nat) (fa : List Fct) (fn : List He.DefD) (g : Addr → Option Obj) : He.AlD := obsX fa fn (He.frG g (He.asD g n))
def hookX (n : Nat) (fa : List Fct) (fn : List He.DefD) : PySem.W.Hook where
  α := He.AlD
  obs := fun s => obsXG n fa fn s.heap.get?
  val := fun _ => He.valD fn
  says := fun _ h => ∃ K : PySem.W.Frag, K.In h ∧ SaysX fa fn K
  of := fun _ _ e => ⟨_, He.frG_in, e⟩
  keeps := fun _ _ _ ⟨K, hK, c⟩ k => ⟨K, PySem.W.Frag.In.keeps hK k, c⟩
theorem obsXG_eq {n : Nat} {fa : List Fct} {fn : List He.DefD} {g : Addr → Option Obj} {s : Shared} (h : ∀ a, g a = s.heap.get? a) : obsXG n fa fn g = (hookX n fa fn).obs s := by
  have e : g = s.heap.get? := funext h
  rw [e] <;> rfl
section
variable {fa : List Fct} {fn : List He.DefD} {K : PySem.W.Frag}
theorem SaysX.all (c : SaysX fa fn K) : (fa.all fun f => f K) = true := (He.ba (show ((fa.all fun f => f K) && fn.all fun d => d.ok K) = true from congrArg (fun z : He.AlD => z.1) c)).1
theorem SaysX.fact (c : SaysX fa fn K) (i : Nat) {f : Fct} (h : fa[i]? = some f := by rfl) : f K = true := List.all_eq_true.mp c.all f (List.mem_of_getElem? h)
theorem SaysX.def_ (c : SaysX fa fn K) (i : Nat) {d : He.DefD} (h : fn[i]? = some d := by rfl) : ∃ fd, FunD K d.name d.qual d.params d.body d.scope (d.dvs K) (d.kws K) (He.fAd K d.at_) fd := by
  have c2 := (He.ba (show ((fa.all fun f => f K) && fn.all fun d => d.ok K) = true from congrArg (fun z : He.AlD => z.1) c)).2
  have e : fn.map (fun d => He.fnW K d.at_) = fn.map He.DefD.val := congrArg (fun z : He.AlD => z.2) c
  have e2 : (fn.map fun d => He.fnW K d.at_)[i]? = (fn.map He.DefD.val)[i]? := by rw [e]
  rw [List.getElem?_map, List.getElem?_map, h] at e2
  exact He.DefD.funD (Option.some.inj e2) (List.all_eq_true.mp c2 d (List.mem_of_getElem? h))
end
/-- a def without defaults as the machine has it -/
theorem fun_of {K : PySem.W.Frag} {x qual : Str} {st : Stmt} {f : Addr} {fd : FuncData} (F : FunD K x qual (defArgs st) (defBody st) (defScope st) [] [] f fd) :
    ∃ (kV doc pm : Value) (an : Option Addr) (cdv ct : Value), fd = PySem.W.fnOf x qual (defArgs st) (defBody st) (defScope st) .none kV doc pm an cdv ct ∧ Fun K x qual st f fd := by
  obtain ⟨oc, od, dV, kV, doc, pm, an, cdv, ct, osl, rfl, lk, hcd, dv, _⟩ := F.ex
  obtain rfl : dV = .none := (dv.resolve_right fun z => z.1 rfl).2
  exact ⟨kV, doc, pm, an, cdv, ct, rfl, fun_mk lk hcd F.kp⟩
/-- a def as the top left it, and how its arguments come to it -/
structure Df (K : PySem.W.Frag) (mg : Str → Option Value) (x : Str) (st : Stmt) (ps : List Str) (f : Addr) (fd : FuncData) : Prop where
  fn : Fun K x x st f fd
  g : mg x = some (.ref f)
  b1 : ∀ (s : Shared) (us : List Value), us.length = ps.length → BindsTo s fd ⟨us, []⟩ (ps.zip us)
  b2 : kwN x = true → ∀ (s : Shared) (us : List Value), us.length = ps.length → BindsTo s fd ⟨[], ps.zip us⟩ (ps.zip us)
  b3 : kwN x = true → ∀ (s : Shared) (us : List Value), us.length = ps.length → BindsTo s fd ⟨[], ps.reverse.zip us⟩ (ps.zip us.reverse)
theorem Df.cal {P : Program} {w : World} {K : PySem.W.Frag} {mg : Str → Option Value} {base : Heap} {CX : CXT} {k : Nat} {x : Str} {st : Stmt} {ps : List Str} {f : Addr} {fd : FuncData} {sp : Sp} (D : Df K mg x st ps f fd) (F : FnG P w K mg base CX k f fd ps sp) : Cal P w K mg base CX k x ps sp :=
  ⟨f, fd, F, D.b1, D.b2, D.b3, D.g, D.fn.kp⟩
/-- nothing keeps the promise of nothing -/
theorem FnG.no {P : Program} {w : World} {K : PySem.W.Frag} {mg : Str → Option Value} {base : Heap} {CX : CXT} {k : Nat} {f : Addr} {fd : FuncData} {ps : List Str} : FnG P w K mg base CX k f fd ps (fun _ _ _ _ => False) :=
  ⟨fun _ _ _ _ h => h.elim, fun _ _ _ _ _ _ _ _ _ _ _ _ _ _ h => h.elim⟩
/-- how plain arguments are bound: by the names alone -/
def plainA (as : List Arg) : Arguments := { posonlyargs := [], args := as, vararg := none, kwonlyargs := [], kw_defaults := [], kwarg := none, defaults := [] }
theorem no_kw {x : Str} {p : Prop} (h : kwN x = false) : kwN x = true → p := fun z => by
  rw [h] at z
  cases z
/-- the law's walk, the module's part given with it -/
theorem walkX {l : PySem.W.OpenLaw} {n k : Nat} {q : Program} {loose : List Str} {XP : (Str → Option Value) → Heap → Prop} {YP : World → Heap → Prop} {d : DefRec} {sp : PySem.W.Frag → Sp} {x : Str}
    (hn : l.most = some n) (hn2 : n ≤ sizeLine) (hdf : d.params.defaults = []) (hr : Room k callerA)
    (F : ∀ (w : World) (mg : Str → Option Value) (fa : Addr) (h : Heap), YP w h → h.Ns mainGlobals mg → mg d.name = some (.ref fa) →
      ∃ K : PySem.W.Frag, K.In h ∧ ∃ fd : FuncData, (∀ (s : Shared) (u : Value), BindsTo s fd ⟨[u], []⟩ [(x, u)]) ∧ ∀ base : Heap, K.In base → base.Ns mainGlobals mg → FnG l.prog w K mg base CX0 k fa fd [x] (sp K))
    (hsp : ∀ (K : PySem.W.Frag) (H : Hp) (a : Addr) (ns : List Int), ns.length ≤ n → Only H → SqL K H a (ns.map V.int) → sp K [.ref a] H (fun v _ => v = .bl true) E0) :
    PySem.W.WalkO q loose XP YP l.row.toRowW d [] (fun f vs => PySem.call f vs) := by
  refine Att.attach_call hn hdf fun w s0 s mg mb fa o pm cd doc a us ns G Y ho hd hcd hmg hobj hints hlen hg => ?_
  obtain ⟨K, KX, fd, hb, hF⟩ := F w mg fa _ Y G.T.g hmg
  exact at_caller KX G.T.g G.T.b G.T.builtins G.T.nolimit hg hobj hints (Nat.le_trans hlen hn2) hr hF hb fun H hO hS => hsp _ H a ns hlen hO hS
end Lf

set_option Elab.async false
set_option linter.all false
set_option maxRecDepth 100000
set_option maxHeartbeats 4000000
/-! An own exception over ValueError whose __init__ begins by super().__init__(..): its body's rule, and its promise FnOk. -/
namespace Lf
open PySem PySem.Spec PyProof.Rows L2 NdefX
/-- what the written part says of a class D whose __init__ at f says super().__init__ : the cell, the code -/
structure SupC (P : Program) (K : PySem.W.Frag) (D f cc cda : Addr) (fd : FuncData) : Prop where
  fn : ∃ (oc : Value) (od : Option Addr) (osl : Array (Option Value)), K.lookup f = some ⟨oc, od, .func fd, osl⟩
  code : ∃ (ccl : Value) (cdd : Option Addr) (vs : Array Value) (ccs : Array (Option Value)) (file : Str) (tf : Tok), K.lookup cda = some ⟨ccl, cdd, .fields vs, ccs⟩ ∧ vs[2]? = some (.str file tf) ∧ ((P.main.file : Str) == file) = true
  cell : ∃ (cl : Value) (cld : Option Addr) (csl : Array (Option Value)), K.lookup cc = some ⟨cl, cld, .cell (some (.ref D)), csl⟩
  sup : PySem.W.ks_superIn K D D "__init__" = some (some (.builtin "ValueError.__init__"))
  sub : PySem.W.mroIn K D (.ref D) = some true
  ve : PySem.W.subIn K (.ref D) (.type "ValueError") = some true
  stat : PySem.W.nsIn K cStatics "thirdparty.any" = some none
  top : (P.main.scope.names.lookup ("super" : Str)).isSome = false
/-- what a body that begins by super().__init__(..) asks: the self is the exception that is being made -/
def tSup (K : PySem.W.Frag) (D : Addr) (ta : TA) (t : TS) : TS := fun E σ H => ∃ a, σ[0]? = some (some (.ref a)) ∧ H a = some (exo a D none) ∧ ta σ H fun vs H1 => vs.length ≤ 1000 ∧ H1 a = some (exo a D none) ∧ t E σ H1
section
variable {X : Cx} {D f cc cda : Addr} {fd : FuncData} {ar : Arg} {e : Expr} {es : List Expr} {rest body : List Stmt} {ta : TA} {t : TS} {p0 p1 p2 p3 pos : Pos} {x0 : Str}
theorem call_sup {pins : List (Addr × Obj)} {σ : L2.St} {H : Hp} {s : Shared} {a u : Addr} {us : List Value} {Q : Value → Shared → Prop} {E : Value → Shared → Prop} {A : Around} (T : OexC X.K D) (I : Inv X pins σ H s) (ea : H a = some (exo a D none))
    (hu : s.heap.get? u = some (PySem.W.kxs_mw "ValueError.__init__" a)) (hl : us.length ≤ sizeLine) (h : ∀ s', Inv X pins σ H s' → Q .none s') : wpAny (model X.prog X.w) A (call (.ref u) us) Q E s := by
  obtain ⟨nm, q, N, bs, bm, sn, sub, ab, col, dd, k0, k1, k2, k3, k5, hC, hbm⟩ := T.cls
  obtain ⟨t1, ho⟩ := exo_at I.hok ea
  obtain ⟨hp, g, d, tk, os⟩ := s
  refine wpAny_call (codeAny_of_tree ?_)
  show wpAny _ A.in1 (callAny (.ref u) ⟨us, []⟩) _ _ _
  simp only [callAny]
  refine wpAny_bind (wpAny_load hu ?_)
  simp only [PySem.W.kxs_mw, show (Value.type "method-wrapper" == Value.type "method" || Value.type "method-wrapper" == Value.type "builtin_function_or_method" || Value.type "method-wrapper" == Value.type "method-wrapper") = true by decide, if_true]
  refine PySem.W.KFB.if_so (by decide) ?_
  refine wpAny_bind (PySem.W.check_bound_init F.excBase_ValueError.toExcCallFacts (I.kIn _ _ hC) ho rfl ?_)
  refine wpAny_bind (wpAny_pure (wpAny_pure ?_))
  refine ⟨plainId_quiet F.excBase_ValueError.init.plain _, codeAny_builtin F.excBase_ValueError.initEntry ?_⟩
  refine PySem.W.exc_init_tree (cls := .ref D) (t0 := t1) (dv := none) (c2 := .none) (c3 := .none) (b4 := .bool false) ho hl fun h' k e' _ => ?_
  have J := I.write (t' := tk) (x := a) (e := a) (o := exo a D none) (by rw [ea]; exact True.intro) (.inl rfl) k ⟨_, e'⟩ (exo_ok e')
  have eu : upd H a (exo a D none) = H := by
    funext b
    by_cases hb : b = a
    · rw [hb, upd_same, ea]
    · rw [upd_ne hb]
  rw [eu] at J
  exact h _ J
/-- the body's rule -/
theorem body_sup {pins : List (Addr × Obj)} {σ : L2.St} {H : Hp} {s : Shared} {E : Ends} (S : SupC X.prog X.K D f cc cda fd) (T : OexC X.K D) (hm : X.mg "super" = none) (hA : PA X (e :: es) ta) (hR : PSs X rest t) (I : Inv X pins σ H s) (h : tSup X.K D ta t E σ H)
    (hp : (fd.params.posonlyargs ++ fd.params.args).head? = some ar) (hN : X.N[0]? = some ar.arg) (hka : X.env.kindOf ar.arg = some .local) (hvis : Vis X.env.scope ar.arg)
    (hks : X.env.kindOf "super" = some .globalImplicit) (hkc : X.env.kindOf "__class__" = some .free) (hfu : X.env.func = some f) (hco : X.env.code = .ref cda) (hcl : X.env.cells.lookup ("__class__" : Str) = some cc)
    (hc : ∀ pl : Unit, ∃ pl : Sem Bool, eval (.Call (.Attribute (.Call (.Name "super" p0) [] [] p1) "__init__" p2) (e :: es) [] pos) X.env = (do
      let ov ← attributeBase (.Call (.Name "super" p0) [] [] p1) "__init__" X.env (eval (.Call (.Name "super" p0) [] [] p1) X.env)
      standAt p2.atName
      let (f, first) ← holding [ov] (getMethod ov "__init__" pl)
      callWith pos f first (backTo pos (starEach (e :: es) X.env)) []))
    (hs : swapsWith (.Call (.Attribute (.Call (.Name "super" p0) [] [] p1) "__init__" p2) (e :: es) [] pos) none p3.line X.env = pure false)
    (he : starEach (e :: es) X.env = (false, eval e X.env) :: starEach es X.env) (hpl : (backTo pos (starEach es X.env)).any (·.1) = false) :
    PySem.wpAt (model X.prog X.w) X.A (.func body X.env) (execs (.Expr (.Call (.Attribute (.Call (.Name "super" p0) [] [] p1) "__init__" p2) (e :: es) [] pos) p3 :: rest) X.env) (SP X pins E) X.xe s := by
  obtain ⟨pl, hc⟩ := hc ()
  refine ks_wpAt_execs_cons (ks_wpAt_Expr_any (ks_wpAt_MethodCall (pl := pl) ?_ hc) I.quiet hs)
  have KX := I.kIn
  obtain ⟨oc, od, osl, hf⟩ := S.fn
  obtain ⟨ccl, cdd, vs, ccs, file, tf, hcode, hvs, hfile⟩ := S.code
  obtain ⟨cl, cld, csl, hcell⟩ := S.cell
  obtain ⟨a, hs0, ea, hta⟩ := h
  obtain ⟨t1, ho⟩ := exo_at I.hok ea
  obtain ⟨nm, qn, Nn, bs, bm, sn, sub, ab, col, dd, k0, k1, k2, k3, k5, hC, hbm⟩ := T.cls
  have hcls : PySem.W.clsIn X.K D = some { name := nm, bases := bs, mro := .ref D :: bm, ns := Nn, qualname := qn, hasDict := true, slotNames := sn, subclasses := sub, abstract := ab, collection := col, hasDel := false } := by unfold PySem.W.clsIn; rw [hC] <;> rfl
  have hat : (("__init__" : Str) == ("__class__" : Str)) = false := by decide
  refine ks_wpAt_super_base (env := X.env) hks hkc hat hfu (KX _ _ hf) rfl hp hco (KX _ _ hcode) rfl hvs hfile S.top ?_
  obtain ⟨mb, b1, b2⟩ := I.mod.blt
  refine PySem.W.ks_loadName_global I.ok.kind hks (Calls.loadGlobal_builtin (by rw [I.ok.glob]; exact I.mod.glob.keeps I.bk) hm (by rw [I.ok.blt]; exact b1.keeps I.bk) ((b2 _ (by decide)).trans (PyProof.Rows.Boot.«super»)) ⟨rfl, ?_⟩)
  refine wpAny_loadName_free I.ok.kind hkc hcl ⟨_, KX _ _ hcell, rfl⟩ ?_
  obtain ⟨m, hns, hsl⟩ := I.loc
  obtain ⟨u0, ru0, lk⟩ := hsl 0 ar.arg (.ref a) hN hs0 hvis
  cases ru0
  have hm0 : m ar.arg = some (.ref a) := by
    rcases lk with ⟨_, e⟩ | ⟨e | e, _⟩
    · exact e
    · rw [hka] at e; cases e
    · rw [hka] at e; cases e
  refine wpAny_loadName_local I.ok.kind hka hns hm0 ?_
  refine ks_wpAny_isType_cls (KX _ _ hC) rfl ⟨rfl, ?_⟩
  have II : PySem.W.InstAt s.heap a { cls := .ref D, dict := none, data := .fields #[.ref t1, .none, .none, .none, .bool false, .none] } D none := ⟨ho, rfl, rfl, trivial⟩
  obtain ⟨hp', g, d, tk, os⟩ := s
  refine ks_wpAny_call_super (KX _ _ hC) rfl ho rfl (fun c e => by cases e) (PySem.W.looks_mroIn KX S.sub) (fun h1 e1 kk1 => ?_)
  have I1 : Inv X pins σ H ⟨h1, g, d, tk, os⟩ := I.kept (t' := tk) kk1
  have KX1 := I1.kIn
  have II1 : PySem.W.InstAt h1 a { cls := .ref D, dict := none, data := .fields #[.ref t1, .none, .none, .none, .bool false, .none] } D none := ⟨kk1 _ _ ho, rfl, rfl, trivial⟩
  have sup := S.sup
  unfold PySem.W.ks_superIn at sup
  rw [hcls] at sup
  refine PySem.W.kxs_getMethod PySem.W.kxs_ValueError e1 (PySem.W.looks_opaque KX1 S.stat) (l₀ := .ref D :: bm) (fun A Q E s k q => wpAny_bind ((PySem.W.looks_clsIn KX1 hcls) A _ E s k (wpAny_pure q))) rfl KX1 sup (II1.type.andThen (PySem.W.looks_subIn KX1 S.ve)) (PySem.W.ks_ne KX1 II1 hcls) hat ?_
  show wpAny _ _ (callWith pos (.ref h1.objs.size) [] (backTo pos (starEach (e :: es) X.env)) []) _ _ _
  have kk2 : ∀ b o, h1.get? b = some o → (h1.push (PySem.W.kxs_mw "ValueError.__init__" a)).get? b = some o := fun b o e => Heap.get?_push_of_some _ e
  have I2 : Inv X pins σ H ⟨h1.push (PySem.W.kxs_mw "ValueError.__init__" a), g, d, tk + 1, os⟩ := I1.kept (t' := tk + 1) kk2
  have eu : (h1.push (PySem.W.kxs_mw "ValueError.__init__" a)).get? h1.objs.size = some (PySem.W.kxs_mw "ValueError.__init__" a) := Heap.get?_push_at rfl rfl
  have hnu : H h1.objs.size = none := I1.hok.fresh (Nat.le_refl _)
  have I3 : Inv X ((h1.objs.size, PySem.W.kxs_mw "ValueError.__init__" a) :: pins) σ H ⟨h1.push (PySem.W.kxs_mw "ValueError.__init__" a), g, d, tk + 1, os⟩ := by
    refine I2.pins_of fun p hp => ?_
    rcases List.mem_cons.mp hp with rfl | hp
    · exact ⟨eu, hnu, Ne.symm (Nat.ne_of_lt I1.lt), I1.nofs (Nat.le_refl _), fun v z => by cases z⟩
    · exact I2.pin p (List.mem_append_right _ hp)
  have key := thn (Q' := fun us s4 => PySem.W.KxsAt "ValueError.__init__" h1.objs.size a s4.heap ∧ wpAny (model X.prog X.w) X.A (call (.ref h1.objs.size) ([] ++ us) []) (fun _ s' => PySem.wpAt (model X.prog X.w) X.A (.func body X.env) (execs rest X.env) (SP X pins E) X.xe s') X.xe s4)
      (hA.run pos _ _ σ H _ I3 hta) fun us s4 ⟨vs4, H4, I4, r4, hz, ea4, q4⟩ => by
    have hu4 := (I4.pin _ (List.mem_append_right _ (List.mem_cons_self ..))).1
    have I5 : Inv X pins σ H4 s4 := I4.pins_of fun p hp => I4.pin p (List.mem_append_right _ (List.mem_cons_of_mem _ hp))
    refine ⟨hu4, ?_⟩
    exact call_sup T I5 ea4 hu4 (by rw [List.nil_append, ← Paired.length r4, sizeLine_eq]; omega) fun s' J => wpAt_of_wpAny (hR.run pins s' σ H4 E J q4)
  rw [he] at key ⊢
  refine PySem.W.kxs_callWith (i := "ValueError.__init__") (x := a) (by show (false || (backTo pos (starEach es X.env)).any (·.1)) = false; rw [hpl]; rfl) ?_
  exact PySem.Calls.evalArgs_plain key
end
/-- an own exception's __init__ as it stands behind the top -/
structure XFun (P : Program) (K : PySem.W.Frag) (qual : Str) (st : Stmt) (D f : Addr) (fd : FuncData) (cc cda : Addr) : Prop where
  ex : ∃ (dV kV doc pm : Value) (an : Option Addr) (ct : Value), fd = PySem.W.fnX "__init__" qual (defArgs st) (defBody st) (defScope st) [("__class__", cc)] dV kV doc pm an (.ref cda) ct
  sup : SupC P K D f cc cda fd
  code : PySem.W.codeIn K (.ref cda) qual = true
/-- the context of its body -/
abbrev xcx (CX : CXT) (P : Program) (w : World) (K : PySem.W.Frag) (mg : Str → Option Value) (base : Heap) (N : List Str) (qual : Str) (st : Stmt) (f cc cda : Addr) (A : Around) (outer : List Env) (s : Shared) (H : Hp) (E : XK) : Cx :=
  ncx CX P w K mg base N ⟨"__init__", qual, defArgs st, defBody st, defScope st, [("__class__", cc)], cda⟩ f A outer s H E
section
variable {CX : CXT} {P : Program} {w : World} {K : PySem.W.Frag} {mg : Str → Option Value} {base : Heap} {qual : Str} {st : Stmt} {D f cc cda : Addr} {fd : FuncData} {N ps : List Str} {k : Nat} {sp : Sp} {ar : Arg} {p0 p1 p2 p3 pos : Pos} {e : Expr} {es : List Expr} {rest : List Stmt}
theorem xok (F : XFun P K qual st D f fd cc cda) (T : OexC K D) (hm : mg "super" = none) (S : NScope N ps ["__class__"] (defScope st)) (len : ∀ vs H Q E, sp vs H Q E → vs.length = ps.length)
    (hb : defBody st = .Expr (.Call (.Attribute (.Call (.Name "super" p0) [] [] p1) "__init__" p2) (e :: es) [] pos) p3 :: rest)
    (hp : ((defArgs st).posonlyargs ++ (defArgs st).args).head? = some ar) (hN : N[0]? = some ar.arg) (hka : (defScope st).names.lookup ar.arg = some .local)
    (hks : (defScope st).names.lookup ("super" : Str) = some .globalImplicit)
    (hc : ∀ L : Addr, ∃ pl : Sem Bool, eval (.Call (.Attribute (.Call (.Name "super" p0) [] [] p1) "__init__" p2) (e :: es) [] pos) (PySem.W.envX qual (defScope st) L f (.ref cda) [("__class__", cc)]) = (do
      let ov ← attributeBase (.Call (.Name "super" p0) [] [] p1) "__init__" (PySem.W.envX qual (defScope st) L f (.ref cda) [("__class__", cc)]) (eval (.Call (.Name "super" p0) [] [] p1) (PySem.W.envX qual (defScope st) L f (.ref cda) [("__class__", cc)]))
      standAt p2.atName
      let (g, first) ← holding [ov] (getMethod ov "__init__" pl)
      callWith pos g first (backTo pos (starEach (e :: es) (PySem.W.envX qual (defScope st) L f (.ref cda) [("__class__", cc)]))) []))
    (hs : ∀ L : Addr, swapsWith (.Call (.Attribute (.Call (.Name "super" p0) [] [] p1) "__init__" p2) (e :: es) [] pos) none p3.line (PySem.W.envX qual (defScope st) L f (.ref cda) [("__class__", cc)]) = pure false)
    (he : ∀ L : Addr, starEach (e :: es) (PySem.W.envX qual (defScope st) L f (.ref cda) [("__class__", cc)]) = (false, eval e (PySem.W.envX qual (defScope st) L f (.ref cda) [("__class__", cc)])) :: starEach es (PySem.W.envX qual (defScope st) L f (.ref cda) [("__class__", cc)]))
    (hpl : ∀ L : Addr, (backTo pos (starEach es (PySem.W.envX qual (defScope st) L f (.ref cda) [("__class__", cc)]))).any (·.1) = false)
    (body : ∀ (A : Around) (outer : List Env) (s : Shared) (H : Hp) (vs : List V) (Q : VK) (E : XK), Room k (A.deeper (PySem.W.envX qual (defScope st) s.heap.objs.size f (.ref cda) [("__class__", cc)])) → sp vs H Q E →
      ∃ ta t, PA (xcx CX P w K mg base N qual st f cc cda A outer s H E) (e :: es) ta ∧ PSs (xcx CX P w K mg base N qual st f cc cda A outer s H E) rest t ∧
        tSup K D ta t { nx := fun _ H' => Q .non H', rt := Q } (startF N vs [none]) H) : FnOk P w K mg base CX (k + 1) f fd ps sp := by
  obtain ⟨dV, kV, doc, pm, an, ct, rfl⟩ := F.ex
  obtain ⟨oc, od, osl, hf⟩ := F.sup.fn
  obtain ⟨cl, cld, csl, hcell⟩ := F.sup.cell
  refine ⟨len, fun A outer s H ar' us vs Q E hr e0 hbi r hsp => ?_⟩
  have hl := len _ _ _ _ hsp
  have old : ∀ b o, base.get? b = some o → s.heap.get? b = some o := fun b o e => (e0.bs b o e).1
  have kin : K.In s.heap := e0.mod.kin.keeps old
  have hcc : H cc = none := (e0.bs _ _ (e0.mod.kin _ _ hcell)).2
  refine codeAny_call_function hr.depth (kin _ _ hf) rfl S.co S.gen rfl (PySem.W.codeRec_of kin F.code) (hbi _ _ _ _ ?_)
  refine wpAny_newFunctionEnv S.nocell (fun ⟨n, _⟩ hy => S.par n (List.of_mem_zip hy).1) (fun h₁ hns hsb => ⟨(e0.mod.nolimit.keeps old).fresh _ hsb, ?_⟩) S.kind
  have kp : ∀ b o, s.heap.get? b = some o → h₁.get? b = some o := fun b o e => hsb.extBut b o (Nat.ne_of_lt (Heap.lt_size e)) (Heap.get?_push_of_some _ e)
  obtain ⟨ta, t, hA, hR, hq⟩ := body A outer s H vs Q E (hr.deeper _) hsp
  have C : CellsAt [("__class__", cc)] ["__class__"] [none] s.heap H := by
    have lk : ∀ {y : Str} {c : Addr}, ([(("__class__" : Str), cc)] : List (Str × Addr)).lookup y = some c → y = "__class__" ∧ c = cc := by
      intro y c e
      rw [List.lookup_cons] at e
      cases hy : (y == ("__class__" : Str)) with
      | true =>
        rw [hy] at e
        exact ⟨by simpa using hy, (Option.some.inj e).symm⟩
      | false =>
        rw [hy] at e
        cases e
    refine ⟨rfl, fun y c e => ?_, fun x y c e1 e2 => ?_, fun i y e => ?_⟩
    · obtain ⟨_, rfl⟩ := lk e
      exact ⟨hcc, _, _, kin _ _ hcell, rfl⟩
    · rw [(lk e1).1, (lk e2).1]
    · match i, e with
      | 0, e =>
        cases e
        exact ⟨cc, by simp [List.lookup], fun v z => by cases z⟩
  have I : Inv (xcx CX P w K mg base N qual st f cc cda A outer s H E) [] (startF N vs [none]) H { s with heap := h₁, toks := s.toks + (ps.zip us).length } :=
    inv_startN (F := ⟨"__init__", qual, defArgs st, defBody st, defScope st, [("__class__", cc)], cda⟩) S hr.hd e0 hl r C hns kp
  show codeAny _ _ (.func (defBody st) (PySem.W.envX qual (defScope st) s.heap.objs.size f (.ref cda) [("__class__", cc)])) _ _
  refine ks_codeAny_funcAt ?_
  have B := body_sup (X := xcx CX P w K mg base N qual st f cc cda A outer s H E) (body := defBody st) (cc := cc) (cda := cda) (p3 := p3) F.sup T hm hA hR I hq hp hN hka (.inl hka) hks (S.frk _ (List.mem_cons_self ..)) rfl rfl (show ([(("__class__" : Str), cc)] : List (Str × Addr)).lookup ("__class__" : Str) = some cc by simp [List.lookup]) (fun _ => hc _) (hs _) (he _) (hpl _)
  rw [← hb] at B
  refine ks_wpAt_mono B (fun fl s' hs' => ?_) fun e s' z => z
  have fin : ∀ {σ' : L2.St} {H' : Hp} {v : V} {u : Value}, Inv (xcx CX P w K mg base N qual st f cc cda A outer s H E) [] σ' H' s' → L2.RelV v u → Q v H' → CE outer P w H s Q u s' :=
    fun {σ' H' v u} J rv q => ⟨v, H', J.os, J.bare, J.base, J.hok, rv, q⟩
  cases fl with
  | ret u =>
    obtain ⟨v, σ', H', J, rv, q⟩ := hs'
    exact fin J rv q
  | next =>
    obtain ⟨σ', H', J, q⟩ := hs'
    exact fin (v := V.non) (u := Value.none) J rfl q
  | brk =>
    obtain ⟨_, _, _, q⟩ := hs'
    exact False.elim q
  | cont =>
    obtain ⟨_, _, _, q⟩ := hs'
    exact False.elim q
end
end Lf

set_option Elab.async false
set_option linter.all false
set_option maxRecDepth 100000
set_option maxHeartbeats 4000000
/-! isinstance of a caught error that has fields of its own, in the suite that caught it. -/
namespace Lf
open PySem PySem.Spec PySem.Calls PyProof.Rows PySem.W
/-- the library's fact of an own error, asked of the facts that L2.ExcC holds: with or without a dict of its own -/
theorem kit_own {K : Frag} {x D : Addr} {ox : Obj} {od : Option Obj} (T : L2.ExcC K D) : KitX K (.ref x) (.ref D) (fun h => InstAt h x ox D od) :=
  kitx_exc (gt := none) (match any_some T.hd with | ⟨_, hc, _⟩ => by rw [hc]; rfl) T.hg T.hk T.hs T.ha T.hn T.ht T.hm
end Lf
namespace Lf
open PySem PySem.Spec PyProof.Rows L2
/-- isinstance(e, c), e what the suite caught: its class is D, its fields stand -/
def rIsX (K : PySem.W.Frag) (D a : Addr) (cls : Value) (d : Option Addr) : List V → Hp → VK → Prop := fun xs H Q => cls = .ref D ∧ (d = none ∨ ∃ (dd : Addr) (fs : List (Str × V)), d = some dd ∧ H dd = some (.xd fs)) ∧
  ∃ (c : V) (cv : Value) (b : Bool), xs = [.ref a, c] ∧ (∀ u, RelV c u → u = cv) ∧ PySem.W.kitOne K (.ref D) cv = some b ∧ Q (.bl b) H
theorem call_isX {X : Cx} {a D : Addr} {oe : Obj} {cls : Value} {d : Option Addr} {pn : List (Addr × Obj)} (C : ExcC X.K D) (hz : Zc cls d oe) (hf : ∃ vs, oe.data = .fields vs) : CallR (X.suite a ((a, oe) :: pn)) (.builtin "isinstance") (rIsX X.K D a cls d) := by
  intro pins s σ H xs us Q I r h
  obtain ⟨ec, hd, c, cv, b, rfl, hcv, e, q⟩ := h
  cases r with
  | cons rx rr =>
    cases rr with
    | cons rt rr =>
      cases rr
      cases rx
      have ecv := hcv _ rt
      subst ecv
      obtain ⟨hget, _⟩ := I.pin (a, oe) (List.mem_append.mpr (.inl List.mem_cons_self))
      obtain ⟨vs, hv⟩ := hf
      have J : ∃ od, PySem.W.InstAt s.heap a oe D od := by
        rcases hd with hd | ⟨dd, fs, hd, hH⟩
        · exact ⟨none, hget, by rw [hz.1, ec], by unfold PySem.W.notCls; rw [hv] <;> rfl, by rw [hz.2, hd]; trivial⟩
        · have hx : ObjOk X.prog X.w H s.heap dd (.xd fs) := I.hok dd _ hH
          obtain ⟨o, ho⟩ := objOk_get hx
          exact ⟨some o, hget, by rw [hz.1, ec], by unfold PySem.W.notCls; rw [hv] <;> rfl, by rw [hz.2, hd]; exact ho⟩
      obtain ⟨od, J⟩ := J
      exact PySem.W.kia_one (kit_own (od := od) C) I.kIn J e (fun z => nomatch z) fun tk => ⟨.bl b, H, I.kept (t' := tk) fun _ _ z => z, rfl, q⟩
end Lf

set_option Elab.async false
set_option linter.all false
set_option maxRecDepth 100000
set_option maxHeartbeats 4000000
/-! The head by kernel runs, with the __init__ of own exceptions (a def that holds its class in a cell) among the defs, and the facts of such exceptions. -/
namespace Lf
open PySem PySem.Spec PyProof.Rows L2
abbrev FnV : Type := Option (Str × Str × Arguments × FuncBody × Scope × Addr × List Str × Addr)
def fnV (K : PySem.W.Frag) (p : Str × Option Str) : FnV := match K.lookup (He.fAd K p) with
  | some ⟨_, _, .func fd, _⟩ => some (fd.name, fd.qualname, fd.params, fd.body, fd.scope, fd.globals, fd.closure.map (·.1), fd.builtins)
  | _ => none
/-- a def, and the names that it holds in cells -/
structure DefY where
  d : He.DefD
  cl : List Str := []
def DefY.val (y : DefY) : FnV := some (y.d.name, y.d.qual, y.d.params, .stmts y.d.body, y.d.scope, mainGlobals, y.cl, builtinsNs)
abbrev AlY : Type := Bool × List FnV
def obsY (fa : List Fct) (fn : List DefY) (K : PySem.W.Frag) : AlY := ((fa.all fun f => f K) && fn.all fun y => y.d.ok K, fn.map fun y => fnV K y.d.at_)
def valY (fn : List DefY) : AlY := (true, fn.map DefY.val)
def SaysY (fa : List Fct) (fn : List DefY) (K : PySem.W.Frag) : Prop := obsY fa fn K = valY fn
def obsYG (n : Nat) (fa : List Fct) (fn : List DefY) (g : Addr → Option Obj) : AlY := obsY fa fn (He.frG g (He.asD g n ++ [cStatics]))
def hookY (n : Nat) (fa : List Fct) (fn : List DefY) : PySem.W.Hook where
  α := AlY
  obs := fun s => obsYG n fa fn s.heap.get?
  val := fun _ => valY fn
  says := fun _ h => ∃ K : PySem.W.Frag, K.In h ∧ SaysY fa fn K
  of := fun _ _ e => ⟨_, He.frG_in, e⟩
  keeps := fun _ _ _ ⟨K, hK, c⟩ k => ⟨K, PySem.W.Frag.In.keeps hK k, c⟩
theorem obsYG_eq {n : Nat} {fa : List Fct} {fn : List DefY} {g : Addr → Option Obj} {s : Shared} (h : ∀ a, g a = s.heap.get? a) : obsYG n fa fn g = (hookY n fa fn).obs s := by
  have e : g = s.heap.get? := funext h
  rw [e] <;> rfl
section
variable {fa : List Fct} {fn : List DefY} {K : PySem.W.Frag}
theorem SaysY.fact (c : SaysY fa fn K) (i : Nat) {f : Fct} (h : fa[i]? = some f := by rfl) : f K = true :=
  List.all_eq_true.mp (He.ba (show ((fa.all fun f => f K) && fn.all fun y => y.d.ok K) = true from congrArg (fun z : AlY => z.1) c)).1 f (List.mem_of_getElem? h)
theorem SaysY.at_ (c : SaysY fa fn K) (i : Nat) {y : DefY} (h : fn[i]? = some y) : fnV K y.d.at_ = y.val ∧ y.d.ok K = true := by
  have c2 := (He.ba (show ((fa.all fun f => f K) && fn.all fun y => y.d.ok K) = true from congrArg (fun z : AlY => z.1) c)).2
  have e : fn.map (fun y => fnV K y.d.at_) = fn.map DefY.val := congrArg (fun z : AlY => z.2) c
  have e2 : (fn.map fun y => fnV K y.d.at_)[i]? = (fn.map DefY.val)[i]? := by rw [e]
  rw [List.getElem?_map, List.getElem?_map, h] at e2
  exact ⟨Option.some.inj e2, List.all_eq_true.mp c2 y (List.mem_of_getElem? h)⟩
/-- the def itself, as the part has it -/
theorem DefY.here {y : DefY} (e : fnV K y.d.at_ = y.val) (c : y.d.ok K = true) : ∃ (oc : Value) (od : Option Addr) (cl : List (Str × Addr)) (dV kV doc pm : Value) (an : Option Addr) (cdv ct : Value) (osl : Array (Option Value)),
    K.lookup (He.fAd K y.d.at_) = some ⟨oc, od, .func (PySem.W.fnX y.d.name y.d.qual y.d.params y.d.body y.d.scope cl dV kV doc pm an cdv ct), osl⟩ ∧ cl.map (·.1) = y.cl ∧ PySem.W.codeIn K cdv y.d.qual = true ∧ PySem.W.keepIn K (.ref (He.fAd K y.d.at_)) = true ∧ He.dflB K dV (y.d.dvs K) = true := by
  obtain ⟨kp, c2⟩ := He.ba c
  unfold fnV at e
  cases q : K.lookup (He.fAd K y.d.at_) with
  | none =>
    rw [q] at c2
    cases c2
  | some o =>
    obtain ⟨oc, od, dt, osl⟩ := o
    rw [q] at c2 e
    cases dt with
    | func fd =>
      obtain ⟨n1, n2, n3, n4, n5, n6, n7, n8, n9, n10, n11, n12, n13, n14, n15⟩ := fd
      have e2 : (some (n1, n2, n3, n4, n5, n6, n7.map (·.1), n15) : FnV) = some (y.d.name, y.d.qual, y.d.params, .stmts y.d.body, y.d.scope, mainGlobals, y.cl, builtinsNs) := e
      simp only [Option.some.injEq, Prod.mk.injEq] at e2
      obtain ⟨h1, h2, h3, h4, h5, h6, h7, h8⟩ := e2
      subst h1 h2 h3 h4 h5 h6 h8
      have c3 : (PySem.W.codeIn K n13 y.d.qual && (He.dflB K n8 (y.d.dvs K) && He.kwdB K n9 (y.d.kws K))) = true := c2
      exact ⟨oc, od, n7, n8, n9, n10, n11, n12, n13, n14, osl, rfl, h7, (He.ba c3).1, kp, (He.ba (He.ba c3).2).1⟩
    | _ => cases c2
theorem SaysY.def_ (c : SaysY fa fn K) (i : Nat) {y : DefY} (h : fn[i]? = some y := by rfl) (hc : y.cl = [] := by rfl) : ∃ fd, FunD K y.d.name y.d.qual y.d.params y.d.body y.d.scope (y.d.dvs K) (y.d.kws K) (He.fAd K y.d.at_) fd := by
  obtain ⟨e, ok⟩ := c.at_ i h
  refine He.DefD.funD ?_ ok
  obtain ⟨oc, od, cl, dV, kV, doc, pm, an, cdv, ct, osl, lk, ec, _⟩ := DefY.here e ok
  rw [hc] at ec
  cases cl with
  | nil =>
    show He.fnW K y.d.at_ = _
    unfold He.fnW
    rw [lk]
    rfl
  | cons a b => cases ec
end
/-! ### several runs -/
section
open PySem.W HandSHeadRun
theorem obsY_app {fa fb : List Fct} {fn gn : List DefY} {K : PySem.W.Frag} (h : obsY fa fn K = valY fn) (k : obsY fb gn K = valY gn) : obsY (fa ++ fb) (fn ++ gn) K = valY (fn ++ gn) := by
  have a := He.ba (show ((fa.all fun f => f K) && fn.all fun y => y.d.ok K) = true from congrArg (fun z : AlY => z.1) h)
  have b := He.ba (show ((fb.all fun f => f K) && gn.all fun y => y.d.ok K) = true from congrArg (fun z : AlY => z.1) k)
  have h2 : fn.map (fun y => fnV K y.d.at_) = fn.map DefY.val := congrArg (fun z : AlY => z.2) h
  have k2 : gn.map (fun y => fnV K y.d.at_) = gn.map DefY.val := congrArg (fun z : AlY => z.2) k
  show (((fa ++ fb).all fun f => f K) && (fn ++ gn).all fun y => y.d.ok K, (fn ++ gn).map fun y => fnV K y.d.at_) = (true, (fn ++ gn).map DefY.val)
  rw [List.all_append, List.all_append, a.1, a.2, b.1, b.2, List.map_append, List.map_append, h2, k2]
  rfl
def RunPartY (r : OpenRow) (n M : Nat) (fa : List Fct) (fn : List DefY) (w : World) : Prop := ∀ os : OsState, (endF (stepQ (denQ tabQ) r.prog w) M r.prog w os).map (fun s => obsYG n fa fn (getT s)) = some (valY fn)
def RunLooksY (r : OpenRow) (q : Program) (M : Nat) (loose : List PySem.Str) (w : World) : Prop := ∀ os : OsState, (endF (stepQ (denQ tabQ) r.prog w) M r.prog w os).map (fun s => (looksF r.prog (boot_heap w.params) s.abs, seenQ q loose (importedModules r.prog.main.body) (fun s => xlAt q [] s && recOk r.toRowW.records s) s.abs)) = some (true, openGood q loose)
theorem RunPartY.app {r : OpenRow} {n M : Nat} {fa fb : List Fct} {fn gn : List DefY} {w : World} (h : RunPartY r n M fa fn w) (k : RunPartY r n M fb gn w) : RunPartY r n M (fa ++ fb) (fn ++ gn) w := fun os => by
  have h' := h os
  have k' := k os
  cases e : endF (stepQ (denQ tabQ) r.prog w) M r.prog w os with
  | none =>
    rw [e] at h'
    cases h'
  | some s =>
    rw [e] at h' k'
    exact congrArg some (obsY_app (Option.some.inj h') (Option.some.inj k'))
theorem runY_of {r : OpenRow} {q : Program} {n M : Nat} {loose : List PySem.Str} {fa : List Fct} {fn : List DefY} {w : World} (h : RunLooksY r q M loose w) (k : RunPartY r n M fa fn w) : RunEq r q (hookY n fa fn) (fun s => obsYG n fa fn (getT s)) M loose w := fun os => by
  have h' := h os
  have k' := k os
  cases e : endF (stepQ (denQ tabQ) r.prog w) M r.prog w os with
  | none =>
    rw [e] at h'
    cases h'
  | some s =>
    rw [e] at h' k'
    have h1 := Option.some.inj h'
    have k1 : obsYG n fa fn (getT s) = valY fn := Option.some.inj k'
    refine congrArg some ?_
    show (looksF r.prog (boot_heap w.params) s.abs, seenQ q loose (importedModules r.prog.main.body) (fun s => xlAt q [] s && recOk r.toRowW.records s) s.abs, obsYG n fa fn (getT s)) = (true, openGood q loose, valY fn)
    rw [k1, (Prod.mk.inj h1).1, (Prod.mk.inj h1).2]
end
/-! ### own exceptions -/
/-- an own exception with fields, under its name: ps are the parameters of its __init__, st the def -/
structure XTn (P : Program) (K : PySem.W.Frag) (mg : Str → Option Value) (x qual : Str) (ps : List Str) (st : Stmt) (D fI : Addr) (fdI : FuncData) (cc cda : Addr) : Prop where
  g : mg x = some (.ref D)
  T : OexC K D
  iC : PySem.W.findIn K (.ref D) "__init__" = some (some (.ref fI))
  tI : PySem.W.typeIn K (.ref fI) = some (.type "function")
  F : XFun P K qual st D fI fdI cc cda
  b : Binds K fdI (("self" : Str) :: ps) []
  sup : mg "super" = none
  no : ∀ f ∈ ps, PySem.W.findIn K (.ref D) f = some none
  E : ExcC K D
  X : XfC K D
section
variable {K : PySem.W.Frag} {D : Addr}
def oexB (K : PySem.W.Frag) (D : Addr) : Bool := match K.lookup D with
  | some ⟨.type t, _, .cls cd, sl⟩ => t == "type" && (cd.hasDict && (!cd.hasDel && (match cd.mro, sl.toList with
    | .ref C' :: bm, [_, _, _, _, some (.builtin n), _] => C' == D && (n == "ValueError.__new__" && PySem.HandSPX.refsVE bm)
    | _, _ => false)))
  | _ => false
theorem oexB_ok (hz : oexB K D = true) : ∃ nm q N bs bm sn sub ab col dd k0 k1 k2 k3 k5, K.lookup D = some (excClassObj nm q D N bs bm true sn sub ab col dd k0 k1 k2 k3 k5 "ValueError.__new__") ∧ PySem.HandSPX.refsVE bm = true := by
  unfold oexB at hz
  split at hz
  · rename_i t dd cd sl hl
    obtain ⟨h1, ha⟩ := He.ba hz
    obtain ⟨h2, hb⟩ := He.ba ha
    obtain ⟨h3, hc⟩ := He.ba hb
    clear ha hb hz
    obtain ⟨nm, bs, mro, N, q, hdct, sn, sub, ab, col, hdel⟩ := cd
    obtain ⟨sl⟩ := sl
    have e2 : hdct = true := h2
    have e3 : hdel = false := by
      cases hdel with
      | false => rfl
      | true => cases h3
    subst e2 e3
    have e1 : t = "type" := by simpa using h1
    subst e1
    split at hc
    · rename_i C' bm k0 k1 k2 k3 n k5 hm hs
      obtain ⟨h4, hd⟩ := He.ba hc
      obtain ⟨h5, h6⟩ := He.ba hd
      have e4 : C' = D := by simpa using h4
      have e5 : n = "ValueError.__new__" := by simpa using h5
      subst e4 e5
      have hm : mro = .ref C' :: bm := hm
      have hs : sl = [k0, k1, k2, k3, some (.builtin "ValueError.__new__"), k5] := hs
      subst hm hs
      exact ⟨nm, q, N, bs, bm, sn, sub, ab, col, dd, k0, k1, k2, k3, k5, hl, h6⟩
    · cases hc
  · cases hz
/-- the facts of an own exception over ValueError, with or without an __init__ of its own -/
def excB (K : PySem.W.Frag) (D : Addr) : Bool := decide (PySem.W.findIn K (.ref D) "__getattribute__" = some (some (.builtin "BaseException.__getattribute__"))) && (decide (PySem.W.findIn K (.ref D) "__getattr__" = some none) && (decide (PySem.W.subIn K (.ref D) (.type "BaseException") = some true) && (PySem.W.hasDictIn K D &&
  (decide (PySem.W.findIn K (.ref D) "__class__" = some (some (.builtin "object.__class__"))) && (decide (PySem.W.specialIn K (.builtin "object.__class__") "__get__" = some (some (.builtin "getset_descriptor.__get__"))) && (decide (PySem.W.takesIn K (.builtin "object.__class__") = some true) && decide (PySem.W.mroIn K D (.type "object") = some true)))))))
theorem excB_ok (h : excB K D = true) : ExcC K D ∧ XfC K D := by
  obtain ⟨h1, h⟩ := He.ba h
  obtain ⟨h2, h⟩ := He.ba h
  obtain ⟨h3, h⟩ := He.ba h
  obtain ⟨h4, h⟩ := He.ba h
  obtain ⟨h5, h⟩ := He.ba h
  obtain ⟨h6, h⟩ := He.ba h
  obtain ⟨h7, h8⟩ := He.ba h
  exact ⟨⟨of_decide_eq_true h1, of_decide_eq_true h2, of_decide_eq_true h3, h4, of_decide_eq_true h5, of_decide_eq_true h6, of_decide_eq_true h7, of_decide_eq_true h8⟩, ⟨of_decide_eq_true h1, of_decide_eq_true h2, of_decide_eq_true h3, h4⟩⟩
/-- the cell's place, the code's place, of a def that holds its class -/
def ccOf (K : PySem.W.Frag) (f : Addr) : Addr := match K.lookup f with
  | some ⟨_, _, .func fd, _⟩ => (match fd.closure with | [(_, a)] => a | _ => 0)
  | _ => 0
def cdOf (K : PySem.W.Frag) (f : Addr) : Addr := match K.lookup f with
  | some ⟨_, _, .func fd, _⟩ => (match fd.code with | .ref a => a | _ => 0)
  | _ => 0
def codeB (K : PySem.W.Frag) (file : Str) (c : Addr) : Bool := match K.lookup c with
  | some ⟨_, _, .fields vs, _⟩ => (match (vs[2]? : Option Value) with | some (.str z _) => file == z | _ => false)
  | _ => false
def cellB (K : PySem.W.Frag) (c D : Addr) : Bool := match K.lookup c with
  | some ⟨_, _, .cell (some (.ref a)), _⟩ => a == D
  | _ => false
def xtB (file x : Str) (ps : List Str) (K : PySem.W.Frag) : Bool := oexB K (He.ga K x) && (excB K (He.ga K x) && (codeB K file (cdOf K (He.ma K (He.ga K x) "__init__")) && (cellB K (ccOf K (He.ma K (He.ga K x) "__init__")) (He.ga K x) &&
  (decide (PySem.W.findIn K (.ref (He.ga K x)) "__setattr__" = some (some (.builtin "object.__setattr__"))) && (decide (PySem.W.typeIn K (.ref (He.ga K x)) = some (.type "type")) && (PySem.W.keepIn K (.ref (He.ga K x)) &&
  (decide (PySem.W.findIn K (.ref (He.ga K x)) "__init__" = some (some (.ref (He.ma K (He.ga K x) "__init__")))) && (decide (PySem.W.typeIn K (.ref (He.ma K (He.ga K x) "__init__")) = some (.type "function")) &&
  (decide (PySem.W.ks_superIn K (He.ga K x) (He.ga K x) "__init__" = some (some (.builtin "ValueError.__init__"))) && (decide (PySem.W.mroIn K (He.ga K x) (.ref (He.ga K x)) = some true) && (decide (PySem.W.subIn K (.ref (He.ga K x)) (.type "ValueError") = some true) &&
  (decide (PySem.W.nsIn K cStatics "thirdparty.any" = some none) && (ps.all fun f => decide (PySem.W.findIn K (.ref (He.ga K x)) f = some none))))))))))))))
theorem xtB_ok {P : Program} {mg : Str → Option Value} {x : Str} {ps : List Str} {st : Stmt} {qual file : Str} (hf : P.main.file = file) (htop : (P.main.scope.names.lookup ("super" : Str)).isSome = false) (g : mg x = some (.ref (He.ga K x))) (sup : mg "super" = none) (h : xtB file x ps K = true)
    {y : DefY} (e : fnV K y.d.at_ = y.val) (c : y.d.ok K = true) (ey : y = ⟨⟨(x, some "__init__"), "__init__", qual, defArgs st, defBody st, defScope st, [], []⟩, ["__class__"]⟩)
    (hb : ∀ (cc : Addr) (kV doc pm : Value) (an : Option Addr) (cdv ct : Value) (us : List Value), us.length = (("self" : Str) :: ps).length → bindArgs (PySem.W.fnX "__init__" qual (defArgs st) (defBody st) (defScope st) [("__class__", cc)] .none kV doc pm an cdv ct) ⟨us, []⟩ = pure ((("self" : Str) :: ps).zip us)) :
    ∃ fd, XTn P K mg x qual ps st (He.ga K x) (He.ma K (He.ga K x) "__init__") fd (ccOf K (He.ma K (He.ga K x) "__init__")) (cdOf K (He.ma K (He.ga K x) "__init__")) := by
  subst ey
  obtain ⟨h1, h⟩ := He.ba h
  obtain ⟨h2, h⟩ := He.ba h
  obtain ⟨h3, h⟩ := He.ba h
  obtain ⟨h4, h⟩ := He.ba h
  obtain ⟨h5, h⟩ := He.ba h
  obtain ⟨h6, h⟩ := He.ba h
  obtain ⟨h7, h⟩ := He.ba h
  obtain ⟨h8, h⟩ := He.ba h
  obtain ⟨h9, h⟩ := He.ba h
  obtain ⟨h10, h⟩ := He.ba h
  obtain ⟨h11, h⟩ := He.ba h
  obtain ⟨h12, h⟩ := He.ba h
  obtain ⟨h13, h14⟩ := He.ba h
  obtain ⟨E, Xf⟩ := excB_ok h2
  obtain ⟨oc, od, cl, dV, kV, doc, pm, an, cdv, ct, osl, lk, ec, hcd, kp, dfl⟩ := DefY.here e c
  obtain rfl : dV = .none := ((He.dflB_ok dfl).resolve_right fun z => z.1 rfl).2
  have lk : K.lookup (He.ma K (He.ga K x) "__init__") = some ⟨oc, od, .func (PySem.W.fnX "__init__" qual (defArgs st) (defBody st) (defScope st) cl .none kV doc pm an cdv ct), osl⟩ := lk
  obtain ⟨cc, rfl⟩ : ∃ cc, cl = [(("__class__" : Str), cc)] := by
    match cl, ec with
    | [(a, b)], ec =>
      have : a = ("__class__" : Str) := (List.cons.inj ec).1
      exact ⟨b, by rw [this]⟩
  have ecc : ccOf K (He.ma K (He.ga K x) "__init__") = cc := by
    unfold ccOf
    rw [lk]
  have hcd : PySem.W.codeIn K cdv qual = true := hcd
  obtain ⟨cda, rfl⟩ : ∃ cda, cdv = .ref cda := by
    unfold PySem.W.codeIn at hcd
    split at hcd
    · exact ⟨_, rfl⟩
    · cases hcd
  have ecd : cdOf K (He.ma K (He.ga K x) "__init__") = cda := by
    unfold cdOf
    rw [lk]
  rw [ecd] at h3 ⊢
  rw [ecc] at h4 ⊢
  refine ⟨_, g, ⟨oexB_ok h1, of_decide_eq_true h5, E.hs, of_decide_eq_true h6, h7⟩, of_decide_eq_true h8, of_decide_eq_true h9, ⟨⟨.none, kV, doc, pm, an, ct, rfl⟩, ⟨⟨oc, od, osl, lk⟩, ?_, ?_, of_decide_eq_true h10, of_decide_eq_true h11, of_decide_eq_true h12, of_decide_eq_true h13, htop⟩, hcd⟩, .all fun us hl => hb _ _ _ _ _ _ _ us hl, sup, fun f hf => of_decide_eq_true (List.all_eq_true.mp h14 f hf), E, Xf⟩
  · unfold codeB at h3
    split at h3
    · rename_i a1 a2 vs a3 hl
      split at h3
      · rename_i z tz hz
        exact ⟨a1, a2, vs, a3, z, tz, hl, hz, by rw [hf]; exact h3⟩
      · cases h3
    · cases h3
  · unfold cellB at h4
    split at h4
    · rename_i a1 a2 a a3 hl
      have : a = He.ga K x := by simpa using h4
      subst this
      exact ⟨a1, a2, a3, hl⟩
    · cases h4
end
end Lf

set_option linter.all false
/-! Lowest terms: plain arithmetic. -/
namespace Lf
/-- the fraction of two whole numbers, d not 0 -/
def low (n d : Int) : Int × Int := ((n * d.sign) / (Nat.gcd n.natAbs d.natAbs : Nat), (d.natAbs : Int) / (Nat.gcd n.natAbs d.natAbs : Nat))
def IsLow (t b : Int) : Prop := 0 < b ∧ Nat.Coprime t.natAbs b.natAbs
theorem gcd_pos {n d : Int} (h : d ≠ 0) : 0 < Nat.gcd n.natAbs d.natAbs := Nat.gcd_pos_of_pos_right _ (by omega)
theorem low_parts {n d : Int} (h : d ≠ 0) : ∃ (u : Int) (v : Nat), n * d.sign = u * (Nat.gcd n.natAbs d.natAbs : Nat) ∧ d.natAbs = v * Nat.gcd n.natAbs d.natAbs ∧ low n d = (u, (v : Int)) ∧ 0 < v ∧ Nat.Coprime u.natAbs v := by
  have hg := gcd_pos (n := n) h
  obtain ⟨v, hv⟩ := Nat.gcd_dvd_right n.natAbs d.natAbs
  obtain ⟨u, hu⟩ : ∃ u : Int, n * d.sign = (Nat.gcd n.natAbs d.natAbs : Nat) * u := by
    obtain ⟨x, hx⟩ := Nat.gcd_dvd_left n.natAbs d.natAbs
    rcases Int.natAbs_eq n with e | e
    · exact ⟨x * d.sign, by rw [← Int.mul_assoc, ← Int.natCast_mul, ← hx, ← e]⟩
    · exact ⟨-(x : Int) * d.sign, by rw [← Int.mul_assoc, Int.mul_neg, ← Int.natCast_mul, ← hx, ← e]⟩
  have hn : n.natAbs = Nat.gcd n.natAbs d.natAbs * u.natAbs := by
    have := congrArg Int.natAbs hu
    rw [Int.natAbs_mul, Int.natAbs_mul, Int.natAbs_sign_of_ne_zero h, Nat.mul_one, Int.natAbs_natCast] at this
    exact this
  have hvp : 0 < v := by
    rcases Nat.eq_zero_or_pos v with e | e
    · rw [e, Nat.mul_zero] at hv
      omega
    · exact e
  have hgi : ((Nat.gcd n.natAbs d.natAbs : Nat) : Int) ≠ 0 := by omega
  refine ⟨u, v, by rw [hu, Int.mul_comm], by rw [Nat.mul_comm]; exact hv, ?_, hvp, ?_⟩
  · unfold low
    rw [hu, Int.mul_ediv_cancel_left _ hgi]
    have : (d.natAbs : Int) = (Nat.gcd n.natAbs d.natAbs : Nat) * (v : Int) := by rw [← Int.natCast_mul, ← hv]
    rw [this, Int.mul_ediv_cancel_left _ hgi]
  · have e : Nat.gcd n.natAbs d.natAbs = Nat.gcd n.natAbs d.natAbs * Nat.gcd u.natAbs v := by
      rw [← Nat.gcd_mul_left, ← hn, ← hv]
    have e' : Nat.gcd n.natAbs d.natAbs * 1 = Nat.gcd n.natAbs d.natAbs * Nat.gcd u.natAbs v := by rw [Nat.mul_one]; exact e
    exact (Nat.eq_of_mul_eq_mul_left hg e').symm
theorem sign_mul_natAbs' (d : Int) : d.sign * (d.natAbs : Int) = d := Int.sign_mul_natAbs d
theorem low_is {n d : Int} (h : d ≠ 0) : IsLow (low n d).1 (low n d).2 := by
  obtain ⟨u, v, _, _, e, hv, hc⟩ := low_parts (n := n) h
  rw [e]
  exact ⟨by show (0 : Int) < v; omega, hc⟩
theorem low_cross {n d : Int} (h : d ≠ 0) : (low n d).1 * d = n * (low n d).2 := by
  obtain ⟨u, v, h1, h2, e, hv, hc⟩ := low_parts (n := n) h
  rw [e]
  show u * d = n * v
  have hg := gcd_pos (n := n) h
  have hgi : ((Nat.gcd n.natAbs d.natAbs : Nat) : Int) ≠ 0 := by omega
  have hs : d.sign * d.sign = 1 := by
    rcases Int.lt_or_gt_of_ne h with q | q
    · rw [Int.sign_eq_neg_one_of_neg q]
      rfl
    · rw [Int.sign_eq_one_of_pos q]
      rfl
  have ed : d = d.sign * ((v : Int) * (Nat.gcd n.natAbs d.natAbs : Nat)) := by
    rw [← Int.natCast_mul, ← h2]
    exact (sign_mul_natAbs' d).symm
  have : (u * d) * ((Nat.gcd n.natAbs d.natAbs : Nat) : Int) = (n * v) * (Nat.gcd n.natAbs d.natAbs : Nat) := by
    have e1 : (u * d) * ((Nat.gcd n.natAbs d.natAbs : Nat) : Int) = (u * (Nat.gcd n.natAbs d.natAbs : Nat)) * d := by
      rw [Int.mul_assoc, Int.mul_assoc, Int.mul_comm d]
    rw [e1, ← h1]
    generalize hG : ((Nat.gcd n.natAbs d.natAbs : Nat) : Int) = G at *
    calc n * d.sign * d = n * d.sign * (d.sign * (v * G)) := by rw [← ed]
      _ = n * (d.sign * d.sign) * (v * G) := by simp only [Int.mul_assoc]
      _ = n * v * G := by rw [hs]; simp only [Int.mul_one, Int.mul_assoc]
  exact Int.eq_of_mul_eq_mul_right hgi this
theorem low_uniq {t b t' b' : Int} (h : IsLow t b) (h' : IsLow t' b') (e : t * b' = t' * b) : t = t' ∧ b = b' := by
  obtain ⟨hb, hc⟩ := h
  obtain ⟨hb', hc'⟩ := h'
  have e1 : t.natAbs * b'.natAbs = t'.natAbs * b.natAbs := by
    have := congrArg Int.natAbs e
    rwa [Int.natAbs_mul, Int.natAbs_mul] at this
  have d1 : b.natAbs ∣ b'.natAbs := by
    have q : b.natAbs ∣ t.natAbs * b'.natAbs := by
      rw [e1]
      exact Nat.dvd_mul_left _ _
    exact Nat.Coprime.dvd_of_dvd_mul_left hc.symm q
  have d2 : b'.natAbs ∣ b.natAbs := by
    have q : b'.natAbs ∣ t'.natAbs * b.natAbs := by
      rw [← e1]
      exact Nat.dvd_mul_left _ _
    exact Nat.Coprime.dvd_of_dvd_mul_left hc'.symm q
  have eb : b.natAbs = b'.natAbs := Nat.dvd_antisymm d1 d2
  have eb' : b = b' := by omega
  subst eb'
  exact ⟨Int.eq_of_mul_eq_mul_right (by omega) e, rfl⟩
/-- the fraction is the one in lowest terms -/
theorem low_eq {n d t b : Int} (h : d ≠ 0) (hl : IsLow t b) (e : t * d = n * b) : low n d = (t, b) := by
  have hi := low_is (n := n) h
  have hx := low_cross (n := n) h
  have key : (low n d).1 * b = t * (low n d).2 := by
    have q : ((low n d).1 * b) * d = (t * (low n d).2) * d := by
      calc ((low n d).1 * b) * d = ((low n d).1 * d) * b := by rw [Int.mul_assoc, Int.mul_comm b d, Int.mul_assoc]
        _ = (n * (low n d).2) * b := by rw [hx]
        _ = (n * b) * (low n d).2 := by rw [Int.mul_assoc, Int.mul_comm _ b, Int.mul_assoc]
        _ = (t * d) * (low n d).2 := by rw [e]
        _ = (t * (low n d).2) * d := by rw [Int.mul_assoc, Int.mul_comm d, Int.mul_assoc]
    exact Int.eq_of_mul_eq_mul_right h q
  obtain ⟨e1, e2⟩ := low_uniq hi hl key
  exact Prod.ext e1 e2
theorem low_self {t b : Int} (h : IsLow t b) : low t b = (t, b) := low_eq (by have := h.1; omega) h rfl
/-- bounds -/
theorem low_top_le {n d : Int} (h : d ≠ 0) : (low n d).1.natAbs ≤ n.natAbs := by
  obtain ⟨u, v, h1, h2, e, hv, hc⟩ := low_parts (n := n) h
  rw [e]
  show u.natAbs ≤ n.natAbs
  have hg := gcd_pos (n := n) h
  have := congrArg Int.natAbs h1
  rw [Int.natAbs_mul, Int.natAbs_mul, Int.natAbs_sign_of_ne_zero h, Nat.mul_one, Int.natAbs_natCast] at this
  rw [this]
  exact Nat.le_mul_of_pos_right _ hg
theorem low_bottom_le {n d : Int} (h : d ≠ 0) : (low n d).2.natAbs ≤ d.natAbs := by
  obtain ⟨u, v, h1, h2, e, hv, hc⟩ := low_parts (n := n) h
  rw [e]
  show (v : Int).natAbs ≤ d.natAbs
  have hg := gcd_pos (n := n) h
  rw [h2, Int.natAbs_natCast]
  exact Nat.le_mul_of_pos_right _ hg
/-- the program's way: over a bottom above 0 -/
theorem low_pos {n d : Int} (h : 0 < d) : low n d = (n / (Nat.gcd n.natAbs d.natAbs : Nat), d / (Nat.gcd n.natAbs d.natAbs : Nat)) := by
  unfold low
  rw [Int.sign_eq_one_of_pos h, Int.mul_one, show (d.natAbs : Int) = d by omega]
theorem low_neg (n d : Int) : low (-n) (-d) = low n d := by
  unfold low
  rw [Int.sign_neg, Int.natAbs_neg, Int.natAbs_neg, Int.neg_mul_neg]
/-- the law's way: by the greatest common one, below 0 where the bottom is -/
theorem low_fdiv_pos {n d : Int} (h : 0 < d) : (n.fdiv (Nat.gcd n.natAbs d.natAbs : Nat), d.fdiv (Nat.gcd n.natAbs d.natAbs : Nat)) = low n d := by
  rw [low_pos h, Int.fdiv_eq_ediv_of_nonneg _ (by omega), Int.fdiv_eq_ediv_of_nonneg _ (by omega)]
theorem low_fdiv_neg {n d : Int} (h : d < 0) : (n.fdiv (-(Nat.gcd n.natAbs d.natAbs : Nat)), d.fdiv (-(Nat.gcd n.natAbs d.natAbs : Nat))) = low n d := by
  have q := low_fdiv_pos (n := -n) (d := -d) (by omega)
  rw [Int.natAbs_neg, Int.natAbs_neg, low_neg] at q
  rw [← q, ← Int.neg_fdiv_neg, ← Int.neg_fdiv_neg d, Int.neg_neg]
/-- the sum less the other one is the one -/
theorem low_back {a b c d : Int} (hl : IsLow a b) (hd : 0 < d) :
    low ((low (a * d + c * b) (b * d)).1 * d - c * (low (a * d + c * b) (b * d)).2) ((low (a * d + c * b) (b * d)).2 * d) = (a, b) := by
  have hb := hl.1
  have h0 : b * d ≠ 0 := Int.ne_of_gt (Int.mul_pos hb hd)
  have hi := low_is (n := a * d + c * b) h0
  have hx := low_cross (n := a * d + c * b) h0
  generalize (low (a * d + c * b) (b * d)).1 = x at *
  generalize (low (a * d + c * b) (b * d)).2 = y at *
  refine low_eq (Int.ne_of_gt (Int.mul_pos hi.1 hd)) hl ?_
  have : x * (b * d) = x * d * b := by rw [Int.mul_comm b d, Int.mul_assoc]
  rw [this] at hx
  rw [Int.sub_mul, hx, Int.add_mul]
  have e1 : c * y * b = c * b * y := by rw [Int.mul_assoc, Int.mul_comm y b, Int.mul_assoc]
  have e2 : a * (y * d) = a * d * y := by rw [Int.mul_comm y d, Int.mul_assoc]
  rw [e1, e2]
  omega
/-- Euclid's steps keep the greatest common one -/
theorem gcd_step (a b : Int) (hb : 0 < b) (ha : 0 ≤ a) : Nat.gcd b.natAbs (a % b).natAbs = Nat.gcd a.natAbs b.natAbs := by
  have e : (a % b).natAbs = a.natAbs % b.natAbs := by
    rw [Int.natAbs_emod_of_nonneg ha]
  rw [e, Nat.gcd_comm b.natAbs, ← Nat.gcd_rec, Nat.gcd_comm]
end Lf

set_option Elab.async false
set_option linter.all false
set_option maxRecDepth 100000
set_option maxHeartbeats 4000000
set_option exponentiation.threshold 3000
/-! What repr shows of data, and that it fits. -/
namespace Lf
open PySem PySem.Spec PyProof.Rows L2
/-- below 2 ^ 900 -/
def Sm (n : Int) : Prop := n.natAbs < 2 ^ 900
theorem Sm.log {n : Int} (h : Sm n) : n.natAbs.log2 < 900 := PySem.Flt.log2_lt_of (by decide) h
theorem Sm.text {n : Int} (h : Sm n) : (Str.ofString (toString n)).length ≤ 901 := by
  rw [PySem.ofString_length]
  exact int_text_length_le (by decide) h.log
/-- data that can be shown: its weight, its depth -/
structure Ft (w k : Nat) (d : PyData) : Prop where
  sh : d.showable = true
  nd : d.hasDict = false
  dp : d.depth ≤ k
  lv : d.leavesShort 1000 = true
  wt : d.weight ≤ w
structure FtA (w k : Nat) (ds : List PyData) : Prop where
  sh : PyData.showableAll ds = true
  nd : PyData.hasDictAll ds = false
  dp : PyData.depthAll ds ≤ k
  lv : PyData.leavesShortAll 1000 ds = true
  wt : PyData.weightAll ds ≤ w
theorem Ft.int {n : Int} (h : Sm n) : Ft 900 0 (.int n) := by
  have hl := h.log
  refine ⟨?_, ?_, ?_, ?_, ?_⟩
  · simp only [PyData.showable, decide_eq_true_eq]
    omega
  · simp only [PyData.hasDict]
  · simp only [PyData.depth, Nat.le_refl]
  · simp only [PyData.leavesShort, decide_eq_true_eq, PyData.shown]
    exact decide_eq_true (Nat.le_trans h.text (show 901 ≤ 1000 by decide))
  · simp only [PyData.weight]
    split <;> omega
theorem Ft.bool (b : Bool) : Ft 0 0 (.bool b) := ⟨by simp only [PyData.showable], by simp only [PyData.hasDict], by simp only [PyData.depth, Nat.le_refl], by simp only [PyData.leavesShort], by simp only [PyData.weight, Nat.le_refl]⟩
theorem Ft.none : Ft 0 0 .none := ⟨by simp only [PyData.showable], by simp only [PyData.hasDict], by simp only [PyData.depth, Nat.le_refl], by simp only [PyData.leavesShort], by simp only [PyData.weight, Nat.le_refl]⟩
/-- a text whose signs are signs -/
def Sg (x : Str) : Prop := ∀ c ∈ x.cps.toList, c < 16 ^ 8
theorem Sg.of (s : String) : Sg (Str.ofString s) := by
  intro c hc
  rw [Str.ofString_eq_toList] at hc
  obtain ⟨ch, _, rfl⟩ := List.mem_map.mp (show c ∈ s.toList.map Char.toNat from hc)
  exact ch.val.toNat_lt
theorem Sg.app {x y : Str} (h : Sg x) (k : Sg y) : Sg (x ++ y) := by
  intro c hc
  have e : (x ++ y).cps.toList = x.cps.toList ++ y.cps.toList := by
    rw [show (x ++ y).cps = x.cps ++ y.cps from rfl, Array.toList_append]
  rw [e] at hc
  rcases List.mem_append.mp hc with q | q
  · exact h c q
  · exact k c q
theorem Ft.str {w : Nat} {x : Str} (h : Sg x) (hw : x.length ≤ w) : Ft w 0 (.str x) := ⟨by simp only [PyData.showable], by simp only [PyData.hasDict], by simp only [PyData.depth, Nat.le_refl],
  by simp only [PyData.leavesShort, List.all_eq_true, decide_eq_true_eq]; exact h, by simp only [PyData.weight]; exact hw⟩
theorem FtA.nil : FtA 0 0 [] := ⟨by simp only [PyData.showableAll], by simp only [PyData.hasDictAll], by simp only [PyData.depthAll, Nat.le_refl], by simp only [PyData.leavesShortAll], by simp only [PyData.weightAll, Nat.le_refl]⟩
theorem FtA.cons {w k w' k' : Nat} {d : PyData} {ds : List PyData} (h : Ft w k d) (r : FtA w' k' ds) : FtA (w + 1 + w') (max k k') (d :: ds) := by
  refine ⟨?_, ?_, ?_, ?_, ?_⟩
  · simp only [PyData.showableAll, h.sh, r.sh, Bool.and_self]
  · simp only [PyData.hasDictAll, h.nd, r.nd, Bool.or_self]
  · simp only [PyData.depthAll]
    have := h.dp
    have := r.dp
    omega
  · simp only [PyData.leavesShortAll, h.lv, r.lv, Bool.and_self]
  · simp only [PyData.weightAll]
    have := h.wt
    have := r.wt
    omega
theorem Ft.list {w k : Nat} {ds : List PyData} (r : FtA w k ds) : Ft w (k + 1) (.list ds) :=
  ⟨by simp only [PyData.showable]; exact r.sh, by simp only [PyData.hasDict]; exact r.nd, by simp only [PyData.depth]; exact Nat.succ_le_succ r.dp, by simp only [PyData.leavesShort]; exact r.lv, by simp only [PyData.weight]; exact r.wt⟩
theorem Ft.tuple {w k : Nat} {ds : List PyData} (r : FtA w k ds) : Ft w (k + 1) (.tuple ds) :=
  ⟨by simp only [PyData.showable]; exact r.sh, by simp only [PyData.hasDict]; exact r.nd, by simp only [PyData.depth]; exact Nat.succ_le_succ r.dp, by simp only [PyData.leavesShort]; exact r.lv, by simp only [PyData.weight]; exact r.wt⟩
/-- what repr asks -/
structure Showy (d : PyData) : Prop where
  sh : d.showable = true
  nd : d.hasDict = false
  dp : d.depth ≤ 30
  ln : d.shown.length ≤ sizeLine
theorem Ft.showy {w k : Nat} {d : PyData} (h : Ft w k d) (hk : k ≤ 30 := by decide) (hw : w ≤ 16000 := by decide) : Showy d := by
  refine ⟨h.sh, h.nd, Nat.le_trans h.dp hk, ?_⟩
  have e := PyData.shown_le 1000 (by decide) d h.lv
  have e2 := h.wt
  have e3 : (1000 + 2) * d.weight ≤ 1002 * 16000 := Nat.mul_le_mul (Nat.le_refl _) (Nat.le_trans e2 hw)
  have e4 := sizeLine_eq
  omega
/-- a fraction -/
def tD (t : Int × Int) : PyData := .tuple [.int t.1, .int t.2]
theorem Ft.two {t : Int × Int} (h : Sm t.1) (k : Sm t.2) : Ft 1802 1 (tD t) := Ft.tuple (.cons (.int h) (.cons (.int k) .nil))
theorem dp2 {K : PySem.W.Frag} {H : Hp} {p : Addr} {x y : Int} (h : SqT K H p [.int x, .int y]) : Dp K H (.ref p) (tD (x, y)) := .tup h (.cons (.int x) (.cons (.int y) .nil))
theorem dp2' {K : PySem.W.Frag} {H : Hp} {p : Addr} {t : Int × Int} (h : H p = some (.tup [.int t.1, .int t.2])) : Dp K H (.ref p) (tD t) := .tup (.inl (.inl h)) (.cons (.int _) (.cons (.int _) .nil))
mutual
theorem Dp.same {K : PySem.W.Frag} {H H' : Hp} (s : Same H H') : ∀ (d : PyData) (v : V), Dp K H v d → Dp K H' v d
  | .none, _, h => by cases h; exact .non
  | .bool b, _, h => by cases h; exact .bl b
  | .int i, _, h => by cases h; exact .int i
  | .str x, _, h => by cases h; exact .str x
  | .list ds, _, h => by
    cases h with
    | lst h1 h2 => exact .lst (s.seq h1) (DpAll.same s ds _ h2)
  | .tuple ds, _, h => by
    cases h with
    | tup h1 h2 =>
      refine .tup ?_ (DpAll.same s ds _ h2)
      rcases h1 with (h | ⟨o, h⟩) | h
      · exact .inl (.inl (s _ _ h))
      · exact .inl (.inr ⟨o, s _ _ h⟩)
      · exact .inr h
  | .dict _, _, h => by cases h
theorem DpAll.same {K : PySem.W.Frag} {H H' : Hp} (s : Same H H') : ∀ (ds : List PyData) (vs : List V), DpAll K H vs ds → DpAll K H' vs ds
  | [], _, h => by cases h; exact .nil
  | d :: ds, _, h => by
    cases h with
    | cons h1 h2 => exact .cons (Dp.same s d _ h1) (DpAll.same s ds _ h2)
end
end Lf

set_option Elab.async false
set_option linter.all false
set_option maxRecDepth 100000
set_option maxHeartbeats 4000000
namespace Lf
open PySem PySem.Spec PyProof.Rows L2
theorem same_new {H : Hp} {p : Addr} {o : HO} (h : H p = none) : Same H (upd H p o) := fun b x e => by
  rw [upd_ne (ne_of_none e h)]
  exact e
theorem same_rfl {H : Hp} : Same H H := fun _ _ e => e
theorem bt_abs : bootBuiltins "abs" = some (.builtin "abs") := by decide +kernel
theorem bt_len : bootBuiltins "len" = some (.builtin "len") := by decide +kernel
theorem bt_max : bootBuiltins "max" = some (.builtin "max") := by decide +kernel
theorem bt_min : bootBuiltins "min" = some (.builtin "min") := by decide +kernel
theorem bt_divmod : bootBuiltins "divmod" = some (.builtin "divmod") := by decide +kernel
theorem bt_repr : bootBuiltins "repr" = some (.builtin "repr") := by decide +kernel
theorem bt_all : bootBuiltins "all" = some (.builtin "all") := by decide +kernel
theorem bt_int : bootBuiltins "int" = some (.type "int") := by decide +kernel
theorem bt_str : bootBuiltins "str" = some (.type "str") := by decide +kernel
/-- the built-in names that nothing of the text hides -/
structure Blt (mg : Str → Option Value) : Prop where
  abs : mg "abs" = none
  len : mg "len" = none
  max : mg "max" = none
  min : mg "min" = none
  divmod : mg "divmod" = none
  repr : mg "repr" = none
  all : mg "all" = none
  int : mg "int" = none
  str : mg "str" = none
  range : mg "range" = none
/-- an own class under ValueError -/
structure ExT (K : PySem.W.Frag) (mg : Str → Option Value) (x : Str) (C : Addr) : Prop where
  g : mg x = some (.ref C)
  x : PySem.W.excIn K C [.type "ValueError", .type "Exception", .type "BaseException", .type "object"] "ValueError.__new__" = true
  k : PySem.W.keepIn K (.ref C) = true
  b : PySem.W.subIn K (.ref C) (.type "BaseException") = some true
  t : PySem.W.typeIn K (.ref C) = some (.type "type")
  m : PySem.W.exmOne K (.ref C) (.ref C) = some true
section
variable {K : PySem.W.Frag} {H : Hp} {p : Addr} {x y : V} {Q : VK}
theorem ixT0 (h : SqT K H p [x, y]) (q : Q x H) : rIxT K (.ref p) (.int 0) H Q := ⟨p, _, 0, _, rfl, rfl, h, rfl, q⟩
theorem ixT1 (h : SqT K H p [x, y]) (q : Q y H) : rIxT K (.ref p) (.int 1) H Q := ⟨p, _, 1, _, rfl, rfl, h, rfl, q⟩
theorem ixL0 (h : SqL K H p [x, y]) (q : Q x H) : rIxL K (.ref p) (.int 0) H Q := ⟨p, _, 0, _, rfl, rfl, h, rfl, q⟩
theorem ixL1 (h : SqL K H p [x, y]) (q : Q y H) : rIxL K (.ref p) (.int 1) H Q := ⟨p, _, 1, _, rfl, rfl, h, rfl, q⟩
theorem tup2 {a b : V} (q : ∀ p, H p = none → Q (.ref p) (upd H p (.tup [a, b]))) : [a, b].length ≤ sizeLine ∧ ∀ p, H p = none → Q (.ref p) (upd H p (.tup [a, b])) := ⟨by show 2 ≤ sizeLine; decide, q⟩
theorem lst2 {a b : V} (q : ∀ p, H p = none → Q (.ref p) (upd H p (.lst [a, b]))) : [a, b].length ≤ sizeLine ∧ ∀ p, H p = none → Q (.ref p) (upd H p (.lst [a, b])) := ⟨by show 2 ≤ sizeLine; decide, q⟩
end
theorem sm_t {K : PySem.W.Frag} {H H' : Hp} {a : Addr} {xs : List V} (s : Same H H') (h : SqT K H a xs) : SqT K H' a xs := by
  rcases h with (h | ⟨o, h⟩) | h
  · exact .inl (.inl (s _ _ h))
  · exact .inl (.inr ⟨o, s _ _ h⟩)
  · exact .inr h
def topS (i : Nat) : Stmt := PySem.Challenge.pw_loafshares_k16_refusals_told_apart.main.body.getD i (.Pass ⟨0, 0, 0, 0⟩)
section
variable {P : Program} {w : World} {K : PySem.W.Frag} {mg : Str → Option Value} {base : Heap}
/-! ### common -/
abbrev sCom : Stmt := topS 35
theorem scCom : FnScope ["one", "other"] ["one", "other"] (defScope sCom) := ⟨rfl, rfl, rfl, by decide +kernel, rfl, by decide +kernel, by decide +kernel⟩
def spCom : Sp := fun vs H Q _ => ∃ (a b : Int), vs = [.int a, .int b] ∧ 0 ≤ a ∧ 0 ≤ b ∧ Q (.int (Nat.gcd a.natAbs b.natAbs : Nat)) H
theorem ok_com {f : Addr} {fd : FuncData} (F : Fun K "common" "common" sCom f fd) : FnG P w K mg base CX0 1 f fd ["one", "other"] spCom := by
  refine Gfun F scCom (fun vs H Q E h => ?_) (fun cdv A outer s H vs Q E hg hr h => ?_)
  · obtain ⟨a, b, rfl, _⟩ := h
    rfl
  · obtain ⟨a, b, rfl, ha, hb, q⟩ := h
    refine ⟨_, pss_cons (ps_while PassesOwn.never (pt_cmpR op_ne (pv 1) pe_int (nomark _))
        (pss_one (ps_par (i := 0) (j := 1) rfl scCom.nd rfl rfl (by decide) rfl rfl (pa_cons (pv 1) (pa_cons (pe_op op_mod (pv 0) (pv 1)) pa_nil)) (by rfl))))
      (pss_one (ps_ret (pv 0))), ?_⟩
    refine while_by (fun σ H' => ∃ x y : Int, σ = [some (.int x), some (.int y)] ∧ 0 ≤ x ∧ 0 ≤ y ∧ Nat.gcd x.natAbs y.natAbs = Nat.gcd a.natAbs b.natAbs ∧ H' = H)
      (fun σ _ => match σ with | [_, some (.int y)] => y.toNat | _ => 0) ⟨a, b, rfl, ha, hb, rfl, rfl⟩ ?_ ?_
    · rintro σ H1 ⟨x, y, rfl, hx, hy, hg, rfl⟩
      refine ⟨_, rfl, rfl, _, rfl, ite2 (fun e => ?_) (fun e => ?_)⟩
      · have hy0 : y ≠ 0 := fun z => by
          rw [z] at e
          exact absurd e (by decide)
        have hyp : 0 < y := by omega
        refine ⟨_, rfl, _, rfl, _, rfl, x, y, rfl, rfl, hyp, _, _, rfl, ⟨y, x % y, rfl, hy, Int.emod_nonneg _ hy0, (gcd_step x y hyp hx).trans hg, rfl⟩, ?_⟩
        show (x % y).toNat < y.toNat
        have := Int.emod_lt_of_pos x hyp
        omega
      · have hy0 : y = 0 := by
          by_cases z : y = 0
          · exact z
          · exact absurd (by rw [decide_eq_false (fun q => z (V.int.inj q))]; rfl) e
        subst hy0
        refine ⟨_, rfl, ?_⟩
        rw [← hg, Int.natAbs_zero, Nat.gcd_zero_right] at q
        rw [show (x.natAbs : Int) = x by omega] at q
        exact q
    · rintro σ H1 Q1 Q2 hq ⟨u, hu, h1, h2, h3, h4⟩
      exact ⟨u, hu, h1, h2, h3, hq _ _ h4⟩
/-! ### fraction -/
abbrev sFrac : Stmt := topS 36
theorem scFrac : FnScope ["top", "bottom", "shared"] ["top", "bottom"] (defScope sFrac) := ⟨rfl, rfl, rfl, by decide +kernel, rfl, by decide +kernel, by decide +kernel⟩
/-- below 2 ^ 2000 -/
def Mid (n : Int) : Prop := n.natAbs < 2 ^ 2000
theorem Mid.log {n : Int} (h : Mid n) : n.natAbs.log2 < 9000 := Nat.lt_of_lt_of_le (PySem.Flt.log2_lt_of (by decide) h) (by decide)
/-- a new tuple of two ints -/
def Two (H : Hp) (Q : VK) (t : Int × Int) : Prop := ∀ H' p, Same H H' → H' p = some (.tup [.int t.1, .int t.2]) → Q (.ref p) H'
def spFrac (neg : Bool) : Sp := fun vs H Q _ => ∃ (n d : Int), vs = [.int n, .int d] ∧ d ≠ 0 ∧ (neg = false → 0 < d) ∧ Mid n ∧ Mid d ∧ Two H Q (low n d)
theorem gcd_mid {n d : Int} (h : d ≠ 0) (hd : Mid d) : Mid ((Nat.gcd n.natAbs d.natAbs : Nat) : Int) := by
  unfold Mid at hd ⊢
  rw [Int.natAbs_natCast]
  exact Nat.lt_of_le_of_lt (Nat.le_of_dvd (by omega) (Nat.gcd_dvd_right _ _)) hd
theorem abs_is (n : Int) : (if n < 0 then -n else n) = (n.natAbs : Int) := by
  split <;> omega
theorem ok_frac {j : Nat} {f : Addr} {fd : FuncData} {C : Addr} (neg : Bool) (R : Sp) (hR : ∀ n d H Q, d < 0 → spFrac neg [.int n, .int d] H Q E0 → R [.int (-n), .int (-d)] H Q E0) (M : Blt mg) (X : ExT K mg "NoFraction" C) (F : Fun K "fraction" "fraction" sFrac f fd)
    (C_common : Cal P w K mg base CX0 1 "common" ["one", "other"] spCom) (C_fraction : Cal P w K mg base CX0 (j + 1) "fraction" ["top", "bottom"] R) : FnG P w K mg base CX0 (j + 2) f fd ["top", "bottom"] (spFrac neg) := by
  refine Gfun F scFrac (fun vs H Q E h => ?_) (fun cdv A outer s H vs Q E hg hr h => ?_)
  · obtain ⟨a, b, rfl, _⟩ := h
    rfl
  · obtain ⟨n, d, rfl, hd, hneg, hn2, hd2, q⟩ := h
    refine ⟨_, pss_cons (ps_if (pt_cmpR op_eq (pv 1) pe_int (nomark _)) (pss_one (ps_raise rfl takes0 (pmk_own PySem.F.excBase_ValueError X.x X.g X.k (raises_own X.b X.t) rfl))) pss_nil)
      (pss_cons (ps_if (pt_cmpR op_lt (pv 1) pe_int (nomark _)) (pss_one (ps_ret (pe_g C_fraction (hr.mono (by omega)) hg (pa_cons (pe_un un_neg (pv 0)) (pa_cons (pe_un un_neg (pv 1)) pa_nil))))) pss_nil)
      (pss_cons (ps_set (i := 2) scFrac.nd rfl (.inl rfl) (pe_g C_common (hr.mono (by omega)) hg (pa_cons (pe_callB call_abs rfl M.abs bt_abs (pa_cons (pv 0) pa_nil)) (pa_cons (pv 1) pa_nil))))
      (pss_one (ps_ret (pe_tup (pa_cons (pe_op op_fdivN (pv 0) (pv 2)) (pa_cons (pe_op op_fdivN (pv 1) (pv 2)) pa_nil))))))), ?_⟩
    refine ⟨_, rfl, rfl, _, rfl, ite2 (fun e => ?_) (fun _ => ?_)⟩
    · exact absurd (V.int.inj (of_decide_eq_true e)) hd
    refine ⟨_, rfl, _, _, rfl, rfl, _, rfl, ite2 (fun e => ?_) (fun e => ?_)⟩
    · have e' : d < 0 := of_decide_eq_true e
      refine ⟨_, rfl, _, rfl, _, rfl, _, rfl, ?_⟩
      exact hR n d H Q e' ⟨n, d, rfl, hd, hneg, hn2, hd2, q⟩
    · have e' : 0 < d := by
        have : ¬ d < 0 := fun z => e (decide_eq_true z)
        omega
      refine ⟨_, rfl, _, rfl, _, rfl, _, d, rfl, ?_, Int.le_of_lt e', ?_⟩
      · rw [abs_is]
        omega
      · rw [abs_is, Int.natAbs_natCast]
        have hgz : ((Nat.gcd n.natAbs d.natAbs : Nat) : Int) ≠ 0 := by
          have := gcd_pos (n := n) hd
          omega
        have hm : CDivN n ((Nat.gcd n.natAbs d.natAbs : Nat) : Int) := ⟨hgz, (gcd_mid hd hd2).log⟩
        refine ⟨_, rfl, _, rfl, n, _, rfl, rfl, hm, _, rfl, _, rfl, d, _, rfl, rfl, hm, tup2 fun p hp => ?_⟩
        refine q _ p (same_new hp) ?_
        have := low_fdiv_pos (n := n) (d := d) e'
        rw [← this]
        exact upd_same
end
end Lf

set_option Elab.async false
set_option linter.all false
set_option maxRecDepth 100000
set_option maxHeartbeats 0
namespace Lf
open PySem PySem.Spec PyProof.Rows L2
def inCls (st : Stmt) (j : Nat) : Stmt := match st with
  | .ClassDef (body := b) .. => b.getD j (.Pass ⟨0, 0, 0, 0⟩)
  | _ => .Pass ⟨0, 0, 0, 0⟩
abbrev s_plus : Stmt := topS 37
abbrev s_over : Stmt := topS 38
abbrev s_is_less : Stmt := topS 40
abbrev s_is_whole : Stmt := topS 34
abbrev s_is_fraction : Stmt := topS 41
abbrev s_is_name : Stmt := topS 42
abbrev s_together : Stmt := topS 39
abbrev s_measure_or_none_of_it : Stmt := topS 46
abbrev s_is_measure : Stmt := topS 47
abbrev s_are_too_much : Stmt := topS 48
abbrev s_first_wrong : Stmt := topS 49
abbrev s_init : Stmt := inCls (topS 50) 0
abbrev s__law_cell : Stmt := topS 52
abbrev s__law_pot : Stmt := topS 53
abbrev s__law_draw : Stmt := topS 54
abbrev s__law_low : Stmt := topS 55
abbrev s__law_name : Stmt := topS 56
abbrev sx_NoStuff : Stmt := inCls (topS 3) 0
abbrev sx_NoName : Stmt := inCls (topS 8) 0
abbrev s_is_one_of : Stmt := topS 43
abbrev s_measure : Stmt := inCls (topS 50) 9
abbrev s__law_others : Stmt := topS 57
abbrev s__law_deed : Stmt := topS 58
abbrev s__law_told : Stmt := topS 59
abbrev s__law_word : Stmt := topS 60
abbrev s__law_right : Stmt := topS 61
abbrev s_law : Stmt := topS 62
def FILE : Str := "/claim/cut.py"
def hdFa_0 : List Fct := [fun K => (He.Fa.free "isinstance").ok K,
  fun K => (He.Fa.free "bool").ok K,
  fun K => (He.Fa.free "tuple").ok K,
  fun K => decide (PySem.W.specialIn K (.builtin "object.__class__") "__get__" = some (some (.builtin "getset_descriptor.__get__"))),
  fun K => decide (PySem.W.takesIn K (.builtin "object.__class__") = some true),
  fun K => (He.Fa.free "list").ok K,
  fun K => (He.Fa.free "set").ok K,
  fun K => (He.Fa.glo "NONE_OF_IT").ok K,
  fun K => He.tupB K "NONE_OF_IT" [.int 0, .int 1],
  fun K => (He.Fa.glo "ALL_OF_IT").ok K,
  fun K => He.tupB K "ALL_OF_IT" [.int 1, .int 1],
  fun K => (He.Fa.glo "WORDS").ok K,
  fun K => He.tupB K "WORDS" [.str "flour", .str "water", .str "salt", .str "thirst", .str "price"],
  fun K => match K.lookup (He.ga K "WORDS") with | some o => (match o.cls with | .type t => t == "tuple" | _ => false) && o.dict.isNone | none => false,
  fun K => (He.Fa.free "zip").ok K,
  fun K => (He.Fa.free "enumerate").ok K,
  fun K => (He.Fa.mkr "Stuff").ok K,
  fun K => (He.Fa.cls "Stuff").ok K,
  fun K => (He.Fa.noat "Stuff" "own_name").ok K,
  fun K => (He.Fa.noat "Stuff" "measures").ok K,
  fun K => decide (PySem.W.findIn K (.ref (He.ga K "Stuff")) "__class__" = some (some (.builtin "object.__class__"))),
  fun K => decide (PySem.W.mroIn K (He.ga K "Stuff") (.type "object") = some true),
  fun K => (He.Fa.glo "Stuff").ok K,
  fun K => (He.Fa.meth "Stuff" "measure").ok K,
  fun K => (He.Fa.glo "LoafError").ok K,
  fun K => (He.Fa.free "ValueError").ok K,
  xtB FILE "NoStuff" ["field"],
  fun K => (He.Fa.glo "NoStuff").ok K,
  fun K => (He.Fa.free "super").ok K,
  xtB FILE "NoName" ["who"],
  fun K => (He.Fa.glo "NoName").ok K,
  fun K => (He.Fa.exc "NoFraction").ok K,
  fun K => (He.Fa.exm "NoFraction" "NoFraction" true).ok K,
  fun K => excB K (He.ga K "NoFraction"),
  fun K => (He.Fa.glo "NoFraction").ok K,
  fun K => (He.Fa.glo "Dry").ok K,
  fun K => (He.Fa.glo "Lacking").ok K,
  fun K => (He.Fa.glo "Late").ok K,
  fun K => (He.Fa.glo "NoBy").ok K,
  fun K => (He.Fa.glo "NoCount").ok K,
  fun K => (He.Fa.glo "NoDough").ok K,
  fun K => (He.Fa.glo "NoFeel").ok K,
  fun K => (He.Fa.glo "NoFlour").ok K,
  fun K => (He.Fa.glo "NoHour").ok K,
  fun K => (He.Fa.glo "NoOrder").ok K,
  fun K => (He.Fa.glo "NoPan").ok K,
  fun K => (He.Fa.glo "NoRow").ok K,
  fun K => (He.Fa.glo "NoStep").ok K,
  fun K => (He.Fa.glo "NoTaken").ok K,
  fun K => (He.Fa.glo "NoText").ok K,
  fun K => (He.Fa.glo "NoWeight").ok K,
  fun K => (He.Fa.glo "NoWeights").ok K,
  fun K => (He.Fa.glo "NoWhole").ok K,
  fun K => (He.Fa.glo "Ring").ok K,
  fun K => (He.Fa.glo "Short").ok K,
  fun K => (He.Fa.glo "TooLittle").ok K,
  fun K => (He.Fa.glo "Twice").ok K,
  fun K => (He.Fa.glo "Uneven").ok K,
  fun K => (He.Fa.glo "Unknown").ok K,
  fun K => decide (PySem.W.kitAny K (.ref (He.ga K "NoFraction")) [.ref (He.ga K "Dry"), .ref (He.ga K "Lacking"), .ref (He.ga K "Late"), .ref (He.ga K "NoBy"), .ref (He.ga K "NoCount"), .ref (He.ga K "NoDough"), .ref (He.ga K "NoFeel"), .ref (He.ga K "NoFlour"), .ref (He.ga K "NoHour")] = some false),
  fun K => decide (PySem.W.kitAny K (.ref (He.ga K "NoFraction")) [.ref (He.ga K "NoOrder"), .ref (He.ga K "NoPan"), .ref (He.ga K "NoRow"), .ref (He.ga K "NoStep"), .ref (He.ga K "NoTaken"), .ref (He.ga K "NoText"), .ref (He.ga K "NoWeight"), .ref (He.ga K "NoWeights")] = some false),
  fun K => decide (PySem.W.kitAny K (.ref (He.ga K "NoFraction")) [.ref (He.ga K "NoWhole"), .ref (He.ga K "Ring"), .ref (He.ga K "Short"), .ref (He.ga K "TooLittle")] = some false)]
def hdFa_1 : List Fct := [fun K => decide (PySem.W.kitAny K (.ref (He.ga K "NoFraction")) [.ref (He.ga K "Twice"), .ref (He.ga K "Uneven"), .ref (He.ga K "Unknown")] = some false),
  fun K => decide (PySem.W.exmOne K (.ref (He.ga K "NoFraction")) (.ref (He.ga K "LoafError")) = some true),
  fun K => decide (PySem.W.kitOne K (.ref (He.ga K "NoFraction")) (.ref (He.ga K "NoFraction")) = some true),
  fun K => decide (PySem.W.kitOne K (.ref (He.ga K "NoFraction")) (.ref (He.ga K "NoName")) = some false),
  fun K => decide (PySem.W.kitOne K (.ref (He.ga K "NoFraction")) (.ref (He.ga K "NoStuff")) = some false),
  fun K => decide (PySem.W.kitOne K (.ref (He.ga K "NoFraction")) (.type "ValueError") = some true),
  fun K => decide (PySem.W.kitAny K (.ref (He.ga K "NoName")) [.ref (He.ga K "Dry"), .ref (He.ga K "Lacking"), .ref (He.ga K "Late"), .ref (He.ga K "NoBy"), .ref (He.ga K "NoCount"), .ref (He.ga K "NoDough"), .ref (He.ga K "NoFeel"), .ref (He.ga K "NoFlour"), .ref (He.ga K "NoHour")] = some false),
  fun K => decide (PySem.W.kitAny K (.ref (He.ga K "NoName")) [.ref (He.ga K "NoOrder"), .ref (He.ga K "NoPan"), .ref (He.ga K "NoRow"), .ref (He.ga K "NoStep"), .ref (He.ga K "NoTaken"), .ref (He.ga K "NoText"), .ref (He.ga K "NoWeight"), .ref (He.ga K "NoWeights")] = some false),
  fun K => decide (PySem.W.kitAny K (.ref (He.ga K "NoName")) [.ref (He.ga K "NoWhole"), .ref (He.ga K "Ring"), .ref (He.ga K "Short"), .ref (He.ga K "TooLittle")] = some false),
  fun K => decide (PySem.W.kitAny K (.ref (He.ga K "NoName")) [.ref (He.ga K "Twice"), .ref (He.ga K "Uneven"), .ref (He.ga K "Unknown")] = some false),
  fun K => decide (PySem.W.exmOne K (.ref (He.ga K "NoName")) (.ref (He.ga K "LoafError")) = some true),
  fun K => decide (PySem.W.kitOne K (.ref (He.ga K "NoName")) (.ref (He.ga K "NoFraction")) = some false),
  fun K => decide (PySem.W.kitOne K (.ref (He.ga K "NoName")) (.ref (He.ga K "NoName")) = some true),
  fun K => decide (PySem.W.kitOne K (.ref (He.ga K "NoName")) (.ref (He.ga K "NoStuff")) = some false),
  fun K => decide (PySem.W.kitOne K (.ref (He.ga K "NoName")) (.type "ValueError") = some true),
  fun K => decide (PySem.W.kitAny K (.ref (He.ga K "NoStuff")) [.ref (He.ga K "Dry"), .ref (He.ga K "Lacking"), .ref (He.ga K "Late"), .ref (He.ga K "NoBy"), .ref (He.ga K "NoCount"), .ref (He.ga K "NoDough"), .ref (He.ga K "NoFeel"), .ref (He.ga K "NoFlour"), .ref (He.ga K "NoHour")] = some false),
  fun K => decide (PySem.W.kitAny K (.ref (He.ga K "NoStuff")) [.ref (He.ga K "NoOrder"), .ref (He.ga K "NoPan"), .ref (He.ga K "NoRow"), .ref (He.ga K "NoStep"), .ref (He.ga K "NoTaken"), .ref (He.ga K "NoText"), .ref (He.ga K "NoWeight"), .ref (He.ga K "NoWeights")] = some false),
  fun K => decide (PySem.W.kitAny K (.ref (He.ga K "NoStuff")) [.ref (He.ga K "NoWhole"), .ref (He.ga K "Ring"), .ref (He.ga K "Short"), .ref (He.ga K "TooLittle")] = some false),
  fun K => decide (PySem.W.kitAny K (.ref (He.ga K "NoStuff")) [.ref (He.ga K "Twice"), .ref (He.ga K "Uneven"), .ref (He.ga K "Unknown")] = some false),
  fun K => decide (PySem.W.exmOne K (.ref (He.ga K "NoStuff")) (.ref (He.ga K "LoafError")) = some true),
  fun K => decide (PySem.W.kitOne K (.ref (He.ga K "NoStuff")) (.ref (He.ga K "NoFraction")) = some false),
  fun K => decide (PySem.W.kitOne K (.ref (He.ga K "NoStuff")) (.ref (He.ga K "NoName")) = some false),
  fun K => decide (PySem.W.kitOne K (.ref (He.ga K "NoStuff")) (.ref (He.ga K "NoStuff")) = some true),
  fun K => decide (PySem.W.kitOne K (.ref (He.ga K "NoStuff")) (.type "ValueError") = some true),
  fun K => (He.Fa.free "abs").ok K,
  fun K => (He.Fa.free "len").ok K,
  fun K => (He.Fa.free "max").ok K,
  fun K => (He.Fa.free "min").ok K,
  fun K => (He.Fa.free "divmod").ok K,
  fun K => (He.Fa.free "repr").ok K,
  fun K => (He.Fa.free "all").ok K,
  fun K => (He.Fa.free "int").ok K,
  fun K => (He.Fa.free "str").ok K,
  fun K => (He.Fa.free "range").ok K,
  fun K => (He.Fa.str "LETTERS" (Str.ofString "abcdefghijklmnopqrstuvwxyz")).ok K,
  fun K => (He.Fa.int "LONGEST_NAME" 10).ok K,
  fun K => (He.Fa.glo "is_whole").ok K,
  fun K => (He.Fa.glo "common").ok K,
  fun K => (He.Fa.glo "fraction").ok K,
  fun K => (He.Fa.glo "plus").ok K,
  fun K => (He.Fa.glo "over").ok K,
  fun K => (He.Fa.glo "together").ok K,
  fun K => (He.Fa.glo "is_less").ok K,
  fun K => (He.Fa.glo "is_fraction").ok K,
  fun K => (He.Fa.glo "is_name").ok K,
  fun K => (He.Fa.glo "is_one_of").ok K,
  fun K => (He.Fa.glo "measure_or_none_of_it").ok K,
  fun K => (He.Fa.glo "is_measure").ok K,
  fun K => (He.Fa.glo "are_too_much").ok K,
  fun K => (He.Fa.glo "first_wrong").ok K,
  fun K => (He.Fa.glo "_law_cell").ok K,
  fun K => (He.Fa.glo "_law_pot").ok K,
  fun K => (He.Fa.glo "_law_draw").ok K,
  fun K => (He.Fa.glo "_law_low").ok K,
  fun K => (He.Fa.glo "_law_name").ok K,
  fun K => (He.Fa.glo "_law_others").ok K,
  fun K => (He.Fa.glo "_law_deed").ok K,
  fun K => (He.Fa.glo "_law_told").ok K,
  fun K => (He.Fa.glo "_law_word").ok K,
  fun K => (He.Fa.glo "_law_right").ok K,
  fun K => (He.Fa.glo "law").ok K]
def hdFa : List Fct := hdFa_0 ++ hdFa_1
def hdFn_0 : List DefY := [⟨⟨("Stuff", some "__init__"), "__init__", "Stuff.__init__", defArgs s_init, defBody s_init, defScope s_init, [.non, .non, .non, .non, .non], []⟩, []⟩,
  ⟨⟨("Stuff", some "measure"), "measure", "Stuff.measure", defArgs s_measure, defBody s_measure, defScope s_measure, [], []⟩, []⟩,
  ⟨⟨("NoStuff", some "__init__"), "__init__", "NoStuff.__init__", defArgs sx_NoStuff, defBody sx_NoStuff, defScope sx_NoStuff, [], []⟩, ["__class__"]⟩,
  ⟨⟨("NoName", some "__init__"), "__init__", "NoName.__init__", defArgs sx_NoName, defBody sx_NoName, defScope sx_NoName, [], []⟩, ["__class__"]⟩,
  ⟨⟨("is_whole", none), "is_whole", "is_whole", defArgs s_is_whole, defBody s_is_whole, defScope s_is_whole, [], []⟩, []⟩,
  ⟨⟨("common", none), "common", "common", defArgs sCom, defBody sCom, defScope sCom, [], []⟩, []⟩,
  ⟨⟨("fraction", none), "fraction", "fraction", defArgs sFrac, defBody sFrac, defScope sFrac, [], []⟩, []⟩,
  ⟨⟨("plus", none), "plus", "plus", defArgs s_plus, defBody s_plus, defScope s_plus, [], []⟩, []⟩,
  ⟨⟨("over", none), "over", "over", defArgs s_over, defBody s_over, defScope s_over, [], []⟩, []⟩,
  ⟨⟨("together", none), "together", "together", defArgs s_together, defBody s_together, defScope s_together, [], []⟩, []⟩,
  ⟨⟨("is_less", none), "is_less", "is_less", defArgs s_is_less, defBody s_is_less, defScope s_is_less, [], []⟩, []⟩,
  ⟨⟨("is_fraction", none), "is_fraction", "is_fraction", defArgs s_is_fraction, defBody s_is_fraction, defScope s_is_fraction, [], []⟩, []⟩,
  ⟨⟨("is_name", none), "is_name", "is_name", defArgs s_is_name, defBody s_is_name, defScope s_is_name, [], []⟩, []⟩,
  ⟨⟨("is_one_of", none), "is_one_of", "is_one_of", defArgs s_is_one_of, defBody s_is_one_of, defScope s_is_one_of, [], []⟩, []⟩,
  ⟨⟨("measure_or_none_of_it", none), "measure_or_none_of_it", "measure_or_none_of_it", defArgs s_measure_or_none_of_it, defBody s_measure_or_none_of_it, defScope s_measure_or_none_of_it, [], []⟩, []⟩]
def hdFn_1 : List DefY := [⟨⟨("is_measure", none), "is_measure", "is_measure", defArgs s_is_measure, defBody s_is_measure, defScope s_is_measure, [], []⟩, []⟩,
  ⟨⟨("are_too_much", none), "are_too_much", "are_too_much", defArgs s_are_too_much, defBody s_are_too_much, defScope s_are_too_much, [], []⟩, []⟩,
  ⟨⟨("first_wrong", none), "first_wrong", "first_wrong", defArgs s_first_wrong, defBody s_first_wrong, defScope s_first_wrong, [], []⟩, []⟩,
  ⟨⟨("_law_cell", none), "_law_cell", "_law_cell", defArgs s__law_cell, defBody s__law_cell, defScope s__law_cell, [], []⟩, []⟩,
  ⟨⟨("_law_pot", none), "_law_pot", "_law_pot", defArgs s__law_pot, defBody s__law_pot, defScope s__law_pot, [], []⟩, []⟩,
  ⟨⟨("_law_draw", none), "_law_draw", "_law_draw", defArgs s__law_draw, defBody s__law_draw, defScope s__law_draw, [], []⟩, []⟩,
  ⟨⟨("_law_low", none), "_law_low", "_law_low", defArgs s__law_low, defBody s__law_low, defScope s__law_low, [], []⟩, []⟩,
  ⟨⟨("_law_name", none), "_law_name", "_law_name", defArgs s__law_name, defBody s__law_name, defScope s__law_name, [], []⟩, []⟩,
  ⟨⟨("_law_others", none), "_law_others", "_law_others", defArgs s__law_others, defBody s__law_others, defScope s__law_others, [], []⟩, []⟩,
  ⟨⟨("_law_deed", none), "_law_deed", "_law_deed", defArgs s__law_deed, defBody s__law_deed, defScope s__law_deed, [], []⟩, []⟩,
  ⟨⟨("_law_told", none), "_law_told", "_law_told", defArgs s__law_told, defBody s__law_told, defScope s__law_told, [], []⟩, []⟩,
  ⟨⟨("_law_word", none), "_law_word", "_law_word", defArgs s__law_word, defBody s__law_word, defScope s__law_word, [], []⟩, []⟩,
  ⟨⟨("_law_right", none), "_law_right", "_law_right", defArgs s__law_right, defBody s__law_right, defScope s__law_right, [], []⟩, []⟩,
  ⟨⟨("law", none), "law", "law", defArgs s_law, defBody s_law, defScope s_law, [], []⟩, []⟩]
def hdFn : List DefY := hdFn_0 ++ hdFn_1
def hdLoose_0 : List Str := ["LoafError",
  "NoFraction",
  "NoStuff",
  "NoDough",
  "NoPan",
  "NoOrder",
  "Twice",
  "NoName",
  "NoFlour",
  "NoFeel",
  "Dry",
  "Unknown",
  "Ring",
  "Uneven",
  "Short",
  "NoWeight",
  "NoWeights",
  "NoStep",
  "TooLittle",
  "NoWhole",
  "NoTaken",
  "NoCount",
  "NoBy",
  "NoText",
  "NoHour",
  "Late",
  "Lacking",
  "NoRow",
  "NONE_OF_IT",
  "ALL_OF_IT"]
def hdLoose_1 : List Str := ["LETTERS",
  "LONGEST_NAME",
  "is_whole",
  "common",
  "fraction",
  "plus",
  "over",
  "together",
  "is_less",
  "is_fraction",
  "is_name",
  "is_one_of",
  "WORDS",
  "measure_or_none_of_it",
  "is_measure",
  "are_too_much",
  "first_wrong",
  "Stuff",
  "_law_cell",
  "_law_pot",
  "_law_draw",
  "_law_low",
  "_law_name",
  "_law_others",
  "_law_deed",
  "_law_told",
  "_law_word",
  "_law_right"]
def hdLoose : List Str := hdLoose_0 ++ hdLoose_1
abbrev hdR : PySem.W.OpenRow := PySem.W.OpenLaw.row PySem.Challenge.rw_loafshares_k16_refusals_told_apart
abbrev hdK : PySem.W.Hook := hookY 5 hdFa hdFn
def hdOb (s : PySem.W.SharedT) : AlY := obsYG 5 hdFa hdFn (HandSHeadRun.getT s)
theorem hdOb_eq (s : PySem.W.SharedT) : hdOb s = hdK.obs s.abs := obsYG_eq (HandSHeadRun.getT_eq s)
theorem hdLooks (w : World) : RunLooksY hdR (PySem.W.view hdR.prog [62]) 8000 hdLoose w := by
  intro os
  kernel_rfl
theorem hdPart_0 (w : World) : RunPartY hdR 5 8000 hdFa_0 hdFn_0 w := by
  intro os
  kernel_rfl
theorem hdPart_1 (w : World) : RunPartY hdR 5 8000 hdFa_1 hdFn_1 w := by
  intro os
  kernel_rfl
theorem hdRun (w : World) : HandSHeadRun.RunEq hdR (PySem.W.view hdR.prog [62]) hdK hdOb 8000 hdLoose w := runY_of (hdLooks w) ((hdPart_0 w).app (hdPart_1 w))
end Lf

set_option Elab.async false
set_option linter.all false
set_option maxRecDepth 100000
set_option maxHeartbeats 4000000
set_option exponentiation.threshold 3000
namespace Lf
open PySem PySem.Spec PyProof.Rows L2
theorem Sm.mid {n : Int} (h : Sm n) : Mid n := Nat.lt_of_lt_of_le h (Nat.pow_le_pow_right (by decide) (by decide))
theorem Sm.mulW {a b : Int} (ha : Sm a) (hb : Sm b) : CMulW a b := by
  have := ha.log
  have := hb.log
  unfold CMulW
  omega
theorem Sm.prod {a b : Int} (ha : Sm a) (hb : Sm b) : (a * b).natAbs < 2 ^ 1800 := by
  rw [Int.natAbs_mul, show (2 : Nat) ^ 1800 = 2 ^ 900 * 2 ^ 900 by rw [← Nat.pow_add]]
  exact Nat.mul_lt_mul'' ha hb
theorem Sm.mul {a b : Int} (ha : Sm a) (hb : Sm b) : Mid (a * b) := Nat.lt_of_lt_of_le (Sm.prod ha hb) (Nat.pow_le_pow_right (by decide) (by decide))
theorem two_pow : (2 : Nat) ^ 1800 + 2 ^ 1800 = 2 ^ 1801 := (Nat.two_pow_succ 1800).symm
theorem Sm.add {a b c d : Int} (ha : Sm a) (hb : Sm b) (hc : Sm c) (hd : Sm d) : Mid (a * b + c * d) := by
  have h1 := Sm.prod ha hb
  have h2 := Sm.prod hc hd
  have h3 := Int.natAbs_add_le (a * b) (c * d)
  have h4 : (2 : Nat) ^ 1801 ≤ 2 ^ 2000 := Nat.pow_le_pow_right (by decide) (by decide)
  have h5 := two_pow
  unfold Mid
  omega
theorem Sm.sub {a b c d : Int} (ha : Sm a) (hb : Sm b) (hc : Sm c) (hd : Sm d) : Mid (a * b - c * d) := by
  have h1 := Sm.prod ha hb
  have h2 := Sm.prod hc hd
  have h3 := Int.natAbs_sub_le (a * b) (c * d)
  have h4 : (2 : Nat) ^ 1801 ≤ 2 ^ 2000 := Nat.pow_le_pow_right (by decide) (by decide)
  have h5 := two_pow
  unfold Mid
  omega
/-- two handed fractions -/
structure Pr (K : PySem.W.Frag) (H : Hp) (vs : List V) (a b c d : Int) : Prop where
  ex : ∃ p q, vs = [.ref p, .ref q] ∧ SqT K H p [.int a, .int b] ∧ SqT K H q [.int c, .int d]
  hb : b ≠ 0
  hd : d ≠ 0
  a1 : Sm a
  b1 : Sm b
  c1 : Sm c
  d1 : Sm d
theorem mul_ne {a b : Int} (ha : a ≠ 0) (hb : b ≠ 0) : a * b ≠ 0 := Int.mul_ne_zero ha hb
section
variable {P : Program} {w : World} {K : PySem.W.Frag} {mg : Str → Option Value} {base : Heap}
/-! ### fraction of a bottom 0 -/
def spFrac0 (C : Addr) : Sp := fun vs H Q E => ∃ n : Int, vs = [.int n, .int 0] ∧ E (.ref C) none H
theorem ok_frac0 {f : Addr} {fd : FuncData} {C : Addr} {R : Sp} (M : Blt mg) (X : ExT K mg "NoFraction" C) (F : Fun K "fraction" "fraction" sFrac f fd)
    (C_common : Cal P w K mg base CX0 1 "common" ["one", "other"] spCom) (C_fraction : Cal P w K mg base CX0 2 "fraction" ["top", "bottom"] R) : FnG P w K mg base (L2.CX P w) 3 f fd ["top", "bottom"] (spFrac0 C) := by
  refine GfunX F scFrac (fun vs H Q E h => ?_) (fun cdv A outer s H vs Q E hg hr h => ?_)
  · obtain ⟨n, rfl, _⟩ := h
    rfl
  · obtain ⟨n, rfl, q⟩ := h
    refine ⟨_, pss_cons (ps_if (pt_cmpR op_eq (pv 1) pe_int (nomark _)) (pss_one (ps_raise rfl (takes_of rfl rfl rfl rfl) (pmk_own PySem.F.excBase_ValueError X.x X.g X.k (raises_own X.b X.t) rfl))) pss_nil)
      (pss_cons (ps_if (pt_cmpR op_lt (pv 1) pe_int (nomark _)) (pss_one (ps_ret (pe_g C_fraction (hr.mono (by decide)) hg (pa_cons (pe_un un_neg (pv 0)) (pa_cons (pe_un un_neg (pv 1)) pa_nil))))) pss_nil)
      (pss_cons (ps_set (i := 2) scFrac.nd rfl (.inl rfl) (pe_g C_common (hr.mono (by decide)) hg (pa_cons (pe_callB call_abs rfl M.abs bt_abs (pa_cons (pv 0) pa_nil)) (pa_cons (pv 1) pa_nil))))
      (pss_one (ps_ret (pe_tup (pa_cons (pe_op op_fdivN (pv 0) (pv 2)) (pa_cons (pe_op op_fdivN (pv 1) (pv 2)) pa_nil))))))), ?_⟩
    exact ⟨_, rfl, rfl, _, rfl, iteT q⟩

/-! ### plus -/
theorem sc_plus : FnScope ["one", "other"] ["one", "other"] (defScope s_plus) := ⟨rfl, rfl, rfl, by decide +kernel, rfl, by decide +kernel, by decide +kernel⟩
def sp_plus (K : PySem.W.Frag) : Sp := fun vs H Q _ => ∃ a b c d : Int, Pr K H vs a b c d ∧ Two H Q (low (a * d + c * b) (b * d))
theorem ok_plus {f : Addr} {fd : FuncData} (F : Fun K "plus" "plus" s_plus f fd) (C_fraction : Cal P w K mg base CX0 4 "fraction" ["top", "bottom"] (spFrac true)) : FnG P w K mg base CX0 5 f fd ["one", "other"] (sp_plus K) := by
  refine Gfun F sc_plus (fun vs H Q E h => ?_) (fun cdv A outer s H vs Q E hg hr h => ?_)
  · obtain ⟨a, b, c, d, h, _⟩ := h
    obtain ⟨p, q, rfl, _⟩ := h.ex
    rfl
  · obtain ⟨a, b, c, d, h, k⟩ := h
    obtain ⟨p, q, rfl, hp, hq⟩ := h.ex
    refine ⟨_, (pss_one (ps_ret (pe_g C_fraction (hr.mono (by decide)) hg (pa_cons (pe_op op_add (pe_op op_mulW (pe_ix ix_tup (pv 0) pe_int (fun _ _ => rfl)) (pe_ix ix_tup (pv 1) pe_int (fun _ _ => rfl))) (pe_op op_mulW (pe_ix ix_tup (pv 1) pe_int (fun _ _ => rfl)) (pe_ix ix_tup (pv 0) pe_int (fun _ _ => rfl)))) (pa_cons (pe_op op_mulW (pe_ix ix_tup (pv 0) pe_int (fun _ _ => rfl)) (pe_ix ix_tup (pv 1) pe_int (fun _ _ => rfl))) pa_nil))))), ?_⟩
    refine ⟨_, rfl, p, _, _, _, rfl, rfl, hp, rfl, _, rfl, q, _, _, _, rfl, rfl, hq, rfl, _, _, rfl, rfl, Sm.mulW h.a1 h.d1, ?_⟩
    refine ⟨_, rfl, q, _, _, _, rfl, rfl, hq, rfl, _, rfl, p, _, _, _, rfl, rfl, hp, rfl, _, _, rfl, rfl, Sm.mulW h.c1 h.b1, ?_⟩
    refine ⟨_, _, rfl, rfl, ?_⟩
    refine ⟨_, rfl, p, _, _, _, rfl, rfl, hp, rfl, _, rfl, q, _, _, _, rfl, rfl, hq, rfl, _, _, rfl, rfl, Sm.mulW h.b1 h.d1, ?_⟩
    exact ⟨_, _, rfl, mul_ne h.hb h.hd, (fun z => Bool.noConfusion z), Sm.add h.a1 h.d1 h.c1 h.b1, Sm.mul h.b1 h.d1, k⟩

/-! ### over -/
theorem sc_over : FnScope ["one", "other"] ["one", "other"] (defScope s_over) := ⟨rfl, rfl, rfl, by decide +kernel, rfl, by decide +kernel, by decide +kernel⟩
def sp_over (K : PySem.W.Frag) : Sp := fun vs H Q _ => ∃ a b c d : Int, Pr K H vs a b c d ∧ c ≠ 0 ∧ Two H Q (low (a * d) (b * c))
theorem ok_over {f : Addr} {fd : FuncData} (F : Fun K "over" "over" s_over f fd) (C_fraction : Cal P w K mg base CX0 4 "fraction" ["top", "bottom"] (spFrac true)) : FnG P w K mg base CX0 5 f fd ["one", "other"] (sp_over K) := by
  refine Gfun F sc_over (fun vs H Q E h => ?_) (fun cdv A outer s H vs Q E hg hr h => ?_)
  · obtain ⟨a, b, c, d, h, _⟩ := h
    obtain ⟨p, q, rfl, _⟩ := h.ex
    rfl
  · obtain ⟨a, b, c, d, h, hc, k⟩ := h
    obtain ⟨p, q, rfl, hp, hq⟩ := h.ex
    refine ⟨_, (pss_one (ps_ret (pe_g C_fraction (hr.mono (by decide)) hg (pa_cons (pe_op op_mulW (pe_ix ix_tup (pv 0) pe_int (fun _ _ => rfl)) (pe_ix ix_tup (pv 1) pe_int (fun _ _ => rfl))) (pa_cons (pe_op op_mulW (pe_ix ix_tup (pv 0) pe_int (fun _ _ => rfl)) (pe_ix ix_tup (pv 1) pe_int (fun _ _ => rfl))) pa_nil))))), ?_⟩
    refine ⟨_, rfl, p, _, _, _, rfl, rfl, hp, rfl, _, rfl, q, _, _, _, rfl, rfl, hq, rfl, _, _, rfl, rfl, Sm.mulW h.a1 h.d1, ?_⟩
    refine ⟨_, rfl, p, _, _, _, rfl, rfl, hp, rfl, _, rfl, q, _, _, _, rfl, rfl, hq, rfl, _, _, rfl, rfl, Sm.mulW h.b1 h.c1, ?_⟩
    exact ⟨_, _, rfl, mul_ne h.hb hc, (fun z => Bool.noConfusion z), Sm.mul h.a1 h.d1, Sm.mul h.b1 h.c1, k⟩

/-! ### over 0 -/
def sp_over0 (K : PySem.W.Frag) (C : Addr) : Sp := fun vs H Q E => ∃ a b d : Int, Pr K H vs a b 0 d ∧ E (.ref C) none H
theorem ok_over0 {f : Addr} {fd : FuncData} {C : Addr} (F : Fun K "over" "over" s_over f fd) (C_fraction : Cal P w K mg base (L2.CX P w) 3 "fraction" ["top", "bottom"] (spFrac0 C)) : FnG P w K mg base (L2.CX P w) 5 f fd ["one", "other"] (sp_over0 K C) := by
  refine GfunX F sc_over (fun vs H Q E h => ?_) (fun cdv A outer s H vs Q E hg hr h => ?_)
  · obtain ⟨a, b, d, h, _⟩ := h
    obtain ⟨p, q, rfl, _⟩ := h.ex
    rfl
  · obtain ⟨a, b, d, h, k⟩ := h
    obtain ⟨p, q, rfl, hp, hq⟩ := h.ex
    refine ⟨_, (pss_one (ps_ret (pe_gS C_fraction (hr.mono (by decide)) hg (fun σ => passAt (takes_of rfl rfl rfl rfl) σ) (pa_cons (pe_op op_mulW (pe_ix ix_tup (pv 0) pe_int (fun _ _ => rfl)) (pe_ix ix_tup (pv 1) pe_int (fun _ _ => rfl))) (pa_cons (pe_op op_mulW (pe_ix ix_tup (pv 0) pe_int (fun _ _ => rfl)) (pe_ix ix_tup (pv 1) pe_int (fun _ _ => rfl))) pa_nil))))), ?_⟩
    refine ⟨_, rfl, p, _, _, _, rfl, rfl, hp, rfl, _, rfl, q, _, _, _, rfl, rfl, hq, rfl, _, _, rfl, rfl, Sm.mulW h.a1 h.d1, ?_⟩
    refine ⟨_, rfl, p, _, _, _, rfl, rfl, hp, rfl, _, rfl, q, _, _, _, rfl, rfl, hq, rfl, _, _, rfl, rfl, Sm.mulW h.b1 h.c1, ?_⟩
    exact ⟨a * d, by show [V.int (a * d), V.int (b * 0)] = _; rw [Int.mul_zero], k⟩

/-! ### is_less -/
theorem sc_is_less : FnScope ["one", "other"] ["one", "other"] (defScope s_is_less) := ⟨rfl, rfl, rfl, by decide +kernel, rfl, by decide +kernel, by decide +kernel⟩
def sp_is_less (K : PySem.W.Frag) : Sp := fun vs H Q _ => ∃ a b c d : Int, Pr K H vs a b c d ∧ Q (.bl (decide (a * d < c * b))) H
theorem ok_is_less {f : Addr} {fd : FuncData} (F : Fun K "is_less" "is_less" s_is_less f fd) : FnG P w K mg base CX0 1 f fd ["one", "other"] (sp_is_less K) := by
  refine Gfun F sc_is_less (fun vs H Q E h => ?_) (fun cdv A outer s H vs Q E hg hr h => ?_)
  · obtain ⟨a, b, c, d, h, _⟩ := h
    obtain ⟨p, q, rfl, _⟩ := h.ex
    rfl
  · obtain ⟨a, b, c, d, h, k⟩ := h
    obtain ⟨p, q, rfl, hp, hq⟩ := h.ex
    refine ⟨_, (pss_one (ps_ret (pe_cmpR op_lt (pe_op op_mulW (pe_ix ix_tup (pv 0) pe_int (fun _ _ => rfl)) (pe_ix ix_tup (pv 1) pe_int (fun _ _ => rfl))) (pe_op op_mulW (pe_ix ix_tup (pv 1) pe_int (fun _ _ => rfl)) (pe_ix ix_tup (pv 0) pe_int (fun _ _ => rfl))) (nomark _)))), ?_⟩
    refine ⟨_, rfl, p, _, _, _, rfl, rfl, hp, rfl, _, rfl, q, _, _, _, rfl, rfl, hq, rfl, _, _, rfl, rfl, Sm.mulW h.a1 h.d1, ?_⟩
    refine ⟨_, rfl, q, _, _, _, rfl, rfl, hq, rfl, _, rfl, p, _, _, _, rfl, rfl, hp, rfl, _, _, rfl, rfl, Sm.mulW h.c1 h.b1, ?_⟩
    exact ⟨_, _, rfl, rfl, k⟩

end
end Lf

set_option Elab.async false
set_option linter.all false
set_option maxRecDepth 100000
set_option maxHeartbeats 4000000
set_option exponentiation.threshold 3000
/-! Things of any kind: data without dicts, and dicts of plain things. -/
namespace Lf
open PySem PySem.Spec PyProof.Rows L2
def kD : Key → PyData
  | .inl i => .int i
  | .inr x => .str x
inductive Sc : V → PyData → Prop
  | non : Sc .non .none
  | bl (b : Bool) : Sc (.bl b) (.bool b)
  | int (i : Int) : Sc (.int i) (.int i)
  | str (x : Str) : Sc (.str x) (.str x)
/-- a thing: data, or a dict of plain things -/
inductive Dq (K : PySem.W.Frag) (H : Hp) : V → PyData → Prop
  | dp {v : V} {d : PyData} (h : Dp K H v d) (n : d.hasDict = false) : Dq K H v d
  | dic {a : Addr} {kvs : List (Key × V)} {ds : List (PyData × PyData)} (h : H a = some (.dK kvs)) (p : Paired (fun (kv : Key × V) (d : PyData × PyData) => d.1 = kD kv.1 ∧ Sc kv.2 d.2) kvs ds) : Dq K H (.ref a) (.dict ds)
theorem Dq.same {K : PySem.W.Frag} {H H' : Hp} {v : V} {d : PyData} (s : Same H H') (h : Dq K H v d) : Dq K H' v d := by
  cases h with
  | dp h n => exact .dp (Dp.same s _ _ h) n
  | dic h p => exact .dic (s _ _ h) p
section
variable {X : Cx} {pins : List (Addr × Obj)} {σ : L2.St} {H : Hp} {s : Shared}
theorem Sc.reads {v : V} {d : PyData} {u : Value} {h : Heap} (k : Sc v d) (r : RelV v u) : Reads h u d [] := by
  cases k with
  | non => cases r; exact .none
  | bl b => cases r; exact .bool b
  | int i => obtain ⟨t, rfl⟩ := r; exact .int i t
  | str x => obtain ⟨t, rfl⟩ := r; exact .str x t
theorem dic_reads {P : Program} {w : World} {h : Heap} : ∀ {es : List DictEntry} {vs : List (Key × Value)} {kvs : List (Key × V)} {ds : List (PyData × PyData)}, Pairs (mixKind P w) es vs → KV kvs vs →
    Paired (fun (kv : Key × V) (d : PyData × PyData) => d.1 = kD kv.1 ∧ Sc kv.2 d.2) kvs ds → ReadsAll h (es.map (·.key)) (ds.map (·.1)) [] ∧ ReadsAll h (es.map (·.val)) (ds.map (·.2)) []
  | _, _, _, _, .nil, kv, p => by
    cases kv
    cases p
    exact ⟨.nil, .nil⟩
  | _, _, _, _, .cons (e := e) hk hv r, kv, p => by
    cases kv with
    | cons q kv =>
      cases p with
      | cons z p =>
        obtain ⟨i1, i2⟩ := dic_reads r kv p
        obtain ⟨q1, q2⟩ := q
        obtain ⟨z1, z2⟩ := z
        refine ⟨?_, ?_⟩
        · rw [List.map_cons, List.map_cons]
          refine ReadsAll.cons (as := []) (bs := []) ?_ i1
          rw [z1, q1]
          rcases keyIs_shape (show keyIs _ e.key = true from hk) with ⟨i, t, e1, e2⟩ | ⟨x, t, e1, e2⟩
          · rw [e1, e2]
            exact .int i t
          · rw [e1, e2]
            exact .str x t
        · rw [List.map_cons, List.map_cons]
          refine ReadsAll.cons (as := []) (bs := []) ?_ i2
          rw [hv]
          exact z2.reads q2
theorem Dq.reads (I : Inv X pins σ H s) {v : V} {d : PyData} {u : Value} (h : Dq X.K H v d) (r : RelV v u) : ∃ as, Reads s.heap u d as ∧ (d.hasDict = true → sysModules ∉ as) := by
  cases h with
  | dp h n =>
    obtain ⟨as, q⟩ := Dp.reads I d v u h r
    exact ⟨as, q, fun z => by rw [n] at z; cases z⟩
  | @dic a kvs ds h p =>
    cases r
    obtain ⟨hz, hs, vs, kv, o, es, ep, h1, h2, h3, h4, h5, h6⟩ := (show ObjOk X.prog X.w H s.heap a (.dK kvs) from I.hok a _ h)
    obtain ⟨i1, i2⟩ := dic_reads (h := s.heap) h5 kv p
    refine ⟨_, Reads.dict h1 h2.1 h3 i1 i2, fun _ hm => ?_⟩
    have : sysModules = a := by simpa using hm
    rw [this] at hs
    simp at hs
/-- the built-in type of a thing -/
def tyN : PyData → String
  | .none => "NoneType"
  | .bool _ => "bool"
  | .int _ => "int"
  | .str _ => "str"
  | .list _ => "list"
  | .tuple _ => "tuple"
  | .dict _ => "dict"
theorem Dp.ty {K : PySem.W.Frag} {v : V} {d : PyData} (h : Dp K H v d) : TyX K H v (.type (tyN d)) := by
  cases h with
  | non => exact .base .non
  | bl b => exact .base (.bl b)
  | int i => exact .base (.int i)
  | str x => exact .base (.str x)
  | lst h1 _ =>
    rcases h1 with (h | ⟨o, h⟩) | ⟨o, arr, n, hk, hc, _⟩
    · exact .base (.lst h)
    · exact .base (.frz h)
    · exact .kList hk hc
  | tup h1 _ =>
    rcases h1 with (h | ⟨o, h⟩) | ⟨o, arr, n, hk, hc, _⟩
    · exact .base (.tup h)
    · exact .fTuple h
    · exact .kTuple hk hc
theorem Dq.ty {K : PySem.W.Frag} {v : V} {d : PyData} (h : Dq K H v d) : TyX K H v (.type (tyN d)) := by
  cases h with
  | dp h _ => exact Lf.Dp.ty h
  | dic h _ => exact .base (.dK h)
/-! ### repr of a list of things -/
inductive DqAll (K : PySem.W.Frag) (H : Hp) : List V → List PyData → Prop
  | nil : DqAll K H [] []
  | cons {v : V} {vs : List V} {d : PyData} {ds : List PyData} : Dq K H v d → DqAll K H vs ds → DqAll K H (v :: vs) (d :: ds)
theorem DqAll.same {K : PySem.W.Frag} {H H' : Hp} (s : Same H H') : ∀ {vs : List V} {ds : List PyData}, DqAll K H vs ds → DqAll K H' vs ds
  | _, _, .nil => .nil
  | _, _, .cons a r => .cons (a.same s) (DqAll.same s r)
theorem DqAll.get {K : PySem.W.Frag} {H : Hp} : ∀ {vs : List V} {ds : List PyData} {i : Nat} {v : V}, DqAll K H vs ds → vs[i]? = some v → ∃ d, ds[i]? = some d ∧ Dq K H v d
  | _, _, _, _, .nil, e => by simp at e
  | _, _, 0, _, .cons a _, e => by
    simp at e
    subst e
    exact ⟨_, rfl, a⟩
  | _, _, i + 1, v, .cons _ r, e => by
    obtain ⟨d, h1, h2⟩ := DqAll.get (i := i) (v := v) r (by simpa using e)
    exact ⟨d, by simpa using h1, h2⟩
theorem DqAll.app {K : PySem.W.Frag} {H : Hp} : ∀ {vs us : List V} {ds es : List PyData}, DqAll K H vs ds → DqAll K H us es → DqAll K H (vs ++ us) (ds ++ es)
  | _, _, _, _, .nil, h => h
  | _, _, _, _, .cons a r, h => .cons a (DqAll.app r h)
theorem DqAll.length {K : PySem.W.Frag} {H : Hp} : ∀ {vs : List V} {ds : List PyData}, DqAll K H vs ds → vs.length = ds.length
  | _, _, .nil => rfl
  | _, _, .cons _ r => congrArg Nat.succ (DqAll.length r)
theorem dq_repr (I : Inv X pins σ H s) : ∀ {vs : List V} {ds : List PyData} {us : List Value}, DqAll X.K H vs ds → Vals vs us → PyData.showableAll ds = true → (∀ t ∈ PyData.shownAll ds, t.length ≤ sizeLine) →
    ∃ bs as, ReadAtMost s.heap (PyData.depthAll ds) bs ∧ ReprAllK X.prog X.w bs s.heap (PyData.depthAll ds) us (PyData.shownAll ds) ∧ ReadsAll s.heap us ds as
  | _, _, _, .nil, r, _, _ => by
    cases r
    exact ⟨[], [], (fun _ h => nomatch h), by simp only [PyData.shownAll]; exact .nil, .nil⟩
  | _, _, _, .cons (d := d) (ds := ds) a q, r, hs, hz => by
    cases r with
    | cons r1 r2 =>
      have hs' : d.showable = true ∧ PyData.showableAll ds = true := by simpa [PyData.showableAll] using hs
      have hz' : d.shown.length ≤ sizeLine ∧ ∀ t ∈ PyData.shownAll ds, t.length ≤ sizeLine := by
        simp only [PyData.shownAll] at hz
        exact ⟨hz _ List.mem_cons_self, fun t ht => hz t (List.mem_cons_of_mem _ ht)⟩
      obtain ⟨as1, rd, hsm⟩ := a.reads I r1
      obtain ⟨b1, m1, k1⟩ := ReprK.of_reads (prog := X.prog) (w := X.w) rd hs'.1 hsm hz'.1
      obtain ⟨b2, as2, m2, k2, rd2⟩ := dq_repr I q r2 hs'.2 hz'.2
      have l1 : d.depth ≤ PyData.depthAll (d :: ds) := by simp only [PyData.depthAll]; omega
      have l2 : PyData.depthAll ds ≤ PyData.depthAll (d :: ds) := by simp only [PyData.depthAll]; omega
      refine ⟨b1 ++ b2, as1 ++ as2, ?_, ?_, .cons rd rd2⟩
      · intro b hb
        rcases List.mem_append.mp hb with z | z
        · obtain ⟨d', as', r', e'⟩ := m1 b z
          exact ⟨d', as', r', Nat.le_trans e' l1⟩
        · obtain ⟨d', as', r', e'⟩ := m2 b z
          exact ⟨d', as', r', Nat.le_trans e' l2⟩
      · simp only [PyData.shownAll]
        exact .cons ((k1.more (fun b hb => List.mem_append_left _ hb)).level_le l1) (k2.more_le (fun b hb => List.mem_append_right _ hb) l2)
def rShowQ (K : PySem.W.Frag) : List V → Hp → VK → Prop := fun xs H Q => ∃ (a : Addr) (v : V) (vs : List V) (ds : List PyData), xs = [.ref a] ∧ SqL K H a (v :: vs) ∧ DqAll K H (v :: vs) ds ∧
  PyData.showableAll ds = true ∧ PyData.depthAll ds ≤ 29 ∧ (PyData.shown (.list ds)).length ≤ sizeLine ∧ Q (.str (PyData.shown (.list ds))) H
theorem call_showQ (hG : X.A.guards = some []) {k : Nat} (hr : Room k X.A) : CallR X (.builtin "repr") (rShowQ X.K) := by
  intro pins s σ H xs us Q I r h
  obtain ⟨a, v, vs, ds, rfl, hS, hd, hs, h30, hz, q⟩ := h
  cases r with
  | cons r1 r2 =>
    cases r2
    cases r1
    have hu := hr.units
    obtain ⟨its, rv, ⟨o, n, ho, hc, _, hdt⟩, _⟩ := I.list hS
    have hz' : (listText (PyData.shownAll ds)).length ≤ sizeLine := by simpa only [PyData.shown] using hz
    obtain ⟨bs, as, m, k, rd⟩ := dq_repr I hd rv hs (fun t ht => Nat.le_trans (listText_mem_le ht) hz')
    have rl : Reads s.heap (.ref a) (.list ds) (a :: as) := Reads.list ho hc hdt rd
    have hna : a ∉ bs := not_mem_of_deeper rl (by simp only [PyData.depth]; omega) m
    cases its with
    | nil => cases rv
    | cons u us' =>
      refine call_repr_slot (T := "list") (by omega) ⟨o, ho, hc⟩ F.slot_list_repr.toG ?_
      refine call_list_reprK ho hc hdt hna (by simpa using k.length_eq) (fun i y e => k.item i y (by simpa using e)) hG (fun b _ => Clear.nil b) (by show X.A.units + 1 + (PyData.depthAll ds + 1) < cLine; omega) (fun _ _ z => z) (fun h' u tk hk => ?_) hz'
      refine ⟨_, _, rfl, ⟨.str (PyData.shown (.list ds)), H, I.kept hk, ⟨u, ?_⟩, q⟩⟩
      simp only [PyData.shown]
end
/-- a statement and the rest, what follows shown once from what holds between them -/
def tMid (t u : TS) : TS := fun D σ H => ∃ Md : L2.St → Hp → Prop, t { D with nx := Md } σ H ∧ ∀ σ' H', Md σ' H' → u D σ' H'
theorem pss_mid {X : Cx} {st : Stmt} {more : List Stmt} {t u : TS} (h1 : PS X st t) (h2 : PSs X more u) : PSs X (st :: more) (tMid t u) := by
  refine ⟨fun pins s σ H D I ⟨Md, hm, hu⟩ => wpAny_execs_cons (thn (h1.run pins s σ H { D with nx := Md } I hm) fun f s1 q => ?_)⟩
  cases f with
  | next =>
    obtain ⟨σ', H', I', q⟩ := q
    exact h2.run pins s1 σ' H' D I' (hu σ' H' q)
  | ret v => exact q
  | brk => exact q
  | cont => exact q
/-- what repr asks of a list of things -/
structure ShowA (ds : List PyData) : Prop where
  sh : PyData.showableAll ds = true
  dp : PyData.depthAll ds ≤ 29
  ln : (PyData.shown (.list ds)).length ≤ sizeLine
end Lf

set_option Elab.async false
set_option linter.all false
set_option maxRecDepth 100000
set_option maxHeartbeats 4000000
set_option exponentiation.threshold 3000
namespace Lf
open PySem PySem.Spec PyProof.Rows L2
theorem bt_isinstance : bootBuiltins "isinstance" = some (.builtin "isinstance") := by decide +kernel
theorem bt_bool : bootBuiltins "bool" = some (.type "bool") := by decide +kernel
theorem bt_tuple : bootBuiltins "tuple" = some (.type "tuple") := by decide +kernel
structure Bltx (mg : Str → Option Value) : Prop where
  isinstance : mg "isinstance" = none
  bool : mg "bool" = none
  tuple : mg "tuple" = none
theorem len_show {n : Nat} (h : n ≤ 1000) : n ≤ sizeLine := by
  rw [sizeLine_eq]
  omega
theorem u65 {k : Nat} {A : Around} (r : Room k A) : A.units + 65 < cLine := by
  have := r.un
  omega
theorem iteN {c A B : Prop} [Decidable c] (hc : ¬ c) (h : A) : if (!decide c) = true then A else B := by
  rw [decide_eq_false hc]
  exact iteT h
def isI : PyData → Bool
  | .int _ => true
  | .bool _ => true
  | _ => false
def isB : PyData → Bool
  | .bool _ => true
  | _ => false
def isT : PyData → Bool
  | .tuple _ => true
  | _ => false
def isS : PyData → Bool
  | .str _ => true
  | _ => false
def isW : PyData → Bool
  | .int _ => true
  | _ => false
theorem ki_none : kitB "NoneType" "int" = some false := by decide +kernel
theorem ki_bool : kitB "bool" "int" = some true := by decide +kernel
theorem ki_int : kitB "int" "int" = some true := by decide +kernel
theorem ki_str : kitB "str" "int" = some false := by decide +kernel
theorem ki_list : kitB "list" "int" = some false := by decide +kernel
theorem ki_tuple : kitB "tuple" "int" = some false := by decide +kernel
theorem ki_dict : kitB "dict" "int" = some false := by decide +kernel
theorem ki (d : PyData) : kitB (tyN d) "int" = some (isI d) :=
  match d with
  | .none => ki_none
  | .bool _ => ki_bool
  | .int _ => ki_int
  | .str _ => ki_str
  | .list _ => ki_list
  | .tuple _ => ki_tuple
  | .dict _ => ki_dict
theorem kb_none : kitB "NoneType" "bool" = some false := by decide +kernel
theorem kb_bool : kitB "bool" "bool" = some true := by decide +kernel
theorem kb_int : kitB "int" "bool" = some false := by decide +kernel
theorem kb_str : kitB "str" "bool" = some false := by decide +kernel
theorem kb_list : kitB "list" "bool" = some false := by decide +kernel
theorem kb_tuple : kitB "tuple" "bool" = some false := by decide +kernel
theorem kb_dict : kitB "dict" "bool" = some false := by decide +kernel
theorem kb (d : PyData) : kitB (tyN d) "bool" = some (isB d) :=
  match d with
  | .none => kb_none
  | .bool _ => kb_bool
  | .int _ => kb_int
  | .str _ => kb_str
  | .list _ => kb_list
  | .tuple _ => kb_tuple
  | .dict _ => kb_dict
theorem kt_none : kitB "NoneType" "tuple" = some false := by decide +kernel
theorem kt_bool : kitB "bool" "tuple" = some false := by decide +kernel
theorem kt_int : kitB "int" "tuple" = some false := by decide +kernel
theorem kt_str : kitB "str" "tuple" = some false := by decide +kernel
theorem kt_list : kitB "list" "tuple" = some false := by decide +kernel
theorem kt_tuple : kitB "tuple" "tuple" = some true := by decide +kernel
theorem kt_dict : kitB "dict" "tuple" = some false := by decide +kernel
theorem kt (d : PyData) : kitB (tyN d) "tuple" = some (isT d) :=
  match d with
  | .none => kt_none
  | .bool _ => kt_bool
  | .int _ => kt_int
  | .str _ => kt_str
  | .list _ => kt_list
  | .tuple _ => kt_tuple
  | .dict _ => kt_dict
theorem ks_none : kitB "NoneType" "str" = some false := by decide +kernel
theorem ks_bool : kitB "bool" "str" = some false := by decide +kernel
theorem ks_int : kitB "int" "str" = some false := by decide +kernel
theorem ks_str : kitB "str" "str" = some true := by decide +kernel
theorem ks_list : kitB "list" "str" = some false := by decide +kernel
theorem ks_tuple : kitB "tuple" "str" = some false := by decide +kernel
theorem ks_dict : kitB "dict" "str" = some false := by decide +kernel
theorem ks (d : PyData) : kitB (tyN d) "str" = some (isS d) :=
  match d with
  | .none => ks_none
  | .bool _ => ks_bool
  | .int _ => ks_int
  | .str _ => ks_str
  | .list _ => ks_list
  | .tuple _ => ks_tuple
  | .dict _ => ks_dict
def fr2 : PyData → PyData → Bool
  | .int a, .int b => decide (0 < b) && decide (Nat.gcd a.natAbs b.natAbs = 1)
  | _, _ => false
def frL : List PyData → Bool
  | [x, y] => fr2 x y
  | _ => false
def isFr : PyData → Bool
  | .tuple ds => frL ds
  | _ => false
def lets : Str := Str.ofString "abcdefghijklmnopqrstuvwxyz"
def inL (c : Nat) : Bool := decide (c ∈ lets.cps.toList)
def isNm : PyData → Bool
  | .str z => decide (1 ≤ z.length) && decide (z.length ≤ 10) && z.cps.toList.all inL
  | _ => false
section
variable {P : Program} {w : World} {K : PySem.W.Frag} {mg : Str → Option Value} {base : Heap}
theorem Dq.tup {H : Hp} {v : V} {d : PyData} (h : Dq K H v d) (e : isT d = true) : ∃ (a : Addr) (xs : List V) (ds : List PyData), v = .ref a ∧ d = .tuple ds ∧ SqT K H a xs ∧ DpAll K H xs ds ∧ PyData.hasDictAll ds = false := by
  cases h with
  | dp h n =>
    cases h with
    | tup h1 h2 => exact ⟨_, _, _, rfl, rfl, h1, h2, by simpa [PyData.hasDict] using n⟩
    | non => cases e
    | bl _ => cases e
    | int _ => cases e
    | str _ => cases e
    | lst _ _ => cases e
  | dic _ _ => cases e
theorem Dq.txt {H : Hp} {v : V} {d : PyData} (h : Dq K H v d) (e : isS d = true) : ∃ z, v = .str z ∧ d = .str z := by
  cases h with
  | dp h n =>
    cases h with
    | str z => exact ⟨z, rfl, rfl⟩
    | non => cases e
    | bl _ => cases e
    | int _ => cases e
    | tup _ _ => cases e
    | lst _ _ => cases e
  | dic _ _ => cases e
theorem Dq.whole {H : Hp} {v : V} {d : PyData} (h : Dq K H v d) (e : isW d = true) : ∃ i, v = .int i ∧ d = .int i := by
  cases h with
  | dp h n =>
    cases h with
    | int i => exact ⟨i, rfl, rfl⟩
    | non => cases e
    | bl _ => cases e
    | str _ => cases e
    | tup _ _ => cases e
    | lst _ _ => cases e
  | dic _ _ => cases e

def sp_whole (K : PySem.W.Frag) : Sp := fun vs H Q _ => ∃ (v : V) (d : PyData), vs = [v] ∧ Dq K H v d ∧ Q (.bl (isW d)) H
/-! ### is_whole -/
theorem sc_is_whole : FnScope ["thing"] ["thing"] (defScope s_is_whole) := ⟨rfl, rfl, rfl, by decide +kernel, rfl, by decide +kernel, by decide +kernel⟩
theorem ok_whole {f : Addr} {fd : FuncData} (M : Blt mg) (Mx : Bltx mg) (F : Fun K "is_whole" "is_whole" s_is_whole f fd) : FnG P w K mg base CX0 1 f fd ["thing"] (sp_whole K) := by
  refine Gfun F sc_is_whole (fun vs H Q E h => ?_) (fun cdv A outer s H vs Q E hg hr h => ?_)
  · obtain ⟨v, d, rfl, _⟩ := h
    rfl
  · obtain ⟨v, d, rfl, hq, k⟩ := h
    refine ⟨_, (pss_one (ps_ret (pe_and (pe_callB call_isi rfl Mx.isinstance bt_isinstance (pa_cons (pv 0) (pa_cons (pe_bltn (v := .ty "int") rfl M.int bt_int rfl) pa_nil))) (pe_one (pe_not (pe_callB call_isi rfl Mx.isinstance bt_isinstance (pa_cons (pv 0) (pa_cons (pe_bltn (v := .ty "bool") rfl Mx.bool bt_bool rfl) pa_nil)))))))), ?_⟩
    refine ⟨_, rfl, _, _, _, _, _, rfl, .ty "int", hq.ty, kit_ty (ki d), _, rfl, ite2 (fun e => ?_) (fun e => ?_)⟩
    · refine ⟨_, rfl, _, _, _, _, _, rfl, .ty "bool", hq.ty, kit_ty (kb d), _, rfl, ?_⟩
      have : isW d = !isB d := by cases d <;> first | rfl | (cases e)
      rw [← this]
      exact k
    · have : isW d = false := by cases d <;> first | rfl | (exact absurd rfl e)
      rw [this] at k
      exact k

/-! ### is_fraction -/
theorem sc_is_fraction : FnScope ["thing", "top", "bottom"] ["thing"] (defScope s_is_fraction) := ⟨rfl, rfl, rfl, by decide +kernel, rfl, by decide +kernel, by decide +kernel⟩
def sp_isfr (K : PySem.W.Frag) : Sp := fun vs H Q _ => ∃ (v : V) (d : PyData), vs = [v] ∧ Dq K H v d ∧ Q (.bl (isFr d)) H
theorem isFr_len {ds : List PyData} (h : ds.length ≠ 2) : isFr (.tuple ds) = false := by
  match ds, h with
  | [], _ => rfl
  | [_], _ => rfl
  | [_, _], h => exact absurd rfl h
  | _ :: _ :: _ :: _, _ => rfl
theorem isFr_no {d e : PyData} (h : isW d = false ∨ isW e = false) : isFr (.tuple [d, e]) = false := by
  cases d <;> cases e <;> first | rfl | (rcases h with h | h <;> cases h)
theorem isFr_two {a b : Int} : isFr (.tuple [.int a, .int b]) = (decide (0 < b) && decide (Nat.gcd a.natAbs b.natAbs = 1)) := rfl
theorem DpAll.len {H : Hp} : ∀ {vs : List V} {ds : List PyData}, DpAll K H vs ds → vs.length = ds.length
  | _, _, .nil => rfl
  | _, _, .cons _ r => congrArg Nat.succ (DpAll.len r)
theorem two_of {H : Hp} {xs : List V} {ds : List PyData} (h : DpAll K H xs ds) (hl : xs.length = 2) : ∃ x y d1 d2, xs = [x, y] ∧ ds = [d1, d2] ∧ Dp K H x d1 ∧ Dp K H y d2 := by
  match xs, ds, h, hl with
  | _, _, .cons h1 (.cons h2 .nil), _ => exact ⟨_, _, _, _, rfl, rfl, h1, h2⟩
  | _, _, .nil, e => cases e
  | _, _, .cons _ .nil, e => cases e
  | _, _, .cons _ (.cons _ (.cons _ _)), e => simp at e
theorem ok_isfr {f : Addr} {fd : FuncData} (M : Blt mg) (Mx : Bltx mg) (F : Fun K "is_fraction" "is_fraction" s_is_fraction f fd) (C_is_whole : Cal P w K mg base CX0 1 "is_whole" ["thing"] (sp_whole K)) (C_common : Cal P w K mg base CX0 1 "common" ["one", "other"] spCom) :
    FnG P w K mg base CX0 2 f fd ["thing"] (sp_isfr K) := by
  refine Gfun F sc_is_fraction (fun vs H Q E h => ?_) (fun cdv A outer s H vs Q E hg hr h => ?_)
  · obtain ⟨v, d, rfl, _⟩ := h
    rfl
  · obtain ⟨v, d, rfl, hq, k⟩ := h
    refine ⟨_, (pss_cons (ps_if (PW.pt (pw_or (pt_not (pt_val (pe_callB call_isi rfl Mx.isinstance bt_isinstance (pa_cons (pv 0) (pa_cons (pe_bltn (v := .ty "tuple") rfl Mx.tuple bt_tuple rfl) pa_nil))))) (pw_or1 (pt_cmpR op_ne (pe_callB call_len_seq rfl M.len bt_len (pa_cons (pv 0) pa_nil)) pe_int (nomark _)))))
      (pss_one (ps_ret pe_bl))
      pss_nil)
      (pss_cons (ps_asg (pv 0) (pg_tup rfl (pgs_cons (pg_name (i := 1) sc_is_fraction.nd rfl (.inl rfl)) (pgs_cons (pg_name (i := 2) sc_is_fraction.nd rfl (.inl rfl)) pgs_nil))))
      (pss_cons (ps_if (PW.pt (pw_or (pt_not (pt_val (pe_g C_is_whole (hr.mono (by decide)) hg (pa_cons (pv 1) pa_nil)))) (pw_or1 (pt_not (pt_val (pe_g C_is_whole (hr.mono (by decide)) hg (pa_cons (pv 2) pa_nil)))))))
      (pss_one (ps_ret pe_bl))
      pss_nil)
      (pss_one (ps_ret (pe_and (pe_cmpR op_gt (pv 2) pe_int (nomark _)) (pe_one (pe_cmpR op_eq (pe_g C_common (hr.mono (by decide)) hg (pa_cons (pe_callB call_abs rfl M.abs bt_abs (pa_cons (pv 1) pa_nil)) (pa_cons (pv 2) pa_nil))) pe_int (nomark _))))))))), ?_⟩
    refine ⟨_, rfl, _, _, _, _, _, rfl, .ty "tuple", hq.ty, kit_ty (kt d), _, rfl, ?_⟩
    by_cases ht : isT d = true
    · rw [ht]
      refine iteF ?_
      obtain ⟨a, xs, ds, rfl, rfl, hS, hA, hn⟩ := hq.tup ht
      refine ⟨_, rfl, a, xs, rfl, .inr hS, rfl, _, rfl, ?_⟩
      by_cases hl : xs.length = 2
      · refine iteNS (show V.int (xs.length : Int) = V.int 2 by rw [hl]; rfl) ?_
        obtain ⟨x, y, d1, d2, rfl, rfl, h1, h2⟩ := two_of hA hl
        refine ⟨_, rfl, a, _, rfl, hS, rfl, _, _, rfl, _, _, rfl, rfl, ?_⟩
        have hn' : d1.hasDict = false ∧ d2.hasDict = false := by simpa [PyData.hasDictAll] using hn
        have q1 : Dq K H x d1 := .dp h1 hn'.1
        have q2 : Dq K H y d2 := .dp h2 hn'.2
        refine ⟨_, rfl, x, d1, rfl, q1, _, rfl, ?_⟩
        by_cases w1 : isW d1 = true
        · rw [w1]
          refine iteF ?_
          refine ⟨_, rfl, y, d2, rfl, q2, _, rfl, ?_⟩
          by_cases w2 : isW d2 = true
          · rw [w2]
            refine iteF ?_
            obtain ⟨p, rfl, rfl⟩ := q1.whole w1
            obtain ⟨b, rfl, rfl⟩ := q2.whole w2
            rw [isFr_two] at k
            refine ⟨_, rfl, _, _, rfl, rfl, _, rfl, ite2 (fun e => ?_) (fun e => ?_)⟩
            · have hb : 0 < b := of_decide_eq_true e
              refine ⟨_, rfl, _, rfl, _, rfl, _, b, rfl, ?_, Int.le_of_lt hb, rfl, ?_⟩
              · rw [abs_is]
                omega
              · rw [abs_is, Int.natAbs_natCast]
                rw [decide_eq_true hb, Bool.true_and] at k
                have e2 : decide (V.int ((Nat.gcd p.natAbs b.natAbs : Nat) : Int) = V.int 1) = decide (Nat.gcd p.natAbs b.natAbs = 1) := by
                  by_cases z : Nat.gcd p.natAbs b.natAbs = 1
                  · rw [decide_eq_true z, z]
                    rfl
                  · rw [decide_eq_false z]
                    exact decide_eq_false fun q => z (by have := V.int.inj q; omega)
                rw [e2]
                exact k
            · rw [show decide (0 < b) = false from Bool.eq_false_iff.mpr e, Bool.false_and] at k
              exact k
          · have w2' : isW d2 = false := by cases h : isW d2 <;> first | rfl | exact absurd h w2
            rw [w2']
            refine iteT ?_
            rw [isFr_no (.inr w2')] at k
            exact k
        · have w1' : isW d1 = false := by cases h : isW d1 <;> first | rfl | exact absurd h w1
          rw [w1']
          refine iteT ?_
          rw [isFr_no (.inl w1')] at k
          exact k
      · refine iteN (fun z => hl (by have := V.int.inj z; omega)) ?_
        have hl2 : ds.length ≠ 2 := by rw [← DpAll.len hA]; exact hl
        rw [isFr_len hl2] at k
        exact k
    · have ht' : isT d = false := by cases h : isT d <;> first | rfl | exact absurd h ht
      rw [ht']
      refine iteT ?_
      have : isFr d = false := by
        cases d <;> first | rfl | exact absurd rfl ht
      rw [this] at k
      exact k

/-! ### is_name -/
theorem sc_is_name : FnScope ["thing", "sign"] ["thing"] (defScope s_is_name) := ⟨rfl, rfl, rfl, by decide +kernel, rfl, by decide +kernel, by decide +kernel⟩
def sp_isnm (K : PySem.W.Frag) : Sp := fun vs H Q _ => ∃ (v : V) (d : PyData), vs = [v] ∧ Dq K H v d ∧ (∀ z, d = .str z → z.length ≤ 1000) ∧ ∀ H', Same H H' → Q (.bl (isNm d)) H'
theorem isNm_no {d : PyData} (h : isS d = false) : isNm d = false := by cases d <;> first | rfl | cases h
theorem ok_isnm {f : Addr} {fd : FuncData} {tl tn : Tok} (M : Blt mg) (Mx : Bltx mg) (G_LETTERS : mg "LETTERS" = some (.str lets tl)) (G_LONGEST_NAME : mg "LONGEST_NAME" = some (.int 10 tn)) (F : Fun K "is_name" "is_name" s_is_name f fd) :
    FnG P w K mg base CX0 2 f fd ["thing"] (sp_isnm K) := by
  refine Gfun F sc_is_name (fun vs H Q E h => ?_) (fun cdv A outer s H vs Q E hg hr h => ?_)
  · obtain ⟨v, d, rfl, _⟩ := h
    rfl
  · obtain ⟨v, d, rfl, hq, hz, k⟩ := h
    refine ⟨_, (pss_cons (ps_if (PW.pt (pw_or (pt_not (pt_val (pe_callB call_isi rfl Mx.isinstance bt_isinstance (pa_cons (pv 0) (pa_cons (pe_bltn (v := .ty "str") rfl M.str bt_str rfl) pa_nil))))) (pw_or1 (pt_not (pt_chain op_le op_le pe_int (pe_callB call_len_str rfl M.len bt_len (pa_cons (pv 0) pa_nil)) (pe_glob (v := .int 10) rfl G_LONGEST_NAME ⟨_, rfl⟩))))))
      (pss_one (ps_ret pe_bl))
      pss_nil)
      (pss_one (ps_ret (pe_callB (cr_all rfl) rfl M.all bt_all (pa_cons (pe_lc (own := [("sign", 1)]) (g := gName 1) (tt := tYes) rfl sc_is_name.nd (pi_str (pv 0)) (blkOk_by (N := ["thing", "sign"]) (sc := defScope s_is_name) (by decide +kernel)) (fun _ _ _ _ _ => pg_name (i := 1) sc_is_name.nd rfl (Or.inl rfl)) (fun _ _ _ _ _ => pts_nil) (fun _ _ _ _ _ => (pe_cmpR op_inS (pv 1) (pe_glob (v := .str lets) rfl G_LETTERS ⟨_, rfl⟩) rfl))) pa_nil))))), ?_⟩
    refine ⟨_, rfl, _, _, _, _, _, rfl, .ty "str", hq.ty, kit_ty (ks d), _, rfl, ?_⟩
    by_cases ht : isS d = true
    · rw [ht]
      refine iteF ?_
      obtain ⟨z, rfl, rfl⟩ := hq.txt ht
      have hzl := hz z rfl
      have hnm : isNm (.str z) = (decide (1 ≤ z.length) && decide (z.length ≤ 10) && z.cps.toList.all inL) := rfl
      have fin : ∀ b : Bool, isNm (.str z) = b → ∀ H', Same H H' → Q (.bl b) H' := fun b e H' s => e ▸ k H' s
      refine ⟨_, rfl, z, rfl, len_show hzl, _, _, rfl, rfl, _, rfl, ?_⟩
      by_cases h1 : (1 : Int) ≤ (z.length : Int)
      · rw [decide_eq_true h1]
        refine iteT ⟨_, _, rfl, rfl, _, rfl, ?_⟩
        by_cases h2 : (z.length : Int) ≤ 10
        · rw [decide_eq_true h2]
          refine iteF ?_
          refine ⟨_, rfl, z, rfl, fun D hD => lc_it walk_str (fun i H' => H' D = some (.lst ((z.cps.toList.take i).map fun c => .bl (inL c))) ∧ Same H H') ⟨upd_same, same_new hD⟩ (fun _ _ _ _ => trivial) ?_ ?_⟩
          · rintro i x H1 H2 hi ⟨eD, sm⟩ ⟨rfl, c, hc, rfl⟩
            have hsz : z.cps.size ≤ 1000 := hzl
            refine ⟨rfl, _, rfl, c, lets, rfl, rfl, _, eD, ?_, ?_, fun b o e => ?_⟩
            · rw [List.length_map, List.length_take, sizeLine_eq]
              omega
            · rw [upd_same, List.take_add_one, Array.getElem?_toList, hc, List.map_append]
              rfl
            · rw [upd_ne (ne_of_none e hD)]
              exact sm _ _ e
          · rintro H1 ⟨eD, sm⟩
            rw [show z.cps.size = z.cps.toList.length from Array.length_toList.symm, List.take_length] at eD
            refine ⟨D, z.cps.toList.map inL, rfl, .inl (.inl ?_), ?_⟩
            · rw [eD, List.map_map]
              rfl
            · refine fin _ ?_ H1 sm
              rw [hnm, decide_eq_true (show 1 ≤ z.length by omega), decide_eq_true (show z.length ≤ 10 by omega), List.all_map]
              rfl
        · rw [decide_eq_false h2]
          refine iteT (fin false ?_ H same_rfl)
          rw [hnm, show decide (z.length ≤ 10) = false from decide_eq_false (by omega), Bool.and_false, Bool.false_and]
      · rw [decide_eq_false h1]
        refine iteF ⟨_, rfl, iteT (fin false ?_ H same_rfl)⟩
        rw [hnm, show decide (1 ≤ z.length) = false from decide_eq_false (by omega), Bool.false_and, Bool.false_and]
    · have ht' : isS d = false := by cases h : isS d <;> first | rfl | exact absurd h ht
      rw [ht']
      refine iteT ?_
      have := k H same_rfl
      rw [isNm_no ht'] at this
      exact this

end
end Lf

set_option linter.all false
/-! Sums and products of fractions in any order, by rational numbers. -/
namespace Lf
def rv (f : Int × Int) : Rat := Rat.divInt f.1 f.2
def IsF (f : Int × Int) : Prop := IsLow f.1 f.2
theorem IsF.ne {f : Int × Int} (h : IsF f) : f.2 ≠ 0 := by
  have : 0 < f.2 := h.1
  omega
theorem rv_inj {f g : Int × Int} (hf : IsF f) (hg : IsF g) (e : rv f = rv g) : f = g := by
  have q := (Rat.divInt_eq_divInt_iff hf.ne hg.ne).mp e
  obtain ⟨e1, e2⟩ := low_uniq hf hg q
  exact Prod.ext e1 e2
theorem low_f {n d : Int} (h : d ≠ 0) : IsF (low n d) := low_is h
theorem rv_low {n d : Int} (h : d ≠ 0) : rv (low n d) = Rat.divInt n d :=
  (Rat.divInt_eq_divInt_iff (low_f (n := n) h).ne h).mpr (low_cross h)
def fadd (f g : Int × Int) : Int × Int := low (f.1 * g.2 + g.1 * f.2) (f.2 * g.2)
def fsub (f g : Int × Int) : Int × Int := low (f.1 * g.2 - g.1 * f.2) (f.2 * g.2)
def fmul (f g : Int × Int) : Int × Int := low (f.1 * g.1) (f.2 * g.2)
def fdiv (f g : Int × Int) : Int × Int := low (f.1 * g.2) (f.2 * g.1)
section
variable {f g : Int × Int}
theorem fadd_f (hf : IsF f) (hg : IsF g) : IsF (fadd f g) := low_f (Int.mul_ne_zero hf.ne hg.ne)
theorem fsub_f (hf : IsF f) (hg : IsF g) : IsF (fsub f g) := low_f (Int.mul_ne_zero hf.ne hg.ne)
theorem fmul_f (hf : IsF f) (hg : IsF g) : IsF (fmul f g) := low_f (Int.mul_ne_zero hf.ne hg.ne)
theorem fdiv_f (hf : IsF f) (h0 : g.1 ≠ 0) : IsF (fdiv f g) := low_f (Int.mul_ne_zero hf.ne h0)
theorem rv_add (hf : IsF f) (hg : IsF g) : rv (fadd f g) = rv f + rv g := by
  unfold fadd
  rw [rv_low (Int.mul_ne_zero hf.ne hg.ne)]
  exact (Rat.divInt_add_divInt _ _ hf.ne hg.ne).symm
theorem rv_sub (hf : IsF f) (hg : IsF g) : rv (fsub f g) = rv f - rv g := by
  unfold fsub
  rw [rv_low (Int.mul_ne_zero hf.ne hg.ne)]
  exact (Rat.divInt_sub_divInt _ _ hf.ne hg.ne).symm
theorem rv_mul (hf : IsF f) (hg : IsF g) : rv (fmul f g) = rv f * rv g := by
  unfold fmul
  rw [rv_low (Int.mul_ne_zero hf.ne hg.ne)]
  exact (Rat.divInt_mul_divInt _ _).symm
theorem rv_div (hf : IsF f) (h0 : g.1 ≠ 0) : rv (fdiv f g) = rv f * (rv g)⁻¹ := by
  unfold fdiv
  rw [rv_low (Int.mul_ne_zero hf.ne h0)]
  unfold rv
  rw [Rat.inv_divInt, Rat.divInt_mul_divInt]
end
def f0 : Int × Int := (0, 1)
def f1 : Int × Int := (1, 1)
theorem f0_f : IsF f0 := ⟨by decide, by decide⟩
theorem f1_f : IsF f1 := ⟨by decide, by decide⟩
theorem rv0 : rv f0 = 0 := Rat.zero_divInt 1
theorem rv1 : rv f1 = 1 := Rat.divInt_self' (by decide)
theorem rv_zero {f : Int × Int} (h : IsF f) : rv f = 0 ↔ f.1 = 0 := by
  constructor
  · intro e
    have := rv_inj h f0_f (e.trans rv0.symm)
    rw [this]
    rfl
  · intro e
    unfold rv
    rw [e, Rat.zero_divInt]
theorem is0 {f : Int × Int} (h : IsF f) : f.1 = 0 ↔ f = f0 := by
  constructor
  · intro e
    exact rv_inj h f0_f (((rv_zero h).mpr e).trans rv0.symm)
  · intro e
    rw [e]
    rfl
def rsum : List (Int × Int) → Rat
  | [] => 0
  | f :: r => rv f + rsum r
def rprod : List (Int × Int) → Rat
  | [] => 1
  | f :: r => rv f * rprod r
theorem rsum_perm {l m : List (Int × Int)} (p : l.Perm m) : rsum l = rsum m := by
  induction p with
  | nil => rfl
  | cons x _ ih => exact congrArg (rv x + ·) ih
  | swap x y l =>
    show rv y + (rv x + rsum l) = rv x + (rv y + rsum l)
    rw [← Rat.add_assoc, ← Rat.add_assoc, Rat.add_comm (rv y)]
  | trans _ _ h1 h2 => exact h1.trans h2
theorem rprod_perm {l m : List (Int × Int)} (p : l.Perm m) : rprod l = rprod m := by
  induction p with
  | nil => rfl
  | cons x _ ih => exact congrArg (rv x * ·) ih
  | swap x y l =>
    show rv y * (rv x * rprod l) = rv x * (rv y * rprod l)
    rw [← Rat.mul_assoc, ← Rat.mul_assoc, Rat.mul_comm (rv y)]
  | trans _ _ h1 h2 => exact h1.trans h2
def AllF (l : List (Int × Int)) : Prop := ∀ f ∈ l, IsF f
theorem AllF.tl {f : Int × Int} {l : List (Int × Int)} (h : AllF (f :: l)) : AllF l := fun g hg => h g (List.mem_cons_of_mem _ hg)
theorem AllF.hd {f : Int × Int} {l : List (Int × Int)} (h : AllF (f :: l)) : IsF f := h f List.mem_cons_self
theorem sum_fold : ∀ (l : List (Int × Int)) (a : Int × Int), IsF a → AllF l → IsF (l.foldl fadd a) ∧ rv (l.foldl fadd a) = rv a + rsum l
  | [], a, ha, _ => ⟨ha, (Rat.add_zero _).symm⟩
  | f :: l, a, ha, h => by
    obtain ⟨h1, h2⟩ := sum_fold l (fadd a f) (fadd_f ha h.hd) h.tl
    refine ⟨h1, ?_⟩
    show rv (l.foldl fadd (fadd a f)) = rv a + (rv f + rsum l)
    rw [h2, rv_add ha h.hd, Rat.add_assoc]
theorem mul_fold : ∀ (l : List (Int × Int)) (a : Int × Int), IsF a → AllF l → IsF (l.foldl fmul a) ∧ rv (l.foldl fmul a) = rv a * rprod l
  | [], a, ha, _ => ⟨ha, (Rat.mul_one _).symm⟩
  | f :: l, a, ha, h => by
    obtain ⟨h1, h2⟩ := mul_fold l (fmul a f) (fmul_f ha h.hd) h.tl
    refine ⟨h1, ?_⟩
    show rv (l.foldl fmul (fmul a f)) = rv a * (rv f * rprod l)
    rw [h2, rv_mul ha h.hd, Rat.mul_assoc]
theorem sub_fold : ∀ (l : List (Int × Int)) (a : Int × Int), IsF a → AllF l → IsF (l.foldl fsub a) ∧ rv (l.foldl fsub a) = rv a - rsum l
  | [], a, ha, _ => ⟨ha, by show rv a = rv a - 0; rw [Rat.sub_eq_add_neg, show -(0 : Rat) = 0 from rfl, Rat.add_zero]⟩
  | f :: l, a, ha, h => by
    obtain ⟨h1, h2⟩ := sub_fold l (fsub a f) (fsub_f ha h.hd) h.tl
    refine ⟨h1, ?_⟩
    show rv (l.foldl fsub (fsub a f)) = rv a - (rv f + rsum l)
    rw [h2, rv_sub ha h.hd, Rat.sub_eq_add_neg, Rat.sub_eq_add_neg, Rat.sub_eq_add_neg, Rat.neg_add, Rat.add_assoc]
/-- one division, where it is one -/
def ddiv (a f : Int × Int) : Int × Int := if f.1 ≠ 0 ∧ a.1 ≠ 0 then fdiv a f else a
theorem ddiv_f {a f : Int × Int} (ha : IsF a) (hf : IsF f) : IsF (ddiv a f) := by
  unfold ddiv
  split
  · exact fdiv_f ha (by rename_i h; exact h.1)
  · exact ha
theorem div_fold0 : ∀ (l : List (Int × Int)) (a : Int × Int), a.1 = 0 → l.foldl ddiv a = a
  | [], _, _ => rfl
  | f :: l, a, h => by
    show l.foldl ddiv (ddiv a f) = a
    have e : ddiv a f = a := if_neg fun z => z.2 h
    rw [e]
    exact div_fold0 l a h
theorem div_fold : ∀ (l : List (Int × Int)) (a : Int × Int), IsF a → AllF l → (∀ f ∈ l, f.1 ≠ 0) → a.1 ≠ 0 → IsF (l.foldl ddiv a) ∧ rv (l.foldl ddiv a) * rprod l = rv a
  | [], a, ha, _, _, _ => ⟨ha, Rat.mul_one _⟩
  | f :: l, a, ha, h, h0, ha0 => by
    have hf0 : f.1 ≠ 0 := h0 f List.mem_cons_self
    have e : ddiv a f = fdiv a f := if_pos ⟨hf0, ha0⟩
    have hq := fdiv_f (g := f) ha hf0
    have rq := rv_div (g := f) ha hf0
    have rf0 : rv f ≠ 0 := fun z => hf0 ((rv_zero h.hd).mp z)
    have hb : rv (fdiv a f) * rv f = rv a := by rw [rq, Rat.mul_assoc, Rat.inv_mul_cancel _ rf0, Rat.mul_one]
    have hq0 : (fdiv a f).1 ≠ 0 := fun z => by
      have := (rv_zero hq).mpr z
      rw [this, Rat.zero_mul] at hb
      exact ha0 ((rv_zero ha).mp hb.symm)
    obtain ⟨h1, h2⟩ := div_fold l (fdiv a f) hq h.tl (fun g hg => h0 g (List.mem_cons_of_mem _ hg)) hq0
    show IsF (l.foldl ddiv (ddiv a f)) ∧ rv (l.foldl ddiv (ddiv a f)) * (rv f * rprod l) = rv a
    rw [e]
    refine ⟨h1, ?_⟩
    rw [Rat.mul_comm (rv f), ← Rat.mul_assoc, h2, hb]
theorem rprod0 : ∀ {l : List (Int × Int)}, AllF l → (rprod l = 0 ↔ ∃ f ∈ l, f.1 = 0)
  | [], _ => ⟨fun e => absurd e (by decide), fun ⟨_, h, _⟩ => nomatch h⟩
  | f :: l, h => by
    show rv f * rprod l = 0 ↔ _
    rw [Rat.mul_eq_zero, rv_zero h.hd, rprod0 h.tl]
    constructor
    · rintro (e | ⟨g, hg, e⟩)
      · exact ⟨f, List.mem_cons_self, e⟩
      · exact ⟨g, List.mem_cons_of_mem _ hg, e⟩
    · rintro ⟨g, hg, e⟩
      rcases List.mem_cons.mp hg with z | z
      · exact Or.inl (z ▸ e)
      · exact Or.inr ⟨g, z, e⟩
/-- told in two orders the same -/
theorem sum_same {l m : List (Int × Int)} (p : l.Perm m) (h : AllF l) : l.foldl fadd f0 = m.foldl fadd f0 := by
  have hm : AllF m := fun f hf => h f (p.mem_iff.mpr hf)
  obtain ⟨a1, a2⟩ := sum_fold l f0 f0_f h
  obtain ⟨b1, b2⟩ := sum_fold m f0 f0_f hm
  exact rv_inj a1 b1 (by rw [a2, b2, rsum_perm p])
theorem mul_same {l m : List (Int × Int)} (p : l.Perm m) (h : AllF l) : l.foldl fmul f1 = m.foldl fmul f1 := by
  have hm : AllF m := fun f hf => h f (p.mem_iff.mpr hf)
  obtain ⟨a1, a2⟩ := mul_fold l f1 f1_f h
  obtain ⟨b1, b2⟩ := mul_fold m f1 f1_f hm
  exact rv_inj a1 b1 (by rw [a2, b2, rprod_perm p])
theorem sub_none {l m : List (Int × Int)} (p : l.Perm m) (h : AllF l) : m.foldl fsub (l.foldl fadd f0) = f0 := by
  have hm : AllF m := fun f hf => h f (p.mem_iff.mpr hf)
  obtain ⟨a1, a2⟩ := sum_fold l f0 f0_f h
  obtain ⟨b1, b2⟩ := sub_fold m _ a1 hm
  exact rv_inj b1 f0_f (by rw [b2, a2, rv0, Rat.zero_add, rsum_perm p, Rat.sub_self])
theorem div_none {l m : List (Int × Int)} (p : l.Perm m) (h : AllF l) : m.foldl ddiv (l.foldl fmul f1) = if f0 ∈ l then f0 else f1 := by
  have hm : AllF m := fun f hf => h f (p.mem_iff.mpr hf)
  obtain ⟨a1, a2⟩ := mul_fold l f1 f1_f h
  rw [rv1, Rat.one_mul] at a2
  by_cases hz : f0 ∈ l
  · rw [if_pos hz]
    have z : rprod l = 0 := (rprod0 h).mpr ⟨f0, hz, rfl⟩
    have z1 : (l.foldl fmul f1).1 = 0 := (rv_zero a1).mp (a2.trans z)
    rw [div_fold0 _ _ z1]
    exact (is0 a1).mp z1
  · rw [if_neg hz]
    have nz : ∀ f ∈ l, f.1 ≠ 0 := fun f hf e => hz ((is0 (h f hf)).mp e ▸ hf)
    have np : rprod l ≠ 0 := fun e => by
      obtain ⟨f, hf, e'⟩ := (rprod0 h).mp e
      exact nz f hf e'
    have n1 : (l.foldl fmul f1).1 ≠ 0 := fun e => np (a2.symm.trans ((rv_zero a1).mpr e))
    obtain ⟨b1, b2⟩ := div_fold m _ a1 hm (fun f hf => nz f (p.mem_iff.mpr hf)) n1
    refine rv_inj b1 f1_f ?_
    rw [a2, rprod_perm p] at b2
    have np' : rprod m ≠ 0 := by rw [← rprod_perm p]; exact np
    have : rv (m.foldl ddiv (l.foldl fmul f1)) * rprod m * (rprod m)⁻¹ = rprod m * (rprod m)⁻¹ := by rw [b2]
    rw [Rat.mul_assoc, Rat.mul_inv_cancel _ np', Rat.mul_one] at this
    rw [this, rv1]
/-- one fraction times a sum is the sum of its products -/
theorem spread_fold (x : Int × Int) (hx : IsF x) : ∀ (l : List (Int × Int)) (a : Int × Int), IsF a → AllF l → IsF (l.foldl (fun a f => fadd a (fmul x f)) a) ∧ rv (l.foldl (fun a f => fadd a (fmul x f)) a) = rv a + rv x * rsum l
  | [], a, ha, _ => ⟨ha, by show rv a = rv a + rv x * 0; rw [Rat.mul_zero, Rat.add_zero]⟩
  | f :: l, a, ha, h => by
    obtain ⟨h1, h2⟩ := spread_fold x hx l (fadd a (fmul x f)) (fadd_f ha (fmul_f hx h.hd)) h.tl
    refine ⟨h1, ?_⟩
    show rv (l.foldl (fun a f => fadd a (fmul x f)) (fadd a (fmul x f))) = rv a + rv x * (rv f + rsum l)
    rw [h2, rv_add ha (fmul_f hx h.hd), rv_mul hx h.hd, Rat.mul_add, Rat.add_assoc]
theorem spread_same {x : Int × Int} {l : List (Int × Int)} (hx : IsF x) (h : AllF l) : l.foldl (fun a f => fadd a (fmul x f)) f0 = fmul (fmul f1 x) (l.foldl fadd f0) := by
  obtain ⟨a1, a2⟩ := spread_fold x hx l f0 f0_f h
  obtain ⟨b1, b2⟩ := sum_fold l f0 f0_f h
  have c := fmul_f f1_f hx
  refine rv_inj a1 (fmul_f c b1) ?_
  rw [a2, rv_mul c b1, rv_mul f1_f hx, b2, rv0, rv1, Rat.one_mul, Rat.zero_add, Rat.zero_add]
/-! sizes -/
def Bt (k : Nat) (f : Int × Int) : Prop := f.1.natAbs < 2 ^ k ∧ f.2.natAbs < 2 ^ k
theorem Bt.mono {j k : Nat} {f : Int × Int} (h : Bt j f) (hk : j ≤ k) : Bt k f :=
  ⟨Nat.lt_of_lt_of_le h.1 (Nat.pow_le_pow_right (by decide) hk), Nat.lt_of_lt_of_le h.2 (Nat.pow_le_pow_right (by decide) hk)⟩
theorem mul_lt {a b : Int} {j k : Nat} (ha : a.natAbs < 2 ^ j) (hb : b.natAbs < 2 ^ k) : (a * b).natAbs < 2 ^ (j + k) := by
  rw [Int.natAbs_mul, Nat.pow_add]
  exact Nat.mul_lt_mul'' ha hb
theorem low_bt {n d : Int} {k : Nat} (h : d ≠ 0) (hn : n.natAbs < 2 ^ k) (hd : d.natAbs < 2 ^ k) : Bt k (low n d) :=
  ⟨Nat.lt_of_le_of_lt (low_top_le h) hn, Nat.lt_of_le_of_lt (low_bottom_le h) hd⟩
section
variable {f g : Int × Int} {j k : Nat}
theorem fadd_bt (hf : IsF f) (hg : IsF g) (a : Bt k f) (b : Bt j g) : Bt (k + j + 1) (fadd f g) := by
  have h1 := mul_lt a.1 b.2
  have h2 := mul_lt a.2 b.1
  have h3 := mul_lt a.2 b.2
  have h4 := Int.natAbs_add_le (f.1 * g.2) (g.1 * f.2)
  rw [Int.mul_comm g.1] at h4
  have h5 : (2 : Nat) ^ (k + j + 1) = 2 ^ (k + j) + 2 ^ (k + j) := Nat.two_pow_succ _
  refine low_bt (Int.mul_ne_zero hf.ne hg.ne) ?_ (by omega)
  rw [Int.mul_comm g.1]
  omega
theorem fsub_bt (hf : IsF f) (hg : IsF g) (a : Bt k f) (b : Bt j g) : Bt (k + j + 1) (fsub f g) := by
  have h1 := mul_lt a.1 b.2
  have h2 := mul_lt a.2 b.1
  have h3 := mul_lt a.2 b.2
  have h4 := Int.natAbs_sub_le (f.1 * g.2) (g.1 * f.2)
  rw [Int.mul_comm g.1] at h4
  have h5 : (2 : Nat) ^ (k + j + 1) = 2 ^ (k + j) + 2 ^ (k + j) := Nat.two_pow_succ _
  refine low_bt (Int.mul_ne_zero hf.ne hg.ne) ?_ (by omega)
  rw [Int.mul_comm g.1]
  omega
theorem fmul_bt (hf : IsF f) (hg : IsF g) (a : Bt k f) (b : Bt j g) : Bt (k + j) (fmul f g) :=
  low_bt (Int.mul_ne_zero hf.ne hg.ne) (mul_lt a.1 b.1) (mul_lt a.2 b.2)
theorem fdiv_bt (hf : IsF f) (h0 : g.1 ≠ 0) (a : Bt k f) (b : Bt j g) : Bt (k + j) (fdiv f g) :=
  low_bt (Int.mul_ne_zero hf.ne h0) (mul_lt a.1 b.2) (mul_lt a.2 b.1)
theorem ddiv_bt (hf : IsF f) (a : Bt k f) (b : Bt j g) : Bt (k + j) (ddiv f g) := by
  unfold ddiv
  split
  · rename_i h
    exact fdiv_bt hf h.1 a b
  · exact a.mono (Nat.le_add_right _ _)
end
end Lf

set_option Elab.async false
set_option linter.all false
set_option maxRecDepth 100000
set_option maxHeartbeats 4000000
set_option exponentiation.threshold 3000
/-! Fractions that stand in the heap or among the module's constants, and rows of them. -/
namespace Lf
open PySem PySem.Spec PyProof.Rows L2
/-- a fraction stands at v -/
def AtK (K : PySem.W.Frag) (H : Hp) (v : V) (f : Int × Int) : Prop := ∃ p, v = .ref p ∧ SqT K H p [.int f.1, .int f.2]
theorem AtK.same {K : PySem.W.Frag} {H H' : Hp} {v : V} {f : Int × Int} (s : Same H H') (h : AtK K H v f) : AtK K H' v f := by
  obtain ⟨p, e, h⟩ := h
  refine ⟨p, e, ?_⟩
  rcases h with (h | ⟨o, h⟩) | h
  · exact .inl (.inl (s _ _ h))
  · exact .inl (.inr ⟨o, s _ _ h⟩)
  · exact .inr h
theorem AtK.of {K : PySem.W.Frag} {H : Hp} {p : Addr} {f : Int × Int} (h : H p = some (.tup [.int f.1, .int f.2])) : AtK K H (.ref p) f := ⟨p, rfl, .inl (.inl h)⟩
/-- fractions stand at vs -/
def AtKs (K : PySem.W.Frag) (H : Hp) (vs : List V) (fs : List (Int × Int)) : Prop := Paired (AtK K H) vs fs
theorem AtKs.map {K : PySem.W.Frag} {H H' : Hp} (s : ∀ v f, AtK K H v f → AtK K H' v f) : ∀ {vs : List V} {fs : List (Int × Int)}, AtKs K H vs fs → AtKs K H' vs fs
  | _, _, .nil => .nil
  | _, _, .cons a r => .cons (s _ _ a) (AtKs.map s r)
theorem AtKs.same {K : PySem.W.Frag} {H H' : Hp} (s : Same H H') {vs : List V} {fs : List (Int × Int)} (h : AtKs K H vs fs) : AtKs K H' vs fs := h.map fun _ _ => AtK.same s
theorem AtKs.get {K : PySem.W.Frag} {H : Hp} : ∀ {vs : List V} {fs : List (Int × Int)} {i : Nat} {v : V}, AtKs K H vs fs → vs[i]? = some v → ∃ f, fs[i]? = some f ∧ AtK K H v f
  | _, _, _, _, .nil, e => by simp at e
  | _, _, 0, _, .cons a _, e => by
    simp at e
    subst e
    exact ⟨_, rfl, a⟩
  | _, _, i + 1, v, .cons _ r, e => by
    obtain ⟨f, h1, h2⟩ := AtKs.get (i := i) (v := v) r (by simpa using e)
    exact ⟨f, by simpa using h1, h2⟩
theorem AtKs.getF {K : PySem.W.Frag} {H : Hp} : ∀ {vs : List V} {fs : List (Int × Int)} {i : Nat} {f : Int × Int}, AtKs K H vs fs → fs[i]? = some f → ∃ v, vs[i]? = some v ∧ AtK K H v f
  | _, _, _, _, .nil, e => by simp at e
  | _, _, 0, _, .cons a _, e => by
    simp at e
    subst e
    exact ⟨_, rfl, a⟩
  | _, _, i + 1, f, .cons _ r, e => by
    obtain ⟨v, h1, h2⟩ := AtKs.getF (i := i) (f := f) r (by simpa using e)
    exact ⟨v, by simpa using h1, h2⟩
theorem AtKs.length {K : PySem.W.Frag} {H : Hp} {vs : List V} {fs : List (Int × Int)} (h : AtKs K H vs fs) : vs.length = fs.length := Paired.length h
theorem AtKs.app {K : PySem.W.Frag} {H : Hp} : ∀ {vs us : List V} {fs gs : List (Int × Int)}, AtKs K H vs fs → AtKs K H us gs → AtKs K H (vs ++ us) (fs ++ gs)
  | _, _, _, _, .nil, h => h
  | _, _, _, _, .cons a r, h => .cons a (AtKs.app r h)
theorem fold_take {α β : Type} (g : β → α → β) (a : β) {l : List α} {i : Nat} {x : α} (h : l[i]? = some x) : (l.take (i + 1)).foldl g a = g ((l.take i).foldl g a) x := by
  rw [List.take_add_one, h, List.foldl_append]
  rfl
theorem take_all {l : List (Int × Int)} (h : AllF l) (i : Nat) : AllF (l.take i) := fun f hf => h f (List.mem_of_mem_take hf)
def AllB (b : Nat) (l : List (Int × Int)) : Prop := ∀ f ∈ l, Bt b f
theorem add_bt {b : Nat} : ∀ (l : List (Int × Int)) (k : Nat) (a : Int × Int), IsF a → AllF l → Bt k a → AllB b l → Bt (k + (b + 1) * l.length) (l.foldl fadd a)
  | [], _, _, _, _, h, _ => h
  | f :: l, k, a, ha, h, hk, hb => by
    have := add_bt l (k + b + 1) (fadd a f) (fadd_f ha h.hd) h.tl (fadd_bt ha h.hd hk (hb f List.mem_cons_self)) (fun g hg => hb g (List.mem_cons_of_mem _ hg))
    refine this.mono ?_
    rw [List.length_cons, Nat.mul_succ]
    omega
theorem bt01 : Bt 1 f0 ∧ Bt 1 f1 := ⟨⟨by decide, by decide⟩, ⟨by decide, by decide⟩⟩
theorem fadd_0 {f : Int × Int} (h : IsF f) : fadd f0 f = f := by
  refine rv_inj (fadd_f f0_f h) h ?_
  rw [rv_add f0_f h, rv0]
  exact Rat.zero_add _
/-- what holds by two promises holds by either -/
theorem FnG.or {P : Program} {w : World} {K : PySem.W.Frag} {mg : Str → Option Value} {base : Heap} {CX : CXT} {k : Nat} {f : Addr} {fd : FuncData} {ps : List Str} {sp sq : Sp} (F : FnG P w K mg base CX k f fd ps sp) (G : FnG P w K mg base CX k f fd ps sq) :
    FnG P w K mg base CX k f fd ps (fun vs H Q E => sp vs H Q E ∨ sq vs H Q E) :=
  ⟨fun vs H Q E h => h.elim (F.size vs H Q E) (G.size vs H Q E), fun B out s H ar us vs Q E r hg e0 hb hv h => h.elim (F.goes B out s H ar us vs Q E r hg e0 hb hv) (G.goes B out s H ar us vs Q E r hg e0 hb hv)⟩
end Lf

set_option Elab.async false
set_option linter.all false
set_option maxRecDepth 100000
set_option maxHeartbeats 4000000
set_option exponentiation.threshold 3000
namespace Lf
open PySem PySem.Spec PyProof.Rows L2
theorem Bt.sm {k : Nat} {f : Int × Int} (h : Bt k f) (hk : k ≤ 900) : Sm f.1 ∧ Sm f.2 := ⟨(h.mono hk).1, (h.mono hk).2⟩
theorem pr_sq {K : PySem.W.Frag} {H : Hp} {p q : Addr} {f g : Int × Int} {j k : Nat} (hp : SqT K H p [.int f.1, .int f.2]) (hq : SqT K H q [.int g.1, .int g.2]) (hf : IsF f) (hg : IsF g) (bf : Bt j f) (bg : Bt k g) (hj : j ≤ 900) (hk : k ≤ 900) : Pr K H [.ref p, .ref q] f.1 f.2 g.1 g.2 :=
  ⟨⟨p, q, rfl, hp, hq⟩, hf.ne, hg.ne, (bf.sm hj).1, (bf.sm hj).2, (bg.sm hk).1, (bg.sm hk).2⟩
theorem pr_atk {K : PySem.W.Frag} {H : Hp} {v u : V} {f g : Int × Int} {j k : Nat} (hv : AtK K H v f) (hu : AtK K H u g) (hf : IsF f) (hg : IsF g) (bf : Bt j f) (bg : Bt k g) (hj : j ≤ 900) (hk : k ≤ 900) : Pr K H [v, u] f.1 f.2 g.1 g.2 := by
  obtain ⟨p, rfl, hp⟩ := hv
  obtain ⟨q, rfl, hq⟩ := hu
  exact pr_sq hp hq hf hg bf bg hj hk
section
variable {P : Program} {w : World} {K : PySem.W.Frag} {mg : Str → Option Value} {base : Heap}

/-! ### together -/
theorem sc_together : FnScope ["ones", "told", "one"] ["ones"] (defScope s_together) := ⟨rfl, rfl, rfl, by decide +kernel, rfl, by decide +kernel, by decide +kernel⟩
/-- fractions of a row, added up -/
def sp_togL (K : PySem.W.Frag) : Sp := fun vs H Q _ => ∃ (L : Addr) (xs : List V) (fs : List (Int × Int)) (b : Nat), vs = [.ref L] ∧ SqL K H L xs ∧ AtKs K H xs fs ∧ AllF fs ∧ AllB b fs ∧ b ≤ 900 ∧ 1 + (b + 1) * fs.length ≤ 900 ∧
  ∀ (H' : Hp) (v : V), Same H H' → AtK K H' v (fs.foldl fadd f0) → Q v H'
theorem ok_togL {f c0 : Addr} {fd : FuncData} (g0 : mg "NONE_OF_IT" = some (.ref c0)) (t0 : ∀ H, SqT K H c0 [.int 0, .int 1]) (F : Fun K "together" "together" s_together f fd) (C_plus : Cal P w K mg base CX0 5 "plus" ["one", "other"] (sp_plus K)) : FnG P w K mg base CX0 6 f fd ["ones"] (sp_togL K) := by
  refine Gfun F sc_together (fun vs H Q E h => ?_) (fun cdv A outer s H vs Q E hg hr h => ?_)
  · obtain ⟨L, xs, fs, b, rfl, _⟩ := h
    rfl
  · obtain ⟨L, xs, fs, b, rfl, hS, hA, hF, hB, hb8, hlen, k⟩ := h
    refine ⟨_, (pss_cons (ps_set (i := 1) sc_together.nd rfl (.inl rfl) (pe_glob (v := .ref c0) rfl g0 rfl))
      (pss_cons (ps_for PassesOwn.never rfl (pi_list (pv 0)) (pg_name (i := 2) sc_together.nd rfl (.inl rfl))
      (pss_one (ps_set (i := 1) sc_together.nd rfl (.inl rfl) (pe_g C_plus (hr.mono (by decide)) hg (pa_cons (pv 1) (pa_cons (pv 2) pa_nil))))))
      (pss_one (ps_ret (pv 1))))), ?_⟩
    refine ⟨_, rfl, L, rfl, ⟨_, hS⟩, for_list (K := K) (a := L) (xs := xs) (fun i σ H' => ∃ (v : Option V) (t : V), σ = [some (.ref L), some t, v] ∧ Same H H' ∧ AtK K H' t ((fs.take i).foldl fadd f0))
      ⟨none, .ref c0, rfl, same_rfl, ⟨c0, rfl, t0 H⟩⟩ (fun i σ H' _ ⟨_, _, _, sm, _⟩ => sm.seq hS) ?_ ?_⟩
    · rintro i x σ H' hi ⟨v, t, rfl, sm, ht⟩
      obtain ⟨g, hgi, hx0⟩ := hA.get hi
      have hx := hx0.same sm
      have hgf : IsF g := hF g (List.mem_of_getElem? hgi)
      have bg : Bt b g := hB g (List.mem_of_getElem? hgi)
      have hil : i < fs.length := (List.getElem?_eq_some_iff.mp hgi).1
      have htl : (fs.take i).length = i := by rw [List.length_take]; omega
      have hmn : (b + 1) * i ≤ (b + 1) * fs.length := Nat.mul_le_mul_left _ (Nat.le_of_lt hil)
      have fa := (sum_fold (fs.take i) f0 f0_f (take_all hF i)).1
      have ba := add_bt (b := b) (fs.take i) 1 f0 f0_f (take_all hF i) bt01.1 (fun f hf => hB f (List.mem_of_mem_take hf))
      rw [htl] at ba
      refine ⟨_, rfl, _, rfl, _, _, _, _, pr_atk ht hx fa hgf ba bg (by omega) hb8, fun H2 t' s2 e2 => ?_⟩
      refine ⟨some x, _, rfl, sm.trans s2, ?_⟩
      rw [fold_take _ _ hgi]
      exact AtK.of e2
    · rintro σ H' ⟨v, t, rfl, sm, ht⟩
      refine ⟨_, rfl, k H' t sm ?_⟩
      rw [hA.length, List.take_length] at ht
      exact ht

end
end Lf

set_option Elab.async false
set_option linter.all false
set_option maxRecDepth 100000
set_option maxHeartbeats 4000000
set_option exponentiation.threshold 3000
namespace Lf
open PySem PySem.Spec PyProof.Rows L2
/-- a statement that is never come to -/
theorem ps_dead {X : Cx} {st : Stmt} : PS X st (fun _ _ _ => False) := ⟨fun _ _ _ _ _ _ h => h.elim⟩
/-- the module's constant tuples -/
structure Cst (K : PySem.W.Frag) (mg : Str → Option Value) (c0 c1 cw : Addr) : Prop where
  g0 : mg "NONE_OF_IT" = some (.ref c0)
  g1 : mg "ALL_OF_IT" = some (.ref c1)
  gw : mg "WORDS" = some (.ref cw)
  t0 : ∀ H, SqT K H c0 [.int 0, .int 1]
  t1 : ∀ H, SqT K H c1 [.int 1, .int 1]
  tw : ∀ H, SqT K H cw [.str "flour", .str "water", .str "salt", .str "thirst", .str "price"]
/-- the top and the bottom of a fraction -/
def top2 : PyData → Int × Int
  | .tuple [.int a, .int b] => (a, b)
  | _ => (0, 1)
def isM (d : PyData) : Bool := isFr d && decide (0 ≤ (top2 d).1)
theorem isFr_inv {d : PyData} (h : isFr d = true) : ∃ a b : Int, d = .tuple [.int a, .int b] ∧ IsLow a b := by
  cases d with
  | tuple ds =>
    match ds, h with
    | [x, y], h =>
      have h' : fr2 x y = true := h
      cases x <;> cases y <;> first | (cases h'; done) | skip
      rename_i a b
      have h2 : (decide (0 < b) && decide (Nat.gcd a.natAbs b.natAbs = 1)) = true := h'
      rw [Bool.and_eq_true] at h2
      exact ⟨a, b, rfl, of_decide_eq_true h2.1, of_decide_eq_true h2.2⟩
    | [], h => cases h
    | [_], h => cases h
    | _ :: _ :: _ :: _, h => cases h
  | none => cases h
  | bool _ => cases h
  | int _ => cases h
  | str _ => cases h
  | list _ => cases h
  | dict _ => cases h
section
variable {P : Program} {w : World} {K : PySem.W.Frag} {mg : Str → Option Value} {base : Heap} {c0 c1 cw : Addr}

/-! ### measure_or_none_of_it -/
theorem sc_measure_or_none_of_it : FnScope ["measure"] ["measure"] (defScope s_measure_or_none_of_it) := ⟨rfl, rfl, rfl, by decide +kernel, rfl, by decide +kernel, by decide +kernel⟩
/-- None is (0, 1) -/
def orNone : PyData → PyData
  | .none => .tuple [.int 0, .int 1]
  | d => d
def sp_orNone (K : PySem.W.Frag) : Sp := fun vs H Q _ => ∃ (v : V) (d : PyData), vs = [v] ∧ Dq K H v d ∧ ∀ v', (∀ H2, Dq K H2 v d → Dq K H2 v' (orNone d)) → Q v' H
theorem dq_pair {H : Hp} {a : Addr} {x y : Int} (h : SqT K H a [.int x, .int y]) : Dq K H (.ref a) (.tuple [.int x, .int y]) := .dp (.tup h (.cons (.int x) (.cons (.int y) .nil))) (by rfl)
theorem ok_orNone {f : Addr} {fd : FuncData} (T : Cst K mg c0 c1 cw) (F : Fun K "measure_or_none_of_it" "measure_or_none_of_it" s_measure_or_none_of_it f fd) : FnG P w K mg base CX0 1 f fd ["measure"] (sp_orNone K) := by
  refine Gfun F sc_measure_or_none_of_it (fun vs H Q E h => ?_) (fun cdv A outer s H vs Q E hg hr h => ?_)
  · obtain ⟨v, d, rfl, _⟩ := h
    rfl
  · obtain ⟨v, d, rfl, hq, k⟩ := h
    refine ⟨_, (pss_cons (ps_if (pt_cmp (pc_isN (pv 0)))
      (pss_one (ps_ret (pe_glob (v := .ref c0) rfl T.g0 rfl)))
      pss_nil)
      (pss_one (ps_ret (pv 0)))), ?_⟩
    refine ⟨_, rfl, _, rfl, ite2 (fun e => ?_) (fun e => ?_)⟩
    · have ev : v = .non := of_decide_eq_true e
      have ed : d = .none := by
        subst ev
        cases hq with
        | dp h _ =>
          cases h
          rfl
      subst ed
      exact k _ (fun H2 _ => dq_pair (T.t0 H2))
    · have ed : orNone d = d := by
        cases d with
        | none =>
          exfalso
          cases hq with
          | dp h _ =>
            cases h
            exact e (by decide)
        | _ => rfl
      refine ⟨_, rfl, k v fun H2 h2 => ?_⟩
      rw [ed]
      exact h2

/-! ### is_measure -/
theorem sc_is_measure : FnScope ["thing"] ["thing"] (defScope s_is_measure) := ⟨rfl, rfl, rfl, by decide +kernel, rfl, by decide +kernel, by decide +kernel⟩
def sp_isM (K : PySem.W.Frag) : Sp := fun vs H Q _ => ∃ (v : V) (d : PyData), vs = [v] ∧ Dq K H v d ∧ Q (.bl (isM d)) H
theorem ok_isM {f : Addr} {fd : FuncData} (F : Fun K "is_measure" "is_measure" s_is_measure f fd) (C_is_fraction : Cal P w K mg base CX0 2 "is_fraction" ["thing"] (sp_isfr K)) : FnG P w K mg base CX0 3 f fd ["thing"] (sp_isM K) := by
  refine Gfun F sc_is_measure (fun vs H Q E h => ?_) (fun cdv A outer s H vs Q E hg hr h => ?_)
  · obtain ⟨v, d, rfl, _⟩ := h
    rfl
  · obtain ⟨v, d, rfl, hq, k⟩ := h
    refine ⟨_, (pss_one (ps_ret (pe_and (pe_g C_is_fraction (hr.mono (by decide)) hg (pa_cons (pv 0) pa_nil)) (pe_one (pe_cmpR op_ge (pe_ix ix_tup (pv 0) pe_int (fun _ _ => rfl)) pe_int (nomark _)))))), ?_⟩
    refine ⟨_, rfl, v, d, rfl, hq, _, rfl, ite2 (fun e => ?_) (fun e => ?_)⟩
    · obtain ⟨a, b, rfl, _⟩ := isFr_inv e
      obtain ⟨p, xs, ds, rfl, ed, hS, hA, _⟩ := hq.tup rfl
      cases ed
      cases hA with
      | cons h1 r =>
        cases h1
        refine ⟨_, rfl, p, _, _, _, rfl, rfl, hS, atI_nat (j := 0) rfl, _, _, rfl, rfl, ?_⟩
        have : isM (.tuple [.int a, .int b]) = decide (0 ≤ a) := by
          unfold isM
          rw [e]
          rfl
        rw [this] at k
        exact k
    · have : isM d = false := by
        unfold isM
        rw [show isFr d = false from Bool.eq_false_iff.mpr e]
        rfl
      rw [this] at k
      exact k

/-! ### are_too_much -/
theorem sc_are_too_much : FnScope ["flour", "water", "salt"] ["flour", "water", "salt"] (defScope s_are_too_much) := ⟨rfl, rfl, rfl, by decide +kernel, rfl, by decide +kernel, by decide +kernel⟩
/-- more than 1 together -/
def tooM (f g h : Int × Int) : Bool := decide (1 * (fadd (fadd f g) h).2 < (fadd (fadd f g) h).1 * 1)
def sp_too (K : PySem.W.Frag) : Sp := fun vs H Q _ => ∃ (p q r : Addr) (f g h : Int × Int), vs = [.ref p, .ref q, .ref r] ∧ SqT K H p [.int f.1, .int f.2] ∧ SqT K H q [.int g.1, .int g.2] ∧ SqT K H r [.int h.1, .int h.2] ∧
  IsF f ∧ IsF g ∧ IsF h ∧ Bt 290 f ∧ Bt 290 g ∧ Bt 290 h ∧ ∀ H', Same H H' → Q (.bl (tooM f g h)) H'
theorem ok_too {f : Addr} {fd : FuncData} (T : Cst K mg c0 c1 cw) (F : Fun K "are_too_much" "are_too_much" s_are_too_much f fd) (C_together : Cal P w K mg base CX0 6 "together" ["ones"] (sp_togL K)) (C_is_less : Cal P w K mg base CX0 1 "is_less" ["one", "other"] (sp_is_less K)) :
    FnG P w K mg base CX0 7 f fd ["flour", "water", "salt"] (sp_too K) := by
  refine Gfun F sc_are_too_much (fun vs H Q E h => ?_) (fun cdv A outer s H vs Q E hg hr h => ?_)
  · obtain ⟨p, q, r, f, g, h, rfl, _⟩ := h
    rfl
  · obtain ⟨p, q, r, f, g, h, rfl, hp, hq, hr', ff, gf, hf, bf, bg, bh, k⟩ := h
    refine ⟨_, (pss_one (ps_ret (pe_g C_is_less (hr.mono (by decide)) hg (pa_cons (pe_glob (v := .ref c1) rfl T.g1 rfl) (pa_cons (pe_g C_together (hr.mono (by decide)) hg (pa_cons (pe_lst (pa_cons (pv 0) (pa_cons (pv 1) (pa_cons (pv 2) pa_nil)))) pa_nil)) pa_nil))))), ?_⟩
    refine ⟨_, rfl, _, rfl, _, rfl, len_show (Nat.le_of_ble_eq_true rfl), fun l nl => ?_⟩
    have s1 : Same H (upd H l (.lst [.ref p, .ref q, .ref r])) := same_new nl
    refine ⟨l, [.ref p, .ref q, .ref r], [f, g, h], 290, rfl, .inl (.inl upd_same), .cons ⟨p, rfl, sm_t s1 hp⟩ (.cons ⟨q, rfl, sm_t s1 hq⟩ (.cons ⟨r, rfl, sm_t s1 hr'⟩ .nil)), ?_, ?_, by decide, Nat.le_of_ble_eq_true rfl, fun H2 v s2 hv => ?_⟩
    · intro x hx
      simp only [List.mem_cons, List.not_mem_nil, or_false] at hx
      rcases hx with rfl | rfl | rfl
      · exact ff
      · exact gf
      · exact hf
    · intro x hx
      simp only [List.mem_cons, List.not_mem_nil, or_false] at hx
      rcases hx with rfl | rfl | rfl
      · exact bf
      · exact bg
      · exact bh
    obtain ⟨p2, rfl, e2⟩ := hv
    have eS : [f, g, h].foldl fadd f0 = fadd (fadd f g) h := by
      show fadd (fadd (fadd f0 f) g) h = _
      rw [fadd_0 ff]
    rw [eS] at e2
    have b1 := fadd_bt ff gf bf bg
    have f1' := fadd_f ff gf
    have b2 := fadd_bt f1' hf b1 bh
    have f2' := fadd_f f1' hf
    refine ⟨_, _, _, _, pr_sq (f := (1, 1)) (g := fadd (fadd f g) h) (T.t1 H2) e2 ⟨by decide, by decide⟩ f2' (j := 1) ⟨by decide, by decide⟩ b2 (by decide) (by decide), ?_⟩
    exact k _ (s1.trans s2)

end
end Lf

set_option Elab.async false
set_option linter.all false
set_option maxRecDepth 100000
set_option maxHeartbeats 4000000
/-! Own classes made, and their methods called, where no guard stands (FnG). -/
namespace Lf
open PySem PySem.Spec PyProof.Rows L2
theorem make_guards {A : Around} (h : A.guards = some []) (C : Addr) (us : List Value) (kw : List (Str × Value)) : (A.under (.builtin "type.__call__" ⟨.ref C :: us, kw⟩)).guards = some [] := by
  show pushGuards (Code.guards (.builtin "type.__call__" ⟨.ref C :: us, kw⟩)) A.guards = some []
  rw [h]
  rfl
section
variable {X : Cx} {CX : CXT} {k n : Nat} {f C : Addr} {fd : FuncData} {ps ks : List Str} {sp : Sp} {x m : Str} {p pos apos : Pos} {e o : Expr} {es : List Expr} {kws : List Keyword} {ta : TE} {t tk : TA} {g : List Value → List Value → List Value} {gV : List V → List V → List V}
/-- an __init__ runs on a new object -/
theorem run_mkG {pins : List (Addr × Obj)} {σ : L2.St} {H : Hp} {s : Shared} {Q : VK} {us ws : List Value} {vs zs : List V} {E : XK} (M : Mk X.K C f) (F : FnG X.prog X.w X.K X.mg X.base CX k f fd ps sp) (hr : Room (k + 1) X.A) (hG : X.A.guards = some []) (hb : KBn X.K fd ps (n + 1) ks g gV)
    (hx : PassesAt CX X σ E) (I : Inv X pins σ H s) (r : Vals vs us) (rz : Vals zs ws) (l1 : vs.length = n) (l2 : zs.length = ks.length)
    (h : ∀ x dx, H x = none → H dx = none → dx ≠ x → sp (gV (.ref x :: vs) zs) (upd (upd H dx (.own x)) x (.ins C dx [])) (fun v H2 => v = .non ∧ Q (.ref x) H2) E) :
    wpAny (model X.prog X.w) X.A (call (.ref C) us (ks.zip ws)) (EP X pins σ Q) X.xe s := by
  have hq := h (s.heap.objs.size + 1) s.heap.objs.size (I.hok.fresh (Nat.le_succ _)) (I.hok.fresh (Nat.le_refl _)) (Nat.ne_of_lt (Nat.lt_succ_self _))
  have I2 := Inv.made (C := C) I
  have r1 : Vals (V.ref (s.heap.objs.size + 1) :: vs) (Value.ref (s.heap.objs.size + 1) :: us) := .cons rfl r
  have r2 := hb.rel r1 rz
  have lu : (Value.ref (s.heap.objs.size + 1) :: us).length = n + 1 := by
    rw [List.length_cons, ← Paired.length r, l1]
  have lw : ws.length = ks.length := by rw [← Paired.length rz, l2]
  refine wpAny_call (make_map (f := f) I.kIn M.makes M.init (beq_iff_eq.mp M.fn) (codeAny_mono (F.goes _ X.stack _ _ ⟨Value.ref (s.heap.objs.size + 1) :: us, ks.zip ws⟩ _ _ _ E (hr.make C us (ks.zip ws)) (make_guards hG C us (ks.zip ws))
    (I2.env0.make C us (ks.zip ws)) (hb.to _ _ _ I2.kIn lu lw) r2 hq) fun r s' hq' => ?_))
  cases r with
  | error e => exact hx pins _ _ e s' I2 hq'
  | ok fl =>
    cases fl with
    | ret u =>
      obtain ⟨v, H', I3, rv, ev, q3⟩ := I2.after hq'
      subst ev
      exact ⟨rv, ⟨V.ref (s.heap.objs.size + 1), H', I3, rfl, q3⟩⟩
    | next => exact False.elim hq'
    | brk => exact False.elim hq'
    | cont => exact False.elim hq'
/-- C(e, ..), C(e, .., k = v, ..) -/
def tMkG (C : Addr) (n m : Nat) (sp : Sp) (gV : List V → List V → List V) (E : L2.St → XK) (t tk : TA) : TE := fun σ H Q => t σ H fun vs H1 => tk σ H1 fun zs H2 => vs.length = n ∧ zs.length = m ∧ ∀ x dx, H2 x = none → H2 dx = none → dx ≠ x →
  sp (gV (.ref x :: vs) zs) (upd (upd H2 dx (.own x)) x (.ins C dx [])) (fun v H3 => v = .non ∧ Q (.ref x) H3) (E σ)
/-- the class of the module's name x can be made; sp: its __init__ -/
structure MakG (P : Program) (w : World) (K : PySem.W.Frag) (mg : Str → Option Value) (base : Heap) (CX : CXT) (k : Nat) (x : Str) (C f : Addr) (fd : FuncData) (ps : List Str) (sp : Sp) : Prop where
  mks : Mk K C f
  fn : FnG P w K mg base CX k f fd ps sp
  g : mg x = some (.ref C)
theorem pe_mkG {E : L2.St → XK} (M : MakG X.prog X.w X.K X.mg X.base CX k x C f fd ps sp) (hb : KBn X.K fd ps (n + 1) [] g gV) (hr : Room (k + 1) X.A) (hG : X.A.guards = some []) (hx : ∀ σ, PassesAt CX X σ (E σ))
    (ha : PA X (e :: es) t) (hg : Gl X x := by rfl) (hdb : (x == ("__debug__" : Str)) = false := by decide) (he : starEach (e :: es) X.env = (false, eval e X.env) :: starEach es X.env := by rfl) (hpl : (backTo pos (starEach es X.env)).any (·.1) = false := by rfl) :
    PE X (.Call (.Name x p) (e :: es) [] pos) (tMkG C n 0 sp gV E t tNil) := by
  refine ⟨fun pins s σ H Q I h => ?_⟩
  refine wpAny_Call_Name_kw (ld_glob I hg M.g ?_ hdb)
  refine PySem.W.callWith_K (h₀ := X.base) I.ok.mod.kin M.mks.kp (thn (ha.run pos pins s σ H _ I h) fun us s1 ⟨vs, H1, I1, r, l1, l2, q⟩ => ⟨I1.kIn, ?_⟩) he hpl
  exact run_mkG (ws := []) (zs := []) M.mks M.fn hr hG hb (hx σ) I1 r .nil l1 l2 q
theorem pe_mkGK {E : L2.St → XK} (M : MakG X.prog X.w X.K X.mg X.base CX k x C f fd ps sp) (hb : KBn X.K fd ps (n + 1) ks g gV) (hr : Room (k + 1) X.A) (hG : X.A.guards = some []) (hx : ∀ σ, PassesAt CX X σ (E σ))
    (ha : PA X (e :: es) t) (hkw : PK X kws tk) (hks : (backToKw pos (keywordEach kws X.env)).filterMap (·.1) = ks := by rfl) (hg : Gl X x := by rfl) (hall : (backToKw pos (keywordEach kws X.env)).all (·.1.isSome) = true := by rfl)
    (hdb : (x == ("__debug__" : Str)) = false := by decide) (he : starEach (e :: es) X.env = (false, eval e X.env) :: starEach es X.env := by rfl)
    (hpl : ((backTo pos (starEach (e :: es) X.env)).any (·.1) || (backToKw pos (keywordEach kws X.env)).any (·.1.isNone)) = false := by rfl) :
    PE X (.Call (.Name x p) (e :: es) kws pos) (tMkG C n ks.length sp gV E t tk) := by
  refine ⟨fun pins s σ H Q I h => ?_⟩
  refine wpAny_Call_Name_kw (ld_glob I hg M.g ?_ hdb)
  refine PySem.W.callWith_KW (h₀ := X.base) I.ok.mod.kin M.mks.kp hall (thn (ha.run pos pins s σ H _ I h) fun us s1 ⟨vs, H1, I1, r, q⟩ => ?_) hpl he
  refine thn (hkw.run pos pins s1 σ H1 _ I1 q) fun ws s2 ⟨zs, H2, I2, rz, l1, l2, q2⟩ => ⟨I2.kIn, ?_⟩
  rw [hks]
  exact run_mkG M.mks M.fn hr hG hb (hx σ) I2 r rz l1 l2 q2
theorem pe_mkGN {E : L2.St → XK} (M : MakG X.prog X.w X.K X.mg X.base CX k x C f fd ps sp) (hb : KBn X.K fd ps (0 + 1) ks g gV) (hr : Room (k + 1) X.A) (hG : X.A.guards = some []) (hx : ∀ σ, PassesAt CX X σ (E σ))
    (hkw : PK X kws tk) (hks : (backToKw pos (keywordEach kws X.env)).filterMap (·.1) = ks := by rfl) (hg : Gl X x := by rfl) (hall : (backToKw pos (keywordEach kws X.env)).all (·.1.isSome) = true := by rfl)
    (hdb : (x == ("__debug__" : Str)) = false := by decide)
    (hpl : ((backTo pos (starEach [] X.env)).any (·.1) || (backToKw pos (keywordEach kws X.env)).any (·.1.isNone)) = false := by rfl) :
    PE X (.Call (.Name x p) [] kws pos) (tMkG C 0 ks.length sp gV E tNil tk) := by
  refine ⟨fun pins s σ H Q I h => ?_⟩
  refine wpAny_Call_Name_kw (ld_glob I hg M.g ?_ hdb)
  refine PySem.W.callWith_KW0 (h₀ := X.base) I.ok.mod.kin M.mks.kp hall (thn (hkw.run pos pins s σ H _ I h) fun ws s2 ⟨zs, H2, I2, rz, l1, l2, q2⟩ => ⟨I2.kIn, ?_⟩) hpl
  rw [hks]
  exact run_mkG (us := []) (vs := []) M.mks M.fn hr hG hb (hx σ) I2 .nil rz l1 l2 q2
/-- o.m(e, ..) where no guard stands -/
def tMeG (C : Addr) (m : Str) (sp : Sp) (E : L2.St → XK) (ta : TE) (t : TA) : TE := fun σ H Q => ta σ H fun x H1 => ∃ a dx fs, x = .ref a ∧ H1 a = some (.ins C dx fs) ∧ fs.lookup m = none ∧ t σ H1 fun vs H2 => sp (.ref a :: vs) H2 Q (E σ)
structure MetG (P : Program) (w : World) (K : PySem.W.Frag) (mg : Str → Option Value) (base : Heap) (CX : CXT) (k : Nat) (C : Addr) (m : Str) (f : Addr) (fd : FuncData) (ps : List Str) (sp : Sp) : Prop where
  c : Cls K C
  m : Meth K C m f
  fn : FnG P w K mg base CX k f fd ps sp
  b : ∀ (s : Shared) (us : List Value), us.length = ps.length → BindsTo s fd ⟨us, []⟩ (ps.zip us)
theorem pe_meG {pl : Sem Bool} {E : L2.St → XK} (he : PE X o ta) (M : MetG X.prog X.w X.K X.mg X.base CX k C m f fd ps sp) (hr : Room k X.A) (hG : X.A.guards = some []) (hx : ∀ σ, PassesAt CX X σ (E σ)) (ha : PA X (e :: es) t)
    (hst : starEach (e :: es) X.env = (false, eval e X.env) :: starEach es X.env := by rfl) (hpl : (backTo pos (starEach es X.env)).any (·.1) = false := by rfl)
    (ht : eval (.Call (.Attribute o m apos) (e :: es) [] pos) X.env = (do
      let ov ← eval o X.env
      standAt apos.atName
      let (f, first) ← holding [ov] (getMethod ov m pl)
      callWith pos f first (backTo pos (starEach (e :: es) X.env)) (backToKw pos (keywordEach [] X.env))) := by rfl) :
    PE X (.Call (.Attribute o m apos) (e :: es) [] pos) (tMeG C m sp E ta t) := by
  refine ⟨fun pins s σ H Q I h => ?_⟩
  refine PySem.W.methodCall_KW (pl := pl) (thn (he.run pins s σ H _ I h) fun u s1 ⟨x, H1, I1, rx, a, dx, fs, ex, ea, l, q⟩ => ?_) ht
  subst ex
  obtain rfl : u = Value.ref a := rx
  refine getmeth_ok I1 ea M.c M.m l ?_
  refine PySem.W.callWith_K (first := [.ref a]) (h₀ := X.base) I.ok.mod.kin M.m.kp (thn (ha.run pos pins s1 σ H1 _ I1 q) fun us s2 ⟨vs, H2, I2, r, q2⟩ => ⟨I2.kIn, ?_⟩) hst hpl
  have r' : Vals (V.ref a :: vs) (Value.ref a :: us) := .cons rfl r
  exact run_g (ar := ⟨.ref a :: us, []⟩) M.fn hr hG (hx σ) I2 (M.b s2 _ ((Paired.length r').symm.trans (M.fn.size _ _ _ _ q2))) r' q2
theorem pe_meG0 {pl : Sem Bool} {E : L2.St → XK} (he : PE X o ta) (M : MetG X.prog X.w X.K X.mg X.base CX k C m f fd ps sp) (hr : Room k X.A) (hG : X.A.guards = some []) (hx : ∀ σ, PassesAt CX X σ (E σ))
    (ht : eval (.Call (.Attribute o m apos) [] [] pos) X.env = (do
      let ov ← eval o X.env
      standAt apos.atName
      let (f, first) ← holding [ov] (getMethod ov m pl)
      callWith pos f first (backTo pos (starEach [] X.env)) (backToKw pos (keywordEach [] X.env))) := by rfl) :
    PE X (.Call (.Attribute o m apos) [] [] pos) (tMeG C m sp E ta tNil) := by
  refine ⟨fun pins s σ H Q I h => ?_⟩
  refine PySem.W.methodCall_KW (pl := pl) (thn (he.run pins s σ H _ I h) fun u s1 ⟨x, H1, I1, rx, a, dx, fs, ex, ea, l, q⟩ => ?_) ht
  subst ex
  obtain rfl : u = Value.ref a := rx
  refine getmeth_ok I1 ea M.c M.m l ?_
  have r' : Vals [V.ref a] [Value.ref a] := .cons rfl .nil
  exact PySem.W.callWith_K0 (first := [.ref a]) I1.kIn M.m.kp (run_g (ar := ⟨[.ref a], []⟩) M.fn hr hG (hx σ) I1 (M.b s1 _ ((Paired.length r').symm.trans (M.fn.size _ _ _ _ q))) r' q)
end
section
variable {P : Program} {w : World} {K : PySem.W.Frag} {mg : Str → Option Value} {base : Heap} {CX : CXT} {k : Nat} {f : Addr} {fd : FuncData} {ps : List Str} {sp : Sp} {x qual : Str} {st : Stmt} {N : List Str} {dvs : List V} {kws : List (Str × V)}
/-- a def with defaults, by its body -/
theorem GfunDX (F : FunD K x qual (defArgs st) (defBody st) (defScope st) dvs kws f fd) (S : FnScope N ps (defScope st)) (size : ∀ vs H Q E, sp vs H Q E → vs.length = ps.length)
    (body : ∀ (cdv : Value) (B : Around) (out : List Env) (s : Shared) (H : Hp) (vs : List V) (Q : VK) (E : XK), B.guards = some [] →
      Room k (B.deeper (envOfC qual (defScope st) s.heap.objs.size f cdv)) → sp vs H Q E →
      ∃ t, PSs (cxOf CX P w K mg base N qual (defScope st) f cdv B out s H E) (defBody st) t ∧
        t { nx := fun _ H' => Q .non H', rt := Q } (start N vs) H) : FnG P w K mg base CX (k + 1) f fd ps sp := by
  obtain ⟨oc, od, dV, kV, doc, pm, an, cdv, ct, osl, rfl, lk, hcd, _, _⟩ := F.ex
  refine ⟨size, fun B out s H ar us vs Q E hr hg e0 hb r hs => ?_⟩
  have old : ∀ b o, base.get? b = some o → s.heap.get? b = some o := fun b o e => (e0.bs b o e).1
  have kin : K.In s.heap := e0.mod.kin.keeps old
  refine codeAny_call_function hr.depth (kin _ _ lk) rfl S.co S.gen rfl (PySem.W.codeRec_of kin hcd) (hb _ _ _ _ ?_)
  refine wpAny_newFunctionEnv_cells S.kind (fun ⟨n, v⟩ hy => ?_) fun env he s1 x => ?_
  · rcases S.par n (List.of_mem_zip hy).1 with q | q
    · exact Or.inl q
    · exact Or.inr ⟨q, PySem.W.cellsFrom_some _ _ _ (Or.inl q)⟩
  · subst he
    refine ⟨(e0.mod.nolimit.keeps old).keeps x.toInCall.keep, codeAny_func ?_⟩
    obtain ⟨t, ht, hq⟩ := body cdv B out s H vs Q E hg (hr.deeper _) hs
    have I := inv_start (CX := CX) (N := N) (qual := qual) (cd := cdv) (E := E) S hr.hd e0 (size _ _ _ _ hs) r x
    refine wpAny_mono (ht.run [] s1 (start N vs) H _ I hq) (fun fl s' hs' => ?_) fun e s' z => z
    cases fl with
    | ret u =>
      obtain ⟨v, σ', H', J, rv, q⟩ := hs'
      exact ⟨v, H', J.os, J.bare, J.base, J.hok, rv, q⟩
    | next =>
      obtain ⟨σ', H', J, q⟩ := hs'
      exact ⟨V.non, H', J.os, J.bare, J.base, J.hok, rfl, q⟩
    | brk =>
      obtain ⟨_, _, _, q⟩ := hs'
      exact q.elim
    | cont =>
      obtain ⟨_, _, _, q⟩ := hs'
      exact q.elim
end
end Lf

set_option Elab.async false
set_option linter.all false
set_option maxRecDepth 100000
set_option maxHeartbeats 4000000
set_option exponentiation.threshold 3000
namespace Lf
open PySem PySem.Spec PyProof.Rows L2
section
variable {P : Program} {w : World} {K : PySem.W.Frag} {mg : Str → Option Value} {base : Heap} {c0 c1 cw : Addr}

/-! ### first_wrong -/
theorem sc_first_wrong : FnScope ["name", "measures", "flour", "water", "salt", "word", "measure"] ["name", "measures"] (defScope s_first_wrong) := ⟨rfl, rfl, rfl, by decide +kernel, rfl, by decide +kernel, by decide +kernel⟩
/-- the five words -/
def words : List Str := ["flour", "water", "salt", "thirst", "price"]
/-- the first of the five measures that is not as told, from the i-th on -/
def fwM (ds : List PyData) : Nat → Nat → Option Str
  | 0, _ => none
  | n + 1, i => if isM (ds.getD i .none) = false then words[i]? else
      if i = 2 ∧ tooM (top2 (ds.getD 0 .none)) (top2 (ds.getD 1 .none)) (top2 (ds.getD 2 .none)) = true then words[i]? else fwM ds n (i + 1)
/-- the first of the six that is not as told -/
def fwR (dn : PyData) (ds : List PyData) : Option Str := if isNm dn = false then some ("name" : Str) else fwM ds 5 0
/-- a word or None -/
def optV : Option Str → V
  | some x => .str x
  | none => .non
def sp_fw (K : PySem.W.Frag) : Sp := fun vs H Q _ => ∃ (vn : V) (p : Addr) (dn : PyData) (xs : List V) (ds : List PyData), vs = [vn, .ref p] ∧ Dq K H vn dn ∧ (∀ z, dn = .str z → z.length ≤ 1000) ∧ SqT K H p xs ∧ xs.length = 5 ∧ DqAll K H xs ds ∧
  (∀ i, i < 3 → isM (ds.getD i .none) = true → Bt 290 (top2 (ds.getD i .none))) ∧ ∀ H', Same H H' → Q (optV (fwR dn ds)) H'
theorem fw_len {dn : PyData} {ds : List PyData} {wd : Str} (h : fwR dn ds = some wd) : wd.length ≤ 1000 := by
  have key : ∀ n i, fwM ds n i = some wd → wd ∈ words := by
    intro n
    induction n with
    | zero => intro i e; cases e
    | succ n ih =>
      intro i e
      unfold fwM at e
      by_cases h1 : isM (ds.getD i .none) = false
      · rw [if_pos h1] at e
        exact List.mem_of_getElem? e
      · rw [if_neg h1] at e
        by_cases h2 : i = 2 ∧ tooM (top2 (ds.getD 0 .none)) (top2 (ds.getD 1 .none)) (top2 (ds.getD 2 .none)) = true
        · rw [if_pos h2] at e
          exact List.mem_of_getElem? e
        · rw [if_neg h2] at e
          exact ih _ e
  have all : ∀ z ∈ (("name" : Str) :: words), z.length ≤ 1000 := by decide +kernel
  unfold fwR at h
  by_cases h1 : isNm dn = false
  · rw [if_pos h1] at h
    cases h
    exact all _ (List.mem_cons_self ..)
  · rw [if_neg h1] at h
    exact all _ (List.mem_cons_of_mem _ (key _ _ h))
theorem meas {H : Hp} {v : V} {d : PyData} (h : Dq K H v d) (m : isM d = true) : ∃ p, v = .ref p ∧ SqT K H p [.int (top2 d).1, .int (top2 d).2] ∧ IsF (top2 d) := by
  unfold isM at m
  rw [Bool.and_eq_true] at m
  obtain ⟨a, b, rfl, hl⟩ := isFr_inv m.1
  obtain ⟨p, xs, ds, rfl, ed, hS, hA, _⟩ := h.tup rfl
  cases ed
  cases hA with
  | cons h1 r =>
    cases h1
    cases r with
    | cons h2 r =>
      cases h2
      cases r
      exact ⟨p, rfl, hS, hl⟩
theorem five_of {H : Hp} {x0 x1 x2 x3 x4 : V} {ds : List PyData} (h : DqAll K H [x0, x1, x2, x3, x4] ds) : ∃ d0 d1 d2 d3 d4, ds = [d0, d1, d2, d3, d4] ∧ Dq K H x0 d0 ∧ Dq K H x1 d1 ∧ Dq K H x2 d2 ∧ Dq K H x3 d3 ∧ Dq K H x4 d4 := by
  cases h with | cons h0 r => cases r with | cons h1 r => cases r with | cons h2 r => cases r with | cons h3 r => cases r with | cons h4 r => cases r; exact ⟨_, _, _, _, _, rfl, h0, h1, h2, h3, h4⟩
theorem ok_fw {f : Addr} {fd : FuncData} (Mz : mg "zip" = none) (T : Cst K mg c0 c1 cw) (F : Fun K "first_wrong" "first_wrong" s_first_wrong f fd) (C_is_name : Cal P w K mg base CX0 2 "is_name" ["thing"] (sp_isnm K)) (C_is_measure : Cal P w K mg base CX0 3 "is_measure" ["thing"] (sp_isM K))
    (C_are_too_much : Cal P w K mg base CX0 7 "are_too_much" ["flour", "water", "salt"] (sp_too K)) : FnG P w K mg base CX0 8 f fd ["name", "measures"] (sp_fw K) := by
  refine Gfun F sc_first_wrong (fun vs H Q E h => ?_) (fun cdv A outer s H vs Q E hg hr h => ?_)
  · obtain ⟨vn, p, dn, xs, ds, rfl, _⟩ := h
    rfl
  · obtain ⟨vn, p, dn, xs, ds, rfl, hn, hz, hp, hl, hA, hB, k⟩ := h
    refine ⟨_, (pss_cons (ps_if (pt_not (pt_val (pe_g C_is_name (hr.mono (by decide)) hg (pa_cons (pv 0) pa_nil))))
      (pss_one (ps_ret pe_str))
      pss_nil)
      (pss_cons (ps_asg (pe_slice sl_tup (pv 1) po_none (po_some pe_int)) (pg_tup rfl (pgs_cons (pg_name (i := 2) sc_first_wrong.nd rfl (.inl rfl)) (pgs_cons (pg_name (i := 3) sc_first_wrong.nd rfl (.inl rfl)) (pgs_cons (pg_name (i := 4) sc_first_wrong.nd rfl (.inl rfl)) pgs_nil)))))
      (pss_cons (ps_for PassesOwn.never rfl (RZ.pi_zipA rfl Mz (pa_cons (pe_glob (v := .ref cw) rfl T.gw rfl) (pa_cons (pv 1) pa_nil))) (pg_tup rfl (pgs_cons (pg_name (i := 5) sc_first_wrong.nd rfl (.inl rfl)) (pgs_cons (pg_name (i := 6) sc_first_wrong.nd rfl (.inl rfl)) pgs_nil)))
      (pss_cons (ps_if (pt_not (pt_val (pe_g C_is_measure (hr.mono (by decide)) hg (pa_cons (pv 6) pa_nil))))
      (pss_one (ps_ret (pv 5)))
      pss_nil)
      (pss_one (ps_if (PW.pt (pw_and (pt_cmpR op_eq (pv 5) pe_str (nomark _)) (pw_and1 (pt_val (pe_g C_are_too_much (hr.mono (by decide)) hg (pa_cons (pv 2) (pa_cons (pv 3) (pa_cons (pv 4) pa_nil))))))))
      (pss_one (ps_ret (pv 5)))
      pss_nil))))
      (pss_one (ps_ret pe_non))))), ?_⟩
    refine ⟨_, rfl, vn, dn, rfl, hn, hz, fun H1 s1 => ⟨_, rfl, ite2 (fun e => ?_) (fun e => ?_)⟩⟩
    · have en : isNm dn = false := by cases h : isNm dn <;> simp_all
      have ef : fwR dn ds = some ("name" : Str) := by unfold fwR; rw [if_pos en]
      have k' := k H1 s1
      rw [ef] at k'
      exact k'
    · have en : isNm dn = true := by cases h : isNm dn <;> simp_all
      have ef : fwR dn ds = fwM ds 5 0 := by unfold fwR; rw [if_neg (by rw [en]; decide)]
      rw [ef] at k
      match xs, hl with
      | [x0, x1, x2, x3, x4], _ =>
        refine ⟨_, rfl, _, rfl, p, _, rfl, sm_t s1 hp, by simp [HT.sIx], fun q hq => ?_⟩
        have sq : Same H1 (upd H1 q (HO.tup (cutV [x0, x1, x2, x3, x4] none (some 3)))) := same_new hq
        generalize hH2 : upd H1 q (HO.tup (cutV [x0, x1, x2, x3, x4] none (some 3))) = H2 at sq ⊢
        have sH2 : Same H H2 := s1.trans sq
        have tq : SqT K H2 q [x0, x1, x2] := .inl (.inl (by rw [← hH2]; exact upd_same))
        refine ⟨q, _, rfl, tq, rfl, _, _, rfl, _, _, rfl, _, _, rfl, rfl, ?_⟩
        obtain ⟨d0, d1, d2, d3, d4, rfl, h0, h1, h2, h3, h4⟩ := five_of hA
        have tw : ∀ H, SqT K H cw (words.map V.str) := T.tw
        refine ⟨_, rfl, cw, p, words.map V.str, [x0, x1, x2, x3, x4], rfl, .inr ⟨tw H2, sm_t sH2 hp, ?_⟩⟩
        refine RZ.for_zipT (xs := words.map V.str) (ys := [x0, x1, x2, x3, x4]) rfl (fun i σ H' => Same H H' ∧ (∃ a b, σ = [some vn, some (.ref p), some x0, some x1, some x2, a, b]) ∧ fwM [d0, d1, d2, d3, d4] 5 0 = fwM [d0, d1, d2, d3, d4] (5 - i) i ∧ ∀ j, j < i → isM ([d0, d1, d2, d3, d4].getD j .none) = true)
          ⟨sH2, ⟨_, _, rfl⟩, rfl, fun j hj => absurd hj (Nat.not_lt_zero _)⟩ (fun i σ H' h => ⟨tw H', sm_t h.1 hp⟩) ?_ ?_
        · rintro i x y T' σ H' hx hy ⟨sH, ⟨a, b, rfl⟩, hf, hM⟩ hT
          have sT : Same H' (upd H' T' (.tup [x, y])) := same_new hT
          have tT : SqT K (upd H' T' (.tup [x, y])) T' [x, y] := .inl (.inl upd_same)
          generalize upd H' T' (.tup [x, y]) = H3 at sT tT ⊢
          refine ⟨T', _, rfl, tT, rfl, _, _, rfl, _, _, rfl, rfl, ?_⟩
          have sH3 := sH.trans sT
          have hA' : DqAll K H3 [x0, x1, x2, x3, x4] [d0, d1, d2, d3, d4] := DqAll.same sH3 (.cons h0 (.cons h1 (.cons h2 (.cons h3 (.cons h4 .nil)))))
          obtain ⟨d, hd, hq'⟩ := hA'.get hy
          have hi : i < 5 := by
            have := (List.getElem?_eq_some_iff.mp hy).1
            exact this
          have hx' : ∃ wd, words[i]? = some wd ∧ x = .str wd := by
            rw [List.getElem?_map] at hx
            cases hw : words[i]? with
            | none => rw [hw] at hx; cases hx
            | some wd => rw [hw] at hx; exact ⟨wd, rfl, (Option.some.inj hx).symm⟩
          obtain ⟨wd, hw, rfl⟩ := hx'
          have hdg : [d0, d1, d2, d3, d4].getD i .none = d := by rw [List.getD_eq_getElem?_getD, hd]; rfl
          have hstep : fwM [d0, d1, d2, d3, d4] (5 - i) i = if isM d = false then words[i]? else
              if i = 2 ∧ tooM (top2 d0) (top2 d1) (top2 d2) = true then words[i]? else fwM [d0, d1, d2, d3, d4] (5 - (i + 1)) (i + 1) := by
            rw [show 5 - i = (5 - (i + 1)) + 1 by omega]
            show (if isM ([d0, d1, d2, d3, d4].getD i .none) = false then _ else _) = _
            rw [hdg]
            rfl
          have ret : fwM [d0, d1, d2, d3, d4] 5 0 = some wd → ∀ H4, Same H H4 → Q (.str wd) H4 := fun e H4 s4 => by
            have k' := k H4 s4
            rw [e] at k'
            exact k'
          refine ⟨_, rfl, y, d, rfl, hq', ⟨_, rfl, ite2 (fun e => ?_) (fun e => ?_)⟩⟩
          · have em : isM d = false := by cases h : isM d <;> simp_all
            refine ⟨_, rfl, ret ?_ H3 sH3⟩
            rw [hf, hstep, if_pos em, hw]
          · have em : isM d = true := by cases h : isM d <;> simp_all
            have hM' : ∀ j, j < i + 1 → isM ([d0, d1, d2, d3, d4].getD j .none) = true := fun j hj => by
              by_cases h : j = i
              · rw [h, hdg]; exact em
              · exact hM j (by omega)
            refine ⟨_, rfl, rfl, _, rfl, ite2 (fun e2 => ?_) (fun e2 => ?_)⟩
            · have ei : i = 2 := by
                have := V.str.inj (of_decide_eq_true e2)
                match i, hi, hw with
                | 0, _, hw => cases hw; exact absurd this (by decide)
                | 1, _, hw => cases hw; exact absurd this (by decide)
                | 2, _, _ => rfl
                | 3, _, hw => cases hw; exact absurd this (by decide)
                | 4, _, hw => cases hw; exact absurd this (by decide)
              subst ei
              have m0 : isM d0 = true := hM' 0 (by decide)
              have m1 : isM d1 = true := hM' 1 (by decide)
              have m2 : isM d2 = true := hM' 2 (by decide)
              obtain ⟨p0, rfl, t0, f0⟩ := meas (h0.same sH3) m0
              obtain ⟨p1, rfl, t1, f1⟩ := meas (h1.same sH3) m1
              obtain ⟨p2, rfl, t2, f2⟩ := meas (h2.same sH3) m2
              refine ⟨_, rfl, _, rfl, _, rfl, p0, p1, p2, top2 d0, top2 d1, top2 d2, rfl, t0, t1, t2, f0, f1, f2, hB 0 (by decide) m0, hB 1 (by decide) m1, hB 2 (by decide) m2, fun H4 s4 => ⟨_, rfl, ite2 (fun e3 => ?_) (fun e3 => ?_)⟩⟩
              · refine ⟨_, rfl, ret ?_ H4 (sH3.trans s4)⟩
                rw [hf, hstep, if_neg (by rw [em]; decide), if_pos ⟨rfl, e3⟩, hw]
              · refine ⟨sH3.trans s4, ⟨_, _, rfl⟩, ?_, hM'⟩
                rw [hf, hstep, if_neg (by rw [em]; decide), if_neg (fun z => e3 z.2)]
            · have ei : i ≠ 2 := fun z => by
                subst z
                cases hw
                exact e2 (by decide)
              refine ⟨sH3, ⟨_, _, rfl⟩, ?_, hM'⟩
              rw [hf, hstep, if_neg (by rw [em]; decide), if_neg (fun z => ei z.1)]
        · rintro σ H' ⟨sH, ⟨a, b, rfl⟩, hf, hM⟩
          have hf' : fwM [d0, d1, d2, d3, d4] 5 0 = none := hf
          have k' := k H' sH
          rw [hf'] at k'
          exact k'
end
end Lf

set_option Elab.async false
set_option linter.all false
set_option maxRecDepth 100000
set_option maxHeartbeats 4000000
set_option exponentiation.threshold 3000
namespace Lf
open PySem PySem.Spec PyProof.Rows L2 NdefX
section
variable {P : Program} {w : World} {K : PySem.W.Frag} {mg : Str → Option Value} {base : Heap} {c0 c1 cw : Addr}
/-! ### NoStuff.__init__ -/
abbrev sNoStuff : Stmt := inCls (topS 3) 0
theorem scNoStuff : NScope ["self", "field", "__class__"] ["self", "field"] ["__class__"] (defScope sNoStuff) := nscope_by (by decide +kernel)
def sp_nostuff (D : Addr) : Sp := fun vs H Q _ => ∃ (a : Addr) (x : Str), vs = [.ref a, .str x] ∧ x.length ≤ 1000 ∧ H a = some (exo a D none) ∧ ∀ dx, H dx = none → dx ≠ a → Q .non (upd (upd H dx (exd dx [("field", .str x)])) a (exo a D (some dx)))
theorem ok_nostuff {D f cc cda : Addr} {fd : FuncData} (F : XFun P K "NoStuff.__init__" sNoStuff D f fd cc cda) (T : OexC K D) (hm : mg "super" = none) (hno : PySem.W.findIn K (.ref D) "field" = some none) :
    FnOk P w K mg base CX0 1 f fd ["self", "field"] (sp_nostuff D) := by
  refine xok F T hm scNoStuff (fun vs H Q E h => ?_) rfl rfl rfl rfl rfl (fun L => ⟨_, rfl⟩) (fun L => rfl) (fun L => rfl) (fun L => rfl) (fun A outer s H vs Q E hr h => ?_)
  · obtain ⟨a, x, rfl, _⟩ := h
    rfl
  · obtain ⟨a, x, rfl, hx, ha, k⟩ := h
    refine ⟨_, _, pa_cons (pe_joined (PJ.cons pe_str (PJ.cons (pe_fmt (pv 1)) PJ.nil))) pa_nil, pss_one (ps_ost (pv 0) (pv 1)), a, rfl, ha, ?_⟩
    refine ⟨_, rfl, ?_, _, rfl, .inl ⟨x, rfl, Nat.le_trans hx (by decide), x, rfl, ?_, ?_⟩⟩
    · decide +kernel
    · refine Nat.le_trans (Nat.le_of_eq (PySem.Str.length_append _ _)) ?_
      exact Nat.le_trans (Nat.add_le_add (show Str.length (Str.empty ++ Str.ofString "no stuff has such a ") ≤ 1000 by decide +kernel) hx) (by decide +kernel)
    · refine ⟨by show 1 ≤ 1000; decide, ha, _, rfl, _, rfl, a, D, rfl, T, hno, .inl ⟨ha, fun dx n1 n2 => k dx n1 n2⟩⟩
end
end Lf

set_option Elab.async false
set_option linter.all false
set_option maxRecDepth 100000
set_option maxHeartbeats 4000000
set_option exponentiation.threshold 3000
namespace Lf
open PySem PySem.Spec PyProof.Rows L2
/-- an own exception with one field, under its name -/
structure XT (P : Program) (K : PySem.W.Frag) (mg : Str → Option Value) (x qual fld : Str) (st : Stmt) (D fI : Addr) (fdI : FuncData) (cc cda : Addr) : Prop where
  g : mg x = some (.ref D)
  T : OexC K D
  iC : PySem.W.findIn K (.ref D) "__init__" = some (some (.ref fI))
  tI : PySem.W.typeIn K (.ref fI) = some (.type "function")
  F : XFun P K qual st D fI fdI cc cda
  b : Binds K fdI ["self", fld] []
  sup : mg "super" = none
  no : PySem.W.findIn K (.ref D) fld = some none
section
variable {P : Program} {w : World} {K : PySem.W.Frag} {mg : Str → Option Value} {base : Heap}
/-! ### Stuff.__init__ -/
theorem sc_init : FnScope ["self", "name", "flour", "water", "salt", "thirst", "price", "measures", "wrong", "given"] ["self", "name", "flour", "water", "salt", "thirst", "price"] (defScope s_init) := ⟨rfl, rfl, rfl, by decide +kernel, rfl, by decide +kernel, by decide +kernel⟩
/-- a made stuff: its fields -/
def StO (K : PySem.W.Frag) (H : Hp) (C x : Addr) (vn : V) (dn : PyData) (ds : List PyData) : Prop :=
  ∃ (dx pm : Addr) (xs : List V), H x = some (.ins C dx [("own_name", vn), ("measures", .ref pm)]) ∧ Dq K H vn dn ∧ SqT K H pm xs ∧ DqAll K H xs ds
/-- H0: the heap ahead of the object -/
def sp_init (K : PySem.W.Frag) (C D : Addr) : Sp := fun vs H Q E => ∃ (x dx : Addr) (H0 : Hp) (vn : V) (dn : PyData) (ms : List V) (ds : List PyData), vs = .ref x :: vn :: ms ∧ ms.length = 5 ∧ H0 x = none ∧ H0 dx = none ∧ dx ≠ x ∧ H = upd (upd H0 dx (.own x)) x (.ins C dx []) ∧
  Dq K H0 vn dn ∧ (∀ z, dn = .str z → z.length ≤ 1000) ∧ DqAll K H0 ms ds ∧ (∀ i, i < 3 → isM (orNone (ds.getD i .none)) = true → Bt 290 (top2 (orNone (ds.getD i .none)))) ∧
  (match fwR dn (ds.map orNone) with
   | none => ∀ H', Same H0 H' → StO K H' C x vn dn (ds.map orNone) → Q .non H'
   | some wd => ∀ H' d, Same H0 H' → H' d = some (.xd [("field", .str wd)]) → E (.ref D) (some d) H')
theorem ok_init {C D f fI cc cda c0 c1 cw : Addr} {fd fdI : FuncData} {dvs : List V} {kws : List (Str × V)} (M : Blt mg) (Mx : Bltx mg) (T : XT P K mg "NoStuff" "NoStuff.__init__" "field" sNoStuff D fI fdI cc cda) (c : Cls K C) (n1 : NoAttr K C "own_name") (n2 : NoAttr K C "measures")
    (F : FunD K "__init__" "Stuff.__init__" (defArgs s_init) (defBody s_init) (defScope s_init) dvs kws f fd) (C_measure_or_none_of_it : Cal P w K mg base CX0 1 "measure_or_none_of_it" ["measure"] (sp_orNone K)) (C_first_wrong : Cal P w K mg base CX0 8 "first_wrong" ["name", "measures"] (sp_fw K)) :
    FnG P w K mg base (L2.CX P w) 9 f fd ["self", "name", "flour", "water", "salt", "thirst", "price"] (sp_init K C D) := by
  refine GfunDX F sc_init (fun vs H Q E h => ?_) (fun cdv A outer s H vs Q E hg hr h => ?_)
  · obtain ⟨x, dx, H0, vn, dn, ms, ds, rfl, hl, _⟩ := h
    show ms.length + 2 = 7
    omega
  · obtain ⟨x, dx, H0, vn, dn, ms, ds, rfl, hl, nx, nd, hdx, rfl, hn, hz, hA, hB, k⟩ := h
    match ms, hl with
    | [m0, m1, m2, m3, m4], _ =>
    refine ⟨_, (pss_cons (ps_set (i := 7) sc_init.nd rfl (.inl rfl) (pe_callTy call_tuple_of rfl Mx.tuple bt_tuple (pa_cons (pe_lc (own := [("given", 9)]) (g := gName 9) (tt := tYes) rfl sc_init.nd (pi_tup (pe_tup (pa_cons (pv 2) (pa_cons (pv 3) (pa_cons (pv 4) (pa_cons (pv 5) (pa_cons (pv 6) pa_nil))))))) (blkOk_by (N := ["self", "name", "flour", "water", "salt", "thirst", "price", "measures", "wrong", "given"]) (sc := defScope s_init) (by decide +kernel)) (fun _ _ _ _ _ => pg_name (i := 9) sc_init.nd rfl (Or.inl rfl)) (fun _ _ _ _ _ => pts_nil) (fun _ _ _ _ _ => (pe_g C_measure_or_none_of_it (hr.mono (by decide)) hg (pa_cons (pv 9) pa_nil)))) pa_nil)))
      (pss_cons (ps_set (i := 8) sc_init.nd rfl (.inl rfl) (pe_g C_first_wrong (hr.mono (by decide)) hg (pa_cons (pv 1) (pa_cons (pv 7) pa_nil))))
      (pss_cons (ps_if (pt_cmp (pc_notN (pv 8)))
      (pss_one (ps_raise rfl (takes_of rfl rfl rfl rfl) (pmk_oex T.T T.iC T.tI (ok_nostuff T.F T.T T.sup T.no) (hr.mono (by decide)) T.b .nil pass0 rfl T.g (pa_cons (pv 8) pa_nil))))
      pss_nil)
      (pss_cons (ps_fld (pv 0) (pv 1) rfl)
      (pss_one (ps_fld (pv 0) (pv 7) rfl)))))), ?_⟩
    have s01 : Same H0 (upd (upd H0 dx (.own x)) x (.ins C dx [])) := fun b o e => by
      rw [upd_ne (ne_of_none e nx), upd_ne (ne_of_none e nd)]
      exact e
    have hx1 : upd (upd H0 dx (.own x)) x (.ins C dx []) x = some (.ins C dx []) := upd_same
    generalize upd (upd H0 dx (.own x)) x (.ins C dx []) = H1 at s01 hx1 ⊢
    refine ⟨_, rfl, _, rfl, _, rfl, _, rfl, _, rfl, by show 5 ≤ sizeLine; decide, fun p hp => ⟨p, rfl, ⟨_, .inl (.inl upd_same)⟩, fun Dl hD => ?_⟩⟩
    have s12 : Same H1 (upd H1 p (.tup [m0, m1, m2, m3, m4])) := same_new hp
    have tp : SqT K (upd H1 p (.tup [m0, m1, m2, m3, m4])) p [m0, m1, m2, m3, m4] := .inl (.inl upd_same)
    generalize upd H1 p (.tup [m0, m1, m2, m3, m4]) = H2 at s12 tp hD ⊢
    have s02 := s01.trans s12
    refine lc_tup (xs := [m0, m1, m2, m3, m4]) (fun i H' => Same H2 H' ∧ ∃ acc, H' Dl = some (.lst acc) ∧ DqAll K H0 acc ((ds.map orNone).take i)) ⟨same_new hD, [], upd_same, .nil⟩ (fun i H' _ h => sm_t h.1 tp) ?_ ?_
    · rintro i y H' hy ⟨sH, acc, hacc, hAc⟩
      obtain ⟨d, hd, hq⟩ := hA.get hy
      refine ⟨rfl, _, rfl, y, d, rfl, hq.same (s02.trans sH), fun v' hv => ⟨acc, hacc, ?_, fun b o e => ?_, acc ++ [v'], upd_same, ?_⟩⟩
      · have := hAc.length
        rw [List.length_take] at this
        have h5 : i < 5 := (List.getElem?_eq_some_iff.mp hy).1
        rw [sizeLine_eq]
        omega
      · rw [upd_ne (ne_of_none e hD)]
        exact sH _ _ e
      · rw [List.take_succ, List.getElem?_map, hd]
        exact hAc.app (.cons (hv H0 hq) .nil)
    · rintro H3 ⟨s23, acc, hacc, hAc⟩
      have s03 := s02.trans s23
      obtain ⟨d0, d1, d2, d3, d4, rfl, _⟩ := five_of hA
      have hAc' : DqAll K H0 acc ([d0, d1, d2, d3, d4].map orNone) := hAc
      clear hAc
      have hl5 : acc.length = 5 := hAc'.length
      refine ⟨Dl, acc, rfl, .inl ⟨.inl (.inl hacc), fun l hl => ?_⟩⟩
      have s34 : Same H3 (upd H3 l (.tup acc)) := same_new hl
      have tl : SqT K (upd H3 l (.tup acc)) l acc := .inl (.inl upd_same)
      generalize upd H3 l (.tup acc) = H4 at s34 tl ⊢
      have s04 := s03.trans s34
      refine ⟨_, rfl, _, rfl, vn, l, dn, acc, [d0, d1, d2, d3, d4].map orNone, rfl, hn.same s04, hz, tl, hl5, DqAll.same s04 hAc', ?_, fun H5 s45 => ?_⟩
      · intro i hi
        match i, hi with
        | 0, _ => exact hB 0 (by decide)
        | 1, _ => exact hB 1 (by decide)
        | 2, _ => exact hB 2 (by decide)
      have s05 := s04.trans s45
      have hx5 : H5 x = some (.ins C dx []) := (((s12.trans s23).trans s34).trans s45) _ _ hx1
      have tl5 := sm_t s45 tl
      cases hfw : fwR dn ([d0, d1, d2, d3, d4].map orNone) with
      | none =>
        rw [hfw] at k
        refine ⟨_, rfl, _, rfl, ite2 (fun e => absurd e (by decide)) (fun _ => ?_)⟩
        refine ⟨_, rfl, _, rfl, x, C, dx, [], rfl, hx5, c, n1, by decide, ?_⟩
        refine ⟨_, rfl, _, rfl, x, C, dx, _, rfl, upd_same, c, n2, by show 1 < 1000; decide, ?_⟩
        have s06 : Same H0 (upd (upd H5 x (.ins C dx (putF "own_name" vn []))) x (.ins C dx (putF "measures" (.ref l) (putF "own_name" vn [])))) := fun b o e => by
          rw [upd_ne (ne_of_none e nx), upd_ne (ne_of_none e nx)]
          exact s05 _ _ e
        have tl6 : SqT K (upd (upd H5 x (.ins C dx (putF "own_name" vn []))) x (.ins C dx (putF "measures" (.ref l) (putF "own_name" vn [])))) l acc := by
          rcases tl5 with (h | ⟨o, h⟩) | h
          · have ne : l ≠ x := fun z => by rw [z, hx5] at h; cases h
            exact .inl (.inl (by rw [upd_ne ne, upd_ne ne]; exact h))
          · have ne : l ≠ x := fun z => by rw [z, hx5] at h; cases h
            exact .inl (.inr ⟨o, by rw [upd_ne ne, upd_ne ne]; exact h⟩)
          · exact .inr h
        exact k _ s06 ⟨dx, l, acc, upd_same, hn.same s06, tl6, DqAll.same s06 hAc'⟩
      | some wd =>
        rw [hfw] at k
        refine ⟨_, rfl, _, rfl, iteT ?_⟩
        refine ⟨_, rfl, by show 1 ≤ 1000; decide, fun a ha => ⟨a, wd, rfl, fw_len hfw, upd_same, fun dx' e1 e2 => ⟨rfl, dx', [(("field" : Str), .str wd)], upd_same, ?_, ?_, ?_⟩⟩⟩
        · rw [upd_ne e2, upd_same]
        · rw [upd_ne e2] at e1
          exact e1
        · refine k _ dx' (fun b o e => ?_) upd_same
          have h5 := s05 _ _ e
          have nb1 : b ≠ a := ne_of_none h5 ha
          have nb2 : b ≠ dx' := ne_of_none h5 (by rw [upd_ne e2] at e1; exact e1)
          rw [upd_ne nb2, del_ne nb1, upd_ne nb1, upd_ne nb2, upd_ne nb1]
          exact h5
end
end Lf

set_option Elab.async false
set_option linter.all false
set_option maxRecDepth 100000
set_option maxHeartbeats 4000000
set_option exponentiation.threshold 3000
namespace Lf
open PySem PySem.Spec PyProof.Rows L2
theorem sm_l {K : PySem.W.Frag} {H H' : Hp} {a : Addr} {xs : List V} (s : Same H H') (h : SqL K H a xs) : SqL K H' a xs := s.seq h
theorem small30 {n : Int} (h : 0 ≤ n) (h2 : n < 2147483648) : Sm n := Nat.lt_of_lt_of_le (show n.natAbs < 2 ^ 31 by omega) (Nat.pow_le_pow_right (by decide) (by decide))
section
variable {P : Program} {w : World} {K : PySem.W.Frag} {mg : Str → Option Value} {base : Heap}

/-! ### _law_cell -/
theorem sc__law_cell : FnScope ["_law_script", "_law_k"] ["_law_script", "_law_k"] (defScope s__law_cell) := ⟨rfl, rfl, rfl, by decide +kernel, rfl, by decide +kernel, by decide +kernel⟩
def sp_cell (K : PySem.W.Frag) : Sp := fun vs H Q _ => ∃ (a : Addr) (ns : List Int) (k : Nat), vs = [.ref a, .int k] ∧ SqL K H a (ns.map V.int) ∧ k < 2 ^ 62 ∧ ∀ n : Int, Q (.int n) H
theorem ok_cell {f : Addr} {fd : FuncData} (M : Blt mg) (F : Fun K "_law_cell" "_law_cell" s__law_cell f fd) : FnG P w K mg base CX0 1 f fd ["_law_script", "_law_k"] (sp_cell K) := by
  refine Gfun F sc__law_cell (fun vs H Q E h => ?_) (fun cdv A outer s H vs Q E hg hr h => ?_)
  · obtain ⟨a, ns, k, rfl, _⟩ := h
    rfl
  · obtain ⟨a, ns, k, rfl, hS, hk, q⟩ := h
    refine ⟨_, (pss_one (ps_ret (pe_ifExp (pt_cmpR op_lt (pv 1) (pe_callB call_len_seq rfl M.len bt_len (pa_cons (pv 0) pa_nil)) (nomark _)) (pe_ix ix_list (pv 0) (pv 1) (fun _ _ => rfl)) pe_int))), ?_⟩
    refine ⟨_, rfl, _, rfl, a, _, rfl, .inl hS, _, _, rfl, rfl, _, rfl, ite2 (fun e => ?_) (fun e => ?_)⟩
    · have e' : (k : Int) < (((ns.map V.int).length : Nat) : Int) := of_decide_eq_true e
      rw [List.length_map] at e'
      have hlt : k < ns.length := by omega
      refine ⟨_, rfl, _, rfl, a, _, _, .int ns[k], rfl, rfl, hS, atI_nat ?_, q _⟩
      rw [List.getElem?_map, List.getElem?_eq_getElem hlt]
      rfl
    · exact q 0

/-! ### _law_pot -/
theorem sc__law_pot : FnScope ["_law_cell_here"] ["_law_cell_here"] (defScope s__law_pot) := ⟨rfl, rfl, rfl, by decide +kernel, rfl, by decide +kernel, by decide +kernel⟩
def sp_pot : Sp := fun vs H Q _ => ∃ n : Int, vs = [.int n] ∧ ∀ (x y : Int) (p : Addr), 0 ≤ y → y < 2147483648 → H p = none → Q (.ref p) (upd H p (.lst [.int x, .int y]))
theorem ok_pot {f : Addr} {fd : FuncData} (M : Blt mg) (F : Fun K "_law_pot" "_law_pot" s__law_pot f fd) : FnG P w K mg base CX0 1 f fd ["_law_cell_here"] sp_pot := by
  refine Gfun F sc__law_pot (fun vs H Q E h => ?_) (fun cdv A outer s H vs Q E hg hr h => ?_)
  · obtain ⟨n, rfl, _⟩ := h
    rfl
  · obtain ⟨n, rfl, q⟩ := h
    refine ⟨_, (pss_one (ps_ret (pe_lst (pa_cons (pe_callB (call_max2 rfl) rfl M.max bt_max (pa_cons pe_int (pa_cons (pe_op op_sub (pv 0) (pe_op op_pow pe_int pe_int)) pa_nil))) (pa_cons (pe_op op_mod (pe_op op_add (pe_op op_mulW (pe_op op_mod (pv 0) pe_int) pe_int) pe_int) pe_int) pa_nil))))), ?_⟩
    refine ⟨_, rfl, 10, 18, rfl, rfl, ⟨by decide, by decide, by decide⟩, _, _, rfl, rfl, _, _, rfl, ?_⟩
    have h1 := Int.emod_nonneg n (show (2147483629 : Int) ≠ 0 by decide)
    have h2 := Int.emod_lt_of_pos n (show (0 : Int) < 2147483629 by decide)
    refine ⟨_, rfl, _, _, rfl, rfl, (by show (0 : Int) < 2147483629; decide), _, _, rfl, rfl, Sm.mulW (small30 h1 (by omega)) (small30 (by decide) (by decide)), _, _, rfl, rfl, _, _, rfl, rfl, (by show (0 : Int) < 2147483647; decide), lst2 fun p hp => ?_⟩
    have h3 := Int.emod_nonneg (n % 2147483629 * 48271 + 7919) (show (2147483647 : Int) ≠ 0 by decide)
    have h4 := Int.emod_lt_of_pos (n % 2147483629 * 48271 + 7919) (show (0 : Int) < 2147483647 by decide)
    exact q _ _ p h3 (by omega) hp

/-! ### _law_draw -/
theorem sc__law_draw : FnScope ["_law_pot_here", "_law_many", "_law_digit"] ["_law_pot_here", "_law_many"] (defScope s__law_draw) := ⟨rfl, rfl, rfl, by decide +kernel, rfl, by decide +kernel, by decide +kernel⟩
/-- all but the pot at q stands as before -/
def But (q : Addr) (H H' : Hp) : Prop := ∀ b o, b ≠ q → H b = some o → H' b = some o
theorem But.rfl {q : Addr} {H : Hp} : But q H H := fun _ _ _ e => e
theorem But.trans {q : Addr} {H H1 H2 : Hp} (h : But q H H1) (k : But q H1 H2) : But q H H2 := fun b o n e => k b o n (h b o n e)
theorem But.same {q : Addr} {H H1 H2 : Hp} (h : But q H H1) (k : Same H1 H2) : But q H H2 := fun b o n e => k b o (h b o n e)
/-- a pot of draws at q -/
def Pot (H : Hp) (q : Addr) : Prop := ∃ x y : Int, 0 ≤ y ∧ y < 2147483648 ∧ H q = some (.lst [.int x, .int y])
def Drawn (H : Hp) (q : Addr) (Q : VK) (m : Int) : Prop := ∀ (r : Int) (H' : Hp), 0 ≤ r → r < m → Pot H' q → But q H H' → Q (.int r) H'
def sp_draw : Sp := fun vs H Q _ => ∃ (q : Addr) (m : Int), vs = [.ref q, .int m] ∧ 0 < m ∧ m.natAbs < 2 ^ 900 ∧ Pot H q ∧ Drawn H q Q m
theorem ok_draw {f : Addr} {fd : FuncData} (M : Blt mg) (F : Fun K "_law_draw" "_law_draw" s__law_draw f fd) : FnG P w K mg base CX0 1 f fd ["_law_pot_here", "_law_many"] sp_draw := by
  refine Gfun F sc__law_draw (fun vs H Q E h => ?_) (fun cdv A outer s H vs Q E hg hr h => ?_)
  · obtain ⟨q, m, rfl, _⟩ := h
    rfl
  · obtain ⟨q, m, rfl, hm, hm2, ⟨x, y, hy0, hy1, hP⟩, k⟩ := h
    refine ⟨_, (pss_cons (ps_if (pt_cmpR op_gt (pe_ix ix_list (pv 0) pe_int (fun _ _ => rfl)) pe_int (nomark _))
      (pss_cons (ps_asg (pe_callB call_divmodW rfl M.divmod bt_divmod (pa_cons (pe_ix ix_list (pv 0) pe_int (fun _ _ => rfl)) (pa_cons (pv 1) pa_nil))) (pg_tup rfl (pgs_cons (pg_sub (pv 0) pe_int set_list) (pgs_cons (pg_name (i := 2) sc__law_draw.nd rfl (.inl rfl)) pgs_nil))))
      (pss_one (ps_ret (pv 2))))
      pss_nil)
      (pss_cons (ps_asg (pe_op op_mod (pe_op op_add (pe_op op_mulW (pe_ix ix_list (pv 0) pe_int (fun _ _ => rfl)) pe_int) pe_int) pe_int) (pg_sub (pv 0) pe_int set_list))
      (pss_one (ps_ret (pe_op op_mod (pe_op op_fdivN (pe_op op_mod (pe_op op_mulW (pe_ix ix_list (pv 0) pe_int (fun _ _ => rfl)) (pe_ix ix_list (pv 0) pe_int (fun _ _ => rfl))) pe_int) pe_int) (pv 1)))))), ?_⟩
    refine ⟨_, rfl, q, _, _, _, rfl, rfl, .inl (.inl hP), rfl, _, _, rfl, rfl, _, rfl, ite2 (fun e => ?_) (fun e => ?_)⟩
    · refine ⟨_, rfl, q, _, _, _, rfl, rfl, .inl (.inl hP), rfl, _, rfl, x, m, rfl, ⟨hm, PyProof.noPylong_of_log2 (Nat.lt_of_lt_of_le (PySem.Flt.log2_lt_of (by decide) hm2) (by decide))⟩, fun p hp => ?_⟩
      have nq : q ≠ p := ne_of_none hP hp
      have hP2 : upd H p (.tup [.int (x / m), .int (x % m)]) q = some (.lst [.int x, .int y]) := by
        rw [upd_ne nq]
        exact hP
      refine ⟨p, _, rfl, .inl (.inl upd_same), rfl, _, _, rfl, ?_⟩
      refine ⟨_, rfl, q, _, _, _, rfl, rfl, hP2, rfl, ?_⟩
      refine ⟨_, _, rfl, rfl, ?_⟩
      refine ⟨_, rfl, k (x % m) _ (Int.emod_nonneg _ (by omega)) (Int.emod_lt_of_pos _ hm) ⟨x / m, y, hy0, hy1, upd_same⟩ fun b o nb eb => ?_⟩
      rw [upd_ne nb, upd_ne (ne_of_none eb hp)]
      exact eb
    · refine ⟨_, rfl, q, _, _, _, rfl, rfl, .inl (.inl hP), rfl, _, _, rfl, rfl, Sm.mulW (small30 hy0 hy1) (small30 (by decide) (by decide)), _, _, rfl, rfl, _, _, rfl, rfl, (by show (0 : Int) < 2147483587; decide), ?_⟩
      refine ⟨_, rfl, q, _, _, _, rfl, rfl, hP, rfl, ?_⟩
      have h3 := Int.emod_nonneg (y * 39373 + 8191) (show (2147483587 : Int) ≠ 0 by decide)
      have h4 := Int.emod_lt_of_pos (y * 39373 + 8191) (show (0 : Int) < 2147483587 by decide)
      have sz : Sm ((y * 39373 + 8191) % 2147483587) := small30 h3 (by omega)
      refine ⟨_, rfl, q, _, _, _, rfl, rfl, .inl (.inl upd_same), rfl, _, rfl, q, _, _, _, rfl, rfl, .inl (.inl upd_same), rfl, _, _, rfl, rfl, Sm.mulW sz sz, _, _, rfl, rfl, (by show (0 : Int) < 2147483543; decide), ?_⟩
      refine ⟨_, _, rfl, rfl, ⟨by decide, by decide⟩, _, rfl, _, _, rfl, rfl, hm, ?_⟩
      refine k _ _ (Int.emod_nonneg _ (by omega)) (Int.emod_lt_of_pos _ hm) ⟨x, _, h3, by omega, upd_same⟩ fun b o nb eb => ?_
      rw [upd_ne nb]
      exact eb

/-! ### _law_low -/
theorem sc__law_low : FnScope ["_law_top", "_law_bottom", "_law_one", "_law_other"] ["_law_top", "_law_bottom"] (defScope s__law_low) := ⟨rfl, rfl, rfl, by decide +kernel, rfl, by decide +kernel, by decide +kernel⟩
def sp_low : Sp := fun vs H Q _ => ∃ (n d : Int), vs = [.int n, .int d] ∧ d ≠ 0 ∧ Mid d ∧ Two H Q (low n d)
theorem ok_low {f : Addr} {fd : FuncData} (M : Blt mg) (F : Fun K "_law_low" "_law_low" s__law_low f fd) : FnG P w K mg base CX0 1 f fd ["_law_top", "_law_bottom"] sp_low := by
  refine Gfun F sc__law_low (fun vs H Q E h => ?_) (fun cdv A outer s H vs Q E hg hr h => ?_)
  · obtain ⟨n, d, rfl, _⟩ := h
    rfl
  · obtain ⟨n, d, rfl, hd, hd2, q⟩ := h
    refine ⟨_, (pss_cons (ps_par (i := 2) (j := 3) rfl sc__law_low.nd rfl rfl (by decide) rfl rfl (pa_cons (pe_callB call_abs rfl M.abs bt_abs (pa_cons (pv 0) pa_nil)) (pa_cons (pe_callB call_abs rfl M.abs bt_abs (pa_cons (pv 1) pa_nil)) pa_nil)) (by rfl))
      (pss_cons (ps_while PassesOwn.never (pt_cmpR op_gt (pv 3) pe_int (nomark _))
      (pss_one (ps_par (i := 2) (j := 3) rfl sc__law_low.nd rfl rfl (by decide) rfl rfl (pa_cons (pv 3) (pa_cons (pe_op op_mod (pv 2) (pv 3)) pa_nil)) (by rfl))))
      (pss_cons (ps_if (pt_cmpR op_lt (pv 1) pe_int (nomark _))
      (pss_one (ps_set (i := 2) sc__law_low.nd rfl (.inl rfl) (pe_un un_neg (pv 2))))
      pss_nil)
      (pss_one (ps_ret (pe_tup (pa_cons (pe_op op_fdivN (pv 0) (pv 2)) (pa_cons (pe_op op_fdivN (pv 1) (pv 2)) pa_nil)))))))), ?_⟩
    refine ⟨_, rfl, _, rfl, _, rfl, _, rfl, _, _, rfl, ?_⟩
    refine while_by (fun σ H' => ∃ x y : Int, σ = [some (.int n), some (.int d), some (.int x), some (.int y)] ∧ 0 ≤ x ∧ 0 ≤ y ∧ Nat.gcd x.natAbs y.natAbs = Nat.gcd n.natAbs d.natAbs ∧ H' = H)
      (fun σ _ => match σ with | [_, _, _, some (.int y)] => y.toNat | _ => 0) ⟨_, _, rfl, ?_, ?_, ?_, rfl⟩ ?_ ?_
    · rw [abs_is]
      omega
    · rw [abs_is]
      omega
    · rw [abs_is, abs_is, Int.natAbs_natCast, Int.natAbs_natCast]
    · rintro σ H1 ⟨x, y, rfl, hx, hy, hgc, rfl⟩
      refine ⟨_, rfl, _, _, rfl, rfl, _, rfl, ite2 (fun e => ?_) (fun e => ?_)⟩
      · have hyp : 0 < y := of_decide_eq_true e
        refine ⟨_, rfl, _, rfl, _, rfl, x, y, rfl, rfl, hyp, _, _, rfl, ⟨y, x % y, rfl, hy, Int.emod_nonneg _ (by omega), (gcd_step x y hyp hx).trans hgc, rfl⟩, ?_⟩
        show (x % y).toNat < y.toNat
        have := Int.emod_lt_of_pos x hyp
        omega
      · have hy0 : y = 0 := by
          have : ¬ 0 < y := fun z => e (decide_eq_true z)
          omega
        subst hy0
        rw [Int.natAbs_zero, Nat.gcd_zero_right] at hgc
        have ex : x = ((Nat.gcd n.natAbs d.natAbs : Nat) : Int) := by omega
        subst ex
        have hgz : ((Nat.gcd n.natAbs d.natAbs : Nat) : Int) ≠ 0 := by
          have := gcd_pos (n := n) hd
          omega
        have hlg := (gcd_mid (n := n) hd hd2).log
        refine ⟨_, rfl, _, _, rfl, rfl, _, rfl, ite2 (fun e => ?_) (fun e => ?_)⟩
        · have e' : d < 0 := of_decide_eq_true e
          have hm : ∀ i, CDivN i (-((Nat.gcd n.natAbs d.natAbs : Nat) : Int)) := fun i => ⟨by omega, by rw [Int.natAbs_neg]; exact hlg⟩
          refine ⟨_, rfl, _, rfl, _, rfl, _, rfl, n, _, rfl, rfl, hm n, _, rfl, _, rfl, d, _, rfl, rfl, hm d, (by show 2 ≤ sizeLine; decide), fun p hp => ?_⟩
          refine q _ p (same_new hp) ?_
          rw [← low_fdiv_neg (n := n) e']
          exact upd_same
        · have e' : 0 < d := by
            have : ¬ d < 0 := fun z => e (decide_eq_true z)
            omega
          have hm : ∀ i, CDivN i ((Nat.gcd n.natAbs d.natAbs : Nat) : Int) := fun i => ⟨hgz, hlg⟩
          refine ⟨_, rfl, _, rfl, n, _, rfl, rfl, hm n, _, rfl, _, rfl, d, _, rfl, rfl, hm d, (by show 2 ≤ sizeLine; decide), fun p hp => ?_⟩
          refine q _ p (same_new hp) ?_
          rw [← low_fdiv_pos (n := n) e']
          exact upd_same
    · rintro σ H1 Q1 Q2 hq ⟨u, hu, i, j, h1, h2, k, h3, h4⟩
      exact ⟨u, hu, i, j, h1, h2, k, h3, hq _ _ h4⟩

end
end Lf

set_option Elab.async false
set_option linter.all false
set_option maxRecDepth 100000
set_option maxHeartbeats 4000000
set_option exponentiation.threshold 3000
namespace Lf
open PySem PySem.Spec PyProof.Rows L2
theorem op_notInK {X : Cx} {K : PySem.W.Frag} (h : X.A.units + 65 < cLine) (hK : X.K = K := by rfl) : OpR X (compareOp .NotIn) (rNotInD K) := by
  subst hK
  exact op_notInD h
def AllL (z : Str) : Prop := ∀ c ∈ z.cps.toList, inL c = true
theorem al_app {x y : Str} (h : AllL x) (k : AllL y) : AllL (x ++ y) := by
  intro c hc
  have e : (x ++ y).cps.toList = x.cps.toList ++ y.cps.toList := by
    rw [show (x ++ y).cps = x.cps ++ y.cps from rfl, Array.toList_append]
  rw [e] at hc
  rcases List.mem_append.mp hc with q | q
  · exact h c q
  · exact k c q
theorem nm_join : ∀ ys : List Str, (∀ y ∈ ys, y.length = 1 ∧ AllL y) → ys ≠ [] → (Str.join (Str.ofString "") ys).length = ys.length ∧ AllL (Str.join (Str.ofString "") ys)
  | [], _, h => absurd rfl h
  | [x], h, _ => h x List.mem_cons_self
  | x :: y :: r, h, _ => by
    obtain ⟨l, a⟩ := nm_join (y :: r) (fun z hz => h z (List.mem_cons_of_mem _ hz)) (by simp)
    obtain ⟨l1, a1⟩ := h x List.mem_cons_self
    have e : Str.join (Str.ofString "") (x :: y :: r) = x ++ Str.ofString "" ++ Str.join (Str.ofString "") (y :: r) := rfl
    have e0 : AllL (Str.ofString "") := fun c hc => by
      have : (Str.ofString "").cps.toList = [] := by decide +kernel
      rw [this] at hc
      cases hc
    rw [e]
    refine ⟨?_, al_app (al_app a1 e0) a⟩
    rw [PySem.Str.length_append, PySem.Str.length_append, l1, l, show (Str.ofString "").length = 0 by decide +kernel, List.length_cons (a := x)]
    omega
theorem pot_same {H H' : Hp} {q : Addr} (h : Pot H q) (s : Same H H') : Pot H' q := by
  obtain ⟨x, y, a, b, e⟩ := h
  exact ⟨x, y, a, b, s _ _ e⟩
theorem inL_lt {c : Nat} (h : inL c = true) : c < 0x110000 := by
  have hc : c ∈ lets.cps.toList := of_decide_eq_true h
  have all : ∀ x ∈ lets.cps.toList, x < 0x110000 := by decide +kernel
  exact all c hc
theorem al_cut {z : Str} (lo hi : Option Int) (h : AllL z) : AllL (cutS z lo hi) := fun c hc => h c (List.mem_of_mem_drop (List.mem_of_mem_take (show c ∈ ((z.cps.toList.drop _).take _) by simpa [cutS] using hc)))
theorem al_shaped {z : Str} (h : AllL z) : SeqAt.shaped (.str z) = true := by
  unfold SeqAt.shaped
  rw [Bool.and_eq_true]
  refine ⟨?_, decide_eq_true ?_⟩
  · simp only [PyData.canLay0, PyData.strOk]
    simp
    intro c hc
    exact inL_lt (h _ (by simp))
  · simp only [PyData.depth]
    omega
theorem sq_but {K : PySem.W.Frag} {H H' : Hp} {q t : Addr} {xs : List V} (b : But q H H') (n : t ≠ q) (h : SqL K H t xs) : SqL K H' t xs := by
  rcases h with (h | ⟨o, h⟩) | h
  · exact .inl (.inl (b _ _ n h))
  · exact .inl (.inr ⟨o, b _ _ n h⟩)
  · exact .inr h
theorem ones_sum : ∀ ys : List Str, (∀ y ∈ ys, y.length = 1 ∧ AllL y) → (ys.map (·.length)).sum = ys.length
  | [], _ => rfl
  | y :: r, h => by
    rw [List.map_cons, List.sum_cons, (h y List.mem_cons_self).1, ones_sum r fun z hz => h z (List.mem_cons_of_mem _ hz), List.length_cons]
    omega
/-- the letter at a place -/
def letC (i : Nat) : Nat := ((Str.ofString "abcdefghijklmnopqrstuvwxyz").cps[i]?).getD 0
/-- the i-th of the other names that are tried -/
def cand (z : Str) (i : Nat) : Str := cutS z none (some 8) ++ ⟨#[letC i]⟩ ++ Str.ofString "q"
theorem cand_inj {z : Str} {i j : Nat} (hi : i < 26) (hj : j < 26) (e : cand z i = cand z j) : i = j := by
  have e2 := congrArg (fun x : Str => x.cps.toList) e
  have tl : ∀ k, (cand z k).cps.toList = (cutS z none (some 8)).cps.toList ++ [letC k] ++ (Str.ofString "q").cps.toList := fun k => by
    unfold cand
    rw [show ∀ x y : Str, (x ++ y).cps = x.cps ++ y.cps from fun _ _ => rfl, Array.toList_append, show ∀ x y : Str, (x ++ y).cps = x.cps ++ y.cps from fun _ _ => rfl, Array.toList_append]
  simp only [tl] at e2
  have e3 := List.append_cancel_left (List.append_cancel_right e2)
  have e4 : letC i = letC j := (List.cons.inj e3).1
  have all : ∀ a < 26, ∀ b < 26, letC a = letC b → a = b := by decide +kernel
  exact all i hi j hj e4
theorem nodup_le {α : Type} [DecidableEq α] : ∀ (l m : List α), l.Nodup → (∀ x ∈ l, x ∈ m) → l.length ≤ m.length
  | [], _, _, _ => Nat.zero_le _
  | x :: l, m, hn, h => by
    have hx := h x List.mem_cons_self
    have r := nodup_le l (m.erase x) (List.nodup_cons.mp hn).2 fun y hy => by
      have ny : y ≠ x := fun z => (List.nodup_cons.mp hn).1 (by rw [← z]; exact hy)
      exact (List.mem_erase_of_ne ny).mpr (h y (List.mem_cons_of_mem _ hy))
    rw [List.length_erase_of_mem hx] at r
    have : 0 < m.length := List.length_pos_of_mem hx
    rw [List.length_cons]
    omega
/-- one of the names that are tried is not taken -/
theorem one_free {z : Str} {ts : List Str} (h : ts.length ≤ 25) : ∃ i, i < 26 ∧ cand z i ∉ ts := by
  apply Classical.byContradiction
  intro no
  have all : ∀ i, i < 26 → cand z i ∈ ts := fun i hi => Classical.byContradiction fun q => no ⟨i, hi, q⟩
  have nd : ((List.range 26).map (cand z)).Nodup := by
    refine List.Pairwise.map _ ?_ (List.Pairwise.and_mem.mp (List.nodup_range (n := 26)))
    rintro a b ⟨ha, hb, hab⟩ e
    exact hab (cand_inj (List.mem_range.mp ha) (List.mem_range.mp hb) e)
  have := nodup_le _ ts nd fun x hx => by
    obtain ⟨i, hi, rfl⟩ := List.mem_map.mp hx
    exact all i (List.mem_range.mp hi)
  rw [List.length_map, List.length_range] at this
  omega
theorem strs_dp {K : PySem.W.Frag} {H : Hp} : ∀ ts : List Str, DpAll K H (ts.map V.str) (ts.map PyData.str)
  | [] => .nil
  | t :: ts => .cons (.str t) (strs_dp ts)
theorem strs_shaped {ts : List Str} (h : ∀ t ∈ ts, AllL t) : SeqAt.shaped (.list (ts.map PyData.str)) = true := by
  have key : ∀ ts : List Str, (∀ t ∈ ts, AllL t) → PyData.canLayAll0 (ts.map PyData.str) = true ∧ PyData.depthAll (ts.map PyData.str) = 0 := by
    intro ts
    induction ts with
    | nil => exact fun _ => ⟨by simp only [List.map_nil, PyData.canLayAll0], by simp only [List.map_nil, PyData.depthAll]⟩
    | cons t ts ih =>
      intro h
      obtain ⟨i1, i2⟩ := ih fun x hx => h x (List.mem_cons_of_mem _ hx)
      have a := SeqAt.canLay_of_shaped (al_shaped (h t List.mem_cons_self))
      exact ⟨by simp only [List.map_cons, PyData.canLayAll0, i1, a, Bool.and_self], by simp only [List.map_cons, PyData.depthAll, PyData.depth, i2, Nat.max_self]⟩
  obtain ⟨i1, i2⟩ := key ts h
  unfold SeqAt.shaped
  rw [Bool.and_eq_true]
  refine ⟨by simp only [PyData.canLay0]; exact i1, decide_eq_true ?_⟩
  simp only [PyData.depth, i2]
  omega
theorem strs_any (y : Str) : ∀ ts : List Str, ((ts.map PyData.str).any fun d => PyData.eqv d (.str y)) = decide (y ∈ ts)
  | [] => by simp
  | t :: ts => by
    rw [List.map_cons, List.any_cons, strs_any y ts]
    have e : PyData.eqv (.str t) (.str y) = decide (t = y) := by
      simp only [PyData.eqv]
      by_cases h : t = y
      · subst h
        simp
      · simp [h]
    rw [e]
    by_cases h : t = y
    · subst h
      simp
    · have h' : ¬ y = t := fun z => h z.symm
      simp [h, h']
theorem nm_al {z : Str} (h : isNm (.str z) = true) : AllL z ∧ 1 ≤ z.length ∧ z.length ≤ 10 := by
  have h' : (decide (1 ≤ z.length) && decide (z.length ≤ 10) && List.all z.cps.toList inL) = true := h
  rw [Bool.and_eq_true, Bool.and_eq_true] at h'
  exact ⟨fun c hc => List.all_eq_true.mp h'.2 c hc, of_decide_eq_true h'.1.1, of_decide_eq_true h'.1.2⟩
theorem al_nm {z : Str} (h : AllL z) (h1 : 1 ≤ z.length) (h2 : z.length ≤ 10) : isNm (.str z) = true := by
  show (decide (1 ≤ _) && decide (_ ≤ 10) && List.all _ inL) = true
  rw [decide_eq_true h1, decide_eq_true h2, Bool.and_self, Bool.true_and, List.all_eq_true]
  exact h
section
variable {P : Program} {w : World} {K : PySem.W.Frag} {mg : Str → Option Value} {base : Heap}

/-! ### _law_name -/
theorem sc__law_name : FnScope ["_law_pot_here", "_law_taken", "_law_letters", "_law_size", "_law_name_here", "_law_some", "_law_k", "_law_one"] ["_law_pot_here", "_law_taken"] (defScope s__law_name) := ⟨rfl, rfl, rfl, by decide +kernel, rfl, by decide +kernel, by decide +kernel⟩
/-- a name: one to ten small letters -/
def sp_name (K : PySem.W.Frag) : Sp := fun vs H Q _ => ∃ (q t : Addr) (ts : List Str), vs = [.ref q, .ref t] ∧ t ≠ q ∧ Pot H q ∧ SqL K H t (ts.map V.str) ∧ ts.length ≤ 25 ∧ (∀ x ∈ ts, AllL x) ∧ ∀ (z : Str) (H' : Hp), isNm (.str z) = true → z.length ≤ 10 → z ∉ ts → Pot H' q → But q H H' → Q (.str z) H'
theorem ok_name {f : Addr} {fd : FuncData} (M : Blt mg) (F : Fun K "_law_name" "_law_name" s__law_name f fd) (C__law_draw : Cal P w K mg base CX0 1 "_law_draw" ["_law_pot_here", "_law_many"] sp_draw) : FnG P w K mg base CX0 2 f fd ["_law_pot_here", "_law_taken"] (sp_name K) := by
  refine Gfun F sc__law_name (fun vs H Q E h => ?_) (fun cdv A outer s H vs Q E hg hr h => ?_)
  · obtain ⟨q, t, ts, rfl, _⟩ := h
    rfl
  · obtain ⟨q, t, ts, rfl, ntq, hP, ht, h25, hts, k⟩ := h
    refine ⟨_, (pss_cons (ps_set (i := 2) sc__law_name.nd rfl (.inr rfl) pe_str)
      (pss_cons (ps_set (i := 3) sc__law_name.nd rfl (by first | exact .inl rfl | exact .inr rfl) (pe_op op_add pe_int (pe_g C__law_draw (hr.mono (by decide)) hg (pa_cons (pv 0) (pa_cons (pe_ix ix_list (pe_lst (pa_cons pe_int (pa_cons pe_int (pa_cons pe_int pa_nil)))) (pe_g C__law_draw (hr.mono (by decide)) hg (pa_cons (pv 0) (pa_cons pe_int pa_nil))) (fun _ _ => rfl)) pa_nil)))))
      (pss_cons (ps_set (i := 4) sc__law_name.nd rfl (.inr rfl) (pe_bm PySem.F.plainAttrs_str PySem.F.slot_str_join PySem.F.type_str_join mt_join pe_str (pa_cons (pe_lc (own := [("_law_k", 6)]) (g := gName 6) (tt := tYes) rfl sc__law_name.nd (pi_range1 rfl M.range (pa_cons (pv 3) pa_nil)) (blkOk_by (N := ["_law_pot_here", "_law_taken", "_law_letters", "_law_size", "_law_name_here", "_law_some", "_law_k", "_law_one"]) (sc := defScope s__law_name) (by decide +kernel)) (fun _ _ _ _ _ => pg_name (i := 6) sc__law_name.nd rfl (Or.inl rfl)) (fun _ _ _ _ _ => pts_nil) (fun _ _ _ _ _ => (pe_item_str (pv 2) (pe_g C__law_draw (hr.mono (by decide)) hg (pa_cons (pv 0) (pa_cons pe_int pa_nil))) (fun _ _ => rfl)))) pa_nil)))
      (pss_cons (ps_set (i := 5) sc__law_name.nd rfl (by first | exact .inl rfl | exact .inr rfl) (pe_op op_cat (pe_lst (pa_cons (pv 4) pa_nil)) (pe_lc (own := [("_law_k", 6)]) (g := gName 6) (tt := tYes) rfl sc__law_name.nd (pi_range1 rfl M.range (pa_cons pe_int pa_nil)) (blkOk_by (N := ["_law_pot_here", "_law_taken", "_law_letters", "_law_size", "_law_name_here", "_law_some", "_law_k", "_law_one"]) (sc := defScope s__law_name) (by decide +kernel)) (fun _ _ _ _ _ => pg_name (i := 6) sc__law_name.nd rfl (Or.inl rfl)) (fun _ _ _ _ _ => pts_nil) (fun _ _ _ _ _ => (pe_op op_add_str (pe_op op_add_str (pe_slice sl_str (pv 4) po_none (po_some pe_int)) (pe_item_str (pv 2) (pv 6) (fun _ _ => rfl))) pe_str)))))
      (pss_one (ps_ret (pe_ix ix_list (pe_lc (own := [("_law_one", 7)]) (g := gName 7) rfl sc__law_name.nd (pi_list (pv 5)) (blkOk_by (N := ["_law_pot_here", "_law_taken", "_law_letters", "_law_size", "_law_name_here", "_law_some", "_law_k", "_law_one"]) (sc := defScope s__law_name) (by decide +kernel)) (fun _ _ _ _ _ => pg_name (i := 7) sc__law_name.nd rfl (Or.inl rfl)) (fun _ _ _ _ _ => (pts_one (pt_cmpR (op_notInK (K := K) (by exact u65 hr)) (pv 7) (pv 1) rfl))) (fun _ _ _ _ _ => (pv 7))) pe_int (fun _ _ => rfl)))))))), ?_⟩
    refine ⟨_, rfl, by decide, fun p3 hp3 => ⟨_, rfl, q, 3, rfl, by decide, by decide, ?_, fun r1 H1 r10 r11 hP1 b1 => ?_⟩⟩
    · exact pot_same hP (same_new hp3)
    have b01 : But q H H1 := fun b o nb e => b1 _ _ nb (by rw [upd_ne (ne_of_none e hp3)]; exact e)
    have np3 : p3 ≠ q := fun z => by
      obtain ⟨x, y, _, _, e⟩ := hP
      rw [← z, hp3] at e
      cases e
    have e3 : H1 p3 = some (.lst [.int 1, .int 3, .int 10]) := b1 _ _ np3 upd_same
    obtain ⟨m, hm1, hm2, hat⟩ : ∃ m : Int, 1 ≤ m ∧ m ≤ 10 ∧ atI [V.int 1, V.int 3, V.int 10] r1 = some (.int m) := by
      have h3 : r1 = 0 ∨ r1 = 1 ∨ r1 = 2 := by omega
      rcases h3 with rfl | rfl | rfl
      · exact ⟨1, by decide, by decide, rfl⟩
      · exact ⟨3, by decide, by decide, rfl⟩
      · exact ⟨10, by decide, by decide, rfl⟩
    refine ⟨p3, _, r1, _, rfl, rfl, .inl (.inl e3), hat, q, m, rfl, by omega, ?_, hP1, fun r2 H2 r20 r21 hP2 b2 => ?_⟩
    · exact Nat.lt_of_lt_of_le (show m.natAbs < 2 ^ 5 by show m.natAbs < 32; omega) (Nat.pow_le_pow_right (by decide) (by decide))
    have b02 : But q H H2 := fun b o nb e => b2 _ _ nb (b01 _ _ nb e)
    refine ⟨_, _, rfl, rfl, rfl, _, rfl, _, rfl, by omega, by omega, fun D hD => ?_⟩
    have nDq : D ≠ q := fun z => by
      obtain ⟨x, y, _, _, e⟩ := hP2
      rw [← z, hD] at e
      cases e
    have hl26 : (Str.ofString "abcdefghijklmnopqrstuvwxyz").length = 26 := by decide +kernel
    have keepD : ∀ b o, b ≠ q → H b = some o → b ≠ D := fun b o nb eb z => by
      have := b02 _ _ nb eb
      rw [z, hD] at this
      cases this
    refine lc_range (lo := 0) (n := (1 + r2).toNat) (fun i H' => ∃ ys : List Str, H' D = some (.lst (ys.map V.str)) ∧ ys.length = i ∧ (∀ y ∈ ys, y.length = 1 ∧ AllL y) ∧ Pot H' q ∧ But q H H')
      ⟨[], upd_same, rfl, (fun y h => nomatch h), pot_same hP2 (same_new hD), fun b o nb e => by rw [upd_ne (keepD b o nb e)]; exact b02 _ _ nb e⟩ ?_ ?_
    · rintro i H5 hi ⟨ys, eD, hl, hy, hP5, b5⟩
      refine ⟨rfl, _, rfl, _, rfl, q, 26, rfl, by decide, by decide, hP5, fun r6 H6 r60 r61 hP6 b6 => ?_⟩
      have hlt : r6.toNat < (Str.ofString "abcdefghijklmnopqrstuvwxyz").cps.size := by
        show r6.toNat < (Str.ofString "abcdefghijklmnopqrstuvwxyz").length
        omega
      obtain ⟨c6, hgc⟩ : ∃ c6, (Str.ofString "abcdefghijklmnopqrstuvwxyz").cps[r6.toNat]? = some c6 := ⟨_, Array.getElem?_eq_getElem hlt⟩
      refine ⟨_, r6, c6, rfl, rfl, r60, by omega, by omega, hgc, ys.map V.str, b6 _ _ nDq eD, ?_, ys ++ [⟨#[c6]⟩], ?_, ?_, ?_, ?_, ?_⟩
      · rw [List.length_map, sizeLine_eq]
        omega
      · rw [upd_same, List.map_append]
        rfl
      · rw [List.length_append, hl]
        rfl
      · intro y h
        rcases List.mem_append.mp h with z | z
        · exact hy y z
        · rw [List.mem_singleton.mp z]
          refine ⟨rfl, fun c hc => ?_⟩
          have : c = c6 := by simpa using hc
          rw [this]
          exact decide_eq_true (List.mem_of_getElem? (by rw [Array.getElem?_toList]; exact hgc))
      · obtain ⟨x, y, y0, y1, eP⟩ := hP6
        refine ⟨x, y, y0, y1, ?_⟩
        rw [upd_ne nDq.symm]
        exact eP
      · intro b o nb eb
        rw [upd_ne (keepD b o nb eb)]
        exact b6 _ _ nb (b5 _ _ nb eb)
    rintro H5 ⟨ys, eD, hl, hy, hP5, b5⟩
    have ne : ys ≠ [] := fun z => by
      rw [z] at hl
      have : (0 : Nat) = (1 + r2).toNat := hl
      omega
    obtain ⟨jl, ja⟩ := nm_join ys hy ne
    rw [← StrLaws.glued_eq_join] at jl ja
    have jl' : (Txt.join (Str.ofString "") ys).length = (1 + r2).toNat := jl.trans hl
    refine ⟨_, D, ys, rfl, rfl, .inl (.inl (.inl eD)), ?_, ?_⟩
    · rw [ones_sum ys hy, show (Str.ofString "").length = 0 by decide +kernel, Nat.mul_zero]
      omega
    have hnm : isNm (.str (Txt.join (Str.ofString "") ys)) = true := by
      show (decide (1 ≤ _) && decide (_ ≤ 10) && List.all _ inL) = true
      rw [decide_eq_true (by omega), decide_eq_true (by omega), Bool.and_self, Bool.true_and, List.all_eq_true]
      exact ja
    have hle : (Txt.join (Str.ofString "") ys).length ≤ 10 := by omega
    have hal : AllL (Txt.join (Str.ofString "") ys) := ja
    generalize Txt.join (Str.ofString "") ys = z at hnm hle hal ⊢
    refine ⟨_, rfl, by show 1 ≤ sizeLine; decide, fun l1 hl1 => ⟨_, rfl, by decide, by decide, fun D2 hD2 => ?_⟩⟩
    have s56 : Same H5 (upd H5 l1 (.lst [.str z])) := same_new hl1
    have e6 : upd H5 l1 (.lst [.str z]) l1 = some (.lst [.str z]) := upd_same
    generalize upd H5 l1 (.lst [.str z]) = H6 at s56 e6 hD2 ⊢
    refine lc_range (lo := 0) (n := 26) (fun i H' => ∃ zs : List Str, H' D2 = some (.lst (zs.map V.str)) ∧ zs.length = i ∧ zs = (List.range i).map (cand z) ∧ (∀ y ∈ zs, AllL y ∧ 1 ≤ y.length ∧ y.length ≤ 10) ∧ Same H6 H') ⟨[], upd_same, rfl, rfl, (fun y h => nomatch h), same_new hD2⟩ ?_ ?_
    · rintro i H7 hi ⟨zs, eD2, hl2, hz2, hy2, s67⟩
      have hlt : i < (Str.ofString "abcdefghijklmnopqrstuvwxyz").cps.size := by
        show i < (Str.ofString "abcdefghijklmnopqrstuvwxyz").length
        omega
      obtain ⟨c7, hgc⟩ : ∃ c7, (Str.ofString "abcdefghijklmnopqrstuvwxyz").cps[i]? = some c7 := ⟨_, Array.getElem?_eq_getElem hlt⟩
      have c1 := cutS_length z none (some 8)
      have l1' : (⟨#[c7]⟩ : Str).length = 1 := rfl
      have lq : (Str.ofString "q").length = 1 := by decide +kernel
      have zl := sizeLine_eq
      have ea : ((0 : Int) + (i : Int)).toNat = i := by omega
      refine ⟨rfl, _, rfl, 8, rfl, _, rfl, by omega, _, rfl, _, rfl, _, _, c7, rfl, rfl, by omega, by omega, by omega, by rw [ea]; exact hgc, _, _, rfl, rfl, by omega, _, _, rfl, rfl, ?_, zs.map V.str, eD2, ?_, zs ++ [cutS z none (some 8) ++ ⟨#[c7]⟩ ++ Str.ofString "q"], ?_, ?_, ?_, ?_, ?_⟩
      · rw [PySem.Str.length_append]
        omega
      · rw [List.length_map]
        omega
      · rw [upd_same, List.map_append]
        rfl
      · rw [List.length_append, hl2]
        rfl
      · rw [List.range_succ, List.map_append, ← hz2]
        have e7 : letC i = c7 := by
          unfold letC
          rw [hgc]
          rfl
        show zs ++ [_] = zs ++ [cand z i]
        unfold cand
        rw [e7]
      · intro y h
        rcases List.mem_append.mp h with zz | zz
        · exact hy2 y zz
        · rw [List.mem_singleton.mp zz]
          have c8 : (cutS z none (some 8)).length ≤ 8 := by
            have hh : HT.sIx z.length z.length (some 8) ≤ 8 := by
              unfold HT.sIx
              simp
              omega
            have h0 : HT.sIx z.length 0 none = 0 := by simp [HT.sIx]
            show ((z.cps.toList.drop _).take _).toArray.size ≤ 8
            simp
            omega
          refine ⟨?_, by rw [PySem.Str.length_append, PySem.Str.length_append]; omega, by rw [PySem.Str.length_append, PySem.Str.length_append]; omega⟩
          refine al_app (al_app (al_cut _ _ hal) fun c hc => ?_) fun c hc => ?_
          · have : c = c7 := by simpa using hc
            rw [this]
            exact decide_eq_true (List.mem_of_getElem? (by rw [Array.getElem?_toList]; exact hgc))
          · have : (Str.ofString "q").cps.toList = [113] := by decide +kernel
            rw [this] at hc
            rw [List.mem_singleton.mp hc]
            decide +kernel
      · intro b o e
        rw [upd_ne (ne_of_none e hD2)]
        exact s67 _ _ e
    rintro H7 ⟨zs, eD2, hl2, hz2, hy2, s67⟩
    refine ⟨l1, D2, [.str z], zs.map V.str, rfl, rfl, s67 _ _ e6, eD2, by rw [List.length_map, hl2, sizeLine_eq]; show 1 + 26 ≤ 16777216; decide, fun l2 hl2' => ?_⟩
    have s78 : Same H7 (upd H7 l2 (.lst ([.str z] ++ zs.map V.str))) := same_new hl2'
    have e8 : upd H7 l2 (.lst ([.str z] ++ zs.map V.str)) l2 = some (.lst ((z :: zs).map V.str)) := upd_same
    generalize upd H7 l2 (.lst ([.str z] ++ zs.map V.str)) = H8 at s78 e8 ⊢
    have s58 := (s56.trans s67).trans s78
    refine ⟨_, rfl, l2, rfl, ⟨_, .inl (.inl e8)⟩, fun D3 hD3 => ?_⟩
    have nD3 : ∀ b o, H8 b = some o → b ≠ D3 := fun b o e => ne_of_none e hD3
    refine lc_list (xs := (z :: zs).map V.str) (fun i H' => Same H8 H' ∧ H' D3 = some (.lst ((((z :: zs).take i).filter fun y => !decide (y ∈ ts)).map V.str))) ⟨same_new hD3, upd_same⟩ (fun i H' _ h => .inl (.inl (h.1 _ _ e8))) ?_ ?_
    · rintro i y H9 hy9 ⟨s89, e9⟩
      rw [List.getElem?_map] at hy9
      obtain ⟨y', hy', rfl⟩ : ∃ y', (z :: zs)[i]? = some y' ∧ y = .str y' := by
        cases h : (z :: zs)[i]? with
        | none => rw [h] at hy9; cases hy9
        | some y' => rw [h] at hy9; exact ⟨y', rfl, (Option.some.inj hy9).symm⟩
      have aly : AllL y' := by
        rcases List.mem_cons.mp (List.mem_of_getElem? hy') with rfl | h
        · exact hal
        · exact (hy2 y' h).1
      have ht9 : SqL K H9 t (ts.map V.str) := sm_l (s58.trans s89) (sq_but b5 ntq ht)
      have hi : i < (z :: zs).length := (List.getElem?_eq_some_iff.mp hy').1
      rw [List.length_cons, hl2] at hi
      refine ⟨rfl, _, rfl, _, rfl, .str y', ts.map PyData.str, .str _, .lst ht9 (strs_dp ts), al_shaped aly, strs_shaped hts, _, rfl, ?_⟩
      rw [strs_any]
      refine ite2 (fun c => ?_) (fun c => ?_)
      · refine ⟨_, rfl, _, e9, ?_, fun b o e => ?_, ?_⟩
        · have := List.length_filter_le (fun y => !decide (y ∈ ts)) ((z :: zs).take i)
          rw [List.length_take] at this
          rw [List.length_map, sizeLine_eq]
          omega
        · rw [upd_ne (nD3 b o e)]
          exact s89 _ _ e
        · rw [upd_same, List.take_succ, hy', Option.toList_some, List.filter_append, List.filter_cons, c, if_pos rfl, List.map_append]
          rfl
      · refine ⟨s89, ?_⟩
        rw [e9, List.take_succ, hy', Option.toList_some, List.filter_append, List.filter_cons, if_neg c, List.filter_nil, List.append_nil]
    · rintro H9 ⟨s89, e9⟩
      rw [List.length_map, List.take_length] at e9
      have hb9 : But q H H9 := fun b o nb e => (s58.trans s89) _ _ (b5 _ _ nb e)
      obtain ⟨y, hy, hyt⟩ : ∃ y ∈ z :: zs, y ∉ ts := by
        obtain ⟨i, hi, hn⟩ := one_free (z := z) h25
        exact ⟨cand z i, List.mem_cons_of_mem _ (by rw [hz2]; exact List.mem_map_of_mem (List.mem_range.mpr hi)), hn⟩
      have hm : y ∈ (z :: zs).filter fun y => !decide (y ∈ ts) := List.mem_filter.mpr ⟨hy, by simp [hyt]⟩
      cases hf : (z :: zs).filter fun y => !decide (y ∈ ts) with
      | nil => rw [hf] at hm; cases hm
      | cons x r =>
        rw [hf] at e9
        have hx : x ∈ (z :: zs).filter fun y => !decide (y ∈ ts) := by rw [hf]; exact List.mem_cons_self
        obtain ⟨hx1, hx2⟩ := List.mem_filter.mp hx
        have hxt : x ∉ ts := by simpa using hx2
        have hxn : isNm (.str x) = true ∧ x.length ≤ 10 := by
          rcases List.mem_cons.mp hx1 with rfl | h
          · exact ⟨hnm, hle⟩
          · obtain ⟨a1, a2, a3⟩ := hy2 x h
            exact ⟨al_nm a1 a2 a3, a3⟩
        exact ⟨D3, _, 0, _, rfl, rfl, .inl (.inl e9), atI_nat (j := 0) rfl, k x H9 hxn.1 hxn.2 hxt (pot_same hP5 (s58.trans s89)) hb9⟩
end
end Lf

set_option Elab.async false
set_option linter.all false
set_option maxRecDepth 100000
set_option maxHeartbeats 4000000
/-! Promises of the __init__ of own exceptions. -/
namespace Lf
open PySem PySem.Spec PyProof.Rows L2
/-- one field, of anything -/
def sp_x1 (D : Addr) (f : Str) : Sp := fun vs H Q _ => ∃ (a : Addr) (v : V), vs = [.ref a, v] ∧ H a = some (exo a D none) ∧ ∀ dx, H dx = none → dx ≠ a → Q .non (upd (upd H dx (exd dx [(f, v)])) a (exo a D (some dx)))
/-- one field, a text -/
def sp_xt (D : Addr) (f : Str) : Sp := fun vs H Q _ => ∃ (a : Addr) (x : Str), vs = [.ref a, .str x] ∧ x.length ≤ 1000 ∧ H a = some (exo a D none) ∧ ∀ dx, H dx = none → dx ≠ a → Q .non (upd (upd H dx (exd dx [(f, .str x)])) a (exo a D (some dx)))
/-- two fields -/
def sp_x2 (D : Addr) (f g : Str) : Sp := fun vs H Q _ => ∃ (a : Addr) (v u : V), vs = [.ref a, v, u] ∧ H a = some (exo a D none) ∧ ∀ dx, H dx = none → dx ≠ a → Q .non (upd (upd (upd H dx (exd dx [(f, v)])) a (exo a D (some dx))) dx (exd dx [(f, v), (g, u)]))
/-- what a raise of an exception with fields leads to: the error's dict d is new and holds the fields -/
theorem raised {H : Hp} {a dx D : Addr} {fs : List (Str × V)} (ha : H a = none) (e1 : upd H a (exo a D none) dx = none) (e2 : dx ≠ a) {o1 o2 o3 : HO} : Same H (upd (del (upd (upd (upd H a o1) dx o2) a o3) a) dx (.xd fs)) ∧ H dx = none := by
  rw [upd_ne e2] at e1
  refine ⟨fun b o e => ?_, e1⟩
  have nb1 : b ≠ a := ne_of_none e ha
  have nb2 : b ≠ dx := ne_of_none e e1
  rw [upd_ne nb2, del_ne nb1, upd_ne nb1, upd_ne nb2, upd_ne nb1]
  exact e
end Lf

set_option Elab.async false
set_option linter.all false
set_option maxRecDepth 100000
/-! Clauses of a try, one after the other, some with a name: each clause by itself (Heard), then the try. -/
namespace Lf
open PySem PySem.Spec PyProof.Rows L2
/-- the exception at a has come to the clauses of a try -/
structure Came (X : Cx) (pins : List (Addr × Obj)) (a : Addr) (cls : Value) (d : Option Addr) (σ : L2.St) (H : Hp) (s : Shared) : Prop where
  own : H a = none
  bare : AllBare s.gens
  way : ∃ (B : Heap) (s₀ : Shared), HandSPX.FlyingZ B (X.env :: X.outer) a (Zc cls d) s.heap ∧ Inv X pins σ H s₀ ∧ (∀ b o, s₀.heap.get? b = some o → b ∉ frs X.stack → B.get? b = some o) ∧ s₀.heap.UpToSlots s.heap ∧ s.os = s₀.os
section
variable {X : Cx} {pins : List (Addr × Obj)} {a : Addr} {cls : Value} {d : Option Addr} {σ : L2.St} {H : Hp} {s : Shared}
theorem Came.inv (c : Came X pins a cls d σ H s) : Inv X pins σ H s := by
  obtain ⟨_, _, g1, g2, g3, g4, g5⟩ := c.way
  exact Inv.landed g2 g3 g1.1 g4 g5 c.bare
/-- landed again: its slots alone are others -/
theorem Came.next (c : Came X pins a cls d σ H s) {B : Heap} {s₀ : Shared} (g2 : Inv X pins σ H s₀) (g3 : ∀ b o, s₀.heap.get? b = some o → b ∉ frs X.stack → B.get? b = some o) (g4 : s₀.heap.UpToSlots s.heap) (g5 : s.os = s₀.os) {h : Heap}
    (f : HandSPX.FlyingZ B (X.env :: X.outer) a (Zc cls d) h) (u : s.heap.UpToSlots h) : Came X pins a cls d σ H { s with heap := h } :=
  ⟨c.own, c.bare, B, s₀, f, g2, g3, Heap.UpToSlots.trans g4 u, g5⟩
/-- what a clause's suite starts from -/
theorem Came.suite (c : Came X pins a cls d σ H s) (lk : X.env.frame = some X.env.locals) : ∃ oe vs, s.heap.get? a = some oe ∧ oe.data = .fields vs ∧ Zc cls d oe ∧ Inv (X.suite a ((a, oe) :: (X.pn ++ pins))) [] σ H s := by
  obtain ⟨B, _, fly, _⟩ := c.way
  obtain ⟨oe, vs, at_, kind, data⟩ := HandSPX.FlyingZ.there fly
  have out : ∀ e ∈ X.env :: X.outer, e.frame ≠ some a := fun e he z => by
    obtain ⟨_, ob, there, bad⟩ := Heap.FunFrames.mem fly.2.2.1 (List.mem_filterMap.mpr ⟨e, he, z⟩)
    rw [at_] at there
    exact bad vs (Option.some.inj there ▸ data)
  refine ⟨oe, vs, at_, data, kind, Inv.suite c.inv at_ data c.own (fun z => out X.env List.mem_cons_self (z ▸ lk)) fun z => ?_⟩
  obtain ⟨e, he, ef⟩ := List.mem_filterMap.mp z
  exact out e (List.mem_cons_of_mem _ he) ef
end
/-- these clauses do as W says with what comes to them -/
def Heard (X : Cx) (hds : List ExceptHandler) (W : Ends → WX) : Prop :=
  ∀ (pins : List (Addr × Obj)) (D : Ends) (a : Addr) (cls : Value) (d : Option Addr) (σ : L2.St) (H : Hp) (s : Shared), Came X pins a cls d σ H s → W D cls d σ H → wpAny (model X.prog X.w) X.A (handleBy (.ref a) X.env hds) (SP X pins D) X.xe s
section
variable {X : Cx} {x n : Str} {c : Value} {i : Nat} {body suite : List Stmt} {b₀ : Stmt} {np pos pos' : Pos} {tb : WX → TS} {ts : Addr → Value → Option Addr → TS} {W : Ends → WX} {Wout : WX} {hds : List ExceptHandler} {h₀ : ExceptHandler}
/-- no clause is left: it goes on -/
theorem heard_nil (hs : X.stack = X.env :: X.outer) (hf : X.env.frame = some X.env.locals) (tk : Takes X Wout) : Heard X [] fun _ => Wout := by
  intro pins D a cls d σ H s ca w
  obtain ⟨B, s₀, fly, g2, g3, g4, g5⟩ := ca.way
  have fly2 := fly
  obtain ⟨_, _, _, _, vs, T, _, _, at_, _, data, tb_, _⟩ := fly2
  apply wpAny_handleBy_nil
  unfold PySem.passOn
  apply wpAny_bind
  apply wpAny_field at_ data tb_
  have last : wpAny (model X.prog X.w) X.A (setFlight (.ref a) X.env.frame) (fun _ s' => wpAny (model X.prog X.w) X.A (throw (.ref a) : Sem Flow) (SP X pins D) X.xe s') X.xe s := by
    rw [hf]
    apply HandSPX.setFlight_upZ fly
    intro h held u
    apply wpAny_throw
    apply tk
    exact ⟨a, B, s₀, pins, σ, H, cls, d, rfl, g2, g3, Heap.UpToSlots.trans g4 u, Or.inr (Or.inr (hs ▸ held)), ca.own, g5, ca.bare, w⟩
  have some_ : ¬ ((Value.ref T == Value.none) = true) := by simp
  rw [if_neg some_]
  first
    | exact wpAny_bind last
    | exact wpAny_bind (wpAny_pure (wpAny_bind last))
/-- the class that a clause names is told -/
theorem Names.told (hc : Names X x c) {a : Addr} {q : Addr × Obj} {pn : List (Addr × Obj)} {σ : L2.St} {H : Hp} {s : Shared} (I : Inv (X.suite a (q :: pn)) [] σ H s) {Q E : Value → Shared → Prop} (k : Q c s) : wpAny (model X.prog X.w) (X.A.mark (some (.ref a))) (eval (.Name x np) X.env) Q E s := by
  obtain ⟨g, nd, m | ⟨m, b, nn⟩⟩ := hc
  · exact ld_glob (X := X.suite a (q :: pn)) I g m k nd
  · exact ld_blt (X := X.suite a (q :: pn)) I g m b k nn nd
/-- whether it is of the class -/
theorem Came.test {pins : List (Addr × Obj)} {a : Addr} {cls : Value} {d : Option Addr} {σ : L2.St} {H : Hp} {s : Shared} (ca : Came X pins a cls d σ H s) {b : Bool} (e : PySem.W.exmOne X.K cls c = some b) : PySem.W.Looks (model X.prog X.w) s.heap (excMatches (.ref a) c) b := by
  obtain ⟨B, _, fly, _⟩ := ca.way
  obtain ⟨oe, _, at_, kind, _⟩ := HandSPX.FlyingZ.there fly
  refine PySem.W.exm_one ca.inv.kIn (fun A Q E s' keep q => ?_) e
  have at' := keep _ _ at_
  apply wpAny_typeOf_ref at'
  rwa [kind.1]
/-- except x as n: .. -/
theorem heard_as (hf : X.env.frame = some X.env.locals) (hN : X.N.Nodup) (hi : X.N[i]? = some n) (hln : X.env.kindOf n = some .local) (hc : Names X x c) (ok : X.Ok)
    (hsu : ∀ (a : Addr) (oe : Obj) (cls : Value) (d : Option Addr) (pn : List (Addr × Obj)), Zc cls d oe → (∃ vs, oe.data = .fields vs) → PSs (X.suite a ((a, oe) :: pn)) (b₀ :: suite) (ts a cls d)) (r : Heard X hds W) :
    Heard X (.ExceptHandler (some (.Name x np)) (some n) (b₀ :: suite) pos' :: hds) fun D => wAs X.K c i ts (W D) D := by
  intro pins D a cls d σ H s ca ⟨b, eb, yes, no⟩
  obtain ⟨oe, vs, _, _, _, S⟩ := ca.suite hf
  apply wpAny_handleBy_cons
  case hnb => exact fun z => nomatch z
  apply codeAny_handlers_test
  apply Names.told hc S
  apply PySem.W.Looks.here (ca.test eb)
  cases b
  · exact r pins D a cls d σ H s ca (no rfl)
  apply codeAny_handlers_suite_as
  obtain ⟨B, s₀, fly, g2, g3, g4, g5⟩ := ca.way
  apply HandSPX.lands_againZ fly
  intro h fly' u
  have ca' := ca.next g2 g3 g4 g5 fly' u
  obtain ⟨oe', vs', _, data', kind', S'⟩ := ca'.suite hf
  apply store_ok (v := .ref a) S' hN hi (.inl hln) rfl _ (.inr hln)
  intro s5 I5
  have run := (hsu a oe' cls d (X.pn ++ pins) kind' ⟨vs', data'⟩).run [] s5 _ H _ I5 (yes rfl a ca.own)
  refine wpAny_mono run (fun f s6 told => ?_) fun _ _ z => False.elim z
  have clean : ∀ {σ6 : L2.St} {H6 : Hp} {Q : Shared → Prop}, Inv (X.suite a ((a, oe') :: (X.pn ++ pins))) [] σ6 H6 s6 → (∀ s7, Inv X pins (σ6.set i none) H6 s7 → Q s7) → wpAny (model X.prog X.w) X.A (do bindName X.env n .none; unbindBehindTheSuite X.env n pos') (fun _ s7 => Q s7) X.xe s6 :=
    fun I6 k => gone_ok (Inv.unsuite I6 ok) hN hi hln k
  cases f
  case ret u =>
    obtain ⟨v, σ6, H6, I6, rv_, q⟩ := told
    exact clean I6 fun _ I7 => ⟨v, _, H6, I7, rv_, q⟩
  all_goals
    obtain ⟨σ6, H6, I6, q⟩ := told
    exact clean I6 fun _ I7 => ⟨_, H6, I7, q⟩
/-- what becomes of an exception of the body -/
def Caught (X : Cx) (hds : List ExceptHandler) (Q : Flow → Shared → Prop) : Value → Shared → Prop := fun u s' =>
  wpAny (model X.prog X.w) X.A (noteFrame u X.env) (fun _ s1 => wpAny (model X.prog X.w) X.A (setFlight u none) (fun _ s2 => wpAny (model X.prog X.w) X.A (handleBy u X.env hds) Q X.xe s2) X.xe s1) X.xe s'
theorem caught_of {pins : List (Addr × Obj)} {D : Ends} {l : List ExceptHandler} (hs : X.stack = X.env :: X.outer) (hf : X.env.frame = some X.env.locals) (ok : X.Ok) (hh : Heard X l W) : Takes (X.tr (X.pn ++ pins) (Caught X l (SP X pins D))) (W D) := by
  intro u s' came
  obtain ⟨a, B, s₀, pn', σ', H', cls, d, rfl, I', g3, g4, sky, own, g5, ag, w⟩ := came
  have sky' : Sky B (X.env :: X.outer) a (Zc cls d) X.env.locals s'.heap := by
    rw [← hs]
    exact sky
  have fr : X.A.frames = some (X.env :: X.outer) := by rw [ok.frames, hs]
  exact Sky.land Zc.steady fr hf sky' fun h fly u => hh pins D a cls d σ' H' _ ⟨own, ag, B, s₀, fly, Inv.ofTry I' ok, g3, Heap.UpToSlots.trans g4 u, g5⟩ w
/-- a try by its clauses -/
theorem ps_try_heard (hs : X.stack = X.env :: X.outer) (hf : X.env.frame = some X.env.locals)
    (hb : ∀ (W : WX) (pn : List (Addr × Obj)) (xe : Value → Shared → Prop), Takes (X.tr pn xe) W → PassesOwn (model X.prog X.w) X.A X.env xe → PSs (X.tr pn xe) body (tb W))
    (hh : X.Ok → Heard X (h₀ :: hds) W) : PS X (.Try body (h₀ :: hds) [] [] pos) fun D σ H => tb (W D) D σ H := by
  constructor
  intro pins s σ H D I h
  have ok := I.ok
  apply wpAny_Try_except
  have run := (hb (W D) (X.pn ++ pins) (Caught X (h₀ :: hds) (SP X pins D)) (caught_of hs hf ok (hh ok)) PassesOwn.looking).run [] s σ H D (I.toTry _) h
  refine wpAny_mono run (fun f s1 told => ?_) fun _ _ z => z
  cases f
  case next =>
    obtain ⟨σ1, H1, I1, q⟩ := told
    exact wpAny_execs_nil ⟨σ1, H1, Inv.ofTry I1 ok, q⟩
  case ret u =>
    obtain ⟨v, σ1, H1, I1, rv_, q⟩ := told
    exact ⟨v, σ1, H1, Inv.ofTry I1 ok, rv_, q⟩
  all_goals
    obtain ⟨σ1, H1, I1, q⟩ := told
    exact ⟨σ1, H1, Inv.ofTry I1 ok, q⟩
end
end Lf

set_option Elab.async false
set_option linter.all false
set_option maxRecDepth 100000
set_option maxHeartbeats 4000000
/-! max of a tuple of two whole numbers; isinstance of a caught error and a tuple of classes. -/
namespace Lf
open PySem PySem.Spec PyProof.Rows L2
def rMaxT2 (K : PySem.W.Frag) : List V → Hp → VK → Prop := fun xs H Q => ∃ (p : Addr) (i j : Int), xs = [.ref p] ∧ SqT K H p [.int i, .int j] ∧ ∀ m : Int, i ≤ m → j ≤ m → Q (.int m) H
theorem call_maxT2 {X : Cx} (hc : X.calm = true) {k : Nat} (hr : Room k X.A) : CallR X (.builtin "max") (rMaxT2 X.K) := by
  intro pins s σ H xs us Q I r h
  obtain ⟨p, i, j, rfl, hS, q⟩ := h
  obtain ⟨its, rv, ht, _⟩ := I.tuple hS
  rw [Vals.ref1 r]
  have hu := hr.units
  have rd : ∃ as, ReadsAll s.heap its [PyData.int i, PyData.int j] as := by
    cases rv with
    | cons r1 rv =>
      cases rv with
      | cons r2 rv =>
        cases rv
        obtain ⟨t1, rfl⟩ := r1
        obtain ⟨t2, rfl⟩ := r2
        exact ⟨_, .cons (.int i t1) (.cons (.int j t2) .nil)⟩
  obtain ⟨as, rd⟩ := rd
  have al : PySem.W.AlikeAll [PyData.int i, PyData.int j] := by
    refine ⟨fun x hx y hy => ?_, fun x hx => ?_⟩
    · simp only [List.mem_cons, List.not_mem_nil, or_false] at hx hy
      rcases hx with rfl | rfl <;> rcases hy with rfl | rfl <;> rfl
    · simp only [List.mem_cons, List.not_mem_nil, or_false] at hx
      rcases hx with rfl | rfl <;> exact fun z => nomatch z
  refine PySem.W.max_tuple_data (x := .int i) (xs := [.int j]) (as := as) (I.ok.hd hc) ht (by simpa using rd) al (by simp only [PyData.depthAll, PyData.depth]; omega) fun n v h' tk bs hn rr hk => ?_
  have e : PySem.W.maxD (.int i) [PyData.int j] = .int (max i j) := PySem.W.maxD_ints i [j]
  rw [e] at rr
  cases rr with
  | int _ t => exact ⟨.int (max i j), H, I.kept hk, ⟨_, rfl⟩, q _ (by omega) (by omega)⟩
/-- isinstance(e, (C1, ..)), e the error that the suite holds -/
def rIsXT (K : PySem.W.Frag) (D a : Addr) (cls : Value) (d : Option Addr) : List V → Hp → VK → Prop := fun xs H Q => cls = .ref D ∧ (d = none ∨ ∃ (dd : Addr) (fs : List (Str × V)), d = some dd ∧ H dd = some (.xd fs)) ∧
  ∃ (tp : Addr) (cs : List V) (ws : List Value) (b : Bool), xs = [.ref a, .ref tp] ∧ H tp = some (.tup cs) ∧ Paired ClsV cs ws ∧ PySem.W.kitAny K (.ref D) ws = some b ∧ Q (.bl b) H
theorem call_isXT {X : Cx} {a D : Addr} {oe : Obj} {cls : Value} {d : Option Addr} {pn : List (Addr × Obj)} (C : ExcC X.K D) (hz : Zc cls d oe) (hf : ∃ vs, oe.data = .fields vs) : CallR (X.suite a ((a, oe) :: pn)) (.builtin "isinstance") (rIsXT X.K D a cls d) := by
  intro pins s σ H xs us Q I r h
  obtain ⟨ec, hd, tp, cs, ws, b, rfl, hT, hcv, e, q⟩ := h
  obtain ⟨u1, u2, rfl, r1, r2⟩ := vals2 r
  cases (show u2 = Value.ref tp from r2)
  cases (show u1 = Value.ref a from r1)
  obtain ⟨_, its, rv, o, h1, h2, n, h3⟩ := (show ObjOk X.prog X.w H s.heap tp (.tup cs) from I.hok tp _ hT)
  have e3 := ClsV.all hcv rv
  subst e3
  obtain ⟨oc, od0, dt, sl⟩ := o
  simp only at h2 h3
  subst h2 h3
  obtain ⟨hget, _⟩ := I.pin (a, oe) (List.mem_append.mpr (.inl List.mem_cons_self))
  obtain ⟨vs, hv⟩ := hf
  have J : ∃ od, PySem.W.InstAt s.heap a oe D od := by
    rcases hd with hd | ⟨dd, fs, hd, hH⟩
    · exact ⟨none, hget, by rw [hz.1, ec], by unfold PySem.W.notCls; rw [hv] <;> rfl, by rw [hz.2, hd]; trivial⟩
    · have hx : ObjOk X.prog X.w H s.heap dd (.xd fs) := I.hok dd _ hH
      obtain ⟨o, ho⟩ := objOk_get hx
      exact ⟨some o, hget, by rw [hz.1, ec], by unfold PySem.W.notCls; rw [hv] <;> rfl, by rw [hz.2, hd]; exact ho⟩
  obtain ⟨od, J⟩ := J
  exact PySem.W.kia_tup (kit_own (od := od) C) I.kIn J h1 e (fun z => nomatch z) fun tk => ⟨.bl b, H, I.kept (t' := tk) fun _ _ z => z, rfl, q⟩
end Lf

set_option Elab.async false
set_option linter.all false
set_option maxRecDepth 100000
set_option maxHeartbeats 4000000
/-! isinstance of a caught error, the part K given. -/
namespace Lf
open PySem PySem.Spec PyProof.Rows L2
theorem call_isXK {X : Cx} {K : PySem.W.Frag} {a D : Addr} {oe : Obj} {cls : Value} {d : Option Addr} {pn : List (Addr × Obj)} (C : ExcC K D) (hz : Zc cls d oe) (hf : ∃ vs, oe.data = .fields vs) (hK : X.K = K := by rfl) : CallR (X.suite a ((a, oe) :: pn)) (.builtin "isinstance") (rIsX K D a cls d) := by
  subst hK
  exact call_isX C hz hf
theorem call_isXTK {X : Cx} {K : PySem.W.Frag} {a D : Addr} {oe : Obj} {cls : Value} {d : Option Addr} {pn : List (Addr × Obj)} (C : ExcC K D) (hz : Zc cls d oe) (hf : ∃ vs, oe.data = .fields vs) (hK : X.K = K := by rfl) : CallR (X.suite a ((a, oe) :: pn)) (.builtin "isinstance") (rIsXT K D a cls d) := by
  subst hK
  exact call_isXT C hz hf
end Lf

set_option Elab.async false
set_option linter.all false
set_option maxRecDepth 100000
set_option maxHeartbeats 4000000
/-! A caught error that is handed to a def: the def stands while the error is held; what is known of the error is told at the reading. -/
namespace Lf
open PySem PySem.Spec PyProof.Rows L2
open L2H (RoomH PinOk cxH inv_startH)
section
variable {P : Program} {w : World} {K : PySem.W.Frag} {mg : Str → Option Value} {base : Heap} {k : Nat} {f : Addr} {fd : FuncData} {ps : List Str} {sp : Addr × Obj → Sp}
/-- a def's promise where an error is held -/
structure FnL (P : Program) (w : World) (K : PySem.W.Frag) (mg : Str → Option Value) (base : Heap) (k : Nat) (f : Addr) (fd : FuncData) (ps : List Str) (sp : Addr × Obj → Sp) : Prop where
  size : ∀ p vs H Q E, sp p vs H Q E → vs.length = ps.length
  goes : ∀ (p : Addr × Obj) (B : Around) (out : List Env) (s : Shared) (H : Hp) (ar : Args) (us : List Value) (vs : List V) (Q : VK) (E : XK),
    RoomH k B → B.guards = some [] → PinOk out H s p → Env0 P w K mg base B out s H → BindsTo s fd ar (ps.zip us) → Vals vs us → sp p vs H Q E →
      codeAny (model P w) B (.call (.ref f) ar) (CR CX0 out P w H s Q E) s
theorem Lfun {x qual : Str} {st : Stmt} {N : List Str} (F : Fun K x qual st f fd) (S : FnScope N ps (defScope st)) (size : ∀ p vs H Q E, sp p vs H Q E → vs.length = ps.length)
    (body : ∀ (cdv : Value) (B : Around) (out : List Env) (s : Shared) (H : Hp) (vs : List V) (Q : VK) (E : XK) (p : Addr × Obj), B.guards = some [] →
      RoomH k (B.deeper (envOfC qual (defScope st) s.heap.objs.size f cdv)) → sp p vs H Q E →
      ∃ t, PSs (cxH CX0 P w K mg base N qual (defScope st) f cdv B out s H E p) (defBody st) t ∧
        t { nx := fun _ H' => Q .non H', rt := Q } (start N vs) H) : FnL P w K mg base (k + 1) f fd ps sp := by
  obtain ⟨oc, od, kV, doc, pm, an, cdv, ct, osl, rfl, lk, hcd⟩ := F.ex
  refine ⟨size, fun p B out s H ar us vs Q E hr hg hp e0 hb r hs => ?_⟩
  have old : ∀ b o, base.get? b = some o → s.heap.get? b = some o := fun b o e => (e0.bs b o e).1
  have kin : K.In s.heap := e0.mod.kin.keeps old
  refine codeAny_call_function hr.depth (kin _ _ lk) rfl S.co S.gen rfl (PySem.W.codeRec_of kin hcd) (hb _ _ _ _ ?_)
  refine wpAny_newFunctionEnv_cells S.kind (fun ⟨n, v⟩ hy => ?_) fun env he s1 x => ?_
  · rcases S.par n (List.of_mem_zip hy).1 with q | q
    · exact Or.inl q
    · exact Or.inr ⟨q, PySem.W.cellsFrom_some _ _ _ (Or.inl q)⟩
  · subst he
    refine ⟨(e0.mod.nolimit.keeps old).keeps x.toInCall.keep, codeAny_func ?_⟩
    obtain ⟨t, ht, hq⟩ := body cdv B out s H vs Q E p hg (hr.deeper _) hs
    have I := inv_startH (CX := CX0) (N := N) (qual := qual) (cd := cdv) (E := E) S hp e0 (size _ _ _ _ _ hs) r x
    refine wpAny_mono (ht.run [] s1 (start N vs) H _ I hq) (fun fl s' hs' => ?_) fun e s' z => z
    cases fl with
    | ret u =>
      obtain ⟨v, σ', H', J, rv, q⟩ := hs'
      exact ⟨v, H', J.os, J.bare, J.base, J.hok, rv, q⟩
    | next =>
      obtain ⟨σ', H', J, q⟩ := hs'
      exact ⟨V.non, H', J.os, J.bare, J.base, J.hok, rfl, q⟩
    | brk =>
      obtain ⟨_, _, _, q⟩ := hs'
      exact q.elim
    | cont =>
      obtain ⟨_, _, _, q⟩ := hs'
      exact q.elim
/-- a def of the module's name x -/
structure CalL (P : Program) (w : World) (K : PySem.W.Frag) (mg : Str → Option Value) (base : Heap) (k : Nat) (x : Str) (ps : List Str) (sp : Addr × Obj → Sp) : Prop where
  ex : ∃ (f : Addr) (fd : FuncData), FnL P w K mg base k f fd ps sp ∧ (∀ (s : Shared) (us : List Value), us.length = ps.length → BindsTo s fd ⟨us, []⟩ (ps.zip us)) ∧ mg x = some (.ref f) ∧ PySem.W.keepIn K (.ref f) = true
end
section
variable {X : Cx} {K : PySem.W.Frag} {k : Nat} {f : Addr} {fd : FuncData} {ps : List Str} {sp : Addr × Obj → Sp} {x : Str} {pos q : Pos} {e : Expr} {es : List Expr} {t : TA} {p : Addr × Obj}
theorem pin_ok {pins : List (Addr × Obj)} {σ : L2.St} {H : Hp} {s : Shared} (I : Inv X pins σ H s) (hp : p ∈ X.pn) : PinOk X.stack H s p := by
  obtain ⟨h1, h2, h3, h4, h5⟩ := I.pin p (List.mem_append.mpr (.inl hp))
  refine ⟨h1, h2, fun z => ?_, h5⟩
  rcases I.ok.stk with e | ⟨e, fr⟩
  · rw [e] at z
    exact h4 z
  · rw [e] at z
    obtain ⟨en, he, ef⟩ := List.mem_filterMap.mp z
    rcases List.mem_cons.mp he with rfl | he
    · rw [fr] at ef
      exact h3 (Option.some.inj ef).symm
    · exact h4 (List.mem_filterMap.mpr ⟨en, he, ef⟩)
/-- room where an error is held -/
theorem hot {A : Around} {v : Option Value} {j k : Nat} (h : Room k A) (hj : j ≤ k) : RoomH j (A.mark v) := let r := (L2H.roomH_of h).mono hj; ⟨r.dp, r.un⟩
/-- f(e, ..) while the error is held -/
def tGL (p : Addr × Obj) (sp : Addr × Obj → Sp) (t : TA) : TE := fun σ H Q => t σ H fun vs H1 => sp p vs H1 Q E0
theorem pe_lend (hp : p ∈ X.pn) (C : CalL X.prog X.w X.K X.mg X.base k x ps sp) (hr : RoomH k X.A) (hG : X.A.guards = some []) (ha : PA X (e :: es) t) (hg : Gl X x := by rfl)
    (hdb : (x == ("__debug__" : Str)) = false := by decide) (he : starEach (e :: es) X.env = (false, eval e X.env) :: starEach es X.env := by rfl)
    (hpl : (backTo pos (starEach es X.env)).any (·.1) = false := by rfl) : PE X (.Call (.Name x q) (e :: es) [] pos) (tGL p sp t) := by
  obtain ⟨f, fd, F, hb, hm, hk⟩ := C.ex
  refine ⟨fun pins s σ H Q I h => wpAny_Call_Name_kw (ld_glob I hg hm (PySem.W.callWith_K (h₀ := X.base) I.ok.mod.kin hk
    (thn (ha.run pos pins s σ H _ I h) fun us s1 ⟨vs, H1, I1, r, q⟩ => ⟨I1.kIn, ?_⟩) he hpl) hdb)⟩
  refine wpAny_call (codeAny_mono (F.goes p X.A X.stack s1 H1 ⟨us, []⟩ us vs _ E0 hr hG (pin_ok I1 hp) I1.env0 (hb s1 us (r.length.symm.trans (F.size _ _ _ _ _ q))) r q) fun z s' hq => ?_)
  cases z with
  | error e => exact hq.elim
  | ok fl =>
    cases fl with
    | ret u => exact I1.after hq
    | next => exact False.elim hq
    | brk => exact False.elim hq
    | cont => exact False.elim hq
/-- what is known of a held error: its class, its fields -/
def Er (H : Hp) (p : Addr × Obj) (D : Addr) (fs : Option (List (Str × V))) : Prop := p.2.cls = .ref D ∧ (∃ vs, p.2.data = .fields vs) ∧ match fs with
  | none => p.2.dict = none
  | some l => ∃ dd, p.2.dict = some dd ∧ H dd = some (.xd l)
theorem Er.same {H H' : Hp} {D : Addr} {fs : Option (List (Str × V))} (s : Same H H') (h : Er H p D fs) : Er H' p D fs := by
  obtain ⟨h2, h3, h4⟩ := h
  refine ⟨h2, h3, ?_⟩
  cases fs with
  | none => exact h4
  | some l =>
    obtain ⟨dd, e1, e2⟩ := h4
    exact ⟨dd, e1, s _ _ e2⟩
/-- as it is caught -/
theorem er_of {H : Hp} {a D : Addr} {oe : Obj} {cls : Value} {d : Option Addr} {fs : Option (List (Str × V))} (hz : Zc cls d oe) (hf : ∃ vs, oe.data = .fields vs) (ec : cls = .ref D) (e : match fs with | none => d = none | some l => ∃ dd, d = some dd ∧ H dd = some (.xd l)) : Er H (a, oe) D fs := by
  refine ⟨by rw [hz.1, ec], hf, ?_⟩
  cases fs with
  | none => exact hz.2.trans e
  | some l =>
    obtain ⟨dd, e1, e2⟩ := e
    exact ⟨dd, hz.2.trans e1, e2⟩
theorem Er.inst {pins : List (Addr × Obj)} {σ : L2.St} {H : Hp} {s : Shared} {D : Addr} {fs : Option (List (Str × V))} (e : Er H p D fs) (I : Inv X pins σ H s) (hp : p ∈ X.pn) : ∃ od, PySem.W.InstAt s.heap p.1 p.2 D od := by
  obtain ⟨h2, ⟨vs, h3⟩, h4⟩ := e
  obtain ⟨hget, _⟩ := I.pin p (List.mem_append.mpr (.inl hp))
  cases fs with
  | none => exact ⟨none, hget, h2, by unfold PySem.W.notCls; rw [h3] <;> rfl, by rw [h4]; trivial⟩
  | some l =>
    obtain ⟨dd, e1, e2⟩ := h4
    obtain ⟨o, ho⟩ := objOk_get (I.hok dd _ e2)
    exact ⟨some o, hget, h2, by unfold PySem.W.notCls; rw [h3] <;> rfl, by rw [e1]; exact ho⟩
/-- isinstance(e, c), e held -/
def rIsE (K : PySem.W.Frag) (p : Addr × Obj) : List V → Hp → VK → Prop := fun xs H Q => ∃ (D : Addr) (fs : Option (List (Str × V))) (c : V) (cv : Value) (b : Bool), xs = [.ref p.1, c] ∧ Er H p D fs ∧ ExcC K D ∧ (∀ u, RelV c u → u = cv) ∧ PySem.W.kitOne K (.ref D) cv = some b ∧ Q (.bl b) H
theorem call_isE (hp : p ∈ X.pn) (hK : X.K = K := by rfl) : CallR X (.builtin "isinstance") (rIsE K p) := by
  subst hK
  intro pins s σ H xs us Q I r h
  obtain ⟨D, fs, c, cv, b, rfl, er, C, hcv, e, q⟩ := h
  cases r with
  | cons rx rr =>
    cases rr with
    | cons rt rr =>
      cases rr
      cases rx
      have ecv := hcv _ rt
      subst ecv
      obtain ⟨od, J⟩ := er.inst I hp
      exact PySem.W.kia_one (kit_own (od := od) C) I.kIn J e (fun z => nomatch z) fun tk => ⟨.bl b, H, I.kept (t' := tk) fun _ _ z => z, rfl, q⟩
/-- isinstance(e, (c1, ..)), e held -/
def rIsET (K : PySem.W.Frag) (p : Addr × Obj) : List V → Hp → VK → Prop := fun xs H Q => ∃ (D tp : Addr) (fs : Option (List (Str × V))) (cs : List V) (ws : List Value) (b : Bool), xs = [.ref p.1, .ref tp] ∧ Er H p D fs ∧ ExcC K D ∧ H tp = some (.tup cs) ∧ Paired ClsV cs ws ∧ PySem.W.kitAny K (.ref D) ws = some b ∧ Q (.bl b) H
theorem call_isET (hp : p ∈ X.pn) (hK : X.K = K := by rfl) : CallR X (.builtin "isinstance") (rIsET K p) := by
  subst hK
  intro pins s σ H xs us Q I r h
  obtain ⟨D, tp, fs, cs, ws, b, rfl, er, C, hT, hcv, e, q⟩ := h
  obtain ⟨u1, u2, rfl, r1, r2⟩ := vals2 r
  cases (show u2 = Value.ref tp from r2)
  cases (show u1 = Value.ref p.1 from r1)
  obtain ⟨_, its, rv, o, h1, h2, n, h3⟩ := (show ObjOk X.prog X.w H s.heap tp (.tup cs) from I.hok tp _ hT)
  have e3 := ClsV.all hcv rv
  subst e3
  obtain ⟨oc, od0, dt, sl⟩ := o
  simp only at h2 h3
  subst h2 h3
  obtain ⟨od, J⟩ := er.inst I hp
  exact PySem.W.kia_tup (kit_own (od := od) C) I.kIn J h1 e (fun z => nomatch z) fun tk => ⟨.bl b, H, I.kept (t' := tk) fun _ _ z => z, rfl, q⟩
/-- e.n, e held -/
def tXfE (K : PySem.W.Frag) (p : Addr × Obj) (n : Str) (te : TE) : TE := fun σ H Q => te σ H fun x H1 => ∃ (D : Addr) (l : List (Str × V)) (v : V), x = .ref p.1 ∧ Er H1 p D (some l) ∧ XfC K D ∧ PySem.W.findIn K (.ref D) n = some none ∧ l.lookup n = some v ∧ Q v H1
theorem pe_xfE {e : Expr} {te : TE} {pos : Pos} {n : Str} (hp : p ∈ X.pn) (h : PE X e te) (hb : attributeBase e n X.env (eval e X.env) = eval e X.env := by rfl) (hK : X.K = K := by rfl) : PE X (.Attribute e n pos) (tXfE K p n te) := by
  subst hK
  refine ⟨fun pins s σ H Q I hw => attr_of hb (thn (h.run pins s σ H _ I hw) fun u s1 ⟨x, H1, I1, r, D, l, v, ex, er, T, no, lk, q⟩ => ?_)⟩
  subst ex
  cases (show u = Value.ref p.1 from r)
  obtain ⟨h2, ⟨vs, h3⟩, dd, e1, e2⟩ := er
  obtain ⟨hget, _⟩ := I1.pin p (List.mem_append.mpr (.inl hp))
  obtain ⟨m, hns, hm⟩ := (show ObjOk X.prog X.w H1 s1.heap dd (.xd l) from I1.hok dd _ e2)
  obtain ⟨od, ho, look⟩ := lookIn_ns hns
  have rl := hm n
  rw [lk] at rl
  obtain ⟨uv, ev, rv⟩ := RelO.some_of rl
  refine PySem.HandSPX.exc_get (gt := none) I1.kIn (⟨hget, h2, by unfold PySem.W.notCls; rw [h3] <;> rfl, by rw [e1]; exact ho⟩ : PySem.W.InstAt s1.heap p.1 p.2 D (some od)) T.ga T.gg T.exC (PySem.W.findObj_own T.hdC no rfl (by rw [look, ev])) (handed_of rv) ⟨v, H1, I1.tok _, rv, q⟩
end
/-- what a clause with a name does; the error's object is told at the reading -/
def wAsO (K : PySem.W.Frag) (c : Value) (i : Nat) (ts : Addr → Obj → Value → Option Addr → TS) (Wout : WX) (D : Ends) : WX := fun cls d σ H => ∃ b, PySem.W.exmOne K cls c = some b ∧
  (b = true → ∀ a oe, Zc cls d oe → (∃ vs, oe.data = .fields vs) → H a = none → ts a oe cls d { nx := fun σ2 H2 => D.nx (σ2.set i none) H2, rt := D.rt, bk := fun σ2 H2 => D.bk (σ2.set i none) H2, ct := fun σ2 H2 => D.ct (σ2.set i none) H2 } (σ.set i (some (.ref a))) H) ∧ (b = false → Wout cls d σ H)
section
variable {X : Cx} {x n : Str} {c : Value} {i : Nat} {body suite : List Stmt} {b₀ : Stmt} {np pos pos' : Pos} {tb : WX → TS} {W : Ends → WX} {Wout : WX} {hds : List ExceptHandler} {h₀ : ExceptHandler}
/-- except x as n: .., the error told as an object -/
theorem heard_asO {ts : Addr → Obj → Value → Option Addr → TS} (hf : X.env.frame = some X.env.locals) (hN : X.N.Nodup) (hi : X.N[i]? = some n) (hln : X.env.kindOf n = some .local) (hc : Names X x c) (ok : X.Ok)
    (hsu : ∀ (a : Addr) (oe : Obj) (cls : Value) (d : Option Addr) (pn : List (Addr × Obj)), Zc cls d oe → (∃ vs, oe.data = .fields vs) → PSs (X.suite a ((a, oe) :: pn)) (b₀ :: suite) (ts a oe cls d)) (r : Heard X hds W) :
    Heard X (.ExceptHandler (some (.Name x np)) (some n) (b₀ :: suite) pos' :: hds) fun D => wAsO X.K c i ts (W D) D := by
  intro pins D a cls d σ H s ca ⟨b, eb, yes, no⟩
  obtain ⟨oe, vs, _, _, _, S⟩ := ca.suite hf
  apply wpAny_handleBy_cons
  case hnb => exact fun z => nomatch z
  apply codeAny_handlers_test
  apply Names.told hc S
  apply PySem.W.Looks.here (ca.test eb)
  cases b
  · exact r pins D a cls d σ H s ca (no rfl)
  apply codeAny_handlers_suite_as
  obtain ⟨B, s₀, fly, g2, g3, g4, g5⟩ := ca.way
  apply HandSPX.lands_againZ fly
  intro h fly' u
  have ca' := ca.next g2 g3 g4 g5 fly' u
  obtain ⟨oe', vs', _, data', kind', S'⟩ := ca'.suite hf
  apply store_ok (v := .ref a) S' hN hi (.inl hln) rfl _ (.inr hln)
  intro s5 I5
  have run := (hsu a oe' cls d (X.pn ++ pins) kind' ⟨vs', data'⟩).run [] s5 _ H _ I5 (yes rfl a oe' kind' ⟨vs', data'⟩ ca.own)
  refine wpAny_mono run (fun f s6 told => ?_) fun _ _ z => False.elim z
  have clean : ∀ {σ6 : L2.St} {H6 : Hp} {Q : Shared → Prop}, Inv (X.suite a ((a, oe') :: (X.pn ++ pins))) [] σ6 H6 s6 → (∀ s7, Inv X pins (σ6.set i none) H6 s7 → Q s7) → wpAny (model X.prog X.w) X.A (do bindName X.env n .none; unbindBehindTheSuite X.env n pos') (fun _ s7 => Q s7) X.xe s6 :=
    fun I6 k => gone_ok (Inv.unsuite I6 ok) hN hi hln k
  cases f
  case ret u =>
    obtain ⟨v, σ6, H6, I6, rv_, q⟩ := told
    exact clean I6 fun _ I7 => ⟨v, _, H6, I7, rv_, q⟩
  all_goals
    obtain ⟨σ6, H6, I6, q⟩ := told
    exact clean I6 fun _ I7 => ⟨_, H6, I7, q⟩
/-- a method of a built-in type, the part K given -/
theorem pe_bmK {X : Cx} {K : PySem.W.Frag} {e : Expr} {to : TE} {t : TA} {T : String} {r : V → List V → Hp → VK → Prop} (h : PE X e (tBM X.K T r to t)) (hK : X.K = K := by rfl) : PE X e (tBM K T r to t) := hK ▸ h
end
end Lf

set_option Elab.async false
set_option linter.all false
set_option maxRecDepth 100000
set_option maxHeartbeats 4000000
set_option exponentiation.threshold 3000
namespace Lf
open PySem PySem.Spec PyProof.Rows L2
open NdefX

/-! ### NoStuff.__init__ -/
theorem scx_NoStuff : NScope ["self", "field", "__class__"] ["self", "field"] ["__class__"] (defScope sx_NoStuff) := nscope_by (by decide +kernel)
theorem okx_NoStuff {P : Program} {w : World} {K : PySem.W.Frag} {mg : Str → Option Value} {base : Heap} {D f cc cda : Addr} {fd : FuncData} (T : XTn P K mg "NoStuff" "NoStuff.__init__" ["field"] sx_NoStuff D f fd cc cda) : FnOk P w K mg base CX0 1 f fd ["self", "field"] (sp_xt D "field") := by
  refine xok T.F T.T T.sup scx_NoStuff (fun vs H Q E h => ?_) rfl rfl rfl rfl rfl (fun L => ⟨_, rfl⟩) (fun L => rfl) (fun L => rfl) (fun L => rfl) (fun A outer s H vs Q E hr h => ?_)
  · obtain ⟨a, x, rfl, _⟩ := h
    rfl
  · obtain ⟨a, x, rfl, hx, ha, k⟩ := h
    refine ⟨_, _, pa_cons (pe_joined (PJ.cons pe_str (PJ.cons (pe_fmt (pv 1)) PJ.nil))) pa_nil, pss_one (ps_ost (pv 0) (pv 1)), a, rfl, ha, ?_⟩
    refine ⟨_, rfl, ?_, _, rfl, .inl ⟨x, rfl, Nat.le_trans hx (by decide), x, rfl, ?_, ?_⟩⟩
    · decide +kernel
    · refine Nat.le_trans (Nat.le_of_eq (PySem.Str.length_append _ _)) ?_
      exact Nat.le_trans (Nat.add_le_add (show Str.length (Str.empty ++ Str.ofString "no stuff has such a ") ≤ 1000 by decide +kernel) hx) (by decide +kernel)
    · exact ⟨by show 1 ≤ 1000; decide, ha, _, rfl, _, rfl, a, D, rfl, T.T, T.no _ (by simp), .inl ⟨ha, fun dx n1 n2 => k dx n1 n2⟩⟩
/-! ### NoName.__init__ -/
theorem scx_NoName : NScope ["self", "who", "__class__"] ["self", "who"] ["__class__"] (defScope sx_NoName) := nscope_by (by decide +kernel)
theorem okx_NoName {P : Program} {w : World} {K : PySem.W.Frag} {mg : Str → Option Value} {base : Heap} {D f cc cda : Addr} {fd : FuncData} (T : XTn P K mg "NoName" "NoName.__init__" ["who"] sx_NoName D f fd cc cda) : FnOk P w K mg base CX0 1 f fd ["self", "who"] (sp_x1 D "who") := by
  refine xok T.F T.T T.sup scx_NoName (fun vs H Q E h => ?_) rfl rfl rfl rfl rfl (fun L => ⟨_, rfl⟩) (fun L => rfl) (fun L => rfl) (fun L => rfl) (fun A outer s H vs Q E hr h => ?_)
  · obtain ⟨a, v, rfl, _⟩ := h
    rfl
  · obtain ⟨a, v, rfl, ha, k⟩ := h
    refine ⟨_, _, pa_cons pe_str pa_nil, pss_one (ps_ost (pv 0) (pv 1)), a, rfl, ha, ?_⟩
    exact ⟨by show 1 ≤ 1000; decide, ha, _, rfl, _, rfl, a, D, rfl, T.T, T.no _ (by simp), .inl ⟨ha, fun dx n1 n2 => k dx n1 n2⟩⟩
section
variable {P : Program} {w : World} {K : PySem.W.Frag} {mg : Str → Option Value} {base : Heap} {c0 c1 cw : Addr}
theorem StO.same {H H' : Hp} {C x : Addr} {vn : V} {dn : PyData} {ds : List PyData} (s : Same H H') (h : StO K H C x vn dn ds) : StO K H' C x vn dn ds := by
  obtain ⟨dx, pm, xs, h1, h2, h3, h4⟩ := h
  exact ⟨dx, pm, xs, s _ _ h1, h2.same s, sm_t s h3, DqAll.same s h4⟩
theorem inV_str (z : Str) : ∀ ts : List Str, inV (.str z) (ts.map V.str) = decide (z ∈ ts)
  | [] => by simp [inV]
  | t :: ts => by
    have ih := inV_str z ts
    unfold inV at ih ⊢
    rw [List.map_cons, List.any_cons, ih]
    show ((t == z) || _) = _
    by_cases h : t = z
    · subst h
      simp
    · have h' : ¬ z = t := fun q => h q.symm
      simp [h, h']
theorem flat_str (ts : List Str) : (ts.map V.str).all flatV = true := by
  rw [List.all_eq_true]
  intro v hv
  obtain ⟨t, _, rfl⟩ := List.mem_map.mp hv
  rfl
/-- whether a thing is one of some texts -/
def inTx (d : PyData) (ts : List Str) : Bool := match d with
  | .str z => decide (z ∈ ts)
  | _ => false

/-! ### is_one_of -/
theorem sc_is_one_of : FnScope ["thing", "names"] ["thing", "names"] (defScope s_is_one_of) := ⟨rfl, rfl, rfl, by decide +kernel, rfl, by decide +kernel, by decide +kernel⟩
def sp_ioT (K : PySem.W.Frag) : Sp := fun vs H Q _ => ∃ (v : V) (d : PyData) (p : Addr) (ts : List Str), vs = [v, .ref p] ∧ Dq K H v d ∧ SqT K H p (ts.map V.str) ∧ Q (.bl (inTx d ts)) H
theorem ok_ioT {f : Addr} {fd : FuncData} (M : Blt mg) (Mx : Bltx mg) (F : Fun K "is_one_of" "is_one_of" s_is_one_of f fd) : FnG P w K mg base CX0 1 f fd ["thing", "names"] (sp_ioT K) := by
  refine Gfun F sc_is_one_of (fun vs H Q E h => ?_) (fun cdv A outer s H vs Q E hg hr h => ?_)
  · obtain ⟨v, d, p, ts, rfl, _⟩ := h
    rfl
  · obtain ⟨v, d, p, ts, rfl, hv, hp, k⟩ := h
    refine ⟨_, (pss_one (ps_ret (pe_and (pe_callB call_isi rfl Mx.isinstance bt_isinstance (pa_cons (pv 0) (pa_cons (pe_bltn (v := .ty "str") rfl M.str bt_str rfl) pa_nil))) (pe_one (pe_cmpR op_in_seq (pv 0) (pv 1) rfl))))), ?_⟩
    refine ⟨_, rfl, _, _, _, _, _, rfl, .ty _, hv.ty, kit_ty (ks d), _, rfl, ite2 (fun c => ?_) (fun c => ?_)⟩
    · obtain ⟨z, rfl, rfl⟩ := hv.txt c
      refine ⟨_, rfl, _, rfl, p, _, rfl, .inr hp, rfl, flat_str ts, ?_⟩
      rw [inV_str]
      exact k
    · have : inTx d ts = false := by
        cases d <;> first | rfl | exact absurd rfl c
      rw [this] at k
      exact k

/-! ### Stuff.measure -/
theorem sc_measure : FnScope ["self", "word"] ["self", "word"] (defScope s_measure) := ⟨rfl, rfl, rfl, by decide +kernel, rfl, by decide +kernel, by decide +kernel⟩
/-- the tuple of the words -/
structure Cw (K : PySem.W.Frag) (mg : Str → Option Value) (cw : Addr) : Prop where
  gw : mg "WORDS" = some (.ref cw)
  tw : ∀ H, SqT K H cw (words.map V.str)
  kw : ∃ o, K.lookup cw = some o ∧ o.cls = .type "tuple" ∧ o.dict = none
structure StG (K : PySem.W.Frag) (C : Addr) : Prop where
  c : Cls K C
  n1 : NoAttr K C "own_name"
  n2 : NoAttr K C "measures"
theorem dq_at {H : Hp} : ∀ {vs : List V} {ds : List PyData} {i : Nat} {d : PyData}, DqAll K H vs ds → ds[i]? = some d → ∃ v, vs[i]? = some v ∧ Dq K H v d
  | _, _, _, _, .nil, e => by simp at e
  | _, _, 0, _, .cons a _, e => by
    simp at e
    subst e
    exact ⟨_, rfl, a⟩
  | _, _, i + 1, d, .cons _ r, e => by
    simp at e
    obtain ⟨v, h1, h2⟩ := dq_at r e
    exact ⟨v, by simpa using h1, h2⟩
/-- a measure, or refused with the thing handed in -/
def sp_mesX (K : PySem.W.Frag) (C D : Addr) : Sp := fun vs H Q E => ∃ (x : Addr) (v vn : V) (dn y : PyData) (ds : List PyData), vs = [.ref x, v] ∧ StO K H C x vn dn ds ∧ Dq K H v y ∧
  ((∃ (i : Nat) (wd : Str) (d : PyData), y = .str wd ∧ words[i]? = some wd ∧ ds[i]? = some d ∧ ∀ u, Dq K H u d → Q u H) ∨ (inTx y words = false ∧ ∀ H' dx, Same H H' → H dx = none → H' dx = some (.xd [("who", v)]) → E (.ref D) (some dx) H'))
theorem ok_mesX {C f : Addr} {fd : FuncData} {DNoName fNoName ccNoName cdNoName : Addr} {fdNoName : FuncData} (TN : XTn P K mg "NoName" "NoName.__init__" ["who"] sx_NoName DNoName fNoName fdNoName ccNoName cdNoName) (G : StG K C) (T : Cw K mg cw) (F : Fun K "measure" "Stuff.measure" s_measure f fd) (C_is_one_of : Cal P w K mg base CX0 1 "is_one_of" ["thing", "names"] (sp_ioT K)) : FnG P w K mg base (L2.CX P w) 3 f fd ["self", "word"] (sp_mesX K C DNoName) := by
  refine GfunX F sc_measure (fun vs H Q E h => ?_) (fun cdv A outer s H vs Q E hg hr h => ?_)
  · obtain ⟨x, v, vn, dn, y, ds, rfl, _⟩ := h
    rfl
  · obtain ⟨x, v, vn, dn, y, ds, rfl, ⟨dx, pm, xs, h1, h2, h3, h4⟩, hv, k⟩ := h
    refine ⟨_, (pss_cons (ps_if (pt_not (pt_val (pe_g C_is_one_of (hr.mono (by decide)) hg (pa_cons (pv 1) (pa_cons (pe_glob (v := .ref cw) rfl T.gw rfl) pa_nil)))))
      (pss_one (ps_raise rfl (takes_of rfl rfl rfl rfl) (pmk_oex TN.T TN.iC TN.tI (okx_NoName TN) (hr.mono (by decide)) TN.b .nil pass0 rfl TN.g (pa_cons (pv 1) pa_nil))))
      pss_nil)
      (pss_one (ps_ret (pe_ix ix_tup (pe_fld (pv 0) rfl) (pe_bm PySem.F.plainAttrs_tuple PySem.F.slot_tuple_index PySem.F.type_tuple_index mt_tup_index (pe_glob (v := .ref cw) rfl T.gw rfl) (pa_cons (pv 1) pa_nil)) (fun _ _ => rfl))))), ?_⟩
    refine ⟨_, rfl, v, y, cw, words, rfl, hv, T.tw H, _, rfl, ?_⟩
    rcases k with ⟨i, wd, d, rfl, hw, hd, k⟩ | ⟨no, k⟩
    · have hin : wd ∈ words := List.mem_of_getElem? hw
      rw [show inTx (.str wd) words = true from decide_eq_true hin]
      refine iteF ?_
      obtain ⟨z', rfl, ez⟩ := hv.txt rfl
      cases ez
      obtain ⟨u, hu, hat⟩ := dq_at h4 hd
      have uniq : ∀ m, m < i → words[m]? ≠ some wd := by
        have hi5 : i < 5 := (List.getElem?_eq_some_iff.mp hw).1
        have all : ∀ a < 5, ∀ b < a, words[b]? ≠ words[a]? := by decide +kernel
        intro m hm e
        exact all i hi5 m hm (by rw [e, hw])
      refine ⟨_, rfl, x, C, dx, _, _, rfl, h1, G.c, G.n2, rfl, ?_⟩
      refine ⟨.inr (.inl ⟨rfl, T.kw⟩), _, rfl, cw, words, wd, i, rfl, rfl, T.tw H, hw, uniq, ?_⟩
      exact ⟨pm, _, _, u, rfl, rfl, h3, atI_nat hu, k u hat⟩
    · rw [no]
      refine iteT ?_
      refine ⟨_, rfl, by show 1 ≤ 1000; decide, fun a ha => ⟨a, v, rfl, upd_same, fun dy e1 e2 => ⟨rfl, dy, [(("who" : Str), v)], upd_same, ?_, ?_, ?_⟩⟩⟩
      · rw [upd_ne e2, upd_same]
      · rw [upd_ne e2] at e1
        exact e1
      · obtain ⟨r1, r2⟩ := raised (D := DNoName) ha e1 e2
        exact k _ dy r1 r2 upd_same

end
end Lf

set_option Elab.async false
set_option linter.all false
set_option maxRecDepth 100000
set_option maxHeartbeats 4000000
set_option exponentiation.threshold 3000
namespace Lf
open PySem PySem.Spec PyProof.Rows L2

/-- other classes of errors -/
structure Oths (K : PySem.W.Frag) (mg : Str → Option Value) : Type where
  cDry : Addr
  gDry : mg "Dry" = some (.ref cDry)
  cLacking : Addr
  gLacking : mg "Lacking" = some (.ref cLacking)
  cLate : Addr
  gLate : mg "Late" = some (.ref cLate)
  cNoBy : Addr
  gNoBy : mg "NoBy" = some (.ref cNoBy)
  cNoCount : Addr
  gNoCount : mg "NoCount" = some (.ref cNoCount)
  cNoDough : Addr
  gNoDough : mg "NoDough" = some (.ref cNoDough)
  cNoFeel : Addr
  gNoFeel : mg "NoFeel" = some (.ref cNoFeel)
  cNoFlour : Addr
  gNoFlour : mg "NoFlour" = some (.ref cNoFlour)
  cNoHour : Addr
  gNoHour : mg "NoHour" = some (.ref cNoHour)
  cNoOrder : Addr
  gNoOrder : mg "NoOrder" = some (.ref cNoOrder)
  cNoPan : Addr
  gNoPan : mg "NoPan" = some (.ref cNoPan)
  cNoRow : Addr
  gNoRow : mg "NoRow" = some (.ref cNoRow)
  cNoStep : Addr
  gNoStep : mg "NoStep" = some (.ref cNoStep)
  cNoTaken : Addr
  gNoTaken : mg "NoTaken" = some (.ref cNoTaken)
  cNoText : Addr
  gNoText : mg "NoText" = some (.ref cNoText)
  cNoWeight : Addr
  gNoWeight : mg "NoWeight" = some (.ref cNoWeight)
  cNoWeights : Addr
  gNoWeights : mg "NoWeights" = some (.ref cNoWeights)
  cNoWhole : Addr
  gNoWhole : mg "NoWhole" = some (.ref cNoWhole)
  cRing : Addr
  gRing : mg "Ring" = some (.ref cRing)
  cShort : Addr
  gShort : mg "Short" = some (.ref cShort)
  cTooLittle : Addr
  gTooLittle : mg "TooLittle" = some (.ref cTooLittle)
  cTwice : Addr
  gTwice : mg "Twice" = some (.ref cTwice)
  cUneven : Addr
  gUneven : mg "Uneven" = some (.ref cUneven)
  cUnknown : Addr
  gUnknown : mg "Unknown" = some (.ref cUnknown)
/-- an error that is of none of these -/
structure OthD (K : PySem.W.Frag) (mg : Str → Option Value) (T : Oths K mg) (D : Addr) : Prop where
  k0 : PySem.W.kitAny K (.ref D) [.ref T.cDry, .ref T.cLacking, .ref T.cLate, .ref T.cNoBy, .ref T.cNoCount, .ref T.cNoDough, .ref T.cNoFeel, .ref T.cNoFlour, .ref T.cNoHour] = some false
  k1 : PySem.W.kitAny K (.ref D) [.ref T.cNoOrder, .ref T.cNoPan, .ref T.cNoRow, .ref T.cNoStep, .ref T.cNoTaken, .ref T.cNoText, .ref T.cNoWeight, .ref T.cNoWeights] = some false
  k2 : PySem.W.kitAny K (.ref D) [.ref T.cNoWhole, .ref T.cRing, .ref T.cShort, .ref T.cTooLittle] = some false
  k3 : PySem.W.kitAny K (.ref D) [.ref T.cTwice, .ref T.cUneven, .ref T.cUnknown] = some false
section
variable {P : Program} {w : World} {K : PySem.W.Frag} {mg : Str → Option Value} {base : Heap} {c0 c1 cw : Addr}

/-! ### _law_others -/
theorem sc__law_others : FnScope ["_law_e", "_law_found"] ["_law_e"] (defScope s__law_others) := ⟨rfl, rfl, rfl, by decide +kernel, rfl, by decide +kernel, by decide +kernel⟩
def sp_oth (K : PySem.W.Frag) (mg : Str → Option Value) (T : Oths K mg) : Addr × Obj → Sp := fun p vs H Q _ => ∃ (D : Addr) (fs : Option (List (Str × V))), vs = [.ref p.1] ∧ Er H p D fs ∧ ExcC K D ∧ OthD K mg T D ∧ ∀ H' l, Same H H' → H' l = some (.lst [.bl false, .bl false, .bl false, .bl false]) → Q (.ref l) H'
theorem ok_oth {f : Addr} {fd : FuncData} (Mx : Bltx mg) (T : Oths K mg) (F : Fun K "_law_others" "_law_others" s__law_others f fd) : FnL P w K mg base 1 f fd ["_law_e"] (sp_oth K mg T) := by
  refine Lfun F sc__law_others (fun p vs H Q E h => ?_) (fun cdv A outer s H vs Q E p hg hr h => ?_)
  · obtain ⟨D, fs, rfl, _⟩ := h
    rfl
  · obtain ⟨D, fs, rfl, er, ex, O, k⟩ := h
    refine ⟨_, (pss_cons (ps_set (i := 1) sc__law_others.nd rfl (.inl rfl) (pe_lst (pa_cons (pe_callB (call_isET (K := K) (p := p) List.mem_cons_self) rfl Mx.isinstance bt_isinstance (pa_cons (pv 0) (pa_cons (pe_tup (pa_cons (pe_glob (v := .ref T.cDry) rfl T.gDry rfl) (pa_cons (pe_glob (v := .ref T.cLacking) rfl T.gLacking rfl) (pa_cons (pe_glob (v := .ref T.cLate) rfl T.gLate rfl) (pa_cons (pe_glob (v := .ref T.cNoBy) rfl T.gNoBy rfl) (pa_cons (pe_glob (v := .ref T.cNoCount) rfl T.gNoCount rfl) (pa_cons (pe_glob (v := .ref T.cNoDough) rfl T.gNoDough rfl) (pa_cons (pe_glob (v := .ref T.cNoFeel) rfl T.gNoFeel rfl) (pa_cons (pe_glob (v := .ref T.cNoFlour) rfl T.gNoFlour rfl) (pa_cons (pe_glob (v := .ref T.cNoHour) rfl T.gNoHour rfl) pa_nil)))))))))) pa_nil))) pa_nil)))
      (pss_cons (ps_set (i := 1) sc__law_others.nd rfl (.inl rfl) (pe_op op_cat (pv 1) (pe_lst (pa_cons (pe_callB (call_isET (K := K) (p := p) List.mem_cons_self) rfl Mx.isinstance bt_isinstance (pa_cons (pv 0) (pa_cons (pe_tup (pa_cons (pe_glob (v := .ref T.cNoOrder) rfl T.gNoOrder rfl) (pa_cons (pe_glob (v := .ref T.cNoPan) rfl T.gNoPan rfl) (pa_cons (pe_glob (v := .ref T.cNoRow) rfl T.gNoRow rfl) (pa_cons (pe_glob (v := .ref T.cNoStep) rfl T.gNoStep rfl) (pa_cons (pe_glob (v := .ref T.cNoTaken) rfl T.gNoTaken rfl) (pa_cons (pe_glob (v := .ref T.cNoText) rfl T.gNoText rfl) (pa_cons (pe_glob (v := .ref T.cNoWeight) rfl T.gNoWeight rfl) (pa_cons (pe_glob (v := .ref T.cNoWeights) rfl T.gNoWeights rfl) pa_nil))))))))) pa_nil))) pa_nil))))
      (pss_one (ps_ret (pe_op op_cat (pv 1) (pe_lst (pa_cons (pe_callB (call_isET (K := K) (p := p) List.mem_cons_self) rfl Mx.isinstance bt_isinstance (pa_cons (pv 0) (pa_cons (pe_tup (pa_cons (pe_glob (v := .ref T.cNoWhole) rfl T.gNoWhole rfl) (pa_cons (pe_glob (v := .ref T.cRing) rfl T.gRing rfl) (pa_cons (pe_glob (v := .ref T.cShort) rfl T.gShort rfl) (pa_cons (pe_glob (v := .ref T.cTooLittle) rfl T.gTooLittle rfl) pa_nil))))) pa_nil))) (pa_cons (pe_callB (call_isET (K := K) (p := p) List.mem_cons_self) rfl Mx.isinstance bt_isinstance (pa_cons (pv 0) (pa_cons (pe_tup (pa_cons (pe_glob (v := .ref T.cTwice) rfl T.gTwice rfl) (pa_cons (pe_glob (v := .ref T.cUneven) rfl T.gUneven rfl) (pa_cons (pe_glob (v := .ref T.cUnknown) rfl T.gUnknown rfl) pa_nil)))) pa_nil))) pa_nil)))))))), ?_⟩
    refine ⟨_, rfl, len_show (Nat.le_of_ble_eq_true rfl), fun t1 n1 => ?_⟩
    have s1 : Same H (L2.upd H t1 (.tup [.ref T.cDry, .ref T.cLacking, .ref T.cLate, .ref T.cNoBy, .ref T.cNoCount, .ref T.cNoDough, .ref T.cNoFeel, .ref T.cNoFlour, .ref T.cNoHour])) := same_new n1
    have e1 : L2.upd H t1 (.tup [.ref T.cDry, .ref T.cLacking, .ref T.cLate, .ref T.cNoBy, .ref T.cNoCount, .ref T.cNoDough, .ref T.cNoFeel, .ref T.cNoFlour, .ref T.cNoHour]) t1 = some (.tup [.ref T.cDry, .ref T.cLacking, .ref T.cLate, .ref T.cNoBy, .ref T.cNoCount, .ref T.cNoDough, .ref T.cNoFeel, .ref T.cNoFlour, .ref T.cNoHour]) := upd_same
    generalize L2.upd H t1 (.tup [.ref T.cDry, .ref T.cLacking, .ref T.cLate, .ref T.cNoBy, .ref T.cNoCount, .ref T.cNoDough, .ref T.cNoFeel, .ref T.cNoFlour, .ref T.cNoHour]) = H1 at s1 e1 ⊢
    refine ⟨D, t1, fs, _, _, false, rfl, er.same s1, ex, e1, .cons (.own _) (.cons (.own _) (.cons (.own _) (.cons (.own _) (.cons (.own _) (.cons (.own _) (.cons (.own _) (.cons (.own _) (.cons (.own _) (.nil))))))))), O.k0, len_show (Nat.le_of_ble_eq_true rfl), fun l1 nl1 => ?_⟩
    have s2 : Same H1 (L2.upd H1 l1 (.lst [.bl false])) := same_new nl1
    have e2 : L2.upd H1 l1 (.lst [.bl false]) l1 = some (.lst [.bl false]) := upd_same
    generalize L2.upd H1 l1 (.lst [.bl false]) = H2 at s2 e2 ⊢
    have s02 := s1.trans s2
    refine ⟨_, rfl, _, rfl, len_show (Nat.le_of_ble_eq_true rfl), fun t2 n2 => ?_⟩
    have s3 : Same H2 (L2.upd H2 t2 (.tup [.ref T.cNoOrder, .ref T.cNoPan, .ref T.cNoRow, .ref T.cNoStep, .ref T.cNoTaken, .ref T.cNoText, .ref T.cNoWeight, .ref T.cNoWeights])) := same_new n2
    have e3 : L2.upd H2 t2 (.tup [.ref T.cNoOrder, .ref T.cNoPan, .ref T.cNoRow, .ref T.cNoStep, .ref T.cNoTaken, .ref T.cNoText, .ref T.cNoWeight, .ref T.cNoWeights]) t2 = some (.tup [.ref T.cNoOrder, .ref T.cNoPan, .ref T.cNoRow, .ref T.cNoStep, .ref T.cNoTaken, .ref T.cNoText, .ref T.cNoWeight, .ref T.cNoWeights]) := upd_same
    generalize L2.upd H2 t2 (.tup [.ref T.cNoOrder, .ref T.cNoPan, .ref T.cNoRow, .ref T.cNoStep, .ref T.cNoTaken, .ref T.cNoText, .ref T.cNoWeight, .ref T.cNoWeights]) = H3 at s3 e3 ⊢
    have s03 := s02.trans s3
    refine ⟨D, t2, fs, _, _, false, rfl, er.same s03, ex, e3, .cons (.own _) (.cons (.own _) (.cons (.own _) (.cons (.own _) (.cons (.own _) (.cons (.own _) (.cons (.own _) (.cons (.own _) (.nil)))))))), O.k1, len_show (Nat.le_of_ble_eq_true rfl), fun l2 nl2 => ?_⟩
    have s4 : Same H3 (L2.upd H3 l2 (.lst [.bl false])) := same_new nl2
    have e4 : L2.upd H3 l2 (.lst [.bl false]) l2 = some (.lst [.bl false]) := upd_same
    generalize L2.upd H3 l2 (.lst [.bl false]) = H4 at s4 e4 ⊢
    have e24 := s4 _ _ (s3 _ _ e2)
    refine ⟨l1, l2, _, _, rfl, rfl, e24, e4, by rw [sizeLine_eq]; decide, fun l3 nl3 => ?_⟩
    have s5 : Same H4 (L2.upd H4 l3 (.lst ([.bl false] ++ [.bl false]))) := same_new nl3
    have e5 : L2.upd H4 l3 (.lst ([.bl false] ++ [.bl false])) l3 = some (.lst ([.bl false] ++ [.bl false])) := upd_same
    generalize L2.upd H4 l3 (.lst ([.bl false] ++ [.bl false])) = H5 at s5 e5 ⊢
    have s05 := (s03.trans s4).trans s5
    refine ⟨_, rfl, _, rfl, len_show (Nat.le_of_ble_eq_true rfl), fun t3 n3 => ?_⟩
    have s6 : Same H5 (L2.upd H5 t3 (.tup [.ref T.cNoWhole, .ref T.cRing, .ref T.cShort, .ref T.cTooLittle])) := same_new n3
    have e6 : L2.upd H5 t3 (.tup [.ref T.cNoWhole, .ref T.cRing, .ref T.cShort, .ref T.cTooLittle]) t3 = some (.tup [.ref T.cNoWhole, .ref T.cRing, .ref T.cShort, .ref T.cTooLittle]) := upd_same
    generalize L2.upd H5 t3 (.tup [.ref T.cNoWhole, .ref T.cRing, .ref T.cShort, .ref T.cTooLittle]) = H6 at s6 e6 ⊢
    have s06 := s05.trans s6
    refine ⟨D, t3, fs, _, _, false, rfl, er.same s06, ex, e6, .cons (.own _) (.cons (.own _) (.cons (.own _) (.cons (.own _) (.nil)))), O.k2, ?_⟩
    refine ⟨_, rfl, len_show (Nat.le_of_ble_eq_true rfl), fun t4 n4 => ?_⟩
    have s7 : Same H6 (L2.upd H6 t4 (.tup [.ref T.cTwice, .ref T.cUneven, .ref T.cUnknown])) := same_new n4
    have e7 : L2.upd H6 t4 (.tup [.ref T.cTwice, .ref T.cUneven, .ref T.cUnknown]) t4 = some (.tup [.ref T.cTwice, .ref T.cUneven, .ref T.cUnknown]) := upd_same
    generalize L2.upd H6 t4 (.tup [.ref T.cTwice, .ref T.cUneven, .ref T.cUnknown]) = H7 at s7 e7 ⊢
    have s07 := s06.trans s7
    refine ⟨D, t4, fs, _, _, false, rfl, er.same s07, ex, e7, .cons (.own _) (.cons (.own _) (.cons (.own _) (.nil))), O.k3, len_show (Nat.le_of_ble_eq_true rfl), fun l4 nl4 => ?_⟩
    have s8 : Same H7 (L2.upd H7 l4 (.lst [.bl false, .bl false])) := same_new nl4
    have e8 : L2.upd H7 l4 (.lst [.bl false, .bl false]) l4 = some (.lst [.bl false, .bl false]) := upd_same
    generalize L2.upd H7 l4 (.lst [.bl false, .bl false]) = H8 at s8 e8 ⊢
    have e58 := s8 _ _ (s7 _ _ (s6 _ _ e5))
    refine ⟨l3, l4, _, _, rfl, rfl, e58, e8, by rw [sizeLine_eq]; decide, fun l5 nl5 => ?_⟩
    exact k _ l5 ((s07.trans s8).trans (same_new nl5)) upd_same

end
end Lf

set_option Elab.async false
set_option linter.all false
set_option maxRecDepth 100000
set_option maxHeartbeats 4000000
set_option exponentiation.threshold 3000
namespace Lf
open PySem PySem.Spec PyProof.Rows L2
section
variable {P : Program} {w : World} {K : PySem.W.Frag} {mg : Str → Option Value} {base : Heap} {c0 c1 cw : Addr}
theorem op_addLK {X : Cx} {K : PySem.W.Frag} (hK : X.K = K := by rfl) : OpR X (binaryOp .Add) rCat := op_cat

/-! ### _law_deed -/
theorem sc__law_deed : FnScope ["_law_way", "_law_stuff", "_law_thing"] ["_law_way", "_law_stuff", "_law_thing"] (defScope s__law_deed) := ⟨rfl, rfl, rfl, by decide +kernel, rfl, by decide +kernel, by decide +kernel⟩
/-- six things of a list, as arguments of a stuff -/
structure Six (K : PySem.W.Frag) (H : Hp) (p : Addr) (vs : List V) (dn : PyData) (ds : List PyData) : Prop where
  at_ : SqL K H p vs
  all : DqAll K H vs (dn :: ds)
  len : vs.length = 6
  nm : ∀ z, dn = .str z → z.length ≤ 1000
  bt : ∀ i, i < 3 → isM (orNone (ds.getD i .none)) = true → Bt 290 (top2 (orNone (ds.getD i .none)))
theorem Six.same {H H' : Hp} {p : Addr} {vs : List V} {dn : PyData} {ds : List PyData} (s : Same H H') (h : Six K H p vs dn ds) : Six K H' p vs dn ds := ⟨sm_l s h.at_, DqAll.same s h.all, h.len, h.nm, h.bt⟩
/-- what is done, and what is said then -/
inductive Deed (K : PySem.W.Frag) (H : Hp) (CF DN DS : Addr) : Int → V → Addr → Option (Str × V) → Prop
  | frac (v : V) (f : Int × Int) (w : Int) (h : AtK K H v f) (lo : IsF f) (b : Bt 890 f) (hw : w = 0 ∨ w = 1) : Deed K H CF DN DS w v CF none
  | name (v : V) (y : PyData) (h : Dq K H v y) (no : inTx y words = false) : Deed K H CF DN DS 2 v DN (some ("who", v))
  | stuff (p : Addr) (vs : List V) (dn : PyData) (ds : List PyData) (wd : Str) (h : Six K H p vs dn ds) (e : fwR dn (ds.map orNone) = some wd) : Deed K H CF DN DS 3 (.ref p) DS (some ("field", .str wd))
theorem Deed.same {H H' : Hp} {CF DN DS D : Addr} {w : Int} {v : V} {r : Option (Str × V)} (s : Same H H') (h : Deed K H CF DN DS w v D r) : Deed K H' CF DN DS w v D r := by
  cases h with
  | frac v f w h lo b hw => exact .frac v f w (h.same s) lo b hw
  | name v y h no => exact .name v y (h.same s) no
  | stuff p vs dn ds wd h e => exact .stuff p vs dn ds wd (h.same s) e
/-- an error as it is raised: its fields -/
def Rsd (H' : Hp) (d : Option Addr) : Option (Str × V) → Prop
  | none => d = none
  | some fv => ∃ dx, d = some dx ∧ H' dx = some (.xd [fv])
def sp_deed (K : PySem.W.Frag) (C CF DN DS : Addr) : Sp := fun vs H Q E => ∃ (w : Int) (x : Addr) (v vn : V) (dn : PyData) (ds : List PyData) (D : Addr) (r : Option (Str × V)), vs = [.int w, .ref x, v] ∧ StO K H C x vn dn ds ∧ Deed K H CF DN DS w v D r ∧ ∀ H' d, Same H H' → Rsd H' d r → E (.ref D) d H'
theorem ok_deed {C CF DNoName DNoStuff f fm fS : Addr} {fd fdm fdS : FuncData} {gg : List Value → List Value → List Value} (Mm : MetG P w K mg base (L2.CX P w) 3 C "measure" fm fdm ["self", "word"] (sp_mesX K C DNoName)) (MS : MakG P w K mg base (L2.CX P w) 9 "Stuff" C fS fdS ["self", "name", "flour", "water", "salt", "thirst", "price"] (sp_init K C DNoStuff)) (hb : KBn K fdS ["self", "name", "flour", "water", "salt", "thirst", "price"] (6 + 1) [] gg (fun vs _ => vs))
    (F : Fun K "_law_deed" "_law_deed" s__law_deed f fd) (C_fraction : Cal P w K mg base (L2.CX P w) 3 "fraction" ["top", "bottom"] (spFrac0 CF)) (C_over : Cal P w K mg base (L2.CX P w) 5 "over" ["one", "other"] (sp_over0 K CF)) : FnG P w K mg base (L2.CX P w) 11 f fd ["_law_way", "_law_stuff", "_law_thing"] (sp_deed K C CF DNoName DNoStuff) := by
  refine GfunX F sc__law_deed (fun vs H Q E h => ?_) (fun cdv A outer s H vs Q E hg hr h => ?_)
  · obtain ⟨w, x, v, vn, dn, ds, D, r, rfl, _⟩ := h
    rfl
  · obtain ⟨w, x, v, vn, dn, ds, D, r, rfl, so, dd, k⟩ := h
    refine ⟨_, (pss_cons (ps_if (pt_cmpR op_eq (pv 0) pe_int (nomark _))
      (pss_one (ps_ret (pe_gS C_fraction (hr.mono (by decide)) hg (fun σ => passAt (takes_of rfl rfl rfl rfl) σ) (pa_cons (pe_ix ix_tup (pv 2) pe_int (fun _ _ => rfl)) (pa_cons pe_int pa_nil)))))
      pss_nil)
      (pss_cons (ps_if (pt_cmpR op_eq (pv 0) pe_int (nomark _))
      (pss_one (ps_ret (pe_gS C_over (hr.mono (by decide)) hg (fun σ => passAt (takes_of rfl rfl rfl rfl) σ) (pa_cons (pv 2) (pa_cons (pe_tup (pa_cons pe_int (pa_cons pe_int pa_nil))) pa_nil)))))
      pss_nil)
      (pss_cons (ps_if (pt_cmpR op_eq (pv 0) pe_int (nomark _))
      (pss_one (ps_ret (pe_meG (pv 1) Mm (hr.mono (by decide)) hg (fun σ => passAt (takes_of rfl rfl rfl rfl) σ) (pa_cons (pv 2) pa_nil))))
      pss_nil)
      (pss_one (ps_ret (pe_mkG MS hb (hr.mono (by decide)) hg (fun σ => passAt (takes_of rfl rfl rfl rfl) σ) (pa_cons (pe_ix ix_list (pv 2) pe_int (fun _ _ => rfl)) (pa_cons (pe_ix ix_list (pv 2) pe_int (fun _ _ => rfl)) (pa_cons (pe_ix ix_list (pv 2) pe_int (fun _ _ => rfl)) (pa_cons (pe_ix ix_list (pv 2) pe_int (fun _ _ => rfl)) (pa_cons (pe_ix ix_list (pv 2) pe_int (fun _ _ => rfl)) (pa_cons (pe_ix ix_list (pv 2) pe_int (fun _ _ => rfl)) pa_nil)))))))))))), ?_⟩
    have sm9 : ∀ n : Int, n.natAbs < 2 ^ 890 → Sm n := fun n h => Nat.lt_of_lt_of_le h (by decide)
    have eqT : ∀ {a : Int} {X Y : Prop}, X → (if (decide (V.int a = V.int a)) = true then X else Y) := fun {a X Y} h => by rw [decide_eq_true rfl, if_pos rfl]; exact h
    have eqF : ∀ {a b : Int} {X Y : Prop}, a ≠ b → Y → (if (decide (V.int a = V.int b)) = true then X else Y) := fun {a b X Y} n h => by rw [decide_eq_false (fun z => n (V.int.inj z)), if_neg (by decide)]; exact h
    cases dd with
    | frac v f w h lo b hw =>
      obtain ⟨p, rfl, hp⟩ := h
      rcases hw with rfl | rfl
      · refine ⟨_, rfl, rfl, _, rfl, eqT ?_⟩
        exact ⟨_, rfl, ixT0 hp ⟨_, rfl, k _ _ same_rfl rfl⟩⟩
      · refine ⟨_, rfl, rfl, _, rfl, eqF (by decide) ?_⟩
        refine ⟨_, rfl, rfl, _, rfl, eqT ?_⟩
        refine ⟨_, rfl, len_show (Nat.le_of_ble_eq_true rfl), fun t nt => ?_⟩
        have s1 : Same H (L2.upd H t (.tup [.int 0, .int 1])) := same_new nt
        have e1 : L2.upd H t (.tup [.int 0, .int 1]) t = some (.tup [.int 0, .int 1]) := upd_same
        generalize L2.upd H t (.tup [.int 0, .int 1]) = H1 at s1 e1 ⊢
        exact ⟨f.1, f.2, 1, ⟨⟨p, t, rfl, sm_t s1 hp, .inl (.inl e1)⟩, by have := lo.1; omega, by decide, sm9 _ b.1, sm9 _ b.2, by unfold Sm; decide +kernel, by unfold Sm; decide +kernel⟩, k _ _ s1 rfl⟩
    | name v y h no =>
      refine ⟨_, rfl, rfl, _, rfl, eqF (by decide) ⟨_, rfl, rfl, _, rfl, eqF (by decide) ⟨_, rfl, rfl, _, rfl, eqT ?_⟩⟩⟩
      obtain ⟨dx, pm, xs, h1, h2, h3, h4⟩ := id so
      refine ⟨_, rfl, x, _, _, rfl, h1, rfl, _, rfl, x, v, vn, dn, y, ds, rfl, so, h, .inr ⟨no, fun H' dx s' _ e => k H' _ s' ⟨dx, rfl, e⟩⟩⟩
    | stuff p vs dn' ds' wd S e =>
      refine ⟨_, rfl, rfl, _, rfl, eqF (by decide) ⟨_, rfl, rfl, _, rfl, eqF (by decide) ⟨_, rfl, rfl, _, rfl, eqF (by decide) ?_⟩⟩⟩
      obtain ⟨v0, v1, v2, v3, v4, v5, rfl⟩ : ∃ v0 v1 v2 v3 v4 v5, vs = [v0, v1, v2, v3, v4, v5] := by
        match vs, S.len with
        | [v0, v1, v2, v3, v4, v5], _ => exact ⟨v0, v1, v2, v3, v4, v5, rfl⟩
      obtain ⟨hn, hA⟩ : Dq K H v0 dn' ∧ DqAll K H [v1, v2, v3, v4, v5] ds' := by
        have h := S.all
        cases h with
        | cons a r => exact ⟨a, r⟩
      have hS := S.at_
      refine ⟨_, rfl, p, _, _, _, rfl, rfl, hS, atI_nat (j := 0) rfl, _, rfl, p, _, _, _, rfl, rfl, hS, atI_nat (j := 1) rfl, _, rfl, p, _, _, _, rfl, rfl, hS, atI_nat (j := 2) rfl,
        _, rfl, p, _, _, _, rfl, rfl, hS, atI_nat (j := 3) rfl, _, rfl, p, _, _, _, rfl, rfl, hS, atI_nat (j := 4) rfl, _, rfl, p, _, _, _, rfl, rfl, hS, atI_nat (j := 5) rfl, rfl, rfl, fun x' dx' nx nd hdx => ?_⟩
      refine ⟨x', dx', H, v0, dn', [v1, v2, v3, v4, v5], ds', rfl, rfl, nx, nd, hdx, rfl, hn, S.nm, hA, S.bt, ?_⟩
      rw [e]
      exact fun H' d s' hd => k H' _ s' ⟨d, rfl, hd⟩

end
end Lf

set_option Elab.async false
set_option linter.all false
set_option maxRecDepth 100000
set_option maxHeartbeats 4000000
set_option exponentiation.threshold 3000
namespace Lf
open PySem PySem.Spec PyProof.Rows L2
section
variable {P : Program} {w : World} {K : PySem.W.Frag} {mg : Str → Option Value} {base : Heap} {c0 c1 cw : Addr}

/-! ### _law_told -/
theorem sc__law_told : FnScope ["_law_way", "_law_stuff", "_law_thing", "_law_found", "_law_e"] ["_law_way", "_law_stuff", "_law_thing"] (defScope s__law_told) := ⟨rfl, rfl, rfl, by decide +kernel, rfl, by decide +kernel, by decide +kernel⟩
/-- what is known of an error's class -/
structure TdX (K : PySem.W.Frag) (mg : Str → Option Value) (T : Oths K mg) (CF DN DS cL D : Addr) (bf bn bs : Bool) : Prop where
  ex : ExcC K D
  o : OthD K mg T D
  l : PySem.W.exmOne K (.ref D) (.ref cL) = some true
  kf : PySem.W.kitOne K (.ref D) (.ref CF) = some bf
  kn : PySem.W.kitOne K (.ref D) (.ref DN) = some bn
  ks : PySem.W.kitOne K (.ref D) (.ref DS) = some bs
  kv : PySem.W.kitOne K (.ref D) (.type "ValueError") = some true
structure TdF (K : PySem.W.Frag) (D : Addr) (f : Str) : Prop where
  xf : XfC K D
  no : PySem.W.findIn K (.ref D) f = some none
def tdL (b1 b2 b3 : Bool) (r : List V) : List V := [.bl b1, .bl b2, .bl b3, .bl true, .bl false, .bl false, .bl false, .bl false] ++ r
/-- what is told of a deed -/
def tdR : Int → V → List V → Prop := fun w v l => ((w = 0 ∨ w = 1) ∧ l = tdL true false false []) ∨ (w = 2 ∧ l = tdL false true false [v])
def sp_told (K : PySem.W.Frag) (C CF DN DS : Addr) : Sp := fun vs H Q _ => ∃ (w : Int) (x : Addr) (v vn : V) (dn : PyData) (ds : List PyData) (D : Addr) (r : Option (Str × V)), vs = [.int w, .ref x, v] ∧ StO K H C x vn dn ds ∧ Deed K H CF DN DS w v D r ∧
  ∀ H' l, Same H H' → H' l = some (.lst (tdL (decide (w = 0 ∨ w = 1)) (decide (w = 2)) (decide (w = 3)) (r.map (·.2)).toList)) → Q (.ref l) H'
set_option maxHeartbeats 16000000 in
theorem ok_told {C CF DN DS cL f : Addr} {fd : FuncData} (M : Blt mg) (Mx : Bltx mg) (MV : mg "ValueError" = none) (T : Oths K mg) (gF : mg "NoFraction" = some (.ref CF)) (gN : mg "NoName" = some (.ref DN)) (gS : mg "NoStuff" = some (.ref DS)) (gL : mg "LoafError" = some (.ref cL))
    (XF : TdX K mg T CF DN DS cL CF true false false) (XN : TdX K mg T CF DN DS cL DN false true false) (XS : TdX K mg T CF DN DS cL DS false false true) (FN : TdF K DN "who") (FS : TdF K DS "field")
    (F : Fun K "_law_told" "_law_told" s__law_told f fd) (C__law_deed : Cal P w K mg base (L2.CX P w) 11 "_law_deed" ["_law_way", "_law_stuff", "_law_thing"] (sp_deed K C CF DN DS)) (C__law_others : CalL P w K mg base 1 "_law_others" ["_law_e"] (sp_oth K mg T)) : FnG P w K mg base CX0 12 f fd ["_law_way", "_law_stuff", "_law_thing"] (sp_told K C CF DN DS) := by
  refine Gfun F sc__law_told (fun vs H Q E h => ?_) (fun cdv A outer s H vs Q E hg hr h => ?_)
  · obtain ⟨w, x, v, vn, dn, ds, D, r, rfl, _⟩ := h
    rfl
  · obtain ⟨w, x, v, vn, dn, ds, D, r, rfl, so, dd, k⟩ := h
    refine ⟨_, (pss_cons (ps_set (i := 3) sc__law_told.nd rfl (.inl rfl) (pe_lst pa_nil))
      (pss_cons (ps_try_heard rfl rfl
        (fun W pn xe tk _ => (pss_one (ps_expr (pe_gS C__law_deed (hr.mono (by decide)) hg (fun σ => passAt tk σ) (pa_cons (pv 0) (pa_cons (pv 1) (pa_cons (pv 2) pa_nil)))))))
        (fun ok => (heard_asO (i := 4) (n := "_law_e") (c := .ref cL) rfl sc__law_told.nd rfl rfl ⟨rfl, by decide, Or.inl gL⟩ ok (fun a oe cls d pn hz hf => (pss_cons (ps_set (i := 3) sc__law_told.nd rfl (.inl rfl) (pe_lst (pa_cons (pe_callB (call_isE (K := K) (p := (a, oe)) List.mem_cons_self) rfl Mx.isinstance bt_isinstance (pa_cons (pv 4) (pa_cons (pe_glob (v := .ref CF) rfl gF rfl) pa_nil))) (pa_cons (pe_callB (call_isE (K := K) (p := (a, oe)) List.mem_cons_self) rfl Mx.isinstance bt_isinstance (pa_cons (pv 4) (pa_cons (pe_glob (v := .ref DN) rfl gN rfl) pa_nil))) (pa_cons (pe_callB (call_isE (K := K) (p := (a, oe)) List.mem_cons_self) rfl Mx.isinstance bt_isinstance (pa_cons (pv 4) (pa_cons (pe_glob (v := .ref DS) rfl gS rfl) pa_nil))) (pa_cons (pe_callB (call_isE (K := K) (p := (a, oe)) List.mem_cons_self) rfl Mx.isinstance bt_isinstance (pa_cons (pv 4) (pa_cons (pe_bltn (v := .ty "ValueError") rfl MV PyProof.Rows.Boot.«ValueError» rfl) pa_nil))) pa_nil))))))
      (pss_cons (ps_set (i := 3) sc__law_told.nd rfl (.inl rfl) (pe_op op_cat (pv 3) (pe_lend (p := (a, oe)) (List.mem_cons_self) C__law_others (hot hr (by decide)) hg (pa_cons (pv 4) pa_nil))))
      (pss_cons (ps_if (pt_val (pe_callB (call_isE (K := K) (p := (a, oe)) List.mem_cons_self) rfl Mx.isinstance bt_isinstance (pa_cons (pv 4) (pa_cons (pe_glob (v := .ref DN) rfl gN rfl) pa_nil))))
      (pss_one (ps_expr (pe_bmK (K := K) (pe_bm PySem.F.plainAttrs_list PySem.F.slot_list_append PySem.F.type_list_append mt_append (pv 3) (pa_cons (pe_xfE (K := K) (p := (a, oe)) List.mem_cons_self (pv 4)) pa_nil)))))
      pss_nil)
      (pss_one (ps_if (pt_val (pe_callB (call_isE (K := K) (p := (a, oe)) List.mem_cons_self) rfl Mx.isinstance bt_isinstance (pa_cons (pv 4) (pa_cons (pe_glob (v := .ref DS) rfl gS rfl) pa_nil))))
      (pss_one (ps_expr (pe_bmK (K := K) (pe_bm PySem.F.plainAttrs_list PySem.F.slot_list_append PySem.F.type_list_append mt_append (pv 3) (pa_cons (pe_xfE (K := K) (p := (a, oe)) List.mem_cons_self (pv 4)) pa_nil)))))
      pss_nil)))))) (heard_nil (Wout := fun _ _ _ _ => False) rfl rfl takes0))))
      (pss_one (ps_ret (pv 3))))), ?_⟩
    refine ⟨len_show (Nat.le_of_ble_eq_true rfl), fun f0 nf0 => ?_⟩
    have s1 : Same H (L2.upd H f0 (.lst [])) := same_new nf0
    have e1 : L2.upd H f0 (.lst []) f0 = some (.lst []) := upd_same
    generalize L2.upd H f0 (.lst []) = H1 at s1 e1 ⊢
    refine ⟨_, rfl, _, rfl, _, rfl, w, x, v, vn, dn, ds, D, r, rfl, so.same s1, dd.same s1, fun H2 d s2 rd => ?_⟩
    have s02 := s1.trans s2
    -- what is known of the class
    obtain ⟨bf, bn, bs, fo, X, eb, hfo, hr1⟩ : ∃ (bf bn bs : Bool) (fs : Option (List (Str × V))), TdX K mg T CF DN DS cL D bf bn bs ∧ (bf = decide (w = 0 ∨ w = 1) ∧ bn = decide (w = 2) ∧ bs = decide (w = 3)) ∧ (match fs with | none => d = none | some l => ∃ dd, d = some dd ∧ H2 dd = some (.xd l)) ∧
        ((r = none ∧ bn = false ∧ bs = false) ∨ (∃ u, r = some (("who" : Str), u) ∧ fs = some [(("who" : Str), u)] ∧ bn = true ∧ bs = false ∧ TdF K D "who") ∨ ∃ u, r = some (("field" : Str), u) ∧ fs = some [(("field" : Str), u)] ∧ bn = false ∧ bs = true ∧ TdF K D "field") := by
      cases dd with
      | frac v f w h lo b hw => exact ⟨true, false, false, none, XF, by rcases hw with rfl | rfl <;> exact ⟨by decide, by decide, by decide⟩, rd, .inl ⟨rfl, rfl, rfl⟩⟩
      | name v y h no => exact ⟨false, true, false, some [(("who" : Str), v)], XN, ⟨by decide, by decide, by decide⟩, rd, .inr (.inl ⟨v, rfl, rfl, rfl, rfl, FN⟩)⟩
      | stuff p vs dn ds wd h e => exact ⟨false, false, true, some [(("field" : Str), .str wd)], XS, ⟨by decide, by decide, by decide⟩, rd, .inr (.inr ⟨_, rfl, rfl, rfl, rfl, FS⟩)⟩
    obtain ⟨eb1, eb2, eb3⟩ := eb
    refine ⟨true, X.l, fun _ a oe hz hf ha => ?_, fun z => Bool.noConfusion z⟩
    have er : Er H2 (a, oe) D fo := by
      obtain ⟨ec⟩ : Nonempty True := ⟨trivial⟩
      exact er_of hz hf rfl hfo
    refine ⟨_, rfl, D, fo, .ref CF, .ref CF, bf, rfl, er, X.ex, fun u r => r, X.kf, _, rfl, D, fo, .ref DN, .ref DN, bn, rfl, er, X.ex, fun u r => r, X.kn, _, rfl, D, fo, .ref DS, .ref DS, bs, rfl, er, X.ex, fun u r => r, X.ks, _, rfl, D, fo, .ty "ValueError", .type "ValueError", true, rfl, er, X.ex, fun u r => r, X.kv, ?_⟩
    refine ⟨len_show (Nat.le_of_ble_eq_true rfl), fun l1 nl1 => ?_⟩
    have s3 : Same H2 (L2.upd H2 l1 (.lst [.bl bf, .bl bn, .bl bs, .bl true])) := same_new nl1
    have e3 : L2.upd H2 l1 (.lst [.bl bf, .bl bn, .bl bs, .bl true]) l1 = some (.lst [.bl bf, .bl bn, .bl bs, .bl true]) := upd_same
    generalize L2.upd H2 l1 (.lst [.bl bf, .bl bn, .bl bs, .bl true]) = H3 at s3 e3 ⊢
    refine ⟨_, rfl, _, rfl, D, fo, rfl, er.same s3, X.ex, X.o, fun H4 l2 s4 e4 => ?_⟩
    refine ⟨l1, l2, _, _, rfl, rfl, s4 _ _ e3, e4, by rw [sizeLine_eq]; exact Nat.le_of_ble_eq_true rfl, fun l3 nl3 => ?_⟩
    have s5 : Same H4 (L2.upd H4 l3 (.lst ([.bl bf, .bl bn, .bl bs, .bl true] ++ [.bl false, .bl false, .bl false, .bl false]))) := same_new nl3
    have e5 : L2.upd H4 l3 (.lst ([.bl bf, .bl bn, .bl bs, .bl true] ++ [.bl false, .bl false, .bl false, .bl false])) l3 = some (.lst ([.bl bf, .bl bn, .bl bs, .bl true] ++ [.bl false, .bl false, .bl false, .bl false])) := upd_same
    generalize L2.upd H4 l3 (.lst ([.bl bf, .bl bn, .bl bs, .bl true] ++ [.bl false, .bl false, .bl false, .bl false])) = H5 at s5 e5 ⊢
    have s25 := (s3.trans s4).trans s5
    have s05 := s02.trans s25
    have er5 := er.same s25
    have keep : ∀ {o : HO}, Same H (L2.upd H5 l3 o) := fun b u e => by
      have h4 := s4 _ _ (s3 _ _ (s02 _ _ e))
      rw [upd_ne (ne_of_none h4 nl3)]
      exact s05 _ _ e
    refine ⟨_, rfl, D, fo, .ref DN, .ref DN, bn, rfl, er5, X.ex, fun u r => r, X.kn, _, rfl, ?_⟩
    rcases hr1 with ⟨rfl, rfl, rfl⟩ | ⟨u, rfl, rfl, rfl, rfl, G⟩ | ⟨u, rfl, rfl, rfl, rfl, G⟩
    · refine iteF ?_
      refine ⟨_, rfl, D, fo, .ref DS, .ref DS, _, rfl, er5, X.ex, fun u r => r, X.ks, _, rfl, iteF ?_⟩
      refine ⟨_, rfl, k H5 l3 s05 ?_⟩
      rw [← eb1, ← eb2, ← eb3]
      exact e5
    · refine iteT ?_
      refine ⟨_, rfl, .inl ⟨rfl, _, .inl (.inl e5)⟩, _, rfl, D, _, u, rfl, er5, G.xf, G.no, rfl, l3, _, _, rfl, rfl, e5, by rw [sizeLine_eq]; exact Nat.le_of_ble_eq_true rfl, ?_⟩
      have er6 : Er (L2.upd H5 l3 (.lst (([.bl bf, .bl true, .bl false, .bl true] ++ [.bl false, .bl false, .bl false, .bl false]) ++ [u]))) (a, oe) D (some [(("who" : Str), u)]) := by
        obtain ⟨g1, g2, dd, g3, g4⟩ := er5
        exact ⟨g1, g2, dd, g3, by rw [upd_ne (fun z => by rw [z, e5] at g4; cases g4)]; exact g4⟩
      refine ⟨_, rfl, D, _, .ref DS, .ref DS, _, rfl, er6, X.ex, fun u r => r, X.ks, _, rfl, iteF ?_⟩
      refine ⟨_, rfl, k _ l3 keep ?_⟩
      rw [← eb1, ← eb2, ← eb3]
      exact upd_same
    · refine iteF ?_
      refine ⟨_, rfl, D, _, .ref DS, .ref DS, _, rfl, er5, X.ex, fun u r => r, X.ks, _, rfl, iteT ?_⟩
      refine ⟨_, rfl, .inl ⟨rfl, _, .inl (.inl e5)⟩, _, rfl, D, _, u, rfl, er5, G.xf, G.no, rfl, l3, _, _, rfl, rfl, e5, by rw [sizeLine_eq]; exact Nat.le_of_ble_eq_true rfl, ?_⟩
      refine ⟨_, rfl, k _ l3 keep ?_⟩
      rw [← eb1, ← eb2, ← eb3]
      exact upd_same

end
end Lf

set_option Elab.async false
set_option linter.all false
set_option maxRecDepth 100000
set_option maxHeartbeats 4000000
set_option exponentiation.threshold 3000
namespace Lf
open PySem PySem.Spec PyProof.Rows L2
theorem pot_ne {q p : Addr} {H : Hp} (h : Pot H q) (n : H p = none) : p ≠ q := fun z => by
  obtain ⟨_, _, _, _, e⟩ := h
  rw [z, e] at n
  cases n
theorem sql_butW {K : PySem.W.Frag} {q l : Addr} {H H' : Hp} {xs : List V} (b : But q H H') (n : l ≠ q) (h : SqL K H l xs) : SqL K H' l xs := sq_but b n h
section
variable {P : Program} {w : World} {K : PySem.W.Frag} {mg : Str → Option Value} {base : Heap} {c0 c1 cw : Addr}

/-! ### _law_word -/
theorem sc__law_word : FnScope ["_law_pot_here", "_law_words", "_law_word_here", "_law_some", "_law_way", "_law_at"] ["_law_pot_here"] (defScope s__law_word) := ⟨rfl, rfl, rfl, by decide +kernel, rfl, by decide +kernel, by decide +kernel⟩
def sp_word (K : PySem.W.Frag) : Sp := fun vs H Q _ => ∃ (q : Addr), vs = [.ref q] ∧ Pot H q ∧ ∀ (v : V) (y : PyData) (H' : Hp), Dq K H' v y → inTx y words = false → Pot H' q → But q H H' → Q v H'
theorem odd_words : ∀ wd ∈ words, inTx (.str (Txt.upper wd)) words = false ∧ inTx (.str (wd ++ ("s" : Str))) words = false := by decide +kernel
theorem odd_cut : ∀ wd ∈ words, ∀ k < 7, inTx (.str (cutS wd none (some (k : Nat)) ++ (" " : Str) ++ cutS wd (some (k : Nat)) none)) words = false := by decide +kernel
theorem cut_le : ∀ wd ∈ words, ∀ k < 7, wd.length ≤ 10 ∧ (cutS wd none (some (k : Nat))).length ≤ 10 ∧ (cutS wd (some (k : Nat)) none).length ≤ 10 := by decide +kernel
theorem ok_word {f : Addr} {fd : FuncData} (M : Blt mg) (F : Fun K "_law_word" "_law_word" s__law_word f fd) (C__law_draw : Cal P w K mg base CX0 1 "_law_draw" ["_law_pot_here", "_law_many"] (sp_draw)) (C__law_name : Cal P w K mg base CX0 2 "_law_name" ["_law_pot_here", "_law_taken"] (sp_name K)) : FnG P w K mg base CX0 4 f fd ["_law_pot_here"] (sp_word K) := by
  refine Gfun F sc__law_word (fun vs H Q E h => ?_) (fun cdv A outer s H vs Q E hg hr h => ?_)
  · obtain ⟨q, rfl, _⟩ := h
    rfl
  · obtain ⟨q, rfl, P0, k⟩ := h
    refine ⟨_, (pss_cons (ps_set (i := 1) sc__law_word.nd rfl (.inl rfl) (pe_lst (pa_cons pe_str (pa_cons pe_str (pa_cons pe_str (pa_cons pe_str (pa_cons pe_str pa_nil)))))))
      (pss_cons (ps_set (i := 2) sc__law_word.nd rfl (.inl rfl) (pe_ix ix_list (pv 1) (pe_g C__law_draw (hr.mono (by decide)) hg (pa_cons (pv 0) (pa_cons pe_int pa_nil))) (fun _ _ => rfl)))
      (pss_cons (ps_par (i := 4) (j := 5) rfl sc__law_word.nd rfl rfl (by decide) rfl rfl (pa_cons (pe_g C__law_draw (hr.mono (by decide)) hg (pa_cons (pv 0) (pa_cons pe_int pa_nil))) (pa_cons (pe_g C__law_draw (hr.mono (by decide)) hg (pa_cons (pv 0) (pa_cons pe_int pa_nil))) pa_nil)) (by rfl))
      (pss_cons (ps_set (i := 3) sc__law_word.nd rfl (.inl rfl) (pe_lst (pa_cons pe_str (pa_cons (pe_upper (pv 2)) (pa_cons (pe_op op_add_str (pv 2) pe_str) (pa_cons (pe_op op_add_str (pe_op op_add_str (pe_slice sl_str (pv 2) po_none (po_some (pv 5))) pe_str) (pe_slice sl_str (pv 2) (po_some (pv 5)) po_none)) (pa_cons pe_non (pa_cons pe_int (pa_cons (pe_lst (pa_cons (pv 2) pa_nil)) (pa_cons (pe_disp (pps_cons (pv 2) pe_int pps_nil) rfl rfl (by decide) (by decide)) pa_nil))))))))))
      (pss_cons (ps_set (i := 3) sc__law_word.nd rfl (.inl rfl) (pe_op op_cat (pv 3) (pe_lst (pa_cons pe_str (pa_cons pe_str pa_nil)))))
      (pss_one (ps_ret (pe_ix ix_list (pe_op op_cat (pv 3) (pe_lst (pa_cons (pe_g C__law_name (hr.mono (by decide)) hg (pa_cons (pv 0) (pa_cons (pv 1) pa_nil))) pa_nil))) (pv 4) (fun _ _ => rfl))))))))), ?_⟩
    have sm : ∀ n : Int, 0 ≤ n → n < 2 ^ 41 → n.natAbs < 2 ^ 900 := fun n h0 h1 => Nat.lt_of_lt_of_le (show n.natAbs < 2 ^ 41 by omega) (Nat.pow_le_pow_right (by decide) (by decide))
    refine ⟨len_show (Nat.le_of_ble_eq_true rfl), fun W nW => ?_⟩
    have s1 : Same H (L2.upd H W (.lst [.str "flour", .str "water", .str "salt", .str "thirst", .str "price"])) := same_new nW
    have e1 : L2.upd H W (.lst [.str "flour", .str "water", .str "salt", .str "thirst", .str "price"]) W = some (.lst [.str "flour", .str "water", .str "salt", .str "thirst", .str "price"]) := upd_same
    generalize L2.upd H W (.lst [.str "flour", .str "water", .str "salt", .str "thirst", .str "price"]) = H1 at s1 e1 ⊢
    have P1 := pot_same P0 s1
    have nWq := pot_ne P0 nW
    refine ⟨_, rfl, _, rfl, q, 5, rfl, by decide, sm _ (by decide) (by decide), P1, fun r H2 r0 r1 P2 b2 => ?_⟩
    have e2 := b2 _ _ nWq e1
    obtain ⟨wn, rfl⟩ : ∃ n : Nat, r = (n : Int) := ⟨r.toNat, by omega⟩
    have hw5 : wn < 5 := by omega
    obtain ⟨wd, hwd, hwm⟩ : ∃ wd, [V.str "flour", V.str "water", V.str "salt", V.str "thirst", V.str "price"][wn]? = some (.str wd) ∧ wd ∈ words := by
      match wn, hw5 with
      | 0, _ => exact ⟨_, rfl, by decide +kernel⟩
      | 1, _ => exact ⟨_, rfl, by decide +kernel⟩
      | 2, _ => exact ⟨_, rfl, by decide +kernel⟩
      | 3, _ => exact ⟨_, rfl, by decide +kernel⟩
      | 4, _ => exact ⟨_, rfl, by decide +kernel⟩
    refine ⟨W, _, _, _, rfl, rfl, .inl (.inl e2), atI_nat hwd, ?_⟩
    refine ⟨_, rfl, q, 11, rfl, by decide, sm _ (by decide) (by decide), P2, fun wy H3 w0 w1 P3 b3 => ?_⟩
    refine ⟨_, rfl, q, 7, rfl, by decide, sm _ (by decide) (by decide), P3, fun at_ H4 a0 a1 P4 b4 => ?_⟩
    have b14 := (b2.trans b3).trans b4
    have e4 := b14 _ _ nWq e1
    refine ⟨_, _, rfl, ?_⟩
    obtain ⟨k7, rfl⟩ : ∃ n : Nat, at_ = (n : Int) := ⟨at_.toNat, by omega⟩
    obtain ⟨wy', rfl⟩ : ∃ n : Nat, wy = (n : Int) := ⟨wy.toNat, by omega⟩
    have hk7 : k7 < 7 := by omega
    obtain ⟨o1, o2⟩ := odd_words wd hwm
    have o3 := odd_cut wd hwm k7 hk7
    obtain ⟨z1, z2, z3⟩ := cut_le wd hwm k7 hk7
    have big : ∀ n, n ≤ 100 → n ≤ sizeLine := fun n h => by rw [sizeLine_eq]; omega
    refine ⟨_, rfl, ⟨_, rfl⟩, _, rfl, rfl, by omega, _, rfl, _, _, rfl, rfl, ?_, _, rfl, _, rfl, _, rfl, _, rfl, big _ (by omega), _, _, rfl, rfl, ?_, _, rfl, _, rfl, _, rfl, _, rfl, big _ (by omega), _, _, rfl, rfl, ?_, ?_⟩
    · refine big _ (Nat.le_trans (Nat.add_le_add z1 (show Str.length "s" ≤ 10 by decide +kernel)) (by decide))
    · refine big _ (Nat.le_trans (Nat.add_le_add z2 (show Str.length " " ≤ 10 by decide +kernel)) (by decide))
    · rw [PySem.Str.length_append]
      refine big _ (Nat.le_trans (Nat.add_le_add (Nat.add_le_add z2 (show Str.length " " ≤ 10 by decide +kernel)) z3) (by decide))
    refine ⟨_, rfl, len_show (Nat.le_of_ble_eq_true rfl), fun L nL => ?_⟩
    have s5 : Same H4 (L2.upd H4 L (.lst [.str wd])) := same_new nL
    have e5 : L2.upd H4 L (.lst [.str wd]) L = some (.lst [.str wd]) := upd_same
    generalize L2.upd H4 L (.lst [.str wd]) = H5 at s5 e5 ⊢
    refine fun D nD => ⟨_, rfl, upd_same, [(Sum.inr wd, .int 1)], rfl, by show 1 ≤ 15; decide, ?_⟩
    have s6 : Same H5 (L2.upd (L2.upd H5 D (.dK [])) D (.dK (mergeK [] [(Sum.inr wd, .int 1)]))) := fun b o e => by
      rw [upd_ne (ne_of_none e nD), upd_ne (ne_of_none e nD)]
      exact e
    have e6 : L2.upd (L2.upd H5 D (.dK [])) D (.dK (mergeK [] [(Sum.inr wd, .int 1)])) D = some (.dK [(Sum.inr wd, .int 1)]) := by
      rw [upd_same]
      rfl
    generalize L2.upd (L2.upd H5 D (.dK [])) D (.dK (mergeK [] [(Sum.inr wd, .int 1)])) = H6 at s6 e6 ⊢
    refine ⟨len_show (Nat.le_of_ble_eq_true rfl), fun A1 nA1 => ?_⟩
    have s7 : Same H6 (L2.upd H6 A1 (.lst [.str "", .str (Txt.upper wd), .str (wd ++ ("s" : Str)), .str (cutS wd none (some (k7 : Nat)) ++ (" " : Str) ++ cutS wd (some (k7 : Nat)) none), .non, .int 7, .ref L, .ref D])) := same_new nA1
    have e7 : L2.upd H6 A1 (.lst [.str "", .str (Txt.upper wd), .str (wd ++ ("s" : Str)), .str (cutS wd none (some (k7 : Nat)) ++ (" " : Str) ++ cutS wd (some (k7 : Nat)) none), .non, .int 7, .ref L, .ref D]) A1 = some (.lst [.str "", .str (Txt.upper wd), .str (wd ++ ("s" : Str)), .str (cutS wd none (some (k7 : Nat)) ++ (" " : Str) ++ cutS wd (some (k7 : Nat)) none), .non, .int 7, .ref L, .ref D]) := upd_same
    generalize L2.upd H6 A1 (.lst [.str "", .str (Txt.upper wd), .str (wd ++ ("s" : Str)), .str (cutS wd none (some (k7 : Nat)) ++ (" " : Str) ++ cutS wd (some (k7 : Nat)) none), .non, .int 7, .ref L, .ref D]) = H7 at s7 e7 ⊢
    refine ⟨_, rfl, len_show (Nat.le_of_ble_eq_true rfl), fun A2 nA2 => ?_⟩
    have s8 : Same H7 (L2.upd H7 A2 (.lst [.str "name", .str "measure"])) := same_new nA2
    have e8 : L2.upd H7 A2 (.lst [.str "name", .str "measure"]) A2 = some (.lst [.str "name", .str "measure"]) := upd_same
    generalize L2.upd H7 A2 (.lst [.str "name", .str "measure"]) = H8 at s8 e8 ⊢
    refine ⟨A1, A2, _, _, rfl, rfl, s8 _ _ e7, e8, by rw [sizeLine_eq]; exact Nat.le_of_ble_eq_true rfl, fun A3 nA3 => ?_⟩
    have s9 : Same H8 (L2.upd H8 A3 (.lst ([.str "", .str (Txt.upper wd), .str (wd ++ ("s" : Str)), .str (cutS wd none (some (k7 : Nat)) ++ (" " : Str) ++ cutS wd (some (k7 : Nat)) none), .non, .int 7, .ref L, .ref D] ++ [.str "name", .str "measure"]))) := same_new nA3
    have e9 : L2.upd H8 A3 (.lst ([.str "", .str (Txt.upper wd), .str (wd ++ ("s" : Str)), .str (cutS wd none (some (k7 : Nat)) ++ (" " : Str) ++ cutS wd (some (k7 : Nat)) none), .non, .int 7, .ref L, .ref D] ++ [.str "name", .str "measure"])) A3 = some (.lst ([.str "", .str (Txt.upper wd), .str (wd ++ ("s" : Str)), .str (cutS wd none (some (k7 : Nat)) ++ (" " : Str) ++ cutS wd (some (k7 : Nat)) none), .non, .int 7, .ref L, .ref D] ++ [.str "name", .str "measure"])) := upd_same
    generalize L2.upd H8 A3 (.lst ([.str "", .str (Txt.upper wd), .str (wd ++ ("s" : Str)), .str (cutS wd none (some (k7 : Nat)) ++ (" " : Str) ++ cutS wd (some (k7 : Nat)) none), .non, .int 7, .ref L, .ref D] ++ [.str "name", .str "measure"])) = H9 at s9 e9 ⊢
    have s49 := (((s5.trans s6).trans s7).trans s8).trans s9
    have P9 := pot_same P4 s49
    have e9W := s49 _ _ e4
    have al5 : ∀ x ∈ words, AllL x := by unfold AllL; decide +kernel
    refine ⟨_, rfl, _, rfl, _, rfl, q, W, words, rfl, nWq, P9, .inl (.inl e9W), by decide, al5, fun z H10 nmz zl znot P10 b10 => ?_⟩
    have nA3q := pot_ne (pot_same P4 (((s5.trans s6).trans s7).trans s8)) nA3
    refine ⟨len_show (Nat.le_of_ble_eq_true rfl), fun A4 nA4 => ?_⟩
    have s11 : Same H10 (L2.upd H10 A4 (.lst [.str z])) := same_new nA4
    have e11 : L2.upd H10 A4 (.lst [.str z]) A4 = some (.lst [.str z]) := upd_same
    generalize L2.upd H10 A4 (.lst [.str z]) = H11 at s11 e11 ⊢
    refine ⟨A3, A4, _, _, rfl, rfl, s11 _ _ (b10 _ _ nA3q e9), e11, by rw [sizeLine_eq]; exact Nat.le_of_ble_eq_true rfl, fun A5 nA5 => ?_⟩
    have s12 : Same H11 (L2.upd H11 A5 (.lst (([.str "", .str (Txt.upper wd), .str (wd ++ ("s" : Str)), .str (cutS wd none (some (k7 : Nat)) ++ (" " : Str) ++ cutS wd (some (k7 : Nat)) none), .non, .int 7, .ref L, .ref D] ++ [.str "name", .str "measure"]) ++ [.str z]))) := same_new nA5
    have e12 : L2.upd H11 A5 (.lst (([.str "", .str (Txt.upper wd), .str (wd ++ ("s" : Str)), .str (cutS wd none (some (k7 : Nat)) ++ (" " : Str) ++ cutS wd (some (k7 : Nat)) none), .non, .int 7, .ref L, .ref D] ++ [.str "name", .str "measure"]) ++ [.str z])) A5 = some (.lst (([.str "", .str (Txt.upper wd), .str (wd ++ ("s" : Str)), .str (cutS wd none (some (k7 : Nat)) ++ (" " : Str) ++ cutS wd (some (k7 : Nat)) none), .non, .int 7, .ref L, .ref D] ++ [.str "name", .str "measure"]) ++ [.str z])) := upd_same
    generalize L2.upd H11 A5 (.lst (([.str "", .str (Txt.upper wd), .str (wd ++ ("s" : Str)), .str (cutS wd none (some (k7 : Nat)) ++ (" " : Str) ++ cutS wd (some (k7 : Nat)) none), .non, .int 7, .ref L, .ref D] ++ [.str "name", .str "measure"]) ++ [.str z])) = H12 at s12 e12 ⊢
    have P12 := pot_same (pot_same P10 s11) s12
    have b12' : But q H1 H12 := ((((b14.same s49).trans b10).same s11).same s12)
    have b12 : But q H H12 := fun c o n e => b12' _ _ n (s1 _ _ e)
    have nLq := pot_ne P4 nL
    have nDq := pot_ne (pot_same P4 s5) nD
    have eL12 : SqL K H12 L [.str wd] := .inl (.inl (s12 _ _ (s11 _ _ (b10 _ _ nLq (s9 _ _ (s8 _ _ (s7 _ _ (s6 _ _ e5))))))))
    have eD12 : H12 D = some (.dK [(Sum.inr wd, .int 1)]) := s12 _ _ (s11 _ _ (b10 _ _ nDq (s9 _ _ (s8 _ _ (s7 _ _ e6)))))
    have get : ∃ v, (([V.str "", .str (Txt.upper wd), .str (wd ++ ("s" : Str)), .str (cutS wd none (some (k7 : Nat)) ++ (" " : Str) ++ cutS wd (some (k7 : Nat)) none), .non, .int 7, .ref L, .ref D] ++ [.str "name", .str "measure"]) ++ [.str z])[wy']? = some v ∧ ∃ y, Dq K H12 v y ∧ inTx y words = false := by
      have ST : ∀ x : Str, Dq K H12 (.str x) (.str x) := fun x => .dp (.str x) (by simp [PyData.hasDict])
      have hw11 : wy' < 11 := by omega
      match wy', hw11 with
      | 0, _ => exact ⟨_, rfl, _, ST _, by decide +kernel⟩
      | 1, _ => exact ⟨_, rfl, _, ST _, o1⟩
      | 2, _ => exact ⟨_, rfl, _, ST _, o2⟩
      | 3, _ => exact ⟨_, rfl, _, ST _, o3⟩
      | 4, _ => exact ⟨_, rfl, _, .dp .non (by simp [PyData.hasDict]), rfl⟩
      | 5, _ => exact ⟨_, rfl, _, .dp (.int 7) (by simp [PyData.hasDict]), rfl⟩
      | 6, _ => exact ⟨_, rfl, .list [.str wd], .dp (.lst eL12 (.cons (.str wd) .nil)) (by simp [PyData.hasDict, PyData.hasDictAll]), rfl⟩
      | 7, _ => exact ⟨_, rfl, _, .dic (ds := [(.str wd, .int 1)]) eD12 (.cons ⟨rfl, .int 1⟩ .nil), rfl⟩
      | 8, _ => exact ⟨_, rfl, _, ST _, by decide +kernel⟩
      | 9, _ => exact ⟨_, rfl, _, ST _, by decide +kernel⟩
      | 10, _ => exact ⟨_, rfl, _, ST _, decide_eq_false znot⟩
    obtain ⟨v, hv, y, hy, no⟩ := get
    exact ⟨_, rfl, A5, _, _, _, rfl, rfl, .inl (.inl e12), atI_nat hv, k v y H12 hy no P12 b12⟩

end
end Lf

set_option Elab.async false
set_option linter.all false
set_option maxRecDepth 100000
set_option maxHeartbeats 4000000
/-! `!=` of two lists of two things each, equal one by one. -/
namespace Lf
open PySem PySem.Spec PyProof.Rows L2
open PySem.SeqAt PySem.MeetsSeq PySem.MeetsSeq2 PySem.MeetsSeq3
section
variable {P : Program} {w : World}
/-- two things, as a list's object holds them -/
def two (d : Option Addr) (sl : Array (Option Value)) (n : Nat) (x y : Value) : Obj := { cls := .type "list", dict := d, data := .seq #[x, y] n, slots := sl }
theorem ne_end (a b : Addr) (d e : Option Addr) (sl tl : Array (Option Value)) (m n : Nat) (x y u v : Value) :
    MeetsIn P w (Builtin.«list.__eq__.loop» ⟨[.ref a, .ref b, rawInt 2, rawInt 3], []⟩) (fun _ R s => s.heap.get? a = some (two d sl m x y) ∧ s.heap.get? b = some (two e tl n u v) ∧ R (.ok (.ret (.bool false))) s) := by
  rintro A R ⟨h1, h2, h3, h4, h5⟩ ⟨la, lb, done⟩
  unfold two at la lb
  wp_walk using AutoSeq1.wpAny_loadPart' la, AutoSeq1.wpAny_loadPart' lb
  exact done
/-- the second things are equal -/
theorem ne_last {i : Nat} (at1 : i = 1) (a b : Addr) (d e : Option Addr) (sl tl : Array (Option Value)) (m n : Nat) (x y u v : Value) :
    MeetsIn P w (Builtin.«list.__eq__.loop» ⟨[.ref a, .ref b, rawInt i, rawInt 3], []⟩) (fun A R s => s.heap.get? a = some (two d sl m x y) ∧ s.heap.get? b = some (two e tl n u v) ∧ EqP P w A.in1 s y v true ∧ R (.ok (.ret (.bool false))) s) := by
  rintro A R ⟨h1, h2, h3, h4, h5⟩ ⟨la, lb, e2, done⟩
  have go := ne_end (P := P) (w := w) a b d e sl tl m n x y u v A R _ ⟨la, lb, done⟩
  unfold two at la lb
  wp_walk using AutoSeq1.wpAny_loadPart' la, AutoSeq1.wpAny_loadPart' lb
  subst at1
  refine wpAny_bind (e2 _ _ ?_)
  wp_walk
  exact ⟨plainId_quiet plain_eq_loop _, codeAny_builtin entry_eq_loop (by rw [Around.under_plainId plain_eq_loop _]; exact go)⟩
/-- both are -/
theorem ne_first {i : Nat} (at0 : i = 0) (a b : Addr) (d e : Option Addr) (sl tl : Array (Option Value)) (m n : Nat) (x y u v : Value) :
    MeetsIn P w (Builtin.«list.__eq__.loop» ⟨[.ref a, .ref b, rawInt i, rawInt 3], []⟩) (fun A R s => s.heap.get? a = some (two d sl m x y) ∧ s.heap.get? b = some (two e tl n u v) ∧ EqP P w A.in1 s x u true ∧ EqP P w A.in1 s y v true ∧ R (.ok (.ret (.bool false))) s) := by
  rintro A R ⟨h1, h2, h3, h4, h5⟩ ⟨la, lb, e1, e2, done⟩
  have go := ne_last (P := P) (w := w) (i := 1) rfl a b d e sl tl m n x y u v A R _ ⟨la, lb, e2, done⟩
  unfold two at la lb
  wp_walk using AutoSeq1.wpAny_loadPart' la, AutoSeq1.wpAny_loadPart' lb
  subst at0
  refine wpAny_bind (e1 _ _ ?_)
  wp_walk
  exact ⟨plainId_quiet plain_eq_loop _, codeAny_builtin entry_eq_loop (by rw [Around.under_plainId plain_eq_loop _]; exact go)⟩
theorem ne_lists (a b : Addr) (d e : Option Addr) (sl tl : Array (Option Value)) (m n : Nat) (x y u v : Value) :
    MeetsIn P w (Builtin.«list.__ne__» ⟨[.ref a, .ref b], []⟩) (fun A R s => s.heap.get? a = some (two d sl m x y) ∧ s.heap.get? b = some (two e tl n u v) ∧ EqP P w A.in1 s x u true ∧ EqP P w A.in1 s y v true ∧ R (.ok (.ret (.bool false))) s) := by
  rintro A R ⟨h1, h2, h3, h4, h5⟩ ⟨la, lb, e1, e2, done⟩
  have go := ne_first (P := P) (w := w) (i := 0) rfl a b d e sl tl m n x y u v A R _ ⟨la, lb, e1, e2, done⟩
  have kind := AutoSeq1.sub_list_list
  unfold two at la lb
  wp_walk using AutoSeq1.wpAny_loadPart' la, AutoSeq1.wpAny_loadPart' lb
  exact ⟨plainId_quiet plain_eq_loop _, codeAny_builtin entry_eq_loop (by rw [Around.under_plainId plain_eq_loop _]; exact go)⟩
/-- a != b of two lists of two -/
theorem rc_ne2 {A : Around} {s : Shared} {a b : Addr} {x y u v : Value} (ha : s.heap.IsList a #[x, y]) (hb : s.heap.IsList b #[u, v]) (room : A.units < cLine) (e1 : EqP P w A.in1 s x u true) (e2 : EqP P w A.in1 s y v true) (E Q : Value → Shared → Prop) (q : Q (.bool false) s) : wpAny (model P w) A (richCompare .NotEq (.ref a) (.ref b)) Q E s := by
  obtain ⟨⟨ca, da, ta, sa⟩, oa, ka, na, fa⟩ := id ha
  obtain ⟨⟨cb, db, tb, sb⟩, ob, kb, nb, fb⟩ := id hb
  dsimp only at ka fa kb fb
  subst ka fa kb fb
  have la : s.TypeIs (.ref a) "list" := ⟨_, oa, rfl⟩
  have lb : s.TypeIs (.ref b) "list" := ⟨_, ob, rfl⟩
  exact wpAny_richCompare_same_room (op := .NotEq) la lb F.slot_list_ne (call_meetsIn F.slot_list_ne la F.entry_list_ne (F.args_list_ne_2 _ _) (ne_lists a b da db sa sb na nb x y u v)
    ⟨oa, ob, e1, e2, (fun z => nomatch z), q⟩) room
end
section
variable {X : Cx}
/-- a != b, two lists of two things each, equal one by one -/
def rNe2 (K : PySem.W.Frag) : R2 := fun x y H Q => ∃ a b x1 x2 y1 y2 n, x = .ref a ∧ y = .ref b ∧ SqL K H a [x1, x2] ∧ SqL K H b [y1, y2] ∧ n ≤ 60 ∧ EqV K H n x1 y1 ∧ EqV K H n x2 y2 ∧ Q (.bl false) H
theorem op_ne2 {K : PySem.W.Frag} (hu : X.A.units + 64 < cLine) (hK : X.K = K := by rfl) : OpR X (compareOp .NotEq) (rNe2 K) := by
  subst hK
  rintro pins s σ H x y v u Q I rx ry ⟨a, b, x1, x2, y1, y2, n, rfl, rfl, ha, hb, hn, h1, h2, q⟩
  cases (rx : v = _)
  cases (ry : u = _)
  obtain ⟨us, ru, pu, _⟩ := I.list ha
  obtain ⟨vs, rv, pv, _⟩ := I.list hb
  cases ru with
  | cons a1 t1 =>
    cases t1 with
    | cons a2 t2 =>
      cases t2
      cases rv with
      | cons b1 r1 =>
        cases r1 with
        | cons b2 r2 =>
          cases r2
          have room : X.A.in1.units + n < cLine := by show X.A.units + 1 + n < cLine; omega
          exact rc_ne2 pu.isList pv.isList (by omega) (eqV_run I n X.A.in1 room _ _ _ _ h1 a1 b1) (eqV_run I n X.A.in1 room _ _ _ _ h2 a2 b2) _ _ ⟨.bl false, H, I, rfl, q⟩
end
end Lf

set_option Elab.async false
set_option linter.all false
set_option maxRecDepth 100000
set_option maxHeartbeats 4000000
/-! `!=` of two lists of as many things, equal one by one. -/
namespace Lf
open PySem PySem.Spec PyProof.Rows L2
open PySem.SeqAt PySem.MeetsSeq PySem.MeetsSeq2 PySem.MeetsSeq3
section
variable {P : Program} {w : World}
/-- things, as a list's object holds them -/
def lso (d : Option Addr) (sl : Array (Option Value)) (n : Nat) (us : Array Value) : Obj := { cls := .type "list", dict := d, data := .seq us n, slots := sl }
theorem plenN {α β : Type} {R : α → β → Prop} : ∀ {xs : List α} {ys : List β}, Paired R xs ys → xs.length = ys.length
  | _, _, .nil => rfl
  | _, _, .cons _ t => congrArg Nat.succ (plenN t)
theorem ne_from (a b : Addr) (d e : Option Addr) (sl tl : Array (Option Value)) (m n : Nat) (us ws : Array Value) (hl : us.size = ws.size) (hs : us.size < 2 ^ 30) : ∀ r i : Nat, i + r = us.size →
    MeetsIn P w (Builtin.«list.__eq__.loop» ⟨[.ref a, .ref b, rawInt i, rawInt 3], []⟩) (fun A R s => s.heap.get? a = some (lso d sl m us) ∧ s.heap.get? b = some (lso e tl n ws) ∧ (∀ j (h1 : j < us.size) (h2 : j < ws.size), EqP P w A.in1 s us[j] ws[j] true) ∧ R (.ok (.ret (.bool false))) s)
  | 0, i, hi => by
    rintro A R ⟨h1, h2, h3, h4, h5⟩ ⟨la, lb, _, done⟩
    unfold lso at la lb
    wp_walk using AutoSeq1.wpAny_loadPart' la, AutoSeq1.wpAny_loadPart' lb
    rw [Int.toNat_natCast, Array.getElem?_eq_none (show us.size ≤ i by omega)]
    wp_walk using AutoSeq1.wpAny_loadPart' la, AutoSeq1.wpAny_loadPart' lb
    show R (.ok (.ret (Value.bool (us.size != ws.size)))) _
    rw [hl, show (ws.size != ws.size) = false by simp]
    exact done
  | r + 1, i, hi => by
    rintro A R ⟨h1, h2, h3, h4, h5⟩ ⟨la, lb, eq, done⟩
    have go := ne_from a b d e sl tl m n us ws hl hs r (i + 1) (by omega) A R _ ⟨la, lb, eq, done⟩
    unfold lso at la lb
    wp_walk using AutoSeq1.wpAny_loadPart' la, AutoSeq1.wpAny_loadPart' lb
    have l1 : i < us.size := by omega
    have l2 : i < ws.size := by omega
    rw [Int.toNat_natCast, Array.getElem?_eq_getElem l1, Array.getElem?_eq_getElem l2]
    refine wpAny_bind (eq i l1 l2 _ _ ?_)
    wp_walk
    exact ⟨plainId_quiet plain_eq_loop _, codeAny_builtin entry_eq_loop (by rw [Around.under_plainId plain_eq_loop _]; exact go)⟩
theorem ne_alls (a b : Addr) (d e : Option Addr) (sl tl : Array (Option Value)) (m n : Nat) (us ws : Array Value) (hl : us.size = ws.size) (hs : us.size < 2 ^ 30) :
    MeetsIn P w (Builtin.«list.__ne__» ⟨[.ref a, .ref b], []⟩) (fun A R s => s.heap.get? a = some (lso d sl m us) ∧ s.heap.get? b = some (lso e tl n ws) ∧ (∀ j (h1 : j < us.size) (h2 : j < ws.size), EqP P w A.in1 s us[j] ws[j] true) ∧ R (.ok (.ret (.bool false))) s) := by
  rintro A R ⟨h1, h2, h3, h4, h5⟩ ⟨la, lb, eq, done⟩
  have go := ne_from (P := P) (w := w) a b d e sl tl m n us ws hl hs us.size 0 (by omega) A R _ ⟨la, lb, eq, done⟩
  have kind := AutoSeq1.sub_list_list
  unfold lso at la lb
  wp_walk using AutoSeq1.wpAny_loadPart' la, AutoSeq1.wpAny_loadPart' lb
  exact ⟨plainId_quiet plain_eq_loop _, codeAny_builtin entry_eq_loop (by rw [Around.under_plainId plain_eq_loop _]; exact go)⟩
/-- a != b of two lists of equal things -/
theorem rc_neN {A : Around} {s : Shared} {a b : Addr} {us ws : Array Value} (ha : s.heap.IsList a us) (hb : s.heap.IsList b ws) (room : A.units < cLine) (hl : us.size = ws.size) (hs : us.size < 2 ^ 30) (eq : ∀ j (h1 : j < us.size) (h2 : j < ws.size), EqP P w A.in1 s us[j] ws[j] true) (E Q : Value → Shared → Prop) (q : Q (.bool false) s) : wpAny (model P w) A (richCompare .NotEq (.ref a) (.ref b)) Q E s := by
  obtain ⟨⟨ca, da, ta, sa⟩, oa, ka, na, fa⟩ := id ha
  obtain ⟨⟨cb, db, tb, sb⟩, ob, kb, nb, fb⟩ := id hb
  dsimp only at ka fa kb fb
  subst ka fa kb fb
  have la : s.TypeIs (.ref a) "list" := ⟨_, oa, rfl⟩
  have lb : s.TypeIs (.ref b) "list" := ⟨_, ob, rfl⟩
  exact wpAny_richCompare_same_room (op := .NotEq) la lb F.slot_list_ne (call_meetsIn F.slot_list_ne la F.entry_list_ne (F.args_list_ne_2 _ _) (ne_alls a b da db sa sb na nb us ws hl hs)
    ⟨oa, ob, eq, (fun z => nomatch z), q⟩) room
end
section
variable {X : Cx}
/-- a != b, two lists of things, equal one by one -/
def rNeN (K : PySem.W.Frag) : R2 := fun x y H Q => ∃ a b xs ys n, x = .ref a ∧ y = .ref b ∧ SqL K H a xs ∧ SqL K H b ys ∧ n ≤ 60 ∧ xs.length < 2 ^ 30 ∧ Paired (EqV K H n) xs ys ∧ Q (.bl false) H
theorem op_neN {K : PySem.W.Frag} (hu : X.A.units + 64 < cLine) (hK : X.K = K := by rfl) : OpR X (compareOp .NotEq) (rNeN K) := by
  subst hK
  rintro pins s σ H x y v u Q I rx ry ⟨a, b, xs, ys, n, rfl, rfl, ha, hb, hn, hl, hp, q⟩
  cases (rx : v = _)
  cases (ry : u = _)
  obtain ⟨us, ru, pu, _⟩ := I.list ha
  obtain ⟨vs, rv, pv, _⟩ := I.list hb
  have room : X.A.in1.units + n < cLine := by show X.A.units + 1 + n < cLine; omega
  have it := items_run (fun x y v u h a b => eqV_run I n X.A.in1 room x y v u h a b) hp ru rv
  have l1 := ru.length
  have l2 := rv.length
  have l3 := plenN hp
  refine rc_neN pu.isList pv.isList (by omega) ?_ ?_ (fun j h1 h2 => ?_) _ _ ⟨.bl false, H, I, rfl, q⟩
  · show us.length = vs.length
    omega
  · show us.length < 2 ^ 30
    omega
  · exact it j h1 h2
end
end Lf

set_option Elab.async false
set_option linter.all false
set_option maxRecDepth 100000
set_option maxHeartbeats 4000000
set_option exponentiation.threshold 3000
/-! repr of data with dicts at any depth: of what stands for d in a heap, and what repr tells of it. -/
namespace Lf
open PySem PySem.Spec PyProof.Rows L2
section
variable {P : Program} {w : World} {h : Heap}
/-- a row's texts can be told, none of them within one of the row's own objects -/
def RowSays (P : Program) (w : World) (h : Heap) (us : List Value) (ds : List PyData) : Prop :=
  PyData.showableAll ds = true → (∀ t ∈ PyData.shownAll ds, t.length ≤ sizeLine) → ∃ bs, ReadAtMost h (PyData.depthAll ds) bs ∧ ReprAllK P w bs h (PyData.depthAll ds) us (PyData.shownAll ds)
structure Row (P : Program) (w : World) (h : Heap) (us : List Value) (ds : List PyData) : Prop where
  rd : ∃ as, ReadsAll h us ds as
  say : RowSays P w h us ds
/-- u stands for d: it is read so, told so within another one, and, where it is an object, by its type's own repr -/
structure One (P : Program) (w : World) (h : Heap) (u : Value) (d : PyData) : Prop where
  rd : ∃ as, Reads h u d as
  say : d.showable = true → d.shown.length ≤ sizeLine → ∃ bs, ReadAtMost h d.depth bs ∧ ReprK P w bs h d.depth u d.shown
  top : d.showable = true → d.shown.length ≤ sizeLine → ∀ a, u = .ref a → ∃ T idr, ShowsBy P w h a d T idr
theorem One.plain {u : Value} {d : PyData} {as : List Addr} (r : Reads h u d as) (n : d.hasDict = false) : One P w h u d :=
  ⟨⟨as, r⟩, fun a b => ReprK.of_reads r a (PyData.noDict_hsm n) b, fun a b c e => showsBy_of_reads (e ▸ r) a (PyData.noDict_hsm n) b⟩
theorem Row.nil : Row P w h [] [] := ⟨⟨[], .nil⟩, fun _ _ => ⟨[], fun b hb => absurd hb List.not_mem_nil, by unfold PyData.shownAll; exact .nil⟩⟩
theorem Row.cons {u : Value} {us : List Value} {d : PyData} {ds : List PyData} (a : One P w h u d) (r : Row P w h us ds) : Row P w h (u :: us) (d :: ds) where
  rd := a.rd.elim fun _ ra => r.rd.elim fun _ rr => ⟨_, .cons ra rr⟩
  say := fun hs hz => by
    unfold PyData.showableAll at hs
    unfold PyData.shownAll at hz
    have both := Bool.and_eq_true_iff.mp hs
    obtain ⟨b1, m1, k1⟩ := a.say both.1 (hz d.shown (List.Mem.head _))
    obtain ⟨b2, m2, k2⟩ := r.say both.2 fun t ht => hz t (List.Mem.tail _ ht)
    have e : PyData.depthAll (d :: ds) = max d.depth (PyData.depthAll ds) := by rw [PyData.depthAll]
    refine ⟨b1 ++ b2, ?_, ?_⟩
    · rw [e]
      exact (m1.mono (Nat.le_max_left ..)).append (m2.mono (Nat.le_max_right ..))
    · rw [e]
      unfold PyData.shownAll
      refine .cons (ReprK.level_le (k1.more fun b hb => List.mem_append.mpr (.inl hb)) (Nat.le_max_left ..)) ?_
      exact ReprAllK.more_le (fun b hb => List.mem_append.mpr (.inr hb)) (Nat.le_max_right ..) k2
section
variable {a : Addr} {o : Obj} {n : Nat} {us : List Value} {ds : List PyData} {kvs : List (PyData × PyData)} {es : Array DictEntry}
/-- what a list's and a tuple's parts have to be -/
theorem parts_fit {f : List Str → Str} (hf : ∀ ts t, t ∈ ts → t.length ≤ (f ts).length) (hz : (f (PyData.shownAll ds)).length ≤ sizeLine) : ∀ t ∈ PyData.shownAll ds, t.length ≤ sizeLine := fun t ht => Nat.le_trans (hf _ _ ht) hz
theorem One.lst (ho : h.get? a = some o) (hc : o.cls = .type "list") (hd : o.data = .seq us.toArray n) (r : Row P w h us ds) : One P w h (.ref a) (.list ds) := by
  obtain ⟨as, ra⟩ := r.rd
  have ro : Reads h (.ref a) (.list ds) (a :: as) := .list ho hc hd ra
  have e1 : PyData.depth (.list ds) = PyData.depthAll ds + 1 := by unfold PyData.depth; rfl
  have e2 : PyData.shown (.list ds) = listText (PyData.shownAll ds) := by unfold PyData.shown; rfl
  have e3 : PyData.showable (.list ds) = PyData.showableAll ds := by unfold PyData.showable; rfl
  have in_ : PyData.showable (.list ds) = true → (PyData.shown (.list ds)).length ≤ sizeLine → ∃ bs, ReadAtMost h (PyData.depthAll ds) bs ∧ ReprAllK P w bs h (PyData.depthAll ds) us (PyData.shownAll ds) := fun hs hz => by
    rw [e3] at hs
    rw [e2] at hz
    exact r.say hs (parts_fit (fun _ _ => listText_mem_le) hz)
  have out : ∀ bs, ReadAtMost h (PyData.depthAll ds) bs → a ∉ bs := fun bs hb => not_mem_of_deeper ro (by rw [e1]; exact Nat.lt_succ_self _) hb
  cases us with
  | nil =>
    have e4 : ds = [] := by cases ra; rfl
    subst e4
    have e5 : PyData.hasDict (.list []) = false := by unfold PyData.hasDict PyData.hasDictAll; rfl
    exact One.plain ro e5
  | cons u us =>
    refine ⟨⟨_, ro⟩, fun hs hz => ?_, fun hs hz c ec => ?_⟩
    · obtain ⟨bs, hb, hk⟩ := in_ hs hz
      refine ⟨a :: bs, ReadAtMost.cons ro (by rw [e1]; exact Nat.le_succ _) hb, ?_⟩
      rw [e1, e2]
      exact ReprK.list ho hc hd (out bs hb) (by rw [List.size_toArray]; exact hk.length_eq) fun i y q => hk.item i y (by rw [List.getElem?_toArray] at q; exact q)
    · cases ec
      obtain ⟨bs, hb, hk⟩ := in_ hs hz
      rw [e2] at hz
      refine ⟨"list", "list.__repr__", ⟨F.slot_list_repr.toG, F.slot_list_str, F.slot_list_format, fun s k0 => ⟨o, k0 _ _ ho, hc⟩, fun A E s Q hg hu k0 q => ?_⟩⟩
      rw [e1] at hu
      rw [e2] at q
      exact call_list_reprK ho hc hd (out bs hb) (by rw [List.size_toArray]; exact hk.length_eq) (fun i y q => hk.item i y (by rw [List.getElem?_toArray] at q; exact q)) hg (fun b _ => Clear.nil b) hu k0 q hz
theorem One.tup (ho : h.get? a = some o) (hc : o.cls = .type "tuple") (hd : o.data = .seq us.toArray n) (r : Row P w h us ds) : One P w h (.ref a) (.tuple ds) := by
  obtain ⟨as, ra⟩ := r.rd
  have ro : Reads h (.ref a) (.tuple ds) as := .tuple ho hc hd ra
  have e1 : PyData.depth (.tuple ds) = PyData.depthAll ds + 1 := by unfold PyData.depth; rfl
  have e2 : PyData.shown (.tuple ds) = tupleText (PyData.shownAll ds) := by unfold PyData.shown; rfl
  have e3 : PyData.showable (.tuple ds) = PyData.showableAll ds := by unfold PyData.showable; rfl
  have in_ : PyData.showable (.tuple ds) = true → (PyData.shown (.tuple ds)).length ≤ sizeLine → ∃ bs, a ∉ bs ∧ ReadAtMost h (PyData.depthAll ds) bs ∧ ReprAllK P w bs h (PyData.depthAll ds) us (PyData.shownAll ds) := fun hs hz => by
    rw [e3] at hs
    rw [e2] at hz
    obtain ⟨bs, hb, hk⟩ := r.say hs (parts_fit (fun _ _ => tupleText_mem_le) hz)
    exact ⟨bs, not_mem_of_deeper ro (by rw [e1]; exact Nat.lt_succ_self _) hb, hb, hk⟩
  refine ⟨⟨_, ro⟩, fun hs hz => ?_, fun hs hz c ec => ?_⟩
  · obtain ⟨bs, na, hb, hk⟩ := in_ hs hz
    refine ⟨a :: bs, ReadAtMost.cons ro (by rw [e1]; exact Nat.le_succ _) hb, ?_⟩
    rw [e1, e2]
    exact ReprK.tuple ho hc hd na hk
  · cases ec
    obtain ⟨bs, na, hb, hk⟩ := in_ hs hz
    rw [e2] at hz
    refine ⟨"tuple", "tuple.__repr__", ⟨F.slot_tuple_repr, F.slot_tuple_str, F.slot_tuple_format, fun s k0 => ⟨o, k0 _ _ ho, hc⟩, fun A E s Q hg hu k0 q => ?_⟩⟩
    rw [e1] at hu
    rw [e2] at q
    exact call_tuple_reprK ho hc hd na hk hg (fun b _ => Clear.nil b) hu k0 q hz
theorem One.dic (ho : h.get? a = some o) (hc : o.cls = .type "dict") (hd : o.data = .dict es n) (sys : (a == sysModules) = false) (rk : Row P w h (es.toList.map (·.key)) (kvs.map (·.1))) (rv : Row P w h (es.toList.map (·.val)) (kvs.map (·.2))) : One P w h (.ref a) (.dict kvs) := by
  obtain ⟨as, ra⟩ := rk.rd
  obtain ⟨cs, rc⟩ := rv.rd
  have ro : Reads h (.ref a) (.dict kvs) (a :: as ++ cs) := .dict ho hc hd ra rc
  have e1 : PyData.depth (.dict kvs) = PyData.depthKv kvs + 1 := by unfold PyData.depth; rfl
  have e2 : PyData.shown (.dict kvs) = dictText (PyData.shownKv kvs) := by unfold PyData.shown; rfl
  have e3 : PyData.showable (.dict kvs) = PyData.showableKv kvs := by unfold PyData.showable; rfl
  have in_ : PyData.showable (.dict kvs) = true → (PyData.shown (.dict kvs)).length ≤ sizeLine → ∃ bs, a ∉ bs ∧ ReadAtMost h (PyData.depthKv kvs) bs ∧ ReprEntriesK P w bs h (PyData.depthKv kvs) es.toList (PyData.shownKv kvs) := fun hs hz => by
    rw [e3] at hs
    rw [e2] at hz
    have two := PyData.showableKv_split kvs hs
    have fits : ∀ t p : Str, p ∈ PyData.shownKv kvs → t.length ≤ p.length → t.length ≤ sizeLine := fun t p hp hl => Nat.le_trans hl (Nat.le_trans (dictText_mem_le hp) hz)
    obtain ⟨b1, m1, k1⟩ := rk.say two.1 fun t ht => by
      obtain ⟨p, hp, hl⟩ := PyData.shownKv_key_le kvs t ht
      exact fits t p hp hl
    obtain ⟨b2, m2, k2⟩ := rv.say two.2 fun t ht => by
      obtain ⟨p, hp, hl⟩ := PyData.shownKv_val_le kvs t ht
      exact fits t p hp hl
    have hb := (m1.mono (PyData.depthAll_keys_le kvs)).append (m2.mono (PyData.depthAll_vals_le kvs))
    refine ⟨b1 ++ b2, not_mem_of_deeper ro (by rw [e1]; exact Nat.lt_succ_self _) hb, hb, ?_⟩
    rw [PyData.shownKv_eq]
    refine ReprEntriesK.of_two _ _ _ (ReprAllK.more_le ?_ (PyData.depthAll_keys_le kvs) k1) (ReprAllK.more_le ?_ (PyData.depthAll_vals_le kvs) k2)
    · exact fun b hb => List.mem_append.mpr (.inl hb)
    · exact fun b hb => List.mem_append.mpr (.inr hb)
  refine ⟨⟨_, ro⟩, fun hs hz => ?_, fun hs hz c ec => ?_⟩
  · obtain ⟨bs, na, hb, hk⟩ := in_ hs hz
    refine ⟨a :: bs, ReadAtMost.cons ro (by rw [e1]; exact Nat.le_succ _) hb, ?_⟩
    rw [e1, e2]
    exact ReprK.dict ho hc hd sys na hk
  · cases ec
    obtain ⟨bs, na, hb, hk⟩ := in_ hs hz
    rw [e2] at hz
    refine ⟨"dict", "dict.__repr__", ⟨F.slot_dict_repr, F.slot_dict_str, F.slot_dict_format, fun s k0 => ⟨o, k0 _ _ ho, hc⟩, fun A E s Q hg hu k0 q => ?_⟩⟩
    rw [e1] at hu
    rw [e2] at q
    exact call_dict_reprK ho hc hd sys na hk hg (fun b _ => Clear.nil b) hu k0 q hz
end
end
/-! ### data of the abstract heap, dicts among them -/
mutual
inductive Dg (K : PySem.W.Frag) (H : Hp) : V → PyData → Prop
  | non : Dg K H .non .none
  | bl (b : Bool) : Dg K H (.bl b) (.bool b)
  | int (i : Int) : Dg K H (.int i) (.int i)
  | str (x : Str) : Dg K H (.str x) (.str x)
  | lst {a : Addr} {xs : List V} {ds : List PyData} : SqL K H a xs → DgAll K H xs ds → Dg K H (.ref a) (.list ds)
  | tup {a : Addr} {xs : List V} {ds : List PyData} : SqT K H a xs → DgAll K H xs ds → Dg K H (.ref a) (.tuple ds)
  | dk {a : Addr} {kvs : List (Key × V)} {ds : List (PyData × PyData)} : H a = some (.dK kvs) → DgKv K H kvs ds → Dg K H (.ref a) (.dict ds)
  | dt {a : Addr} {kvs : List (List Key × V)} {ds : List (PyData × PyData)} : H a = some (.dT kvs) → DgKt K H kvs ds → Dg K H (.ref a) (.dict ds)
inductive DgAll (K : PySem.W.Frag) (H : Hp) : List V → List PyData → Prop
  | nil : DgAll K H [] []
  | cons {v : V} {vs : List V} {d : PyData} {ds : List PyData} : Dg K H v d → DgAll K H vs ds → DgAll K H (v :: vs) (d :: ds)
inductive DgKv (K : PySem.W.Frag) (H : Hp) : List (Key × V) → List (PyData × PyData) → Prop
  | nil : DgKv K H [] []
  | cons {k : Key} {v : V} {vs : List (Key × V)} {d : PyData} {ds : List (PyData × PyData)} : Dg K H v d → DgKv K H vs ds → DgKv K H ((k, v) :: vs) ((kD k, d) :: ds)
inductive DgKt (K : PySem.W.Frag) (H : Hp) : List (List Key × V) → List (PyData × PyData) → Prop
  | nil : DgKt K H [] []
  | cons {k : List Key} {v : V} {vs : List (List Key × V)} {d : PyData} {ds : List (PyData × PyData)} : Dg K H v d → DgKt K H vs ds → DgKt K H ((k, v) :: vs) ((.tuple (k.map kD), d) :: ds)
end
mutual
theorem Dg.of {K : PySem.W.Frag} {H : Hp} : ∀ {d : PyData} {v : V}, Dp K H v d → Dg K H v d
  | _, _, .non => .non
  | _, _, .bl b => .bl b
  | _, _, .int i => .int i
  | _, _, .str x => .str x
  | _, _, .lst h r => .lst h (DgAll.of r)
  | _, _, .tup h r => .tup h (DgAll.of r)
theorem DgAll.of {K : PySem.W.Frag} {H : Hp} : ∀ {ds : List PyData} {vs : List V}, DpAll K H vs ds → DgAll K H vs ds
  | _, _, .nil => .nil
  | _, _, .cons a r => .cons (Dg.of a) (DgAll.of r)
end
theorem sqT_same {K : PySem.W.Frag} {H H' : Hp} (s : Same H H') {a : Addr} {xs : List V} (h : SqT K H a xs) : SqT K H' a xs := by
  rcases h with (h | ⟨o, h⟩) | h
  · exact .inl (.inl (s _ _ h))
  · exact .inl (.inr ⟨o, s _ _ h⟩)
  · exact .inr h
mutual
theorem Dg.same {K : PySem.W.Frag} {H H' : Hp} (s : Same H H') : ∀ {d : PyData} {v : V}, Dg K H v d → Dg K H' v d
  | _, _, .non => .non
  | _, _, .bl b => .bl b
  | _, _, .int i => .int i
  | _, _, .str x => .str x
  | _, _, .lst h r => .lst (s.seq h) (DgAll.same s r)
  | _, _, .tup h r => .tup (sqT_same s h) (DgAll.same s r)
  | _, _, .dk h r => .dk (s _ _ h) (DgKv.same s r)
  | _, _, .dt h r => .dt (s _ _ h) (DgKt.same s r)
theorem DgAll.same {K : PySem.W.Frag} {H H' : Hp} (s : Same H H') : ∀ {ds : List PyData} {vs : List V}, DgAll K H vs ds → DgAll K H' vs ds
  | _, _, .nil => .nil
  | _, _, .cons a r => .cons (Dg.same s a) (DgAll.same s r)
theorem DgKv.same {K : PySem.W.Frag} {H H' : Hp} (s : Same H H') : ∀ {ds : List (PyData × PyData)} {vs : List (Key × V)}, DgKv K H vs ds → DgKv K H' vs ds
  | _, _, .nil => .nil
  | _, _, .cons a r => .cons (Dg.same s a) (DgKv.same s r)
theorem DgKt.same {K : PySem.W.Frag} {H H' : Hp} (s : Same H H') : ∀ {ds : List (PyData × PyData)} {vs : List (List Key × V)}, DgKt K H vs ds → DgKt K H' vs ds
  | _, _, .nil => .nil
  | _, _, .cons a r => .cons (Dg.same s a) (DgKt.same s r)
end
section
variable {X : Cx} {pins : List (Addr × Obj)} {σ : L2.St} {H : Hp} {s : Shared}
theorem key_one {P : Program} {w : World} {h : Heap} {k : Key} {u : Value} (hk : keyIs k u = true) : One P w h u (kD k) := by
  rcases keyIs_shape hk with ⟨i, t, e1, e2⟩ | ⟨x, t, e1, e2⟩
  · rw [e1, e2]
    exact .plain (.int i t) (by unfold kD PyData.hasDict; rfl)
  · rw [e1, e2]
    exact .plain (.str x t) (by unfold kD PyData.hasDict; rfl)
theorem key_row {P : Program} {w : World} {h : Heap} : ∀ (ks : List Key) (us : List Value), Vals (ks.map kV) us → Row P w h us (ks.map kD)
  | [], _, r => by
    cases r
    exact .nil
  | .inl i :: ks, _, r => by
    cases r with
    | cons r1 r2 =>
      obtain ⟨t, rfl⟩ := r1
      exact .cons (.plain (.int i t) (by unfold kD PyData.hasDict; rfl)) (key_row ks _ r2)
  | .inr x :: ks, _, r => by
    cases r with
    | cons r1 r2 =>
      obtain ⟨t, rfl⟩ := r1
      exact .cons (.plain (.str x t) (by unfold kD PyData.hasDict; rfl)) (key_row ks _ r2)
mutual
theorem Dg.one (I : Inv X pins σ H s) : ∀ {d : PyData} {v : V} {u : Value}, Dg X.K H v d → RelV v u → One X.prog X.w s.heap u d
  | _, _, _, .non, r => by cases r; exact .plain .none (by unfold PyData.hasDict; rfl)
  | _, _, _, .bl b, r => by cases r; exact .plain (.bool b) (by unfold PyData.hasDict; rfl)
  | _, _, _, .int i, r => by obtain ⟨t, rfl⟩ := r; exact .plain (.int i t) (by unfold PyData.hasDict; rfl)
  | _, _, _, .str x, r => by obtain ⟨t, rfl⟩ := r; exact .plain (.str x t) (by unfold PyData.hasDict; rfl)
  | _, _, _, .lst h q, r => by
    cases r
    obtain ⟨its, rv, ⟨o, n, ho, hc, _, hd⟩, _⟩ := I.list h
    exact .lst ho hc hd (DgAll.row I q rv)
  | _, _, _, .tup h q, r => by
    cases r
    obtain ⟨its, rv, ⟨o, ho, hc, n, hd⟩, _⟩ := I.tuple h
    exact .tup ho hc hd (DgAll.row I q rv)
  | _, _, _, .dk (a := a) (kvs := kvs) h q, r => by
    cases r
    obtain ⟨_, sys, vs, kv, o, es, ep, h1, h2, h3, h4, h5, h6⟩ := (show ObjOk X.prog X.w H s.heap a (.dK kvs) from I.hok a _ h)
    obtain ⟨i1, i2⟩ := DgKv.rows I h5 kv q
    exact .dic h1 h2.1 h3 sys i1 i2
  | _, _, _, .dt (a := a) (kvs := kvs) h q, r => by
    cases r
    obtain ⟨_, sys, xs, hp, o, es, ep, h1, h2, h3, h4, h5⟩ := (show ObjOk X.prog X.w H s.heap a (.dT kvs) from I.hok a _ h)
    obtain ⟨i1, i2⟩ := DgKt.rows I q hp
    refine .dic h1 h2.1 h3 sys ?_ ?_
    · rw [h4, List.map_map]
      exact i1
    · rw [h4, List.map_map]
      exact i2
theorem DgAll.row (I : Inv X pins σ H s) : ∀ {ds : List PyData} {vs : List V} {us : List Value}, DgAll X.K H vs ds → Vals vs us → Row X.prog X.w s.heap us ds
  | _, _, _, .nil, r => by cases r; exact .nil
  | _, _, _, .cons a q, r => by
    cases r with
    | cons r1 r2 => exact .cons (Dg.one I a r1) (DgAll.row I q r2)
theorem DgKv.rows (I : Inv X pins σ H s) : ∀ {ds : List (PyData × PyData)} {kvs : List (Key × V)} {es : List DictEntry} {vs : List (Key × Value)}, Pairs (mixKind X.prog X.w) es vs → KV kvs vs → DgKv X.K H kvs ds →
    Row X.prog X.w s.heap (es.map (·.key)) (ds.map (·.1)) ∧ Row X.prog X.w s.heap (es.map (·.val)) (ds.map (·.2))
  | _, _, _, _, p, kv, .nil => by
    cases kv
    cases p
    exact ⟨.nil, .nil⟩
  | _, _, _, _, p, kv, .cons a q => by
    cases kv with
    | cons z kv =>
      cases p with
      | cons hk hv p =>
        obtain ⟨i1, i2⟩ := DgKv.rows I p kv q
        obtain ⟨z1, z2⟩ := z
        refine ⟨.cons ?_ i1, .cons ?_ i2⟩
        · simp only at z1
          rw [z1]
          exact key_one hk
        · show One _ _ _ (DictEntry.val _) _
          rw [hv]
          exact Dg.one I a z2
theorem DgKt.rows (I : Inv X pins σ H s) : ∀ {ds : List (PyData × PyData)} {kvs : List (List Key × V)} {xs : List (List Key × Addr × Value)}, DgKt X.K H kvs ds → Paired (fun (p : List Key × V) (q : List Key × Addr × Value) => p.1 = q.1 ∧ H q.2.1 = some (.tup (p.1.map kV)) ∧ RelV p.2 q.2.2) kvs xs →
    Row X.prog X.w s.heap (xs.map ((·.key) ∘ entryOfKey (tupleKind (mixKind X.prog X.w)))) (ds.map (·.1)) ∧ Row X.prog X.w s.heap (xs.map ((·.val) ∘ entryOfKey (tupleKind (mixKind X.prog X.w)))) (ds.map (·.2))
  | _, _, _, .nil, p => by
    cases p
    exact ⟨.nil, .nil⟩
  | _, _, _, .cons (k := k) a q, p => by
    cases p with
    | cons z p =>
      obtain ⟨i1, i2⟩ := DgKt.rows I q p
      obtain ⟨z1, z2, z3⟩ := z
      refine ⟨.cons ?_ i1, .cons (Dg.one I a z3) i2⟩
      have hk : ∀ {c : Addr}, H c = some (.tup (k.map kV)) → One X.prog X.w s.heap (.ref c) (.tuple (k.map kD)) := fun {c} e => by
        obtain ⟨its, rv, ⟨o, ho, hc, n, hd⟩, _⟩ := I.tuple (.inl (.inl e))
        exact .tup ho hc hd (key_row k its rv)
      exact hk z2
end
def rShowG (K : PySem.W.Frag) : List V → Hp → VK → Prop := fun xs H Q => ∃ (v : V) (d : PyData), xs = [v] ∧ Dg K H v d ∧
  d.showable = true ∧ d.depth ≤ 30 ∧ d.shown.length ≤ sizeLine ∧ Q (.str d.shown) H
/-- repr of data, dicts let -/
theorem call_showG (hG : X.A.guards = some []) {k : Nat} (hr : Room k X.A) : CallR X (.builtin "repr") (rShowG X.K) := by
  intro pins s σ H xs us Q I r h
  obtain ⟨v, d, rfl, hd, hs, h30, hz, q⟩ := h
  obtain ⟨u, rfl, r1⟩ := vals1 r
  have on := hd.one I r1
  have hu := hr.units
  have obj : ∀ a, u = .ref a → wpAny (model X.prog X.w) X.A (call (.builtin "repr") [u]) (EP X pins σ Q) X.xe s := fun a e => by
    subst e
    obtain ⟨T, idr, S⟩ := on.top hs hz a rfl
    refine call_repr_slot (by omega) (S.typeIs s fun _ _ z => z) S.slotRepr (S.call X.A.in1 _ s _ hG ?_ (fun _ _ z => z) fun h' u tk hk => ⟨_, _, rfl, ⟨.str _, H, I.kept hk, ⟨u, rfl⟩, q⟩⟩)
    show X.A.units + 1 + _ < cLine
    omega
  cases hd with
  | non =>
    cases r1
    unfold PyData.shown at q
    exact PySem.P.repr_of_none ⟨.str _, H, I.tok _, ⟨_, rfl⟩, q⟩
  | bl b =>
    cases r1
    unfold PyData.shown at q
    exact PySem.P.repr_of_bool ⟨.str _, H, I.tok _, ⟨_, rfl⟩, q⟩
  | int i =>
    obtain ⟨t, rfl⟩ := r1
    unfold PyData.shown at q
    unfold PyData.showable at hs
    exact PySem.P.repr_of_int (of_decide_eq_true hs) ⟨.str _, H, I.tok _, ⟨_, rfl⟩, q⟩
  | str x =>
    obtain ⟨t, rfl⟩ := r1
    unfold PyData.shown at q hz
    exact PySem.P.repr_of_str ⟨.str _, H, I.tok _, ⟨_, rfl⟩, q⟩ hz
  | lst _ _ => exact obj _ r1
  | tup _ _ => exact obj _ r1
  | dk _ _ => exact obj _ r1
  | dt _ _ => exact obj _ r1
/-- the same, the module's part given -/
theorem call_showK {K : PySem.W.Frag} (hG : X.A.guards = some []) {k : Nat} (hr : Room k X.A) (hK : X.K = K := by rfl) : CallR X (.builtin "repr") (rShowG K) := by
  subst hK
  exact call_showG hG hr
end
/-- what repr asks of a thing, dicts let -/
structure ShowG (d : PyData) : Prop where
  sh : d.showable = true
  dp : d.depth ≤ 30
  ln : d.shown.length ≤ sizeLine
theorem Ft.g {w k : Nat} {d : PyData} (h : Ft w k d) (hk : k ≤ 30 := by decide) (hw : w ≤ 16000 := by decide) : ShowG d := by
  have := h.showy hk hw
  exact ⟨this.sh, this.dp, this.ln⟩
/-- data that fits, dicts let -/
structure Fg (w k : Nat) (d : PyData) : Prop where
  sh : d.showable = true
  dp : d.depth ≤ k
  lv : d.leavesShort 1000 = true
  wt : d.weight ≤ w
structure FgA (w k : Nat) (ds : List PyData) : Prop where
  sh : PyData.showableAll ds = true
  dp : PyData.depthAll ds ≤ k
  lv : PyData.leavesShortAll 1000 ds = true
  wt : PyData.weightAll ds ≤ w
structure FgK (w k : Nat) (ds : List (PyData × PyData)) : Prop where
  sh : PyData.showableKv ds = true
  dp : PyData.depthKv ds ≤ k
  lv : PyData.leavesShortKv 1000 ds = true
  wt : PyData.weightKv ds ≤ w
theorem Ft.fg {w k : Nat} {d : PyData} (h : Ft w k d) : Fg w k d := ⟨h.sh, h.dp, h.lv, h.wt⟩
theorem FtA.fg {w k : Nat} {ds : List PyData} (h : FtA w k ds) : FgA w k ds := ⟨h.sh, h.dp, h.lv, h.wt⟩
theorem Fg.le {w k w' k' : Nat} {d : PyData} (h : Fg w k d) (hw : w ≤ w') (hk : k ≤ k') : Fg w' k' d := ⟨h.sh, Nat.le_trans h.dp hk, h.lv, Nat.le_trans h.wt hw⟩
theorem FgA.le {w k w' k' : Nat} {ds : List PyData} (h : FgA w k ds) (hw : w ≤ w') (hk : k ≤ k') : FgA w' k' ds := ⟨h.sh, Nat.le_trans h.dp hk, h.lv, Nat.le_trans h.wt hw⟩
theorem FgA.nil : FgA 0 0 [] := FtA.nil.fg
theorem FgA.cons {w k w' k' : Nat} {d : PyData} {ds : List PyData} (h : Fg w k d) (r : FgA w' k' ds) : FgA (w + 1 + w') (max k k') (d :: ds) := by
  refine ⟨?_, ?_, ?_, ?_⟩
  · simp only [PyData.showableAll, h.sh, r.sh, Bool.and_self]
  · simp only [PyData.depthAll]
    have := h.dp
    have := r.dp
    omega
  · simp only [PyData.leavesShortAll, h.lv, r.lv, Bool.and_self]
  · simp only [PyData.weightAll]
    have := h.wt
    have := r.wt
    omega
theorem FgA.all {w k : Nat} : ∀ {ds : List PyData}, (∀ d ∈ ds, Fg w k d) → FgA ((w + 1) * ds.length) k ds
  | [], _ => FgA.nil.le (Nat.zero_le _) (Nat.zero_le _)
  | d :: ds, h => by
    have r := FgA.cons (h d List.mem_cons_self) (FgA.all fun x hx => h x (List.mem_cons_of_mem _ hx))
    refine r.le ?_ (by omega)
    rw [List.length_cons, Nat.mul_succ]
    omega
theorem Fg.list {w k : Nat} {ds : List PyData} (r : FgA w k ds) : Fg w (k + 1) (.list ds) :=
  ⟨by simp only [PyData.showable]; exact r.sh, by simp only [PyData.depth]; exact Nat.succ_le_succ r.dp, by simp only [PyData.leavesShort]; exact r.lv, by simp only [PyData.weight]; exact r.wt⟩
theorem Fg.tuple {w k : Nat} {ds : List PyData} (r : FgA w k ds) : Fg w (k + 1) (.tuple ds) :=
  ⟨by simp only [PyData.showable]; exact r.sh, by simp only [PyData.depth]; exact Nat.succ_le_succ r.dp, by simp only [PyData.leavesShort]; exact r.lv, by simp only [PyData.weight]; exact r.wt⟩
theorem FgK.nil : FgK 0 0 [] := ⟨by simp only [PyData.showableKv], by simp only [PyData.depthKv, Nat.le_refl], by simp only [PyData.leavesShortKv], by simp only [PyData.weightKv, Nat.le_refl]⟩
theorem FgK.cons {w k w1 k1 w' k' : Nat} {d e : PyData} {ds : List (PyData × PyData)} (h : Fg w k d) (h1 : Fg w1 k1 e) (r : FgK w' k' ds) : FgK (w + w1 + 2 + w') (max (max k k1) k') ((d, e) :: ds) := by
  refine ⟨?_, ?_, ?_, ?_⟩
  · simp only [PyData.showableKv, h.sh, h1.sh, r.sh, Bool.and_self]
  · simp only [PyData.depthKv]
    have := h.dp
    have := h1.dp
    have := r.dp
    omega
  · simp only [PyData.leavesShortKv, h.lv, h1.lv, r.lv, Bool.and_self]
  · simp only [PyData.weightKv]
    have := h.wt
    have := h1.wt
    have := r.wt
    omega
theorem Fg.dict {w k : Nat} {ds : List (PyData × PyData)} (r : FgK w k ds) : Fg w (k + 1) (.dict ds) :=
  ⟨by simp only [PyData.showable]; exact r.sh, by simp only [PyData.depth]; exact Nat.succ_le_succ r.dp, by simp only [PyData.leavesShort]; exact r.lv, by simp only [PyData.weight]; exact r.wt⟩
theorem Fg.g {w k : Nat} {d : PyData} (h : Fg w k d) (hk : k ≤ 30 := by decide) (hw : w ≤ 16000 := by decide) : ShowG d := by
  refine ⟨h.sh, Nat.le_trans h.dp hk, ?_⟩
  have e := PyData.shown_le 1000 (by decide) d h.lv
  have e2 := h.wt
  have e3 : (1000 + 2) * d.weight ≤ 1002 * 16000 := Nat.mul_le_mul (Nat.le_refl _) (Nat.le_trans e2 hw)
  have e4 := sizeLine_eq
  omega
end Lf

set_option Elab.async false
set_option linter.all false
set_option maxRecDepth 100000
set_option maxHeartbeats 4000000
set_option exponentiation.threshold 3000
/-! == by an own __eq__ that tells True or False, repr by an own __repr__, where no guard stands. -/
namespace Lf
open PySem PySem.Spec PyProof.Rows L2
/-- the special method m of the class at C, and what it promises -/
structure OwnM (P : Program) (w : World) (K : PySem.W.Frag) (mg : Str → Option Value) (base : Heap) (k : Nat) (C : Addr) (m : Str) (f : Addr) (fd : FuncData) (ps : List Str) (sp : Sp) : Prop where
  at_ : PySem.W.findIn K (.ref C) m = some (some (.ref f))
  isf : PySem.W.isFn K (.ref f) = true
  fn : FnG P w K mg base CX0 k f fd ps sp
  b : ∀ (s : Shared) (us : List Value), us.length = ps.length → BindsTo s fd ⟨us, []⟩ (ps.zip us)
section
variable {X : Cx} {k : Nat} {f C : Addr} {fd : FuncData} {ps : List Str} {sp : Sp} {m : Str}
/-- a special method runs on an object, in the caller's around or just below it -/
theorem OwnM.run (M : OwnM X.prog X.w X.K X.mg X.base k C m f fd ps sp) {B : Around} (hr : Room k B) (hG : B.guards = some []) (hf : B.frames = X.A.frames) {pins : List (Addr × Obj)} {σ : L2.St} {H : Hp} {s : Shared} {Q : VK} {us : List Value} {vs : List V}
    (I : Inv X pins σ H s) (r : Vals vs us) (h : sp vs H Q E0) : wpAny (model X.prog X.w) B (call (.ref f) us) (EP X pins σ Q) X.xe s := by
  have e := I.env0
  have e0 : Env0 X.prog X.w X.K X.mg X.base B X.stack s H := { frames := hf ▸ e.frames, mod := e.mod, bs := e.bs, bsz := e.bsz, funs := e.funs, frf := e.frf, hok := e.hok, bare := e.bare }
  have hl : us.length = ps.length := r.length ▸ M.fn.size _ _ _ _ h
  refine wpAny_call (codeAny_mono (M.fn.goes B X.stack s H ⟨us, []⟩ us vs Q E0 hr hG e0 (M.b s us hl) r h) fun z s' q => ?_)
  match z, q with
  | .ok (.ret u), q => exact I.after q
/-- the object's class, as the library looks at it -/
theorem ins_at {pins : List (Addr × Obj)} {σ : L2.St} {H : Hp} {s : Shared} {a dx : Addr} {fs : List (Str × V)} (I : Inv X pins σ H s) (e : H a = some (.ins C dx fs)) : ∃ od, PySem.W.InstAt s.heap a (PySem.W.instObj C dx) C (some od) := by
  obtain ⟨mA, J, _⟩ := ins_get I.hok e
  obtain ⟨od, J, _⟩ := J.look
  exact ⟨od, J⟩
/-- x == y, x an object of the class at C -/
def rEqO (K : PySem.W.Frag) (C : Addr) (sp : Sp) : R2 := fun x y H Q => ∃ (a dx : Addr) (fs : List (Str × V)) (t : Value), x = .ref a ∧ H a = some (.ins C dx fs) ∧ TyX K H y t ∧ PySem.W.notFirst K C t = true ∧ sp [x, y] H (fun v H' => ∃ b, v = .bl b ∧ Q (.bl b) H') E0
theorem op_eqO (M : OwnM X.prog X.w X.K X.mg X.base k C "__eq__" f fd ps sp) (hr : Room k X.A) (hG : X.A.guards = some []) : OpR X (compareOp .Eq) (rEqO X.K C sp) := by
  rintro pins s σ H x y v u Q I rx ry ⟨a, dx, fs, t, rfl, ea, ty, hn, q⟩
  cases (show v = Value.ref a from rx)
  obtain ⟨od, J⟩ := ins_at I ea
  obtain ⟨m, hF⟩ := I.fr
  obtain ⟨T, kit, hT, _⟩ := kit_of I ry ty
  refine PySem.W.cmp_K (op := .Eq) hr.units0 hF I.ok.mod.kin J (kit.ty _ _ I.kIn hT) hn M.at_ M.isf ?_
  refine wpAny_mono (M.run (vs := [V.ref a, y]) hr hG rfl I (.cons rfl (.cons ry .nil)) q) (fun z s' hz => ?_) fun _ _ e => e
  obtain ⟨zv, H', I', rz, b, rfl, hq⟩ := hz
  cases rz
  exact ⟨.bl b, H', I', rfl, hq⟩
/-- the same, the module's part given -/
theorem op_eqOK {K : PySem.W.Frag} (M : OwnM X.prog X.w X.K X.mg X.base k C "__eq__" f fd ps sp) (hr : Room k X.A) (hG : X.A.guards = some []) (hK : X.K = K := by rfl) : OpR X (compareOp .Eq) (rEqO K C sp) := hK ▸ op_eqO M hr hG
/-- repr(x), x an object of the class at C -/
def rReprO (C : Addr) (sp : Sp) : List V → Hp → VK → Prop := fun xs H Q => ∃ (a dx : Addr) (fs : List (Str × V)), xs = [.ref a] ∧ H a = some (.ins C dx fs) ∧ sp [.ref a] H (fun v H' => ∃ t, v = .str t ∧ Q (.str t) H') E0
theorem call_reprO (M : OwnM X.prog X.w X.K X.mg X.base k C "__repr__" f fd ps sp) (hr : Room (k + 1) X.A) (hG : X.A.guards = some []) : CallR X (.builtin "repr") (rReprO C sp) := by
  rintro pins s σ H xs us Q I r ⟨a, dx, fs, rfl, ea, q⟩
  obtain ⟨u, rfl, r1⟩ := vals1 r
  cases (show u = Value.ref a from r1)
  obtain ⟨od, J⟩ := ins_at I ea
  obtain ⟨m, hF⟩ := I.fr
  refine PySem.W.repr_K hr.in1.units0 hF I.ok.mod.kin J M.at_ M.isf ?_
  refine wpAny_mono (M.run (vs := [V.ref a]) hr.in1 hG rfl I (.cons rfl .nil) q) (fun z s' hz => ?_) fun _ _ e => e
  obtain ⟨zv, H', I', rz, t, rfl, hq⟩ := hz
  obtain ⟨tk, rfl⟩ := rz
  exact ⟨.str t, H', I', ⟨tk, rfl⟩, hq⟩
/-- o.m(k = e, ..): by names alone, in the parameters' order -/
theorem pe_meGK {pl : Sem Bool} {ks : List Str} {o : Expr} {kws : List Keyword} {ta : TE} {tk : TA} {pos apos : Pos} (he : PE X o ta) (M : MetG X.prog X.w X.K X.mg X.base CX0 k C m f fd ps sp) (hb : ∀ (s : Shared) (u : Value) (us : List Value), us.length = ks.length → BindsTo s fd ⟨[u], ks.zip us⟩ (ps.zip (u :: us))) (hr : Room k X.A) (hG : X.A.guards = some []) (hp : ps.length = ks.length + 1)
    (hk : PK X kws tk) (hks : (backToKw pos (keywordEach kws X.env)).filterMap (·.1) = ks := by rfl) (hall : (backToKw pos (keywordEach kws X.env)).all (·.1.isSome) = true := by rfl)
    (hpl : ((backTo pos (starEach [] X.env)).any (·.1) || (backToKw pos (keywordEach kws X.env)).any (·.1.isNone)) = false := by rfl)
    (ht : eval (.Call (.Attribute o m apos) [] kws pos) X.env = (do
      let ov ← eval o X.env
      standAt apos.atName
      let (g, first) ← holding [ov] (getMethod ov m pl)
      callWith pos g first (backTo pos (starEach [] X.env)) (backToKw pos (keywordEach kws X.env))) := by rfl) : PE X (.Call (.Attribute o m apos) [] kws pos) (tMeG C m sp (fun _ => E0) ta tk) := by
  refine ⟨fun pins s σ H Q I h => PySem.W.methodCall_KW (pl := pl) (thn (he.run pins s σ H _ I h) fun u s1 ⟨x, H1, I1, rx, a, dx, fs, ex, ea, l, q⟩ => ?_) ht⟩
  subst ex
  cases (show u = Value.ref a from rx)
  refine getmeth_ok I1 ea M.c M.m l (PySem.W.callWith_KW0 (first := [.ref a]) (h₀ := X.base) I.ok.mod.kin M.m.kp hall (thn (hk.run pos pins s1 σ H1 _ I1 q) fun us s2 ⟨vs, H2, I2, r, q2⟩ => ⟨I2.kIn, ?_⟩) hpl)
  rw [hks]
  have hl := M.fn.size _ _ _ _ q2
  have hl2 : us.length = ks.length := by
    have := r.length
    rw [List.length_cons] at hl
    omega
  exact run_g (ar := ⟨[.ref a], ks.zip us⟩) (us := .ref a :: us) (vs := .ref a :: vs) M.fn hr hG pass_no I2 (hb s2 (.ref a) us hl2) (.cons rfl r) q2
end
end Lf

set_option Elab.async false
set_option linter.all false
set_option maxRecDepth 100000
set_option maxHeartbeats 4000000
set_option exponentiation.threshold 3000
namespace Lf
open PySem PySem.Spec PyProof.Rows L2
section
variable {P : Program} {w : World} {K : PySem.W.Frag} {mg : Str → Option Value} {base : Heap} {c0 c1 cw : Addr}
def gPri {α : Type} (us ds ws : List α) : List α := us ++ (ds.take 4 ++ ws)

/-! ### _law_right -/
theorem sc__law_right : FnScope ["_law_pot_here", "_law_words", "_law_name_here", "_law_stuff", "_law_one", "_law_at", "_law_args", "_law_word_here", "_law_rest", "_law_due", "_law_turn", "_law_way", "_law_thing"] ["_law_pot_here"] (defScope s__law_right) := ⟨rfl, rfl, rfl, by decide +kernel, rfl, by decide +kernel, by decide +kernel⟩
/-- the measures of the stuff -/
def fiveD : List PyData := [tD (0, 1), tD (0, 1), tD (0, 1), tD (0, 1), tD (7, 2)]
def fiveF : List (Int × Int) := [(0, 1), (0, 1), (0, 1), (0, 1), (7, 2)]
theorem dq_two {K : PySem.W.Frag} {H : Hp} {v : V} {f : Int × Int} (h : AtK K H v f) : Dq K H v (tD f) := by
  obtain ⟨p, rfl, hp⟩ := h
  exact .dp (.tup hp (.cons (.int _) (.cons (.int _) .nil))) (by simp [tD, PyData.hasDict, PyData.hasDictAll])
theorem dp_two {K : PySem.W.Frag} {H : Hp} {v : V} {f : Int × Int} (h : AtK K H v f) : Dp K H v (tD f) := by
  obtain ⟨p, rfl, hp⟩ := h
  exact .tup hp (.cons (.int _) (.cons (.int _) .nil))
theorem dq_self {K : PySem.W.Frag} {H : Hp} {v : V} {d : PyData} (h : Dq K H v d) : EqV K H 1 v v := by
  cases h with
  | dp h n =>
    cases h with
    | tup _ _ => exact .inr (.inl ⟨_, rfl, rfl⟩)
    | lst _ _ => exact .inr (.inl ⟨_, rfl, rfl⟩)
    | _ => exact .inl ⟨rfl, rfl⟩
  | dic h p => exact .inr (.inl ⟨_, rfl, rfl⟩)
theorem eq_bl {K : PySem.W.Frag} {H : Hp} (b : Bool) : EqV K H 1 (.bl b) (.bl b) := .inl ⟨rfl, rfl⟩
theorem eq_td {K : PySem.W.Frag} {H : Hp} (b1 b2 b3 : Bool) {r : List V} (h : Paired (EqV K H 1) r r) : Paired (EqV K H 1) (tdL b1 b2 b3 r) (([.bl b1, .bl b2, .bl b3] ++ [.bl true, .bl false, .bl false, .bl false, .bl false]) ++ r) :=
  .cons (eq_bl _) (.cons (eq_bl _) (.cons (eq_bl _) (.cons (eq_bl _) (.cons (eq_bl _) (.cons (eq_bl _) (.cons (eq_bl _) (.cons (eq_bl _) h)))))))
theorem atk_lst {K : PySem.W.Frag} {H : Hp} {D : Addr} {xs ys : List V} {v : V} {f : Int × Int} (e : H D = some (.lst xs)) (h : AtK K H v f) : AtK K (L2.upd H D (.lst ys)) v f := by
  obtain ⟨p, ev, h⟩ := h
  refine ⟨p, ev, ?_⟩
  rcases h with (h | ⟨o, h⟩) | h
  · exact .inl (.inl (by rw [upd_ne (fun z => by rw [z, e] at h; cases h)]; exact h))
  · exact .inl (.inr ⟨o, by rw [upd_ne (fun z => by rw [z, e] at h; cases h)]; exact h⟩)
  · exact .inr h
theorem five_words : ∀ j, j < 5 → ∃ wd f, words[j]? = some wd ∧ fiveF[j]? = some f ∧ fiveD[j]? = some (tD f) ∧ isM (tD f) = true := by
  intro j hj
  match j, hj with
  | 0, _ => exact ⟨_, _, rfl, rfl, rfl, by decide +kernel⟩
  | 1, _ => exact ⟨_, _, rfl, rfl, rfl, by decide +kernel⟩
  | 2, _ => exact ⟨_, _, rfl, rfl, rfl, by decide +kernel⟩
  | 3, _ => exact ⟨_, _, rfl, rfl, rfl, by decide +kernel⟩
  | 4, _ => exact ⟨_, _, rfl, rfl, rfl, by decide +kernel⟩
theorem sqt_pot {K : PySem.W.Frag} {q l : Addr} {H H' : Hp} {xs : List V} (b : But q H H') (hP : Pot H q) (h : SqT K H l xs) : SqT K H' l xs := by
  obtain ⟨_, _, _, _, e⟩ := hP
  rcases h with (h | ⟨o, h⟩) | h
  · exact .inl (.inl (b _ _ (fun z => by rw [z, e] at h; cases h) h))
  · exact .inl (.inr ⟨o, b _ _ (fun z => by rw [z, e] at h; cases h) h⟩)
  · exact .inr h
theorem atk_pot {K : PySem.W.Frag} {q : Addr} {H H' : Hp} {v : V} {f : Int × Int} (b : But q H H') (hP : Pot H q) (h : AtK K H v f) : AtK K H' v f := let ⟨p, e, h⟩ := h; ⟨p, e, sqt_pot b hP h⟩
theorem at_of_dq {K : PySem.W.Frag} {H : Hp} {v : V} {f : Int × Int} (h : Dq K H v (tD f)) (m : isM (tD f) = true) : AtK K H v f := by
  obtain ⟨p, e, h1, _⟩ := meas h m
  exact ⟨p, e, h1⟩
/-- the stuff, its measures told -/
theorem so_pot {K : PySem.W.Frag} {q C x : Addr} {H H' : Hp} {z : Str} (b : But q H H') (hP : Pot H q) (h : StO K H C x (.str z) (.str z) fiveD) : StO K H' C x (.str z) (.str z) fiveD := by
  obtain ⟨dx, pm, xs, h1, _, h3, h4⟩ := h
  obtain ⟨_, _, _, _, e⟩ := id hP
  have go : ∀ {v : V} {f : Int × Int}, isM (tD f) = true → Dq K H v (tD f) → Dq K H' v (tD f) := fun m d => dq_two (atk_pot b hP (at_of_dq d m))
  refine ⟨dx, pm, xs, b _ _ (fun z => by rw [z, e] at h1; cases h1) h1, .dp (.str z) (by simp [PyData.hasDict]), sqt_pot b hP h3, ?_⟩
  unfold fiveD at h4 ⊢
  cases h4 with
  | cons d1 h4 => cases h4 with
    | cons d2 h4 => cases h4 with
      | cons d3 h4 => cases h4 with
        | cons d4 h4 => cases h4 with
          | cons d5 h4 => cases h4; exact .cons (go (by decide +kernel) d1) (.cons (go (by decide +kernel) d2) (.cons (go (by decide +kernel) d3) (.cons (go (by decide +kernel) d4) (.cons (go (by decide +kernel) d5) .nil))))
def sp_right (K : PySem.W.Frag) : Sp := fun vs H Q _ => ∃ (q : Addr), vs = [.ref q] ∧ Pot H q ∧ ∀ H', (∀ b o, b ≠ q → H b = some o → H' b = some o) → Q (.bl true) H'
theorem mid41 {n : Int} (h : n.natAbs < 2 ^ 45) : Mid n := Nat.lt_of_lt_of_le h (Nat.pow_le_pow_right (by decide) (by decide))
theorem fw_none {z : Str} (h : isNm (.str z) = true) : fwR (.str z) ([PyData.none, .none, .none, .none, tD (7, 2)].map orNone) = none := by
  unfold fwR
  rw [if_neg (by rw [h]; decide)]
  decide +kernel
set_option maxHeartbeats 16000000 in
theorem ok_right {C CF DN DS f fm fS : Addr} {fd fdm fdS : FuncData} {gg : List Value → List Value → List Value} (M : Blt mg) (Me : mg "enumerate" = none) (Mm : MetG P w K mg base CX0 3 C "measure" fm fdm ["self", "word"] (fun vs H Q _ => sp_mesX K C DN vs H Q E0)) (MS : MakG P w K mg base CX0 9 "Stuff" C fS fdS ["self", "name", "flour", "water", "salt", "thirst", "price"] (fun vs H Q _ => sp_init K C DS vs H Q E0)) (hPri : KBn K fdS ["self", "name", "flour", "water", "salt", "thirst", "price"] (1 + 1) ["price"] gg (fun vs zs => gPri vs [.non, .non, .non, .non, .non] zs))
    (F : Fun K "_law_right" "_law_right" s__law_right f fd) (C__law_draw : Cal P w K mg base CX0 1 "_law_draw" ["_law_pot_here", "_law_many"] (sp_draw)) (C__law_low : Cal P w K mg base CX0 1 "_law_low" ["_law_top", "_law_bottom"] (sp_low)) (C__law_name : Cal P w K mg base CX0 2 "_law_name" ["_law_pot_here", "_law_taken"] (sp_name K)) (C__law_word : Cal P w K mg base CX0 4 "_law_word" ["_law_pot_here"] (sp_word K)) (C__law_told : Cal P w K mg base CX0 12 "_law_told" ["_law_way", "_law_stuff", "_law_thing"] (sp_told K C CF DN DS)) : FnG P w K mg base CX0 13 f fd ["_law_pot_here"] (sp_right K) := by
  refine Gfun F sc__law_right (fun vs H Q E h => ?_) (fun cdv A outer s H vs Q E hg hr h => ?_)
  · obtain ⟨q, rfl, _⟩ := h
    rfl
  · obtain ⟨q, rfl, P0, k⟩ := h
    refine ⟨_, (pss_cons (ps_set (i := 1) sc__law_right.nd rfl (.inl rfl) (pe_lst (pa_cons pe_str (pa_cons pe_str (pa_cons pe_str (pa_cons pe_str (pa_cons pe_str pa_nil)))))))
      (pss_cons (ps_set (i := 2) sc__law_right.nd rfl (.inl rfl) (pe_g C__law_name (hr.mono (by decide)) hg (pa_cons (pv 0) (pa_cons (pe_lst pa_nil) pa_nil))))
      (pss_cons (ps_set (i := 3) sc__law_right.nd rfl (.inr rfl) (pe_mkGK MS hPri (hr.mono (by decide)) hg (fun _ => pass_no) (pa_cons (pv 2) pa_nil) (pk_cons (pe_tup (pa_cons pe_int (pa_cons pe_int pa_nil))) pk_nil)))
      (pss_cons (ps_set (i := 4) sc__law_right.nd rfl (.inl rfl) (pe_g C__law_low (hr.mono (by decide)) hg (pa_cons (pe_op op_add (pe_op op_sub (pe_g C__law_draw (hr.mono (by decide)) hg (pa_cons (pv 0) (pa_cons (pe_op op_sub (pe_op op_mulW pe_int (pe_op op_pow pe_int pe_int)) pe_int) pa_nil))) (pe_op op_pow pe_int pe_int)) pe_int) (pa_cons (pe_op op_add pe_int (pe_g C__law_draw (hr.mono (by decide)) hg (pa_cons (pv 0) (pa_cons (pe_op op_sub (pe_op op_pow pe_int pe_int) pe_int) pa_nil)))) pa_nil))))
      (pss_cons (ps_set (i := 5) sc__law_right.nd rfl (.inl rfl) (pe_g C__law_draw (hr.mono (by decide)) hg (pa_cons (pv 0) (pa_cons pe_int pa_nil))))
      (pss_cons (ps_set (i := 6) sc__law_right.nd rfl (.inl rfl) (pe_lst (pa_cons (pv 2) (pa_cons (pe_tup (pa_cons pe_int (pa_cons pe_int pa_nil))) (pa_cons (pe_tup (pa_cons pe_int (pa_cons pe_int pa_nil))) (pa_cons (pe_tup (pa_cons pe_int (pa_cons pe_int pa_nil))) (pa_cons (pe_tup (pa_cons pe_int (pa_cons pe_int pa_nil))) (pa_cons (pe_tup (pa_cons pe_int (pa_cons pe_int pa_nil))) pa_nil))))))))
      (pss_cons (ps_asg (pe_ix ix_list (pe_lst (pa_cons pe_int (pa_cons (pe_tup (pa_cons (pe_un un_neg pe_int) (pa_cons pe_int pa_nil))) pa_nil))) (pe_callTy call_int1 rfl M.int bt_int (pa_cons (pe_cmpR op_gt (pv 5) pe_int (nomark _)) pa_nil)) (fun _ _ => rfl)) (pg_sub (pv 6) (pv 5) set_list))
      (pss_cons (ps_set (i := 7) sc__law_right.nd rfl (.inl rfl) (pe_g C__law_word (hr.mono (by decide)) hg (pa_cons (pv 0) pa_nil)))
      (pss_cons (ps_set (i := 8) sc__law_right.nd rfl (.inl rfl) (pe_lst (pa_cons pe_bl (pa_cons pe_bl (pa_cons pe_bl (pa_cons pe_bl (pa_cons pe_bl pa_nil)))))))
      (pss_cons (ps_set (i := 9) sc__law_right.nd rfl (.inl rfl) (pe_lst (pa_cons (pe_op op_cat (pe_lst (pa_cons pe_bl (pa_cons pe_bl (pa_cons pe_bl pa_nil)))) (pv 8)) (pa_cons (pe_op op_cat (pe_lst (pa_cons pe_bl (pa_cons pe_bl (pa_cons pe_bl pa_nil)))) (pv 8)) (pa_cons (pe_op op_cat (pe_op op_cat (pe_lst (pa_cons pe_bl (pa_cons pe_bl (pa_cons pe_bl pa_nil)))) (pv 8)) (pe_lst (pa_cons (pv 7) pa_nil))) pa_nil)))))
      (pss_cons (ps_expr (pe_bm PySem.F.plainAttrs_list PySem.F.slot_list_append PySem.F.type_list_append mt_append (pv 9) (pa_cons (pe_op op_cat (pe_op op_cat (pe_lst (pa_cons pe_bl (pa_cons pe_bl (pa_cons pe_bl pa_nil)))) (pv 8)) (pe_lst (pa_cons (pe_ix ix_list (pe_op op_cat (pe_lst (pa_cons pe_str pa_nil)) (pv 1)) (pv 5) (fun _ _ => rfl)) pa_nil))) pa_nil)))
      (pss_cons (ps_for PassesOwn.never rfl (pi_range1 rfl M.range (pa_cons pe_int pa_nil)) (pg_name (i := 10) sc__law_right.nd rfl (.inl rfl))
      (pss_cons (ps_for PassesOwn.never rfl (pi_enum rfl Me (pa_cons (pe_lst (pa_cons (pv 4) (pa_cons (pv 4) (pa_cons (pv 7) (pa_cons (pv 6) pa_nil))))) pa_nil)) (pg_tup rfl (pgs_cons (pg_name (i := 11) sc__law_right.nd rfl (.inl rfl)) (pgs_cons (pg_name (i := 12) sc__law_right.nd rfl (.inl rfl)) pgs_nil)))
      (pss_one (ps_if (pt_cmpR (op_neN (Nat.lt_of_succ_lt (u65 hr))) (pe_g C__law_told (hr.mono (by decide)) hg (pa_cons (pv 11) (pa_cons (pv 3) (pa_cons (pv 12) pa_nil)))) (pe_ix ix_list (pv 9) (pv 11) (fun _ _ => rfl)) (nomark _))
      (pss_one (ps_ret pe_bl))
      pss_nil)))
      (pss_one (ps_if (pt_cmpR (op_neD hr.units) (pe_lc (own := [("_law_one", 4)]) (g := gName 4) (tt := tYes) rfl sc__law_right.nd (pi_list (pv 1)) (blkOk_by (N := ["_law_pot_here", "_law_words", "_law_name_here", "_law_stuff", "_law_one", "_law_at", "_law_args", "_law_word_here", "_law_rest", "_law_due", "_law_turn", "_law_way", "_law_thing"]) (sc := defScope s__law_right) (by decide +kernel)) (fun _ _ _ _ _ => pg_name (i := 4) sc__law_right.nd rfl (Or.inl rfl)) (fun _ _ _ _ _ => pts_nil) (fun _ _ _ _ _ => (pe_meG (pv 3) Mm (hr.mono (by decide)) hg (fun _ => pass_no) (pa_cons (pv 4) pa_nil)))) (pe_op op_cat (pe_op op_rep (pe_lst (pa_cons (pe_tup (pa_cons pe_int (pa_cons pe_int pa_nil))) pa_nil)) pe_int) (pe_lst (pa_cons (pe_tup (pa_cons pe_int (pa_cons pe_int pa_nil))) pa_nil))) (nomark _))
      (pss_one (ps_ret pe_bl))
      pss_nil))))
      (pss_one (ps_ret pe_bl)))))))))))))), ?_⟩
    have sm : ∀ n : Int, 0 ≤ n → n < 2 ^ 45 → n.natAbs < 2 ^ 900 := fun n h0 h1 => Nat.lt_of_lt_of_le (show n.natAbs < 2 ^ 45 by omega) (Nat.pow_le_pow_right (by decide) (by decide))
    refine ⟨len_show (Nat.le_of_ble_eq_true rfl), fun W nW => ?_⟩
    have s1 : Same H (L2.upd H W (.lst [.str "flour", .str "water", .str "salt", .str "thirst", .str "price"])) := same_new nW
    have e1 : L2.upd H W (.lst [.str "flour", .str "water", .str "salt", .str "thirst", .str "price"]) W = some (.lst [.str "flour", .str "water", .str "salt", .str "thirst", .str "price"]) := upd_same
    generalize L2.upd H W (.lst [.str "flour", .str "water", .str "salt", .str "thirst", .str "price"]) = H1 at s1 e1 ⊢
    have e1 : H1 W = some (.lst (words.map V.str)) := e1
    have P1 := pot_same P0 s1
    have nWq := pot_ne P0 nW
    refine ⟨_, rfl, len_show (Nat.le_of_ble_eq_true rfl), fun E1 nE => ?_⟩
    have s2 : Same H1 (L2.upd H1 E1 (.lst [])) := same_new nE
    have e2 : L2.upd H1 E1 (.lst []) E1 = some (.lst []) := upd_same
    generalize L2.upd H1 E1 (.lst []) = H2 at s2 e2 ⊢
    have P2 := pot_same P1 s2
    refine ⟨q, E1, [], rfl, pot_ne P1 nE, P2, .inl (.inl e2), by decide, (fun x hx => nomatch hx), fun z H3 nmz zl _ P3 b3 => ?_⟩
    refine ⟨_, rfl, len_show (Nat.le_of_ble_eq_true rfl), fun tp ntp => ?_⟩
    have s4 : Same H3 (L2.upd H3 tp (.tup [.int 7, .int 2])) := same_new ntp
    have e4 : L2.upd H3 tp (.tup [.int 7, .int 2]) tp = some (.tup [.int 7, .int 2]) := upd_same
    generalize L2.upd H3 tp (.tup [.int 7, .int 2]) = H4 at s4 e4 ⊢
    have P4 := pot_same P3 s4
    have SZ : ∀ {G : Hp} (x : Str), Dq K G (.str x) (.str x) := fun x => .dp (.str x) (by simp [PyData.hasDict])
    have NN : ∀ {G : Hp}, Dq K G .non .none := .dp .non (by simp [PyData.hasDict])
    have a4 : AtK K H4 (.ref tp) (7, 2) := AtK.of e4
    refine ⟨rfl, rfl, fun x dx nx nd hdx => ?_⟩
    refine ⟨x, dx, H4, .str z, .str z, [.non, .non, .non, .non, .ref tp], [.none, .none, .none, .none, tD (7, 2)], rfl, rfl, nx, nd, hdx, rfl, SZ z, (fun y e => by cases e; omega), .cons NN (.cons NN (.cons NN (.cons NN (.cons (dq_two a4) .nil)))), (fun i hi _ => ?_), ?_⟩
    · match i, hi with
      | 0, _ => exact (by unfold Bt; decide +kernel : Bt 290 ((0 : Int), (1 : Int)))
      | 1, _ => exact (by unfold Bt; decide +kernel : Bt 290 ((0 : Int), (1 : Int)))
      | 2, _ => exact (by unfold Bt; decide +kernel : Bt 290 ((0 : Int), (1 : Int)))
    rw [fw_none nmz]
    refine fun H5 s5 so => ⟨rfl, ?_⟩
    have so : StO K H5 C x (.str z) (.str z) fiveD := so
    have P5 := pot_same P4 s5
    -- a fraction
    refine ⟨_, rfl, _, _, rfl, rfl, ⟨by decide, by decide, by decide⟩, _, _, rfl, rfl, Sm.mulW (by unfold Sm; decide +kernel) (by unfold Sm; decide +kernel), _, _, rfl, rfl, q, _, rfl, by decide +kernel, by decide +kernel, P5, fun r1 H6 r10 r11 P6 b6 => ?_⟩
    have r11' : r1 < 2 * 10 ^ 12 - 1 := r11
    refine ⟨_, _, rfl, rfl, ⟨by decide, by decide, by decide⟩, _, _, rfl, rfl, _, _, rfl, rfl, _, rfl, _, _, rfl, rfl, ⟨by decide, by decide, by decide⟩, _, _, rfl, rfl, q, _, rfl, by decide +kernel, by decide +kernel, P6, fun r2 H7 r20 r21 P7 b7 => ?_⟩
    have r21' : r2 < 10 ^ 12 - 1 := r21
    refine ⟨_, _, rfl, rfl, _, _, rfl, by omega, mid41 (by omega), fun H8 p8 s8 e8 => ?_⟩
    have lo8 : IsF (low (r1 - 10 ^ 12 + 1) (1 + r2)) := low_f (by omega)
    have b8_ : Bt 890 (low (r1 - 10 ^ 12 + 1) (1 + r2)) := by
      have h1 := low_top_le (n := r1 - 10 ^ 12 + 1) (d := 1 + r2) (by omega)
      have h2 := low_bottom_le (n := r1 - 10 ^ 12 + 1) (d := 1 + r2) (by omega)
      exact ⟨Nat.lt_of_le_of_lt h1 (Nat.lt_of_lt_of_le (show (r1 - 10 ^ 12 + 1).natAbs < 2 ^ 45 by omega) (Nat.pow_le_pow_right (by decide) (by decide))), Nat.lt_of_le_of_lt h2 (Nat.lt_of_lt_of_le (show (1 + r2).natAbs < 2 ^ 45 by omega) (Nat.pow_le_pow_right (by decide) (by decide)))⟩
    have a8 : AtK K H8 (.ref p8) (low (r1 - 10 ^ 12 + 1) (1 + r2)) := AtK.of e8
    have P8 := pot_same P7 s8
    have b58 : But q H5 H8 := (b6.trans b7).same s8
    generalize low (r1 - 10 ^ 12 + 1) (1 + r2) = fr at lo8 b8_ a8
    refine ⟨_, rfl, q, 6, rfl, by decide, sm _ (by decide) (by decide), P8, fun at_ H9 a0 a1 P9 b9 => ?_⟩
    obtain ⟨an, rfl⟩ : ∃ n : Nat, at_ = (n : Int) := ⟨at_.toNat, by omega⟩
    have an6 : an < 6 := by omega
    refine ⟨_, rfl, len_show (Nat.le_of_ble_eq_true rfl), fun t1 nt1 => ?_⟩
    have s_t1 : Same H9 (L2.upd H9 t1 (.tup [.int 1, .int 2])) := same_new nt1
    have e_t1 : L2.upd H9 t1 (.tup [.int 1, .int 2]) t1 = some (.tup [.int 1, .int 2]) := upd_same
    generalize L2.upd H9 t1 (.tup [.int 1, .int 2]) = Hb10 at s_t1 e_t1 ⊢
    refine ⟨len_show (Nat.le_of_ble_eq_true rfl), fun t2 nt2 => ?_⟩
    have s_t2 : Same Hb10 (L2.upd Hb10 t2 (.tup [.int 1, .int 3])) := same_new nt2
    have e_t2 : L2.upd Hb10 t2 (.tup [.int 1, .int 3]) t2 = some (.tup [.int 1, .int 3]) := upd_same
    generalize L2.upd Hb10 t2 (.tup [.int 1, .int 3]) = Hb11 at s_t2 e_t2 ⊢
    refine ⟨len_show (Nat.le_of_ble_eq_true rfl), fun t3 nt3 => ?_⟩
    have s_t3 : Same Hb11 (L2.upd Hb11 t3 (.tup [.int 1, .int 6])) := same_new nt3
    have e_t3 : L2.upd Hb11 t3 (.tup [.int 1, .int 6]) t3 = some (.tup [.int 1, .int 6]) := upd_same
    generalize L2.upd Hb11 t3 (.tup [.int 1, .int 6]) = Hb12 at s_t3 e_t3 ⊢
    refine ⟨len_show (Nat.le_of_ble_eq_true rfl), fun t4 nt4 => ?_⟩
    have s_t4 : Same Hb12 (L2.upd Hb12 t4 (.tup [.int 0, .int 1])) := same_new nt4
    have e_t4 : L2.upd Hb12 t4 (.tup [.int 0, .int 1]) t4 = some (.tup [.int 0, .int 1]) := upd_same
    generalize L2.upd Hb12 t4 (.tup [.int 0, .int 1]) = Hb13 at s_t4 e_t4 ⊢
    refine ⟨len_show (Nat.le_of_ble_eq_true rfl), fun t5 nt5 => ?_⟩
    have s_t5 : Same Hb13 (L2.upd Hb13 t5 (.tup [.int 3, .int 1])) := same_new nt5
    have e_t5 : L2.upd Hb13 t5 (.tup [.int 3, .int 1]) t5 = some (.tup [.int 3, .int 1]) := upd_same
    generalize L2.upd Hb13 t5 (.tup [.int 3, .int 1]) = Hb14 at s_t5 e_t5 ⊢
    refine ⟨len_show (Nat.le_of_ble_eq_true rfl), fun A nA => ?_⟩
    have s_A : Same Hb14 (L2.upd Hb14 A (.lst [.str z, .ref t1, .ref t2, .ref t3, .ref t4, .ref t5])) := same_new nA
    have e_A : L2.upd Hb14 A (.lst [.str z, .ref t1, .ref t2, .ref t3, .ref t4, .ref t5]) A = some (.lst [.str z, .ref t1, .ref t2, .ref t3, .ref t4, .ref t5]) := upd_same
    generalize L2.upd Hb14 A (.lst [.str z, .ref t1, .ref t2, .ref t3, .ref t4, .ref t5]) = Hb15 at s_A e_A ⊢
    -- one of them is spoilt
    refine ⟨_, rfl, len_show (Nat.le_of_ble_eq_true rfl), fun t6 nt6 => ?_⟩
    have s_t6 : Same Hb15 (L2.upd Hb15 t6 (.tup [.int (-1), .int 2])) := same_new nt6
    have e_t6 : L2.upd Hb15 t6 (.tup [.int (-1), .int 2]) t6 = some (.tup [.int (-1), .int 2]) := upd_same
    generalize L2.upd Hb15 t6 (.tup [.int (-1), .int 2]) = Hb16 at s_t6 e_t6 ⊢
    refine ⟨len_show (Nat.le_of_ble_eq_true rfl), fun sp nsp => ?_⟩
    have s_sp : Same Hb16 (L2.upd Hb16 sp (.lst [.int 7, .ref t6])) := same_new nsp
    have e_sp : L2.upd Hb16 sp (.lst [.int 7, .ref t6]) sp = some (.lst [.int 7, .ref t6]) := upd_same
    generalize L2.upd Hb16 sp (.lst [.int 7, .ref t6]) = Hb17 at s_sp e_sp ⊢
    refine ⟨_, rfl, _, _, rfl, rfl, .inr ⟨_, rfl, ?_⟩⟩
    obtain ⟨vo, hvo, ho⟩ : ∃ vo, [V.int 7, .ref t6][if decide ((0 : Int) < (an : Int)) = true then 1 else 0]? = some vo ∧ (an = 0 ∧ vo = .int 7 ∨ 0 < an ∧ vo = .ref t6) := by
      by_cases h0 : an = 0
      · subst h0
        exact ⟨_, rfl, .inl ⟨rfl, rfl⟩⟩
      · rw [decide_eq_true (show (0 : Int) < (an : Int) by omega), if_pos rfl]
        exact ⟨_, rfl, .inr ⟨by omega, rfl⟩⟩
    have ixe : (if decide ((0 : Int) < (an : Int)) = true then (1 : Int) else 0) = ((if decide ((0 : Int) < (an : Int)) = true then 1 else 0 : Nat) : Int) := by split <;> rfl
    rw [ixe]
    refine ⟨sp, _, _, _, rfl, rfl, .inl (.inl e_sp), atI_nat hvo, ?_⟩
    have e_A17 := s_sp _ _ (s_t6 _ _ e_A)
    refine ⟨_, rfl, _, rfl, A, _, _, an, rfl, rfl, e_A17, ?_, ?_⟩
    · show ixN 6 (an : Int) = some an
      unfold ixN
      rw [if_pos (by omega), if_pos (by omega)]
      rfl
    have sG : Same Hb14 (L2.upd Hb17 A (.lst ([V.str z, .ref t1, .ref t2, .ref t3, .ref t4, .ref t5].set an vo))) := fun b o e => by
      rw [upd_ne (ne_of_none e nA)]
      exact s_sp _ _ (s_t6 _ _ (s_A _ _ e))
    have gA : L2.upd Hb17 A (.lst ([V.str z, .ref t1, .ref t2, .ref t3, .ref t4, .ref t5].set an vo)) A = some (.lst ([V.str z, .ref t1, .ref t2, .ref t3, .ref t4, .ref t5].set an vo)) := upd_same
    have gt6 : L2.upd Hb17 A (.lst ([V.str z, .ref t1, .ref t2, .ref t3, .ref t4, .ref t5].set an vo)) t6 = some (.tup [.int (-1), .int 2]) := by
      rw [upd_ne (fun y => by rw [y, e_A] at nt6; cases nt6)]
      exact s_sp _ _ e_t6
    generalize L2.upd Hb17 A (.lst ([V.str z, .ref t1, .ref t2, .ref t3, .ref t4, .ref t5].set an vo)) = G at sG gA gt6 ⊢
    have s914 := (((s_t1.trans s_t2).trans s_t3).trans s_t4).trans s_t5
    have s9G := s914.trans sG
    have PG := pot_same P9 s9G
    have nAq := pot_ne (pot_same P9 s914) nA
    -- the word
    refine ⟨_, rfl, q, rfl, PG, fun wv wy Hw dqw now Pw bw => ?_⟩
    have gAw := bw _ _ nAq gA
    have at1 : AtK K Hw (.ref t1) (1, 2) := atk_pot bw PG (AtK.of (sG _ _ (s_t5 _ _ (s_t4 _ _ (s_t3 _ _ (s_t2 _ _ e_t1))))))
    have at2 : AtK K Hw (.ref t2) (1, 3) := atk_pot bw PG (AtK.of (sG _ _ (s_t5 _ _ (s_t4 _ _ (s_t3 _ _ e_t2)))))
    have at3 : AtK K Hw (.ref t3) (1, 6) := atk_pot bw PG (AtK.of (sG _ _ (s_t5 _ _ (s_t4 _ _ e_t3))))
    have at4 : AtK K Hw (.ref t4) (0, 1) := atk_pot bw PG (AtK.of (sG _ _ (s_t5 _ _ e_t4)))
    have at5 : AtK K Hw (.ref t5) (3, 1) := atk_pot bw PG (AtK.of (sG _ _ e_t5))
    have at6 : AtK K Hw (.ref t6) (-1, 2) := atk_pot bw PG (AtK.of gt6)
    have b5G : But q H5 G := (b58.trans b9).same s9G
    have b5w := b5G.trans bw
    have soW := so_pot b5w P5 so
    have aW := atk_pot ((b9.same s9G).trans bw) P8 a8
    have WW := b5w _ _ nWq (s5 _ _ (s4 _ _ (b3 _ _ nWq (s2 _ _ e1))))
    -- what is handed to the stuff
    obtain ⟨dn, ds, wd, six, fwe, wde⟩ : ∃ (dn : PyData) (ds : List PyData) (wd : Str), Six K Hw A ([V.str z, .ref t1, .ref t2, .ref t3, .ref t4, .ref t5].set an vo) dn ds ∧ fwR dn (ds.map orNone) = some wd ∧ ([V.str "name"] ++ words.map V.str)[an]? = some (.str wd) := by
      have bt : ∀ ds : List PyData, (∀ i, i < 3 → Bt 290 (top2 (orNone (ds.getD i .none)))) → ∀ i, i < 3 → isM (orNone (ds.getD i .none)) = true → Bt 290 (top2 (orNone (ds.getD i .none))) := fun _ h i hi _ => h i hi
      have b3_ : ∀ ds : List PyData, Bt 290 (top2 (orNone (ds.getD 0 .none))) → Bt 290 (top2 (orNone (ds.getD 1 .none))) → Bt 290 (top2 (orNone (ds.getD 2 .none))) → ∀ i, i < 3 → Bt 290 (top2 (orNone (ds.getD i .none))) := fun ds h0 h1 h2 i hi => by
        match i, hi with
        | 0, _ => exact h0
        | 1, _ => exact h1
        | 2, _ => exact h2
      have nmx : ∀ y, PyData.str z = .str y → y.length ≤ 1000 := fun y e => by cases e; omega
      have fw1 : ∀ ds : List PyData, fwR (.str z) ds = fwM ds 5 0 := fun ds => by
        unfold fwR
        rw [if_neg (by rw [nmz]; decide)]
      have sg : ∀ {a b : Int}, (a.natAbs < 2 ^ 290 ∧ b.natAbs < 2 ^ 290) → Bt 290 (a, b) := fun h => h
      rcases ho with ⟨rfl, rfl⟩ | ⟨hp, rfl⟩
      · refine ⟨.int 7, [tD (1, 2), tD (1, 3), tD (1, 6), tD (0, 1), tD (3, 1)], "name", ⟨.inl (.inl gAw), .cons (.dp (.int 7) (by simp [PyData.hasDict])) (.cons (dq_two at1) (.cons (dq_two at2) (.cons (dq_two at3) (.cons (dq_two at4) (.cons (dq_two at5) .nil))))), rfl, (fun y e => nomatch e), bt _ (b3_ _ (sg (by decide +kernel)) (sg (by decide +kernel)) (sg (by decide +kernel)))⟩, ?_, rfl⟩
        decide +kernel
      · match an, an6, hp with
        | 1, _, _ => exact ⟨.str z, [tD (-1, 2), tD (1, 3), tD (1, 6), tD (0, 1), tD (3, 1)], "flour", ⟨.inl (.inl gAw), .cons (SZ z) (.cons (dq_two at6) (.cons (dq_two at2) (.cons (dq_two at3) (.cons (dq_two at4) (.cons (dq_two at5) .nil))))), rfl, nmx, bt _ (b3_ _ (sg (by decide +kernel)) (sg (by decide +kernel)) (sg (by decide +kernel)))⟩, by rw [fw1]; decide +kernel, rfl⟩
        | 2, _, _ => exact ⟨.str z, [tD (1, 2), tD (-1, 2), tD (1, 6), tD (0, 1), tD (3, 1)], "water", ⟨.inl (.inl gAw), .cons (SZ z) (.cons (dq_two at1) (.cons (dq_two at6) (.cons (dq_two at3) (.cons (dq_two at4) (.cons (dq_two at5) .nil))))), rfl, nmx, bt _ (b3_ _ (sg (by decide +kernel)) (sg (by decide +kernel)) (sg (by decide +kernel)))⟩, by rw [fw1]; decide +kernel, rfl⟩
        | 3, _, _ => exact ⟨.str z, [tD (1, 2), tD (1, 3), tD (-1, 2), tD (0, 1), tD (3, 1)], "salt", ⟨.inl (.inl gAw), .cons (SZ z) (.cons (dq_two at1) (.cons (dq_two at2) (.cons (dq_two at6) (.cons (dq_two at4) (.cons (dq_two at5) .nil))))), rfl, nmx, bt _ (b3_ _ (sg (by decide +kernel)) (sg (by decide +kernel)) (sg (by decide +kernel)))⟩, by rw [fw1]; decide +kernel, rfl⟩
        | 4, _, _ => exact ⟨.str z, [tD (1, 2), tD (1, 3), tD (1, 6), tD (-1, 2), tD (3, 1)], "thirst", ⟨.inl (.inl gAw), .cons (SZ z) (.cons (dq_two at1) (.cons (dq_two at2) (.cons (dq_two at3) (.cons (dq_two at6) (.cons (dq_two at5) .nil))))), rfl, nmx, bt _ (b3_ _ (sg (by decide +kernel)) (sg (by decide +kernel)) (sg (by decide +kernel)))⟩, by rw [fw1]; decide +kernel, rfl⟩
        | 5, _, _ => exact ⟨.str z, [tD (1, 2), tD (1, 3), tD (1, 6), tD (0, 1), tD (-1, 2)], "price", ⟨.inl (.inl gAw), .cons (SZ z) (.cons (dq_two at1) (.cons (dq_two at2) (.cons (dq_two at3) (.cons (dq_two at4) (.cons (dq_two at6) .nil))))), rfl, nmx, bt _ (b3_ _ (sg (by decide +kernel)) (sg (by decide +kernel)) (sg (by decide +kernel)))⟩, by rw [fw1]; decide +kernel, rfl⟩
    have rest5 : List V := []
    refine ⟨len_show (Nat.le_of_ble_eq_true rfl), fun R nR => ?_⟩
    have s_R : Same Hw (L2.upd Hw R (.lst [.bl true, .bl false, .bl false, .bl false, .bl false])) := same_new nR
    have e_R : L2.upd Hw R (.lst [.bl true, .bl false, .bl false, .bl false, .bl false]) R = some (.lst [.bl true, .bl false, .bl false, .bl false, .bl false]) := upd_same
    generalize L2.upd Hw R (.lst [.bl true, .bl false, .bl false, .bl false, .bl false]) = Hc1 at s_R e_R ⊢
    refine ⟨len_show (Nat.le_of_ble_eq_true rfl), fun c1 nc1 => ?_⟩
    have s_c1 : Same Hc1 (L2.upd Hc1 c1 (.lst [.bl true, .bl false, .bl false])) := same_new nc1
    have e_c1 : L2.upd Hc1 c1 (.lst [.bl true, .bl false, .bl false]) c1 = some (.lst [.bl true, .bl false, .bl false]) := upd_same
    generalize L2.upd Hc1 c1 (.lst [.bl true, .bl false, .bl false]) = Hc2 at s_c1 e_c1 ⊢
    refine ⟨_, rfl, c1, R, _, _, rfl, rfl, e_c1, s_c1 _ _ e_R, by rw [sizeLine_eq]; exact Nat.le_of_ble_eq_true rfl, fun d1 nd1 => ?_⟩
    have s_d1 : Same Hc2 (L2.upd Hc2 d1 (.lst ([.bl true, .bl false, .bl false] ++ [.bl true, .bl false, .bl false, .bl false, .bl false]))) := same_new nd1
    have e_d1 : L2.upd Hc2 d1 (.lst ([.bl true, .bl false, .bl false] ++ [.bl true, .bl false, .bl false, .bl false, .bl false])) d1 = some (.lst ([.bl true, .bl false, .bl false] ++ [.bl true, .bl false, .bl false, .bl false, .bl false])) := upd_same
    generalize L2.upd Hc2 d1 (.lst ([.bl true, .bl false, .bl false] ++ [.bl true, .bl false, .bl false, .bl false, .bl false])) = Hc3 at s_d1 e_d1 ⊢
    refine ⟨len_show (Nat.le_of_ble_eq_true rfl), fun c2 nc2 => ?_⟩
    have s_c2 : Same Hc3 (L2.upd Hc3 c2 (.lst [.bl true, .bl false, .bl false])) := same_new nc2
    have e_c2 : L2.upd Hc3 c2 (.lst [.bl true, .bl false, .bl false]) c2 = some (.lst [.bl true, .bl false, .bl false]) := upd_same
    generalize L2.upd Hc3 c2 (.lst [.bl true, .bl false, .bl false]) = Hc4 at s_c2 e_c2 ⊢
    have eR2 := s_c2 _ _ (s_d1 _ _ (s_c1 _ _ e_R))
    refine ⟨_, rfl, c2, R, _, _, rfl, rfl, e_c2, eR2, by rw [sizeLine_eq]; exact Nat.le_of_ble_eq_true rfl, fun d2 nd2 => ?_⟩
    have s_d2 : Same Hc4 (L2.upd Hc4 d2 (.lst ([.bl true, .bl false, .bl false] ++ [.bl true, .bl false, .bl false, .bl false, .bl false]))) := same_new nd2
    have e_d2 : L2.upd Hc4 d2 (.lst ([.bl true, .bl false, .bl false] ++ [.bl true, .bl false, .bl false, .bl false, .bl false])) d2 = some (.lst ([.bl true, .bl false, .bl false] ++ [.bl true, .bl false, .bl false, .bl false, .bl false])) := upd_same
    generalize L2.upd Hc4 d2 (.lst ([.bl true, .bl false, .bl false] ++ [.bl true, .bl false, .bl false, .bl false, .bl false])) = Hc5 at s_d2 e_d2 ⊢
    refine ⟨len_show (Nat.le_of_ble_eq_true rfl), fun c3 nc3 => ?_⟩
    have s_c3 : Same Hc5 (L2.upd Hc5 c3 (.lst [.bl false, .bl true, .bl false])) := same_new nc3
    have e_c3 : L2.upd Hc5 c3 (.lst [.bl false, .bl true, .bl false]) c3 = some (.lst [.bl false, .bl true, .bl false]) := upd_same
    generalize L2.upd Hc5 c3 (.lst [.bl false, .bl true, .bl false]) = Hc6 at s_c3 e_c3 ⊢
    have eR3 := s_c3 _ _ (s_d2 _ _ eR2)
    refine ⟨_, rfl, c3, R, _, _, rfl, rfl, e_c3, eR3, by rw [sizeLine_eq]; exact Nat.le_of_ble_eq_true rfl, fun f3 nf3 => ?_⟩
    have s_f3 : Same Hc6 (L2.upd Hc6 f3 (.lst ([.bl false, .bl true, .bl false] ++ [.bl true, .bl false, .bl false, .bl false, .bl false]))) := same_new nf3
    have e_f3 : L2.upd Hc6 f3 (.lst ([.bl false, .bl true, .bl false] ++ [.bl true, .bl false, .bl false, .bl false, .bl false])) f3 = some (.lst ([.bl false, .bl true, .bl false] ++ [.bl true, .bl false, .bl false, .bl false, .bl false])) := upd_same
    generalize L2.upd Hc6 f3 (.lst ([.bl false, .bl true, .bl false] ++ [.bl true, .bl false, .bl false, .bl false, .bl false])) = Hc7 at s_f3 e_f3 ⊢
    refine ⟨_, rfl, len_show (Nat.le_of_ble_eq_true rfl), fun w3 nw3 => ?_⟩
    have s_w3 : Same Hc7 (L2.upd Hc7 w3 (.lst [wv])) := same_new nw3
    have e_w3 : L2.upd Hc7 w3 (.lst [wv]) w3 = some (.lst [wv]) := upd_same
    generalize L2.upd Hc7 w3 (.lst [wv]) = Hc8 at s_w3 e_w3 ⊢
    refine ⟨f3, w3, _, _, rfl, rfl, s_w3 _ _ e_f3, e_w3, by rw [sizeLine_eq]; exact Nat.le_of_ble_eq_true rfl, fun d3 nd3 => ?_⟩
    have s_d3 : Same Hc8 (L2.upd Hc8 d3 (.lst (([.bl false, .bl true, .bl false] ++ [.bl true, .bl false, .bl false, .bl false, .bl false]) ++ [wv]))) := same_new nd3
    have e_d3 : L2.upd Hc8 d3 (.lst (([.bl false, .bl true, .bl false] ++ [.bl true, .bl false, .bl false, .bl false, .bl false]) ++ [wv])) d3 = some (.lst (([.bl false, .bl true, .bl false] ++ [.bl true, .bl false, .bl false, .bl false, .bl false]) ++ [wv])) := upd_same
    generalize L2.upd Hc8 d3 (.lst (([.bl false, .bl true, .bl false] ++ [.bl true, .bl false, .bl false, .bl false, .bl false]) ++ [wv])) = Hc9 at s_d3 e_d3 ⊢
    refine ⟨len_show (Nat.le_of_ble_eq_true rfl), fun DU nDU => ?_⟩
    have s_DU : Same Hc9 (L2.upd Hc9 DU (.lst [.ref d1, .ref d2, .ref d3])) := same_new nDU
    have e_DU : L2.upd Hc9 DU (.lst [.ref d1, .ref d2, .ref d3]) DU = some (.lst [.ref d1, .ref d2, .ref d3]) := upd_same
    generalize L2.upd Hc9 DU (.lst [.ref d1, .ref d2, .ref d3]) = Hc10 at s_DU e_DU ⊢
    -- one more
    refine ⟨_, rfl, .inl ⟨rfl, _, .inl (.inl e_DU)⟩, len_show (Nat.le_of_ble_eq_true rfl), fun c4 nc4 => ?_⟩
    have s_c4 : Same Hc10 (L2.upd Hc10 c4 (.lst [.bl false, .bl false, .bl true])) := same_new nc4
    have e_c4 : L2.upd Hc10 c4 (.lst [.bl false, .bl false, .bl true]) c4 = some (.lst [.bl false, .bl false, .bl true]) := upd_same
    generalize L2.upd Hc10 c4 (.lst [.bl false, .bl false, .bl true]) = Hc11 at s_c4 e_c4 ⊢
    have eR4 := s_c4 _ _ (s_DU _ _ (s_d3 _ _ (s_w3 _ _ (s_f3 _ _ eR3))))
    refine ⟨_, rfl, c4, R, _, _, rfl, rfl, e_c4, eR4, by rw [sizeLine_eq]; exact Nat.le_of_ble_eq_true rfl, fun f4 nf4 => ?_⟩
    have s_f4 : Same Hc11 (L2.upd Hc11 f4 (.lst ([.bl false, .bl false, .bl true] ++ [.bl true, .bl false, .bl false, .bl false, .bl false]))) := same_new nf4
    have e_f4 : L2.upd Hc11 f4 (.lst ([.bl false, .bl false, .bl true] ++ [.bl true, .bl false, .bl false, .bl false, .bl false])) f4 = some (.lst ([.bl false, .bl false, .bl true] ++ [.bl true, .bl false, .bl false, .bl false, .bl false])) := upd_same
    generalize L2.upd Hc11 f4 (.lst ([.bl false, .bl false, .bl true] ++ [.bl true, .bl false, .bl false, .bl false, .bl false])) = Hc12 at s_f4 e_f4 ⊢
    refine ⟨len_show (Nat.le_of_ble_eq_true rfl), fun nm nnm => ?_⟩
    have s_nm : Same Hc12 (L2.upd Hc12 nm (.lst [.str "name"])) := same_new nnm
    have e_nm : L2.upd Hc12 nm (.lst [.str "name"]) nm = some (.lst [.str "name"]) := upd_same
    generalize L2.upd Hc12 nm (.lst [.str "name"]) = Hc13 at s_nm e_nm ⊢
    have sW := ((((((((((((s_R).trans s_c1).trans s_d1).trans s_c2).trans s_d2).trans s_c3).trans s_f3).trans s_w3).trans s_d3).trans s_DU).trans s_c4).trans s_f4).trans s_nm
    have eWW := sW _ _ WW
    refine ⟨_, rfl, nm, W, _, _, rfl, rfl, e_nm, eWW, by rw [sizeLine_eq]; exact Nat.le_of_ble_eq_true rfl, fun nw nnw => ?_⟩
    have s_nw : Same Hc13 (L2.upd Hc13 nw (.lst ([.str "name"] ++ words.map V.str))) := same_new nnw
    have e_nw : L2.upd Hc13 nw (.lst ([.str "name"] ++ words.map V.str)) nw = some (.lst ([.str "name"] ++ words.map V.str)) := upd_same
    generalize L2.upd Hc13 nw (.lst ([.str "name"] ++ words.map V.str)) = Hc14 at s_nw e_nw ⊢
    refine ⟨_, rfl, nw, _, an, _, rfl, rfl, .inl (.inl e_nw), atI_nat wde, len_show (Nat.le_of_ble_eq_true rfl), fun w4 nw4 => ?_⟩
    have s_w4 : Same Hc14 (L2.upd Hc14 w4 (.lst [.str wd])) := same_new nw4
    have e_w4 : L2.upd Hc14 w4 (.lst [.str wd]) w4 = some (.lst [.str wd]) := upd_same
    generalize L2.upd Hc14 w4 (.lst [.str wd]) = Hc15 at s_w4 e_w4 ⊢
    refine ⟨f4, w4, _, _, rfl, rfl, s_w4 _ _ (s_nw _ _ (s_nm _ _ e_f4)), e_w4, by rw [sizeLine_eq]; exact Nat.le_of_ble_eq_true rfl, fun d4 nd4 => ?_⟩
    have s_d4 : Same Hc15 (L2.upd Hc15 d4 (.lst (([.bl false, .bl false, .bl true] ++ [.bl true, .bl false, .bl false, .bl false, .bl false]) ++ [.str wd]))) := same_new nd4
    have e_d4 : L2.upd Hc15 d4 (.lst (([.bl false, .bl false, .bl true] ++ [.bl true, .bl false, .bl false, .bl false, .bl false]) ++ [.str wd])) d4 = some (.lst (([.bl false, .bl false, .bl true] ++ [.bl true, .bl false, .bl false, .bl false, .bl false]) ++ [.str wd])) := upd_same
    generalize L2.upd Hc15 d4 (.lst (([.bl false, .bl false, .bl true] ++ [.bl true, .bl false, .bl false, .bl false, .bl false]) ++ [.str wd])) = Hc16 at s_d4 e_d4 ⊢
    have eDU4 := s_d4 _ _ (s_w4 _ _ (s_nw _ _ (s_nm _ _ (s_f4 _ _ (s_c4 _ _ e_DU)))))
    refine ⟨DU, _, .ref d4, rfl, rfl, eDU4, by rw [sizeLine_eq]; exact Nat.le_of_ble_eq_true rfl, ?_⟩
    have sZ0 : Same Hc9 (L2.upd Hc16 DU (.lst ([.ref d1, .ref d2, .ref d3] ++ [.ref d4]))) := fun b o e => by
      rw [upd_ne (ne_of_none e nDU)]
      exact s_d4 _ _ (s_w4 _ _ (s_nw _ _ (s_nm _ _ (s_f4 _ _ (s_c4 _ _ (s_DU _ _ e))))))
    have eZ4 : L2.upd Hc16 DU (.lst ([.ref d1, .ref d2, .ref d3] ++ [.ref d4])) d4 = some (.lst (([.bl false, .bl false, .bl true] ++ [.bl true, .bl false, .bl false, .bl false, .bl false]) ++ [.str wd])) := by
      rw [upd_ne (fun y => by rw [y, s_w4 _ _ (s_nw _ _ (s_nm _ _ (s_f4 _ _ (s_c4 _ _ e_DU))))] at nd4; cases nd4)]
      exact e_d4
    have eZ : L2.upd Hc16 DU (.lst ([.ref d1, .ref d2, .ref d3] ++ [.ref d4])) DU = some (.lst [.ref d1, .ref d2, .ref d3, .ref d4]) := upd_same
    generalize L2.upd Hc16 DU (.lst ([.ref d1, .ref d2, .ref d3] ++ [.ref d4])) = HZ at sZ0 eZ4 eZ ⊢
    have swZ : Same Hw HZ := (((((((((s_R).trans s_c1).trans s_d1).trans s_c2).trans s_d2).trans s_c3).trans s_f3).trans s_w3).trans s_d3).trans sZ0
    have eZ1 : HZ d1 = some (.lst (([.bl true, .bl false, .bl false] ++ [.bl true, .bl false, .bl false, .bl false, .bl false]) ++ [])) := sZ0 _ _ (s_d3 _ _ (s_w3 _ _ (s_f3 _ _ (s_c3 _ _ (s_d2 _ _ (s_c2 _ _ e_d1))))))
    have eZ2 : HZ d2 = some (.lst (([.bl true, .bl false, .bl false] ++ [.bl true, .bl false, .bl false, .bl false, .bl false]) ++ [])) := sZ0 _ _ (s_d3 _ _ (s_w3 _ _ (s_f3 _ _ (s_c3 _ _ e_d2))))
    have eZ3 : HZ d3 = some (.lst (([.bl false, .bl true, .bl false] ++ [.bl true, .bl false, .bl false, .bl false, .bl false]) ++ [wv])) := sZ0 _ _ e_d3
    have soZ := soW.same swZ
    have aZ := aW.same swZ
    have dqZ := dqw.same swZ
    have sixZ := six.same swZ
    have WZ := swZ _ _ WW
    have bZ : But q H HZ := fun b o n e => (b5w.same swZ) b o n (s5 _ _ (s4 _ _ (b3 _ _ n (s2 _ _ (s1 _ _ e)))))
    refine ⟨2, rfl, by decide, by decide, ?_⟩
    refine for_range (lo := 0) (n := _) (fun i σ H' => Same HZ H' ∧ ∃ y10 y11 y12, σ = [some (.ref q), some (.ref W), some (.str z), some (.ref x), some (.ref p8), some (.int an), some (.ref A), some wv, some (.ref R), some (.ref DU), y10, y11, y12]) ⟨same_rfl, _, _, _, rfl⟩ ?_ ?_
    · rintro i σ Ha hi ⟨sa, y10, y11, y12, rfl⟩
      refine ⟨_, rfl, _, rfl, _, rfl, _, rfl, len_show (Nat.le_of_ble_eq_true rfl), fun L nL => ?_⟩
      have sb : Same Ha (L2.upd Ha L (.lst [.ref p8, .ref p8, wv, .ref A])) := same_new nL
      have eb : L2.upd Ha L (.lst [.ref p8, .ref p8, wv, .ref A]) L = some (.lst [.ref p8, .ref p8, wv, .ref A]) := upd_same
      generalize L2.upd Ha L (.lst [.ref p8, .ref p8, wv, .ref A]) = Hb at sb eb ⊢
      have sZb := sa.trans sb
      refine ⟨L, _, rfl, .inl (.inl eb), ?_⟩
      refine for_it (walk_enum (xs := [.ref p8, .ref p8, wv, .ref A])) (fun i σ H' => Same Hb H' ∧ ∃ y10 y11 y12, σ = [some (.ref q), some (.ref W), some (.str z), some (.ref x), some (.ref p8), some (.int an), some (.ref A), some wv, some (.ref R), some (.ref DU), y10, y11, y12]) ⟨same_rfl, _, _, _, rfl⟩ (fun i σ H' _ h => .inl (.inl (h.1 _ _ eb))) ?_ ?_
      · rintro j v σ Hc Hd hj ⟨sc, u10, u11, u12, rfl⟩ ⟨T, xi, y, rfl, nT, rfl, ex, ey⟩
        obtain rfl := Option.some.inj ex
        have se : Same Hc (L2.upd Hc T (.tup [.int (j : Nat), y])) := same_new nT
        have eT : L2.upd Hc T (.tup [.int (j : Nat), y]) T = some (.tup [.int (j : Nat), y]) := upd_same
        generalize L2.upd Hc T (.tup [.int (j : Nat), y]) = He at se eT ⊢
        have sZe := (sZb.trans sc).trans se
        refine ⟨T, _, rfl, .inl (.inl eT), rfl, _, _, rfl, _, _, rfl, rfl, ?_⟩
        obtain ⟨D, r, dd, hix, DZ⟩ : ∃ D r dd, [V.ref d1, .ref d2, .ref d3, .ref d4][j]? = some (.ref dd) ∧ ∀ {G : Hp}, Same HZ G → Deed K G CF DN DS j y D r ∧ G dd = some (.lst (([.bl (decide ((j : Int) = 0 ∨ (j : Int) = 1)), .bl (decide ((j : Int) = 2)), .bl (decide ((j : Int) = 3))] ++ [.bl true, .bl false, .bl false, .bl false, .bl false]) ++ (r.map (·.2)).toList)) ∧ Paired (EqV K G 1) (r.map (·.2)).toList (r.map (·.2)).toList := by
          match j, hj with
          | 0, _ => 
            cases ey
            exact ⟨CF, none, d1, rfl, fun s => ⟨.frac _ fr _ (aZ.same s) lo8 b8_ (.inl rfl), s _ _ eZ1, .nil⟩⟩
          | 1, _ =>
            cases ey
            exact ⟨CF, none, d2, rfl, fun s => ⟨.frac _ fr _ (aZ.same s) lo8 b8_ (.inr rfl), s _ _ eZ2, .nil⟩⟩
          | 2, _ =>
            cases ey
            exact ⟨DN, some ("who", wv), d3, rfl, fun s => ⟨.name _ wy (dqZ.same s) now, s _ _ eZ3, .cons (dq_self (dqZ.same s)) .nil⟩⟩
          | 3, _ =>
            cases ey
            exact ⟨DS, some ("field", .str wd), d4, rfl, fun s => ⟨.stuff _ _ dn ds wd (sixZ.same s) fwe, s _ _ eZ4, .cons (.inl ⟨rfl, rfl⟩) .nil⟩⟩
        obtain ⟨hdd, _, _⟩ := DZ sZe
        refine ⟨_, rfl, _, rfl, _, rfl, j, x, y, .str z, .str z, fiveD, D, r, rfl, soZ.same sZe, hdd, fun Hf l sf el => ?_⟩
        have sZf := sZe.trans sf
        obtain ⟨_, edd, pr⟩ := DZ sZf
        refine ⟨_, rfl, _, rfl, DU, _, j, _, rfl, rfl, .inl (.inl (sZf _ _ eZ)), atI_nat hix, ?_⟩
        have lenr : (r.map (·.2)).toList.length ≤ 1 := by cases r <;> simp
        refine ⟨l, dd, _, _, 1, rfl, rfl, .inl (.inl el), .inl (.inl edd), by decide, ?_, eq_td _ _ _ pr, _, rfl, iteF ?_⟩
        · unfold tdL
          rw [List.length_append]
          show 8 + _ < _
          omega
        exact ⟨(sc.trans se).trans sf, _, _, _, rfl⟩
      · rintro σ Hc ⟨sc, u10, u11, u12, rfl⟩
        have sZc := sZb.trans sc
        refine ⟨_, rfl, W, rfl, ⟨_, .inl (.inl (sZc _ _ WZ))⟩, fun D hD => ?_⟩
        refine lc_list (xs := words.map V.str) (fun j H' => Same Hc H' ∧ ∃ acc, H' D = some (.lst acc) ∧ AtKs K H' acc (fiveF.take j)) ⟨same_new hD, [], upd_same, .nil⟩ (fun j H' _ h => .inl (.inl (h.1 _ _ (sZc _ _ WZ)))) ?_ ?_
        · rintro j y Hd hj ⟨sd, acc, eacc, hacc⟩
          have j5 : j < 5 := (List.getElem?_eq_some_iff.mp hj).1
          obtain ⟨wd', f', hw, hf', hd', hm⟩ := five_words j j5
          obtain rfl : y = .str wd' := by
            rw [List.getElem?_map, hw] at hj
            exact (Option.some.inj hj).symm
          have soD := (soZ.same sZc).same sd
          obtain ⟨dxx, pmx, xsx, g1, _, _, _⟩ := id soD
          have hal := hacc.length
          refine ⟨rfl, _, rfl, x, _, _, rfl, g1, rfl, _, rfl, x, .str wd', .str z, .str z, .str wd', fiveD, rfl, soD, SZ wd', .inl ⟨j, wd', tD f', rfl, hw, hd', fun u du => ?_⟩⟩
          refine ⟨acc, eacc, ?_, fun b o e => ?_, acc ++ [u], upd_same, ?_⟩
          · rw [hal, List.length_take, sizeLine_eq]
            omega
          · rw [upd_ne (ne_of_none e hD)]
            exact sd _ _ e
          · rw [List.take_succ, hf']
            exact (hacc.map fun _ _ h => atk_lst eacc h).app (.cons (atk_lst eacc (at_of_dq du hm)) .nil)
        · rintro Hd ⟨sd, acc, eacc, hacc⟩
          have hacc : AtKs K Hd acc fiveF := hacc
          refine ⟨len_show (Nat.le_of_ble_eq_true rfl), fun ta nta => ?_⟩
          have sd1 : Same Hd (L2.upd Hd ta (.tup [.int 0, .int 1])) := same_new nta
          have ed1 : L2.upd Hd ta (.tup [.int 0, .int 1]) ta = some (.tup [.int 0, .int 1]) := upd_same
          generalize L2.upd Hd ta (.tup [.int 0, .int 1]) = Hd1 at sd1 ed1 ⊢
          refine ⟨len_show (Nat.le_of_ble_eq_true rfl), fun la nla => ?_⟩
          have sd2 : Same Hd1 (L2.upd Hd1 la (.lst [.ref ta])) := same_new nla
          have ed2 : L2.upd Hd1 la (.lst [.ref ta]) la = some (.lst [.ref ta]) := upd_same
          generalize L2.upd Hd1 la (.lst [.ref ta]) = Hd2 at sd2 ed2 ⊢
          refine ⟨la, 4, _, rfl, rfl, ed2, by decide, by decide, by rw [sizeLine_eq]; exact Nat.le_of_ble_eq_true rfl, fun lb nlb => ?_⟩
          have sd3 : Same Hd2 (L2.upd Hd2 lb (.lst (List.replicate (4 : Int).toNat [V.ref ta]).flatten)) := same_new nlb
          have ed3 : L2.upd Hd2 lb (.lst (List.replicate (4 : Int).toNat [V.ref ta]).flatten) lb = some (.lst (List.replicate (4 : Int).toNat [V.ref ta]).flatten) := upd_same
          generalize L2.upd Hd2 lb (.lst (List.replicate (4 : Int).toNat [V.ref ta]).flatten) = Hd3 at sd3 ed3 ⊢
          refine ⟨len_show (Nat.le_of_ble_eq_true rfl), fun tb ntb => ?_⟩
          have sd4 : Same Hd3 (L2.upd Hd3 tb (.tup [.int 7, .int 2])) := same_new ntb
          have ed4 : L2.upd Hd3 tb (.tup [.int 7, .int 2]) tb = some (.tup [.int 7, .int 2]) := upd_same
          generalize L2.upd Hd3 tb (.tup [.int 7, .int 2]) = Hd4 at sd4 ed4 ⊢
          refine ⟨len_show (Nat.le_of_ble_eq_true rfl), fun lc nlc => ?_⟩
          have sd5 : Same Hd4 (L2.upd Hd4 lc (.lst [.ref tb])) := same_new nlc
          have ed5 : L2.upd Hd4 lc (.lst [.ref tb]) lc = some (.lst [.ref tb]) := upd_same
          generalize L2.upd Hd4 lc (.lst [.ref tb]) = Hd5 at sd5 ed5 ⊢
          refine ⟨lb, lc, _, _, rfl, rfl, sd5 _ _ (sd4 _ _ ed3), ed5, by rw [sizeLine_eq]; exact Nat.le_of_ble_eq_true rfl, fun ld nld => ?_⟩
          have sd6 : Same Hd5 (L2.upd Hd5 ld (.lst ((List.replicate (4 : Int).toNat [V.ref ta]).flatten ++ [.ref tb]))) := same_new nld
          have ed6 : L2.upd Hd5 ld (.lst ((List.replicate (4 : Int).toNat [V.ref ta]).flatten ++ [.ref tb])) ld = some (.lst ((List.replicate (4 : Int).toNat [V.ref ta]).flatten ++ [.ref tb])) := upd_same
          generalize L2.upd Hd5 ld (.lst ((List.replicate (4 : Int).toNat [V.ref ta]).flatten ++ [.ref tb])) = Hd6 at sd6 ed6 ⊢
          have sd26 := ((((sd2.trans sd3).trans sd4).trans sd5).trans sd6)
          have sD6 := sd1.trans sd26
          have aa : AtK K Hd6 (.ref ta) (0, 1) := (AtK.of (f := (0, 1)) ed1).same sd26
          have ab : AtK K Hd6 (.ref tb) (7, 2) := (AtK.of (f := (7, 2)) ed4).same (sd5.trans sd6)
          have h5 : AtKs K Hd6 acc fiveF := hacc.same sD6
          have sh : SeqAt.shaped (.list fiveD) = true := by decide +kernel
          have dl : DpAll K Hd6 acc fiveD := by
            unfold fiveF at h5
            unfold fiveD
            cases h5 with
            | cons a1 h5 => cases h5 with
              | cons a2 h5 => cases h5 with
                | cons a3 h5 => cases h5 with
                  | cons a4 h5 => cases h5 with
                    | cons a5 h5 => cases h5; exact .cons (dp_two a1) (.cons (dp_two a2) (.cons (dp_two a3) (.cons (dp_two a4) (.cons (dp_two a5) .nil))))
          have dr : DpAll K Hd6 [.ref ta, .ref ta, .ref ta, .ref ta, .ref tb] fiveD := .cons (dp_two aa) (.cons (dp_two aa) (.cons (dp_two aa) (.cons (dp_two aa) (.cons (dp_two ab) .nil))))
          refine ⟨.list fiveD, .list fiveD, .lst (.inl (.inl (sD6 _ _ eacc))) dl, .lst (.inl (.inl ed6)) dr, sh, sh, _, rfl, ?_⟩
          rw [show (!PyData.eqv (.list fiveD) (.list fiveD)) = false by decide +kernel]
          refine iteF ⟨(((sa.trans sb).trans sc).trans sd).trans sD6, _, _, _, rfl⟩
    · rintro σ Ha ⟨sa, y10, y11, y12, rfl⟩
      exact k Ha fun b o n e => sa _ _ (bZ b o n e)

end
end Lf

set_option Elab.async false
set_option linter.all false
set_option maxRecDepth 100000
set_option maxHeartbeats 4000000
/-! xs[i] += e of a list; promises of defs that let nothing out. -/
namespace Lf
open PySem PySem.Spec PyProof.Rows L2
def rGetN (K : PySem.W.Frag) : V → V → Hp → VK → Prop := fun x y H Q => ∃ (p : Addr) (xs : List V) (n : Nat) (v : V), x = .ref p ∧ y = .int n ∧ SqL K H p xs ∧ xs[n]? = some v ∧ n < 2 ^ 60 ∧ Q v H
theorem get_listN {X : Cx} : PGet X (rGetN X.K) := by
  intro pins s σ H o i ov iv Q I ro ri h
  obtain ⟨p, xs, n, v, rfl, rfl, hq, he, hn, q⟩ := h
  cases ro
  obtain ⟨t, rfl⟩ := ri
  obtain ⟨its, r, pl, hz⟩ := I.list hq
  obtain ⟨w, ew, rw'⟩ := r.get he
  exact getItem_listL (x := w) pl.isList (by omega) (by omega) (by simpa using ew) ⟨v, H, I, rw', q⟩
/-- a promise of more -/
theorem FnG.imp {P : Program} {w : World} {K : PySem.W.Frag} {mg : Str → Option Value} {base : Heap} {CX : CXT} {k : Nat} {f : Addr} {fd : FuncData} {ps : List Str} {sp sq : Sp} (F : FnG P w K mg base CX k f fd ps sp) (h : ∀ vs H Q E, sq vs H Q E → sp vs H Q E) : FnG P w K mg base CX k f fd ps sq :=
  ⟨fun vs H Q E q => F.size vs H Q E (h _ _ _ _ q), fun B out s H ar us vs Q E r hg e0 hb hv q => F.goes B out s H ar us vs Q E r hg e0 hb hv (h _ _ _ _ q)⟩
theorem Cal.imp {P : Program} {w : World} {K : PySem.W.Frag} {mg : Str → Option Value} {base : Heap} {CX : CXT} {k : Nat} {x : Str} {ps : List Str} {sp sq : Sp} (C : Cal P w K mg base CX k x ps sp) (h : ∀ vs H Q E, sq vs H Q E → sp vs H Q E) : Cal P w K mg base CX k x ps sq := by
  obtain ⟨f, fd, F, a, b, c, d, e⟩ := C.ex
  exact ⟨f, fd, F.imp h, a, b, c, d, e⟩
/-- where nothing is let out -/
theorem FnG.calm {P : Program} {w : World} {K : PySem.W.Frag} {mg : Str → Option Value} {base : Heap} {k : Nat} {f : Addr} {fd : FuncData} {ps : List Str} {sp : Sp} (F : FnG P w K mg base (L2.CX P w) k f fd ps sp) : FnG P w K mg base CX0 k f fd ps (fun vs H Q _ => sp vs H Q E0) := by
  refine ⟨fun vs H Q E q => F.size vs H Q E0 q, fun B out s H ar us vs Q E r hg e0 hb hv q => ?_⟩
  refine codeAny_mono (F.goes B out s H ar us vs Q E0 r hg e0 hb hv q) fun z s' hz => ?_
  cases z with
  | error e =>
    obtain ⟨_, _, _, _, _, _, _, _, _, _, _, _, z⟩ := (show L2.CX P w out H s E0 e s' from hz)
    exact z.elim
  | ok fl =>
    cases fl with
    | ret u => exact hz
    | next => exact False.elim hz
    | brk => exact False.elim hz
    | cont => exact False.elim hz
theorem Cal.calm {P : Program} {w : World} {K : PySem.W.Frag} {mg : Str → Option Value} {base : Heap} {k : Nat} {x : Str} {ps : List Str} {sp : Sp} (C : Cal P w K mg base (L2.CX P w) k x ps sp) : Cal P w K mg base CX0 k x ps (fun vs H Q _ => sp vs H Q E0) := by
  obtain ⟨f, fd, F, a, b, c, d, e⟩ := C.ex
  exact ⟨f, fd, F.calm, a, b, c, d, e⟩
theorem Cal.or {P : Program} {w : World} {K : PySem.W.Frag} {mg : Str → Option Value} {base : Heap} {CX : CXT} {k : Nat} {x : Str} {ps : List Str} {sp sq : Sp} {f : Addr} {fd : FuncData} (F : FnG P w K mg base CX k f fd ps sp) (G : FnG P w K mg base CX k f fd ps sq) :
    FnG P w K mg base CX k f fd ps (fun vs H Q E => sp vs H Q E ∨ sq vs H Q E) :=
  ⟨fun vs H Q E h => h.elim (F.size vs H Q E) (G.size vs H Q E), fun B out s H ar us vs Q E r hg e0 hb hv h => h.elim (F.goes B out s H ar us vs Q E r hg e0 hb hv) (G.goes B out s H ar us vs Q E r hg e0 hb hv)⟩
end Lf

set_option Elab.async false
set_option linter.all false
set_option maxRecDepth 100000
set_option maxHeartbeats 4000000
set_option exponentiation.threshold 3000
namespace Lf
open PySem PySem.Spec PyProof.Rows L2
section
variable {P : Program} {w : World} {K : PySem.W.Frag} {mg : Str → Option Value} {base : Heap}

/-! ### law -/
theorem sc_law : FnScope ["_law_script", "_law_k"] ["_law_script"] (defScope s_law) := ⟨rfl, rfl, rfl, by decide +kernel, rfl, by decide +kernel, by decide +kernel⟩
def sp_law (K : PySem.W.Frag) : Sp := fun vs H Q _ => ∃ (a : Addr) (ns : List Int), vs = [.ref a] ∧ SqL K H a (ns.map V.int) ∧ ns.length ≤ 63 ∧ ∀ H', Q (.bl true) H'
theorem all_true : ∀ n : Nat, (List.replicate n true).all id = true
  | 0 => rfl
  | n + 1 => by rw [List.replicate_succ, List.all_cons, all_true n]; rfl
theorem ok_law {f : Addr} {fd : FuncData} (M : Blt mg) (F : Fun K "law" "law" s_law f fd) (C__law_cell : Cal P w K mg base CX0 1 "_law_cell" ["_law_script", "_law_k"] (sp_cell K)) (C__law_pot : Cal P w K mg base CX0 1 "_law_pot" ["_law_cell_here"] sp_pot)
    (C__law_right : Cal P w K mg base CX0 13 "_law_right" ["_law_pot_here"] (sp_right K)) : FnG P w K mg base CX0 14 f fd ["_law_script"] (sp_law K) := by
  refine Gfun F sc_law (fun vs H Q E h => ?_) (fun cdv A outer s H vs Q E hg hr h => ?_)
  · obtain ⟨a, ns, rfl, _⟩ := h
    rfl
  · obtain ⟨a, ns, rfl, hS, hl, k⟩ := h
    refine ⟨_, (pss_one (ps_ret (pe_callB (cr_all rfl) rfl M.all bt_all (pa_cons (pe_lc (own := [("_law_k", 1)]) (g := gName 1) (tt := tYes) rfl sc_law.nd (pi_range1 rfl M.range (pa_cons (pe_callB (call_max2 rfl) rfl M.max bt_max (pa_cons pe_int (pa_cons (pe_callB (call_min2 rfl) rfl M.min bt_min (pa_cons (pe_callB call_len_seq rfl M.len bt_len (pa_cons (pv 0) pa_nil)) (pa_cons pe_int pa_nil))) pa_nil))) pa_nil)) (blkOk_by (N := ["_law_script", "_law_k"]) (sc := defScope s_law) (by decide +kernel)) (fun _ _ _ _ _ => pg_name (i := 1) sc_law.nd rfl (Or.inl rfl)) (fun _ _ _ _ _ => pts_nil) (fun _ _ _ _ _ => (pe_g C__law_right (hr.mono (by decide)) hg (pa_cons (pe_g C__law_pot (hr.mono (by decide)) hg (pa_cons (pe_g C__law_cell (hr.mono (by decide)) hg (pa_cons (pv 0) (pa_cons (pv 1) pa_nil))) pa_nil)) pa_nil)))) pa_nil)))), ?_⟩
    refine ⟨_, rfl, a, _, rfl, .inl hS, _, _, rfl, _, _, rfl, _, rfl, ?_, ?_, fun D hD => ?_⟩
    · split <;> split <;> omega
    · split <;> split <;> omega
    generalize hN : Int.toNat _ = N
    have hN2 : N ≤ 20 := by
      rw [← hN]
      split <;> split <;> omega
    refine lc_range (lo := 0) (n := N) (fun i H' => H' D = some (.lst (List.replicate i (.bl true))) ∧ Same H H') ⟨upd_same, same_new hD⟩ ?_ ?_
    · rintro i H1 hi ⟨hD1, sm1⟩
      refine ⟨rfl, _, rfl, _, rfl, a, ns, i, (by show [V.ref a, V.int (0 + (i : Int))] = _; rw [Int.zero_add]), sm1.seq hS, by omega, fun c => ?_⟩
      refine ⟨c, rfl, fun x y p y0 y1 np => ?_⟩
      refine ⟨p, rfl, ⟨x, y, y0, y1, upd_same⟩, fun H2 bt => ?_⟩
      have sm : Same H1 H2 := fun b o e => bt b o (ne_of_none e np) (by rw [upd_ne (ne_of_none e np)]; exact e)
      refine ⟨List.replicate i (.bl true), sm _ _ hD1, ?_, ?_, fun b o e => ?_⟩
      · rw [List.length_replicate, sizeLine_eq]
        omega
      · rw [upd_same, List.replicate_succ']
      · rw [upd_ne (ne_of_none e hD)]
        exact sm _ _ (sm1 _ _ e)
    · rintro H1 ⟨hD1, _⟩
      refine ⟨D, List.replicate N true, rfl, .inl (.inl ?_), ?_⟩
      · rw [hD1, List.map_replicate]
      · rw [all_true]
        exact k _

end
end Lf

set_option Elab.async false
set_option linter.all false
set_option maxRecDepth 100000
set_option maxHeartbeats 8000000
namespace Lf
open PySem PySem.Spec PyProof.Rows L2
theorem bp_0 {x q : Str} {p0 : Pos} {body : List Stmt} {sc : Scope} {kV doc pm : Value} {an : Option Addr} {cdv ct : Value} (s : Shared) (us : List Value) (hl : us.length = 1) : BindsTo s (PySem.W.fnOf x q (plainA [{ arg := "thing", annotation := none, pos := p0 }]) body sc .none kV doc pm an cdv ct) ⟨us, []⟩ ((["thing"] : List Str).zip us) := .of_eq (match us, hl with | [_], _ => rfl)
theorem df_is_whole {K : PySem.W.Frag} {mg : Str → Option Value} {f : Addr} {fd : FuncData} (F : FunD K "is_whole" "is_whole" (defArgs s_is_whole) (defBody s_is_whole) (defScope s_is_whole) [] [] f fd) (g : mg "is_whole" = some (.ref f)) : Df K mg "is_whole" s_is_whole ["thing"] f fd := by
  obtain ⟨kV, doc, pm, an, cdv, ct, rfl, F⟩ := fun_of F
  have ⟨p0, ea⟩ : ∃ p0 : Pos, defArgs s_is_whole = plainA [{ arg := "thing", annotation := none, pos := p0 }] := ⟨_, rfl⟩
  exact ⟨F, g, by rw [ea]; exact bp_0, no_kw (by decide +kernel), no_kw (by decide +kernel)⟩
theorem bp_1 {x q : Str} {p0 p1 : Pos} {body : List Stmt} {sc : Scope} {kV doc pm : Value} {an : Option Addr} {cdv ct : Value} (s : Shared) (us : List Value) (hl : us.length = 2) : BindsTo s (PySem.W.fnOf x q (plainA [{ arg := "one", annotation := none, pos := p0 }, { arg := "other", annotation := none, pos := p1 }]) body sc .none kV doc pm an cdv ct) ⟨us, []⟩ ((["one", "other"] : List Str).zip us) := .of_eq (match us, hl with | [_, _], _ => rfl)
theorem df_common {K : PySem.W.Frag} {mg : Str → Option Value} {f : Addr} {fd : FuncData} (F : FunD K "common" "common" (defArgs sCom) (defBody sCom) (defScope sCom) [] [] f fd) (g : mg "common" = some (.ref f)) : Df K mg "common" sCom ["one", "other"] f fd := by
  obtain ⟨kV, doc, pm, an, cdv, ct, rfl, F⟩ := fun_of F
  have ⟨p0, p1, ea⟩ : ∃ p0 p1 : Pos, defArgs sCom = plainA [{ arg := "one", annotation := none, pos := p0 }, { arg := "other", annotation := none, pos := p1 }] := ⟨_, _, rfl⟩
  exact ⟨F, g, by rw [ea]; exact bp_1, no_kw (by decide +kernel), no_kw (by decide +kernel)⟩
theorem bp_2 {x q : Str} {p0 p1 : Pos} {body : List Stmt} {sc : Scope} {kV doc pm : Value} {an : Option Addr} {cdv ct : Value} (s : Shared) (us : List Value) (hl : us.length = 2) : BindsTo s (PySem.W.fnOf x q (plainA [{ arg := "top", annotation := none, pos := p0 }, { arg := "bottom", annotation := none, pos := p1 }]) body sc .none kV doc pm an cdv ct) ⟨us, []⟩ ((["top", "bottom"] : List Str).zip us) := .of_eq (match us, hl with | [_, _], _ => rfl)
theorem df_fraction {K : PySem.W.Frag} {mg : Str → Option Value} {f : Addr} {fd : FuncData} (F : FunD K "fraction" "fraction" (defArgs sFrac) (defBody sFrac) (defScope sFrac) [] [] f fd) (g : mg "fraction" = some (.ref f)) : Df K mg "fraction" sFrac ["top", "bottom"] f fd := by
  obtain ⟨kV, doc, pm, an, cdv, ct, rfl, F⟩ := fun_of F
  have ⟨p0, p1, ea⟩ : ∃ p0 p1 : Pos, defArgs sFrac = plainA [{ arg := "top", annotation := none, pos := p0 }, { arg := "bottom", annotation := none, pos := p1 }] := ⟨_, _, rfl⟩
  exact ⟨F, g, by rw [ea]; exact bp_2, fun _ s us hl => .of_eq (match us, hl with | [_, _], _ => rfl), fun _ s us hl => .of_eq (match us, hl with | [_, _], _ => rfl)⟩
theorem df_plus {K : PySem.W.Frag} {mg : Str → Option Value} {f : Addr} {fd : FuncData} (F : FunD K "plus" "plus" (defArgs s_plus) (defBody s_plus) (defScope s_plus) [] [] f fd) (g : mg "plus" = some (.ref f)) : Df K mg "plus" s_plus ["one", "other"] f fd := by
  obtain ⟨kV, doc, pm, an, cdv, ct, rfl, F⟩ := fun_of F
  have ⟨p0, p1, ea⟩ : ∃ p0 p1 : Pos, defArgs s_plus = plainA [{ arg := "one", annotation := none, pos := p0 }, { arg := "other", annotation := none, pos := p1 }] := ⟨_, _, rfl⟩
  exact ⟨F, g, by rw [ea]; exact bp_1, fun _ s us hl => .of_eq (match us, hl with | [_, _], _ => rfl), fun _ s us hl => .of_eq (match us, hl with | [_, _], _ => rfl)⟩
theorem df_over {K : PySem.W.Frag} {mg : Str → Option Value} {f : Addr} {fd : FuncData} (F : FunD K "over" "over" (defArgs s_over) (defBody s_over) (defScope s_over) [] [] f fd) (g : mg "over" = some (.ref f)) : Df K mg "over" s_over ["one", "other"] f fd := by
  obtain ⟨kV, doc, pm, an, cdv, ct, rfl, F⟩ := fun_of F
  have ⟨p0, p1, ea⟩ : ∃ p0 p1 : Pos, defArgs s_over = plainA [{ arg := "one", annotation := none, pos := p0 }, { arg := "other", annotation := none, pos := p1 }] := ⟨_, _, rfl⟩
  exact ⟨F, g, by rw [ea]; exact bp_1, fun _ s us hl => .of_eq (match us, hl with | [_, _], _ => rfl), fun _ s us hl => .of_eq (match us, hl with | [_, _], _ => rfl)⟩
theorem bp_3 {x q : Str} {p0 : Pos} {body : List Stmt} {sc : Scope} {kV doc pm : Value} {an : Option Addr} {cdv ct : Value} (s : Shared) (us : List Value) (hl : us.length = 1) : BindsTo s (PySem.W.fnOf x q (plainA [{ arg := "ones", annotation := none, pos := p0 }]) body sc .none kV doc pm an cdv ct) ⟨us, []⟩ ((["ones"] : List Str).zip us) := .of_eq (match us, hl with | [_], _ => rfl)
theorem df_together {K : PySem.W.Frag} {mg : Str → Option Value} {f : Addr} {fd : FuncData} (F : FunD K "together" "together" (defArgs s_together) (defBody s_together) (defScope s_together) [] [] f fd) (g : mg "together" = some (.ref f)) : Df K mg "together" s_together ["ones"] f fd := by
  obtain ⟨kV, doc, pm, an, cdv, ct, rfl, F⟩ := fun_of F
  have ⟨p0, ea⟩ : ∃ p0 : Pos, defArgs s_together = plainA [{ arg := "ones", annotation := none, pos := p0 }] := ⟨_, rfl⟩
  exact ⟨F, g, by rw [ea]; exact bp_3, no_kw (by decide +kernel), no_kw (by decide +kernel)⟩
theorem df_is_less {K : PySem.W.Frag} {mg : Str → Option Value} {f : Addr} {fd : FuncData} (F : FunD K "is_less" "is_less" (defArgs s_is_less) (defBody s_is_less) (defScope s_is_less) [] [] f fd) (g : mg "is_less" = some (.ref f)) : Df K mg "is_less" s_is_less ["one", "other"] f fd := by
  obtain ⟨kV, doc, pm, an, cdv, ct, rfl, F⟩ := fun_of F
  have ⟨p0, p1, ea⟩ : ∃ p0 p1 : Pos, defArgs s_is_less = plainA [{ arg := "one", annotation := none, pos := p0 }, { arg := "other", annotation := none, pos := p1 }] := ⟨_, _, rfl⟩
  exact ⟨F, g, by rw [ea]; exact bp_1, fun _ s us hl => .of_eq (match us, hl with | [_, _], _ => rfl), fun _ s us hl => .of_eq (match us, hl with | [_, _], _ => rfl)⟩
theorem df_is_fraction {K : PySem.W.Frag} {mg : Str → Option Value} {f : Addr} {fd : FuncData} (F : FunD K "is_fraction" "is_fraction" (defArgs s_is_fraction) (defBody s_is_fraction) (defScope s_is_fraction) [] [] f fd) (g : mg "is_fraction" = some (.ref f)) : Df K mg "is_fraction" s_is_fraction ["thing"] f fd := by
  obtain ⟨kV, doc, pm, an, cdv, ct, rfl, F⟩ := fun_of F
  have ⟨p0, ea⟩ : ∃ p0 : Pos, defArgs s_is_fraction = plainA [{ arg := "thing", annotation := none, pos := p0 }] := ⟨_, rfl⟩
  exact ⟨F, g, by rw [ea]; exact bp_0, fun _ s us hl => .of_eq (match us, hl with | [_], _ => rfl), fun _ s us hl => .of_eq (match us, hl with | [_], _ => rfl)⟩
theorem df_is_name {K : PySem.W.Frag} {mg : Str → Option Value} {f : Addr} {fd : FuncData} (F : FunD K "is_name" "is_name" (defArgs s_is_name) (defBody s_is_name) (defScope s_is_name) [] [] f fd) (g : mg "is_name" = some (.ref f)) : Df K mg "is_name" s_is_name ["thing"] f fd := by
  obtain ⟨kV, doc, pm, an, cdv, ct, rfl, F⟩ := fun_of F
  have ⟨p0, ea⟩ : ∃ p0 : Pos, defArgs s_is_name = plainA [{ arg := "thing", annotation := none, pos := p0 }] := ⟨_, rfl⟩
  exact ⟨F, g, by rw [ea]; exact bp_0, fun _ s us hl => .of_eq (match us, hl with | [_], _ => rfl), fun _ s us hl => .of_eq (match us, hl with | [_], _ => rfl)⟩
theorem bp_4 {x q : Str} {p0 p1 : Pos} {body : List Stmt} {sc : Scope} {kV doc pm : Value} {an : Option Addr} {cdv ct : Value} (s : Shared) (us : List Value) (hl : us.length = 2) : BindsTo s (PySem.W.fnOf x q (plainA [{ arg := "thing", annotation := none, pos := p0 }, { arg := "names", annotation := none, pos := p1 }]) body sc .none kV doc pm an cdv ct) ⟨us, []⟩ ((["thing", "names"] : List Str).zip us) := .of_eq (match us, hl with | [_, _], _ => rfl)
theorem df_is_one_of {K : PySem.W.Frag} {mg : Str → Option Value} {f : Addr} {fd : FuncData} (F : FunD K "is_one_of" "is_one_of" (defArgs s_is_one_of) (defBody s_is_one_of) (defScope s_is_one_of) [] [] f fd) (g : mg "is_one_of" = some (.ref f)) : Df K mg "is_one_of" s_is_one_of ["thing", "names"] f fd := by
  obtain ⟨kV, doc, pm, an, cdv, ct, rfl, F⟩ := fun_of F
  have ⟨p0, p1, ea⟩ : ∃ p0 p1 : Pos, defArgs s_is_one_of = plainA [{ arg := "thing", annotation := none, pos := p0 }, { arg := "names", annotation := none, pos := p1 }] := ⟨_, _, rfl⟩
  exact ⟨F, g, by rw [ea]; exact bp_4, no_kw (by decide +kernel), no_kw (by decide +kernel)⟩
theorem bp_5 {x q : Str} {p0 : Pos} {body : List Stmt} {sc : Scope} {kV doc pm : Value} {an : Option Addr} {cdv ct : Value} (s : Shared) (us : List Value) (hl : us.length = 1) : BindsTo s (PySem.W.fnOf x q (plainA [{ arg := "measure", annotation := none, pos := p0 }]) body sc .none kV doc pm an cdv ct) ⟨us, []⟩ ((["measure"] : List Str).zip us) := .of_eq (match us, hl with | [_], _ => rfl)
theorem df_measure_or_none_of_it {K : PySem.W.Frag} {mg : Str → Option Value} {f : Addr} {fd : FuncData} (F : FunD K "measure_or_none_of_it" "measure_or_none_of_it" (defArgs s_measure_or_none_of_it) (defBody s_measure_or_none_of_it) (defScope s_measure_or_none_of_it) [] [] f fd) (g : mg "measure_or_none_of_it" = some (.ref f)) : Df K mg "measure_or_none_of_it" s_measure_or_none_of_it ["measure"] f fd := by
  obtain ⟨kV, doc, pm, an, cdv, ct, rfl, F⟩ := fun_of F
  have ⟨p0, ea⟩ : ∃ p0 : Pos, defArgs s_measure_or_none_of_it = plainA [{ arg := "measure", annotation := none, pos := p0 }] := ⟨_, rfl⟩
  exact ⟨F, g, by rw [ea]; exact bp_5, no_kw (by decide +kernel), no_kw (by decide +kernel)⟩
theorem df_is_measure {K : PySem.W.Frag} {mg : Str → Option Value} {f : Addr} {fd : FuncData} (F : FunD K "is_measure" "is_measure" (defArgs s_is_measure) (defBody s_is_measure) (defScope s_is_measure) [] [] f fd) (g : mg "is_measure" = some (.ref f)) : Df K mg "is_measure" s_is_measure ["thing"] f fd := by
  obtain ⟨kV, doc, pm, an, cdv, ct, rfl, F⟩ := fun_of F
  have ⟨p0, ea⟩ : ∃ p0 : Pos, defArgs s_is_measure = plainA [{ arg := "thing", annotation := none, pos := p0 }] := ⟨_, rfl⟩
  exact ⟨F, g, by rw [ea]; exact bp_0, no_kw (by decide +kernel), no_kw (by decide +kernel)⟩
theorem bp_6 {x q : Str} {p0 p1 p2 : Pos} {body : List Stmt} {sc : Scope} {kV doc pm : Value} {an : Option Addr} {cdv ct : Value} (s : Shared) (us : List Value) (hl : us.length = 3) : BindsTo s (PySem.W.fnOf x q (plainA [{ arg := "flour", annotation := none, pos := p0 }, { arg := "water", annotation := none, pos := p1 }, { arg := "salt", annotation := none, pos := p2 }]) body sc .none kV doc pm an cdv ct) ⟨us, []⟩ ((["flour", "water", "salt"] : List Str).zip us) := .of_eq (match us, hl with | [_, _, _], _ => rfl)
theorem df_are_too_much {K : PySem.W.Frag} {mg : Str → Option Value} {f : Addr} {fd : FuncData} (F : FunD K "are_too_much" "are_too_much" (defArgs s_are_too_much) (defBody s_are_too_much) (defScope s_are_too_much) [] [] f fd) (g : mg "are_too_much" = some (.ref f)) : Df K mg "are_too_much" s_are_too_much ["flour", "water", "salt"] f fd := by
  obtain ⟨kV, doc, pm, an, cdv, ct, rfl, F⟩ := fun_of F
  have ⟨p0, p1, p2, ea⟩ : ∃ p0 p1 p2 : Pos, defArgs s_are_too_much = plainA [{ arg := "flour", annotation := none, pos := p0 }, { arg := "water", annotation := none, pos := p1 }, { arg := "salt", annotation := none, pos := p2 }] := ⟨_, _, _, rfl⟩
  exact ⟨F, g, by rw [ea]; exact bp_6, no_kw (by decide +kernel), no_kw (by decide +kernel)⟩
theorem bp_7 {x q : Str} {p0 p1 : Pos} {body : List Stmt} {sc : Scope} {kV doc pm : Value} {an : Option Addr} {cdv ct : Value} (s : Shared) (us : List Value) (hl : us.length = 2) : BindsTo s (PySem.W.fnOf x q (plainA [{ arg := "name", annotation := none, pos := p0 }, { arg := "measures", annotation := none, pos := p1 }]) body sc .none kV doc pm an cdv ct) ⟨us, []⟩ ((["name", "measures"] : List Str).zip us) := .of_eq (match us, hl with | [_, _], _ => rfl)
theorem df_first_wrong {K : PySem.W.Frag} {mg : Str → Option Value} {f : Addr} {fd : FuncData} (F : FunD K "first_wrong" "first_wrong" (defArgs s_first_wrong) (defBody s_first_wrong) (defScope s_first_wrong) [] [] f fd) (g : mg "first_wrong" = some (.ref f)) : Df K mg "first_wrong" s_first_wrong ["name", "measures"] f fd := by
  obtain ⟨kV, doc, pm, an, cdv, ct, rfl, F⟩ := fun_of F
  have ⟨p0, p1, ea⟩ : ∃ p0 p1 : Pos, defArgs s_first_wrong = plainA [{ arg := "name", annotation := none, pos := p0 }, { arg := "measures", annotation := none, pos := p1 }] := ⟨_, _, rfl⟩
  exact ⟨F, g, by rw [ea]; exact bp_7, no_kw (by decide +kernel), no_kw (by decide +kernel)⟩
theorem bp_8 {x q : Str} {p0 p1 : Pos} {body : List Stmt} {sc : Scope} {kV doc pm : Value} {an : Option Addr} {cdv ct : Value} (s : Shared) (us : List Value) (hl : us.length = 2) : BindsTo s (PySem.W.fnOf x q (plainA [{ arg := "_law_script", annotation := none, pos := p0 }, { arg := "_law_k", annotation := none, pos := p1 }]) body sc .none kV doc pm an cdv ct) ⟨us, []⟩ ((["_law_script", "_law_k"] : List Str).zip us) := .of_eq (match us, hl with | [_, _], _ => rfl)
theorem df__law_cell {K : PySem.W.Frag} {mg : Str → Option Value} {f : Addr} {fd : FuncData} (F : FunD K "_law_cell" "_law_cell" (defArgs s__law_cell) (defBody s__law_cell) (defScope s__law_cell) [] [] f fd) (g : mg "_law_cell" = some (.ref f)) : Df K mg "_law_cell" s__law_cell ["_law_script", "_law_k"] f fd := by
  obtain ⟨kV, doc, pm, an, cdv, ct, rfl, F⟩ := fun_of F
  have ⟨p0, p1, ea⟩ : ∃ p0 p1 : Pos, defArgs s__law_cell = plainA [{ arg := "_law_script", annotation := none, pos := p0 }, { arg := "_law_k", annotation := none, pos := p1 }] := ⟨_, _, rfl⟩
  exact ⟨F, g, by rw [ea]; exact bp_8, no_kw (by decide +kernel), no_kw (by decide +kernel)⟩
theorem bp_9 {x q : Str} {p0 : Pos} {body : List Stmt} {sc : Scope} {kV doc pm : Value} {an : Option Addr} {cdv ct : Value} (s : Shared) (us : List Value) (hl : us.length = 1) : BindsTo s (PySem.W.fnOf x q (plainA [{ arg := "_law_cell_here", annotation := none, pos := p0 }]) body sc .none kV doc pm an cdv ct) ⟨us, []⟩ ((["_law_cell_here"] : List Str).zip us) := .of_eq (match us, hl with | [_], _ => rfl)
theorem df__law_pot {K : PySem.W.Frag} {mg : Str → Option Value} {f : Addr} {fd : FuncData} (F : FunD K "_law_pot" "_law_pot" (defArgs s__law_pot) (defBody s__law_pot) (defScope s__law_pot) [] [] f fd) (g : mg "_law_pot" = some (.ref f)) : Df K mg "_law_pot" s__law_pot ["_law_cell_here"] f fd := by
  obtain ⟨kV, doc, pm, an, cdv, ct, rfl, F⟩ := fun_of F
  have ⟨p0, ea⟩ : ∃ p0 : Pos, defArgs s__law_pot = plainA [{ arg := "_law_cell_here", annotation := none, pos := p0 }] := ⟨_, rfl⟩
  exact ⟨F, g, by rw [ea]; exact bp_9, no_kw (by decide +kernel), no_kw (by decide +kernel)⟩
theorem bp_10 {x q : Str} {p0 p1 : Pos} {body : List Stmt} {sc : Scope} {kV doc pm : Value} {an : Option Addr} {cdv ct : Value} (s : Shared) (us : List Value) (hl : us.length = 2) : BindsTo s (PySem.W.fnOf x q (plainA [{ arg := "_law_pot_here", annotation := none, pos := p0 }, { arg := "_law_many", annotation := none, pos := p1 }]) body sc .none kV doc pm an cdv ct) ⟨us, []⟩ ((["_law_pot_here", "_law_many"] : List Str).zip us) := .of_eq (match us, hl with | [_, _], _ => rfl)
theorem df__law_draw {K : PySem.W.Frag} {mg : Str → Option Value} {f : Addr} {fd : FuncData} (F : FunD K "_law_draw" "_law_draw" (defArgs s__law_draw) (defBody s__law_draw) (defScope s__law_draw) [] [] f fd) (g : mg "_law_draw" = some (.ref f)) : Df K mg "_law_draw" s__law_draw ["_law_pot_here", "_law_many"] f fd := by
  obtain ⟨kV, doc, pm, an, cdv, ct, rfl, F⟩ := fun_of F
  have ⟨p0, p1, ea⟩ : ∃ p0 p1 : Pos, defArgs s__law_draw = plainA [{ arg := "_law_pot_here", annotation := none, pos := p0 }, { arg := "_law_many", annotation := none, pos := p1 }] := ⟨_, _, rfl⟩
  exact ⟨F, g, by rw [ea]; exact bp_10, no_kw (by decide +kernel), no_kw (by decide +kernel)⟩
theorem bp_11 {x q : Str} {p0 p1 : Pos} {body : List Stmt} {sc : Scope} {kV doc pm : Value} {an : Option Addr} {cdv ct : Value} (s : Shared) (us : List Value) (hl : us.length = 2) : BindsTo s (PySem.W.fnOf x q (plainA [{ arg := "_law_top", annotation := none, pos := p0 }, { arg := "_law_bottom", annotation := none, pos := p1 }]) body sc .none kV doc pm an cdv ct) ⟨us, []⟩ ((["_law_top", "_law_bottom"] : List Str).zip us) := .of_eq (match us, hl with | [_, _], _ => rfl)
theorem df__law_low {K : PySem.W.Frag} {mg : Str → Option Value} {f : Addr} {fd : FuncData} (F : FunD K "_law_low" "_law_low" (defArgs s__law_low) (defBody s__law_low) (defScope s__law_low) [] [] f fd) (g : mg "_law_low" = some (.ref f)) : Df K mg "_law_low" s__law_low ["_law_top", "_law_bottom"] f fd := by
  obtain ⟨kV, doc, pm, an, cdv, ct, rfl, F⟩ := fun_of F
  have ⟨p0, p1, ea⟩ : ∃ p0 p1 : Pos, defArgs s__law_low = plainA [{ arg := "_law_top", annotation := none, pos := p0 }, { arg := "_law_bottom", annotation := none, pos := p1 }] := ⟨_, _, rfl⟩
  exact ⟨F, g, by rw [ea]; exact bp_11, no_kw (by decide +kernel), no_kw (by decide +kernel)⟩
theorem bp_12 {x q : Str} {p0 p1 : Pos} {body : List Stmt} {sc : Scope} {kV doc pm : Value} {an : Option Addr} {cdv ct : Value} (s : Shared) (us : List Value) (hl : us.length = 2) : BindsTo s (PySem.W.fnOf x q (plainA [{ arg := "_law_pot_here", annotation := none, pos := p0 }, { arg := "_law_taken", annotation := none, pos := p1 }]) body sc .none kV doc pm an cdv ct) ⟨us, []⟩ ((["_law_pot_here", "_law_taken"] : List Str).zip us) := .of_eq (match us, hl with | [_, _], _ => rfl)
theorem df__law_name {K : PySem.W.Frag} {mg : Str → Option Value} {f : Addr} {fd : FuncData} (F : FunD K "_law_name" "_law_name" (defArgs s__law_name) (defBody s__law_name) (defScope s__law_name) [] [] f fd) (g : mg "_law_name" = some (.ref f)) : Df K mg "_law_name" s__law_name ["_law_pot_here", "_law_taken"] f fd := by
  obtain ⟨kV, doc, pm, an, cdv, ct, rfl, F⟩ := fun_of F
  have ⟨p0, p1, ea⟩ : ∃ p0 p1 : Pos, defArgs s__law_name = plainA [{ arg := "_law_pot_here", annotation := none, pos := p0 }, { arg := "_law_taken", annotation := none, pos := p1 }] := ⟨_, _, rfl⟩
  exact ⟨F, g, by rw [ea]; exact bp_12, no_kw (by decide +kernel), no_kw (by decide +kernel)⟩
theorem bp_13 {x q : Str} {p0 : Pos} {body : List Stmt} {sc : Scope} {kV doc pm : Value} {an : Option Addr} {cdv ct : Value} (s : Shared) (us : List Value) (hl : us.length = 1) : BindsTo s (PySem.W.fnOf x q (plainA [{ arg := "_law_e", annotation := none, pos := p0 }]) body sc .none kV doc pm an cdv ct) ⟨us, []⟩ ((["_law_e"] : List Str).zip us) := .of_eq (match us, hl with | [_], _ => rfl)
theorem df__law_others {K : PySem.W.Frag} {mg : Str → Option Value} {f : Addr} {fd : FuncData} (F : FunD K "_law_others" "_law_others" (defArgs s__law_others) (defBody s__law_others) (defScope s__law_others) [] [] f fd) (g : mg "_law_others" = some (.ref f)) : Df K mg "_law_others" s__law_others ["_law_e"] f fd := by
  obtain ⟨kV, doc, pm, an, cdv, ct, rfl, F⟩ := fun_of F
  have ⟨p0, ea⟩ : ∃ p0 : Pos, defArgs s__law_others = plainA [{ arg := "_law_e", annotation := none, pos := p0 }] := ⟨_, rfl⟩
  exact ⟨F, g, by rw [ea]; exact bp_13, no_kw (by decide +kernel), no_kw (by decide +kernel)⟩
theorem bp_14 {x q : Str} {p0 p1 p2 : Pos} {body : List Stmt} {sc : Scope} {kV doc pm : Value} {an : Option Addr} {cdv ct : Value} (s : Shared) (us : List Value) (hl : us.length = 3) : BindsTo s (PySem.W.fnOf x q (plainA [{ arg := "_law_way", annotation := none, pos := p0 }, { arg := "_law_stuff", annotation := none, pos := p1 }, { arg := "_law_thing", annotation := none, pos := p2 }]) body sc .none kV doc pm an cdv ct) ⟨us, []⟩ ((["_law_way", "_law_stuff", "_law_thing"] : List Str).zip us) := .of_eq (match us, hl with | [_, _, _], _ => rfl)
theorem df__law_deed {K : PySem.W.Frag} {mg : Str → Option Value} {f : Addr} {fd : FuncData} (F : FunD K "_law_deed" "_law_deed" (defArgs s__law_deed) (defBody s__law_deed) (defScope s__law_deed) [] [] f fd) (g : mg "_law_deed" = some (.ref f)) : Df K mg "_law_deed" s__law_deed ["_law_way", "_law_stuff", "_law_thing"] f fd := by
  obtain ⟨kV, doc, pm, an, cdv, ct, rfl, F⟩ := fun_of F
  have ⟨p0, p1, p2, ea⟩ : ∃ p0 p1 p2 : Pos, defArgs s__law_deed = plainA [{ arg := "_law_way", annotation := none, pos := p0 }, { arg := "_law_stuff", annotation := none, pos := p1 }, { arg := "_law_thing", annotation := none, pos := p2 }] := ⟨_, _, _, rfl⟩
  exact ⟨F, g, by rw [ea]; exact bp_14, no_kw (by decide +kernel), no_kw (by decide +kernel)⟩
theorem df__law_told {K : PySem.W.Frag} {mg : Str → Option Value} {f : Addr} {fd : FuncData} (F : FunD K "_law_told" "_law_told" (defArgs s__law_told) (defBody s__law_told) (defScope s__law_told) [] [] f fd) (g : mg "_law_told" = some (.ref f)) : Df K mg "_law_told" s__law_told ["_law_way", "_law_stuff", "_law_thing"] f fd := by
  obtain ⟨kV, doc, pm, an, cdv, ct, rfl, F⟩ := fun_of F
  have ⟨p0, p1, p2, ea⟩ : ∃ p0 p1 p2 : Pos, defArgs s__law_told = plainA [{ arg := "_law_way", annotation := none, pos := p0 }, { arg := "_law_stuff", annotation := none, pos := p1 }, { arg := "_law_thing", annotation := none, pos := p2 }] := ⟨_, _, _, rfl⟩
  exact ⟨F, g, by rw [ea]; exact bp_14, no_kw (by decide +kernel), no_kw (by decide +kernel)⟩
theorem bp_15 {x q : Str} {p0 : Pos} {body : List Stmt} {sc : Scope} {kV doc pm : Value} {an : Option Addr} {cdv ct : Value} (s : Shared) (us : List Value) (hl : us.length = 1) : BindsTo s (PySem.W.fnOf x q (plainA [{ arg := "_law_pot_here", annotation := none, pos := p0 }]) body sc .none kV doc pm an cdv ct) ⟨us, []⟩ ((["_law_pot_here"] : List Str).zip us) := .of_eq (match us, hl with | [_], _ => rfl)
theorem df__law_word {K : PySem.W.Frag} {mg : Str → Option Value} {f : Addr} {fd : FuncData} (F : FunD K "_law_word" "_law_word" (defArgs s__law_word) (defBody s__law_word) (defScope s__law_word) [] [] f fd) (g : mg "_law_word" = some (.ref f)) : Df K mg "_law_word" s__law_word ["_law_pot_here"] f fd := by
  obtain ⟨kV, doc, pm, an, cdv, ct, rfl, F⟩ := fun_of F
  have ⟨p0, ea⟩ : ∃ p0 : Pos, defArgs s__law_word = plainA [{ arg := "_law_pot_here", annotation := none, pos := p0 }] := ⟨_, rfl⟩
  exact ⟨F, g, by rw [ea]; exact bp_15, no_kw (by decide +kernel), no_kw (by decide +kernel)⟩
theorem df__law_right {K : PySem.W.Frag} {mg : Str → Option Value} {f : Addr} {fd : FuncData} (F : FunD K "_law_right" "_law_right" (defArgs s__law_right) (defBody s__law_right) (defScope s__law_right) [] [] f fd) (g : mg "_law_right" = some (.ref f)) : Df K mg "_law_right" s__law_right ["_law_pot_here"] f fd := by
  obtain ⟨kV, doc, pm, an, cdv, ct, rfl, F⟩ := fun_of F
  have ⟨p0, ea⟩ : ∃ p0 : Pos, defArgs s__law_right = plainA [{ arg := "_law_pot_here", annotation := none, pos := p0 }] := ⟨_, rfl⟩
  exact ⟨F, g, by rw [ea]; exact bp_15, no_kw (by decide +kernel), no_kw (by decide +kernel)⟩
theorem bp_16 {x q : Str} {p0 : Pos} {body : List Stmt} {sc : Scope} {kV doc pm : Value} {an : Option Addr} {cdv ct : Value} (s : Shared) (us : List Value) (hl : us.length = 1) : BindsTo s (PySem.W.fnOf x q (plainA [{ arg := "_law_script", annotation := none, pos := p0 }]) body sc .none kV doc pm an cdv ct) ⟨us, []⟩ ((["_law_script"] : List Str).zip us) := .of_eq (match us, hl with | [_], _ => rfl)
theorem df_law {K : PySem.W.Frag} {mg : Str → Option Value} {f : Addr} {fd : FuncData} (F : FunD K "law" "law" (defArgs s_law) (defBody s_law) (defScope s_law) [] [] f fd) (g : mg "law" = some (.ref f)) : Df K mg "law" s_law ["_law_script"] f fd := by
  obtain ⟨kV, doc, pm, an, cdv, ct, rfl, F⟩ := fun_of F
  have ⟨p0, ea⟩ : ∃ p0 : Pos, defArgs s_law = plainA [{ arg := "_law_script", annotation := none, pos := p0 }] := ⟨_, rfl⟩
  exact ⟨F, g, by rw [ea]; exact bp_16, no_kw (by decide +kernel), no_kw (by decide +kernel)⟩
theorem vals_take {vs : List V} {us : List Value} (r : Vals vs us) : ∀ n, Vals (vs.take n) (us.take n) := by
  induction r with
  | nil => intro n; cases n <;> exact .nil
  | cons a _ ih => intro n; cases n with
    | zero => exact .nil
    | succ n => exact .cons a (ih n)
theorem kw_of {K : PySem.W.Frag} {a : Addr} (h : (match K.lookup a with | some o => (match o.cls with | .type t => t == "tuple" | _ => false) && o.dict.isNone | none => false) = true) : ∃ o, K.lookup a = some o ∧ o.cls = .type "tuple" ∧ o.dict = none := by
  cases e : K.lookup a with
  | none =>
    rw [e] at h
    cases h
  | some o =>
    rw [e] at h
    obtain ⟨cls, dict, data, slots⟩ := o
    have h' := He.ba h
    cases cls with
    | type t =>
      refine ⟨_, rfl, ?_, ?_⟩
      · have : t = "tuple" := by simpa using h'.1
        show Value.type t = _
        rw [this]
      · exact Option.isNone_iff_eq_none.mp h'.2
    | _ => cases h'.1
theorem mt_measure {K : PySem.W.Frag} {f : Addr} {fd : FuncData} (F : FunD K "measure" "Stuff.measure" (defArgs s_measure) (defBody s_measure) (defScope s_measure) [] [] f fd) : Fun K "measure" "Stuff.measure" s_measure f fd ∧ ∀ (s : Shared) (us : List Value), us.length = 2 → BindsTo s fd ⟨us, []⟩ ((["self", "word"] : List Str).zip us) := by
  obtain ⟨kV, doc, pm, an, cdv, ct, rfl, F⟩ := fun_of F
  exact ⟨F, fun s us hl => .of_eq (match us, hl with | [_, _], _ => rfl)⟩
theorem ways16 {K : PySem.W.Frag} {f : Addr} {fd : FuncData} (F : FunD K "__init__" "Stuff.__init__" (defArgs s_init) (defBody s_init) (defScope s_init) [.non, .non, .non, .non, .non] [] f fd) : (∃ g, KBn K fd ["self", "name", "flour", "water", "salt", "thirst", "price"] (6 + 1) [] g (fun vs _ => vs)) ∧ ∃ g, KBn K fd ["self", "name", "flour", "water", "salt", "thirst", "price"] (1 + 1) ["price"] g (fun vs zs => gPri vs [.non, .non, .non, .non, .non] zs) := by
  constructor
  · obtain ⟨its, hb⟩ := L2.FunD.kbindsD (ps := ["self", "name", "flour", "water", "salt", "thirst", "price"]) F (6 + 1) [] (fun us _ _ => us) (fun z => nomatch z) (fun r1 r2 r3 => r1) (fun T kV doc pm an cdv ct us its ws h1 h2 h3 => by
      match us, its, ws, h1, h2, h3 with
      | [_, _, _, _, _, _, _], [_, _, _, _, _], [], _, _, _ => exact ⟨_, rfl, rfl⟩)
    exact ⟨_, hb⟩
  · obtain ⟨its, hb⟩ := L2.FunD.kbindsD (ps := ["self", "name", "flour", "water", "salt", "thirst", "price"]) F (1 + 1) ["price"] (fun us ds ws => gPri us ds ws) (fun z => nomatch z) (fun r1 r2 r3 => r1.append ((vals_take r2 4).append r3)) (fun T kV doc pm an cdv ct us its ws h1 h2 h3 => by
      match us, its, ws, h1, h2, h3 with
      | [_, _], [_, _, _, _, _], [_], _, _, _ => exact ⟨_, rfl, rfl⟩)
    exact ⟨_, hb⟩
theorem all_mk {l : PySem.W.OpenLaw} {w : World} {K : PySem.W.Frag} {h : Heap} {mg : Str → Option Value} {fa : Addr} (X : K.In h) (G : h.Ns mainGlobals mg) (hfa : mg "law" = some (.ref fa)) (c : SaysY hdFa hdFn K) (hfile : l.prog.main.file = FILE) (htop : (l.prog.main.scope.names.lookup ("super" : Str)).isSome = false) :
    ∃ fd : FuncData, (∀ (s : Shared) (v : Value), BindsTo s fd ⟨[v], []⟩ [("_law_script", v)]) ∧ ∀ base : Heap, K.In base → base.Ns mainGlobals mg → FnG l.prog w K mg base CX0 14 fa fd ["_law_script"] (sp_law K) := by
  have M : Blt mg := ⟨He.free_ok X G (c.fact 86), He.free_ok X G (c.fact 87), He.free_ok X G (c.fact 88), He.free_ok X G (c.fact 89), He.free_ok X G (c.fact 90), He.free_ok X G (c.fact 91), He.free_ok X G (c.fact 92), He.free_ok X G (c.fact 93), He.free_ok X G (c.fact 94), He.free_ok X G (c.fact 95)⟩
  obtain ⟨xC, kC, bC, tC⟩ := He.exc_ok (c.fact 31)
  have T : ExT K mg "NoFraction" (He.ga K "NoFraction") := ⟨He.glo_ok X G (c.fact 34), xC, kC, bC, tC, He.exm_ok (c.fact 32)⟩
  obtain ⟨t_LETTERS, g_LETTERS⟩ := He.str_ok X G (c.fact 96)
  obtain ⟨t_LONGEST_NAME, g_LONGEST_NAME⟩ := He.int_ok X G (c.fact 97)
  obtain ⟨fd0, FD0⟩ := c.def_ 4
  have D0 := df_is_whole FD0 (He.glo_ok X G (c.fact 98))
  obtain ⟨fd1, FD1⟩ := c.def_ 5
  have D1 := df_common FD1 (He.glo_ok X G (c.fact 99))
  obtain ⟨fd2, FD2⟩ := c.def_ 6
  have D2 := df_fraction FD2 (He.glo_ok X G (c.fact 100))
  obtain ⟨fd3, FD3⟩ := c.def_ 7
  have D3 := df_plus FD3 (He.glo_ok X G (c.fact 101))
  obtain ⟨fd4, FD4⟩ := c.def_ 8
  have D4 := df_over FD4 (He.glo_ok X G (c.fact 102))
  obtain ⟨fd5, FD5⟩ := c.def_ 9
  have D5 := df_together FD5 (He.glo_ok X G (c.fact 103))
  obtain ⟨fd6, FD6⟩ := c.def_ 10
  have D6 := df_is_less FD6 (He.glo_ok X G (c.fact 104))
  obtain ⟨fd7, FD7⟩ := c.def_ 11
  have D7 := df_is_fraction FD7 (He.glo_ok X G (c.fact 105))
  obtain ⟨fd8, FD8⟩ := c.def_ 12
  have D8 := df_is_name FD8 (He.glo_ok X G (c.fact 106))
  obtain ⟨fd9, FD9⟩ := c.def_ 13
  have D9 := df_is_one_of FD9 (He.glo_ok X G (c.fact 107))
  obtain ⟨fd10, FD10⟩ := c.def_ 14
  have D10 := df_measure_or_none_of_it FD10 (He.glo_ok X G (c.fact 108))
  obtain ⟨fd11, FD11⟩ := c.def_ 15
  have D11 := df_is_measure FD11 (He.glo_ok X G (c.fact 109))
  obtain ⟨fd12, FD12⟩ := c.def_ 16
  have D12 := df_are_too_much FD12 (He.glo_ok X G (c.fact 110))
  obtain ⟨fd13, FD13⟩ := c.def_ 17
  have D13 := df_first_wrong FD13 (He.glo_ok X G (c.fact 111))
  obtain ⟨fd14, FD14⟩ := c.def_ 18
  have D14 := df__law_cell FD14 (He.glo_ok X G (c.fact 112))
  obtain ⟨fd15, FD15⟩ := c.def_ 19
  have D15 := df__law_pot FD15 (He.glo_ok X G (c.fact 113))
  obtain ⟨fd16, FD16⟩ := c.def_ 20
  have D16 := df__law_draw FD16 (He.glo_ok X G (c.fact 114))
  obtain ⟨fd17, FD17⟩ := c.def_ 21
  have D17 := df__law_low FD17 (He.glo_ok X G (c.fact 115))
  obtain ⟨fd18, FD18⟩ := c.def_ 22
  have D18 := df__law_name FD18 (He.glo_ok X G (c.fact 116))
  obtain ⟨fd19, FD19⟩ := c.def_ 23
  have D19 := df__law_others FD19 (He.glo_ok X G (c.fact 117))
  obtain ⟨fd20, FD20⟩ := c.def_ 24
  have D20 := df__law_deed FD20 (He.glo_ok X G (c.fact 118))
  obtain ⟨fd21, FD21⟩ := c.def_ 25
  have D21 := df__law_told FD21 (He.glo_ok X G (c.fact 119))
  obtain ⟨fd22, FD22⟩ := c.def_ 26
  have D22 := df__law_word FD22 (He.glo_ok X G (c.fact 120))
  obtain ⟨fd23, FD23⟩ := c.def_ 27
  have D23 := df__law_right FD23 (He.glo_ok X G (c.fact 121))
  obtain ⟨fd24, FD24⟩ := c.def_ 28
  have D24 := df_law FD24 (He.glo_ok X G (c.fact 122))
  have e := hfa.symm.trans D24.g
  cases e
  refine ⟨_, fun s v => D24.b1 s [v] rfl, fun base _ _ => ?_⟩
  have Mx : Bltx mg := ⟨He.free_ok X G (c.fact 0), He.free_ok X G (c.fact 1), He.free_ok X G (c.fact 2)⟩
  have hn : PySem.W.specialIn K (.builtin "object.__class__") "__get__" = some (some (.builtin "getset_descriptor.__get__")) := of_decide_eq_true (c.fact 3)
  have htk : PySem.W.takesIn K (.builtin "object.__class__") = some true := of_decide_eq_true (c.fact 4)
  have ml := He.free_ok X G (c.fact 5)
  have ms := He.free_ok X G (c.fact 6)
  have Gc0 := He.glo_ok X G (c.fact 7)
  have Tc0 : ∀ H, SqT K H (He.ga K "NONE_OF_IT") [.int 0, .int 1] := fun H => He.tupB_ok (c.fact 8) H
  have Gc1 := He.glo_ok X G (c.fact 9)
  have Tc1 : ∀ H, SqT K H (He.ga K "ALL_OF_IT") [.int 1, .int 1] := fun H => He.tupB_ok (c.fact 10) H
  have Gcw := He.glo_ok X G (c.fact 11)
  have Tcw : ∀ H, SqT K H (He.ga K "WORDS") (words.map V.str) := fun H => He.tupB_ok (c.fact 12) H
  have CT : Cst K mg (He.ga K "NONE_OF_IT") (He.ga K "ALL_OF_IT") (He.ga K "WORDS") := ⟨Gc0, Gc1, Gcw, Tc0, Tc1, Tcw⟩
  have kwX : ∃ o, K.lookup (He.ga K "WORDS") = some o ∧ o.cls = .type "tuple" ∧ o.dict = none := kw_of (c.fact 13)
  have CW_ : Cw K mg (He.ga K "WORDS") := ⟨Gcw, Tcw, kwX⟩
  have mzi := He.free_ok X G (c.fact 14)
  have men := He.free_ok X G (c.fact 15)
  obtain ⟨fdS, FDS⟩ := c.def_ 0
  have FDS : FunD K "__init__" "Stuff.__init__" (defArgs s_init) (defBody s_init) (defScope s_init) [.non, .non, .non, .non, .non] [] (He.ma K (He.ga K "Stuff") "__init__") fdS := FDS
  have MKS : Mk K (He.ga K "Stuff") (He.ma K (He.ga K "Stuff") "__init__") := He.mkr_ok (c.fact 16)
  have XKS : Cls K (He.ga K "Stuff") := He.cls_ok (c.fact 17)
  have XS : StG K (He.ga K "Stuff") := ⟨XKS, He.noat_ok (c.fact 18), He.noat_ok (c.fact 19)⟩
  have clS : PySem.W.findIn K (.ref (He.ga K "Stuff")) "__class__" = some (some (.builtin "object.__class__")) := of_decide_eq_true (c.fact 20)
  have moS : PySem.W.mroIn K (He.ga K "Stuff") (.type "object") = some true := of_decide_eq_true (c.fact 21)
  have GCS := He.glo_ok X G (c.fact 22)
  obtain ⟨fd_measure, FD_measure⟩ := c.def_ 1
  have FM_measure := mt_measure FD_measure
  have ME_measure : Meth K (He.ga K "Stuff") "measure" (He.ma K (He.ga K "Stuff") "measure") := He.meth_ok (c.fact 23)
  have gL := He.glo_ok X G (c.fact 24)
  have MV := He.free_ok X G (c.fact 25)
  obtain ⟨e_TS, o_TS⟩ := c.at_ 2 rfl
  obtain ⟨fdNoStuff, TS⟩ := xtB_ok (mg := mg) (ps := ["field"]) (st := sx_NoStuff) (qual := "NoStuff.__init__") hfile htop (He.glo_ok X G (c.fact 27)) (He.free_ok X G (c.fact 28)) (c.fact 26) e_TS o_TS rfl (fun cc kV doc pm an cdv ct us hl => match us, hl with | [_, _], _ => rfl)
  obtain ⟨e_TN, o_TN⟩ := c.at_ 3 rfl
  obtain ⟨fdNoName, TN⟩ := xtB_ok (mg := mg) (ps := ["who"]) (st := sx_NoName) (qual := "NoName.__init__") hfile htop (He.glo_ok X G (c.fact 30)) (He.free_ok X G (c.fact 28)) (c.fact 29) e_TN o_TN rfl (fun cc kV doc pm an cdv ct us hl => match us, hl with | [_, _], _ => rfl)
  obtain ⟨x_TF, k_TF, b_TF, t_TF⟩ := He.exc_ok (c.fact 31)
  have TF : ExT K mg "NoFraction" (He.ga K "NoFraction") := ⟨He.glo_ok X G (c.fact 34), x_TF, k_TF, b_TF, t_TF, He.exm_ok (c.fact 32)⟩
  have TFE : ExcC K (He.ga K "NoFraction") := (excB_ok (c.fact 33)).1
  have XTS : XT l.prog K mg "NoStuff" "NoStuff.__init__" "field" sNoStuff (He.ga K "NoStuff") _ _ _ _ := ⟨TS.g, TS.T, TS.iC, TS.tI, TS.F, TS.b, TS.sup, TS.no _ (by simp)⟩
  let OT : Oths K mg := ⟨(He.ga K "Dry"), He.glo_ok X G (c.fact 35), (He.ga K "Lacking"), He.glo_ok X G (c.fact 36), (He.ga K "Late"), He.glo_ok X G (c.fact 37), (He.ga K "NoBy"), He.glo_ok X G (c.fact 38), (He.ga K "NoCount"), He.glo_ok X G (c.fact 39), (He.ga K "NoDough"), He.glo_ok X G (c.fact 40), (He.ga K "NoFeel"), He.glo_ok X G (c.fact 41), (He.ga K "NoFlour"), He.glo_ok X G (c.fact 42), (He.ga K "NoHour"), He.glo_ok X G (c.fact 43), (He.ga K "NoOrder"), He.glo_ok X G (c.fact 44), (He.ga K "NoPan"), He.glo_ok X G (c.fact 45), (He.ga K "NoRow"), He.glo_ok X G (c.fact 46), (He.ga K "NoStep"), He.glo_ok X G (c.fact 47), (He.ga K "NoTaken"), He.glo_ok X G (c.fact 48), (He.ga K "NoText"), He.glo_ok X G (c.fact 49), (He.ga K "NoWeight"), He.glo_ok X G (c.fact 50), (He.ga K "NoWeights"), He.glo_ok X G (c.fact 51), (He.ga K "NoWhole"), He.glo_ok X G (c.fact 52), (He.ga K "Ring"), He.glo_ok X G (c.fact 53), (He.ga K "Short"), He.glo_ok X G (c.fact 54), (He.ga K "TooLittle"), He.glo_ok X G (c.fact 55), (He.ga K "Twice"), He.glo_ok X G (c.fact 56), (He.ga K "Uneven"), He.glo_ok X G (c.fact 57), (He.ga K "Unknown"), He.glo_ok X G (c.fact 58)⟩
  have koF0 : PySem.W.kitAny K (.ref (He.ga K "NoFraction")) [.ref (He.ga K "Dry"), .ref (He.ga K "Lacking"), .ref (He.ga K "Late"), .ref (He.ga K "NoBy"), .ref (He.ga K "NoCount"), .ref (He.ga K "NoDough"), .ref (He.ga K "NoFeel"), .ref (He.ga K "NoFlour"), .ref (He.ga K "NoHour")] = some false := of_decide_eq_true (c.fact 59)
  have koF1 : PySem.W.kitAny K (.ref (He.ga K "NoFraction")) [.ref (He.ga K "NoOrder"), .ref (He.ga K "NoPan"), .ref (He.ga K "NoRow"), .ref (He.ga K "NoStep"), .ref (He.ga K "NoTaken"), .ref (He.ga K "NoText"), .ref (He.ga K "NoWeight"), .ref (He.ga K "NoWeights")] = some false := of_decide_eq_true (c.fact 60)
  have koF2 : PySem.W.kitAny K (.ref (He.ga K "NoFraction")) [.ref (He.ga K "NoWhole"), .ref (He.ga K "Ring"), .ref (He.ga K "Short"), .ref (He.ga K "TooLittle")] = some false := of_decide_eq_true (c.fact 61)
  have koF3 : PySem.W.kitAny K (.ref (He.ga K "NoFraction")) [.ref (He.ga K "Twice"), .ref (He.ga K "Uneven"), .ref (He.ga K "Unknown")] = some false := of_decide_eq_true (c.fact 62)
  have ODF : OthD K mg OT (He.ga K "NoFraction") := ⟨koF0, koF1, koF2, koF3⟩
  have elF : PySem.W.exmOne K (.ref (He.ga K "NoFraction")) (.ref (He.ga K "LoafError")) = some true := of_decide_eq_true (c.fact 63)
  have kFF : PySem.W.kitOne K (.ref (He.ga K "NoFraction")) (.ref (He.ga K "NoFraction")) = some true := of_decide_eq_true (c.fact 64)
  have kFN : PySem.W.kitOne K (.ref (He.ga K "NoFraction")) (.ref (He.ga K "NoName")) = some false := of_decide_eq_true (c.fact 65)
  have kFS : PySem.W.kitOne K (.ref (He.ga K "NoFraction")) (.ref (He.ga K "NoStuff")) = some false := of_decide_eq_true (c.fact 66)
  have kVF : PySem.W.kitOne K (.ref (He.ga K "NoFraction")) (.type "ValueError") = some true := of_decide_eq_true (c.fact 67)
  have koN0 : PySem.W.kitAny K (.ref (He.ga K "NoName")) [.ref (He.ga K "Dry"), .ref (He.ga K "Lacking"), .ref (He.ga K "Late"), .ref (He.ga K "NoBy"), .ref (He.ga K "NoCount"), .ref (He.ga K "NoDough"), .ref (He.ga K "NoFeel"), .ref (He.ga K "NoFlour"), .ref (He.ga K "NoHour")] = some false := of_decide_eq_true (c.fact 68)
  have koN1 : PySem.W.kitAny K (.ref (He.ga K "NoName")) [.ref (He.ga K "NoOrder"), .ref (He.ga K "NoPan"), .ref (He.ga K "NoRow"), .ref (He.ga K "NoStep"), .ref (He.ga K "NoTaken"), .ref (He.ga K "NoText"), .ref (He.ga K "NoWeight"), .ref (He.ga K "NoWeights")] = some false := of_decide_eq_true (c.fact 69)
  have koN2 : PySem.W.kitAny K (.ref (He.ga K "NoName")) [.ref (He.ga K "NoWhole"), .ref (He.ga K "Ring"), .ref (He.ga K "Short"), .ref (He.ga K "TooLittle")] = some false := of_decide_eq_true (c.fact 70)
  have koN3 : PySem.W.kitAny K (.ref (He.ga K "NoName")) [.ref (He.ga K "Twice"), .ref (He.ga K "Uneven"), .ref (He.ga K "Unknown")] = some false := of_decide_eq_true (c.fact 71)
  have ODN : OthD K mg OT (He.ga K "NoName") := ⟨koN0, koN1, koN2, koN3⟩
  have elN : PySem.W.exmOne K (.ref (He.ga K "NoName")) (.ref (He.ga K "LoafError")) = some true := of_decide_eq_true (c.fact 72)
  have kNF : PySem.W.kitOne K (.ref (He.ga K "NoName")) (.ref (He.ga K "NoFraction")) = some false := of_decide_eq_true (c.fact 73)
  have kNN : PySem.W.kitOne K (.ref (He.ga K "NoName")) (.ref (He.ga K "NoName")) = some true := of_decide_eq_true (c.fact 74)
  have kNS : PySem.W.kitOne K (.ref (He.ga K "NoName")) (.ref (He.ga K "NoStuff")) = some false := of_decide_eq_true (c.fact 75)
  have kVN : PySem.W.kitOne K (.ref (He.ga K "NoName")) (.type "ValueError") = some true := of_decide_eq_true (c.fact 76)
  have koS0 : PySem.W.kitAny K (.ref (He.ga K "NoStuff")) [.ref (He.ga K "Dry"), .ref (He.ga K "Lacking"), .ref (He.ga K "Late"), .ref (He.ga K "NoBy"), .ref (He.ga K "NoCount"), .ref (He.ga K "NoDough"), .ref (He.ga K "NoFeel"), .ref (He.ga K "NoFlour"), .ref (He.ga K "NoHour")] = some false := of_decide_eq_true (c.fact 77)
  have koS1 : PySem.W.kitAny K (.ref (He.ga K "NoStuff")) [.ref (He.ga K "NoOrder"), .ref (He.ga K "NoPan"), .ref (He.ga K "NoRow"), .ref (He.ga K "NoStep"), .ref (He.ga K "NoTaken"), .ref (He.ga K "NoText"), .ref (He.ga K "NoWeight"), .ref (He.ga K "NoWeights")] = some false := of_decide_eq_true (c.fact 78)
  have koS2 : PySem.W.kitAny K (.ref (He.ga K "NoStuff")) [.ref (He.ga K "NoWhole"), .ref (He.ga K "Ring"), .ref (He.ga K "Short"), .ref (He.ga K "TooLittle")] = some false := of_decide_eq_true (c.fact 79)
  have koS3 : PySem.W.kitAny K (.ref (He.ga K "NoStuff")) [.ref (He.ga K "Twice"), .ref (He.ga K "Uneven"), .ref (He.ga K "Unknown")] = some false := of_decide_eq_true (c.fact 80)
  have ODS : OthD K mg OT (He.ga K "NoStuff") := ⟨koS0, koS1, koS2, koS3⟩
  have elS : PySem.W.exmOne K (.ref (He.ga K "NoStuff")) (.ref (He.ga K "LoafError")) = some true := of_decide_eq_true (c.fact 81)
  have kSF : PySem.W.kitOne K (.ref (He.ga K "NoStuff")) (.ref (He.ga K "NoFraction")) = some false := of_decide_eq_true (c.fact 82)
  have kSN : PySem.W.kitOne K (.ref (He.ga K "NoStuff")) (.ref (He.ga K "NoName")) = some false := of_decide_eq_true (c.fact 83)
  have kSS : PySem.W.kitOne K (.ref (He.ga K "NoStuff")) (.ref (He.ga K "NoStuff")) = some true := of_decide_eq_true (c.fact 84)
  have kVS : PySem.W.kitOne K (.ref (He.ga K "NoStuff")) (.type "ValueError") = some true := of_decide_eq_true (c.fact 85)
  have XF : TdX K mg OT (He.ga K "NoFraction") (He.ga K "NoName") (He.ga K "NoStuff") (He.ga K "LoafError") (He.ga K "NoFraction") true false false := ⟨TFE, ODF, elF, kFF, kFN, kFS, kVF⟩
  have XN : TdX K mg OT (He.ga K "NoFraction") (He.ga K "NoName") (He.ga K "NoStuff") (He.ga K "LoafError") (He.ga K "NoName") false true false := ⟨TN.E, ODN, elN, kNF, kNN, kNS, kVN⟩
  have XS_ : TdX K mg OT (He.ga K "NoFraction") (He.ga K "NoName") (He.ga K "NoStuff") (He.ga K "LoafError") (He.ga K "NoStuff") false false true := ⟨TS.E, ODS, elS, kSF, kSN, kSS, kVS⟩
  have FN_ : TdF K (He.ga K "NoName") "who" := ⟨TN.X, TN.no _ (by simp)⟩
  have FS_ : TdF K (He.ga K "NoStuff") "field" := ⟨TS.X, TS.no _ (by simp)⟩
  have C1 : Cal l.prog w K mg base CX0 1 "common" ["one", "other"] (spCom) := D1.cal (ok_com D1.fn)
  have C2 : Cal l.prog w K mg base CX0 2 "fraction" ["top", "bottom"] (fun _ _ _ _ => False) := D2.cal FnG.no
  have C4 : Cal l.prog w K mg base CX0 4 "fraction" ["top", "bottom"] (spFrac true) := by
    have P1 : FnG l.prog w K mg base CX0 3 _ _ ["top", "bottom"] (spFrac false) := ok_frac (j := 1) false _ (fun n d H Q hd hs => by
      obtain ⟨n', d', e, _, hp, _⟩ := hs
      cases e
      have := hp rfl
      omega) M T D2.fn C1 C2
    have CR : Cal l.prog w K mg base CX0 3 "fraction" ["top", "bottom"] (spFrac false) := D2.cal P1
    exact D2.cal (ok_frac (j := 2) true _ (fun n d H Q hd hs => by
      obtain ⟨n', d', e, h0, _, h1, h2, q⟩ := hs
      cases e
      refine ⟨-n, -d, rfl, by omega, fun _ => by omega, ?_, ?_, ?_⟩
      · show (-n).natAbs < _
        rw [Int.natAbs_neg]
        exact h1
      · show (-d).natAbs < _
        rw [Int.natAbs_neg]
        exact h2
      · rw [low_neg]
        exact q) M T D2.fn C1 CR)
  have CPl : Cal l.prog w K mg base CX0 5 "plus" ["one", "other"] (sp_plus K) := D3.cal (ok_plus D3.fn C4)
  have CL : Cal l.prog w K mg base CX0 1 "is_less" ["one", "other"] (sp_is_less K) := D6.cal (ok_is_less D6.fn)
  have CW : Cal l.prog w K mg base CX0 1 "is_whole" ["thing"] (sp_whole K) := D0.cal (ok_whole M Mx D0.fn)
  have CF : Cal l.prog w K mg base CX0 2 "is_fraction" ["thing"] (sp_isfr K) := D7.cal (ok_isfr M Mx D7.fn CW C1)
  have CN : Cal l.prog w K mg base CX0 2 "is_name" ["thing"] (sp_isnm K) := D8.cal (ok_isnm M Mx g_LETTERS g_LONGEST_NAME D8.fn)
  have CTg : Cal l.prog w K mg base CX0 6 "together" ["ones"] (sp_togL K) := D5.cal (ok_togL Gc0 Tc0 D5.fn CPl)
  have CF0 : Cal l.prog w K mg base (L2.CX l.prog w) 3 "fraction" ["top", "bottom"] (spFrac0 (He.ga K "NoFraction")) := D2.cal (ok_frac0 M T D2.fn C1 C2)
  have CO0 : Cal l.prog w K mg base (L2.CX l.prog w) 5 "over" ["one", "other"] (sp_over0 K (He.ga K "NoFraction")) := D4.cal (ok_over0 D4.fn CF0)
  have COr : Cal l.prog w K mg base CX0 1 "measure_or_none_of_it" ["measure"] (sp_orNone K) := D10.cal (ok_orNone CT D10.fn)
  have CMs : Cal l.prog w K mg base CX0 3 "is_measure" ["thing"] (sp_isM K) := D11.cal (ok_isM D11.fn CF)
  have CTm : Cal l.prog w K mg base CX0 7 "are_too_much" ["flour", "water", "salt"] (sp_too K) := D12.cal (ok_too CT D12.fn CTg CL)
  have CFw : Cal l.prog w K mg base CX0 8 "first_wrong" ["name", "measures"] (sp_fw K) := D13.cal (ok_fw mzi CT D13.fn CN CMs CTm)
  have FIS := ok_init (P := l.prog) (w := w) (base := base) (c0 := (He.ga K "NONE_OF_IT")) (c1 := (He.ga K "ALL_OF_IT")) (cw := (He.ga K "WORDS")) M Mx XTS XS.c XS.n1 XS.n2 FDS COr CFw
  have MPS : MakG l.prog w K mg base (L2.CX l.prog w) 9 "Stuff" (He.ga K "Stuff") (He.ma K (He.ga K "Stuff") "__init__") _ ["self", "name", "flour", "water", "salt", "thirst", "price"] (sp_init K (He.ga K "Stuff") (He.ga K "NoStuff")) := ⟨MKS, FIS, GCS⟩
  have MP0 : MakG l.prog w K mg base CX0 9 "Stuff" (He.ga K "Stuff") (He.ma K (He.ga K "Stuff") "__init__") _ ["self", "name", "flour", "water", "salt", "thirst", "price"] (fun vs H Q _ => sp_init K (He.ga K "Stuff") (He.ga K "NoStuff") vs H Q E0) := ⟨MKS, FIS.calm, GCS⟩
  have CIo : Cal l.prog w K mg base CX0 1 "is_one_of" ["thing", "names"] (sp_ioT K) := D9.cal (ok_ioT M Mx D9.fn)
  have SMx : MetG l.prog w K mg base (L2.CX l.prog w) 3 (He.ga K "Stuff") "measure" (He.ma K (He.ga K "Stuff") "measure") fd_measure ["self", "word"] (sp_mesX K (He.ga K "Stuff") (He.ga K "NoName")) := ⟨XKS, ME_measure, ok_mesX TN XS CW_ FM_measure.1 CIo, FM_measure.2⟩
  have SM0 : MetG l.prog w K mg base CX0 3 (He.ga K "Stuff") "measure" (He.ma K (He.ga K "Stuff") "measure") fd_measure ["self", "word"] (fun vs H Q _ => sp_mesX K (He.ga K "Stuff") (He.ga K "NoName") vs H Q E0) := ⟨SMx.c, SMx.m, SMx.fn.calm, SMx.b⟩
  obtain ⟨⟨sg6, sh6⟩, ⟨sg1, sh1⟩⟩ := ways16 FDS
  have B1 : Cal l.prog w K mg base CX0 1 "_law_cell" ["_law_script", "_law_k"] (sp_cell K) := D14.cal (ok_cell M D14.fn)
  have B2 : Cal l.prog w K mg base CX0 1 "_law_pot" ["_law_cell_here"] (sp_pot) := D15.cal (ok_pot M D15.fn)
  have B3 : Cal l.prog w K mg base CX0 1 "_law_draw" ["_law_pot_here", "_law_many"] (sp_draw) := D16.cal (ok_draw M D16.fn)
  have B4 : Cal l.prog w K mg base CX0 1 "_law_low" ["_law_top", "_law_bottom"] (sp_low) := D17.cal (ok_low M D17.fn)
  have B5 : Cal l.prog w K mg base CX0 2 "_law_name" ["_law_pot_here", "_law_taken"] (sp_name K) := D18.cal (ok_name M D18.fn B3)
  have LO : CalL l.prog w K mg base 1 "_law_others" ["_law_e"] (sp_oth K mg OT) := ⟨_, _, ok_oth Mx OT D19.fn, D19.b1, D19.g, D19.fn.kp⟩
  have B7 : Cal l.prog w K mg base (L2.CX l.prog w) 11 "_law_deed" ["_law_way", "_law_stuff", "_law_thing"] (sp_deed K (He.ga K "Stuff") (He.ga K "NoFraction") (He.ga K "NoName") (He.ga K "NoStuff")) := D20.cal (ok_deed SMx MPS sh6 D20.fn CF0 CO0)
  have B8 : Cal l.prog w K mg base CX0 12 "_law_told" ["_law_way", "_law_stuff", "_law_thing"] (sp_told K (He.ga K "Stuff") (He.ga K "NoFraction") (He.ga K "NoName") (He.ga K "NoStuff")) := D21.cal (ok_told M Mx MV OT T.g TN.g TS.g gL XF XN XS_ FN_ FS_ D21.fn B7 LO)
  have B9 : Cal l.prog w K mg base CX0 4 "_law_word" ["_law_pot_here"] (sp_word K) := D22.cal (ok_word M D22.fn B3 B5)
  have B10 : Cal l.prog w K mg base CX0 13 "_law_right" ["_law_pot_here"] (sp_right K) := D23.cal (ok_right M men SM0 MP0 sh1 D23.fn B3 B4 B5 B9 B8)
  exact ok_law M D24.fn B1 B2 B10
end Lf

set_option Elab.async false
set_option linter.all false
set_option maxRecDepth 100000
set_option maxHeartbeats 0
namespace Lf
open PySem PySem.Spec PyProof.Rows L2
end Lf
open PySem PySem.W PySem.Calls PyProof.Rows
theorem PySem.Challenge.cw_loafshares_k16_refusals_told_apart_holds : PySem.Challenge.rw_loafshares_k16_refusals_told_apart.Holds := by
  w_on; o_law
  refine HandSHeadRun.head_any (r := OpenLaw.row PySem.Challenge.rw_loafshares_k16_refusals_told_apart) (q := view (OpenLaw.row PySem.Challenge.rw_loafshares_k16_refusals_told_apart).prog [62]) (H := Lf.hdK) (ob := Lf.hdOb) (M := 8000) (loose := Lf.hdLoose) (d := HandSHeadRun.topDef (OpenLaw.row PySem.Challenge.rw_loafshares_k16_refusals_told_apart).prog 62) (kwd := []) Lf.hdOb_eq
    (by kernel_rfl) (fun s => by kernel_rfl) Lf.hdRun (by kernel_rfl) (by kernel_rfl) (by kernel_rfl) (by rfl) (by first | assumption | decide +kernel) (by decide +kernel) ⟨rfl, rfl, rfl, rfl, rfl, by decide +kernel⟩ ?hw ?hc
  case hw => w_witness2
  case hc =>
    refine Lf.walkX (l := PySem.Challenge.rw_loafshares_k16_refusals_told_apart) (n := 63) (k := 14) (x := "_law_script") (sp := Lf.sp_law) rfl (by decide) (by kernel_rfl) ⟨rfl, by decide, by decide⟩ ?F (fun K H a ns hl _ hS => ⟨a, ns, rfl, hS, hl, fun _ => rfl⟩)
    intro w mg fa h Y G hmg0
    obtain ⟨K, KX, c⟩ := Y
    have hmg : mg ("law" : PySem.Str) = some (.ref fa) := by
      have e : (HandSHeadRun.topDef (OpenLaw.row PySem.Challenge.rw_loafshares_k16_refusals_told_apart).prog 62).name = ("law" : PySem.Str) := by kernel_rfl
      rw [← e]
      exact hmg0
    obtain ⟨fd, hb, hF⟩ := Lf.all_mk (l := PySem.Challenge.rw_loafshares_k16_refusals_told_apart) (w := w) KX G hmg c (by kernel_rfl) (by kernel_rfl)
    exact ⟨K, KX, fd, hb, hF⟩
