import PyProof.Rows.All
import Wide.All
import OpenK.AllK
import Wide.FinOn
import HandS.ForExc
import HandS.Comp
import HandS.Wide
import KE.KStateDown
import HandS.Ends
import HandS.More
import HandS.Defaults
import HandS.Head0
import HandS.Head1
import HandS.Head2
import HandS.HeadEnd
import HandS.HeadHook1
import HandS.HeadHook2
import KE.KExcSuper
import HandS.Nested
import HandS.ExcInit
import KE.KIsAll
import KE.KExcIs
import KE.KTryMore
import HandS.Base
import HandS.Call
import HandS.Exc
import HandS.ExcIs
import HandS.ExcField
import HandS.ExcOwn
import HandS.FStr
import HandS.CallLocal
import HandS.WideBits
import HandS.Text
import HandS.IsInst
import HandS.Dict
import PyProof.CallFns
import HandS.Steps
import HandS.Walk
import HandS.Deep
import HandS.MakeKw
import HandS.OwnEq
import HandS.Strs
import PyProof.Rows.SetFrom
import PyProof.SetKind
import PyProof.WalksS
import PyProof.Rows.AssignMoreSeq
import HandS.Iter
import HandS.Conv
import HandS.TryMany
import KE.DataMinMax
import HandS.HotCalls
import PySem.Challenge.RW_loafshares_k22_whole_doughs_refused
set_option Elab.async false
set_option linter.all false
set_option maxRecDepth 100000
set_option maxHeartbeats 4000000
/-! Defs that show data by repr: the promise FnG holds where nothing is being shown (no guard stands), as it is behind a law's call. -/
namespace Lf
open PySem PySem.Spec PyProof.Rows L2
/-- a def's promise where no guard stands -/
structure FnG (P : Program) (w : World) (K : PySem.W.Frag) (mg : Str → Option Value) (base : Heap) (CX : CXT) (k : Nat) (f : Addr) (fd : FuncData) (ps : List Str) (sp : Sp) : Prop where
  size : ∀ vs H Q E, sp vs H Q E → vs.length = ps.length
  goes : ∀ (B : Around) (out : List Env) (s : Shared) (H : Hp) (ar : Args) (us : List Value) (vs : List V) (Q : VK) (E : XK),
    Room k B → B.guards = some [] → Env0 P w K mg base B out s H → BindsTo s fd ar (ps.zip us) → Vals vs us → sp vs H Q E →
      codeAny (model P w) B (.call (.ref f) ar) (CR CX out P w H s Q E) s
section
variable {P : Program} {w : World} {K : PySem.W.Frag} {mg : Str → Option Value} {base : Heap} {CX : CXT} {k : Nat} {f : Addr} {fd : FuncData} {ps : List Str} {sp : Sp}
theorem FnG.mono {j : Nat} (F : FnG P w K mg base CX j f fd ps sp) (h : j ≤ k) : FnG P w K mg base CX k f fd ps sp :=
  ⟨F.size, fun B out s H ar us vs Q E r => F.goes B out s H ar us vs Q E (r.mono h)⟩
theorem FnG.of (F : FnOk P w K mg base CX k f fd ps sp) : FnG P w K mg base CX k f fd ps sp :=
  ⟨F.len, fun B out s H ar us vs Q E r _ => F.run B out s H ar us vs Q E r⟩
/-- by its body: behind the entry no guard stands either -/
theorem GfunX {x qual : Str} {st : Stmt} {N : List Str} (F : Fun K x qual st f fd) (S : FnScope N ps (defScope st)) (size : ∀ vs H Q E, sp vs H Q E → vs.length = ps.length)
    (body : ∀ (cdv : Value) (B : Around) (out : List Env) (s : Shared) (H : Hp) (vs : List V) (Q : VK) (E : XK), B.guards = some [] →
      Room k (B.deeper (envOfC qual (defScope st) s.heap.objs.size f cdv)) → sp vs H Q E →
      ∃ t, PSs (cxOf CX P w K mg base N qual (defScope st) f cdv B out s H E) (defBody st) t ∧
        t { nx := fun _ H' => Q .non H', rt := Q } (start N vs) H) : FnG P w K mg base CX (k + 1) f fd ps sp := by
  obtain ⟨oc, od, kV, doc, pm, an, cdv, ct, osl, rfl, lk, hcd⟩ := F.ex
  refine ⟨size, fun B out s H ar us vs Q E hr hg e0 hb r hs => ?_⟩
  have old : ∀ b o, base.get? b = some o → s.heap.get? b = some o := fun b o e => (e0.bs b o e).1
  have kin : K.In s.heap := e0.mod.kin.keeps old
  refine codeAny_call_function hr.depth (kin _ _ lk) rfl S.co S.gen rfl (PySem.W.codeRec_of kin hcd) (hb _ _ _ _ ?_)
  refine wpAny_newFunctionEnv_cells S.kind (fun ⟨n, v⟩ hy => ?_) fun env he s1 x => ?_
  · rcases S.par n (List.of_mem_zip hy).1 with q | q
    · exact Or.inl q
    · exact Or.inr ⟨q, PySem.W.cellsFrom_some _ _ _ (Or.inl q)⟩
  · subst he
    refine ⟨(e0.mod.nolimit.keeps old).keeps x.toInCall.keep, codeAny_func ?_⟩
    obtain ⟨t, ht, hq⟩ := body cdv B out s H vs Q E hg (hr.deeper _) hs
    have I := inv_start (CX := CX) (N := N) (qual := qual) (cd := cdv) (E := E) S hr.hd e0 (size _ _ _ _ hs) r x
    refine wpAny_mono (ht.run [] s1 (start N vs) H _ I hq) (fun fl s' hs' => ?_) fun e s' z => z
    cases fl with
    | ret u =>
      obtain ⟨v, σ', H', J, rv, q⟩ := hs'
      exact ⟨v, H', J.os, J.bare, J.base, J.hok, rv, q⟩
    | next =>
      obtain ⟨σ', H', J, q⟩ := hs'
      exact ⟨V.non, H', J.os, J.bare, J.base, J.hok, rfl, q⟩
    | brk =>
      obtain ⟨_, _, _, q⟩ := hs'
      exact q.elim
    | cont =>
      obtain ⟨_, _, _, q⟩ := hs'
      exact q.elim
theorem Gfun {x qual : Str} {st : Stmt} {N : List Str} (F : Fun K x qual st f fd) (S : FnScope N ps (defScope st)) (size : ∀ vs H Q E, sp vs H Q E → vs.length = ps.length)
    (body : ∀ (cdv : Value) (B : Around) (out : List Env) (s : Shared) (H : Hp) (vs : List V) (Q : VK) (E : XK), B.guards = some [] →
      Room k (B.deeper (envOfC qual (defScope st) s.heap.objs.size f cdv)) → sp vs H Q E →
      ∃ t, PSs (cxOf CX0 P w K mg base N qual (defScope st) f cdv B out s H E).nox (defBody st) t ∧
        t { nx := fun _ H' => Q .non H', rt := Q } (start N vs) H) : FnG P w K mg base CX0 (k + 1) f fd ps sp :=
  GfunX F S size fun cdv B out s H vs Q E hg hr hs => by
    obtain ⟨t, ht, hq⟩ := body cdv B out s H vs Q E hg hr hs
    exact ⟨t, ht.nox, hq⟩
end
/-- the names that are called by their arguments' names -/
def kwNamesA : List Str := ["aims", "book_text", "by_shares", "changed", "cost", "dough_for", "feel", "fraction", "fraction_text", "is_fraction", "is_less", "is_name", "left", "loaves", "measured", "minus", "moves", "opened"]
def kwNamesB : List Str := ["over", "pan_for", "paper", "parting", "plus", "read_book", "rejoined", "rounded", "row_shares", "scaled", "shares", "sheet", "shows", "times", "tree", "weighed", "worst_of"]
def kwNames : List Str := kwNamesA ++ kwNamesB
def kwN (x : Str) : Bool := kwNames.any fun y => y == x
/-- a def of the module's name x that keeps sp, by level k -/
structure Cal (P : Program) (w : World) (K : PySem.W.Frag) (mg : Str → Option Value) (base : Heap) (CX : CXT) (k : Nat) (x : Str) (ps : List Str) (sp : Sp) : Prop where
  ex : ∃ (f : Addr) (fd : FuncData), FnG P w K mg base CX k f fd ps sp ∧ (∀ (s : Shared) (us : List Value), us.length = ps.length → BindsTo s fd ⟨us, []⟩ (ps.zip us)) ∧
    (kwN x = true → ∀ (s : Shared) (us : List Value), us.length = ps.length → BindsTo s fd ⟨[], ps.zip us⟩ (ps.zip us)) ∧
    (kwN x = true → ∀ (s : Shared) (us : List Value), us.length = ps.length → BindsTo s fd ⟨[], ps.reverse.zip us⟩ (ps.zip us.reverse)) ∧ mg x = some (.ref f) ∧ PySem.W.keepIn K (.ref f) = true
theorem paired_rev {α β : Type} {R : α → β → Prop} : ∀ {xs : List α} {ys : List β}, Paired R xs ys → Paired R xs.reverse ys.reverse := by
  have app : ∀ {xs : List α} {ys : List β} {x : α} {y : β}, Paired R xs ys → R x y → Paired R (xs ++ [x]) (ys ++ [y]) := by
    intro xs ys x y h r
    induction h with
    | nil => exact .cons r .nil
    | cons q _ ih => exact .cons q ih
  intro xs ys h
  induction h with
  | nil => exact .nil
  | cons r _ ih =>
    rw [List.reverse_cons, List.reverse_cons]
    exact app ih r
section
variable {X : Cx} {CX : CXT} {k i : Nat} {f : Addr} {fd : FuncData} {ps : List Str} {sp : Sp} {x : Str} {p pos : Pos} {e : Expr} {es : List Expr} {kws : List Keyword} {t : TA}
/-- what is raised is wished for at the caller's slots -/
theorem run_g {pins : List (Addr × Obj)} {σ : L2.St} {H : Hp} {s : Shared} {Q : VK} {us : List Value} {vs : List V} {ar : Args} {E : XK} (F : FnG X.prog X.w X.K X.mg X.base CX k f fd ps sp) (hr : Room k X.A) (hG : X.A.guards = some [])
    (hx : PassesAt CX X σ E) (I : Inv X pins σ H s) (hb : BindsTo s fd ar (ps.zip us)) (r : Vals vs us) (h : sp vs H Q E) : wpAny (model X.prog X.w) X.A (call (.ref f) ar.pos ar.kw) (EP X pins σ Q) X.xe s := by
  refine wpAny_call (codeAny_mono (F.goes X.A X.stack s H ar us vs Q E hr hG I.env0 hb r h) fun z s' hq => ?_)
  cases z with
  | error e => exact hx pins H s e s' I hq
  | ok fl =>
    cases fl with
    | ret u => exact I.after hq
    | next => exact False.elim hq
    | brk => exact False.elim hq
    | cont => exact False.elim hq
/-- f(e, ..); E: what is wished of an exception at the slots -/
def tG (sp : Sp) (E : L2.St → XK) (t : TA) : TE := fun σ H Q => t σ H fun vs H1 => sp vs H1 Q (E σ)
theorem pe_gS {E : L2.St → XK} (C : Cal X.prog X.w X.K X.mg X.base CX k x ps sp) (hr : Room k X.A) (hG : X.A.guards = some []) (hx : ∀ σ, PassesAt CX X σ (E σ)) (ha : PA X (e :: es) t) (hg : Gl X x := by rfl)
    (hdb : (x == ("__debug__" : Str)) = false := by decide) (he : starEach (e :: es) X.env = (false, eval e X.env) :: starEach es X.env := by rfl)
    (hpl : (backTo pos (starEach es X.env)).any (·.1) = false := by rfl) : PE X (.Call (.Name x p) (e :: es) [] pos) (tG sp E t) := by
  obtain ⟨f, fd, F, hb, _, _, hm, hk⟩ := C.ex
  refine ⟨fun pins s σ H Q I h => wpAny_Call_Name_kw (ld_glob I hg hm (PySem.W.callWith_K (h₀ := X.base) I.ok.mod.kin hk
    (thn (ha.run pos pins s σ H _ I h) fun us s1 ⟨vs, H1, I1, r, q⟩ => ⟨I1.kIn, ?_⟩) he hpl) hdb)⟩
  exact run_g (ar := ⟨us, []⟩) F hr hG (hx σ) I1 (hb s1 us (r.length.symm.trans (F.size _ _ _ _ q))) r q
theorem pass_no {σ : L2.St} : PassesAt CX0 X σ E0 := fun _ _ _ _ _ _ z => z.elim
theorem pe_g (C : Cal X.prog X.w X.K X.mg X.base CX0 k x ps sp) (hr : Room k X.A) (hG : X.A.guards = some []) (ha : PA X (e :: es) t) (hg : Gl X x := by rfl)
    (hdb : (x == ("__debug__" : Str)) = false := by decide) (he : starEach (e :: es) X.env = (false, eval e X.env) :: starEach es X.env := by rfl)
    (hpl : (backTo pos (starEach es X.env)).any (·.1) = false := by rfl) : PE X (.Call (.Name x p) (e :: es) [] pos) (tG sp (fun _ => E0) t) :=
  pe_gS C hr hG (fun _ => pass_no) ha hg hdb he hpl
/-- f(a = e, ..): all by names, in the parameters' order -/
theorem pe_gk (C : Cal X.prog X.w X.K X.mg X.base CX0 k x ps sp) (hr : Room k X.A) (hG : X.A.guards = some []) (ha : PK X kws t) (hks : (backToKw pos (keywordEach kws X.env)).filterMap (·.1) = ps := by rfl) (hg : Gl X x := by rfl)
    (hall : (backToKw pos (keywordEach kws X.env)).all (·.1.isSome) = true := by rfl) (hdb : (x == ("__debug__" : Str)) = false := by decide)
    (hpl : ((backTo pos (starEach [] X.env)).any (·.1) || (backToKw pos (keywordEach kws X.env)).any (·.1.isNone)) = false := by rfl) (hkw : kwN x = true := by decide +kernel) : PE X (.Call (.Name x p) [] kws pos) (tG sp (fun _ => E0) t) := by
  obtain ⟨f, fd, F, _, hb, _, hm, hk⟩ := C.ex
  refine ⟨fun pins s σ H Q I h => wpAny_Call_Name_kw (ld_glob I hg hm (PySem.W.callWith_KW0 (h₀ := X.base) I.ok.mod.kin hk hall (thn (ha.run pos pins s σ H _ I h) fun us s1 ⟨vs, H1, I1, r, q⟩ => ⟨I1.kIn, ?_⟩) hpl) hdb)⟩
  rw [hks]
  exact run_g (ar := ⟨[], ps.zip us⟩) F hr hG pass_no I1 (hb hkw s1 us (r.length.symm.trans (F.size _ _ _ _ q))) r q
/-- f(b = e, a = ..): all by names, from the last parameter to the first -/
def tGr (sp : Sp) (t : TA) : TE := fun σ H Q => t σ H fun vs H1 => sp vs.reverse H1 Q E0
theorem pe_gr (C : Cal X.prog X.w X.K X.mg X.base CX0 k x ps sp) (hr : Room k X.A) (hG : X.A.guards = some []) (ha : PK X kws t) (hks : (backToKw pos (keywordEach kws X.env)).filterMap (·.1) = ps.reverse := by rfl) (hg : Gl X x := by rfl)
    (hall : (backToKw pos (keywordEach kws X.env)).all (·.1.isSome) = true := by rfl) (hdb : (x == ("__debug__" : Str)) = false := by decide)
    (hpl : ((backTo pos (starEach [] X.env)).any (·.1) || (backToKw pos (keywordEach kws X.env)).any (·.1.isNone)) = false := by rfl) (hkw : kwN x = true := by decide +kernel) : PE X (.Call (.Name x p) [] kws pos) (tGr sp t) := by
  obtain ⟨f, fd, F, _, _, hb, hm, hk⟩ := C.ex
  refine ⟨fun pins s σ H Q I h => wpAny_Call_Name_kw (ld_glob I hg hm (PySem.W.callWith_KW0 (h₀ := X.base) I.ok.mod.kin hk hall (thn (ha.run pos pins s σ H _ I h) fun us s1 ⟨vs, H1, I1, r, q⟩ => ⟨I1.kIn, ?_⟩) hpl) hdb)⟩
  rw [hks]
  have hl : us.length = ps.length := r.length.symm.trans ((List.length_reverse (as := vs)).symm.trans (F.size _ _ _ _ q))
  exact run_g (ar := ⟨[], ps.reverse.zip us⟩) (us := us.reverse) (vs := vs.reverse) F hr hG pass_no I1 (hb hkw s1 us hl) (paired_rev r) q
/-- d(e, ..) where the i-th slot holds the def of the module's name y -/
def tGl (i : Nat) (mg : Str → Option Value) (y : Str) (sp : Sp) (E : L2.St → XK) (t : TA) : TE := fun σ H Q => ∃ f, mg y = some (.ref f) ∧ σ[i]? = some (some (.ref f)) ∧ t σ H fun vs H1 => sp vs H1 Q (E σ)
theorem pe_gl {E : L2.St → XK} {y : Str} (C : Cal X.prog X.w X.K X.mg X.base CX k y ps sp) (hr : Room k X.A) (hG : X.A.guards = some []) (hx : ∀ σ, PassesAt CX X σ (E σ)) (ha : PA X (e :: es) t) (hN : X.N[i]? = some x := by rfl)
    (hv : Vis X.env.scope x := by first | exact Or.inl rfl | exact Or.inr (Or.inl rfl) | exact Or.inr (Or.inr rfl))
    (hdb : (x == ("__debug__" : Str)) = false := by decide) (hcd : (x == ("__classdict__" : Str)) = false := by decide) (he : starEach (e :: es) X.env = (false, eval e X.env) :: starEach es X.env := by rfl)
    (hpl : (backTo pos (starEach es X.env)).any (·.1) = false := by rfl) : PE X (.Call (.Name x p) (e :: es) [] pos) (tGl i X.mg y sp E t) := by
  obtain ⟨f, fd, F, hb, _, _, hm, hk⟩ := C.ex
  refine ⟨fun pins s σ H Q I h => ?_⟩
  obtain ⟨f', hf', hs, ht⟩ := h
  obtain rfl : f' = f := by
    rw [hm] at hf'
    cases hf'
    rfl
  refine wpAny_Call_Name_kw (thn ((pe_var (pos := p) hN hv hdb hcd).run pins s σ H (fun v H1 => v = .ref f' ∧ H1 = H) I ⟨.ref f', hs, rfl, rfl⟩) fun u s1 ⟨v, H1, I1, r1, q1⟩ => ?_)
  obtain ⟨rfl, rfl⟩ := q1
  cases r1
  refine PySem.W.callWith_K (h₀ := X.base) I.ok.mod.kin hk (thn (ha.run pos pins s1 σ _ _ I1 ht) fun us s2 ⟨vs, H2, I2, r, q⟩ => ⟨I2.kIn, ?_⟩) he hpl
  exact run_g (ar := ⟨us, []⟩) F hr hG (hx σ) I2 (hb s2 us (r.length.symm.trans (F.size _ _ _ _ q))) r q
end
/-! ### repr of data -/
section
variable {X : Cx}
def rShow (K : PySem.W.Frag) : List V → Hp → VK → Prop := fun xs H Q => ∃ (a : Addr) (d : PyData), xs = [.ref a] ∧ Dp K H (.ref a) d ∧
  d.showable = true ∧ d.hasDict = false ∧ d.depth ≤ 30 ∧ d.shown.length ≤ sizeLine ∧ Q (.str d.shown) H
theorem call_show (hG : X.A.guards = some []) {k : Nat} (hr : Room k X.A) : CallR X (.builtin "repr") (rShow X.K) := by
  intro pins s σ H xs us Q I r h
  obtain ⟨a, d, rfl, hd, hs, hn, h30, hz, q⟩ := h
  cases r with
  | cons r1 r2 =>
    cases r2
    obtain ⟨as, rd⟩ := Dp.reads I d _ _ hd r1
    cases r1
    have hu := hr.units
    exact repr_of_reads' rd hs (PyData.noDict_hsm hn) hG (by omega) (fun _ _ z => z) (fun h' u tk hk => ⟨.str d.shown, H, I.kept hk, ⟨u, rfl⟩, q⟩) hz
/-- // by any divisor but 0 -/
def CDivN (_ j : Int) : Prop := j ≠ 0 ∧ j.natAbs.log2 < 9000
theorem op_fdivN : OpR X (binaryOp .FloorDiv) (rI CDivN fun i j => .int (i.fdiv j)) := opI fun i j _ _ _ _ _ hc q =>
  floordiv_int hc.1 q (.inl (PyProof.noPylong_of_log2 hc.2))
end
/-! ### the end of a law's row -/
theorem at_caller {P : Program} {w : World} {K : PySem.W.Frag} {mg mb : Str → Option Value} {k : Nat} {fa a : Addr} {fd : FuncData} {x : Str} {sp : Sp} {s : Shared} {us : List Value} {ns : List Int}
    (KX : K.In s.heap) (hns : s.heap.Ns mainGlobals mg) (hb : s.heap.Ns builtinsNs mb) (hbb : ∀ x : Str, x ≠ "__name__" → mb x = bootBuiltins x) (hlim : s.heap.NoLimit) (hgen : s.gens = #[])
    (ha : s.heap.get? a = some { cls := .type "list", data := .seq us.toArray }) (hi : IntsAre us ns) (hl : ns.length ≤ sizeLine) (hr : Room k callerA)
    (F : ∀ base : Heap, K.In base → base.Ns mainGlobals mg → FnG P w K mg base CX0 k fa fd [x] sp) (hbind : ∀ (s : Shared) (u : Value), BindsTo s fd ⟨[u], []⟩ [(x, u)])
    (hsp : ∀ H : Hp, Only H → SqL K H a (ns.map V.int) → sp [.ref a] H (fun v _ => v = .bl true) E0) :
    codeAny (model P w) callerA (.call (.ref fa) ⟨[.ref a], []⟩) (fun r s' => r = .ok (.ret (.bool true)) ∧ OldK s.heap s'.heap ∧ s'.os = s.os ∧ AllBare s'.gens) s := by
  -- from a heap that tracks at most the script
  have go : ∀ H : Hp, Only H → SqL K H a (ns.map V.int) → HOk P w H s.heap → (∀ b, H b ≠ none → b = a) → (H a ≠ none → K.lookup a = none) →
      codeAny (model P w) callerA (.call (.ref fa) ⟨[.ref a], []⟩) (fun r s' => r = .ok (.ret (.bool true)) ∧ OldK s.heap s'.heap ∧ s'.os = s.os ∧ AllBare s'.gens) s := by
    intro H only sq hok one key
    have keep : ∀ {b : Addr} {o : Obj}, s.heap.get? b = some o → (∀ vs n, o.data ≠ .seq vs n) → (hidT s.heap H).get? b = some o := by
      intro b o e hd
      refine hidT_get e ?_
      cases q : H b with
      | none => rfl
      | some u =>
        obtain rfl : b = a := one b (by rw [q]; exact fun z => nomatch z)
        rw [ha] at e
        cases e
        exact absurd rfl (hd _ _)
    have names : ∀ {b : Addr} {m : Str → Option Value}, s.heap.Ns b m → (hidT s.heap H).Ns b m := by
      rintro b m ⟨o, es, ep, e, d, r⟩
      exact ⟨o, es, ep, keep e (fun vs n z => by rw [d] at z; cases z), d, r⟩
    have kin : K.In (hidT s.heap H) := by
      intro b o e
      refine hidT_get (KX b o e) ?_
      cases q : H b with
      | none => rfl
      | some u =>
        have nn : H b ≠ none := by rw [q]; exact fun z => nomatch z
        obtain rfl : b = a := one b nn
        rw [key nn] at e
        cases e
    have md : Mod K mg (hidT s.heap H) := ⟨kin, names hns, ⟨mb, names hb, hbb⟩, by obtain ⟨mc, h1, h2⟩ := hlim; exact ⟨mc, names h1, h2⟩⟩
    have none_in : ∀ b : Addr, b ∉ frs [] := fun b z => absurd (show b ∈ ([] : List Addr) from z) (by simp)
    have e0 : Env0 P w K mg (hidT s.heap H) callerA [] s H := { frames := rfl, mod := md, bs := fun b o e => of_hidT e, bsz := Nat.le_of_eq (hidT_size _ _), funs := trivial, frf := fun b z => absurd z (none_in b), hok := hok, bare := .of_eq hgen }
    refine codeAny_mono ((F _ kin (names hns)).goes callerA [] s H ⟨[.ref a], []⟩ [.ref a] [.ref a] _ _ hr rfl e0 (hbind s (.ref a)) (.cons rfl .nil) (hsp H only sq)) fun r s' h => ?_
    cases r with
    | error e => exact False.elim h
    | ok fl =>
      cases fl with
      | next => exact False.elim h
      | brk => exact False.elim h
      | cont => exact False.elim h
      | ret u =>
        obtain ⟨v, H', os, bare, un, hok', rv, q⟩ := h
        obtain rfl : v = .bl true := q
        obtain rfl : u = Value.bool true := rv
        refine ⟨rfl, OldK.of_keep fun b o e => ?_, os, bare⟩
        cases q : H b with
        | none => exact un.keep b o e q (none_in b) (by simp)
        | some y =>
          rcases only b with z | ⟨ob, xs, z⟩
          · rw [q] at z
            cases z
          · obtain ⟨e1, _⟩ := hok b _ z
            obtain ⟨e2, _⟩ := hok' b _ (un.frzs b ob _ z)
            rw [e] at e1
            cases e1
            exact e2
  have rv := vals_ints hi
  cases hk : K.lookup a with
  | some o =>
    have e := KX a o hk
    rw [ha] at e
    cases e
    exact go (fun _ => none) (fun _ => Or.inl rfl) (Or.inr ⟨_, us.toArray, _, hk, rfl, rfl, rfl, by rw [List.size_toArray, hi.length]; exact hl, by simpa using rv⟩)
      (fun b u z => by cases (show (none : Option HO) = some u from z)) (fun b z => absurd rfl z) (fun z => absurd rfl z)
  | none =>
    refine go (fun b => if b = a then some (.frz { cls := .type "list", data := .seq us.toArray } (.lst (ns.map V.int))) else none) ?_ (Or.inl (Or.inr ⟨_, if_pos rfl⟩)) ?_ ?_ (fun _ => hk)
    · intro b
      by_cases h : b = a
      · exact Or.inr ⟨_, _, if_pos h⟩
      · exact Or.inl (if_neg h)
    · intro b u z
      by_cases h : b = a
      · cases (if_pos h).symm.trans z
        subst h
        exact ⟨ha, by rw [List.length_map]; exact hl, us, _, rv, ha⟩
      · cases (if_neg h).symm.trans z
    · intro b z
      by_cases h : b = a
      · exact h
      · exact absurd (if_neg h) z
theorem walkG {l : PySem.W.OpenLaw} {n k : Nat} {q : Program} {loose : List Str} {XP : (Str → Option Value) → Heap → Prop} {YP : World → Heap → Prop} {d : DefRec} {K : Params → PySem.W.Frag} {sp : PySem.W.Frag → Sp} {x : Str}
    (hn : l.most = some n) (hn2 : n ≤ sizeLine) (hdf : d.params.defaults = []) (hr : Room k callerA) (hY : ∀ (w : World) (h : Heap), YP w h → (K w.params).In h)
    (F : ∀ (w : World) (mg : Str → Option Value) (fa : Addr) (h : Heap), (K w.params).In h → h.Ns mainGlobals mg → mg d.name = some (.ref fa) →
      ∃ fd : FuncData, (∀ (s : Shared) (u : Value), BindsTo s fd ⟨[u], []⟩ [(x, u)]) ∧ ∀ base : Heap, (K w.params).In base → base.Ns mainGlobals mg → FnG l.prog w (K w.params) mg base CX0 k fa fd [x] (sp (K w.params)))
    (hsp : ∀ (K : PySem.W.Frag) (H : Hp) (a : Addr) (ns : List Int), ns.length ≤ n → Only H → SqL K H a (ns.map V.int) → sp K [.ref a] H (fun v _ => v = .bl true) E0) :
    PySem.W.WalkO q loose XP YP l.row.toRowW d [] (fun f vs => PySem.call f vs) := by
  refine Att.attach_call hn hdf fun w s0 s mg mb fa o pm cd doc a us ns G Y ho hd hcd hmg hobj hints hlen hg => ?_
  obtain ⟨fd, hb, hF⟩ := F w mg fa _ (hY w _ Y) G.T.g hmg
  exact at_caller (hY w _ Y) G.T.g G.T.b G.T.builtins G.T.nolimit hg hobj hints (Nat.le_trans hlen hn2) hr hF hb fun H hO hS => hsp _ H a ns hlen hO hS
end Lf

set_option Elab.async false
set_option linter.all false
set_option maxRecDepth 100000
set_option maxHeartbeats 4000000
/-! The head by one kernel run, with facts of any form: a fact is a Bool of the part of the heap that the module's names reach. -/
namespace Lf
open PySem PySem.Spec PyProof.Rows L2
abbrev Fct : Type := PySem.W.Frag → Bool
def obsX (fa : List Fct) (fn : List He.DefD) (K : PySem.W.Frag) : He.AlD := ((fa.all fun f => f K) && fn.all fun d => d.ok K, fn.map fun d => He.fnW K d.at_)
def SaysX (fa : List Fct) (fn : List He.DefD) (K : PySem.W.Frag) : Prop := obsX fa fn K = He.valD fn
def obsXG (n : Nat) (fa : List Fct) (fn : List He.DefD) (g : Addr → Option Obj) : He.AlD := obsX fa fn (He.frG g (He.asD g n))
def hookX (n : Nat) (fa : List Fct) (fn : List He.DefD) : PySem.W.Hook where
  α := He.AlD
  obs := fun s => obsXG n fa fn s.heap.get?
  val := fun _ => He.valD fn
  says := fun _ h => ∃ K : PySem.W.Frag, K.In h ∧ SaysX fa fn K
  of := fun _ _ e => ⟨_, He.frG_in, e⟩
  keeps := fun _ _ _ ⟨K, hK, c⟩ k => ⟨K, PySem.W.Frag.In.keeps hK k, c⟩
theorem obsXG_eq {n : Nat} {fa : List Fct} {fn : List He.DefD} {g : Addr → Option Obj} {s : Shared} (h : ∀ a, g a = s.heap.get? a) : obsXG n fa fn g = (hookX n fa fn).obs s := by
  have e : g = s.heap.get? := funext h
  rw [e] <;> rfl
section
variable {fa : List Fct} {fn : List He.DefD} {K : PySem.W.Frag}
theorem SaysX.all (c : SaysX fa fn K) : (fa.all fun f => f K) = true := (He.ba (show ((fa.all fun f => f K) && fn.all fun d => d.ok K) = true from congrArg (fun z : He.AlD => z.1) c)).1
theorem SaysX.fact (c : SaysX fa fn K) (i : Nat) {f : Fct} (h : fa[i]? = some f := by rfl) : f K = true := List.all_eq_true.mp c.all f (List.mem_of_getElem? h)
theorem SaysX.def_ (c : SaysX fa fn K) (i : Nat) {d : He.DefD} (h : fn[i]? = some d := by rfl) : ∃ fd, FunD K d.name d.qual d.params d.body d.scope (d.dvs K) (d.kws K) (He.fAd K d.at_) fd := by
  have c2 := (He.ba (show ((fa.all fun f => f K) && fn.all fun d => d.ok K) = true from congrArg (fun z : He.AlD => z.1) c)).2
  have e : fn.map (fun d => He.fnW K d.at_) = fn.map He.DefD.val := congrArg (fun z : He.AlD => z.2) c
  have e2 : (fn.map fun d => He.fnW K d.at_)[i]? = (fn.map He.DefD.val)[i]? := by rw [e]
  rw [List.getElem?_map, List.getElem?_map, h] at e2
  exact He.DefD.funD (Option.some.inj e2) (List.all_eq_true.mp c2 d (List.mem_of_getElem? h))
end
/-- a def without defaults as the machine has it -/
theorem fun_of {K : PySem.W.Frag} {x qual : Str} {st : Stmt} {f : Addr} {fd : FuncData} (F : FunD K x qual (defArgs st) (defBody st) (defScope st) [] [] f fd) :
    ∃ (kV doc pm : Value) (an : Option Addr) (cdv ct : Value), fd = PySem.W.fnOf x qual (defArgs st) (defBody st) (defScope st) .none kV doc pm an cdv ct ∧ Fun K x qual st f fd := by
  obtain ⟨oc, od, dV, kV, doc, pm, an, cdv, ct, osl, rfl, lk, hcd, dv, _⟩ := F.ex
  obtain rfl : dV = .none := (dv.resolve_right fun z => z.1 rfl).2
  exact ⟨kV, doc, pm, an, cdv, ct, rfl, fun_mk lk hcd F.kp⟩
/-- a def as the top left it, and how its arguments come to it -/
structure Df (K : PySem.W.Frag) (mg : Str → Option Value) (x : Str) (st : Stmt) (ps : List Str) (f : Addr) (fd : FuncData) : Prop where
  fn : Fun K x x st f fd
  g : mg x = some (.ref f)
  b1 : ∀ (s : Shared) (us : List Value), us.length = ps.length → BindsTo s fd ⟨us, []⟩ (ps.zip us)
  b2 : kwN x = true → ∀ (s : Shared) (us : List Value), us.length = ps.length → BindsTo s fd ⟨[], ps.zip us⟩ (ps.zip us)
  b3 : kwN x = true → ∀ (s : Shared) (us : List Value), us.length = ps.length → BindsTo s fd ⟨[], ps.reverse.zip us⟩ (ps.zip us.reverse)
theorem Df.cal {P : Program} {w : World} {K : PySem.W.Frag} {mg : Str → Option Value} {base : Heap} {CX : CXT} {k : Nat} {x : Str} {st : Stmt} {ps : List Str} {f : Addr} {fd : FuncData} {sp : Sp} (D : Df K mg x st ps f fd) (F : FnG P w K mg base CX k f fd ps sp) : Cal P w K mg base CX k x ps sp :=
  ⟨f, fd, F, D.b1, D.b2, D.b3, D.g, D.fn.kp⟩
/-- nothing keeps the promise of nothing -/
theorem FnG.no {P : Program} {w : World} {K : PySem.W.Frag} {mg : Str → Option Value} {base : Heap} {CX : CXT} {k : Nat} {f : Addr} {fd : FuncData} {ps : List Str} : FnG P w K mg base CX k f fd ps (fun _ _ _ _ => False) :=
  ⟨fun _ _ _ _ h => h.elim, fun _ _ _ _ _ _ _ _ _ _ _ _ _ _ h => h.elim⟩
/-- how plain arguments are bound: by the names alone -/
def plainA (as : List Arg) : Arguments := { posonlyargs := [], args := as, vararg := none, kwonlyargs := [], kw_defaults := [], kwarg := none, defaults := [] }
theorem no_kw {x : Str} {p : Prop} (h : kwN x = false) : kwN x = true → p := fun z => by
  rw [h] at z
  cases z
/-- the law's walk, the module's part given with it -/
theorem walkX {l : PySem.W.OpenLaw} {n k : Nat} {q : Program} {loose : List Str} {XP : (Str → Option Value) → Heap → Prop} {YP : World → Heap → Prop} {d : DefRec} {sp : PySem.W.Frag → Sp} {x : Str}
    (hn : l.most = some n) (hn2 : n ≤ sizeLine) (hdf : d.params.defaults = []) (hr : Room k callerA)
    (F : ∀ (w : World) (mg : Str → Option Value) (fa : Addr) (h : Heap), YP w h → h.Ns mainGlobals mg → mg d.name = some (.ref fa) →
      ∃ K : PySem.W.Frag, K.In h ∧ ∃ fd : FuncData, (∀ (s : Shared) (u : Value), BindsTo s fd ⟨[u], []⟩ [(x, u)]) ∧ ∀ base : Heap, K.In base → base.Ns mainGlobals mg → FnG l.prog w K mg base CX0 k fa fd [x] (sp K))
    (hsp : ∀ (K : PySem.W.Frag) (H : Hp) (a : Addr) (ns : List Int), ns.length ≤ n → Only H → SqL K H a (ns.map V.int) → sp K [.ref a] H (fun v _ => v = .bl true) E0) :
    PySem.W.WalkO q loose XP YP l.row.toRowW d [] (fun f vs => PySem.call f vs) := by
  refine Att.attach_call hn hdf fun w s0 s mg mb fa o pm cd doc a us ns G Y ho hd hcd hmg hobj hints hlen hg => ?_
  obtain ⟨K, KX, fd, hb, hF⟩ := F w mg fa _ Y G.T.g hmg
  exact at_caller KX G.T.g G.T.b G.T.builtins G.T.nolimit hg hobj hints (Nat.le_trans hlen hn2) hr hF hb fun H hO hS => hsp _ H a ns hlen hO hS
end Lf

set_option Elab.async false
set_option linter.all false
set_option maxRecDepth 100000
set_option maxHeartbeats 4000000
/-! An own exception over ValueError whose __init__ begins by super().__init__(..): its body's rule, and its promise FnOk. -/
namespace Lf
open PySem PySem.Spec PyProof.Rows L2 NdefX
/-- what the written part says of a class D whose __init__ at f says super().__init__ : the cell, the code -/
structure SupC (P : Program) (K : PySem.W.Frag) (D f cc cda : Addr) (fd : FuncData) : Prop where
  fn : ∃ (oc : Value) (od : Option Addr) (osl : Array (Option Value)), K.lookup f = some ⟨oc, od, .func fd, osl⟩
  code : ∃ (ccl : Value) (cdd : Option Addr) (vs : Array Value) (ccs : Array (Option Value)) (file : Str) (tf : Tok), K.lookup cda = some ⟨ccl, cdd, .fields vs, ccs⟩ ∧ vs[2]? = some (.str file tf) ∧ ((P.main.file : Str) == file) = true
  cell : ∃ (cl : Value) (cld : Option Addr) (csl : Array (Option Value)), K.lookup cc = some ⟨cl, cld, .cell (some (.ref D)), csl⟩
  sup : PySem.W.ks_superIn K D D "__init__" = some (some (.builtin "ValueError.__init__"))
  sub : PySem.W.mroIn K D (.ref D) = some true
  ve : PySem.W.subIn K (.ref D) (.type "ValueError") = some true
  stat : PySem.W.nsIn K cStatics "thirdparty.any" = some none
  top : (P.main.scope.names.lookup ("super" : Str)).isSome = false
/-- what a body that begins by super().__init__(..) asks: the self is the exception that is being made -/
def tSup (K : PySem.W.Frag) (D : Addr) (ta : TA) (t : TS) : TS := fun E σ H => ∃ a, σ[0]? = some (some (.ref a)) ∧ H a = some (exo a D none) ∧ ta σ H fun vs H1 => vs.length ≤ 1000 ∧ H1 a = some (exo a D none) ∧ t E σ H1
section
variable {X : Cx} {D f cc cda : Addr} {fd : FuncData} {ar : Arg} {e : Expr} {es : List Expr} {rest body : List Stmt} {ta : TA} {t : TS} {p0 p1 p2 p3 pos : Pos} {x0 : Str}
theorem call_sup {pins : List (Addr × Obj)} {σ : L2.St} {H : Hp} {s : Shared} {a u : Addr} {us : List Value} {Q : Value → Shared → Prop} {E : Value → Shared → Prop} {A : Around} (T : OexC X.K D) (I : Inv X pins σ H s) (ea : H a = some (exo a D none))
    (hu : s.heap.get? u = some (PySem.W.kxs_mw "ValueError.__init__" a)) (hl : us.length ≤ sizeLine) (h : ∀ s', Inv X pins σ H s' → Q .none s') : wpAny (model X.prog X.w) A (call (.ref u) us) Q E s := by
  obtain ⟨nm, q, N, bs, bm, sn, sub, ab, col, dd, k0, k1, k2, k3, k5, hC, hbm⟩ := T.cls
  obtain ⟨t1, ho⟩ := exo_at I.hok ea
  obtain ⟨hp, g, d, tk, os⟩ := s
  refine wpAny_call (codeAny_of_tree ?_)
  show wpAny _ A.in1 (callAny (.ref u) ⟨us, []⟩) _ _ _
  simp only [callAny]
  refine wpAny_bind (wpAny_load hu ?_)
  simp only [PySem.W.kxs_mw, show (Value.type "method-wrapper" == Value.type "method" || Value.type "method-wrapper" == Value.type "builtin_function_or_method" || Value.type "method-wrapper" == Value.type "method-wrapper") = true by decide, if_true]
  refine PySem.W.KFB.if_so (by decide) ?_
  refine wpAny_bind (PySem.W.check_bound_init F.excBase_ValueError.toExcCallFacts (I.kIn _ _ hC) ho rfl ?_)
  refine wpAny_bind (wpAny_pure (wpAny_pure ?_))
  refine ⟨plainId_quiet F.excBase_ValueError.init.plain _, codeAny_builtin F.excBase_ValueError.initEntry ?_⟩
  refine PySem.W.exc_init_tree (cls := .ref D) (t0 := t1) (dv := none) (c2 := .none) (c3 := .none) (b4 := .bool false) ho hl fun h' k e' _ => ?_
  have J := I.write (t' := tk) (x := a) (e := a) (o := exo a D none) (by rw [ea]; exact True.intro) (.inl rfl) k ⟨_, e'⟩ (exo_ok e')
  have eu : upd H a (exo a D none) = H := by
    funext b
    by_cases hb : b = a
    · rw [hb, upd_same, ea]
    · rw [upd_ne hb]
  rw [eu] at J
  exact h _ J
/-- the body's rule -/
theorem body_sup {pins : List (Addr × Obj)} {σ : L2.St} {H : Hp} {s : Shared} {E : Ends} (S : SupC X.prog X.K D f cc cda fd) (T : OexC X.K D) (hm : X.mg "super" = none) (hA : PA X (e :: es) ta) (hR : PSs X rest t) (I : Inv X pins σ H s) (h : tSup X.K D ta t E σ H)
    (hp : (fd.params.posonlyargs ++ fd.params.args).head? = some ar) (hN : X.N[0]? = some ar.arg) (hka : X.env.kindOf ar.arg = some .local) (hvis : Vis X.env.scope ar.arg)
    (hks : X.env.kindOf "super" = some .globalImplicit) (hkc : X.env.kindOf "__class__" = some .free) (hfu : X.env.func = some f) (hco : X.env.code = .ref cda) (hcl : X.env.cells.lookup ("__class__" : Str) = some cc)
    (hc : ∀ pl : Unit, ∃ pl : Sem Bool, eval (.Call (.Attribute (.Call (.Name "super" p0) [] [] p1) "__init__" p2) (e :: es) [] pos) X.env = (do
      let ov ← attributeBase (.Call (.Name "super" p0) [] [] p1) "__init__" X.env (eval (.Call (.Name "super" p0) [] [] p1) X.env)
      standAt p2.atName
      let (f, first) ← holding [ov] (getMethod ov "__init__" pl)
      callWith pos f first (backTo pos (starEach (e :: es) X.env)) []))
    (hs : swapsWith (.Call (.Attribute (.Call (.Name "super" p0) [] [] p1) "__init__" p2) (e :: es) [] pos) none p3.line X.env = pure false)
    (he : starEach (e :: es) X.env = (false, eval e X.env) :: starEach es X.env) (hpl : (backTo pos (starEach es X.env)).any (·.1) = false) :
    PySem.wpAt (model X.prog X.w) X.A (.func body X.env) (execs (.Expr (.Call (.Attribute (.Call (.Name "super" p0) [] [] p1) "__init__" p2) (e :: es) [] pos) p3 :: rest) X.env) (SP X pins E) X.xe s := by
  obtain ⟨pl, hc⟩ := hc ()
  refine ks_wpAt_execs_cons (ks_wpAt_Expr_any (ks_wpAt_MethodCall (pl := pl) ?_ hc) I.quiet hs)
  have KX := I.kIn
  obtain ⟨oc, od, osl, hf⟩ := S.fn
  obtain ⟨ccl, cdd, vs, ccs, file, tf, hcode, hvs, hfile⟩ := S.code
  obtain ⟨cl, cld, csl, hcell⟩ := S.cell
  obtain ⟨a, hs0, ea, hta⟩ := h
  obtain ⟨t1, ho⟩ := exo_at I.hok ea
  obtain ⟨nm, qn, Nn, bs, bm, sn, sub, ab, col, dd, k0, k1, k2, k3, k5, hC, hbm⟩ := T.cls
  have hcls : PySem.W.clsIn X.K D = some { name := nm, bases := bs, mro := .ref D :: bm, ns := Nn, qualname := qn, hasDict := true, slotNames := sn, subclasses := sub, abstract := ab, collection := col, hasDel := false } := by unfold PySem.W.clsIn; rw [hC] <;> rfl
  have hat : (("__init__" : Str) == ("__class__" : Str)) = false := by decide
  refine ks_wpAt_super_base (env := X.env) hks hkc hat hfu (KX _ _ hf) rfl hp hco (KX _ _ hcode) rfl hvs hfile S.top ?_
  obtain ⟨mb, b1, b2⟩ := I.mod.blt
  refine PySem.W.ks_loadName_global I.ok.kind hks (Calls.loadGlobal_builtin (by rw [I.ok.glob]; exact I.mod.glob.keeps I.bk) hm (by rw [I.ok.blt]; exact b1.keeps I.bk) ((b2 _ (by decide)).trans (PyProof.Rows.Boot.«super»)) ⟨rfl, ?_⟩)
  refine wpAny_loadName_free I.ok.kind hkc hcl ⟨_, KX _ _ hcell, rfl⟩ ?_
  obtain ⟨m, hns, hsl⟩ := I.loc
  obtain ⟨u0, ru0, lk⟩ := hsl 0 ar.arg (.ref a) hN hs0 hvis
  cases ru0
  have hm0 : m ar.arg = some (.ref a) := by
    rcases lk with ⟨_, e⟩ | ⟨e | e, _⟩
    · exact e
    · rw [hka] at e; cases e
    · rw [hka] at e; cases e
  refine wpAny_loadName_local I.ok.kind hka hns hm0 ?_
  refine ks_wpAny_isType_cls (KX _ _ hC) rfl ⟨rfl, ?_⟩
  have II : PySem.W.InstAt s.heap a { cls := .ref D, dict := none, data := .fields #[.ref t1, .none, .none, .none, .bool false, .none] } D none := ⟨ho, rfl, rfl, trivial⟩
  obtain ⟨hp', g, d, tk, os⟩ := s
  refine ks_wpAny_call_super (KX _ _ hC) rfl ho rfl (fun c e => by cases e) (PySem.W.looks_mroIn KX S.sub) (fun h1 e1 kk1 => ?_)
  have I1 : Inv X pins σ H ⟨h1, g, d, tk, os⟩ := I.kept (t' := tk) kk1
  have KX1 := I1.kIn
  have II1 : PySem.W.InstAt h1 a { cls := .ref D, dict := none, data := .fields #[.ref t1, .none, .none, .none, .bool false, .none] } D none := ⟨kk1 _ _ ho, rfl, rfl, trivial⟩
  have sup := S.sup
  unfold PySem.W.ks_superIn at sup
  rw [hcls] at sup
  refine PySem.W.kxs_getMethod PySem.W.kxs_ValueError e1 (PySem.W.looks_opaque KX1 S.stat) (l₀ := .ref D :: bm) (fun A Q E s k q => wpAny_bind ((PySem.W.looks_clsIn KX1 hcls) A _ E s k (wpAny_pure q))) rfl KX1 sup (II1.type.andThen (PySem.W.looks_subIn KX1 S.ve)) (PySem.W.ks_ne KX1 II1 hcls) hat ?_
  show wpAny _ _ (callWith pos (.ref h1.objs.size) [] (backTo pos (starEach (e :: es) X.env)) []) _ _ _
  have kk2 : ∀ b o, h1.get? b = some o → (h1.push (PySem.W.kxs_mw "ValueError.__init__" a)).get? b = some o := fun b o e => Heap.get?_push_of_some _ e
  have I2 : Inv X pins σ H ⟨h1.push (PySem.W.kxs_mw "ValueError.__init__" a), g, d, tk + 1, os⟩ := I1.kept (t' := tk + 1) kk2
  have eu : (h1.push (PySem.W.kxs_mw "ValueError.__init__" a)).get? h1.objs.size = some (PySem.W.kxs_mw "ValueError.__init__" a) := Heap.get?_push_at rfl rfl
  have hnu : H h1.objs.size = none := I1.hok.fresh (Nat.le_refl _)
  have I3 : Inv X ((h1.objs.size, PySem.W.kxs_mw "ValueError.__init__" a) :: pins) σ H ⟨h1.push (PySem.W.kxs_mw "ValueError.__init__" a), g, d, tk + 1, os⟩ := by
    refine I2.pins_of fun p hp => ?_
    rcases List.mem_cons.mp hp with rfl | hp
    · exact ⟨eu, hnu, Ne.symm (Nat.ne_of_lt I1.lt), I1.nofs (Nat.le_refl _), fun v z => by cases z⟩
    · exact I2.pin p (List.mem_append_right _ hp)
  have key := thn (Q' := fun us s4 => PySem.W.KxsAt "ValueError.__init__" h1.objs.size a s4.heap ∧ wpAny (model X.prog X.w) X.A (call (.ref h1.objs.size) ([] ++ us) []) (fun _ s' => PySem.wpAt (model X.prog X.w) X.A (.func body X.env) (execs rest X.env) (SP X pins E) X.xe s') X.xe s4)
      (hA.run pos _ _ σ H _ I3 hta) fun us s4 ⟨vs4, H4, I4, r4, hz, ea4, q4⟩ => by
    have hu4 := (I4.pin _ (List.mem_append_right _ (List.mem_cons_self ..))).1
    have I5 : Inv X pins σ H4 s4 := I4.pins_of fun p hp => I4.pin p (List.mem_append_right _ (List.mem_cons_of_mem _ hp))
    refine ⟨hu4, ?_⟩
    exact call_sup T I5 ea4 hu4 (by rw [List.nil_append, ← Paired.length r4, sizeLine_eq]; omega) fun s' J => wpAt_of_wpAny (hR.run pins s' σ H4 E J q4)
  rw [he] at key ⊢
  refine PySem.W.kxs_callWith (i := "ValueError.__init__") (x := a) (by show (false || (backTo pos (starEach es X.env)).any (·.1)) = false; rw [hpl]; rfl) ?_
  exact PySem.Calls.evalArgs_plain key
end
/-- an own exception's __init__ as it stands behind the top -/
structure XFun (P : Program) (K : PySem.W.Frag) (qual : Str) (st : Stmt) (D f : Addr) (fd : FuncData) (cc cda : Addr) : Prop where
  ex : ∃ (dV kV doc pm : Value) (an : Option Addr) (ct : Value), fd = PySem.W.fnX "__init__" qual (defArgs st) (defBody st) (defScope st) [("__class__", cc)] dV kV doc pm an (.ref cda) ct
  sup : SupC P K D f cc cda fd
  code : PySem.W.codeIn K (.ref cda) qual = true
/-- the context of its body -/
abbrev xcx (CX : CXT) (P : Program) (w : World) (K : PySem.W.Frag) (mg : Str → Option Value) (base : Heap) (N : List Str) (qual : Str) (st : Stmt) (f cc cda : Addr) (A : Around) (outer : List Env) (s : Shared) (H : Hp) (E : XK) : Cx :=
  ncx CX P w K mg base N ⟨"__init__", qual, defArgs st, defBody st, defScope st, [("__class__", cc)], cda⟩ f A outer s H E
section
variable {CX : CXT} {P : Program} {w : World} {K : PySem.W.Frag} {mg : Str → Option Value} {base : Heap} {qual : Str} {st : Stmt} {D f cc cda : Addr} {fd : FuncData} {N ps : List Str} {k : Nat} {sp : Sp} {ar : Arg} {p0 p1 p2 p3 pos : Pos} {e : Expr} {es : List Expr} {rest : List Stmt}
theorem xok (F : XFun P K qual st D f fd cc cda) (T : OexC K D) (hm : mg "super" = none) (S : NScope N ps ["__class__"] (defScope st)) (len : ∀ vs H Q E, sp vs H Q E → vs.length = ps.length)
    (hb : defBody st = .Expr (.Call (.Attribute (.Call (.Name "super" p0) [] [] p1) "__init__" p2) (e :: es) [] pos) p3 :: rest)
    (hp : ((defArgs st).posonlyargs ++ (defArgs st).args).head? = some ar) (hN : N[0]? = some ar.arg) (hka : (defScope st).names.lookup ar.arg = some .local)
    (hks : (defScope st).names.lookup ("super" : Str) = some .globalImplicit)
    (hc : ∀ L : Addr, ∃ pl : Sem Bool, eval (.Call (.Attribute (.Call (.Name "super" p0) [] [] p1) "__init__" p2) (e :: es) [] pos) (PySem.W.envX qual (defScope st) L f (.ref cda) [("__class__", cc)]) = (do
      let ov ← attributeBase (.Call (.Name "super" p0) [] [] p1) "__init__" (PySem.W.envX qual (defScope st) L f (.ref cda) [("__class__", cc)]) (eval (.Call (.Name "super" p0) [] [] p1) (PySem.W.envX qual (defScope st) L f (.ref cda) [("__class__", cc)]))
      standAt p2.atName
      let (g, first) ← holding [ov] (getMethod ov "__init__" pl)
      callWith pos g first (backTo pos (starEach (e :: es) (PySem.W.envX qual (defScope st) L f (.ref cda) [("__class__", cc)]))) []))
    (hs : ∀ L : Addr, swapsWith (.Call (.Attribute (.Call (.Name "super" p0) [] [] p1) "__init__" p2) (e :: es) [] pos) none p3.line (PySem.W.envX qual (defScope st) L f (.ref cda) [("__class__", cc)]) = pure false)
    (he : ∀ L : Addr, starEach (e :: es) (PySem.W.envX qual (defScope st) L f (.ref cda) [("__class__", cc)]) = (false, eval e (PySem.W.envX qual (defScope st) L f (.ref cda) [("__class__", cc)])) :: starEach es (PySem.W.envX qual (defScope st) L f (.ref cda) [("__class__", cc)]))
    (hpl : ∀ L : Addr, (backTo pos (starEach es (PySem.W.envX qual (defScope st) L f (.ref cda) [("__class__", cc)]))).any (·.1) = false)
    (body : ∀ (A : Around) (outer : List Env) (s : Shared) (H : Hp) (vs : List V) (Q : VK) (E : XK), Room k (A.deeper (PySem.W.envX qual (defScope st) s.heap.objs.size f (.ref cda) [("__class__", cc)])) → sp vs H Q E →
      ∃ ta t, PA (xcx CX P w K mg base N qual st f cc cda A outer s H E) (e :: es) ta ∧ PSs (xcx CX P w K mg base N qual st f cc cda A outer s H E) rest t ∧
        tSup K D ta t { nx := fun _ H' => Q .non H', rt := Q } (startF N vs [none]) H) : FnOk P w K mg base CX (k + 1) f fd ps sp := by
  obtain ⟨dV, kV, doc, pm, an, ct, rfl⟩ := F.ex
  obtain ⟨oc, od, osl, hf⟩ := F.sup.fn
  obtain ⟨cl, cld, csl, hcell⟩ := F.sup.cell
  refine ⟨len, fun A outer s H ar' us vs Q E hr e0 hbi r hsp => ?_⟩
  have hl := len _ _ _ _ hsp
  have old : ∀ b o, base.get? b = some o → s.heap.get? b = some o := fun b o e => (e0.bs b o e).1
  have kin : K.In s.heap := e0.mod.kin.keeps old
  have hcc : H cc = none := (e0.bs _ _ (e0.mod.kin _ _ hcell)).2
  refine codeAny_call_function hr.depth (kin _ _ hf) rfl S.co S.gen rfl (PySem.W.codeRec_of kin F.code) (hbi _ _ _ _ ?_)
  refine wpAny_newFunctionEnv S.nocell (fun ⟨n, _⟩ hy => S.par n (List.of_mem_zip hy).1) (fun h₁ hns hsb => ⟨(e0.mod.nolimit.keeps old).fresh _ hsb, ?_⟩) S.kind
  have kp : ∀ b o, s.heap.get? b = some o → h₁.get? b = some o := fun b o e => hsb.extBut b o (Nat.ne_of_lt (Heap.lt_size e)) (Heap.get?_push_of_some _ e)
  obtain ⟨ta, t, hA, hR, hq⟩ := body A outer s H vs Q E (hr.deeper _) hsp
  have C : CellsAt [("__class__", cc)] ["__class__"] [none] s.heap H := by
    have lk : ∀ {y : Str} {c : Addr}, ([(("__class__" : Str), cc)] : List (Str × Addr)).lookup y = some c → y = "__class__" ∧ c = cc := by
      intro y c e
      rw [List.lookup_cons] at e
      cases hy : (y == ("__class__" : Str)) with
      | true =>
        rw [hy] at e
        exact ⟨by simpa using hy, (Option.some.inj e).symm⟩
      | false =>
        rw [hy] at e
        cases e
    refine ⟨rfl, fun y c e => ?_, fun x y c e1 e2 => ?_, fun i y e => ?_⟩
    · obtain ⟨_, rfl⟩ := lk e
      exact ⟨hcc, _, _, kin _ _ hcell, rfl⟩
    · rw [(lk e1).1, (lk e2).1]
    · match i, e with
      | 0, e =>
        cases e
        exact ⟨cc, by simp [List.lookup], fun v z => by cases z⟩
  have I : Inv (xcx CX P w K mg base N qual st f cc cda A outer s H E) [] (startF N vs [none]) H { s with heap := h₁, toks := s.toks + (ps.zip us).length } :=
    inv_startN (F := ⟨"__init__", qual, defArgs st, defBody st, defScope st, [("__class__", cc)], cda⟩) S hr.hd e0 hl r C hns kp
  show codeAny _ _ (.func (defBody st) (PySem.W.envX qual (defScope st) s.heap.objs.size f (.ref cda) [("__class__", cc)])) _ _
  refine ks_codeAny_funcAt ?_
  have B := body_sup (X := xcx CX P w K mg base N qual st f cc cda A outer s H E) (body := defBody st) (cc := cc) (cda := cda) (p3 := p3) F.sup T hm hA hR I hq hp hN hka (.inl hka) hks (S.frk _ (List.mem_cons_self ..)) rfl rfl (show ([(("__class__" : Str), cc)] : List (Str × Addr)).lookup ("__class__" : Str) = some cc by simp [List.lookup]) (fun _ => hc _) (hs _) (he _) (hpl _)
  rw [← hb] at B
  refine ks_wpAt_mono B (fun fl s' hs' => ?_) fun e s' z => z
  have fin : ∀ {σ' : L2.St} {H' : Hp} {v : V} {u : Value}, Inv (xcx CX P w K mg base N qual st f cc cda A outer s H E) [] σ' H' s' → L2.RelV v u → Q v H' → CE outer P w H s Q u s' :=
    fun {σ' H' v u} J rv q => ⟨v, H', J.os, J.bare, J.base, J.hok, rv, q⟩
  cases fl with
  | ret u =>
    obtain ⟨v, σ', H', J, rv, q⟩ := hs'
    exact fin J rv q
  | next =>
    obtain ⟨σ', H', J, q⟩ := hs'
    exact fin (v := V.non) (u := Value.none) J rfl q
  | brk =>
    obtain ⟨_, _, _, q⟩ := hs'
    exact False.elim q
  | cont =>
    obtain ⟨_, _, _, q⟩ := hs'
    exact False.elim q
end
end Lf

set_option Elab.async false
set_option linter.all false
set_option maxRecDepth 100000
set_option maxHeartbeats 4000000
/-! isinstance of a caught error that has fields of its own, in the suite that caught it. -/
namespace Lf
open PySem PySem.Spec PySem.Calls PyProof.Rows PySem.W
/-- the library's fact of an own error, asked of the facts that L2.ExcC holds: with or without a dict of its own -/
theorem kit_own {K : Frag} {x D : Addr} {ox : Obj} {od : Option Obj} (T : L2.ExcC K D) : KitX K (.ref x) (.ref D) (fun h => InstAt h x ox D od) :=
  kitx_exc (gt := none) (match any_some T.hd with | ⟨_, hc, _⟩ => by rw [hc]; rfl) T.hg T.hk T.hs T.ha T.hn T.ht T.hm
end Lf
namespace Lf
open PySem PySem.Spec PyProof.Rows L2
/-- isinstance(e, c), e what the suite caught: its class is D, its fields stand -/
def rIsX (K : PySem.W.Frag) (D a : Addr) (cls : Value) (d : Option Addr) : List V → Hp → VK → Prop := fun xs H Q => cls = .ref D ∧ (d = none ∨ ∃ (dd : Addr) (fs : List (Str × V)), d = some dd ∧ H dd = some (.xd fs)) ∧
  ∃ (c : V) (cv : Value) (b : Bool), xs = [.ref a, c] ∧ (∀ u, RelV c u → u = cv) ∧ PySem.W.kitOne K (.ref D) cv = some b ∧ Q (.bl b) H
theorem call_isX {X : Cx} {a D : Addr} {oe : Obj} {cls : Value} {d : Option Addr} {pn : List (Addr × Obj)} (C : ExcC X.K D) (hz : Zc cls d oe) (hf : ∃ vs, oe.data = .fields vs) : CallR (X.suite a ((a, oe) :: pn)) (.builtin "isinstance") (rIsX X.K D a cls d) := by
  intro pins s σ H xs us Q I r h
  obtain ⟨ec, hd, c, cv, b, rfl, hcv, e, q⟩ := h
  cases r with
  | cons rx rr =>
    cases rr with
    | cons rt rr =>
      cases rr
      cases rx
      have ecv := hcv _ rt
      subst ecv
      obtain ⟨hget, _⟩ := I.pin (a, oe) (List.mem_append.mpr (.inl List.mem_cons_self))
      obtain ⟨vs, hv⟩ := hf
      have J : ∃ od, PySem.W.InstAt s.heap a oe D od := by
        rcases hd with hd | ⟨dd, fs, hd, hH⟩
        · exact ⟨none, hget, by rw [hz.1, ec], by unfold PySem.W.notCls; rw [hv] <;> rfl, by rw [hz.2, hd]; trivial⟩
        · have hx : ObjOk X.prog X.w H s.heap dd (.xd fs) := I.hok dd _ hH
          obtain ⟨o, ho⟩ := objOk_get hx
          exact ⟨some o, hget, by rw [hz.1, ec], by unfold PySem.W.notCls; rw [hv] <;> rfl, by rw [hz.2, hd]; exact ho⟩
      obtain ⟨od, J⟩ := J
      exact PySem.W.kia_one (kit_own (od := od) C) I.kIn J e (fun z => nomatch z) fun tk => ⟨.bl b, H, I.kept (t' := tk) fun _ _ z => z, rfl, q⟩
end Lf

set_option Elab.async false
set_option linter.all false
set_option maxRecDepth 100000
set_option maxHeartbeats 4000000
/-! The head by kernel runs, with the __init__ of own exceptions (a def that holds its class in a cell) among the defs, and the facts of such exceptions. -/
namespace Lf
open PySem PySem.Spec PyProof.Rows L2
abbrev FnV : Type := Option (Str × Str × Arguments × FuncBody × Scope × Addr × List Str × Addr)
def fnV (K : PySem.W.Frag) (p : Str × Option Str) : FnV := match K.lookup (He.fAd K p) with
  | some ⟨_, _, .func fd, _⟩ => some (fd.name, fd.qualname, fd.params, fd.body, fd.scope, fd.globals, fd.closure.map (·.1), fd.builtins)
  | _ => none
/-- a def, and the names that it holds in cells -/
structure DefY where
  d : He.DefD
  cl : List Str := []
def DefY.val (y : DefY) : FnV := some (y.d.name, y.d.qual, y.d.params, .stmts y.d.body, y.d.scope, mainGlobals, y.cl, builtinsNs)
abbrev AlY : Type := Bool × List FnV
def obsY (fa : List Fct) (fn : List DefY) (K : PySem.W.Frag) : AlY := ((fa.all fun f => f K) && fn.all fun y => y.d.ok K, fn.map fun y => fnV K y.d.at_)
def valY (fn : List DefY) : AlY := (true, fn.map DefY.val)
def SaysY (fa : List Fct) (fn : List DefY) (K : PySem.W.Frag) : Prop := obsY fa fn K = valY fn
def obsYG (n : Nat) (fa : List Fct) (fn : List DefY) (g : Addr → Option Obj) : AlY := obsY fa fn (He.frG g (He.asD g n ++ [cStatics]))
def hookY (n : Nat) (fa : List Fct) (fn : List DefY) : PySem.W.Hook where
  α := AlY
  obs := fun s => obsYG n fa fn s.heap.get?
  val := fun _ => valY fn
  says := fun _ h => ∃ K : PySem.W.Frag, K.In h ∧ SaysY fa fn K
  of := fun _ _ e => ⟨_, He.frG_in, e⟩
  keeps := fun _ _ _ ⟨K, hK, c⟩ k => ⟨K, PySem.W.Frag.In.keeps hK k, c⟩
theorem obsYG_eq {n : Nat} {fa : List Fct} {fn : List DefY} {g : Addr → Option Obj} {s : Shared} (h : ∀ a, g a = s.heap.get? a) : obsYG n fa fn g = (hookY n fa fn).obs s := by
  have e : g = s.heap.get? := funext h
  rw [e] <;> rfl
section
variable {fa : List Fct} {fn : List DefY} {K : PySem.W.Frag}
theorem SaysY.fact (c : SaysY fa fn K) (i : Nat) {f : Fct} (h : fa[i]? = some f := by rfl) : f K = true :=
  List.all_eq_true.mp (He.ba (show ((fa.all fun f => f K) && fn.all fun y => y.d.ok K) = true from congrArg (fun z : AlY => z.1) c)).1 f (List.mem_of_getElem? h)
theorem SaysY.at_ (c : SaysY fa fn K) (i : Nat) {y : DefY} (h : fn[i]? = some y) : fnV K y.d.at_ = y.val ∧ y.d.ok K = true := by
  have c2 := (He.ba (show ((fa.all fun f => f K) && fn.all fun y => y.d.ok K) = true from congrArg (fun z : AlY => z.1) c)).2
  have e : fn.map (fun y => fnV K y.d.at_) = fn.map DefY.val := congrArg (fun z : AlY => z.2) c
  have e2 : (fn.map fun y => fnV K y.d.at_)[i]? = (fn.map DefY.val)[i]? := by rw [e]
  rw [List.getElem?_map, List.getElem?_map, h] at e2
  exact ⟨Option.some.inj e2, List.all_eq_true.mp c2 y (List.mem_of_getElem? h)⟩
/-- the def itself, as the part has it -/
theorem DefY.here {y : DefY} (e : fnV K y.d.at_ = y.val) (c : y.d.ok K = true) : ∃ (oc : Value) (od : Option Addr) (cl : List (Str × Addr)) (dV kV doc pm : Value) (an : Option Addr) (cdv ct : Value) (osl : Array (Option Value)),
    K.lookup (He.fAd K y.d.at_) = some ⟨oc, od, .func (PySem.W.fnX y.d.name y.d.qual y.d.params y.d.body y.d.scope cl dV kV doc pm an cdv ct), osl⟩ ∧ cl.map (·.1) = y.cl ∧ PySem.W.codeIn K cdv y.d.qual = true ∧ PySem.W.keepIn K (.ref (He.fAd K y.d.at_)) = true ∧ He.dflB K dV (y.d.dvs K) = true := by
  obtain ⟨kp, c2⟩ := He.ba c
  unfold fnV at e
  cases q : K.lookup (He.fAd K y.d.at_) with
  | none =>
    rw [q] at c2
    cases c2
  | some o =>
    obtain ⟨oc, od, dt, osl⟩ := o
    rw [q] at c2 e
    cases dt with
    | func fd =>
      obtain ⟨n1, n2, n3, n4, n5, n6, n7, n8, n9, n10, n11, n12, n13, n14, n15⟩ := fd
      have e2 : (some (n1, n2, n3, n4, n5, n6, n7.map (·.1), n15) : FnV) = some (y.d.name, y.d.qual, y.d.params, .stmts y.d.body, y.d.scope, mainGlobals, y.cl, builtinsNs) := e
      simp only [Option.some.injEq, Prod.mk.injEq] at e2
      obtain ⟨h1, h2, h3, h4, h5, h6, h7, h8⟩ := e2
      subst h1 h2 h3 h4 h5 h6 h8
      have c3 : (PySem.W.codeIn K n13 y.d.qual && (He.dflB K n8 (y.d.dvs K) && He.kwdB K n9 (y.d.kws K))) = true := c2
      exact ⟨oc, od, n7, n8, n9, n10, n11, n12, n13, n14, osl, rfl, h7, (He.ba c3).1, kp, (He.ba (He.ba c3).2).1⟩
    | _ => cases c2
theorem SaysY.def_ (c : SaysY fa fn K) (i : Nat) {y : DefY} (h : fn[i]? = some y := by rfl) (hc : y.cl = [] := by rfl) : ∃ fd, FunD K y.d.name y.d.qual y.d.params y.d.body y.d.scope (y.d.dvs K) (y.d.kws K) (He.fAd K y.d.at_) fd := by
  obtain ⟨e, ok⟩ := c.at_ i h
  refine He.DefD.funD ?_ ok
  obtain ⟨oc, od, cl, dV, kV, doc, pm, an, cdv, ct, osl, lk, ec, _⟩ := DefY.here e ok
  rw [hc] at ec
  cases cl with
  | nil =>
    show He.fnW K y.d.at_ = _
    unfold He.fnW
    rw [lk]
    rfl
  | cons a b => cases ec
end
/-! ### several runs -/
section
open PySem.W HandSHeadRun
theorem obsY_app {fa fb : List Fct} {fn gn : List DefY} {K : PySem.W.Frag} (h : obsY fa fn K = valY fn) (k : obsY fb gn K = valY gn) : obsY (fa ++ fb) (fn ++ gn) K = valY (fn ++ gn) := by
  have a := He.ba (show ((fa.all fun f => f K) && fn.all fun y => y.d.ok K) = true from congrArg (fun z : AlY => z.1) h)
  have b := He.ba (show ((fb.all fun f => f K) && gn.all fun y => y.d.ok K) = true from congrArg (fun z : AlY => z.1) k)
  have h2 : fn.map (fun y => fnV K y.d.at_) = fn.map DefY.val := congrArg (fun z : AlY => z.2) h
  have k2 : gn.map (fun y => fnV K y.d.at_) = gn.map DefY.val := congrArg (fun z : AlY => z.2) k
  show (((fa ++ fb).all fun f => f K) && (fn ++ gn).all fun y => y.d.ok K, (fn ++ gn).map fun y => fnV K y.d.at_) = (true, (fn ++ gn).map DefY.val)
  rw [List.all_append, List.all_append, a.1, a.2, b.1, b.2, List.map_append, List.map_append, h2, k2]
  rfl
def RunPartY (r : OpenRow) (n M : Nat) (fa : List Fct) (fn : List DefY) (w : World) : Prop := ∀ os : OsState, (endF (stepQ (denQ tabQ) r.prog w) M r.prog w os).map (fun s => obsYG n fa fn (getT s)) = some (valY fn)
def RunLooksY (r : OpenRow) (q : Program) (M : Nat) (loose : List PySem.Str) (w : World) : Prop := ∀ os : OsState, (endF (stepQ (denQ tabQ) r.prog w) M r.prog w os).map (fun s => (looksF r.prog (boot_heap w.params) s.abs, seenQ q loose (importedModules r.prog.main.body) (fun s => xlAt q [] s && recOk r.toRowW.records s) s.abs)) = some (true, openGood q loose)
theorem RunPartY.app {r : OpenRow} {n M : Nat} {fa fb : List Fct} {fn gn : List DefY} {w : World} (h : RunPartY r n M fa fn w) (k : RunPartY r n M fb gn w) : RunPartY r n M (fa ++ fb) (fn ++ gn) w := fun os => by
  have h' := h os
  have k' := k os
  cases e : endF (stepQ (denQ tabQ) r.prog w) M r.prog w os with
  | none =>
    rw [e] at h'
    cases h'
  | some s =>
    rw [e] at h' k'
    exact congrArg some (obsY_app (Option.some.inj h') (Option.some.inj k'))
theorem runY_of {r : OpenRow} {q : Program} {n M : Nat} {loose : List PySem.Str} {fa : List Fct} {fn : List DefY} {w : World} (h : RunLooksY r q M loose w) (k : RunPartY r n M fa fn w) : RunEq r q (hookY n fa fn) (fun s => obsYG n fa fn (getT s)) M loose w := fun os => by
  have h' := h os
  have k' := k os
  cases e : endF (stepQ (denQ tabQ) r.prog w) M r.prog w os with
  | none =>
    rw [e] at h'
    cases h'
  | some s =>
    rw [e] at h' k'
    have h1 := Option.some.inj h'
    have k1 : obsYG n fa fn (getT s) = valY fn := Option.some.inj k'
    refine congrArg some ?_
    show (looksF r.prog (boot_heap w.params) s.abs, seenQ q loose (importedModules r.prog.main.body) (fun s => xlAt q [] s && recOk r.toRowW.records s) s.abs, obsYG n fa fn (getT s)) = (true, openGood q loose, valY fn)
    rw [k1, (Prod.mk.inj h1).1, (Prod.mk.inj h1).2]
end
/-! ### own exceptions -/
/-- an own exception with fields, under its name: ps are the parameters of its __init__, st the def -/
structure XTn (P : Program) (K : PySem.W.Frag) (mg : Str → Option Value) (x qual : Str) (ps : List Str) (st : Stmt) (D fI : Addr) (fdI : FuncData) (cc cda : Addr) : Prop where
  g : mg x = some (.ref D)
  T : OexC K D
  iC : PySem.W.findIn K (.ref D) "__init__" = some (some (.ref fI))
  tI : PySem.W.typeIn K (.ref fI) = some (.type "function")
  F : XFun P K qual st D fI fdI cc cda
  b : Binds K fdI (("self" : Str) :: ps) []
  sup : mg "super" = none
  no : ∀ f ∈ ps, PySem.W.findIn K (.ref D) f = some none
  E : ExcC K D
  X : XfC K D
section
variable {K : PySem.W.Frag} {D : Addr}
def oexB (K : PySem.W.Frag) (D : Addr) : Bool := match K.lookup D with
  | some ⟨.type t, _, .cls cd, sl⟩ => t == "type" && (cd.hasDict && (!cd.hasDel && (match cd.mro, sl.toList with
    | .ref C' :: bm, [_, _, _, _, some (.builtin n), _] => C' == D && (n == "ValueError.__new__" && PySem.HandSPX.refsVE bm)
    | _, _ => false)))
  | _ => false
theorem oexB_ok (hz : oexB K D = true) : ∃ nm q N bs bm sn sub ab col dd k0 k1 k2 k3 k5, K.lookup D = some (excClassObj nm q D N bs bm true sn sub ab col dd k0 k1 k2 k3 k5 "ValueError.__new__") ∧ PySem.HandSPX.refsVE bm = true := by
  unfold oexB at hz
  split at hz
  · rename_i t dd cd sl hl
    obtain ⟨h1, ha⟩ := He.ba hz
    obtain ⟨h2, hb⟩ := He.ba ha
    obtain ⟨h3, hc⟩ := He.ba hb
    clear ha hb hz
    obtain ⟨nm, bs, mro, N, q, hdct, sn, sub, ab, col, hdel⟩ := cd
    obtain ⟨sl⟩ := sl
    have e2 : hdct = true := h2
    have e3 : hdel = false := by
      cases hdel with
      | false => rfl
      | true => cases h3
    subst e2 e3
    have e1 : t = "type" := by simpa using h1
    subst e1
    split at hc
    · rename_i C' bm k0 k1 k2 k3 n k5 hm hs
      obtain ⟨h4, hd⟩ := He.ba hc
      obtain ⟨h5, h6⟩ := He.ba hd
      have e4 : C' = D := by simpa using h4
      have e5 : n = "ValueError.__new__" := by simpa using h5
      subst e4 e5
      have hm : mro = .ref C' :: bm := hm
      have hs : sl = [k0, k1, k2, k3, some (.builtin "ValueError.__new__"), k5] := hs
      subst hm hs
      exact ⟨nm, q, N, bs, bm, sn, sub, ab, col, dd, k0, k1, k2, k3, k5, hl, h6⟩
    · cases hc
  · cases hz
/-- the facts of an own exception over ValueError, with or without an __init__ of its own -/
def excB (K : PySem.W.Frag) (D : Addr) : Bool := decide (PySem.W.findIn K (.ref D) "__getattribute__" = some (some (.builtin "BaseException.__getattribute__"))) && (decide (PySem.W.findIn K (.ref D) "__getattr__" = some none) && (decide (PySem.W.subIn K (.ref D) (.type "BaseException") = some true) && (PySem.W.hasDictIn K D &&
  (decide (PySem.W.findIn K (.ref D) "__class__" = some (some (.builtin "object.__class__"))) && (decide (PySem.W.specialIn K (.builtin "object.__class__") "__get__" = some (some (.builtin "getset_descriptor.__get__"))) && (decide (PySem.W.takesIn K (.builtin "object.__class__") = some true) && decide (PySem.W.mroIn K D (.type "object") = some true)))))))
theorem excB_ok (h : excB K D = true) : ExcC K D ∧ XfC K D := by
  obtain ⟨h1, h⟩ := He.ba h
  obtain ⟨h2, h⟩ := He.ba h
  obtain ⟨h3, h⟩ := He.ba h
  obtain ⟨h4, h⟩ := He.ba h
  obtain ⟨h5, h⟩ := He.ba h
  obtain ⟨h6, h⟩ := He.ba h
  obtain ⟨h7, h8⟩ := He.ba h
  exact ⟨⟨of_decide_eq_true h1, of_decide_eq_true h2, of_decide_eq_true h3, h4, of_decide_eq_true h5, of_decide_eq_true h6, of_decide_eq_true h7, of_decide_eq_true h8⟩, ⟨of_decide_eq_true h1, of_decide_eq_true h2, of_decide_eq_true h3, h4⟩⟩
/-- the cell's place, the code's place, of a def that holds its class -/
def ccOf (K : PySem.W.Frag) (f : Addr) : Addr := match K.lookup f with
  | some ⟨_, _, .func fd, _⟩ => (match fd.closure with | [(_, a)] => a | _ => 0)
  | _ => 0
def cdOf (K : PySem.W.Frag) (f : Addr) : Addr := match K.lookup f with
  | some ⟨_, _, .func fd, _⟩ => (match fd.code with | .ref a => a | _ => 0)
  | _ => 0
def codeB (K : PySem.W.Frag) (file : Str) (c : Addr) : Bool := match K.lookup c with
  | some ⟨_, _, .fields vs, _⟩ => (match (vs[2]? : Option Value) with | some (.str z _) => file == z | _ => false)
  | _ => false
def cellB (K : PySem.W.Frag) (c D : Addr) : Bool := match K.lookup c with
  | some ⟨_, _, .cell (some (.ref a)), _⟩ => a == D
  | _ => false
def xtB (file x : Str) (ps : List Str) (K : PySem.W.Frag) : Bool := oexB K (He.ga K x) && (excB K (He.ga K x) && (codeB K file (cdOf K (He.ma K (He.ga K x) "__init__")) && (cellB K (ccOf K (He.ma K (He.ga K x) "__init__")) (He.ga K x) &&
  (decide (PySem.W.findIn K (.ref (He.ga K x)) "__setattr__" = some (some (.builtin "object.__setattr__"))) && (decide (PySem.W.typeIn K (.ref (He.ga K x)) = some (.type "type")) && (PySem.W.keepIn K (.ref (He.ga K x)) &&
  (decide (PySem.W.findIn K (.ref (He.ga K x)) "__init__" = some (some (.ref (He.ma K (He.ga K x) "__init__")))) && (decide (PySem.W.typeIn K (.ref (He.ma K (He.ga K x) "__init__")) = some (.type "function")) &&
  (decide (PySem.W.ks_superIn K (He.ga K x) (He.ga K x) "__init__" = some (some (.builtin "ValueError.__init__"))) && (decide (PySem.W.mroIn K (He.ga K x) (.ref (He.ga K x)) = some true) && (decide (PySem.W.subIn K (.ref (He.ga K x)) (.type "ValueError") = some true) &&
  (decide (PySem.W.nsIn K cStatics "thirdparty.any" = some none) && (ps.all fun f => decide (PySem.W.findIn K (.ref (He.ga K x)) f = some none))))))))))))))
theorem xtB_ok {P : Program} {mg : Str → Option Value} {x : Str} {ps : List Str} {st : Stmt} {qual file : Str} (hf : P.main.file = file) (htop : (P.main.scope.names.lookup ("super" : Str)).isSome = false) (g : mg x = some (.ref (He.ga K x))) (sup : mg "super" = none) (h : xtB file x ps K = true)
    {y : DefY} (e : fnV K y.d.at_ = y.val) (c : y.d.ok K = true) (ey : y = ⟨⟨(x, some "__init__"), "__init__", qual, defArgs st, defBody st, defScope st, [], []⟩, ["__class__"]⟩)
    (hb : ∀ (cc : Addr) (kV doc pm : Value) (an : Option Addr) (cdv ct : Value) (us : List Value), us.length = (("self" : Str) :: ps).length → bindArgs (PySem.W.fnX "__init__" qual (defArgs st) (defBody st) (defScope st) [("__class__", cc)] .none kV doc pm an cdv ct) ⟨us, []⟩ = pure ((("self" : Str) :: ps).zip us)) :
    ∃ fd, XTn P K mg x qual ps st (He.ga K x) (He.ma K (He.ga K x) "__init__") fd (ccOf K (He.ma K (He.ga K x) "__init__")) (cdOf K (He.ma K (He.ga K x) "__init__")) := by
  subst ey
  obtain ⟨h1, h⟩ := He.ba h
  obtain ⟨h2, h⟩ := He.ba h
  obtain ⟨h3, h⟩ := He.ba h
  obtain ⟨h4, h⟩ := He.ba h
  obtain ⟨h5, h⟩ := He.ba h
  obtain ⟨h6, h⟩ := He.ba h
  obtain ⟨h7, h⟩ := He.ba h
  obtain ⟨h8, h⟩ := He.ba h
  obtain ⟨h9, h⟩ := He.ba h
  obtain ⟨h10, h⟩ := He.ba h
  obtain ⟨h11, h⟩ := He.ba h
  obtain ⟨h12, h⟩ := He.ba h
  obtain ⟨h13, h14⟩ := He.ba h
  obtain ⟨E, Xf⟩ := excB_ok h2
  obtain ⟨oc, od, cl, dV, kV, doc, pm, an, cdv, ct, osl, lk, ec, hcd, kp, dfl⟩ := DefY.here e c
  obtain rfl : dV = .none := ((He.dflB_ok dfl).resolve_right fun z => z.1 rfl).2
  have lk : K.lookup (He.ma K (He.ga K x) "__init__") = some ⟨oc, od, .func (PySem.W.fnX "__init__" qual (defArgs st) (defBody st) (defScope st) cl .none kV doc pm an cdv ct), osl⟩ := lk
  obtain ⟨cc, rfl⟩ : ∃ cc, cl = [(("__class__" : Str), cc)] := by
    match cl, ec with
    | [(a, b)], ec =>
      have : a = ("__class__" : Str) := (List.cons.inj ec).1
      exact ⟨b, by rw [this]⟩
  have ecc : ccOf K (He.ma K (He.ga K x) "__init__") = cc := by
    unfold ccOf
    rw [lk]
  have hcd : PySem.W.codeIn K cdv qual = true := hcd
  obtain ⟨cda, rfl⟩ : ∃ cda, cdv = .ref cda := by
    unfold PySem.W.codeIn at hcd
    split at hcd
    · exact ⟨_, rfl⟩
    · cases hcd
  have ecd : cdOf K (He.ma K (He.ga K x) "__init__") = cda := by
    unfold cdOf
    rw [lk]
  rw [ecd] at h3 ⊢
  rw [ecc] at h4 ⊢
  refine ⟨_, g, ⟨oexB_ok h1, of_decide_eq_true h5, E.hs, of_decide_eq_true h6, h7⟩, of_decide_eq_true h8, of_decide_eq_true h9, ⟨⟨.none, kV, doc, pm, an, ct, rfl⟩, ⟨⟨oc, od, osl, lk⟩, ?_, ?_, of_decide_eq_true h10, of_decide_eq_true h11, of_decide_eq_true h12, of_decide_eq_true h13, htop⟩, hcd⟩, .all fun us hl => hb _ _ _ _ _ _ _ us hl, sup, fun f hf => of_decide_eq_true (List.all_eq_true.mp h14 f hf), E, Xf⟩
  · unfold codeB at h3
    split at h3
    · rename_i a1 a2 vs a3 hl
      split at h3
      · rename_i z tz hz
        exact ⟨a1, a2, vs, a3, z, tz, hl, hz, by rw [hf]; exact h3⟩
      · cases h3
    · cases h3
  · unfold cellB at h4
    split at h4
    · rename_i a1 a2 a a3 hl
      have : a = He.ga K x := by simpa using h4
      subst this
      exact ⟨a1, a2, a3, hl⟩
    · cases h4
end
end Lf

set_option linter.all false
/-! Lowest terms: plain arithmetic. -/
namespace Lf
/-- the fraction of two whole numbers, d not 0 -/
def low (n d : Int) : Int × Int := ((n * d.sign) / (Nat.gcd n.natAbs d.natAbs : Nat), (d.natAbs : Int) / (Nat.gcd n.natAbs d.natAbs : Nat))
def IsLow (t b : Int) : Prop := 0 < b ∧ Nat.Coprime t.natAbs b.natAbs
theorem gcd_pos {n d : Int} (h : d ≠ 0) : 0 < Nat.gcd n.natAbs d.natAbs := Nat.gcd_pos_of_pos_right _ (by omega)
theorem low_parts {n d : Int} (h : d ≠ 0) : ∃ (u : Int) (v : Nat), n * d.sign = u * (Nat.gcd n.natAbs d.natAbs : Nat) ∧ d.natAbs = v * Nat.gcd n.natAbs d.natAbs ∧ low n d = (u, (v : Int)) ∧ 0 < v ∧ Nat.Coprime u.natAbs v := by
  have hg := gcd_pos (n := n) h
  obtain ⟨v, hv⟩ := Nat.gcd_dvd_right n.natAbs d.natAbs
  obtain ⟨u, hu⟩ : ∃ u : Int, n * d.sign = (Nat.gcd n.natAbs d.natAbs : Nat) * u := by
    obtain ⟨x, hx⟩ := Nat.gcd_dvd_left n.natAbs d.natAbs
    rcases Int.natAbs_eq n with e | e
    · exact ⟨x * d.sign, by rw [← Int.mul_assoc, ← Int.natCast_mul, ← hx, ← e]⟩
    · exact ⟨-(x : Int) * d.sign, by rw [← Int.mul_assoc, Int.mul_neg, ← Int.natCast_mul, ← hx, ← e]⟩
  have hn : n.natAbs = Nat.gcd n.natAbs d.natAbs * u.natAbs := by
    have := congrArg Int.natAbs hu
    rw [Int.natAbs_mul, Int.natAbs_mul, Int.natAbs_sign_of_ne_zero h, Nat.mul_one, Int.natAbs_natCast] at this
    exact this
  have hvp : 0 < v := by
    rcases Nat.eq_zero_or_pos v with e | e
    · rw [e, Nat.mul_zero] at hv
      omega
    · exact e
  have hgi : ((Nat.gcd n.natAbs d.natAbs : Nat) : Int) ≠ 0 := by omega
  refine ⟨u, v, by rw [hu, Int.mul_comm], by rw [Nat.mul_comm]; exact hv, ?_, hvp, ?_⟩
  · unfold low
    rw [hu, Int.mul_ediv_cancel_left _ hgi]
    have : (d.natAbs : Int) = (Nat.gcd n.natAbs d.natAbs : Nat) * (v : Int) := by rw [← Int.natCast_mul, ← hv]
    rw [this, Int.mul_ediv_cancel_left _ hgi]
  · have e : Nat.gcd n.natAbs d.natAbs = Nat.gcd n.natAbs d.natAbs * Nat.gcd u.natAbs v := by
      rw [← Nat.gcd_mul_left, ← hn, ← hv]
    have e' : Nat.gcd n.natAbs d.natAbs * 1 = Nat.gcd n.natAbs d.natAbs * Nat.gcd u.natAbs v := by rw [Nat.mul_one]; exact e
    exact (Nat.eq_of_mul_eq_mul_left hg e').symm
theorem sign_mul_natAbs' (d : Int) : d.sign * (d.natAbs : Int) = d := Int.sign_mul_natAbs d
theorem low_is {n d : Int} (h : d ≠ 0) : IsLow (low n d).1 (low n d).2 := by
  obtain ⟨u, v, _, _, e, hv, hc⟩ := low_parts (n := n) h
  rw [e]
  exact ⟨by show (0 : Int) < v; omega, hc⟩
theorem low_cross {n d : Int} (h : d ≠ 0) : (low n d).1 * d = n * (low n d).2 := by
  obtain ⟨u, v, h1, h2, e, hv, hc⟩ := low_parts (n := n) h
  rw [e]
  show u * d = n * v
  have hg := gcd_pos (n := n) h
  have hgi : ((Nat.gcd n.natAbs d.natAbs : Nat) : Int) ≠ 0 := by omega
  have hs : d.sign * d.sign = 1 := by
    rcases Int.lt_or_gt_of_ne h with q | q
    · rw [Int.sign_eq_neg_one_of_neg q]
      rfl
    · rw [Int.sign_eq_one_of_pos q]
      rfl
  have ed : d = d.sign * ((v : Int) * (Nat.gcd n.natAbs d.natAbs : Nat)) := by
    rw [← Int.natCast_mul, ← h2]
    exact (sign_mul_natAbs' d).symm
  have : (u * d) * ((Nat.gcd n.natAbs d.natAbs : Nat) : Int) = (n * v) * (Nat.gcd n.natAbs d.natAbs : Nat) := by
    have e1 : (u * d) * ((Nat.gcd n.natAbs d.natAbs : Nat) : Int) = (u * (Nat.gcd n.natAbs d.natAbs : Nat)) * d := by
      rw [Int.mul_assoc, Int.mul_assoc, Int.mul_comm d]
    rw [e1, ← h1]
    generalize hG : ((Nat.gcd n.natAbs d.natAbs : Nat) : Int) = G at *
    calc n * d.sign * d = n * d.sign * (d.sign * (v * G)) := by rw [← ed]
      _ = n * (d.sign * d.sign) * (v * G) := by simp only [Int.mul_assoc]
      _ = n * v * G := by rw [hs]; simp only [Int.mul_one, Int.mul_assoc]
  exact Int.eq_of_mul_eq_mul_right hgi this
theorem low_uniq {t b t' b' : Int} (h : IsLow t b) (h' : IsLow t' b') (e : t * b' = t' * b) : t = t' ∧ b = b' := by
  obtain ⟨hb, hc⟩ := h
  obtain ⟨hb', hc'⟩ := h'
  have e1 : t.natAbs * b'.natAbs = t'.natAbs * b.natAbs := by
    have := congrArg Int.natAbs e
    rwa [Int.natAbs_mul, Int.natAbs_mul] at this
  have d1 : b.natAbs ∣ b'.natAbs := by
    have q : b.natAbs ∣ t.natAbs * b'.natAbs := by
      rw [e1]
      exact Nat.dvd_mul_left _ _
    exact Nat.Coprime.dvd_of_dvd_mul_left hc.symm q
  have d2 : b'.natAbs ∣ b.natAbs := by
    have q : b'.natAbs ∣ t'.natAbs * b.natAbs := by
      rw [← e1]
      exact Nat.dvd_mul_left _ _
    exact Nat.Coprime.dvd_of_dvd_mul_left hc'.symm q
  have eb : b.natAbs = b'.natAbs := Nat.dvd_antisymm d1 d2
  have eb' : b = b' := by omega
  subst eb'
  exact ⟨Int.eq_of_mul_eq_mul_right (by omega) e, rfl⟩
/-- the fraction is the one in lowest terms -/
theorem low_eq {n d t b : Int} (h : d ≠ 0) (hl : IsLow t b) (e : t * d = n * b) : low n d = (t, b) := by
  have hi := low_is (n := n) h
  have hx := low_cross (n := n) h
  have key : (low n d).1 * b = t * (low n d).2 := by
    have q : ((low n d).1 * b) * d = (t * (low n d).2) * d := by
      calc ((low n d).1 * b) * d = ((low n d).1 * d) * b := by rw [Int.mul_assoc, Int.mul_comm b d, Int.mul_assoc]
        _ = (n * (low n d).2) * b := by rw [hx]
        _ = (n * b) * (low n d).2 := by rw [Int.mul_assoc, Int.mul_comm _ b, Int.mul_assoc]
        _ = (t * d) * (low n d).2 := by rw [e]
        _ = (t * (low n d).2) * d := by rw [Int.mul_assoc, Int.mul_comm d, Int.mul_assoc]
    exact Int.eq_of_mul_eq_mul_right h q
  obtain ⟨e1, e2⟩ := low_uniq hi hl key
  exact Prod.ext e1 e2
theorem low_self {t b : Int} (h : IsLow t b) : low t b = (t, b) := low_eq (by have := h.1; omega) h rfl
/-- bounds -/
theorem low_top_le {n d : Int} (h : d ≠ 0) : (low n d).1.natAbs ≤ n.natAbs := by
  obtain ⟨u, v, h1, h2, e, hv, hc⟩ := low_parts (n := n) h
  rw [e]
  show u.natAbs ≤ n.natAbs
  have hg := gcd_pos (n := n) h
  have := congrArg Int.natAbs h1
  rw [Int.natAbs_mul, Int.natAbs_mul, Int.natAbs_sign_of_ne_zero h, Nat.mul_one, Int.natAbs_natCast] at this
  rw [this]
  exact Nat.le_mul_of_pos_right _ hg
theorem low_bottom_le {n d : Int} (h : d ≠ 0) : (low n d).2.natAbs ≤ d.natAbs := by
  obtain ⟨u, v, h1, h2, e, hv, hc⟩ := low_parts (n := n) h
  rw [e]
  show (v : Int).natAbs ≤ d.natAbs
  have hg := gcd_pos (n := n) h
  rw [h2, Int.natAbs_natCast]
  exact Nat.le_mul_of_pos_right _ hg
/-- the program's way: over a bottom above 0 -/
theorem low_pos {n d : Int} (h : 0 < d) : low n d = (n / (Nat.gcd n.natAbs d.natAbs : Nat), d / (Nat.gcd n.natAbs d.natAbs : Nat)) := by
  unfold low
  rw [Int.sign_eq_one_of_pos h, Int.mul_one, show (d.natAbs : Int) = d by omega]
theorem low_neg (n d : Int) : low (-n) (-d) = low n d := by
  unfold low
  rw [Int.sign_neg, Int.natAbs_neg, Int.natAbs_neg, Int.neg_mul_neg]
/-- the law's way: by the greatest common one, below 0 where the bottom is -/
theorem low_fdiv_pos {n d : Int} (h : 0 < d) : (n.fdiv (Nat.gcd n.natAbs d.natAbs : Nat), d.fdiv (Nat.gcd n.natAbs d.natAbs : Nat)) = low n d := by
  rw [low_pos h, Int.fdiv_eq_ediv_of_nonneg _ (by omega), Int.fdiv_eq_ediv_of_nonneg _ (by omega)]
theorem low_fdiv_neg {n d : Int} (h : d < 0) : (n.fdiv (-(Nat.gcd n.natAbs d.natAbs : Nat)), d.fdiv (-(Nat.gcd n.natAbs d.natAbs : Nat))) = low n d := by
  have q := low_fdiv_pos (n := -n) (d := -d) (by omega)
  rw [Int.natAbs_neg, Int.natAbs_neg, low_neg] at q
  rw [← q, ← Int.neg_fdiv_neg, ← Int.neg_fdiv_neg d, Int.neg_neg]
/-- the sum less the other one is the one -/
theorem low_back {a b c d : Int} (hl : IsLow a b) (hd : 0 < d) :
    low ((low (a * d + c * b) (b * d)).1 * d - c * (low (a * d + c * b) (b * d)).2) ((low (a * d + c * b) (b * d)).2 * d) = (a, b) := by
  have hb := hl.1
  have h0 : b * d ≠ 0 := Int.ne_of_gt (Int.mul_pos hb hd)
  have hi := low_is (n := a * d + c * b) h0
  have hx := low_cross (n := a * d + c * b) h0
  generalize (low (a * d + c * b) (b * d)).1 = x at *
  generalize (low (a * d + c * b) (b * d)).2 = y at *
  refine low_eq (Int.ne_of_gt (Int.mul_pos hi.1 hd)) hl ?_
  have : x * (b * d) = x * d * b := by rw [Int.mul_comm b d, Int.mul_assoc]
  rw [this] at hx
  rw [Int.sub_mul, hx, Int.add_mul]
  have e1 : c * y * b = c * b * y := by rw [Int.mul_assoc, Int.mul_comm y b, Int.mul_assoc]
  have e2 : a * (y * d) = a * d * y := by rw [Int.mul_comm y d, Int.mul_assoc]
  rw [e1, e2]
  omega
/-- Euclid's steps keep the greatest common one -/
theorem gcd_step (a b : Int) (hb : 0 < b) (ha : 0 ≤ a) : Nat.gcd b.natAbs (a % b).natAbs = Nat.gcd a.natAbs b.natAbs := by
  have e : (a % b).natAbs = a.natAbs % b.natAbs := by
    rw [Int.natAbs_emod_of_nonneg ha]
  rw [e, Nat.gcd_comm b.natAbs, ← Nat.gcd_rec, Nat.gcd_comm]
end Lf

set_option Elab.async false
set_option linter.all false
set_option maxRecDepth 100000
set_option maxHeartbeats 4000000
set_option exponentiation.threshold 3000
/-! What repr shows of data, and that it fits. -/
namespace Lf
open PySem PySem.Spec PyProof.Rows L2
/-- below 2 ^ 900 -/
def Sm (n : Int) : Prop := n.natAbs < 2 ^ 900
theorem Sm.log {n : Int} (h : Sm n) : n.natAbs.log2 < 900 := PySem.Flt.log2_lt_of (by decide) h
theorem Sm.text {n : Int} (h : Sm n) : (Str.ofString (toString n)).length ≤ 901 := by
  rw [PySem.ofString_length]
  exact int_text_length_le (by decide) h.log
/-- data that can be shown: its weight, its depth -/
structure Ft (w k : Nat) (d : PyData) : Prop where
  sh : d.showable = true
  nd : d.hasDict = false
  dp : d.depth ≤ k
  lv : d.leavesShort 1000 = true
  wt : d.weight ≤ w
structure FtA (w k : Nat) (ds : List PyData) : Prop where
  sh : PyData.showableAll ds = true
  nd : PyData.hasDictAll ds = false
  dp : PyData.depthAll ds ≤ k
  lv : PyData.leavesShortAll 1000 ds = true
  wt : PyData.weightAll ds ≤ w
theorem Ft.int {n : Int} (h : Sm n) : Ft 900 0 (.int n) := by
  have hl := h.log
  refine ⟨?_, ?_, ?_, ?_, ?_⟩
  · simp only [PyData.showable, decide_eq_true_eq]
    omega
  · simp only [PyData.hasDict]
  · simp only [PyData.depth, Nat.le_refl]
  · simp only [PyData.leavesShort, decide_eq_true_eq, PyData.shown]
    exact decide_eq_true (Nat.le_trans h.text (show 901 ≤ 1000 by decide))
  · simp only [PyData.weight]
    split <;> omega
theorem Ft.bool (b : Bool) : Ft 0 0 (.bool b) := ⟨by simp only [PyData.showable], by simp only [PyData.hasDict], by simp only [PyData.depth, Nat.le_refl], by simp only [PyData.leavesShort], by simp only [PyData.weight, Nat.le_refl]⟩
theorem Ft.none : Ft 0 0 .none := ⟨by simp only [PyData.showable], by simp only [PyData.hasDict], by simp only [PyData.depth, Nat.le_refl], by simp only [PyData.leavesShort], by simp only [PyData.weight, Nat.le_refl]⟩
/-- a text whose signs are signs -/
def Sg (x : Str) : Prop := ∀ c ∈ x.cps.toList, c < 16 ^ 8
theorem Sg.of (s : String) : Sg (Str.ofString s) := by
  intro c hc
  rw [Str.ofString_eq_toList] at hc
  obtain ⟨ch, _, rfl⟩ := List.mem_map.mp (show c ∈ s.toList.map Char.toNat from hc)
  exact ch.val.toNat_lt
theorem Sg.app {x y : Str} (h : Sg x) (k : Sg y) : Sg (x ++ y) := by
  intro c hc
  have e : (x ++ y).cps.toList = x.cps.toList ++ y.cps.toList := by
    rw [show (x ++ y).cps = x.cps ++ y.cps from rfl, Array.toList_append]
  rw [e] at hc
  rcases List.mem_append.mp hc with q | q
  · exact h c q
  · exact k c q
theorem Ft.str {w : Nat} {x : Str} (h : Sg x) (hw : x.length ≤ w) : Ft w 0 (.str x) := ⟨by simp only [PyData.showable], by simp only [PyData.hasDict], by simp only [PyData.depth, Nat.le_refl],
  by simp only [PyData.leavesShort, List.all_eq_true, decide_eq_true_eq]; exact h, by simp only [PyData.weight]; exact hw⟩
theorem FtA.nil : FtA 0 0 [] := ⟨by simp only [PyData.showableAll], by simp only [PyData.hasDictAll], by simp only [PyData.depthAll, Nat.le_refl], by simp only [PyData.leavesShortAll], by simp only [PyData.weightAll, Nat.le_refl]⟩
theorem FtA.cons {w k w' k' : Nat} {d : PyData} {ds : List PyData} (h : Ft w k d) (r : FtA w' k' ds) : FtA (w + 1 + w') (max k k') (d :: ds) := by
  refine ⟨?_, ?_, ?_, ?_, ?_⟩
  · simp only [PyData.showableAll, h.sh, r.sh, Bool.and_self]
  · simp only [PyData.hasDictAll, h.nd, r.nd, Bool.or_self]
  · simp only [PyData.depthAll]
    have := h.dp
    have := r.dp
    omega
  · simp only [PyData.leavesShortAll, h.lv, r.lv, Bool.and_self]
  · simp only [PyData.weightAll]
    have := h.wt
    have := r.wt
    omega
theorem Ft.list {w k : Nat} {ds : List PyData} (r : FtA w k ds) : Ft w (k + 1) (.list ds) :=
  ⟨by simp only [PyData.showable]; exact r.sh, by simp only [PyData.hasDict]; exact r.nd, by simp only [PyData.depth]; exact Nat.succ_le_succ r.dp, by simp only [PyData.leavesShort]; exact r.lv, by simp only [PyData.weight]; exact r.wt⟩
theorem Ft.tuple {w k : Nat} {ds : List PyData} (r : FtA w k ds) : Ft w (k + 1) (.tuple ds) :=
  ⟨by simp only [PyData.showable]; exact r.sh, by simp only [PyData.hasDict]; exact r.nd, by simp only [PyData.depth]; exact Nat.succ_le_succ r.dp, by simp only [PyData.leavesShort]; exact r.lv, by simp only [PyData.weight]; exact r.wt⟩
/-- what repr asks -/
structure Showy (d : PyData) : Prop where
  sh : d.showable = true
  nd : d.hasDict = false
  dp : d.depth ≤ 30
  ln : d.shown.length ≤ sizeLine
theorem Ft.showy {w k : Nat} {d : PyData} (h : Ft w k d) (hk : k ≤ 30 := by decide) (hw : w ≤ 16000 := by decide) : Showy d := by
  refine ⟨h.sh, h.nd, Nat.le_trans h.dp hk, ?_⟩
  have e := PyData.shown_le 1000 (by decide) d h.lv
  have e2 := h.wt
  have e3 : (1000 + 2) * d.weight ≤ 1002 * 16000 := Nat.mul_le_mul (Nat.le_refl _) (Nat.le_trans e2 hw)
  have e4 := sizeLine_eq
  omega
/-- a fraction -/
def tD (t : Int × Int) : PyData := .tuple [.int t.1, .int t.2]
theorem Ft.two {t : Int × Int} (h : Sm t.1) (k : Sm t.2) : Ft 1802 1 (tD t) := Ft.tuple (.cons (.int h) (.cons (.int k) .nil))
theorem dp2 {K : PySem.W.Frag} {H : Hp} {p : Addr} {x y : Int} (h : SqT K H p [.int x, .int y]) : Dp K H (.ref p) (tD (x, y)) := .tup h (.cons (.int x) (.cons (.int y) .nil))
theorem dp2' {K : PySem.W.Frag} {H : Hp} {p : Addr} {t : Int × Int} (h : H p = some (.tup [.int t.1, .int t.2])) : Dp K H (.ref p) (tD t) := .tup (.inl (.inl h)) (.cons (.int _) (.cons (.int _) .nil))
mutual
theorem Dp.same {K : PySem.W.Frag} {H H' : Hp} (s : Same H H') : ∀ (d : PyData) (v : V), Dp K H v d → Dp K H' v d
  | .none, _, h => by cases h; exact .non
  | .bool b, _, h => by cases h; exact .bl b
  | .int i, _, h => by cases h; exact .int i
  | .str x, _, h => by cases h; exact .str x
  | .list ds, _, h => by
    cases h with
    | lst h1 h2 => exact .lst (s.seq h1) (DpAll.same s ds _ h2)
  | .tuple ds, _, h => by
    cases h with
    | tup h1 h2 =>
      refine .tup ?_ (DpAll.same s ds _ h2)
      rcases h1 with (h | ⟨o, h⟩) | h
      · exact .inl (.inl (s _ _ h))
      · exact .inl (.inr ⟨o, s _ _ h⟩)
      · exact .inr h
  | .dict _, _, h => by cases h
theorem DpAll.same {K : PySem.W.Frag} {H H' : Hp} (s : Same H H') : ∀ (ds : List PyData) (vs : List V), DpAll K H vs ds → DpAll K H' vs ds
  | [], _, h => by cases h; exact .nil
  | d :: ds, _, h => by
    cases h with
    | cons h1 h2 => exact .cons (Dp.same s d _ h1) (DpAll.same s ds _ h2)
end
end Lf

set_option Elab.async false
set_option linter.all false
set_option maxRecDepth 100000
set_option maxHeartbeats 4000000
namespace Lf
open PySem PySem.Spec PyProof.Rows L2
theorem same_new {H : Hp} {p : Addr} {o : HO} (h : H p = none) : Same H (upd H p o) := fun b x e => by
  rw [upd_ne (ne_of_none e h)]
  exact e
theorem same_rfl {H : Hp} : Same H H := fun _ _ e => e
theorem bt_abs : bootBuiltins "abs" = some (.builtin "abs") := by decide +kernel
theorem bt_len : bootBuiltins "len" = some (.builtin "len") := by decide +kernel
theorem bt_max : bootBuiltins "max" = some (.builtin "max") := by decide +kernel
theorem bt_min : bootBuiltins "min" = some (.builtin "min") := by decide +kernel
theorem bt_divmod : bootBuiltins "divmod" = some (.builtin "divmod") := by decide +kernel
theorem bt_repr : bootBuiltins "repr" = some (.builtin "repr") := by decide +kernel
theorem bt_all : bootBuiltins "all" = some (.builtin "all") := by decide +kernel
theorem bt_int : bootBuiltins "int" = some (.type "int") := by decide +kernel
theorem bt_str : bootBuiltins "str" = some (.type "str") := by decide +kernel
/-- the built-in names that nothing of the text hides -/
structure Blt (mg : Str → Option Value) : Prop where
  abs : mg "abs" = none
  len : mg "len" = none
  max : mg "max" = none
  min : mg "min" = none
  divmod : mg "divmod" = none
  repr : mg "repr" = none
  all : mg "all" = none
  int : mg "int" = none
  str : mg "str" = none
  range : mg "range" = none
/-- an own class under ValueError -/
structure ExT (K : PySem.W.Frag) (mg : Str → Option Value) (x : Str) (C : Addr) : Prop where
  g : mg x = some (.ref C)
  x : PySem.W.excIn K C [.type "ValueError", .type "Exception", .type "BaseException", .type "object"] "ValueError.__new__" = true
  k : PySem.W.keepIn K (.ref C) = true
  b : PySem.W.subIn K (.ref C) (.type "BaseException") = some true
  t : PySem.W.typeIn K (.ref C) = some (.type "type")
  m : PySem.W.exmOne K (.ref C) (.ref C) = some true
section
variable {K : PySem.W.Frag} {H : Hp} {p : Addr} {x y : V} {Q : VK}
theorem ixT0 (h : SqT K H p [x, y]) (q : Q x H) : rIxT K (.ref p) (.int 0) H Q := ⟨p, _, 0, _, rfl, rfl, h, rfl, q⟩
theorem ixT1 (h : SqT K H p [x, y]) (q : Q y H) : rIxT K (.ref p) (.int 1) H Q := ⟨p, _, 1, _, rfl, rfl, h, rfl, q⟩
theorem ixL0 (h : SqL K H p [x, y]) (q : Q x H) : rIxL K (.ref p) (.int 0) H Q := ⟨p, _, 0, _, rfl, rfl, h, rfl, q⟩
theorem ixL1 (h : SqL K H p [x, y]) (q : Q y H) : rIxL K (.ref p) (.int 1) H Q := ⟨p, _, 1, _, rfl, rfl, h, rfl, q⟩
theorem tup2 {a b : V} (q : ∀ p, H p = none → Q (.ref p) (upd H p (.tup [a, b]))) : [a, b].length ≤ sizeLine ∧ ∀ p, H p = none → Q (.ref p) (upd H p (.tup [a, b])) := ⟨by show 2 ≤ sizeLine; decide, q⟩
theorem lst2 {a b : V} (q : ∀ p, H p = none → Q (.ref p) (upd H p (.lst [a, b]))) : [a, b].length ≤ sizeLine ∧ ∀ p, H p = none → Q (.ref p) (upd H p (.lst [a, b])) := ⟨by show 2 ≤ sizeLine; decide, q⟩
end
theorem sm_t {K : PySem.W.Frag} {H H' : Hp} {a : Addr} {xs : List V} (s : Same H H') (h : SqT K H a xs) : SqT K H' a xs := by
  rcases h with (h | ⟨o, h⟩) | h
  · exact .inl (.inl (s _ _ h))
  · exact .inl (.inr ⟨o, s _ _ h⟩)
  · exact .inr h
def topS (i : Nat) : Stmt := PySem.Challenge.pw_loafshares_k22_whole_doughs_refused.main.body.getD i (.Pass ⟨0, 0, 0, 0⟩)
section
variable {P : Program} {w : World} {K : PySem.W.Frag} {mg : Str → Option Value} {base : Heap}
/-! ### common -/
abbrev sCom : Stmt := topS 18
theorem scCom : FnScope ["one", "other"] ["one", "other"] (defScope sCom) := ⟨rfl, rfl, rfl, by decide +kernel, rfl, by decide +kernel, by decide +kernel⟩
def spCom : Sp := fun vs H Q _ => ∃ (a b : Int), vs = [.int a, .int b] ∧ 0 ≤ a ∧ 0 ≤ b ∧ Q (.int (Nat.gcd a.natAbs b.natAbs : Nat)) H
theorem ok_com {f : Addr} {fd : FuncData} (F : Fun K "common" "common" sCom f fd) : FnG P w K mg base CX0 1 f fd ["one", "other"] spCom := by
  refine Gfun F scCom (fun vs H Q E h => ?_) (fun cdv A outer s H vs Q E hg hr h => ?_)
  · obtain ⟨a, b, rfl, _⟩ := h
    rfl
  · obtain ⟨a, b, rfl, ha, hb, q⟩ := h
    refine ⟨_, pss_cons (ps_while PassesOwn.never (pt_cmpR op_ne (pv 1) pe_int (nomark _))
        (pss_one (ps_par (i := 0) (j := 1) rfl scCom.nd rfl rfl (by decide) rfl rfl (pa_cons (pv 1) (pa_cons (pe_op op_mod (pv 0) (pv 1)) pa_nil)) (by rfl))))
      (pss_one (ps_ret (pv 0))), ?_⟩
    refine while_by (fun σ H' => ∃ x y : Int, σ = [some (.int x), some (.int y)] ∧ 0 ≤ x ∧ 0 ≤ y ∧ Nat.gcd x.natAbs y.natAbs = Nat.gcd a.natAbs b.natAbs ∧ H' = H)
      (fun σ _ => match σ with | [_, some (.int y)] => y.toNat | _ => 0) ⟨a, b, rfl, ha, hb, rfl, rfl⟩ ?_ ?_
    · rintro σ H1 ⟨x, y, rfl, hx, hy, hg, rfl⟩
      refine ⟨_, rfl, rfl, _, rfl, ite2 (fun e => ?_) (fun e => ?_)⟩
      · have hy0 : y ≠ 0 := fun z => by
          rw [z] at e
          exact absurd e (by decide)
        have hyp : 0 < y := by omega
        refine ⟨_, rfl, _, rfl, _, rfl, x, y, rfl, rfl, hyp, _, _, rfl, ⟨y, x % y, rfl, hy, Int.emod_nonneg _ hy0, (gcd_step x y hyp hx).trans hg, rfl⟩, ?_⟩
        show (x % y).toNat < y.toNat
        have := Int.emod_lt_of_pos x hyp
        omega
      · have hy0 : y = 0 := by
          by_cases z : y = 0
          · exact z
          · exact absurd (by rw [decide_eq_false (fun q => z (V.int.inj q))]; rfl) e
        subst hy0
        refine ⟨_, rfl, ?_⟩
        rw [← hg, Int.natAbs_zero, Nat.gcd_zero_right] at q
        rw [show (x.natAbs : Int) = x by omega] at q
        exact q
    · rintro σ H1 Q1 Q2 hq ⟨u, hu, h1, h2, h3, h4⟩
      exact ⟨u, hu, h1, h2, h3, hq _ _ h4⟩
/-! ### fraction -/
/-- below 2 ^ 2000 -/
def Mid (n : Int) : Prop := n.natAbs < 2 ^ 2000
theorem Mid.log {n : Int} (h : Mid n) : n.natAbs.log2 < 9000 := Nat.lt_of_lt_of_le (PySem.Flt.log2_lt_of (by decide) h) (by decide)
/-- a new tuple of two ints -/
def Two (H : Hp) (Q : VK) (t : Int × Int) : Prop := ∀ H' p, Same H H' → H' p = some (.tup [.int t.1, .int t.2]) → Q (.ref p) H'
def spFrac (neg : Bool) : Sp := fun vs H Q _ => ∃ (n d : Int), vs = [.int n, .int d] ∧ d ≠ 0 ∧ (neg = false → 0 < d) ∧ Mid n ∧ Mid d ∧ Two H Q (low n d)
theorem gcd_mid {n d : Int} (h : d ≠ 0) (hd : Mid d) : Mid ((Nat.gcd n.natAbs d.natAbs : Nat) : Int) := by
  unfold Mid at hd ⊢
  rw [Int.natAbs_natCast]
  exact Nat.lt_of_le_of_lt (Nat.le_of_dvd (by omega) (Nat.gcd_dvd_right _ _)) hd
theorem abs_is (n : Int) : (if n < 0 then -n else n) = (n.natAbs : Int) := by
  split <;> omega
end
end Lf

set_option Elab.async false
set_option linter.all false
set_option maxRecDepth 100000
set_option maxHeartbeats 0
namespace Lf
open PySem PySem.Spec PyProof.Rows L2
def inCls (st : Stmt) (j : Nat) : Stmt := match st with
  | .ClassDef (body := b) .. => b.getD j (.Pass ⟨0, 0, 0, 0⟩)
  | _ => .Pass ⟨0, 0, 0, 0⟩
abbrev s_is_whole : Stmt := topS 17
abbrev s__law_is_whole : Stmt := topS 42
abbrev s_is_fraction : Stmt := topS 19
abbrev s_is_name : Stmt := topS 21
abbrev s__law_cell : Stmt := topS 30
abbrev s__law_pot : Stmt := topS 31
abbrev s__law_draw : Stmt := topS 32
abbrev s__law_low : Stmt := topS 33
abbrev s__law_name : Stmt := topS 34
abbrev s__law_parts : Stmt := topS 36
abbrev s__law_names : Stmt := topS 35
abbrev s_is_above_0 : Stmt := topS 20
abbrev s_is_row : Stmt := topS 25
abbrev s_are_rows : Stmt := topS 26
abbrev s_is_lead : Stmt := topS 27
abbrev sx_NoDough : Stmt := inCls (topS 5) 0
abbrev s_dinit : Stmt := inCls (topS 28) 0
abbrev s_dname : Stmt := inCls (topS 28) 4
abbrev s_dlead : Stmt := inCls (topS 28) 6
abbrev s_drows : Stmt := inCls (topS 28) 5
abbrev s__law_odd_name : Stmt := topS 37
abbrev s__law_odd_parts : Stmt := topS 38
abbrev s__law_odd_lead : Stmt := topS 40
abbrev s__law_odd_row : Stmt := topS 39
abbrev s__law_odd_rows : Stmt := topS 41
abbrev s__law_is_name : Stmt := topS 43
abbrev s__law_is_weight : Stmt := topS 44
abbrev s__law_are_rows : Stmt := topS 45
abbrev s__law_wrong : Stmt := topS 46
abbrev s__law_told : Stmt := topS 47
abbrev s_law : Stmt := topS 48
def FILE : Str := "/claim/cut.py"
def hdFa_0 : List Fct := [fun K => (He.Fa.free "isinstance").ok K,
  fun K => (He.Fa.free "bool").ok K,
  fun K => (He.Fa.free "tuple").ok K,
  fun K => decide (PySem.W.specialIn K (.builtin "object.__class__") "__get__" = some (some (.builtin "getset_descriptor.__get__"))),
  fun K => decide (PySem.W.takesIn K (.builtin "object.__class__") = some true),
  fun K => (He.Fa.free "list").ok K,
  fun K => (He.Fa.free "set").ok K,
  fun K => (He.Fa.mkr "Dough").ok K,
  fun K => (He.Fa.cls "Dough").ok K,
  fun K => (He.Fa.noat "Dough" "own_name").ok K,
  fun K => (He.Fa.noat "Dough" "own_rows").ok K,
  fun K => (He.Fa.noat "Dough" "own_lead").ok K,
  fun K => decide (PySem.W.findIn K (.ref (He.ga K "Dough")) "__class__" = some (some (.builtin "object.__class__"))),
  fun K => decide (PySem.W.mroIn K (He.ga K "Dough") (.type "object") = some true),
  fun K => (He.Fa.glo "Dough").ok K,
  fun K => (He.Fa.meth "Dough" "name").ok K,
  fun K => (He.Fa.meth "Dough" "rows").ok K,
  fun K => (He.Fa.meth "Dough" "lead").ok K,
  fun K => (He.Fa.glo "LoafError").ok K,
  fun K => (He.Fa.free "ValueError").ok K,
  xtB FILE "NoDough" ["field"],
  fun K => (He.Fa.glo "NoDough").ok K,
  fun K => (He.Fa.free "super").ok K,
  fun K => (He.Fa.glo "NoCount").ok K,
  fun K => (He.Fa.glo "NoFraction").ok K,
  fun K => (He.Fa.glo "NoName").ok K,
  fun K => (He.Fa.glo "NoPan").ok K,
  fun K => (He.Fa.glo "NoStuff").ok K,
  fun K => (He.Fa.glo "NoWeight").ok K,
  fun K => (He.Fa.glo "Ring").ok K,
  fun K => (He.Fa.glo "Twice").ok K,
  fun K => (He.Fa.glo "Uneven").ok K,
  fun K => (He.Fa.glo "Unknown").ok K,
  fun K => decide (PySem.W.kitAny K (.ref (He.ga K "NoDough")) [.ref (He.ga K "NoCount"), .ref (He.ga K "NoFraction"), .ref (He.ga K "NoName"), .ref (He.ga K "NoPan"), .ref (He.ga K "NoStuff"), .ref (He.ga K "NoWeight"), .ref (He.ga K "Ring"), .ref (He.ga K "Twice"), .ref (He.ga K "Uneven"), .ref (He.ga K "Unknown")] = some false),
  fun K => decide (PySem.W.kitOne K (.ref (He.ga K "NoDough")) (.type "ValueError") = some true),
  fun K => decide (PySem.W.exmOne K (.ref (He.ga K "NoDough")) (.ref (He.ga K "LoafError")) = some true),
  fun K => decide (PySem.W.kitOne K (.ref (He.ga K "NoDough")) (.ref (He.ga K "NoDough")) = some true),
  fun K => (He.Fa.free "abs").ok K,
  fun K => (He.Fa.free "len").ok K,
  fun K => (He.Fa.free "max").ok K,
  fun K => (He.Fa.free "min").ok K,
  fun K => (He.Fa.free "divmod").ok K,
  fun K => (He.Fa.free "repr").ok K,
  fun K => (He.Fa.free "all").ok K,
  fun K => (He.Fa.free "int").ok K,
  fun K => (He.Fa.free "str").ok K,
  fun K => (He.Fa.free "range").ok K,
  fun K => (He.Fa.exc "NoFraction").ok K,
  fun K => (He.Fa.exm "NoFraction" "NoFraction" true).ok K,
  fun K => (He.Fa.str "LETTERS" (Str.ofString "abcdefghijklmnopqrstuvwxyz")).ok K,
  fun K => (He.Fa.int "LONGEST_NAME" 10).ok K,
  fun K => (He.Fa.int "MOST_ROWS" 8).ok K,
  fun K => (He.Fa.int "LONGEST_LEAD" 99).ok K,
  fun K => (He.Fa.glo "is_whole").ok K,
  fun K => (He.Fa.glo "common").ok K,
  fun K => (He.Fa.glo "is_fraction").ok K,
  fun K => (He.Fa.glo "is_above_0").ok K,
  fun K => (He.Fa.glo "is_name").ok K,
  fun K => (He.Fa.glo "is_row").ok K,
  fun K => (He.Fa.glo "are_rows").ok K,
  fun K => (He.Fa.glo "is_lead").ok K,
  fun K => (He.Fa.glo "_law_cell").ok K,
  fun K => (He.Fa.glo "_law_pot").ok K,
  fun K => (He.Fa.glo "_law_draw").ok K,
  fun K => (He.Fa.glo "_law_low").ok K,
  fun K => (He.Fa.glo "_law_name").ok K,
  fun K => (He.Fa.glo "_law_names").ok K,
  fun K => (He.Fa.glo "_law_parts").ok K,
  fun K => (He.Fa.glo "_law_odd_name").ok K,
  fun K => (He.Fa.glo "_law_odd_parts").ok K,
  fun K => (He.Fa.glo "_law_odd_row").ok K,
  fun K => (He.Fa.glo "_law_odd_lead").ok K,
  fun K => (He.Fa.glo "_law_odd_rows").ok K,
  fun K => (He.Fa.glo "_law_is_whole").ok K,
  fun K => (He.Fa.glo "_law_is_name").ok K,
  fun K => (He.Fa.glo "_law_is_weight").ok K,
  fun K => (He.Fa.glo "_law_are_rows").ok K,
  fun K => (He.Fa.glo "_law_wrong").ok K,
  fun K => (He.Fa.glo "_law_told").ok K,
  fun K => (He.Fa.glo "law").ok K]
def hdFa : List Fct := hdFa_0
def hdFn_0 : List DefY := [⟨⟨("Dough", some "__init__"), "__init__", "Dough.__init__", defArgs s_dinit, defBody s_dinit, defScope s_dinit, [.int 0], []⟩, []⟩,
  ⟨⟨("Dough", some "name"), "name", "Dough.name", defArgs s_dname, defBody s_dname, defScope s_dname, [], []⟩, []⟩,
  ⟨⟨("Dough", some "rows"), "rows", "Dough.rows", defArgs s_drows, defBody s_drows, defScope s_drows, [], []⟩, []⟩,
  ⟨⟨("Dough", some "lead"), "lead", "Dough.lead", defArgs s_dlead, defBody s_dlead, defScope s_dlead, [], []⟩, []⟩,
  ⟨⟨("NoDough", some "__init__"), "__init__", "NoDough.__init__", defArgs sx_NoDough, defBody sx_NoDough, defScope sx_NoDough, [], []⟩, ["__class__"]⟩,
  ⟨⟨("is_whole", none), "is_whole", "is_whole", defArgs s_is_whole, defBody s_is_whole, defScope s_is_whole, [], []⟩, []⟩,
  ⟨⟨("common", none), "common", "common", defArgs sCom, defBody sCom, defScope sCom, [], []⟩, []⟩,
  ⟨⟨("is_fraction", none), "is_fraction", "is_fraction", defArgs s_is_fraction, defBody s_is_fraction, defScope s_is_fraction, [], []⟩, []⟩,
  ⟨⟨("is_above_0", none), "is_above_0", "is_above_0", defArgs s_is_above_0, defBody s_is_above_0, defScope s_is_above_0, [], []⟩, []⟩,
  ⟨⟨("is_name", none), "is_name", "is_name", defArgs s_is_name, defBody s_is_name, defScope s_is_name, [], []⟩, []⟩,
  ⟨⟨("is_row", none), "is_row", "is_row", defArgs s_is_row, defBody s_is_row, defScope s_is_row, [], []⟩, []⟩,
  ⟨⟨("are_rows", none), "are_rows", "are_rows", defArgs s_are_rows, defBody s_are_rows, defScope s_are_rows, [], []⟩, []⟩,
  ⟨⟨("is_lead", none), "is_lead", "is_lead", defArgs s_is_lead, defBody s_is_lead, defScope s_is_lead, [], []⟩, []⟩,
  ⟨⟨("_law_cell", none), "_law_cell", "_law_cell", defArgs s__law_cell, defBody s__law_cell, defScope s__law_cell, [], []⟩, []⟩,
  ⟨⟨("_law_pot", none), "_law_pot", "_law_pot", defArgs s__law_pot, defBody s__law_pot, defScope s__law_pot, [], []⟩, []⟩,
  ⟨⟨("_law_draw", none), "_law_draw", "_law_draw", defArgs s__law_draw, defBody s__law_draw, defScope s__law_draw, [], []⟩, []⟩,
  ⟨⟨("_law_low", none), "_law_low", "_law_low", defArgs s__law_low, defBody s__law_low, defScope s__law_low, [], []⟩, []⟩,
  ⟨⟨("_law_name", none), "_law_name", "_law_name", defArgs s__law_name, defBody s__law_name, defScope s__law_name, [], []⟩, []⟩,
  ⟨⟨("_law_names", none), "_law_names", "_law_names", defArgs s__law_names, defBody s__law_names, defScope s__law_names, [], []⟩, []⟩,
  ⟨⟨("_law_parts", none), "_law_parts", "_law_parts", defArgs s__law_parts, defBody s__law_parts, defScope s__law_parts, [], []⟩, []⟩,
  ⟨⟨("_law_odd_name", none), "_law_odd_name", "_law_odd_name", defArgs s__law_odd_name, defBody s__law_odd_name, defScope s__law_odd_name, [], []⟩, []⟩,
  ⟨⟨("_law_odd_parts", none), "_law_odd_parts", "_law_odd_parts", defArgs s__law_odd_parts, defBody s__law_odd_parts, defScope s__law_odd_parts, [], []⟩, []⟩,
  ⟨⟨("_law_odd_row", none), "_law_odd_row", "_law_odd_row", defArgs s__law_odd_row, defBody s__law_odd_row, defScope s__law_odd_row, [], []⟩, []⟩,
  ⟨⟨("_law_odd_lead", none), "_law_odd_lead", "_law_odd_lead", defArgs s__law_odd_lead, defBody s__law_odd_lead, defScope s__law_odd_lead, [], []⟩, []⟩,
  ⟨⟨("_law_odd_rows", none), "_law_odd_rows", "_law_odd_rows", defArgs s__law_odd_rows, defBody s__law_odd_rows, defScope s__law_odd_rows, [], []⟩, []⟩,
  ⟨⟨("_law_is_whole", none), "_law_is_whole", "_law_is_whole", defArgs s__law_is_whole, defBody s__law_is_whole, defScope s__law_is_whole, [], []⟩, []⟩,
  ⟨⟨("_law_is_name", none), "_law_is_name", "_law_is_name", defArgs s__law_is_name, defBody s__law_is_name, defScope s__law_is_name, [], []⟩, []⟩,
  ⟨⟨("_law_is_weight", none), "_law_is_weight", "_law_is_weight", defArgs s__law_is_weight, defBody s__law_is_weight, defScope s__law_is_weight, [], []⟩, []⟩,
  ⟨⟨("_law_are_rows", none), "_law_are_rows", "_law_are_rows", defArgs s__law_are_rows, defBody s__law_are_rows, defScope s__law_are_rows, [], []⟩, []⟩,
  ⟨⟨("_law_wrong", none), "_law_wrong", "_law_wrong", defArgs s__law_wrong, defBody s__law_wrong, defScope s__law_wrong, [], []⟩, []⟩,
  ⟨⟨("_law_told", none), "_law_told", "_law_told", defArgs s__law_told, defBody s__law_told, defScope s__law_told, [], []⟩, []⟩,
  ⟨⟨("law", none), "law", "law", defArgs s_law, defBody s_law, defScope s_law, [], []⟩, []⟩]
def hdFn : List DefY := hdFn_0
def hdLoose_0 : List Str := ["_wall",
  "LoafError",
  "NoFraction",
  "NoStuff",
  "NoDough",
  "NoPan",
  "Twice",
  "NoName",
  "Unknown",
  "Ring",
  "Uneven",
  "NoWeight",
  "NoCount",
  "LETTERS",
  "LONGEST_NAME",
  "is_whole",
  "common",
  "is_fraction",
  "is_above_0",
  "is_name",
  "MOST_ROWS",
  "LONGEST_LEAD",
  "is_row",
  "are_rows",
  "is_lead",
  "Dough",
  "_law_cell",
  "_law_pot",
  "_law_draw",
  "_law_low"]
def hdLoose_1 : List Str := ["_law_name",
  "_law_names",
  "_law_parts",
  "_law_odd_name",
  "_law_odd_parts",
  "_law_odd_row",
  "_law_odd_lead",
  "_law_odd_rows",
  "_law_is_whole",
  "_law_is_name",
  "_law_is_weight",
  "_law_are_rows",
  "_law_wrong",
  "_law_told"]
def hdLoose : List Str := hdLoose_0 ++ hdLoose_1
abbrev hdR : PySem.W.OpenRow := PySem.W.OpenLaw.row PySem.Challenge.rw_loafshares_k22_whole_doughs_refused
abbrev hdK : PySem.W.Hook := hookY 5 hdFa hdFn
def hdOb (s : PySem.W.SharedT) : AlY := obsYG 5 hdFa hdFn (HandSHeadRun.getT s)
theorem hdOb_eq (s : PySem.W.SharedT) : hdOb s = hdK.obs s.abs := obsYG_eq (HandSHeadRun.getT_eq s)
theorem hdLooks (w : World) : RunLooksY hdR (PySem.W.view hdR.prog [48]) 20000 hdLoose w := by
  intro os
  kernel_rfl
theorem hdPart_0 (w : World) : RunPartY hdR 5 20000 hdFa_0 hdFn_0 w := by
  intro os
  kernel_rfl
theorem hdRun (w : World) : HandSHeadRun.RunEq hdR (PySem.W.view hdR.prog [48]) hdK hdOb 20000 hdLoose w := runY_of (hdLooks w) (hdPart_0 w)
end Lf

set_option Elab.async false
set_option linter.all false
set_option maxRecDepth 100000
set_option maxHeartbeats 4000000
set_option exponentiation.threshold 3000
namespace Lf
open PySem PySem.Spec PyProof.Rows L2
theorem Sm.mid {n : Int} (h : Sm n) : Mid n := Nat.lt_of_lt_of_le h (Nat.pow_le_pow_right (by decide) (by decide))
theorem Sm.mulW {a b : Int} (ha : Sm a) (hb : Sm b) : CMulW a b := by
  have := ha.log
  have := hb.log
  unfold CMulW
  omega
theorem Sm.prod {a b : Int} (ha : Sm a) (hb : Sm b) : (a * b).natAbs < 2 ^ 1800 := by
  rw [Int.natAbs_mul, show (2 : Nat) ^ 1800 = 2 ^ 900 * 2 ^ 900 by rw [← Nat.pow_add]]
  exact Nat.mul_lt_mul'' ha hb
theorem Sm.mul {a b : Int} (ha : Sm a) (hb : Sm b) : Mid (a * b) := Nat.lt_of_lt_of_le (Sm.prod ha hb) (Nat.pow_le_pow_right (by decide) (by decide))
theorem two_pow : (2 : Nat) ^ 1800 + 2 ^ 1800 = 2 ^ 1801 := (Nat.two_pow_succ 1800).symm
theorem Sm.add {a b c d : Int} (ha : Sm a) (hb : Sm b) (hc : Sm c) (hd : Sm d) : Mid (a * b + c * d) := by
  have h1 := Sm.prod ha hb
  have h2 := Sm.prod hc hd
  have h3 := Int.natAbs_add_le (a * b) (c * d)
  have h4 : (2 : Nat) ^ 1801 ≤ 2 ^ 2000 := Nat.pow_le_pow_right (by decide) (by decide)
  have h5 := two_pow
  unfold Mid
  omega
theorem Sm.sub {a b c d : Int} (ha : Sm a) (hb : Sm b) (hc : Sm c) (hd : Sm d) : Mid (a * b - c * d) := by
  have h1 := Sm.prod ha hb
  have h2 := Sm.prod hc hd
  have h3 := Int.natAbs_sub_le (a * b) (c * d)
  have h4 : (2 : Nat) ^ 1801 ≤ 2 ^ 2000 := Nat.pow_le_pow_right (by decide) (by decide)
  have h5 := two_pow
  unfold Mid
  omega
/-- two handed fractions -/
structure Pr (K : PySem.W.Frag) (H : Hp) (vs : List V) (a b c d : Int) : Prop where
  ex : ∃ p q, vs = [.ref p, .ref q] ∧ SqT K H p [.int a, .int b] ∧ SqT K H q [.int c, .int d]
  hb : b ≠ 0
  hd : d ≠ 0
  a1 : Sm a
  b1 : Sm b
  c1 : Sm c
  d1 : Sm d
theorem mul_ne {a b : Int} (ha : a ≠ 0) (hb : b ≠ 0) : a * b ≠ 0 := Int.mul_ne_zero ha hb
end Lf

set_option Elab.async false
set_option linter.all false
set_option maxRecDepth 100000
set_option maxHeartbeats 4000000
set_option exponentiation.threshold 3000
/-! Things of any kind: data without dicts, and dicts of plain things. -/
namespace Lf
open PySem PySem.Spec PyProof.Rows L2
def kD : Key → PyData
  | .inl i => .int i
  | .inr x => .str x
inductive Sc : V → PyData → Prop
  | non : Sc .non .none
  | bl (b : Bool) : Sc (.bl b) (.bool b)
  | int (i : Int) : Sc (.int i) (.int i)
  | str (x : Str) : Sc (.str x) (.str x)
/-- a thing: data, or a dict of plain things -/
inductive Dq (K : PySem.W.Frag) (H : Hp) : V → PyData → Prop
  | dp {v : V} {d : PyData} (h : Dp K H v d) (n : d.hasDict = false) : Dq K H v d
  | dic {a : Addr} {kvs : List (Key × V)} {ds : List (PyData × PyData)} (h : H a = some (.dK kvs)) (p : Paired (fun (kv : Key × V) (d : PyData × PyData) => d.1 = kD kv.1 ∧ Sc kv.2 d.2) kvs ds) : Dq K H (.ref a) (.dict ds)
theorem Dq.same {K : PySem.W.Frag} {H H' : Hp} {v : V} {d : PyData} (s : Same H H') (h : Dq K H v d) : Dq K H' v d := by
  cases h with
  | dp h n => exact .dp (Dp.same s _ _ h) n
  | dic h p => exact .dic (s _ _ h) p
section
variable {X : Cx} {pins : List (Addr × Obj)} {σ : L2.St} {H : Hp} {s : Shared}
theorem Sc.reads {v : V} {d : PyData} {u : Value} {h : Heap} (k : Sc v d) (r : RelV v u) : Reads h u d [] := by
  cases k with
  | non => cases r; exact .none
  | bl b => cases r; exact .bool b
  | int i => obtain ⟨t, rfl⟩ := r; exact .int i t
  | str x => obtain ⟨t, rfl⟩ := r; exact .str x t
theorem dic_reads {P : Program} {w : World} {h : Heap} : ∀ {es : List DictEntry} {vs : List (Key × Value)} {kvs : List (Key × V)} {ds : List (PyData × PyData)}, Pairs (mixKind P w) es vs → KV kvs vs →
    Paired (fun (kv : Key × V) (d : PyData × PyData) => d.1 = kD kv.1 ∧ Sc kv.2 d.2) kvs ds → ReadsAll h (es.map (·.key)) (ds.map (·.1)) [] ∧ ReadsAll h (es.map (·.val)) (ds.map (·.2)) []
  | _, _, _, _, .nil, kv, p => by
    cases kv
    cases p
    exact ⟨.nil, .nil⟩
  | _, _, _, _, .cons (e := e) hk hv r, kv, p => by
    cases kv with
    | cons q kv =>
      cases p with
      | cons z p =>
        obtain ⟨i1, i2⟩ := dic_reads r kv p
        obtain ⟨q1, q2⟩ := q
        obtain ⟨z1, z2⟩ := z
        refine ⟨?_, ?_⟩
        · rw [List.map_cons, List.map_cons]
          refine ReadsAll.cons (as := []) (bs := []) ?_ i1
          rw [z1, q1]
          rcases keyIs_shape (show keyIs _ e.key = true from hk) with ⟨i, t, e1, e2⟩ | ⟨x, t, e1, e2⟩
          · rw [e1, e2]
            exact .int i t
          · rw [e1, e2]
            exact .str x t
        · rw [List.map_cons, List.map_cons]
          refine ReadsAll.cons (as := []) (bs := []) ?_ i2
          rw [hv]
          exact z2.reads q2
theorem Dq.reads (I : Inv X pins σ H s) {v : V} {d : PyData} {u : Value} (h : Dq X.K H v d) (r : RelV v u) : ∃ as, Reads s.heap u d as ∧ (d.hasDict = true → sysModules ∉ as) := by
  cases h with
  | dp h n =>
    obtain ⟨as, q⟩ := Dp.reads I d v u h r
    exact ⟨as, q, fun z => by rw [n] at z; cases z⟩
  | @dic a kvs ds h p =>
    cases r
    obtain ⟨hz, hs, vs, kv, o, es, ep, h1, h2, h3, h4, h5, h6⟩ := (show ObjOk X.prog X.w H s.heap a (.dK kvs) from I.hok a _ h)
    obtain ⟨i1, i2⟩ := dic_reads (h := s.heap) h5 kv p
    refine ⟨_, Reads.dict h1 h2.1 h3 i1 i2, fun _ hm => ?_⟩
    have : sysModules = a := by simpa using hm
    rw [this] at hs
    simp at hs
/-- the built-in type of a thing -/
def tyN : PyData → String
  | .none => "NoneType"
  | .bool _ => "bool"
  | .int _ => "int"
  | .str _ => "str"
  | .list _ => "list"
  | .tuple _ => "tuple"
  | .dict _ => "dict"
theorem Dp.ty {K : PySem.W.Frag} {v : V} {d : PyData} (h : Dp K H v d) : TyX K H v (.type (tyN d)) := by
  cases h with
  | non => exact .base .non
  | bl b => exact .base (.bl b)
  | int i => exact .base (.int i)
  | str x => exact .base (.str x)
  | lst h1 _ =>
    rcases h1 with (h | ⟨o, h⟩) | ⟨o, arr, n, hk, hc, _⟩
    · exact .base (.lst h)
    · exact .base (.frz h)
    · exact .kList hk hc
  | tup h1 _ =>
    rcases h1 with (h | ⟨o, h⟩) | ⟨o, arr, n, hk, hc, _⟩
    · exact .base (.tup h)
    · exact .fTuple h
    · exact .kTuple hk hc
theorem Dq.ty {K : PySem.W.Frag} {v : V} {d : PyData} (h : Dq K H v d) : TyX K H v (.type (tyN d)) := by
  cases h with
  | dp h _ => exact Lf.Dp.ty h
  | dic h _ => exact .base (.dK h)
/-! ### repr of a list of things -/
inductive DqAll (K : PySem.W.Frag) (H : Hp) : List V → List PyData → Prop
  | nil : DqAll K H [] []
  | cons {v : V} {vs : List V} {d : PyData} {ds : List PyData} : Dq K H v d → DqAll K H vs ds → DqAll K H (v :: vs) (d :: ds)
theorem DqAll.same {K : PySem.W.Frag} {H H' : Hp} (s : Same H H') : ∀ {vs : List V} {ds : List PyData}, DqAll K H vs ds → DqAll K H' vs ds
  | _, _, .nil => .nil
  | _, _, .cons a r => .cons (a.same s) (DqAll.same s r)
theorem DqAll.get {K : PySem.W.Frag} {H : Hp} : ∀ {vs : List V} {ds : List PyData} {i : Nat} {v : V}, DqAll K H vs ds → vs[i]? = some v → ∃ d, ds[i]? = some d ∧ Dq K H v d
  | _, _, _, _, .nil, e => by simp at e
  | _, _, 0, _, .cons a _, e => by
    simp at e
    subst e
    exact ⟨_, rfl, a⟩
  | _, _, i + 1, v, .cons _ r, e => by
    obtain ⟨d, h1, h2⟩ := DqAll.get (i := i) (v := v) r (by simpa using e)
    exact ⟨d, by simpa using h1, h2⟩
theorem DqAll.app {K : PySem.W.Frag} {H : Hp} : ∀ {vs us : List V} {ds es : List PyData}, DqAll K H vs ds → DqAll K H us es → DqAll K H (vs ++ us) (ds ++ es)
  | _, _, _, _, .nil, h => h
  | _, _, _, _, .cons a r, h => .cons a (DqAll.app r h)
theorem DqAll.length {K : PySem.W.Frag} {H : Hp} : ∀ {vs : List V} {ds : List PyData}, DqAll K H vs ds → vs.length = ds.length
  | _, _, .nil => rfl
  | _, _, .cons _ r => congrArg Nat.succ (DqAll.length r)
theorem dq_repr (I : Inv X pins σ H s) : ∀ {vs : List V} {ds : List PyData} {us : List Value}, DqAll X.K H vs ds → Vals vs us → PyData.showableAll ds = true → (∀ t ∈ PyData.shownAll ds, t.length ≤ sizeLine) →
    ∃ bs as, ReadAtMost s.heap (PyData.depthAll ds) bs ∧ ReprAllK X.prog X.w bs s.heap (PyData.depthAll ds) us (PyData.shownAll ds) ∧ ReadsAll s.heap us ds as
  | _, _, _, .nil, r, _, _ => by
    cases r
    exact ⟨[], [], (fun _ h => nomatch h), by simp only [PyData.shownAll]; exact .nil, .nil⟩
  | _, _, _, .cons (d := d) (ds := ds) a q, r, hs, hz => by
    cases r with
    | cons r1 r2 =>
      have hs' : d.showable = true ∧ PyData.showableAll ds = true := by simpa [PyData.showableAll] using hs
      have hz' : d.shown.length ≤ sizeLine ∧ ∀ t ∈ PyData.shownAll ds, t.length ≤ sizeLine := by
        simp only [PyData.shownAll] at hz
        exact ⟨hz _ List.mem_cons_self, fun t ht => hz t (List.mem_cons_of_mem _ ht)⟩
      obtain ⟨as1, rd, hsm⟩ := a.reads I r1
      obtain ⟨b1, m1, k1⟩ := ReprK.of_reads (prog := X.prog) (w := X.w) rd hs'.1 hsm hz'.1
      obtain ⟨b2, as2, m2, k2, rd2⟩ := dq_repr I q r2 hs'.2 hz'.2
      have l1 : d.depth ≤ PyData.depthAll (d :: ds) := by simp only [PyData.depthAll]; omega
      have l2 : PyData.depthAll ds ≤ PyData.depthAll (d :: ds) := by simp only [PyData.depthAll]; omega
      refine ⟨b1 ++ b2, as1 ++ as2, ?_, ?_, .cons rd rd2⟩
      · intro b hb
        rcases List.mem_append.mp hb with z | z
        · obtain ⟨d', as', r', e'⟩ := m1 b z
          exact ⟨d', as', r', Nat.le_trans e' l1⟩
        · obtain ⟨d', as', r', e'⟩ := m2 b z
          exact ⟨d', as', r', Nat.le_trans e' l2⟩
      · simp only [PyData.shownAll]
        exact .cons ((k1.more (fun b hb => List.mem_append_left _ hb)).level_le l1) (k2.more_le (fun b hb => List.mem_append_right _ hb) l2)
def rShowQ (K : PySem.W.Frag) : List V → Hp → VK → Prop := fun xs H Q => ∃ (a : Addr) (v : V) (vs : List V) (ds : List PyData), xs = [.ref a] ∧ SqL K H a (v :: vs) ∧ DqAll K H (v :: vs) ds ∧
  PyData.showableAll ds = true ∧ PyData.depthAll ds ≤ 29 ∧ (PyData.shown (.list ds)).length ≤ sizeLine ∧ Q (.str (PyData.shown (.list ds))) H
theorem call_showQ (hG : X.A.guards = some []) {k : Nat} (hr : Room k X.A) : CallR X (.builtin "repr") (rShowQ X.K) := by
  intro pins s σ H xs us Q I r h
  obtain ⟨a, v, vs, ds, rfl, hS, hd, hs, h30, hz, q⟩ := h
  cases r with
  | cons r1 r2 =>
    cases r2
    cases r1
    have hu := hr.units
    obtain ⟨its, rv, ⟨o, n, ho, hc, _, hdt⟩, _⟩ := I.list hS
    have hz' : (listText (PyData.shownAll ds)).length ≤ sizeLine := by simpa only [PyData.shown] using hz
    obtain ⟨bs, as, m, k, rd⟩ := dq_repr I hd rv hs (fun t ht => Nat.le_trans (listText_mem_le ht) hz')
    have rl : Reads s.heap (.ref a) (.list ds) (a :: as) := Reads.list ho hc hdt rd
    have hna : a ∉ bs := not_mem_of_deeper rl (by simp only [PyData.depth]; omega) m
    cases its with
    | nil => cases rv
    | cons u us' =>
      refine call_repr_slot (T := "list") (by omega) ⟨o, ho, hc⟩ F.slot_list_repr.toG ?_
      refine call_list_reprK ho hc hdt hna (by simpa using k.length_eq) (fun i y e => k.item i y (by simpa using e)) hG (fun b _ => Clear.nil b) (by show X.A.units + 1 + (PyData.depthAll ds + 1) < cLine; omega) (fun _ _ z => z) (fun h' u tk hk => ?_) hz'
      refine ⟨_, _, rfl, ⟨.str (PyData.shown (.list ds)), H, I.kept hk, ⟨u, ?_⟩, q⟩⟩
      simp only [PyData.shown]
end
/-- a statement and the rest, what follows shown once from what holds between them -/
def tMid (t u : TS) : TS := fun D σ H => ∃ Md : L2.St → Hp → Prop, t { D with nx := Md } σ H ∧ ∀ σ' H', Md σ' H' → u D σ' H'
theorem pss_mid {X : Cx} {st : Stmt} {more : List Stmt} {t u : TS} (h1 : PS X st t) (h2 : PSs X more u) : PSs X (st :: more) (tMid t u) := by
  refine ⟨fun pins s σ H D I ⟨Md, hm, hu⟩ => wpAny_execs_cons (thn (h1.run pins s σ H { D with nx := Md } I hm) fun f s1 q => ?_)⟩
  cases f with
  | next =>
    obtain ⟨σ', H', I', q⟩ := q
    exact h2.run pins s1 σ' H' D I' (hu σ' H' q)
  | ret v => exact q
  | brk => exact q
  | cont => exact q
/-- what repr asks of a list of things -/
structure ShowA (ds : List PyData) : Prop where
  sh : PyData.showableAll ds = true
  dp : PyData.depthAll ds ≤ 29
  ln : (PyData.shown (.list ds)).length ≤ sizeLine
end Lf

set_option Elab.async false
set_option linter.all false
set_option maxRecDepth 100000
set_option maxHeartbeats 4000000
set_option exponentiation.threshold 3000
/-! repr of data with dicts at any depth: of what stands for d in a heap, and what repr tells of it. -/
namespace Lf
open PySem PySem.Spec PyProof.Rows L2
section
variable {P : Program} {w : World} {h : Heap}
/-- a row's texts can be told, none of them within one of the row's own objects -/
def RowSays (P : Program) (w : World) (h : Heap) (us : List Value) (ds : List PyData) : Prop :=
  PyData.showableAll ds = true → (∀ t ∈ PyData.shownAll ds, t.length ≤ sizeLine) → ∃ bs, ReadAtMost h (PyData.depthAll ds) bs ∧ ReprAllK P w bs h (PyData.depthAll ds) us (PyData.shownAll ds)
structure Row (P : Program) (w : World) (h : Heap) (us : List Value) (ds : List PyData) : Prop where
  rd : ∃ as, ReadsAll h us ds as
  say : RowSays P w h us ds
/-- u stands for d: it is read so, told so within another one, and, where it is an object, by its type's own repr -/
structure One (P : Program) (w : World) (h : Heap) (u : Value) (d : PyData) : Prop where
  rd : ∃ as, Reads h u d as
  say : d.showable = true → d.shown.length ≤ sizeLine → ∃ bs, ReadAtMost h d.depth bs ∧ ReprK P w bs h d.depth u d.shown
  top : d.showable = true → d.shown.length ≤ sizeLine → ∀ a, u = .ref a → ∃ T idr, ShowsBy P w h a d T idr
theorem One.plain {u : Value} {d : PyData} {as : List Addr} (r : Reads h u d as) (n : d.hasDict = false) : One P w h u d :=
  ⟨⟨as, r⟩, fun a b => ReprK.of_reads r a (PyData.noDict_hsm n) b, fun a b c e => showsBy_of_reads (e ▸ r) a (PyData.noDict_hsm n) b⟩
theorem Row.nil : Row P w h [] [] := ⟨⟨[], .nil⟩, fun _ _ => ⟨[], fun b hb => absurd hb List.not_mem_nil, by unfold PyData.shownAll; exact .nil⟩⟩
theorem Row.cons {u : Value} {us : List Value} {d : PyData} {ds : List PyData} (a : One P w h u d) (r : Row P w h us ds) : Row P w h (u :: us) (d :: ds) where
  rd := a.rd.elim fun _ ra => r.rd.elim fun _ rr => ⟨_, .cons ra rr⟩
  say := fun hs hz => by
    unfold PyData.showableAll at hs
    unfold PyData.shownAll at hz
    have both := Bool.and_eq_true_iff.mp hs
    obtain ⟨b1, m1, k1⟩ := a.say both.1 (hz d.shown (List.Mem.head _))
    obtain ⟨b2, m2, k2⟩ := r.say both.2 fun t ht => hz t (List.Mem.tail _ ht)
    have e : PyData.depthAll (d :: ds) = max d.depth (PyData.depthAll ds) := by rw [PyData.depthAll]
    refine ⟨b1 ++ b2, ?_, ?_⟩
    · rw [e]
      exact (m1.mono (Nat.le_max_left ..)).append (m2.mono (Nat.le_max_right ..))
    · rw [e]
      unfold PyData.shownAll
      refine .cons (ReprK.level_le (k1.more fun b hb => List.mem_append.mpr (.inl hb)) (Nat.le_max_left ..)) ?_
      exact ReprAllK.more_le (fun b hb => List.mem_append.mpr (.inr hb)) (Nat.le_max_right ..) k2
section
variable {a : Addr} {o : Obj} {n : Nat} {us : List Value} {ds : List PyData} {kvs : List (PyData × PyData)} {es : Array DictEntry}
/-- what a list's and a tuple's parts have to be -/
theorem parts_fit {f : List Str → Str} (hf : ∀ ts t, t ∈ ts → t.length ≤ (f ts).length) (hz : (f (PyData.shownAll ds)).length ≤ sizeLine) : ∀ t ∈ PyData.shownAll ds, t.length ≤ sizeLine := fun t ht => Nat.le_trans (hf _ _ ht) hz
theorem One.lst (ho : h.get? a = some o) (hc : o.cls = .type "list") (hd : o.data = .seq us.toArray n) (r : Row P w h us ds) : One P w h (.ref a) (.list ds) := by
  obtain ⟨as, ra⟩ := r.rd
  have ro : Reads h (.ref a) (.list ds) (a :: as) := .list ho hc hd ra
  have e1 : PyData.depth (.list ds) = PyData.depthAll ds + 1 := by unfold PyData.depth; rfl
  have e2 : PyData.shown (.list ds) = listText (PyData.shownAll ds) := by unfold PyData.shown; rfl
  have e3 : PyData.showable (.list ds) = PyData.showableAll ds := by unfold PyData.showable; rfl
  have in_ : PyData.showable (.list ds) = true → (PyData.shown (.list ds)).length ≤ sizeLine → ∃ bs, ReadAtMost h (PyData.depthAll ds) bs ∧ ReprAllK P w bs h (PyData.depthAll ds) us (PyData.shownAll ds) := fun hs hz => by
    rw [e3] at hs
    rw [e2] at hz
    exact r.say hs (parts_fit (fun _ _ => listText_mem_le) hz)
  have out : ∀ bs, ReadAtMost h (PyData.depthAll ds) bs → a ∉ bs := fun bs hb => not_mem_of_deeper ro (by rw [e1]; exact Nat.lt_succ_self _) hb
  cases us with
  | nil =>
    have e4 : ds = [] := by cases ra; rfl
    subst e4
    have e5 : PyData.hasDict (.list []) = false := by unfold PyData.hasDict PyData.hasDictAll; rfl
    exact One.plain ro e5
  | cons u us =>
    refine ⟨⟨_, ro⟩, fun hs hz => ?_, fun hs hz c ec => ?_⟩
    · obtain ⟨bs, hb, hk⟩ := in_ hs hz
      refine ⟨a :: bs, ReadAtMost.cons ro (by rw [e1]; exact Nat.le_succ _) hb, ?_⟩
      rw [e1, e2]
      exact ReprK.list ho hc hd (out bs hb) (by rw [List.size_toArray]; exact hk.length_eq) fun i y q => hk.item i y (by rw [List.getElem?_toArray] at q; exact q)
    · cases ec
      obtain ⟨bs, hb, hk⟩ := in_ hs hz
      rw [e2] at hz
      refine ⟨"list", "list.__repr__", ⟨F.slot_list_repr.toG, F.slot_list_str, F.slot_list_format, fun s k0 => ⟨o, k0 _ _ ho, hc⟩, fun A E s Q hg hu k0 q => ?_⟩⟩
      rw [e1] at hu
      rw [e2] at q
      exact call_list_reprK ho hc hd (out bs hb) (by rw [List.size_toArray]; exact hk.length_eq) (fun i y q => hk.item i y (by rw [List.getElem?_toArray] at q; exact q)) hg (fun b _ => Clear.nil b) hu k0 q hz
theorem One.tup (ho : h.get? a = some o) (hc : o.cls = .type "tuple") (hd : o.data = .seq us.toArray n) (r : Row P w h us ds) : One P w h (.ref a) (.tuple ds) := by
  obtain ⟨as, ra⟩ := r.rd
  have ro : Reads h (.ref a) (.tuple ds) as := .tuple ho hc hd ra
  have e1 : PyData.depth (.tuple ds) = PyData.depthAll ds + 1 := by unfold PyData.depth; rfl
  have e2 : PyData.shown (.tuple ds) = tupleText (PyData.shownAll ds) := by unfold PyData.shown; rfl
  have e3 : PyData.showable (.tuple ds) = PyData.showableAll ds := by unfold PyData.showable; rfl
  have in_ : PyData.showable (.tuple ds) = true → (PyData.shown (.tuple ds)).length ≤ sizeLine → ∃ bs, a ∉ bs ∧ ReadAtMost h (PyData.depthAll ds) bs ∧ ReprAllK P w bs h (PyData.depthAll ds) us (PyData.shownAll ds) := fun hs hz => by
    rw [e3] at hs
    rw [e2] at hz
    obtain ⟨bs, hb, hk⟩ := r.say hs (parts_fit (fun _ _ => tupleText_mem_le) hz)
    exact ⟨bs, not_mem_of_deeper ro (by rw [e1]; exact Nat.lt_succ_self _) hb, hb, hk⟩
  refine ⟨⟨_, ro⟩, fun hs hz => ?_, fun hs hz c ec => ?_⟩
  · obtain ⟨bs, na, hb, hk⟩ := in_ hs hz
    refine ⟨a :: bs, ReadAtMost.cons ro (by rw [e1]; exact Nat.le_succ _) hb, ?_⟩
    rw [e1, e2]
    exact ReprK.tuple ho hc hd na hk
  · cases ec
    obtain ⟨bs, na, hb, hk⟩ := in_ hs hz
    rw [e2] at hz
    refine ⟨"tuple", "tuple.__repr__", ⟨F.slot_tuple_repr, F.slot_tuple_str, F.slot_tuple_format, fun s k0 => ⟨o, k0 _ _ ho, hc⟩, fun A E s Q hg hu k0 q => ?_⟩⟩
    rw [e1] at hu
    rw [e2] at q
    exact call_tuple_reprK ho hc hd na hk hg (fun b _ => Clear.nil b) hu k0 q hz
theorem One.dic (ho : h.get? a = some o) (hc : o.cls = .type "dict") (hd : o.data = .dict es n) (sys : (a == sysModules) = false) (rk : Row P w h (es.toList.map (·.key)) (kvs.map (·.1))) (rv : Row P w h (es.toList.map (·.val)) (kvs.map (·.2))) : One P w h (.ref a) (.dict kvs) := by
  obtain ⟨as, ra⟩ := rk.rd
  obtain ⟨cs, rc⟩ := rv.rd
  have ro : Reads h (.ref a) (.dict kvs) (a :: as ++ cs) := .dict ho hc hd ra rc
  have e1 : PyData.depth (.dict kvs) = PyData.depthKv kvs + 1 := by unfold PyData.depth; rfl
  have e2 : PyData.shown (.dict kvs) = dictText (PyData.shownKv kvs) := by unfold PyData.shown; rfl
  have e3 : PyData.showable (.dict kvs) = PyData.showableKv kvs := by unfold PyData.showable; rfl
  have in_ : PyData.showable (.dict kvs) = true → (PyData.shown (.dict kvs)).length ≤ sizeLine → ∃ bs, a ∉ bs ∧ ReadAtMost h (PyData.depthKv kvs) bs ∧ ReprEntriesK P w bs h (PyData.depthKv kvs) es.toList (PyData.shownKv kvs) := fun hs hz => by
    rw [e3] at hs
    rw [e2] at hz
    have two := PyData.showableKv_split kvs hs
    have fits : ∀ t p : Str, p ∈ PyData.shownKv kvs → t.length ≤ p.length → t.length ≤ sizeLine := fun t p hp hl => Nat.le_trans hl (Nat.le_trans (dictText_mem_le hp) hz)
    obtain ⟨b1, m1, k1⟩ := rk.say two.1 fun t ht => by
      obtain ⟨p, hp, hl⟩ := PyData.shownKv_key_le kvs t ht
      exact fits t p hp hl
    obtain ⟨b2, m2, k2⟩ := rv.say two.2 fun t ht => by
      obtain ⟨p, hp, hl⟩ := PyData.shownKv_val_le kvs t ht
      exact fits t p hp hl
    have hb := (m1.mono (PyData.depthAll_keys_le kvs)).append (m2.mono (PyData.depthAll_vals_le kvs))
    refine ⟨b1 ++ b2, not_mem_of_deeper ro (by rw [e1]; exact Nat.lt_succ_self _) hb, hb, ?_⟩
    rw [PyData.shownKv_eq]
    refine ReprEntriesK.of_two _ _ _ (ReprAllK.more_le ?_ (PyData.depthAll_keys_le kvs) k1) (ReprAllK.more_le ?_ (PyData.depthAll_vals_le kvs) k2)
    · exact fun b hb => List.mem_append.mpr (.inl hb)
    · exact fun b hb => List.mem_append.mpr (.inr hb)
  refine ⟨⟨_, ro⟩, fun hs hz => ?_, fun hs hz c ec => ?_⟩
  · obtain ⟨bs, na, hb, hk⟩ := in_ hs hz
    refine ⟨a :: bs, ReadAtMost.cons ro (by rw [e1]; exact Nat.le_succ _) hb, ?_⟩
    rw [e1, e2]
    exact ReprK.dict ho hc hd sys na hk
  · cases ec
    obtain ⟨bs, na, hb, hk⟩ := in_ hs hz
    rw [e2] at hz
    refine ⟨"dict", "dict.__repr__", ⟨F.slot_dict_repr, F.slot_dict_str, F.slot_dict_format, fun s k0 => ⟨o, k0 _ _ ho, hc⟩, fun A E s Q hg hu k0 q => ?_⟩⟩
    rw [e1] at hu
    rw [e2] at q
    exact call_dict_reprK ho hc hd sys na hk hg (fun b _ => Clear.nil b) hu k0 q hz
end
end
/-! ### data of the abstract heap, dicts among them -/
mutual
inductive Dg (K : PySem.W.Frag) (H : Hp) : V → PyData → Prop
  | non : Dg K H .non .none
  | bl (b : Bool) : Dg K H (.bl b) (.bool b)
  | int (i : Int) : Dg K H (.int i) (.int i)
  | str (x : Str) : Dg K H (.str x) (.str x)
  | lst {a : Addr} {xs : List V} {ds : List PyData} : SqL K H a xs → DgAll K H xs ds → Dg K H (.ref a) (.list ds)
  | tup {a : Addr} {xs : List V} {ds : List PyData} : SqT K H a xs → DgAll K H xs ds → Dg K H (.ref a) (.tuple ds)
  | dk {a : Addr} {kvs : List (Key × V)} {ds : List (PyData × PyData)} : H a = some (.dK kvs) → DgKv K H kvs ds → Dg K H (.ref a) (.dict ds)
  | dt {a : Addr} {kvs : List (List Key × V)} {ds : List (PyData × PyData)} : H a = some (.dT kvs) → DgKt K H kvs ds → Dg K H (.ref a) (.dict ds)
inductive DgAll (K : PySem.W.Frag) (H : Hp) : List V → List PyData → Prop
  | nil : DgAll K H [] []
  | cons {v : V} {vs : List V} {d : PyData} {ds : List PyData} : Dg K H v d → DgAll K H vs ds → DgAll K H (v :: vs) (d :: ds)
inductive DgKv (K : PySem.W.Frag) (H : Hp) : List (Key × V) → List (PyData × PyData) → Prop
  | nil : DgKv K H [] []
  | cons {k : Key} {v : V} {vs : List (Key × V)} {d : PyData} {ds : List (PyData × PyData)} : Dg K H v d → DgKv K H vs ds → DgKv K H ((k, v) :: vs) ((kD k, d) :: ds)
inductive DgKt (K : PySem.W.Frag) (H : Hp) : List (List Key × V) → List (PyData × PyData) → Prop
  | nil : DgKt K H [] []
  | cons {k : List Key} {v : V} {vs : List (List Key × V)} {d : PyData} {ds : List (PyData × PyData)} : Dg K H v d → DgKt K H vs ds → DgKt K H ((k, v) :: vs) ((.tuple (k.map kD), d) :: ds)
end
mutual
theorem Dg.of {K : PySem.W.Frag} {H : Hp} : ∀ {d : PyData} {v : V}, Dp K H v d → Dg K H v d
  | _, _, .non => .non
  | _, _, .bl b => .bl b
  | _, _, .int i => .int i
  | _, _, .str x => .str x
  | _, _, .lst h r => .lst h (DgAll.of r)
  | _, _, .tup h r => .tup h (DgAll.of r)
theorem DgAll.of {K : PySem.W.Frag} {H : Hp} : ∀ {ds : List PyData} {vs : List V}, DpAll K H vs ds → DgAll K H vs ds
  | _, _, .nil => .nil
  | _, _, .cons a r => .cons (Dg.of a) (DgAll.of r)
end
theorem sqT_same {K : PySem.W.Frag} {H H' : Hp} (s : Same H H') {a : Addr} {xs : List V} (h : SqT K H a xs) : SqT K H' a xs := by
  rcases h with (h | ⟨o, h⟩) | h
  · exact .inl (.inl (s _ _ h))
  · exact .inl (.inr ⟨o, s _ _ h⟩)
  · exact .inr h
mutual
theorem Dg.same {K : PySem.W.Frag} {H H' : Hp} (s : Same H H') : ∀ {d : PyData} {v : V}, Dg K H v d → Dg K H' v d
  | _, _, .non => .non
  | _, _, .bl b => .bl b
  | _, _, .int i => .int i
  | _, _, .str x => .str x
  | _, _, .lst h r => .lst (s.seq h) (DgAll.same s r)
  | _, _, .tup h r => .tup (sqT_same s h) (DgAll.same s r)
  | _, _, .dk h r => .dk (s _ _ h) (DgKv.same s r)
  | _, _, .dt h r => .dt (s _ _ h) (DgKt.same s r)
theorem DgAll.same {K : PySem.W.Frag} {H H' : Hp} (s : Same H H') : ∀ {ds : List PyData} {vs : List V}, DgAll K H vs ds → DgAll K H' vs ds
  | _, _, .nil => .nil
  | _, _, .cons a r => .cons (Dg.same s a) (DgAll.same s r)
theorem DgKv.same {K : PySem.W.Frag} {H H' : Hp} (s : Same H H') : ∀ {ds : List (PyData × PyData)} {vs : List (Key × V)}, DgKv K H vs ds → DgKv K H' vs ds
  | _, _, .nil => .nil
  | _, _, .cons a r => .cons (Dg.same s a) (DgKv.same s r)
theorem DgKt.same {K : PySem.W.Frag} {H H' : Hp} (s : Same H H') : ∀ {ds : List (PyData × PyData)} {vs : List (List Key × V)}, DgKt K H vs ds → DgKt K H' vs ds
  | _, _, .nil => .nil
  | _, _, .cons a r => .cons (Dg.same s a) (DgKt.same s r)
end
section
variable {X : Cx} {pins : List (Addr × Obj)} {σ : L2.St} {H : Hp} {s : Shared}
theorem key_one {P : Program} {w : World} {h : Heap} {k : Key} {u : Value} (hk : keyIs k u = true) : One P w h u (kD k) := by
  rcases keyIs_shape hk with ⟨i, t, e1, e2⟩ | ⟨x, t, e1, e2⟩
  · rw [e1, e2]
    exact .plain (.int i t) (by unfold kD PyData.hasDict; rfl)
  · rw [e1, e2]
    exact .plain (.str x t) (by unfold kD PyData.hasDict; rfl)
theorem key_row {P : Program} {w : World} {h : Heap} : ∀ (ks : List Key) (us : List Value), Vals (ks.map kV) us → Row P w h us (ks.map kD)
  | [], _, r => by
    cases r
    exact .nil
  | .inl i :: ks, _, r => by
    cases r with
    | cons r1 r2 =>
      obtain ⟨t, rfl⟩ := r1
      exact .cons (.plain (.int i t) (by unfold kD PyData.hasDict; rfl)) (key_row ks _ r2)
  | .inr x :: ks, _, r => by
    cases r with
    | cons r1 r2 =>
      obtain ⟨t, rfl⟩ := r1
      exact .cons (.plain (.str x t) (by unfold kD PyData.hasDict; rfl)) (key_row ks _ r2)
mutual
theorem Dg.one (I : Inv X pins σ H s) : ∀ {d : PyData} {v : V} {u : Value}, Dg X.K H v d → RelV v u → One X.prog X.w s.heap u d
  | _, _, _, .non, r => by cases r; exact .plain .none (by unfold PyData.hasDict; rfl)
  | _, _, _, .bl b, r => by cases r; exact .plain (.bool b) (by unfold PyData.hasDict; rfl)
  | _, _, _, .int i, r => by obtain ⟨t, rfl⟩ := r; exact .plain (.int i t) (by unfold PyData.hasDict; rfl)
  | _, _, _, .str x, r => by obtain ⟨t, rfl⟩ := r; exact .plain (.str x t) (by unfold PyData.hasDict; rfl)
  | _, _, _, .lst h q, r => by
    cases r
    obtain ⟨its, rv, ⟨o, n, ho, hc, _, hd⟩, _⟩ := I.list h
    exact .lst ho hc hd (DgAll.row I q rv)
  | _, _, _, .tup h q, r => by
    cases r
    obtain ⟨its, rv, ⟨o, ho, hc, n, hd⟩, _⟩ := I.tuple h
    exact .tup ho hc hd (DgAll.row I q rv)
  | _, _, _, .dk (a := a) (kvs := kvs) h q, r => by
    cases r
    obtain ⟨_, sys, vs, kv, o, es, ep, h1, h2, h3, h4, h5, h6⟩ := (show ObjOk X.prog X.w H s.heap a (.dK kvs) from I.hok a _ h)
    obtain ⟨i1, i2⟩ := DgKv.rows I h5 kv q
    exact .dic h1 h2.1 h3 sys i1 i2
  | _, _, _, .dt (a := a) (kvs := kvs) h q, r => by
    cases r
    obtain ⟨_, sys, xs, hp, o, es, ep, h1, h2, h3, h4, h5⟩ := (show ObjOk X.prog X.w H s.heap a (.dT kvs) from I.hok a _ h)
    obtain ⟨i1, i2⟩ := DgKt.rows I q hp
    refine .dic h1 h2.1 h3 sys ?_ ?_
    · rw [h4, List.map_map]
      exact i1
    · rw [h4, List.map_map]
      exact i2
theorem DgAll.row (I : Inv X pins σ H s) : ∀ {ds : List PyData} {vs : List V} {us : List Value}, DgAll X.K H vs ds → Vals vs us → Row X.prog X.w s.heap us ds
  | _, _, _, .nil, r => by cases r; exact .nil
  | _, _, _, .cons a q, r => by
    cases r with
    | cons r1 r2 => exact .cons (Dg.one I a r1) (DgAll.row I q r2)
theorem DgKv.rows (I : Inv X pins σ H s) : ∀ {ds : List (PyData × PyData)} {kvs : List (Key × V)} {es : List DictEntry} {vs : List (Key × Value)}, Pairs (mixKind X.prog X.w) es vs → KV kvs vs → DgKv X.K H kvs ds →
    Row X.prog X.w s.heap (es.map (·.key)) (ds.map (·.1)) ∧ Row X.prog X.w s.heap (es.map (·.val)) (ds.map (·.2))
  | _, _, _, _, p, kv, .nil => by
    cases kv
    cases p
    exact ⟨.nil, .nil⟩
  | _, _, _, _, p, kv, .cons a q => by
    cases kv with
    | cons z kv =>
      cases p with
      | cons hk hv p =>
        obtain ⟨i1, i2⟩ := DgKv.rows I p kv q
        obtain ⟨z1, z2⟩ := z
        refine ⟨.cons ?_ i1, .cons ?_ i2⟩
        · simp only at z1
          rw [z1]
          exact key_one hk
        · show One _ _ _ (DictEntry.val _) _
          rw [hv]
          exact Dg.one I a z2
theorem DgKt.rows (I : Inv X pins σ H s) : ∀ {ds : List (PyData × PyData)} {kvs : List (List Key × V)} {xs : List (List Key × Addr × Value)}, DgKt X.K H kvs ds → Paired (fun (p : List Key × V) (q : List Key × Addr × Value) => p.1 = q.1 ∧ H q.2.1 = some (.tup (p.1.map kV)) ∧ RelV p.2 q.2.2) kvs xs →
    Row X.prog X.w s.heap (xs.map ((·.key) ∘ entryOfKey (tupleKind (mixKind X.prog X.w)))) (ds.map (·.1)) ∧ Row X.prog X.w s.heap (xs.map ((·.val) ∘ entryOfKey (tupleKind (mixKind X.prog X.w)))) (ds.map (·.2))
  | _, _, _, .nil, p => by
    cases p
    exact ⟨.nil, .nil⟩
  | _, _, _, .cons (k := k) a q, p => by
    cases p with
    | cons z p =>
      obtain ⟨i1, i2⟩ := DgKt.rows I q p
      obtain ⟨z1, z2, z3⟩ := z
      refine ⟨.cons ?_ i1, .cons (Dg.one I a z3) i2⟩
      have hk : ∀ {c : Addr}, H c = some (.tup (k.map kV)) → One X.prog X.w s.heap (.ref c) (.tuple (k.map kD)) := fun {c} e => by
        obtain ⟨its, rv, ⟨o, ho, hc, n, hd⟩, _⟩ := I.tuple (.inl (.inl e))
        exact .tup ho hc hd (key_row k its rv)
      exact hk z2
end
def rShowG (K : PySem.W.Frag) : List V → Hp → VK → Prop := fun xs H Q => ∃ (v : V) (d : PyData), xs = [v] ∧ Dg K H v d ∧
  d.showable = true ∧ d.depth ≤ 30 ∧ d.shown.length ≤ sizeLine ∧ Q (.str d.shown) H
/-- repr of data, dicts let -/
theorem call_showG (hG : X.A.guards = some []) {k : Nat} (hr : Room k X.A) : CallR X (.builtin "repr") (rShowG X.K) := by
  intro pins s σ H xs us Q I r h
  obtain ⟨v, d, rfl, hd, hs, h30, hz, q⟩ := h
  obtain ⟨u, rfl, r1⟩ := vals1 r
  have on := hd.one I r1
  have hu := hr.units
  have obj : ∀ a, u = .ref a → wpAny (model X.prog X.w) X.A (call (.builtin "repr") [u]) (EP X pins σ Q) X.xe s := fun a e => by
    subst e
    obtain ⟨T, idr, S⟩ := on.top hs hz a rfl
    refine call_repr_slot (by omega) (S.typeIs s fun _ _ z => z) S.slotRepr (S.call X.A.in1 _ s _ hG ?_ (fun _ _ z => z) fun h' u tk hk => ⟨_, _, rfl, ⟨.str _, H, I.kept hk, ⟨u, rfl⟩, q⟩⟩)
    show X.A.units + 1 + _ < cLine
    omega
  cases hd with
  | non =>
    cases r1
    unfold PyData.shown at q
    exact PySem.P.repr_of_none ⟨.str _, H, I.tok _, ⟨_, rfl⟩, q⟩
  | bl b =>
    cases r1
    unfold PyData.shown at q
    exact PySem.P.repr_of_bool ⟨.str _, H, I.tok _, ⟨_, rfl⟩, q⟩
  | int i =>
    obtain ⟨t, rfl⟩ := r1
    unfold PyData.shown at q
    unfold PyData.showable at hs
    exact PySem.P.repr_of_int (of_decide_eq_true hs) ⟨.str _, H, I.tok _, ⟨_, rfl⟩, q⟩
  | str x =>
    obtain ⟨t, rfl⟩ := r1
    unfold PyData.shown at q hz
    exact PySem.P.repr_of_str ⟨.str _, H, I.tok _, ⟨_, rfl⟩, q⟩ hz
  | lst _ _ => exact obj _ r1
  | tup _ _ => exact obj _ r1
  | dk _ _ => exact obj _ r1
  | dt _ _ => exact obj _ r1
/-- the same, the module's part given -/
theorem call_showK {K : PySem.W.Frag} (hG : X.A.guards = some []) {k : Nat} (hr : Room k X.A) (hK : X.K = K := by rfl) : CallR X (.builtin "repr") (rShowG K) := by
  subst hK
  exact call_showG hG hr
end
/-- what repr asks of a thing, dicts let -/
structure ShowG (d : PyData) : Prop where
  sh : d.showable = true
  dp : d.depth ≤ 30
  ln : d.shown.length ≤ sizeLine
theorem Ft.g {w k : Nat} {d : PyData} (h : Ft w k d) (hk : k ≤ 30 := by decide) (hw : w ≤ 16000 := by decide) : ShowG d := by
  have := h.showy hk hw
  exact ⟨this.sh, this.dp, this.ln⟩
/-- data that fits, dicts let -/
structure Fg (w k : Nat) (d : PyData) : Prop where
  sh : d.showable = true
  dp : d.depth ≤ k
  lv : d.leavesShort 1000 = true
  wt : d.weight ≤ w
structure FgA (w k : Nat) (ds : List PyData) : Prop where
  sh : PyData.showableAll ds = true
  dp : PyData.depthAll ds ≤ k
  lv : PyData.leavesShortAll 1000 ds = true
  wt : PyData.weightAll ds ≤ w
structure FgK (w k : Nat) (ds : List (PyData × PyData)) : Prop where
  sh : PyData.showableKv ds = true
  dp : PyData.depthKv ds ≤ k
  lv : PyData.leavesShortKv 1000 ds = true
  wt : PyData.weightKv ds ≤ w
theorem Ft.fg {w k : Nat} {d : PyData} (h : Ft w k d) : Fg w k d := ⟨h.sh, h.dp, h.lv, h.wt⟩
theorem FtA.fg {w k : Nat} {ds : List PyData} (h : FtA w k ds) : FgA w k ds := ⟨h.sh, h.dp, h.lv, h.wt⟩
theorem Fg.le {w k w' k' : Nat} {d : PyData} (h : Fg w k d) (hw : w ≤ w') (hk : k ≤ k') : Fg w' k' d := ⟨h.sh, Nat.le_trans h.dp hk, h.lv, Nat.le_trans h.wt hw⟩
theorem FgA.le {w k w' k' : Nat} {ds : List PyData} (h : FgA w k ds) (hw : w ≤ w') (hk : k ≤ k') : FgA w' k' ds := ⟨h.sh, Nat.le_trans h.dp hk, h.lv, Nat.le_trans h.wt hw⟩
theorem FgA.nil : FgA 0 0 [] := FtA.nil.fg
theorem FgA.cons {w k w' k' : Nat} {d : PyData} {ds : List PyData} (h : Fg w k d) (r : FgA w' k' ds) : FgA (w + 1 + w') (max k k') (d :: ds) := by
  refine ⟨?_, ?_, ?_, ?_⟩
  · simp only [PyData.showableAll, h.sh, r.sh, Bool.and_self]
  · simp only [PyData.depthAll]
    have := h.dp
    have := r.dp
    omega
  · simp only [PyData.leavesShortAll, h.lv, r.lv, Bool.and_self]
  · simp only [PyData.weightAll]
    have := h.wt
    have := r.wt
    omega
theorem FgA.all {w k : Nat} : ∀ {ds : List PyData}, (∀ d ∈ ds, Fg w k d) → FgA ((w + 1) * ds.length) k ds
  | [], _ => FgA.nil.le (Nat.zero_le _) (Nat.zero_le _)
  | d :: ds, h => by
    have r := FgA.cons (h d List.mem_cons_self) (FgA.all fun x hx => h x (List.mem_cons_of_mem _ hx))
    refine r.le ?_ (by omega)
    rw [List.length_cons, Nat.mul_succ]
    omega
theorem Fg.list {w k : Nat} {ds : List PyData} (r : FgA w k ds) : Fg w (k + 1) (.list ds) :=
  ⟨by simp only [PyData.showable]; exact r.sh, by simp only [PyData.depth]; exact Nat.succ_le_succ r.dp, by simp only [PyData.leavesShort]; exact r.lv, by simp only [PyData.weight]; exact r.wt⟩
theorem Fg.tuple {w k : Nat} {ds : List PyData} (r : FgA w k ds) : Fg w (k + 1) (.tuple ds) :=
  ⟨by simp only [PyData.showable]; exact r.sh, by simp only [PyData.depth]; exact Nat.succ_le_succ r.dp, by simp only [PyData.leavesShort]; exact r.lv, by simp only [PyData.weight]; exact r.wt⟩
theorem FgK.nil : FgK 0 0 [] := ⟨by simp only [PyData.showableKv], by simp only [PyData.depthKv, Nat.le_refl], by simp only [PyData.leavesShortKv], by simp only [PyData.weightKv, Nat.le_refl]⟩
theorem FgK.cons {w k w1 k1 w' k' : Nat} {d e : PyData} {ds : List (PyData × PyData)} (h : Fg w k d) (h1 : Fg w1 k1 e) (r : FgK w' k' ds) : FgK (w + w1 + 2 + w') (max (max k k1) k') ((d, e) :: ds) := by
  refine ⟨?_, ?_, ?_, ?_⟩
  · simp only [PyData.showableKv, h.sh, h1.sh, r.sh, Bool.and_self]
  · simp only [PyData.depthKv]
    have := h.dp
    have := h1.dp
    have := r.dp
    omega
  · simp only [PyData.leavesShortKv, h.lv, h1.lv, r.lv, Bool.and_self]
  · simp only [PyData.weightKv]
    have := h.wt
    have := h1.wt
    have := r.wt
    omega
theorem Fg.dict {w k : Nat} {ds : List (PyData × PyData)} (r : FgK w k ds) : Fg w (k + 1) (.dict ds) :=
  ⟨by simp only [PyData.showable]; exact r.sh, by simp only [PyData.depth]; exact Nat.succ_le_succ r.dp, by simp only [PyData.leavesShort]; exact r.lv, by simp only [PyData.weight]; exact r.wt⟩
theorem Fg.g {w k : Nat} {d : PyData} (h : Fg w k d) (hk : k ≤ 30 := by decide) (hw : w ≤ 16000 := by decide) : ShowG d := by
  refine ⟨h.sh, Nat.le_trans h.dp hk, ?_⟩
  have e := PyData.shown_le 1000 (by decide) d h.lv
  have e2 := h.wt
  have e3 : (1000 + 2) * d.weight ≤ 1002 * 16000 := Nat.mul_le_mul (Nat.le_refl _) (Nat.le_trans e2 hw)
  have e4 := sizeLine_eq
  omega
end Lf

set_option Elab.async false
set_option linter.all false
set_option maxRecDepth 100000
set_option maxHeartbeats 4000000
set_option exponentiation.threshold 3000
namespace Lf
open PySem PySem.Spec PyProof.Rows L2
theorem bt_isinstance : bootBuiltins "isinstance" = some (.builtin "isinstance") := by decide +kernel
theorem bt_bool : bootBuiltins "bool" = some (.type "bool") := by decide +kernel
theorem bt_tuple : bootBuiltins "tuple" = some (.type "tuple") := by decide +kernel
structure Bltx (mg : Str → Option Value) : Prop where
  isinstance : mg "isinstance" = none
  bool : mg "bool" = none
  tuple : mg "tuple" = none
theorem len_show {n : Nat} (h : n ≤ 1000) : n ≤ sizeLine := by
  rw [sizeLine_eq]
  omega
theorem u65 {k : Nat} {A : Around} (r : Room k A) : A.units + 65 < cLine := by
  have := r.un
  omega
theorem iteN {c A B : Prop} [Decidable c] (hc : ¬ c) (h : A) : if (!decide c) = true then A else B := by
  rw [decide_eq_false hc]
  exact iteT h
def isI : PyData → Bool
  | .int _ => true
  | .bool _ => true
  | _ => false
def isB : PyData → Bool
  | .bool _ => true
  | _ => false
def isT : PyData → Bool
  | .tuple _ => true
  | _ => false
def isS : PyData → Bool
  | .str _ => true
  | _ => false
def isW : PyData → Bool
  | .int _ => true
  | _ => false
theorem ki_none : kitB "NoneType" "int" = some false := by decide +kernel
theorem ki_bool : kitB "bool" "int" = some true := by decide +kernel
theorem ki_int : kitB "int" "int" = some true := by decide +kernel
theorem ki_str : kitB "str" "int" = some false := by decide +kernel
theorem ki_list : kitB "list" "int" = some false := by decide +kernel
theorem ki_tuple : kitB "tuple" "int" = some false := by decide +kernel
theorem ki_dict : kitB "dict" "int" = some false := by decide +kernel
theorem ki (d : PyData) : kitB (tyN d) "int" = some (isI d) :=
  match d with
  | .none => ki_none
  | .bool _ => ki_bool
  | .int _ => ki_int
  | .str _ => ki_str
  | .list _ => ki_list
  | .tuple _ => ki_tuple
  | .dict _ => ki_dict
theorem kb_none : kitB "NoneType" "bool" = some false := by decide +kernel
theorem kb_bool : kitB "bool" "bool" = some true := by decide +kernel
theorem kb_int : kitB "int" "bool" = some false := by decide +kernel
theorem kb_str : kitB "str" "bool" = some false := by decide +kernel
theorem kb_list : kitB "list" "bool" = some false := by decide +kernel
theorem kb_tuple : kitB "tuple" "bool" = some false := by decide +kernel
theorem kb_dict : kitB "dict" "bool" = some false := by decide +kernel
theorem kb (d : PyData) : kitB (tyN d) "bool" = some (isB d) :=
  match d with
  | .none => kb_none
  | .bool _ => kb_bool
  | .int _ => kb_int
  | .str _ => kb_str
  | .list _ => kb_list
  | .tuple _ => kb_tuple
  | .dict _ => kb_dict
theorem kt_none : kitB "NoneType" "tuple" = some false := by decide +kernel
theorem kt_bool : kitB "bool" "tuple" = some false := by decide +kernel
theorem kt_int : kitB "int" "tuple" = some false := by decide +kernel
theorem kt_str : kitB "str" "tuple" = some false := by decide +kernel
theorem kt_list : kitB "list" "tuple" = some false := by decide +kernel
theorem kt_tuple : kitB "tuple" "tuple" = some true := by decide +kernel
theorem kt_dict : kitB "dict" "tuple" = some false := by decide +kernel
theorem kt (d : PyData) : kitB (tyN d) "tuple" = some (isT d) :=
  match d with
  | .none => kt_none
  | .bool _ => kt_bool
  | .int _ => kt_int
  | .str _ => kt_str
  | .list _ => kt_list
  | .tuple _ => kt_tuple
  | .dict _ => kt_dict
theorem ks_none : kitB "NoneType" "str" = some false := by decide +kernel
theorem ks_bool : kitB "bool" "str" = some false := by decide +kernel
theorem ks_int : kitB "int" "str" = some false := by decide +kernel
theorem ks_str : kitB "str" "str" = some true := by decide +kernel
theorem ks_list : kitB "list" "str" = some false := by decide +kernel
theorem ks_tuple : kitB "tuple" "str" = some false := by decide +kernel
theorem ks_dict : kitB "dict" "str" = some false := by decide +kernel
theorem ks (d : PyData) : kitB (tyN d) "str" = some (isS d) :=
  match d with
  | .none => ks_none
  | .bool _ => ks_bool
  | .int _ => ks_int
  | .str _ => ks_str
  | .list _ => ks_list
  | .tuple _ => ks_tuple
  | .dict _ => ks_dict
def fr2 : PyData → PyData → Bool
  | .int a, .int b => decide (0 < b) && decide (Nat.gcd a.natAbs b.natAbs = 1)
  | _, _ => false
def frL : List PyData → Bool
  | [x, y] => fr2 x y
  | _ => false
def isFr : PyData → Bool
  | .tuple ds => frL ds
  | _ => false
def lets : Str := Str.ofString "abcdefghijklmnopqrstuvwxyz"
def inL (c : Nat) : Bool := decide (c ∈ lets.cps.toList)
def isNm : PyData → Bool
  | .str z => decide (1 ≤ z.length) && decide (z.length ≤ 10) && z.cps.toList.all inL
  | _ => false
section
variable {P : Program} {w : World} {K : PySem.W.Frag} {mg : Str → Option Value} {base : Heap}
theorem Dg.ty {H : Hp} {v : V} {d : PyData} (h : Dg K H v d) : TyX K H v (.type (tyN d)) := by
  cases h with
  | non => exact .base .non
  | bl b => exact .base (.bl b)
  | int i => exact .base (.int i)
  | str x => exact .base (.str x)
  | lst h _ =>
    rcases h with (h | ⟨o, h⟩) | ⟨o, arr, n, hk, hc, _⟩
    · exact .base (.lst h)
    · exact .base (.frz h)
    · exact .kList hk hc
  | tup h _ =>
    rcases h with (h | ⟨o, h⟩) | ⟨o, arr, n, hk, hc, _⟩
    · exact .base (.tup h)
    · exact .fTuple h
    · exact .kTuple hk hc
  | dk h _ => exact .base (.dK h)
  | dt h _ => exact .base (.dT h)
theorem Dg.tupI {H : Hp} {v : V} {d : PyData} (h : Dg K H v d) (e : isT d = true) : ∃ (a : Addr) (xs : List V) (ds : List PyData), v = .ref a ∧ d = .tuple ds ∧ SqT K H a xs ∧ DgAll K H xs ds ∧ True := by
  cases h with
  | tup h1 h2 => exact ⟨_, _, _, rfl, rfl, h1, h2, trivial⟩
  | non => cases e
  | bl _ => cases e
  | int _ => cases e
  | str _ => cases e
  | lst _ _ => cases e
  | dk _ _ => cases e
  | dt _ _ => cases e
theorem Dg.txt {H : Hp} {v : V} {d : PyData} (h : Dg K H v d) (e : isS d = true) : ∃ z, v = .str z ∧ d = .str z := by
  cases h with
  | str z => exact ⟨z, rfl, rfl⟩
  | non => cases e
  | bl _ => cases e
  | int _ => cases e
  | tup _ _ => cases e
  | lst _ _ => cases e
  | dk _ _ => cases e
  | dt _ _ => cases e
theorem Dg.whole {H : Hp} {v : V} {d : PyData} (h : Dg K H v d) (e : isW d = true) : ∃ i, v = .int i ∧ d = .int i := by
  cases h with
  | int i => exact ⟨i, rfl, rfl⟩
  | non => cases e
  | bl _ => cases e
  | str _ => cases e
  | tup _ _ => cases e
  | lst _ _ => cases e
  | dk _ _ => cases e
  | dt _ _ => cases e
def sp_whole (K : PySem.W.Frag) : Sp := fun vs H Q _ => ∃ (v : V) (d : PyData), vs = [v] ∧ Dg K H v d ∧ Q (.bl (isW d)) H
/-! ### is_whole -/
theorem sc_is_whole : FnScope ["thing"] ["thing"] (defScope s_is_whole) := ⟨rfl, rfl, rfl, by decide +kernel, rfl, by decide +kernel, by decide +kernel⟩
theorem ok_whole {f : Addr} {fd : FuncData} (M : Blt mg) (Mx : Bltx mg) (F : Fun K "is_whole" "is_whole" s_is_whole f fd) : FnG P w K mg base CX0 1 f fd ["thing"] (sp_whole K) := by
  refine Gfun F sc_is_whole (fun vs H Q E h => ?_) (fun cdv A outer s H vs Q E hg hr h => ?_)
  · obtain ⟨v, d, rfl, _⟩ := h
    rfl
  · obtain ⟨v, d, rfl, hq, k⟩ := h
    refine ⟨_, (pss_one (ps_ret (pe_and (pe_callB call_isi rfl Mx.isinstance bt_isinstance (pa_cons (pv 0) (pa_cons (pe_bltn (v := .ty "int") rfl M.int bt_int rfl) pa_nil))) (pe_one (pe_not (pe_callB call_isi rfl Mx.isinstance bt_isinstance (pa_cons (pv 0) (pa_cons (pe_bltn (v := .ty "bool") rfl Mx.bool bt_bool rfl) pa_nil)))))))), ?_⟩
    refine ⟨_, rfl, _, _, _, _, _, rfl, .ty "int", hq.ty, kit_ty (ki d), _, rfl, ite2 (fun e => ?_) (fun e => ?_)⟩
    · refine ⟨_, rfl, _, _, _, _, _, rfl, .ty "bool", hq.ty, kit_ty (kb d), _, rfl, ?_⟩
      have : isW d = !isB d := by cases d <;> first | rfl | (cases e)
      rw [← this]
      exact k
    · have : isW d = false := by cases d <;> first | rfl | (exact absurd rfl e)
      rw [this] at k
      exact k

/-! ### _law_is_whole -/
theorem sc__law_is_whole : FnScope ["_law_thing"] ["_law_thing"] (defScope s__law_is_whole) := ⟨rfl, rfl, rfl, by decide +kernel, rfl, by decide +kernel, by decide +kernel⟩
theorem ok_lwhole {f : Addr} {fd : FuncData} (M : Blt mg) (Mx : Bltx mg) (F : Fun K "_law_is_whole" "_law_is_whole" s__law_is_whole f fd) : FnG P w K mg base CX0 1 f fd ["_law_thing"] (sp_whole K) := by
  refine Gfun F sc__law_is_whole (fun vs H Q E h => ?_) (fun cdv A outer s H vs Q E hg hr h => ?_)
  · obtain ⟨v, d, rfl, _⟩ := h
    rfl
  · obtain ⟨v, d, rfl, hq, k⟩ := h
    refine ⟨_, (pss_one (ps_ret (pe_and (pe_callB call_isi rfl Mx.isinstance bt_isinstance (pa_cons (pv 0) (pa_cons (pe_bltn (v := .ty "int") rfl M.int bt_int rfl) pa_nil))) (pe_one (pe_not (pe_callB call_isi rfl Mx.isinstance bt_isinstance (pa_cons (pv 0) (pa_cons (pe_bltn (v := .ty "bool") rfl Mx.bool bt_bool rfl) pa_nil)))))))), ?_⟩
    refine ⟨_, rfl, _, _, _, _, _, rfl, .ty "int", hq.ty, kit_ty (ki d), _, rfl, ite2 (fun e => ?_) (fun e => ?_)⟩
    · refine ⟨_, rfl, _, _, _, _, _, rfl, .ty "bool", hq.ty, kit_ty (kb d), _, rfl, ?_⟩
      have : isW d = !isB d := by cases d <;> first | rfl | (cases e)
      rw [← this]
      exact k
    · have : isW d = false := by cases d <;> first | rfl | (exact absurd rfl e)
      rw [this] at k
      exact k

/-! ### is_fraction -/
theorem sc_is_fraction : FnScope ["thing", "top", "bottom"] ["thing"] (defScope s_is_fraction) := ⟨rfl, rfl, rfl, by decide +kernel, rfl, by decide +kernel, by decide +kernel⟩
def sp_isfr (K : PySem.W.Frag) : Sp := fun vs H Q _ => ∃ (v : V) (d : PyData), vs = [v] ∧ Dg K H v d ∧ Q (.bl (isFr d)) H
theorem isFr_len {ds : List PyData} (h : ds.length ≠ 2) : isFr (.tuple ds) = false := by
  match ds, h with
  | [], _ => rfl
  | [_], _ => rfl
  | [_, _], h => exact absurd rfl h
  | _ :: _ :: _ :: _, _ => rfl
theorem isFr_no {d e : PyData} (h : isW d = false ∨ isW e = false) : isFr (.tuple [d, e]) = false := by
  cases d <;> cases e <;> first | rfl | (rcases h with h | h <;> cases h)
theorem isFr_two {a b : Int} : isFr (.tuple [.int a, .int b]) = (decide (0 < b) && decide (Nat.gcd a.natAbs b.natAbs = 1)) := rfl
theorem DgAll.len {H : Hp} : ∀ {vs : List V} {ds : List PyData}, DgAll K H vs ds → vs.length = ds.length
  | _, _, .nil => rfl
  | _, _, .cons _ r => congrArg Nat.succ (DgAll.len r)
theorem two_of {H : Hp} {xs : List V} {ds : List PyData} (h : DgAll K H xs ds) (hl : xs.length = 2) : ∃ x y d1 d2, xs = [x, y] ∧ ds = [d1, d2] ∧ Dg K H x d1 ∧ Dg K H y d2 := by
  match xs, ds, h, hl with
  | _, _, .cons h1 (.cons h2 .nil), _ => exact ⟨_, _, _, _, rfl, rfl, h1, h2⟩
  | _, _, .nil, e => cases e
  | _, _, .cons _ .nil, e => cases e
  | _, _, .cons _ (.cons _ (.cons _ _)), e => simp at e
theorem ok_isfr {f : Addr} {fd : FuncData} (M : Blt mg) (Mx : Bltx mg) (F : Fun K "is_fraction" "is_fraction" s_is_fraction f fd) (C_is_whole : Cal P w K mg base CX0 1 "is_whole" ["thing"] (sp_whole K)) (C_common : Cal P w K mg base CX0 1 "common" ["one", "other"] spCom) :
    FnG P w K mg base CX0 2 f fd ["thing"] (sp_isfr K) := by
  refine Gfun F sc_is_fraction (fun vs H Q E h => ?_) (fun cdv A outer s H vs Q E hg hr h => ?_)
  · obtain ⟨v, d, rfl, _⟩ := h
    rfl
  · obtain ⟨v, d, rfl, hq, k⟩ := h
    refine ⟨_, (pss_cons (ps_if (PW.pt (pw_or (pt_not (pt_val (pe_callB call_isi rfl Mx.isinstance bt_isinstance (pa_cons (pv 0) (pa_cons (pe_bltn (v := .ty "tuple") rfl Mx.tuple bt_tuple rfl) pa_nil))))) (pw_or1 (pt_cmpR op_ne (pe_callB call_len_seq rfl M.len bt_len (pa_cons (pv 0) pa_nil)) pe_int (nomark _)))))
      (pss_one (ps_ret pe_bl))
      pss_nil)
      (pss_cons (ps_asg (pv 0) (pg_tup rfl (pgs_cons (pg_name (i := 1) sc_is_fraction.nd rfl (.inl rfl)) (pgs_cons (pg_name (i := 2) sc_is_fraction.nd rfl (.inl rfl)) pgs_nil))))
      (pss_cons (ps_if (PW.pt (pw_or (pt_not (pt_val (pe_g C_is_whole (hr.mono (by decide)) hg (pa_cons (pv 1) pa_nil)))) (pw_or1 (pt_not (pt_val (pe_g C_is_whole (hr.mono (by decide)) hg (pa_cons (pv 2) pa_nil)))))))
      (pss_one (ps_ret pe_bl))
      pss_nil)
      (pss_one (ps_ret (pe_and (pe_cmpR op_gt (pv 2) pe_int (nomark _)) (pe_one (pe_cmpR op_eq (pe_g C_common (hr.mono (by decide)) hg (pa_cons (pe_callB call_abs rfl M.abs bt_abs (pa_cons (pv 1) pa_nil)) (pa_cons (pv 2) pa_nil))) pe_int (nomark _))))))))), ?_⟩
    refine ⟨_, rfl, _, _, _, _, _, rfl, .ty "tuple", hq.ty, kit_ty (kt d), _, rfl, ?_⟩
    by_cases ht : isT d = true
    · rw [ht]
      refine iteF ?_
      obtain ⟨a, xs, ds, rfl, rfl, hS, hA, hn⟩ := hq.tupI ht
      refine ⟨_, rfl, a, xs, rfl, .inr hS, rfl, _, rfl, ?_⟩
      by_cases hl : xs.length = 2
      · refine iteNS (show V.int (xs.length : Int) = V.int 2 by rw [hl]; rfl) ?_
        obtain ⟨x, y, d1, d2, rfl, rfl, h1, h2⟩ := two_of hA hl
        refine ⟨_, rfl, a, _, rfl, hS, rfl, _, _, rfl, _, _, rfl, rfl, ?_⟩
        have q1 : Dg K H x d1 := h1
        have q2 : Dg K H y d2 := h2
        refine ⟨_, rfl, x, d1, rfl, q1, _, rfl, ?_⟩
        by_cases w1 : isW d1 = true
        · rw [w1]
          refine iteF ?_
          refine ⟨_, rfl, y, d2, rfl, q2, _, rfl, ?_⟩
          by_cases w2 : isW d2 = true
          · rw [w2]
            refine iteF ?_
            obtain ⟨p, rfl, rfl⟩ := q1.whole w1
            obtain ⟨b, rfl, rfl⟩ := q2.whole w2
            rw [isFr_two] at k
            refine ⟨_, rfl, _, _, rfl, rfl, _, rfl, ite2 (fun e => ?_) (fun e => ?_)⟩
            · have hb : 0 < b := of_decide_eq_true e
              refine ⟨_, rfl, _, rfl, _, rfl, _, b, rfl, ?_, Int.le_of_lt hb, rfl, ?_⟩
              · rw [abs_is]
                omega
              · rw [abs_is, Int.natAbs_natCast]
                rw [decide_eq_true hb, Bool.true_and] at k
                have e2 : decide (V.int ((Nat.gcd p.natAbs b.natAbs : Nat) : Int) = V.int 1) = decide (Nat.gcd p.natAbs b.natAbs = 1) := by
                  by_cases z : Nat.gcd p.natAbs b.natAbs = 1
                  · rw [decide_eq_true z, z]
                    rfl
                  · rw [decide_eq_false z]
                    exact decide_eq_false fun q => z (by have := V.int.inj q; omega)
                rw [e2]
                exact k
            · rw [show decide (0 < b) = false from Bool.eq_false_iff.mpr e, Bool.false_and] at k
              exact k
          · have w2' : isW d2 = false := by cases h : isW d2 <;> first | rfl | exact absurd h w2
            rw [w2']
            refine iteT ?_
            rw [isFr_no (.inr w2')] at k
            exact k
        · have w1' : isW d1 = false := by cases h : isW d1 <;> first | rfl | exact absurd h w1
          rw [w1']
          refine iteT ?_
          rw [isFr_no (.inl w1')] at k
          exact k
      · refine iteN (fun z => hl (by have := V.int.inj z; omega)) ?_
        have hl2 : ds.length ≠ 2 := by rw [← DgAll.len hA]; exact hl
        rw [isFr_len hl2] at k
        exact k
    · have ht' : isT d = false := by cases h : isT d <;> first | rfl | exact absurd h ht
      rw [ht']
      refine iteT ?_
      have : isFr d = false := by
        cases d <;> first | rfl | exact absurd rfl ht
      rw [this] at k
      exact k

/-! ### is_name -/
theorem sc_is_name : FnScope ["thing", "sign"] ["thing"] (defScope s_is_name) := ⟨rfl, rfl, rfl, by decide +kernel, rfl, by decide +kernel, by decide +kernel⟩
def sp_isnm (K : PySem.W.Frag) : Sp := fun vs H Q _ => ∃ (v : V) (d : PyData), vs = [v] ∧ Dg K H v d ∧ (∀ z, d = .str z → z.length ≤ 1000) ∧ ∀ H', Same H H' → Q (.bl (isNm d)) H'
theorem isNm_no {d : PyData} (h : isS d = false) : isNm d = false := by cases d <;> first | rfl | cases h
theorem ok_isnm {f : Addr} {fd : FuncData} {tl tn : Tok} (M : Blt mg) (Mx : Bltx mg) (G_LETTERS : mg "LETTERS" = some (.str lets tl)) (G_LONGEST_NAME : mg "LONGEST_NAME" = some (.int 10 tn)) (F : Fun K "is_name" "is_name" s_is_name f fd) :
    FnG P w K mg base CX0 2 f fd ["thing"] (sp_isnm K) := by
  refine Gfun F sc_is_name (fun vs H Q E h => ?_) (fun cdv A outer s H vs Q E hg hr h => ?_)
  · obtain ⟨v, d, rfl, _⟩ := h
    rfl
  · obtain ⟨v, d, rfl, hq, hz, k⟩ := h
    refine ⟨_, (pss_cons (ps_if (PW.pt (pw_or (pt_not (pt_val (pe_callB call_isi rfl Mx.isinstance bt_isinstance (pa_cons (pv 0) (pa_cons (pe_bltn (v := .ty "str") rfl M.str bt_str rfl) pa_nil))))) (pw_or1 (pt_not (pt_chain op_le op_le pe_int (pe_callB call_len_str rfl M.len bt_len (pa_cons (pv 0) pa_nil)) (pe_glob (v := .int 10) rfl G_LONGEST_NAME ⟨_, rfl⟩))))))
      (pss_one (ps_ret pe_bl))
      pss_nil)
      (pss_one (ps_ret (pe_callB (cr_all rfl) rfl M.all bt_all (pa_cons (pe_lc (own := [("sign", 1)]) (g := gName 1) (tt := tYes) rfl sc_is_name.nd (pi_str (pv 0)) (blkOk_by (N := ["thing", "sign"]) (sc := defScope s_is_name) (by decide +kernel)) (fun _ _ _ _ _ => pg_name (i := 1) sc_is_name.nd rfl (Or.inl rfl)) (fun _ _ _ _ _ => pts_nil) (fun _ _ _ _ _ => (pe_cmpR op_inS (pv 1) (pe_glob (v := .str lets) rfl G_LETTERS ⟨_, rfl⟩) rfl))) pa_nil))))), ?_⟩
    refine ⟨_, rfl, _, _, _, _, _, rfl, .ty "str", hq.ty, kit_ty (ks d), _, rfl, ?_⟩
    by_cases ht : isS d = true
    · rw [ht]
      refine iteF ?_
      obtain ⟨z, rfl, rfl⟩ := hq.txt ht
      have hzl := hz z rfl
      have hnm : isNm (.str z) = (decide (1 ≤ z.length) && decide (z.length ≤ 10) && z.cps.toList.all inL) := rfl
      have fin : ∀ b : Bool, isNm (.str z) = b → ∀ H', Same H H' → Q (.bl b) H' := fun b e H' s => e ▸ k H' s
      refine ⟨_, rfl, z, rfl, len_show hzl, _, _, rfl, rfl, _, rfl, ?_⟩
      by_cases h1 : (1 : Int) ≤ (z.length : Int)
      · rw [decide_eq_true h1]
        refine iteT ⟨_, _, rfl, rfl, _, rfl, ?_⟩
        by_cases h2 : (z.length : Int) ≤ 10
        · rw [decide_eq_true h2]
          refine iteF ?_
          refine ⟨_, rfl, z, rfl, fun D hD => lc_it walk_str (fun i H' => H' D = some (.lst ((z.cps.toList.take i).map fun c => .bl (inL c))) ∧ Same H H') ⟨upd_same, same_new hD⟩ (fun _ _ _ _ => trivial) ?_ ?_⟩
          · rintro i x H1 H2 hi ⟨eD, sm⟩ ⟨rfl, c, hc, rfl⟩
            have hsz : z.cps.size ≤ 1000 := hzl
            refine ⟨rfl, _, rfl, c, lets, rfl, rfl, _, eD, ?_, ?_, fun b o e => ?_⟩
            · rw [List.length_map, List.length_take, sizeLine_eq]
              omega
            · rw [upd_same, List.take_add_one, Array.getElem?_toList, hc, List.map_append]
              rfl
            · rw [upd_ne (ne_of_none e hD)]
              exact sm _ _ e
          · rintro H1 ⟨eD, sm⟩
            rw [show z.cps.size = z.cps.toList.length from Array.length_toList.symm, List.take_length] at eD
            refine ⟨D, z.cps.toList.map inL, rfl, .inl (.inl ?_), ?_⟩
            · rw [eD, List.map_map]
              rfl
            · refine fin _ ?_ H1 sm
              rw [hnm, decide_eq_true (show 1 ≤ z.length by omega), decide_eq_true (show z.length ≤ 10 by omega), List.all_map]
              rfl
        · rw [decide_eq_false h2]
          refine iteT (fin false ?_ H same_rfl)
          rw [hnm, show decide (z.length ≤ 10) = false from decide_eq_false (by omega), Bool.and_false, Bool.false_and]
      · rw [decide_eq_false h1]
        refine iteF ⟨_, rfl, iteT (fin false ?_ H same_rfl)⟩
        rw [hnm, show decide (1 ≤ z.length) = false from decide_eq_false (by omega), Bool.false_and, Bool.false_and]
    · have ht' : isS d = false := by cases h : isS d <;> first | rfl | exact absurd h ht
      rw [ht']
      refine iteT ?_
      have := k H same_rfl
      rw [isNm_no ht'] at this
      exact this

end
end Lf

set_option Elab.async false
set_option linter.all false
set_option maxRecDepth 100000
set_option maxHeartbeats 4000000
set_option exponentiation.threshold 3000
namespace Lf
open PySem PySem.Spec PyProof.Rows L2
theorem sm_l {K : PySem.W.Frag} {H H' : Hp} {a : Addr} {xs : List V} (s : Same H H') (h : SqL K H a xs) : SqL K H' a xs := s.seq h
theorem small30 {n : Int} (h : 0 ≤ n) (h2 : n < 2147483648) : Sm n := Nat.lt_of_lt_of_le (show n.natAbs < 2 ^ 31 by omega) (Nat.pow_le_pow_right (by decide) (by decide))
section
variable {P : Program} {w : World} {K : PySem.W.Frag} {mg : Str → Option Value} {base : Heap}

/-! ### _law_cell -/
theorem sc__law_cell : FnScope ["_law_script", "_law_k"] ["_law_script", "_law_k"] (defScope s__law_cell) := ⟨rfl, rfl, rfl, by decide +kernel, rfl, by decide +kernel, by decide +kernel⟩
def sp_cell (K : PySem.W.Frag) : Sp := fun vs H Q _ => ∃ (a : Addr) (ns : List Int) (k : Nat), vs = [.ref a, .int k] ∧ SqL K H a (ns.map V.int) ∧ k < 2 ^ 62 ∧ ∀ n : Int, Q (.int n) H
theorem ok_cell {f : Addr} {fd : FuncData} (M : Blt mg) (F : Fun K "_law_cell" "_law_cell" s__law_cell f fd) : FnG P w K mg base CX0 1 f fd ["_law_script", "_law_k"] (sp_cell K) := by
  refine Gfun F sc__law_cell (fun vs H Q E h => ?_) (fun cdv A outer s H vs Q E hg hr h => ?_)
  · obtain ⟨a, ns, k, rfl, _⟩ := h
    rfl
  · obtain ⟨a, ns, k, rfl, hS, hk, q⟩ := h
    refine ⟨_, (pss_one (ps_ret (pe_ifExp (pt_cmpR op_lt (pv 1) (pe_callB call_len_seq rfl M.len bt_len (pa_cons (pv 0) pa_nil)) (nomark _)) (pe_ix ix_list (pv 0) (pv 1) (fun _ _ => rfl)) pe_int))), ?_⟩
    refine ⟨_, rfl, _, rfl, a, _, rfl, .inl hS, _, _, rfl, rfl, _, rfl, ite2 (fun e => ?_) (fun e => ?_)⟩
    · have e' : (k : Int) < (((ns.map V.int).length : Nat) : Int) := of_decide_eq_true e
      rw [List.length_map] at e'
      have hlt : k < ns.length := by omega
      refine ⟨_, rfl, _, rfl, a, _, _, .int ns[k], rfl, rfl, hS, atI_nat ?_, q _⟩
      rw [List.getElem?_map, List.getElem?_eq_getElem hlt]
      rfl
    · exact q 0

/-! ### _law_pot -/
theorem sc__law_pot : FnScope ["_law_cell_here"] ["_law_cell_here"] (defScope s__law_pot) := ⟨rfl, rfl, rfl, by decide +kernel, rfl, by decide +kernel, by decide +kernel⟩
def sp_pot : Sp := fun vs H Q _ => ∃ n : Int, vs = [.int n] ∧ ∀ (x y : Int) (p : Addr), 0 ≤ y → y < 2147483648 → H p = none → Q (.ref p) (upd H p (.lst [.int x, .int y]))
theorem ok_pot {f : Addr} {fd : FuncData} (M : Blt mg) (F : Fun K "_law_pot" "_law_pot" s__law_pot f fd) : FnG P w K mg base CX0 1 f fd ["_law_cell_here"] sp_pot := by
  refine Gfun F sc__law_pot (fun vs H Q E h => ?_) (fun cdv A outer s H vs Q E hg hr h => ?_)
  · obtain ⟨n, rfl, _⟩ := h
    rfl
  · obtain ⟨n, rfl, q⟩ := h
    refine ⟨_, (pss_one (ps_ret (pe_lst (pa_cons (pe_callB (call_max2 rfl) rfl M.max bt_max (pa_cons pe_int (pa_cons (pe_op op_sub (pv 0) (pe_op op_pow pe_int pe_int)) pa_nil))) (pa_cons (pe_op op_mod (pe_op op_add (pe_op op_mulW (pe_op op_mod (pv 0) pe_int) pe_int) pe_int) pe_int) pa_nil))))), ?_⟩
    refine ⟨_, rfl, 10, 18, rfl, rfl, ⟨by decide, by decide, by decide⟩, _, _, rfl, rfl, _, _, rfl, ?_⟩
    have h1 := Int.emod_nonneg n (show (2147483629 : Int) ≠ 0 by decide)
    have h2 := Int.emod_lt_of_pos n (show (0 : Int) < 2147483629 by decide)
    refine ⟨_, rfl, _, _, rfl, rfl, (by show (0 : Int) < 2147483629; decide), _, _, rfl, rfl, Sm.mulW (small30 h1 (by omega)) (small30 (by decide) (by decide)), _, _, rfl, rfl, _, _, rfl, rfl, (by show (0 : Int) < 2147483647; decide), lst2 fun p hp => ?_⟩
    have h3 := Int.emod_nonneg (n % 2147483629 * 48271 + 7919) (show (2147483647 : Int) ≠ 0 by decide)
    have h4 := Int.emod_lt_of_pos (n % 2147483629 * 48271 + 7919) (show (0 : Int) < 2147483647 by decide)
    exact q _ _ p h3 (by omega) hp

/-! ### _law_draw -/
theorem sc__law_draw : FnScope ["_law_pot_here", "_law_many", "_law_digit"] ["_law_pot_here", "_law_many"] (defScope s__law_draw) := ⟨rfl, rfl, rfl, by decide +kernel, rfl, by decide +kernel, by decide +kernel⟩
/-- all but the pot at q stands as before -/
def But (q : Addr) (H H' : Hp) : Prop := ∀ b o, b ≠ q → H b = some o → H' b = some o
theorem But.rfl {q : Addr} {H : Hp} : But q H H := fun _ _ _ e => e
theorem But.trans {q : Addr} {H H1 H2 : Hp} (h : But q H H1) (k : But q H1 H2) : But q H H2 := fun b o n e => k b o n (h b o n e)
theorem But.same {q : Addr} {H H1 H2 : Hp} (h : But q H H1) (k : Same H1 H2) : But q H H2 := fun b o n e => k b o (h b o n e)
/-- a pot of draws at q -/
def Pot (H : Hp) (q : Addr) : Prop := ∃ x y : Int, 0 ≤ y ∧ y < 2147483648 ∧ H q = some (.lst [.int x, .int y])
def Drawn (H : Hp) (q : Addr) (Q : VK) (m : Int) : Prop := ∀ (r : Int) (H' : Hp), 0 ≤ r → r < m → Pot H' q → But q H H' → Q (.int r) H'
def sp_draw : Sp := fun vs H Q _ => ∃ (q : Addr) (m : Int), vs = [.ref q, .int m] ∧ 0 < m ∧ m.natAbs < 2 ^ 900 ∧ Pot H q ∧ Drawn H q Q m
theorem ok_draw {f : Addr} {fd : FuncData} (M : Blt mg) (F : Fun K "_law_draw" "_law_draw" s__law_draw f fd) : FnG P w K mg base CX0 1 f fd ["_law_pot_here", "_law_many"] sp_draw := by
  refine Gfun F sc__law_draw (fun vs H Q E h => ?_) (fun cdv A outer s H vs Q E hg hr h => ?_)
  · obtain ⟨q, m, rfl, _⟩ := h
    rfl
  · obtain ⟨q, m, rfl, hm, hm2, ⟨x, y, hy0, hy1, hP⟩, k⟩ := h
    refine ⟨_, (pss_cons (ps_if (pt_cmpR op_gt (pe_ix ix_list (pv 0) pe_int (fun _ _ => rfl)) pe_int (nomark _))
      (pss_cons (ps_asg (pe_callB call_divmodW rfl M.divmod bt_divmod (pa_cons (pe_ix ix_list (pv 0) pe_int (fun _ _ => rfl)) (pa_cons (pv 1) pa_nil))) (pg_tup rfl (pgs_cons (pg_sub (pv 0) pe_int set_list) (pgs_cons (pg_name (i := 2) sc__law_draw.nd rfl (.inl rfl)) pgs_nil))))
      (pss_one (ps_ret (pv 2))))
      pss_nil)
      (pss_cons (ps_asg (pe_op op_mod (pe_op op_add (pe_op op_mulW (pe_ix ix_list (pv 0) pe_int (fun _ _ => rfl)) pe_int) pe_int) pe_int) (pg_sub (pv 0) pe_int set_list))
      (pss_one (ps_ret (pe_op op_mod (pe_op op_fdivN (pe_op op_mod (pe_op op_mulW (pe_ix ix_list (pv 0) pe_int (fun _ _ => rfl)) (pe_ix ix_list (pv 0) pe_int (fun _ _ => rfl))) pe_int) pe_int) (pv 1)))))), ?_⟩
    refine ⟨_, rfl, q, _, _, _, rfl, rfl, .inl (.inl hP), rfl, _, _, rfl, rfl, _, rfl, ite2 (fun e => ?_) (fun e => ?_)⟩
    · refine ⟨_, rfl, q, _, _, _, rfl, rfl, .inl (.inl hP), rfl, _, rfl, x, m, rfl, ⟨hm, PyProof.noPylong_of_log2 (Nat.lt_of_lt_of_le (PySem.Flt.log2_lt_of (by decide) hm2) (by decide))⟩, fun p hp => ?_⟩
      have nq : q ≠ p := ne_of_none hP hp
      have hP2 : upd H p (.tup [.int (x / m), .int (x % m)]) q = some (.lst [.int x, .int y]) := by
        rw [upd_ne nq]
        exact hP
      refine ⟨p, _, rfl, .inl (.inl upd_same), rfl, _, _, rfl, ?_⟩
      refine ⟨_, rfl, q, _, _, _, rfl, rfl, hP2, rfl, ?_⟩
      refine ⟨_, _, rfl, rfl, ?_⟩
      refine ⟨_, rfl, k (x % m) _ (Int.emod_nonneg _ (by omega)) (Int.emod_lt_of_pos _ hm) ⟨x / m, y, hy0, hy1, upd_same⟩ fun b o nb eb => ?_⟩
      rw [upd_ne nb, upd_ne (ne_of_none eb hp)]
      exact eb
    · refine ⟨_, rfl, q, _, _, _, rfl, rfl, .inl (.inl hP), rfl, _, _, rfl, rfl, Sm.mulW (small30 hy0 hy1) (small30 (by decide) (by decide)), _, _, rfl, rfl, _, _, rfl, rfl, (by show (0 : Int) < 2147483587; decide), ?_⟩
      refine ⟨_, rfl, q, _, _, _, rfl, rfl, hP, rfl, ?_⟩
      have h3 := Int.emod_nonneg (y * 39373 + 8191) (show (2147483587 : Int) ≠ 0 by decide)
      have h4 := Int.emod_lt_of_pos (y * 39373 + 8191) (show (0 : Int) < 2147483587 by decide)
      have sz : Sm ((y * 39373 + 8191) % 2147483587) := small30 h3 (by omega)
      refine ⟨_, rfl, q, _, _, _, rfl, rfl, .inl (.inl upd_same), rfl, _, rfl, q, _, _, _, rfl, rfl, .inl (.inl upd_same), rfl, _, _, rfl, rfl, Sm.mulW sz sz, _, _, rfl, rfl, (by show (0 : Int) < 2147483543; decide), ?_⟩
      refine ⟨_, _, rfl, rfl, ⟨by decide, by decide⟩, _, rfl, _, _, rfl, rfl, hm, ?_⟩
      refine k _ _ (Int.emod_nonneg _ (by omega)) (Int.emod_lt_of_pos _ hm) ⟨x, _, h3, by omega, upd_same⟩ fun b o nb eb => ?_
      rw [upd_ne nb]
      exact eb

/-! ### _law_low -/
theorem sc__law_low : FnScope ["_law_top", "_law_bottom", "_law_one", "_law_other"] ["_law_top", "_law_bottom"] (defScope s__law_low) := ⟨rfl, rfl, rfl, by decide +kernel, rfl, by decide +kernel, by decide +kernel⟩
def sp_low : Sp := fun vs H Q _ => ∃ (n d : Int), vs = [.int n, .int d] ∧ d ≠ 0 ∧ Mid d ∧ Two H Q (low n d)
theorem ok_low {f : Addr} {fd : FuncData} (M : Blt mg) (F : Fun K "_law_low" "_law_low" s__law_low f fd) : FnG P w K mg base CX0 1 f fd ["_law_top", "_law_bottom"] sp_low := by
  refine Gfun F sc__law_low (fun vs H Q E h => ?_) (fun cdv A outer s H vs Q E hg hr h => ?_)
  · obtain ⟨n, d, rfl, _⟩ := h
    rfl
  · obtain ⟨n, d, rfl, hd, hd2, q⟩ := h
    refine ⟨_, (pss_cons (ps_par (i := 2) (j := 3) rfl sc__law_low.nd rfl rfl (by decide) rfl rfl (pa_cons (pe_callB call_abs rfl M.abs bt_abs (pa_cons (pv 0) pa_nil)) (pa_cons (pe_callB call_abs rfl M.abs bt_abs (pa_cons (pv 1) pa_nil)) pa_nil)) (by rfl))
      (pss_cons (ps_while PassesOwn.never (pt_cmpR op_gt (pv 3) pe_int (nomark _))
      (pss_one (ps_par (i := 2) (j := 3) rfl sc__law_low.nd rfl rfl (by decide) rfl rfl (pa_cons (pv 3) (pa_cons (pe_op op_mod (pv 2) (pv 3)) pa_nil)) (by rfl))))
      (pss_cons (ps_if (pt_cmpR op_lt (pv 1) pe_int (nomark _))
      (pss_one (ps_set (i := 2) sc__law_low.nd rfl (.inl rfl) (pe_un un_neg (pv 2))))
      pss_nil)
      (pss_one (ps_ret (pe_tup (pa_cons (pe_op op_fdivN (pv 0) (pv 2)) (pa_cons (pe_op op_fdivN (pv 1) (pv 2)) pa_nil)))))))), ?_⟩
    refine ⟨_, rfl, _, rfl, _, rfl, _, rfl, _, _, rfl, ?_⟩
    refine while_by (fun σ H' => ∃ x y : Int, σ = [some (.int n), some (.int d), some (.int x), some (.int y)] ∧ 0 ≤ x ∧ 0 ≤ y ∧ Nat.gcd x.natAbs y.natAbs = Nat.gcd n.natAbs d.natAbs ∧ H' = H)
      (fun σ _ => match σ with | [_, _, _, some (.int y)] => y.toNat | _ => 0) ⟨_, _, rfl, ?_, ?_, ?_, rfl⟩ ?_ ?_
    · rw [abs_is]
      omega
    · rw [abs_is]
      omega
    · rw [abs_is, abs_is, Int.natAbs_natCast, Int.natAbs_natCast]
    · rintro σ H1 ⟨x, y, rfl, hx, hy, hgc, rfl⟩
      refine ⟨_, rfl, _, _, rfl, rfl, _, rfl, ite2 (fun e => ?_) (fun e => ?_)⟩
      · have hyp : 0 < y := of_decide_eq_true e
        refine ⟨_, rfl, _, rfl, _, rfl, x, y, rfl, rfl, hyp, _, _, rfl, ⟨y, x % y, rfl, hy, Int.emod_nonneg _ (by omega), (gcd_step x y hyp hx).trans hgc, rfl⟩, ?_⟩
        show (x % y).toNat < y.toNat
        have := Int.emod_lt_of_pos x hyp
        omega
      · have hy0 : y = 0 := by
          have : ¬ 0 < y := fun z => e (decide_eq_true z)
          omega
        subst hy0
        rw [Int.natAbs_zero, Nat.gcd_zero_right] at hgc
        have ex : x = ((Nat.gcd n.natAbs d.natAbs : Nat) : Int) := by omega
        subst ex
        have hgz : ((Nat.gcd n.natAbs d.natAbs : Nat) : Int) ≠ 0 := by
          have := gcd_pos (n := n) hd
          omega
        have hlg := (gcd_mid (n := n) hd hd2).log
        refine ⟨_, rfl, _, _, rfl, rfl, _, rfl, ite2 (fun e => ?_) (fun e => ?_)⟩
        · have e' : d < 0 := of_decide_eq_true e
          have hm : ∀ i, CDivN i (-((Nat.gcd n.natAbs d.natAbs : Nat) : Int)) := fun i => ⟨by omega, by rw [Int.natAbs_neg]; exact hlg⟩
          refine ⟨_, rfl, _, rfl, _, rfl, _, rfl, n, _, rfl, rfl, hm n, _, rfl, _, rfl, d, _, rfl, rfl, hm d, (by show 2 ≤ sizeLine; decide), fun p hp => ?_⟩
          refine q _ p (same_new hp) ?_
          rw [← low_fdiv_neg (n := n) e']
          exact upd_same
        · have e' : 0 < d := by
            have : ¬ d < 0 := fun z => e (decide_eq_true z)
            omega
          have hm : ∀ i, CDivN i ((Nat.gcd n.natAbs d.natAbs : Nat) : Int) := fun i => ⟨hgz, hlg⟩
          refine ⟨_, rfl, _, rfl, n, _, rfl, rfl, hm n, _, rfl, _, rfl, d, _, rfl, rfl, hm d, (by show 2 ≤ sizeLine; decide), fun p hp => ?_⟩
          refine q _ p (same_new hp) ?_
          rw [← low_fdiv_pos (n := n) e']
          exact upd_same
    · rintro σ H1 Q1 Q2 hq ⟨u, hu, i, j, h1, h2, k, h3, h4⟩
      exact ⟨u, hu, i, j, h1, h2, k, h3, hq _ _ h4⟩

end
end Lf

set_option Elab.async false
set_option linter.all false
set_option maxRecDepth 100000
set_option maxHeartbeats 4000000
set_option exponentiation.threshold 3000
namespace Lf
open PySem PySem.Spec PyProof.Rows L2
theorem op_notInK {X : Cx} {K : PySem.W.Frag} (h : X.A.units + 65 < cLine) (hK : X.K = K := by rfl) : OpR X (compareOp .NotIn) (rNotInD K) := by
  subst hK
  exact op_notInD h
def AllL (z : Str) : Prop := ∀ c ∈ z.cps.toList, inL c = true
theorem al_app {x y : Str} (h : AllL x) (k : AllL y) : AllL (x ++ y) := by
  intro c hc
  have e : (x ++ y).cps.toList = x.cps.toList ++ y.cps.toList := by
    rw [show (x ++ y).cps = x.cps ++ y.cps from rfl, Array.toList_append]
  rw [e] at hc
  rcases List.mem_append.mp hc with q | q
  · exact h c q
  · exact k c q
theorem nm_join : ∀ ys : List Str, (∀ y ∈ ys, y.length = 1 ∧ AllL y) → ys ≠ [] → (Str.join (Str.ofString "") ys).length = ys.length ∧ AllL (Str.join (Str.ofString "") ys)
  | [], _, h => absurd rfl h
  | [x], h, _ => h x List.mem_cons_self
  | x :: y :: r, h, _ => by
    obtain ⟨l, a⟩ := nm_join (y :: r) (fun z hz => h z (List.mem_cons_of_mem _ hz)) (by simp)
    obtain ⟨l1, a1⟩ := h x List.mem_cons_self
    have e : Str.join (Str.ofString "") (x :: y :: r) = x ++ Str.ofString "" ++ Str.join (Str.ofString "") (y :: r) := rfl
    have e0 : AllL (Str.ofString "") := fun c hc => by
      have : (Str.ofString "").cps.toList = [] := by decide +kernel
      rw [this] at hc
      cases hc
    rw [e]
    refine ⟨?_, al_app (al_app a1 e0) a⟩
    rw [PySem.Str.length_append, PySem.Str.length_append, l1, l, show (Str.ofString "").length = 0 by decide +kernel, List.length_cons (a := x)]
    omega
theorem pot_same {H H' : Hp} {q : Addr} (h : Pot H q) (s : Same H H') : Pot H' q := by
  obtain ⟨x, y, a, b, e⟩ := h
  exact ⟨x, y, a, b, s _ _ e⟩
theorem inL_lt {c : Nat} (h : inL c = true) : c < 0x110000 := by
  have hc : c ∈ lets.cps.toList := of_decide_eq_true h
  have all : ∀ x ∈ lets.cps.toList, x < 0x110000 := by decide +kernel
  exact all c hc
theorem al_cut {z : Str} (lo hi : Option Int) (h : AllL z) : AllL (cutS z lo hi) := fun c hc => h c (List.mem_of_mem_drop (List.mem_of_mem_take (show c ∈ ((z.cps.toList.drop _).take _) by simpa [cutS] using hc)))
theorem al_shaped {z : Str} (h : AllL z) : SeqAt.shaped (.str z) = true := by
  unfold SeqAt.shaped
  rw [Bool.and_eq_true]
  refine ⟨?_, decide_eq_true ?_⟩
  · simp only [PyData.canLay0, PyData.strOk]
    simp
    intro c hc
    exact inL_lt (h _ (by simp))
  · simp only [PyData.depth]
    omega
theorem sq_but {K : PySem.W.Frag} {H H' : Hp} {q t : Addr} {xs : List V} (b : But q H H') (n : t ≠ q) (h : SqL K H t xs) : SqL K H' t xs := by
  rcases h with (h | ⟨o, h⟩) | h
  · exact .inl (.inl (b _ _ n h))
  · exact .inl (.inr ⟨o, b _ _ n h⟩)
  · exact .inr h
theorem ones_sum : ∀ ys : List Str, (∀ y ∈ ys, y.length = 1 ∧ AllL y) → (ys.map (·.length)).sum = ys.length
  | [], _ => rfl
  | y :: r, h => by
    rw [List.map_cons, List.sum_cons, (h y List.mem_cons_self).1, ones_sum r fun z hz => h z (List.mem_cons_of_mem _ hz), List.length_cons]
    omega
/-- the letter at a place -/
def letC (i : Nat) : Nat := ((Str.ofString "abcdefghijklmnopqrstuvwxyz").cps[i]?).getD 0
/-- the i-th of the other names that are tried -/
def cand (z : Str) (i : Nat) : Str := cutS z none (some 8) ++ ⟨#[letC i]⟩ ++ Str.ofString "q"
theorem cand_inj {z : Str} {i j : Nat} (hi : i < 26) (hj : j < 26) (e : cand z i = cand z j) : i = j := by
  have e2 := congrArg (fun x : Str => x.cps.toList) e
  have tl : ∀ k, (cand z k).cps.toList = (cutS z none (some 8)).cps.toList ++ [letC k] ++ (Str.ofString "q").cps.toList := fun k => by
    unfold cand
    rw [show ∀ x y : Str, (x ++ y).cps = x.cps ++ y.cps from fun _ _ => rfl, Array.toList_append, show ∀ x y : Str, (x ++ y).cps = x.cps ++ y.cps from fun _ _ => rfl, Array.toList_append]
  simp only [tl] at e2
  have e3 := List.append_cancel_left (List.append_cancel_right e2)
  have e4 : letC i = letC j := (List.cons.inj e3).1
  have all : ∀ a < 26, ∀ b < 26, letC a = letC b → a = b := by decide +kernel
  exact all i hi j hj e4
theorem nodup_le {α : Type} [DecidableEq α] : ∀ (l m : List α), l.Nodup → (∀ x ∈ l, x ∈ m) → l.length ≤ m.length
  | [], _, _, _ => Nat.zero_le _
  | x :: l, m, hn, h => by
    have hx := h x List.mem_cons_self
    have r := nodup_le l (m.erase x) (List.nodup_cons.mp hn).2 fun y hy => by
      have ny : y ≠ x := fun z => (List.nodup_cons.mp hn).1 (by rw [← z]; exact hy)
      exact (List.mem_erase_of_ne ny).mpr (h y (List.mem_cons_of_mem _ hy))
    rw [List.length_erase_of_mem hx] at r
    have : 0 < m.length := List.length_pos_of_mem hx
    rw [List.length_cons]
    omega
/-- one of the names that are tried is not taken -/
theorem one_free {z : Str} {ts : List Str} (h : ts.length ≤ 25) : ∃ i, i < 26 ∧ cand z i ∉ ts := by
  apply Classical.byContradiction
  intro no
  have all : ∀ i, i < 26 → cand z i ∈ ts := fun i hi => Classical.byContradiction fun q => no ⟨i, hi, q⟩
  have nd : ((List.range 26).map (cand z)).Nodup := by
    refine List.Pairwise.map _ ?_ (List.Pairwise.and_mem.mp (List.nodup_range (n := 26)))
    rintro a b ⟨ha, hb, hab⟩ e
    exact hab (cand_inj (List.mem_range.mp ha) (List.mem_range.mp hb) e)
  have := nodup_le _ ts nd fun x hx => by
    obtain ⟨i, hi, rfl⟩ := List.mem_map.mp hx
    exact all i (List.mem_range.mp hi)
  rw [List.length_map, List.length_range] at this
  omega
theorem strs_dp {K : PySem.W.Frag} {H : Hp} : ∀ ts : List Str, DpAll K H (ts.map V.str) (ts.map PyData.str)
  | [] => .nil
  | t :: ts => .cons (.str t) (strs_dp ts)
theorem strs_shaped {ts : List Str} (h : ∀ t ∈ ts, AllL t) : SeqAt.shaped (.list (ts.map PyData.str)) = true := by
  have key : ∀ ts : List Str, (∀ t ∈ ts, AllL t) → PyData.canLayAll0 (ts.map PyData.str) = true ∧ PyData.depthAll (ts.map PyData.str) = 0 := by
    intro ts
    induction ts with
    | nil => exact fun _ => ⟨by simp only [List.map_nil, PyData.canLayAll0], by simp only [List.map_nil, PyData.depthAll]⟩
    | cons t ts ih =>
      intro h
      obtain ⟨i1, i2⟩ := ih fun x hx => h x (List.mem_cons_of_mem _ hx)
      have a := SeqAt.canLay_of_shaped (al_shaped (h t List.mem_cons_self))
      exact ⟨by simp only [List.map_cons, PyData.canLayAll0, i1, a, Bool.and_self], by simp only [List.map_cons, PyData.depthAll, PyData.depth, i2, Nat.max_self]⟩
  obtain ⟨i1, i2⟩ := key ts h
  unfold SeqAt.shaped
  rw [Bool.and_eq_true]
  refine ⟨by simp only [PyData.canLay0]; exact i1, decide_eq_true ?_⟩
  simp only [PyData.depth, i2]
  omega
theorem strs_any (y : Str) : ∀ ts : List Str, ((ts.map PyData.str).any fun d => PyData.eqv d (.str y)) = decide (y ∈ ts)
  | [] => by simp
  | t :: ts => by
    rw [List.map_cons, List.any_cons, strs_any y ts]
    have e : PyData.eqv (.str t) (.str y) = decide (t = y) := by
      simp only [PyData.eqv]
      by_cases h : t = y
      · subst h
        simp
      · simp [h]
    rw [e]
    by_cases h : t = y
    · subst h
      simp
    · have h' : ¬ y = t := fun z => h z.symm
      simp [h, h']
theorem nm_al {z : Str} (h : isNm (.str z) = true) : AllL z ∧ 1 ≤ z.length ∧ z.length ≤ 10 := by
  have h' : (decide (1 ≤ z.length) && decide (z.length ≤ 10) && List.all z.cps.toList inL) = true := h
  rw [Bool.and_eq_true, Bool.and_eq_true] at h'
  exact ⟨fun c hc => List.all_eq_true.mp h'.2 c hc, of_decide_eq_true h'.1.1, of_decide_eq_true h'.1.2⟩
theorem al_nm {z : Str} (h : AllL z) (h1 : 1 ≤ z.length) (h2 : z.length ≤ 10) : isNm (.str z) = true := by
  show (decide (1 ≤ _) && decide (_ ≤ 10) && List.all _ inL) = true
  rw [decide_eq_true h1, decide_eq_true h2, Bool.and_self, Bool.true_and, List.all_eq_true]
  exact h
section
variable {P : Program} {w : World} {K : PySem.W.Frag} {mg : Str → Option Value} {base : Heap}

/-! ### _law_name -/
theorem sc__law_name : FnScope ["_law_pot_here", "_law_taken", "_law_letters", "_law_size", "_law_name_here", "_law_some", "_law_k", "_law_one"] ["_law_pot_here", "_law_taken"] (defScope s__law_name) := ⟨rfl, rfl, rfl, by decide +kernel, rfl, by decide +kernel, by decide +kernel⟩
/-- a name: one to ten small letters -/
def sp_name (K : PySem.W.Frag) : Sp := fun vs H Q _ => ∃ (q t : Addr) (ts : List Str), vs = [.ref q, .ref t] ∧ t ≠ q ∧ Pot H q ∧ SqL K H t (ts.map V.str) ∧ ts.length ≤ 25 ∧ (∀ x ∈ ts, AllL x) ∧ ∀ (z : Str) (H' : Hp), isNm (.str z) = true → z.length ≤ 10 → z ∉ ts → Pot H' q → But q H H' → Q (.str z) H'
theorem ok_name {f : Addr} {fd : FuncData} (M : Blt mg) (F : Fun K "_law_name" "_law_name" s__law_name f fd) (C__law_draw : Cal P w K mg base CX0 1 "_law_draw" ["_law_pot_here", "_law_many"] sp_draw) : FnG P w K mg base CX0 2 f fd ["_law_pot_here", "_law_taken"] (sp_name K) := by
  refine Gfun F sc__law_name (fun vs H Q E h => ?_) (fun cdv A outer s H vs Q E hg hr h => ?_)
  · obtain ⟨q, t, ts, rfl, _⟩ := h
    rfl
  · obtain ⟨q, t, ts, rfl, ntq, hP, ht, h25, hts, k⟩ := h
    refine ⟨_, (pss_cons (ps_set (i := 2) sc__law_name.nd rfl (.inr rfl) pe_str)
      (pss_cons (ps_set (i := 3) sc__law_name.nd rfl (by first | exact .inl rfl | exact .inr rfl) (pe_op op_add pe_int (pe_g C__law_draw (hr.mono (by decide)) hg (pa_cons (pv 0) (pa_cons (pe_ix ix_list (pe_lst (pa_cons pe_int (pa_cons pe_int (pa_cons pe_int pa_nil)))) (pe_g C__law_draw (hr.mono (by decide)) hg (pa_cons (pv 0) (pa_cons pe_int pa_nil))) (fun _ _ => rfl)) pa_nil)))))
      (pss_cons (ps_set (i := 4) sc__law_name.nd rfl (.inr rfl) (pe_bm PySem.F.plainAttrs_str PySem.F.slot_str_join PySem.F.type_str_join mt_join pe_str (pa_cons (pe_lc (own := [("_law_k", 6)]) (g := gName 6) (tt := tYes) rfl sc__law_name.nd (pi_range1 rfl M.range (pa_cons (pv 3) pa_nil)) (blkOk_by (N := ["_law_pot_here", "_law_taken", "_law_letters", "_law_size", "_law_name_here", "_law_some", "_law_k", "_law_one"]) (sc := defScope s__law_name) (by decide +kernel)) (fun _ _ _ _ _ => pg_name (i := 6) sc__law_name.nd rfl (Or.inl rfl)) (fun _ _ _ _ _ => pts_nil) (fun _ _ _ _ _ => (pe_item_str (pv 2) (pe_g C__law_draw (hr.mono (by decide)) hg (pa_cons (pv 0) (pa_cons pe_int pa_nil))) (fun _ _ => rfl)))) pa_nil)))
      (pss_cons (ps_set (i := 5) sc__law_name.nd rfl (by first | exact .inl rfl | exact .inr rfl) (pe_op op_cat (pe_lst (pa_cons (pv 4) pa_nil)) (pe_lc (own := [("_law_k", 6)]) (g := gName 6) (tt := tYes) rfl sc__law_name.nd (pi_range1 rfl M.range (pa_cons pe_int pa_nil)) (blkOk_by (N := ["_law_pot_here", "_law_taken", "_law_letters", "_law_size", "_law_name_here", "_law_some", "_law_k", "_law_one"]) (sc := defScope s__law_name) (by decide +kernel)) (fun _ _ _ _ _ => pg_name (i := 6) sc__law_name.nd rfl (Or.inl rfl)) (fun _ _ _ _ _ => pts_nil) (fun _ _ _ _ _ => (pe_op op_add_str (pe_op op_add_str (pe_slice sl_str (pv 4) po_none (po_some pe_int)) (pe_item_str (pv 2) (pv 6) (fun _ _ => rfl))) pe_str)))))
      (pss_one (ps_ret (pe_ix ix_list (pe_lc (own := [("_law_one", 7)]) (g := gName 7) rfl sc__law_name.nd (pi_list (pv 5)) (blkOk_by (N := ["_law_pot_here", "_law_taken", "_law_letters", "_law_size", "_law_name_here", "_law_some", "_law_k", "_law_one"]) (sc := defScope s__law_name) (by decide +kernel)) (fun _ _ _ _ _ => pg_name (i := 7) sc__law_name.nd rfl (Or.inl rfl)) (fun _ _ _ _ _ => (pts_one (pt_cmpR (op_notInK (K := K) (by exact u65 hr)) (pv 7) (pv 1) rfl))) (fun _ _ _ _ _ => (pv 7))) pe_int (fun _ _ => rfl)))))))), ?_⟩
    refine ⟨_, rfl, by decide, fun p3 hp3 => ⟨_, rfl, q, 3, rfl, by decide, by decide, ?_, fun r1 H1 r10 r11 hP1 b1 => ?_⟩⟩
    · exact pot_same hP (same_new hp3)
    have b01 : But q H H1 := fun b o nb e => b1 _ _ nb (by rw [upd_ne (ne_of_none e hp3)]; exact e)
    have np3 : p3 ≠ q := fun z => by
      obtain ⟨x, y, _, _, e⟩ := hP
      rw [← z, hp3] at e
      cases e
    have e3 : H1 p3 = some (.lst [.int 1, .int 3, .int 10]) := b1 _ _ np3 upd_same
    obtain ⟨m, hm1, hm2, hat⟩ : ∃ m : Int, 1 ≤ m ∧ m ≤ 10 ∧ atI [V.int 1, V.int 3, V.int 10] r1 = some (.int m) := by
      have h3 : r1 = 0 ∨ r1 = 1 ∨ r1 = 2 := by omega
      rcases h3 with rfl | rfl | rfl
      · exact ⟨1, by decide, by decide, rfl⟩
      · exact ⟨3, by decide, by decide, rfl⟩
      · exact ⟨10, by decide, by decide, rfl⟩
    refine ⟨p3, _, r1, _, rfl, rfl, .inl (.inl e3), hat, q, m, rfl, by omega, ?_, hP1, fun r2 H2 r20 r21 hP2 b2 => ?_⟩
    · exact Nat.lt_of_lt_of_le (show m.natAbs < 2 ^ 5 by show m.natAbs < 32; omega) (Nat.pow_le_pow_right (by decide) (by decide))
    have b02 : But q H H2 := fun b o nb e => b2 _ _ nb (b01 _ _ nb e)
    refine ⟨_, _, rfl, rfl, rfl, _, rfl, _, rfl, by omega, by omega, fun D hD => ?_⟩
    have nDq : D ≠ q := fun z => by
      obtain ⟨x, y, _, _, e⟩ := hP2
      rw [← z, hD] at e
      cases e
    have hl26 : (Str.ofString "abcdefghijklmnopqrstuvwxyz").length = 26 := by decide +kernel
    have keepD : ∀ b o, b ≠ q → H b = some o → b ≠ D := fun b o nb eb z => by
      have := b02 _ _ nb eb
      rw [z, hD] at this
      cases this
    refine lc_range (lo := 0) (n := (1 + r2).toNat) (fun i H' => ∃ ys : List Str, H' D = some (.lst (ys.map V.str)) ∧ ys.length = i ∧ (∀ y ∈ ys, y.length = 1 ∧ AllL y) ∧ Pot H' q ∧ But q H H')
      ⟨[], upd_same, rfl, (fun y h => nomatch h), pot_same hP2 (same_new hD), fun b o nb e => by rw [upd_ne (keepD b o nb e)]; exact b02 _ _ nb e⟩ ?_ ?_
    · rintro i H5 hi ⟨ys, eD, hl, hy, hP5, b5⟩
      refine ⟨rfl, _, rfl, _, rfl, q, 26, rfl, by decide, by decide, hP5, fun r6 H6 r60 r61 hP6 b6 => ?_⟩
      have hlt : r6.toNat < (Str.ofString "abcdefghijklmnopqrstuvwxyz").cps.size := by
        show r6.toNat < (Str.ofString "abcdefghijklmnopqrstuvwxyz").length
        omega
      obtain ⟨c6, hgc⟩ : ∃ c6, (Str.ofString "abcdefghijklmnopqrstuvwxyz").cps[r6.toNat]? = some c6 := ⟨_, Array.getElem?_eq_getElem hlt⟩
      refine ⟨_, r6, c6, rfl, rfl, r60, by omega, by omega, hgc, ys.map V.str, b6 _ _ nDq eD, ?_, ys ++ [⟨#[c6]⟩], ?_, ?_, ?_, ?_, ?_⟩
      · rw [List.length_map, sizeLine_eq]
        omega
      · rw [upd_same, List.map_append]
        rfl
      · rw [List.length_append, hl]
        rfl
      · intro y h
        rcases List.mem_append.mp h with z | z
        · exact hy y z
        · rw [List.mem_singleton.mp z]
          refine ⟨rfl, fun c hc => ?_⟩
          have : c = c6 := by simpa using hc
          rw [this]
          exact decide_eq_true (List.mem_of_getElem? (by rw [Array.getElem?_toList]; exact hgc))
      · obtain ⟨x, y, y0, y1, eP⟩ := hP6
        refine ⟨x, y, y0, y1, ?_⟩
        rw [upd_ne nDq.symm]
        exact eP
      · intro b o nb eb
        rw [upd_ne (keepD b o nb eb)]
        exact b6 _ _ nb (b5 _ _ nb eb)
    rintro H5 ⟨ys, eD, hl, hy, hP5, b5⟩
    have ne : ys ≠ [] := fun z => by
      rw [z] at hl
      have : (0 : Nat) = (1 + r2).toNat := hl
      omega
    obtain ⟨jl, ja⟩ := nm_join ys hy ne
    rw [← StrLaws.glued_eq_join] at jl ja
    have jl' : (Txt.join (Str.ofString "") ys).length = (1 + r2).toNat := jl.trans hl
    refine ⟨_, D, ys, rfl, rfl, .inl (.inl (.inl eD)), ?_, ?_⟩
    · rw [ones_sum ys hy, show (Str.ofString "").length = 0 by decide +kernel, Nat.mul_zero]
      omega
    have hnm : isNm (.str (Txt.join (Str.ofString "") ys)) = true := by
      show (decide (1 ≤ _) && decide (_ ≤ 10) && List.all _ inL) = true
      rw [decide_eq_true (by omega), decide_eq_true (by omega), Bool.and_self, Bool.true_and, List.all_eq_true]
      exact ja
    have hle : (Txt.join (Str.ofString "") ys).length ≤ 10 := by omega
    have hal : AllL (Txt.join (Str.ofString "") ys) := ja
    generalize Txt.join (Str.ofString "") ys = z at hnm hle hal ⊢
    refine ⟨_, rfl, by show 1 ≤ sizeLine; decide, fun l1 hl1 => ⟨_, rfl, by decide, by decide, fun D2 hD2 => ?_⟩⟩
    have s56 : Same H5 (upd H5 l1 (.lst [.str z])) := same_new hl1
    have e6 : upd H5 l1 (.lst [.str z]) l1 = some (.lst [.str z]) := upd_same
    generalize upd H5 l1 (.lst [.str z]) = H6 at s56 e6 hD2 ⊢
    refine lc_range (lo := 0) (n := 26) (fun i H' => ∃ zs : List Str, H' D2 = some (.lst (zs.map V.str)) ∧ zs.length = i ∧ zs = (List.range i).map (cand z) ∧ (∀ y ∈ zs, AllL y ∧ 1 ≤ y.length ∧ y.length ≤ 10) ∧ Same H6 H') ⟨[], upd_same, rfl, rfl, (fun y h => nomatch h), same_new hD2⟩ ?_ ?_
    · rintro i H7 hi ⟨zs, eD2, hl2, hz2, hy2, s67⟩
      have hlt : i < (Str.ofString "abcdefghijklmnopqrstuvwxyz").cps.size := by
        show i < (Str.ofString "abcdefghijklmnopqrstuvwxyz").length
        omega
      obtain ⟨c7, hgc⟩ : ∃ c7, (Str.ofString "abcdefghijklmnopqrstuvwxyz").cps[i]? = some c7 := ⟨_, Array.getElem?_eq_getElem hlt⟩
      have c1 := cutS_length z none (some 8)
      have l1' : (⟨#[c7]⟩ : Str).length = 1 := rfl
      have lq : (Str.ofString "q").length = 1 := by decide +kernel
      have zl := sizeLine_eq
      have ea : ((0 : Int) + (i : Int)).toNat = i := by omega
      refine ⟨rfl, _, rfl, 8, rfl, _, rfl, by omega, _, rfl, _, rfl, _, _, c7, rfl, rfl, by omega, by omega, by omega, by rw [ea]; exact hgc, _, _, rfl, rfl, by omega, _, _, rfl, rfl, ?_, zs.map V.str, eD2, ?_, zs ++ [cutS z none (some 8) ++ ⟨#[c7]⟩ ++ Str.ofString "q"], ?_, ?_, ?_, ?_, ?_⟩
      · rw [PySem.Str.length_append]
        omega
      · rw [List.length_map]
        omega
      · rw [upd_same, List.map_append]
        rfl
      · rw [List.length_append, hl2]
        rfl
      · rw [List.range_succ, List.map_append, ← hz2]
        have e7 : letC i = c7 := by
          unfold letC
          rw [hgc]
          rfl
        show zs ++ [_] = zs ++ [cand z i]
        unfold cand
        rw [e7]
      · intro y h
        rcases List.mem_append.mp h with zz | zz
        · exact hy2 y zz
        · rw [List.mem_singleton.mp zz]
          have c8 : (cutS z none (some 8)).length ≤ 8 := by
            have hh : HT.sIx z.length z.length (some 8) ≤ 8 := by
              unfold HT.sIx
              simp
              omega
            have h0 : HT.sIx z.length 0 none = 0 := by simp [HT.sIx]
            show ((z.cps.toList.drop _).take _).toArray.size ≤ 8
            simp
            omega
          refine ⟨?_, by rw [PySem.Str.length_append, PySem.Str.length_append]; omega, by rw [PySem.Str.length_append, PySem.Str.length_append]; omega⟩
          refine al_app (al_app (al_cut _ _ hal) fun c hc => ?_) fun c hc => ?_
          · have : c = c7 := by simpa using hc
            rw [this]
            exact decide_eq_true (List.mem_of_getElem? (by rw [Array.getElem?_toList]; exact hgc))
          · have : (Str.ofString "q").cps.toList = [113] := by decide +kernel
            rw [this] at hc
            rw [List.mem_singleton.mp hc]
            decide +kernel
      · intro b o e
        rw [upd_ne (ne_of_none e hD2)]
        exact s67 _ _ e
    rintro H7 ⟨zs, eD2, hl2, hz2, hy2, s67⟩
    refine ⟨l1, D2, [.str z], zs.map V.str, rfl, rfl, s67 _ _ e6, eD2, by rw [List.length_map, hl2, sizeLine_eq]; show 1 + 26 ≤ 16777216; decide, fun l2 hl2' => ?_⟩
    have s78 : Same H7 (upd H7 l2 (.lst ([.str z] ++ zs.map V.str))) := same_new hl2'
    have e8 : upd H7 l2 (.lst ([.str z] ++ zs.map V.str)) l2 = some (.lst ((z :: zs).map V.str)) := upd_same
    generalize upd H7 l2 (.lst ([.str z] ++ zs.map V.str)) = H8 at s78 e8 ⊢
    have s58 := (s56.trans s67).trans s78
    refine ⟨_, rfl, l2, rfl, ⟨_, .inl (.inl e8)⟩, fun D3 hD3 => ?_⟩
    have nD3 : ∀ b o, H8 b = some o → b ≠ D3 := fun b o e => ne_of_none e hD3
    refine lc_list (xs := (z :: zs).map V.str) (fun i H' => Same H8 H' ∧ H' D3 = some (.lst ((((z :: zs).take i).filter fun y => !decide (y ∈ ts)).map V.str))) ⟨same_new hD3, upd_same⟩ (fun i H' _ h => .inl (.inl (h.1 _ _ e8))) ?_ ?_
    · rintro i y H9 hy9 ⟨s89, e9⟩
      rw [List.getElem?_map] at hy9
      obtain ⟨y', hy', rfl⟩ : ∃ y', (z :: zs)[i]? = some y' ∧ y = .str y' := by
        cases h : (z :: zs)[i]? with
        | none => rw [h] at hy9; cases hy9
        | some y' => rw [h] at hy9; exact ⟨y', rfl, (Option.some.inj hy9).symm⟩
      have aly : AllL y' := by
        rcases List.mem_cons.mp (List.mem_of_getElem? hy') with rfl | h
        · exact hal
        · exact (hy2 y' h).1
      have ht9 : SqL K H9 t (ts.map V.str) := sm_l (s58.trans s89) (sq_but b5 ntq ht)
      have hi : i < (z :: zs).length := (List.getElem?_eq_some_iff.mp hy').1
      rw [List.length_cons, hl2] at hi
      refine ⟨rfl, _, rfl, _, rfl, .str y', ts.map PyData.str, .str _, .lst ht9 (strs_dp ts), al_shaped aly, strs_shaped hts, _, rfl, ?_⟩
      rw [strs_any]
      refine ite2 (fun c => ?_) (fun c => ?_)
      · refine ⟨_, rfl, _, e9, ?_, fun b o e => ?_, ?_⟩
        · have := List.length_filter_le (fun y => !decide (y ∈ ts)) ((z :: zs).take i)
          rw [List.length_take] at this
          rw [List.length_map, sizeLine_eq]
          omega
        · rw [upd_ne (nD3 b o e)]
          exact s89 _ _ e
        · rw [upd_same, List.take_succ, hy', Option.toList_some, List.filter_append, List.filter_cons, c, if_pos rfl, List.map_append]
          rfl
      · refine ⟨s89, ?_⟩
        rw [e9, List.take_succ, hy', Option.toList_some, List.filter_append, List.filter_cons, if_neg c, List.filter_nil, List.append_nil]
    · rintro H9 ⟨s89, e9⟩
      rw [List.length_map, List.take_length] at e9
      have hb9 : But q H H9 := fun b o nb e => (s58.trans s89) _ _ (b5 _ _ nb e)
      obtain ⟨y, hy, hyt⟩ : ∃ y ∈ z :: zs, y ∉ ts := by
        obtain ⟨i, hi, hn⟩ := one_free (z := z) h25
        exact ⟨cand z i, List.mem_cons_of_mem _ (by rw [hz2]; exact List.mem_map_of_mem (List.mem_range.mpr hi)), hn⟩
      have hm : y ∈ (z :: zs).filter fun y => !decide (y ∈ ts) := List.mem_filter.mpr ⟨hy, by simp [hyt]⟩
      cases hf : (z :: zs).filter fun y => !decide (y ∈ ts) with
      | nil => rw [hf] at hm; cases hm
      | cons x r =>
        rw [hf] at e9
        have hx : x ∈ (z :: zs).filter fun y => !decide (y ∈ ts) := by rw [hf]; exact List.mem_cons_self
        obtain ⟨hx1, hx2⟩ := List.mem_filter.mp hx
        have hxt : x ∉ ts := by simpa using hx2
        have hxn : isNm (.str x) = true ∧ x.length ≤ 10 := by
          rcases List.mem_cons.mp hx1 with rfl | h
          · exact ⟨hnm, hle⟩
          · obtain ⟨a1, a2, a3⟩ := hy2 x h
            exact ⟨al_nm a1 a2 a3, a3⟩
        exact ⟨D3, _, 0, _, rfl, rfl, .inl (.inl e9), atI_nat (j := 0) rfl, k x H9 hxn.1 hxn.2 hxt (pot_same hP5 (s58.trans s89)) hb9⟩
end
end Lf

set_option linter.all false
/-! Sums and products of fractions in any order, by rational numbers. -/
namespace Lf
def rv (f : Int × Int) : Rat := Rat.divInt f.1 f.2
def IsF (f : Int × Int) : Prop := IsLow f.1 f.2
theorem IsF.ne {f : Int × Int} (h : IsF f) : f.2 ≠ 0 := by
  have : 0 < f.2 := h.1
  omega
theorem rv_inj {f g : Int × Int} (hf : IsF f) (hg : IsF g) (e : rv f = rv g) : f = g := by
  have q := (Rat.divInt_eq_divInt_iff hf.ne hg.ne).mp e
  obtain ⟨e1, e2⟩ := low_uniq hf hg q
  exact Prod.ext e1 e2
theorem low_f {n d : Int} (h : d ≠ 0) : IsF (low n d) := low_is h
theorem rv_low {n d : Int} (h : d ≠ 0) : rv (low n d) = Rat.divInt n d :=
  (Rat.divInt_eq_divInt_iff (low_f (n := n) h).ne h).mpr (low_cross h)
def fadd (f g : Int × Int) : Int × Int := low (f.1 * g.2 + g.1 * f.2) (f.2 * g.2)
def fsub (f g : Int × Int) : Int × Int := low (f.1 * g.2 - g.1 * f.2) (f.2 * g.2)
def fmul (f g : Int × Int) : Int × Int := low (f.1 * g.1) (f.2 * g.2)
def fdiv (f g : Int × Int) : Int × Int := low (f.1 * g.2) (f.2 * g.1)
section
variable {f g : Int × Int}
theorem fadd_f (hf : IsF f) (hg : IsF g) : IsF (fadd f g) := low_f (Int.mul_ne_zero hf.ne hg.ne)
theorem fsub_f (hf : IsF f) (hg : IsF g) : IsF (fsub f g) := low_f (Int.mul_ne_zero hf.ne hg.ne)
theorem fmul_f (hf : IsF f) (hg : IsF g) : IsF (fmul f g) := low_f (Int.mul_ne_zero hf.ne hg.ne)
theorem fdiv_f (hf : IsF f) (h0 : g.1 ≠ 0) : IsF (fdiv f g) := low_f (Int.mul_ne_zero hf.ne h0)
theorem rv_add (hf : IsF f) (hg : IsF g) : rv (fadd f g) = rv f + rv g := by
  unfold fadd
  rw [rv_low (Int.mul_ne_zero hf.ne hg.ne)]
  exact (Rat.divInt_add_divInt _ _ hf.ne hg.ne).symm
theorem rv_sub (hf : IsF f) (hg : IsF g) : rv (fsub f g) = rv f - rv g := by
  unfold fsub
  rw [rv_low (Int.mul_ne_zero hf.ne hg.ne)]
  exact (Rat.divInt_sub_divInt _ _ hf.ne hg.ne).symm
theorem rv_mul (hf : IsF f) (hg : IsF g) : rv (fmul f g) = rv f * rv g := by
  unfold fmul
  rw [rv_low (Int.mul_ne_zero hf.ne hg.ne)]
  exact (Rat.divInt_mul_divInt _ _).symm
theorem rv_div (hf : IsF f) (h0 : g.1 ≠ 0) : rv (fdiv f g) = rv f * (rv g)⁻¹ := by
  unfold fdiv
  rw [rv_low (Int.mul_ne_zero hf.ne h0)]
  unfold rv
  rw [Rat.inv_divInt, Rat.divInt_mul_divInt]
end
def f0 : Int × Int := (0, 1)
def f1 : Int × Int := (1, 1)
theorem f0_f : IsF f0 := ⟨by decide, by decide⟩
theorem f1_f : IsF f1 := ⟨by decide, by decide⟩
theorem rv0 : rv f0 = 0 := Rat.zero_divInt 1
theorem rv1 : rv f1 = 1 := Rat.divInt_self' (by decide)
theorem rv_zero {f : Int × Int} (h : IsF f) : rv f = 0 ↔ f.1 = 0 := by
  constructor
  · intro e
    have := rv_inj h f0_f (e.trans rv0.symm)
    rw [this]
    rfl
  · intro e
    unfold rv
    rw [e, Rat.zero_divInt]
theorem is0 {f : Int × Int} (h : IsF f) : f.1 = 0 ↔ f = f0 := by
  constructor
  · intro e
    exact rv_inj h f0_f (((rv_zero h).mpr e).trans rv0.symm)
  · intro e
    rw [e]
    rfl
def rsum : List (Int × Int) → Rat
  | [] => 0
  | f :: r => rv f + rsum r
def rprod : List (Int × Int) → Rat
  | [] => 1
  | f :: r => rv f * rprod r
theorem rsum_perm {l m : List (Int × Int)} (p : l.Perm m) : rsum l = rsum m := by
  induction p with
  | nil => rfl
  | cons x _ ih => exact congrArg (rv x + ·) ih
  | swap x y l =>
    show rv y + (rv x + rsum l) = rv x + (rv y + rsum l)
    rw [← Rat.add_assoc, ← Rat.add_assoc, Rat.add_comm (rv y)]
  | trans _ _ h1 h2 => exact h1.trans h2
theorem rprod_perm {l m : List (Int × Int)} (p : l.Perm m) : rprod l = rprod m := by
  induction p with
  | nil => rfl
  | cons x _ ih => exact congrArg (rv x * ·) ih
  | swap x y l =>
    show rv y * (rv x * rprod l) = rv x * (rv y * rprod l)
    rw [← Rat.mul_assoc, ← Rat.mul_assoc, Rat.mul_comm (rv y)]
  | trans _ _ h1 h2 => exact h1.trans h2
def AllF (l : List (Int × Int)) : Prop := ∀ f ∈ l, IsF f
theorem AllF.tl {f : Int × Int} {l : List (Int × Int)} (h : AllF (f :: l)) : AllF l := fun g hg => h g (List.mem_cons_of_mem _ hg)
theorem AllF.hd {f : Int × Int} {l : List (Int × Int)} (h : AllF (f :: l)) : IsF f := h f List.mem_cons_self
theorem sum_fold : ∀ (l : List (Int × Int)) (a : Int × Int), IsF a → AllF l → IsF (l.foldl fadd a) ∧ rv (l.foldl fadd a) = rv a + rsum l
  | [], a, ha, _ => ⟨ha, (Rat.add_zero _).symm⟩
  | f :: l, a, ha, h => by
    obtain ⟨h1, h2⟩ := sum_fold l (fadd a f) (fadd_f ha h.hd) h.tl
    refine ⟨h1, ?_⟩
    show rv (l.foldl fadd (fadd a f)) = rv a + (rv f + rsum l)
    rw [h2, rv_add ha h.hd, Rat.add_assoc]
theorem mul_fold : ∀ (l : List (Int × Int)) (a : Int × Int), IsF a → AllF l → IsF (l.foldl fmul a) ∧ rv (l.foldl fmul a) = rv a * rprod l
  | [], a, ha, _ => ⟨ha, (Rat.mul_one _).symm⟩
  | f :: l, a, ha, h => by
    obtain ⟨h1, h2⟩ := mul_fold l (fmul a f) (fmul_f ha h.hd) h.tl
    refine ⟨h1, ?_⟩
    show rv (l.foldl fmul (fmul a f)) = rv a * (rv f * rprod l)
    rw [h2, rv_mul ha h.hd, Rat.mul_assoc]
theorem sub_fold : ∀ (l : List (Int × Int)) (a : Int × Int), IsF a → AllF l → IsF (l.foldl fsub a) ∧ rv (l.foldl fsub a) = rv a - rsum l
  | [], a, ha, _ => ⟨ha, by show rv a = rv a - 0; rw [Rat.sub_eq_add_neg, show -(0 : Rat) = 0 from rfl, Rat.add_zero]⟩
  | f :: l, a, ha, h => by
    obtain ⟨h1, h2⟩ := sub_fold l (fsub a f) (fsub_f ha h.hd) h.tl
    refine ⟨h1, ?_⟩
    show rv (l.foldl fsub (fsub a f)) = rv a - (rv f + rsum l)
    rw [h2, rv_sub ha h.hd, Rat.sub_eq_add_neg, Rat.sub_eq_add_neg, Rat.sub_eq_add_neg, Rat.neg_add, Rat.add_assoc]
/-- one division, where it is one -/
def ddiv (a f : Int × Int) : Int × Int := if f.1 ≠ 0 ∧ a.1 ≠ 0 then fdiv a f else a
theorem ddiv_f {a f : Int × Int} (ha : IsF a) (hf : IsF f) : IsF (ddiv a f) := by
  unfold ddiv
  split
  · exact fdiv_f ha (by rename_i h; exact h.1)
  · exact ha
theorem div_fold0 : ∀ (l : List (Int × Int)) (a : Int × Int), a.1 = 0 → l.foldl ddiv a = a
  | [], _, _ => rfl
  | f :: l, a, h => by
    show l.foldl ddiv (ddiv a f) = a
    have e : ddiv a f = a := if_neg fun z => z.2 h
    rw [e]
    exact div_fold0 l a h
theorem div_fold : ∀ (l : List (Int × Int)) (a : Int × Int), IsF a → AllF l → (∀ f ∈ l, f.1 ≠ 0) → a.1 ≠ 0 → IsF (l.foldl ddiv a) ∧ rv (l.foldl ddiv a) * rprod l = rv a
  | [], a, ha, _, _, _ => ⟨ha, Rat.mul_one _⟩
  | f :: l, a, ha, h, h0, ha0 => by
    have hf0 : f.1 ≠ 0 := h0 f List.mem_cons_self
    have e : ddiv a f = fdiv a f := if_pos ⟨hf0, ha0⟩
    have hq := fdiv_f (g := f) ha hf0
    have rq := rv_div (g := f) ha hf0
    have rf0 : rv f ≠ 0 := fun z => hf0 ((rv_zero h.hd).mp z)
    have hb : rv (fdiv a f) * rv f = rv a := by rw [rq, Rat.mul_assoc, Rat.inv_mul_cancel _ rf0, Rat.mul_one]
    have hq0 : (fdiv a f).1 ≠ 0 := fun z => by
      have := (rv_zero hq).mpr z
      rw [this, Rat.zero_mul] at hb
      exact ha0 ((rv_zero ha).mp hb.symm)
    obtain ⟨h1, h2⟩ := div_fold l (fdiv a f) hq h.tl (fun g hg => h0 g (List.mem_cons_of_mem _ hg)) hq0
    show IsF (l.foldl ddiv (ddiv a f)) ∧ rv (l.foldl ddiv (ddiv a f)) * (rv f * rprod l) = rv a
    rw [e]
    refine ⟨h1, ?_⟩
    rw [Rat.mul_comm (rv f), ← Rat.mul_assoc, h2, hb]
theorem rprod0 : ∀ {l : List (Int × Int)}, AllF l → (rprod l = 0 ↔ ∃ f ∈ l, f.1 = 0)
  | [], _ => ⟨fun e => absurd e (by decide), fun ⟨_, h, _⟩ => nomatch h⟩
  | f :: l, h => by
    show rv f * rprod l = 0 ↔ _
    rw [Rat.mul_eq_zero, rv_zero h.hd, rprod0 h.tl]
    constructor
    · rintro (e | ⟨g, hg, e⟩)
      · exact ⟨f, List.mem_cons_self, e⟩
      · exact ⟨g, List.mem_cons_of_mem _ hg, e⟩
    · rintro ⟨g, hg, e⟩
      rcases List.mem_cons.mp hg with z | z
      · exact Or.inl (z ▸ e)
      · exact Or.inr ⟨g, z, e⟩
/-- told in two orders the same -/
theorem sum_same {l m : List (Int × Int)} (p : l.Perm m) (h : AllF l) : l.foldl fadd f0 = m.foldl fadd f0 := by
  have hm : AllF m := fun f hf => h f (p.mem_iff.mpr hf)
  obtain ⟨a1, a2⟩ := sum_fold l f0 f0_f h
  obtain ⟨b1, b2⟩ := sum_fold m f0 f0_f hm
  exact rv_inj a1 b1 (by rw [a2, b2, rsum_perm p])
theorem mul_same {l m : List (Int × Int)} (p : l.Perm m) (h : AllF l) : l.foldl fmul f1 = m.foldl fmul f1 := by
  have hm : AllF m := fun f hf => h f (p.mem_iff.mpr hf)
  obtain ⟨a1, a2⟩ := mul_fold l f1 f1_f h
  obtain ⟨b1, b2⟩ := mul_fold m f1 f1_f hm
  exact rv_inj a1 b1 (by rw [a2, b2, rprod_perm p])
theorem sub_none {l m : List (Int × Int)} (p : l.Perm m) (h : AllF l) : m.foldl fsub (l.foldl fadd f0) = f0 := by
  have hm : AllF m := fun f hf => h f (p.mem_iff.mpr hf)
  obtain ⟨a1, a2⟩ := sum_fold l f0 f0_f h
  obtain ⟨b1, b2⟩ := sub_fold m _ a1 hm
  exact rv_inj b1 f0_f (by rw [b2, a2, rv0, Rat.zero_add, rsum_perm p, Rat.sub_self])
theorem div_none {l m : List (Int × Int)} (p : l.Perm m) (h : AllF l) : m.foldl ddiv (l.foldl fmul f1) = if f0 ∈ l then f0 else f1 := by
  have hm : AllF m := fun f hf => h f (p.mem_iff.mpr hf)
  obtain ⟨a1, a2⟩ := mul_fold l f1 f1_f h
  rw [rv1, Rat.one_mul] at a2
  by_cases hz : f0 ∈ l
  · rw [if_pos hz]
    have z : rprod l = 0 := (rprod0 h).mpr ⟨f0, hz, rfl⟩
    have z1 : (l.foldl fmul f1).1 = 0 := (rv_zero a1).mp (a2.trans z)
    rw [div_fold0 _ _ z1]
    exact (is0 a1).mp z1
  · rw [if_neg hz]
    have nz : ∀ f ∈ l, f.1 ≠ 0 := fun f hf e => hz ((is0 (h f hf)).mp e ▸ hf)
    have np : rprod l ≠ 0 := fun e => by
      obtain ⟨f, hf, e'⟩ := (rprod0 h).mp e
      exact nz f hf e'
    have n1 : (l.foldl fmul f1).1 ≠ 0 := fun e => np (a2.symm.trans ((rv_zero a1).mpr e))
    obtain ⟨b1, b2⟩ := div_fold m _ a1 hm (fun f hf => nz f (p.mem_iff.mpr hf)) n1
    refine rv_inj b1 f1_f ?_
    rw [a2, rprod_perm p] at b2
    have np' : rprod m ≠ 0 := by rw [← rprod_perm p]; exact np
    have : rv (m.foldl ddiv (l.foldl fmul f1)) * rprod m * (rprod m)⁻¹ = rprod m * (rprod m)⁻¹ := by rw [b2]
    rw [Rat.mul_assoc, Rat.mul_inv_cancel _ np', Rat.mul_one] at this
    rw [this, rv1]
/-- one fraction times a sum is the sum of its products -/
theorem spread_fold (x : Int × Int) (hx : IsF x) : ∀ (l : List (Int × Int)) (a : Int × Int), IsF a → AllF l → IsF (l.foldl (fun a f => fadd a (fmul x f)) a) ∧ rv (l.foldl (fun a f => fadd a (fmul x f)) a) = rv a + rv x * rsum l
  | [], a, ha, _ => ⟨ha, by show rv a = rv a + rv x * 0; rw [Rat.mul_zero, Rat.add_zero]⟩
  | f :: l, a, ha, h => by
    obtain ⟨h1, h2⟩ := spread_fold x hx l (fadd a (fmul x f)) (fadd_f ha (fmul_f hx h.hd)) h.tl
    refine ⟨h1, ?_⟩
    show rv (l.foldl (fun a f => fadd a (fmul x f)) (fadd a (fmul x f))) = rv a + rv x * (rv f + rsum l)
    rw [h2, rv_add ha (fmul_f hx h.hd), rv_mul hx h.hd, Rat.mul_add, Rat.add_assoc]
theorem spread_same {x : Int × Int} {l : List (Int × Int)} (hx : IsF x) (h : AllF l) : l.foldl (fun a f => fadd a (fmul x f)) f0 = fmul (fmul f1 x) (l.foldl fadd f0) := by
  obtain ⟨a1, a2⟩ := spread_fold x hx l f0 f0_f h
  obtain ⟨b1, b2⟩ := sum_fold l f0 f0_f h
  have c := fmul_f f1_f hx
  refine rv_inj a1 (fmul_f c b1) ?_
  rw [a2, rv_mul c b1, rv_mul f1_f hx, b2, rv0, rv1, Rat.one_mul, Rat.zero_add, Rat.zero_add]
/-! sizes -/
def Bt (k : Nat) (f : Int × Int) : Prop := f.1.natAbs < 2 ^ k ∧ f.2.natAbs < 2 ^ k
theorem Bt.mono {j k : Nat} {f : Int × Int} (h : Bt j f) (hk : j ≤ k) : Bt k f :=
  ⟨Nat.lt_of_lt_of_le h.1 (Nat.pow_le_pow_right (by decide) hk), Nat.lt_of_lt_of_le h.2 (Nat.pow_le_pow_right (by decide) hk)⟩
theorem mul_lt {a b : Int} {j k : Nat} (ha : a.natAbs < 2 ^ j) (hb : b.natAbs < 2 ^ k) : (a * b).natAbs < 2 ^ (j + k) := by
  rw [Int.natAbs_mul, Nat.pow_add]
  exact Nat.mul_lt_mul'' ha hb
theorem low_bt {n d : Int} {k : Nat} (h : d ≠ 0) (hn : n.natAbs < 2 ^ k) (hd : d.natAbs < 2 ^ k) : Bt k (low n d) :=
  ⟨Nat.lt_of_le_of_lt (low_top_le h) hn, Nat.lt_of_le_of_lt (low_bottom_le h) hd⟩
section
variable {f g : Int × Int} {j k : Nat}
theorem fadd_bt (hf : IsF f) (hg : IsF g) (a : Bt k f) (b : Bt j g) : Bt (k + j + 1) (fadd f g) := by
  have h1 := mul_lt a.1 b.2
  have h2 := mul_lt a.2 b.1
  have h3 := mul_lt a.2 b.2
  have h4 := Int.natAbs_add_le (f.1 * g.2) (g.1 * f.2)
  rw [Int.mul_comm g.1] at h4
  have h5 : (2 : Nat) ^ (k + j + 1) = 2 ^ (k + j) + 2 ^ (k + j) := Nat.two_pow_succ _
  refine low_bt (Int.mul_ne_zero hf.ne hg.ne) ?_ (by omega)
  rw [Int.mul_comm g.1]
  omega
theorem fsub_bt (hf : IsF f) (hg : IsF g) (a : Bt k f) (b : Bt j g) : Bt (k + j + 1) (fsub f g) := by
  have h1 := mul_lt a.1 b.2
  have h2 := mul_lt a.2 b.1
  have h3 := mul_lt a.2 b.2
  have h4 := Int.natAbs_sub_le (f.1 * g.2) (g.1 * f.2)
  rw [Int.mul_comm g.1] at h4
  have h5 : (2 : Nat) ^ (k + j + 1) = 2 ^ (k + j) + 2 ^ (k + j) := Nat.two_pow_succ _
  refine low_bt (Int.mul_ne_zero hf.ne hg.ne) ?_ (by omega)
  rw [Int.mul_comm g.1]
  omega
theorem fmul_bt (hf : IsF f) (hg : IsF g) (a : Bt k f) (b : Bt j g) : Bt (k + j) (fmul f g) :=
  low_bt (Int.mul_ne_zero hf.ne hg.ne) (mul_lt a.1 b.1) (mul_lt a.2 b.2)
theorem fdiv_bt (hf : IsF f) (h0 : g.1 ≠ 0) (a : Bt k f) (b : Bt j g) : Bt (k + j) (fdiv f g) :=
  low_bt (Int.mul_ne_zero hf.ne h0) (mul_lt a.1 b.2) (mul_lt a.2 b.1)
theorem ddiv_bt (hf : IsF f) (a : Bt k f) (b : Bt j g) : Bt (k + j) (ddiv f g) := by
  unfold ddiv
  split
  · rename_i h
    exact fdiv_bt hf h.1 a b
  · exact a.mono (Nat.le_add_right _ _)
end
end Lf

set_option Elab.async false
set_option linter.all false
set_option maxRecDepth 100000
set_option maxHeartbeats 4000000
set_option exponentiation.threshold 3000
/-! Fractions that stand in the heap or among the module's constants, and rows of them. -/
namespace Lf
open PySem PySem.Spec PyProof.Rows L2
/-- a fraction stands at v -/
def AtK (K : PySem.W.Frag) (H : Hp) (v : V) (f : Int × Int) : Prop := ∃ p, v = .ref p ∧ SqT K H p [.int f.1, .int f.2]
theorem AtK.same {K : PySem.W.Frag} {H H' : Hp} {v : V} {f : Int × Int} (s : Same H H') (h : AtK K H v f) : AtK K H' v f := by
  obtain ⟨p, e, h⟩ := h
  refine ⟨p, e, ?_⟩
  rcases h with (h | ⟨o, h⟩) | h
  · exact .inl (.inl (s _ _ h))
  · exact .inl (.inr ⟨o, s _ _ h⟩)
  · exact .inr h
theorem AtK.of {K : PySem.W.Frag} {H : Hp} {p : Addr} {f : Int × Int} (h : H p = some (.tup [.int f.1, .int f.2])) : AtK K H (.ref p) f := ⟨p, rfl, .inl (.inl h)⟩
/-- fractions stand at vs -/
def AtKs (K : PySem.W.Frag) (H : Hp) (vs : List V) (fs : List (Int × Int)) : Prop := Paired (AtK K H) vs fs
theorem AtKs.map {K : PySem.W.Frag} {H H' : Hp} (s : ∀ v f, AtK K H v f → AtK K H' v f) : ∀ {vs : List V} {fs : List (Int × Int)}, AtKs K H vs fs → AtKs K H' vs fs
  | _, _, .nil => .nil
  | _, _, .cons a r => .cons (s _ _ a) (AtKs.map s r)
theorem AtKs.same {K : PySem.W.Frag} {H H' : Hp} (s : Same H H') {vs : List V} {fs : List (Int × Int)} (h : AtKs K H vs fs) : AtKs K H' vs fs := h.map fun _ _ => AtK.same s
theorem AtKs.get {K : PySem.W.Frag} {H : Hp} : ∀ {vs : List V} {fs : List (Int × Int)} {i : Nat} {v : V}, AtKs K H vs fs → vs[i]? = some v → ∃ f, fs[i]? = some f ∧ AtK K H v f
  | _, _, _, _, .nil, e => by simp at e
  | _, _, 0, _, .cons a _, e => by
    simp at e
    subst e
    exact ⟨_, rfl, a⟩
  | _, _, i + 1, v, .cons _ r, e => by
    obtain ⟨f, h1, h2⟩ := AtKs.get (i := i) (v := v) r (by simpa using e)
    exact ⟨f, by simpa using h1, h2⟩
theorem AtKs.getF {K : PySem.W.Frag} {H : Hp} : ∀ {vs : List V} {fs : List (Int × Int)} {i : Nat} {f : Int × Int}, AtKs K H vs fs → fs[i]? = some f → ∃ v, vs[i]? = some v ∧ AtK K H v f
  | _, _, _, _, .nil, e => by simp at e
  | _, _, 0, _, .cons a _, e => by
    simp at e
    subst e
    exact ⟨_, rfl, a⟩
  | _, _, i + 1, f, .cons _ r, e => by
    obtain ⟨v, h1, h2⟩ := AtKs.getF (i := i) (f := f) r (by simpa using e)
    exact ⟨v, by simpa using h1, h2⟩
theorem AtKs.length {K : PySem.W.Frag} {H : Hp} {vs : List V} {fs : List (Int × Int)} (h : AtKs K H vs fs) : vs.length = fs.length := Paired.length h
theorem AtKs.app {K : PySem.W.Frag} {H : Hp} : ∀ {vs us : List V} {fs gs : List (Int × Int)}, AtKs K H vs fs → AtKs K H us gs → AtKs K H (vs ++ us) (fs ++ gs)
  | _, _, _, _, .nil, h => h
  | _, _, _, _, .cons a r, h => .cons a (AtKs.app r h)
theorem fold_take {α β : Type} (g : β → α → β) (a : β) {l : List α} {i : Nat} {x : α} (h : l[i]? = some x) : (l.take (i + 1)).foldl g a = g ((l.take i).foldl g a) x := by
  rw [List.take_add_one, h, List.foldl_append]
  rfl
theorem take_all {l : List (Int × Int)} (h : AllF l) (i : Nat) : AllF (l.take i) := fun f hf => h f (List.mem_of_mem_take hf)
def AllB (b : Nat) (l : List (Int × Int)) : Prop := ∀ f ∈ l, Bt b f
theorem add_bt {b : Nat} : ∀ (l : List (Int × Int)) (k : Nat) (a : Int × Int), IsF a → AllF l → Bt k a → AllB b l → Bt (k + (b + 1) * l.length) (l.foldl fadd a)
  | [], _, _, _, _, h, _ => h
  | f :: l, k, a, ha, h, hk, hb => by
    have := add_bt l (k + b + 1) (fadd a f) (fadd_f ha h.hd) h.tl (fadd_bt ha h.hd hk (hb f List.mem_cons_self)) (fun g hg => hb g (List.mem_cons_of_mem _ hg))
    refine this.mono ?_
    rw [List.length_cons, Nat.mul_succ]
    omega
theorem bt01 : Bt 1 f0 ∧ Bt 1 f1 := ⟨⟨by decide, by decide⟩, ⟨by decide, by decide⟩⟩
theorem fadd_0 {f : Int × Int} (h : IsF f) : fadd f0 f = f := by
  refine rv_inj (fadd_f f0_f h) h ?_
  rw [rv_add f0_f h, rv0]
  exact Rat.zero_add _
/-- what holds by two promises holds by either -/
theorem FnG.or {P : Program} {w : World} {K : PySem.W.Frag} {mg : Str → Option Value} {base : Heap} {CX : CXT} {k : Nat} {f : Addr} {fd : FuncData} {ps : List Str} {sp sq : Sp} (F : FnG P w K mg base CX k f fd ps sp) (G : FnG P w K mg base CX k f fd ps sq) :
    FnG P w K mg base CX k f fd ps (fun vs H Q E => sp vs H Q E ∨ sq vs H Q E) :=
  ⟨fun vs H Q E h => h.elim (F.size vs H Q E) (G.size vs H Q E), fun B out s H ar us vs Q E r hg e0 hb hv h => h.elim (F.goes B out s H ar us vs Q E r hg e0 hb hv) (G.goes B out s H ar us vs Q E r hg e0 hb hv)⟩
end Lf

set_option Elab.async false
set_option linter.all false
set_option maxRecDepth 100000
set_option maxHeartbeats 4000000
set_option exponentiation.threshold 3000
/-! Weights, steps, how often a step goes into weights, aims. -/
namespace Lf
theorem low_b {n d : Int} (hd : 0 < d) : 0 < (low n d).2 := (low_is (n := n) (by omega)).1
theorem low_top_pos {n d : Int} (hd : 0 < d) (hn : 0 < n) : 0 < (low n d).1 := by
  have h := low_cross (n := n) (d := d) (by omega)
  have hb := low_b (n := n) hd
  have : 0 < (low n d).1 * d := by rw [h]; exact Int.mul_pos hn hb
  exact Int.pos_of_mul_pos_left this hd
theorem low_top_nn {n d : Int} (hd : 0 < d) (hn : 0 ≤ n) : 0 ≤ (low n d).1 := by
  have h := low_cross (n := n) (d := d) (by omega)
  have hb := low_b (n := n) hd
  have h2 : 0 ≤ (low n d).1 * d := by rw [h]; exact Int.mul_nonneg hn (Int.le_of_lt hb)
  exact Int.nonneg_of_mul_nonneg_left h2 hd
theorem fdiv_pos_eq {a b : Int} (h : 0 < b) : a.fdiv b = a / b := Int.fdiv_eq_ediv_of_nonneg a (Int.le_of_lt h)
theorem low_fl {n d : Int} (hd : 0 < d) : (low n d).1.fdiv (low n d).2 = n.fdiv d := by
  have h := low_cross (n := n) (d := d) (by omega)
  have hb := low_b (n := n) hd
  rw [fdiv_pos_eq hb, fdiv_pos_eq hd]
  have e1 : d * (low n d).1 / (d * (low n d).2) = (low n d).1 / (low n d).2 := Int.mul_ediv_mul_of_pos _ _ hd
  have e2 : (low n d).2 * n / ((low n d).2 * d) = n / d := Int.mul_ediv_mul_of_pos _ _ hb
  rw [← e1, ← e2, Int.mul_comm d (low n d).1, h, Int.mul_comm n, Int.mul_comm d]
/-- at most c -/
def Vb (c : Int) (f : Int × Int) : Prop := f.1 ≤ c * f.2
theorem vb_low {n d c : Int} (hd : 0 < d) (h : n ≤ c * d) : Vb c (low n d) := by
  have hc := low_cross (n := n) (d := d) (by omega)
  have hb := low_b (n := n) hd
  unfold Vb
  have h1 : (low n d).1 * d ≤ (c * (low n d).2) * d := by
    rw [hc]
    have := Int.mul_le_mul_of_nonneg_right h (Int.le_of_lt hb)
    have e : c * d * (low n d).2 = c * (low n d).2 * d := by grind
    omega
  exact Int.le_of_mul_le_mul_right h1 hd
theorem vb_add {f g : Int × Int} {c e : Int} (hf : IsF f) (hg : IsF g) (h : Vb c f) (k : Vb e g) : Vb (c + e) (fadd f g) := by
  have h2 : 0 < f.2 := hf.1
  have k2 : 0 < g.2 := hg.1
  refine vb_low (Int.mul_pos h2 k2) ?_
  have a := Int.mul_le_mul_of_nonneg_right h (Int.le_of_lt k2)
  have b := Int.mul_le_mul_of_nonneg_right k (Int.le_of_lt h2)
  have e1 : c * f.2 * g.2 + e * g.2 * f.2 = (c + e) * (f.2 * g.2) := by grind
  omega
theorem vb_fold {C : Int} : ∀ (l : List (Int × Int)) (c : Int) (a : Int × Int), IsF a → AllF l → Vb c a → (∀ f ∈ l, Vb C f) → Vb (c + C * l.length) (l.foldl fadd a)
  | [], c, a, _, _, h, _ => by simpa using h
  | f :: l, c, a, ha, h, hk, hb => by
    have := vb_fold l (c + C) (fadd a f) (fadd_f ha h.hd) h.tl (vb_add ha h.hd hk (hb f List.mem_cons_self)) (fun g hg => hb g (List.mem_cons_of_mem _ hg))
    rw [List.length_cons]
    have e : c + C + C * (l.length : Int) = c + C * ((l.length + 1 : Nat) : Int) := by
      rw [Int.natCast_add, Int.mul_add]
      omega
    rw [← e]
    exact this
/-- a weight -/
structure Wt (f : Int × Int) : Prop where
  lo : IsF f
  po : 0 < f.1
  bt : Bt 41 f
theorem Wt.vb {f : Int × Int} (h : Wt f) : Vb (2 ^ 41) f := by
  unfold Vb
  have h1 := h.bt.1
  have h2 : 0 < f.2 := h.lo.1
  have h3 : f.1 < 2 ^ 41 := by
    have := h.po
    omega
  have : (2 : Int) ^ 41 * 1 ≤ 2 ^ 41 * f.2 := Int.mul_le_mul_of_nonneg_left (by omega) (by decide)
  omega
/-- weights -/
structure Wts (fs : List (Int × Int)) : Prop where
  all : ∀ f ∈ fs, Wt f
  one : 1 ≤ fs.length
  few : fs.length ≤ 12
theorem Wts.f {fs : List (Int × Int)} (h : Wts fs) : AllF fs := fun f hf => (h.all f hf).lo
theorem Wts.b {fs : List (Int × Int)} (h : Wts fs) : AllB 41 fs := fun f hf => (h.all f hf).bt
def tot (fs : List (Int × Int)) : Int × Int := fs.foldl fadd f0
theorem tot_f {fs : List (Int × Int)} (h : AllF fs) : IsF (tot fs) := (sum_fold fs f0 f0_f h).1
theorem tot_bt {fs : List (Int × Int)} (h : Wts fs) : Bt 505 (tot fs) := by
  have := add_bt (b := 41) fs 1 f0 f0_f h.f bt01.1 h.b
  refine this.mono ?_
  have := h.few
  omega
theorem fold_pos : ∀ (l : List (Int × Int)) (a : Int × Int), IsF a → AllF l → (∀ f ∈ l, 0 < f.1) → 0 ≤ a.1 → (l ≠ [] ∨ 0 < a.1) → 0 < (l.foldl fadd a).1
  | [], a, _, _, _, _, h => h.elim (fun z => absurd rfl z) id
  | f :: l, a, ha, hF, hp, h0, _ => by
    have h2 : 0 < a.2 := ha.1
    have k2 : 0 < f.2 := hF.hd.1
    have hpos : 0 < (fadd a f).1 := by
      refine low_top_pos (Int.mul_pos h2 k2) ?_
      have a1 := Int.mul_nonneg h0 (Int.le_of_lt k2)
      have a2 := Int.mul_pos (hp f List.mem_cons_self) h2
      omega
    exact fold_pos l (fadd a f) (fadd_f ha hF.hd) hF.tl (fun g hg => hp g (List.mem_cons_of_mem _ hg)) (Int.le_of_lt hpos) (.inr hpos)
theorem tot_pos {fs : List (Int × Int)} (h : Wts fs) : 0 < (tot fs).1 := by
  refine fold_pos fs f0 f0_f h.f (fun f hf => (h.all f hf).po) (by decide) (.inl fun z => ?_)
  have := h.one
  rw [z] at this
  cases this
theorem tot_vb {fs : List (Int × Int)} (h : Wts fs) : Vb (2 ^ 45) (tot fs) := by
  have v := vb_fold (C := 2 ^ 41) fs 0 f0 f0_f h.f (by unfold Vb; decide) (fun f hf => (h.all f hf).vb)
  unfold Vb at v ⊢
  have hb : 0 < (tot fs).2 := (tot_f h.f).1
  have h12 : (0 : Int) + 2 ^ 41 * (fs.length : Int) ≤ 2 ^ 45 := by
    have := h.few
    omega
  have := Int.mul_le_mul_of_nonneg_right h12 (Int.le_of_lt hb)
  show (tot fs).1 ≤ _
  have v' : (tot fs).1 ≤ (0 + 2 ^ 41 * (fs.length : Int)) * (tot fs).2 := v
  omega
/-- how often the step goes into the weights -/
def many (fs : List (Int × Int)) (st : Int × Int) : Int := ((tot fs).1 * st.2).fdiv ((tot fs).2 * st.1)
theorem many_nn {fs : List (Int × Int)} {st : Int × Int} (h : Wts fs) (hs : Wt st) : 0 ≤ many fs st := by
  have hb : 0 < (tot fs).2 := (tot_f h.f).1
  have hd := Int.mul_pos hb hs.po
  unfold many
  rw [fdiv_pos_eq hd]
  exact Int.ediv_nonneg (Int.mul_nonneg (Int.le_of_lt (tot_pos h)) (Int.le_of_lt hs.lo.1)) (Int.le_of_lt hd)
theorem many_lt {fs : List (Int × Int)} {st : Int × Int} (h : Wts fs) (hs : Wt st) : (many fs st).natAbs < 2 ^ 90 := by
  have hb : 0 < (tot fs).2 := (tot_f h.f).1
  have hd := Int.mul_pos hb hs.po
  have h0 := many_nn h hs
  have hv : (tot fs).1 ≤ 2 ^ 45 * (tot fs).2 := tot_vb h
  have s2 : 0 < st.2 := hs.lo.1
  have s1 := hs.po
  have key : many fs st ≤ 2 ^ 45 * st.2 := by
    unfold many
    rw [fdiv_pos_eq hd]
    refine Int.ediv_le_of_le_mul hd ?_
    have a := Int.mul_le_mul_of_nonneg_right hv (Int.le_of_lt s2)
    have b : 2 ^ 45 * (tot fs).2 * st.2 * 1 ≤ 2 ^ 45 * (tot fs).2 * st.2 * st.1 := Int.mul_le_mul_of_nonneg_left (by omega) (Int.mul_nonneg (Int.mul_nonneg (by decide) (Int.le_of_lt hb)) (Int.le_of_lt s2))
    have e : 2 ^ 45 * (tot fs).2 * st.2 * st.1 = 2 ^ 45 * st.2 * ((tot fs).2 * st.1) := by grind
    omega
  have hb2 := hs.bt.2
  omega
theorem many_is {fs : List (Int × Int)} {st : Int × Int} (h : Wts fs) (hs : Wt st) : (fdiv (tot fs) st).1.fdiv (fdiv (tot fs) st).2 = many fs st := low_fl (Int.mul_pos (tot_f h.f).1 hs.po)
/-- all weights by how many steps -/
def factor (fs : List (Int × Int)) (st : Int × Int) : Int × Int := fdiv (many fs st, 1) (tot fs)
theorem m1_f (m : Int) : IsF (m, 1) := ⟨by show (0 : Int) < 1; decide, by show Nat.Coprime m.natAbs 1; exact Nat.coprime_one_right _⟩
theorem factor_f {fs : List (Int × Int)} {st : Int × Int} (h : Wts fs) : IsF (factor fs st) := fdiv_f (m1_f _) (by have := tot_pos h; omega)
theorem many_bt {fs : List (Int × Int)} {st : Int × Int} (h : Wts fs) (hs : Wt st) : Bt 90 (many fs st, 1) := ⟨many_lt h hs, by show (1 : Int).natAbs < 2 ^ 90; decide⟩
theorem factor_bt {fs : List (Int × Int)} {st : Int × Int} (h : Wts fs) (hs : Wt st) : Bt 595 (factor fs st) := fdiv_bt (m1_f _) (by have := tot_pos h; omega) (many_bt h hs) (tot_bt h)
def aim (fs : List (Int × Int)) (st f : Int × Int) : Int × Int := fmul f (factor fs st)
theorem aim_f {fs : List (Int × Int)} {st f : Int × Int} (h : Wts fs) (hf : Wt f) : IsF (aim fs st f) := fmul_f hf.lo (factor_f h)
theorem aim_bt {fs : List (Int × Int)} {st f : Int × Int} (h : Wts fs) (hs : Wt st) (hf : Wt f) : Bt 636 (aim fs st f) := fmul_bt hf.lo (factor_f h) hf.bt (factor_bt h hs)
/-- the aim as the law reckons it -/
theorem aim_low {fs : List (Int × Int)} {st f : Int × Int} (h : Wts fs) (hf : Wt f) : aim fs st f = low (f.1 * (tot fs).2 * many fs st) (f.2 * (tot fs).1) := by
  have t1 : (tot fs).1 ≠ 0 := by have := tot_pos h; omega
  have hd : f.2 * (tot fs).1 ≠ 0 := Int.mul_ne_zero hf.lo.ne t1
  refine rv_inj (aim_f h hf) (low_f hd) ?_
  have e : rv (aim fs st f) = rv f * rv (factor fs st) := rv_mul hf.lo (factor_f (st := st) h)
  have e2 : rv (factor fs st) = rv (many fs st, 1) * (rv (tot fs))⁻¹ := rv_div (m1_f _) t1
  rw [e, e2, rv_low hd]
  unfold rv
  rw [Rat.inv_divInt, Rat.divInt_mul_divInt, Rat.divInt_mul_divInt]
  congr 1 <;> grind
end Lf

set_option Elab.async false
set_option linter.all false
set_option maxRecDepth 100000
set_option maxHeartbeats 4000000
set_option exponentiation.threshold 3000
/-! Rows of fractions as data: shown, compared. -/
namespace Lf
open PySem PySem.Spec PyProof.Rows L2
section
variable {K : PySem.W.Frag}
theorem tD_shaped (f : Int × Int) : SeqAt.shaped (tD f) = true := by
  unfold SeqAt.shaped
  rw [Bool.and_eq_true]
  refine ⟨by simp only [tD, PyData.canLay0, PyData.canLayAll0, Bool.and_self], decide_eq_true ?_⟩
  simp only [tD, PyData.depth, PyData.depthAll]
  omega
theorem AtK.dp {H : Hp} {v : V} {f : Int × Int} (h : AtK K H v f) : Dp K H v (tD f) := by
  obtain ⟨p, rfl, hp⟩ := h
  exact dp2 hp
theorem AtKs.dpAll {H : Hp} : ∀ {vs : List V} {fs : List (Int × Int)}, AtKs K H vs fs → DpAll K H vs (fs.map tD)
  | _, _, .nil => .nil
  | _, _, .cons ⟨p, e, h⟩ r => by
    subst e
    exact .cons (dp2 h) (AtKs.dpAll r)
theorem row_lay : ∀ fs : List (Int × Int), PyData.canLayAll0 (fs.map tD) = true ∧ PyData.depthAll (fs.map tD) ≤ 1
  | [] => ⟨by simp only [List.map_nil, PyData.canLayAll0], by simp only [List.map_nil, PyData.depthAll]; omega⟩
  | f :: fs => by
    obtain ⟨i1, i2⟩ := row_lay fs
    refine ⟨?_, ?_⟩
    · simp only [List.map_cons, PyData.canLayAll0, i1, tD, PyData.canLay0, Bool.and_self]
    · simp only [List.map_cons, PyData.depthAll, tD, PyData.depth]
      omega
theorem row_shaped (fs : List (Int × Int)) : SeqAt.shaped (.list (fs.map tD)) = true := by
  obtain ⟨i1, i2⟩ := row_lay fs
  unfold SeqAt.shaped
  rw [Bool.and_eq_true]
  refine ⟨by simp only [PyData.canLay0]; exact i1, decide_eq_true ?_⟩
  simp only [PyData.depth]
  omega
theorem eqv_tD (f g : Int × Int) : PyData.eqv (tD f) (tD g) = decide (f = g) := by
  obtain ⟨a, b⟩ := f
  obtain ⟨c, d⟩ := g
  simp only [tD, PyData.eqv, PyData.eqvAll, Bool.and_true]
  by_cases h : (a, b) = (c, d)
  · rw [decide_eq_true h]
    cases h
    simp
  · rw [decide_eq_false h]
    by_cases h1 : a = c
    · by_cases h2 : b = d
      · exact absurd (by rw [h1, h2]) h
      · simp [h2]
    · simp [h1]
theorem row_eqv : ∀ fs : List (Int × Int), PyData.eqvAll (fs.map tD) (fs.map tD) = true
  | [] => by simp only [List.map_nil, PyData.eqvAll]
  | f :: fs => by simp only [List.map_cons, PyData.eqvAll, eqv_tD, row_eqv fs, decide_true, Bool.and_self]
theorem rowD_eqv (fs : List (Int × Int)) : PyData.eqv (.list (fs.map tD)) (.list (fs.map tD)) = true := by
  simp only [PyData.eqv]
  exact row_eqv fs
theorem Ft.intB {k : Nat} {n : Int} (h : n.natAbs < 2 ^ k) (hk : k ≤ 900) (h0 : 0 < k) : Ft k 0 (.int n) := by
  have f := Ft.int (n := n) (Nat.lt_of_lt_of_le h (Nat.pow_le_pow_right (by decide) hk))
  refine ⟨f.sh, f.nd, f.dp, f.lv, ?_⟩
  simp only [PyData.weight]
  have := PySem.Flt.log2_lt_of (by omega) h
  split <;> omega
theorem row_ft {k : Nat} (hk : k ≤ 900) (h0 : 0 < k) : ∀ fs : List (Int × Int), (∀ f ∈ fs, Bt k f) → FtA ((2 * k + 3) * fs.length) 1 (fs.map tD)
  | [], _ => by
    have := FtA.nil
    exact ⟨this.sh, this.nd, Nat.le_trans this.dp (by decide), this.lv, by simpa using this.wt⟩
  | f :: fs, h => by
    have hb := h f List.mem_cons_self
    have f1 : Ft _ _ (tD f) := Ft.tuple (.cons (Ft.intB hb.1 hk h0) (.cons (Ft.intB hb.2 hk h0) .nil))
    have r := FtA.cons f1 (row_ft hk h0 fs fun g hg => h g (List.mem_cons_of_mem _ hg))
    rw [List.map_cons]
    refine ⟨r.sh, r.nd, Nat.le_trans r.dp (by decide), r.lv, Nat.le_trans r.wt ?_⟩
    rw [List.length_cons, Nat.mul_succ]
    omega
theorem cut_last (ys : List V) (x : V) : cutV (ys ++ [x]) none (some (-1)) = ys := by
  unfold cutV
  have h1 : HT.sIx (ys ++ [x]).length 0 none = 0 := by simp [HT.sIx]
  have h2 : HT.sIx (ys ++ [x]).length (ys ++ [x]).length (some (-1)) = ys.length := by
    simp [HT.sIx]
    omega
  rw [h1, h2]
  simp
theorem rowD {H : Hp} {l : Addr} {xs : List V} {fs : List (Int × Int)} (h : SqL K H l xs) (a : AtKs K H xs fs) : Dp K H (.ref l) (.list (fs.map tD)) := .lst h a.dpAll
theorem pg_tupK {X : Cx} {K : PySem.W.Frag} {es : List Expr} {k : Nat} {t : TGs} {n : Nat} {pos : Pos} (hc : X.calm = true) (h : PGs X es t)
    (hn : (assignEach es X.env).length = n := by rfl) (hst : (assignEach es X.env).findIdx? (·.1) = none := by rfl) (hK : X.K = K := by rfl) : PG X (.Tuple es k pos) (gTup K n t) := hK ▸ pg_tup hc h hn hst
end
end Lf

set_option Elab.async false
set_option linter.all false
set_option maxRecDepth 100000
set_option maxHeartbeats 4000000
/-! Own classes made, and their methods called, where no guard stands (FnG). -/
namespace Lf
open PySem PySem.Spec PyProof.Rows L2
theorem make_guards {A : Around} (h : A.guards = some []) (C : Addr) (us : List Value) (kw : List (Str × Value)) : (A.under (.builtin "type.__call__" ⟨.ref C :: us, kw⟩)).guards = some [] := by
  show pushGuards (Code.guards (.builtin "type.__call__" ⟨.ref C :: us, kw⟩)) A.guards = some []
  rw [h]
  rfl
section
variable {X : Cx} {CX : CXT} {k n : Nat} {f C : Addr} {fd : FuncData} {ps ks : List Str} {sp : Sp} {x m : Str} {p pos apos : Pos} {e o : Expr} {es : List Expr} {kws : List Keyword} {ta : TE} {t tk : TA} {g : List Value → List Value → List Value} {gV : List V → List V → List V}
/-- an __init__ runs on a new object -/
theorem run_mkG {pins : List (Addr × Obj)} {σ : L2.St} {H : Hp} {s : Shared} {Q : VK} {us ws : List Value} {vs zs : List V} {E : XK} (M : Mk X.K C f) (F : FnG X.prog X.w X.K X.mg X.base CX k f fd ps sp) (hr : Room (k + 1) X.A) (hG : X.A.guards = some []) (hb : KBn X.K fd ps (n + 1) ks g gV)
    (hx : PassesAt CX X σ E) (I : Inv X pins σ H s) (r : Vals vs us) (rz : Vals zs ws) (l1 : vs.length = n) (l2 : zs.length = ks.length)
    (h : ∀ x dx, H x = none → H dx = none → dx ≠ x → sp (gV (.ref x :: vs) zs) (upd (upd H dx (.own x)) x (.ins C dx [])) (fun v H2 => v = .non ∧ Q (.ref x) H2) E) :
    wpAny (model X.prog X.w) X.A (call (.ref C) us (ks.zip ws)) (EP X pins σ Q) X.xe s := by
  have hq := h (s.heap.objs.size + 1) s.heap.objs.size (I.hok.fresh (Nat.le_succ _)) (I.hok.fresh (Nat.le_refl _)) (Nat.ne_of_lt (Nat.lt_succ_self _))
  have I2 := Inv.made (C := C) I
  have r1 : Vals (V.ref (s.heap.objs.size + 1) :: vs) (Value.ref (s.heap.objs.size + 1) :: us) := .cons rfl r
  have r2 := hb.rel r1 rz
  have lu : (Value.ref (s.heap.objs.size + 1) :: us).length = n + 1 := by
    rw [List.length_cons, ← Paired.length r, l1]
  have lw : ws.length = ks.length := by rw [← Paired.length rz, l2]
  refine wpAny_call (make_map (f := f) I.kIn M.makes M.init (beq_iff_eq.mp M.fn) (codeAny_mono (F.goes _ X.stack _ _ ⟨Value.ref (s.heap.objs.size + 1) :: us, ks.zip ws⟩ _ _ _ E (hr.make C us (ks.zip ws)) (make_guards hG C us (ks.zip ws))
    (I2.env0.make C us (ks.zip ws)) (hb.to _ _ _ I2.kIn lu lw) r2 hq) fun r s' hq' => ?_))
  cases r with
  | error e => exact hx pins _ _ e s' I2 hq'
  | ok fl =>
    cases fl with
    | ret u =>
      obtain ⟨v, H', I3, rv, ev, q3⟩ := I2.after hq'
      subst ev
      exact ⟨rv, ⟨V.ref (s.heap.objs.size + 1), H', I3, rfl, q3⟩⟩
    | next => exact False.elim hq'
    | brk => exact False.elim hq'
    | cont => exact False.elim hq'
/-- C(e, ..), C(e, .., k = v, ..) -/
def tMkG (C : Addr) (n m : Nat) (sp : Sp) (gV : List V → List V → List V) (E : L2.St → XK) (t tk : TA) : TE := fun σ H Q => t σ H fun vs H1 => tk σ H1 fun zs H2 => vs.length = n ∧ zs.length = m ∧ ∀ x dx, H2 x = none → H2 dx = none → dx ≠ x →
  sp (gV (.ref x :: vs) zs) (upd (upd H2 dx (.own x)) x (.ins C dx [])) (fun v H3 => v = .non ∧ Q (.ref x) H3) (E σ)
/-- the class of the module's name x can be made; sp: its __init__ -/
structure MakG (P : Program) (w : World) (K : PySem.W.Frag) (mg : Str → Option Value) (base : Heap) (CX : CXT) (k : Nat) (x : Str) (C f : Addr) (fd : FuncData) (ps : List Str) (sp : Sp) : Prop where
  mks : Mk K C f
  fn : FnG P w K mg base CX k f fd ps sp
  g : mg x = some (.ref C)
theorem pe_mkG {E : L2.St → XK} (M : MakG X.prog X.w X.K X.mg X.base CX k x C f fd ps sp) (hb : KBn X.K fd ps (n + 1) [] g gV) (hr : Room (k + 1) X.A) (hG : X.A.guards = some []) (hx : ∀ σ, PassesAt CX X σ (E σ))
    (ha : PA X (e :: es) t) (hg : Gl X x := by rfl) (hdb : (x == ("__debug__" : Str)) = false := by decide) (he : starEach (e :: es) X.env = (false, eval e X.env) :: starEach es X.env := by rfl) (hpl : (backTo pos (starEach es X.env)).any (·.1) = false := by rfl) :
    PE X (.Call (.Name x p) (e :: es) [] pos) (tMkG C n 0 sp gV E t tNil) := by
  refine ⟨fun pins s σ H Q I h => ?_⟩
  refine wpAny_Call_Name_kw (ld_glob I hg M.g ?_ hdb)
  refine PySem.W.callWith_K (h₀ := X.base) I.ok.mod.kin M.mks.kp (thn (ha.run pos pins s σ H _ I h) fun us s1 ⟨vs, H1, I1, r, l1, l2, q⟩ => ⟨I1.kIn, ?_⟩) he hpl
  exact run_mkG (ws := []) (zs := []) M.mks M.fn hr hG hb (hx σ) I1 r .nil l1 l2 q
theorem pe_mkGK {E : L2.St → XK} (M : MakG X.prog X.w X.K X.mg X.base CX k x C f fd ps sp) (hb : KBn X.K fd ps (n + 1) ks g gV) (hr : Room (k + 1) X.A) (hG : X.A.guards = some []) (hx : ∀ σ, PassesAt CX X σ (E σ))
    (ha : PA X (e :: es) t) (hkw : PK X kws tk) (hks : (backToKw pos (keywordEach kws X.env)).filterMap (·.1) = ks := by rfl) (hg : Gl X x := by rfl) (hall : (backToKw pos (keywordEach kws X.env)).all (·.1.isSome) = true := by rfl)
    (hdb : (x == ("__debug__" : Str)) = false := by decide) (he : starEach (e :: es) X.env = (false, eval e X.env) :: starEach es X.env := by rfl)
    (hpl : ((backTo pos (starEach (e :: es) X.env)).any (·.1) || (backToKw pos (keywordEach kws X.env)).any (·.1.isNone)) = false := by rfl) :
    PE X (.Call (.Name x p) (e :: es) kws pos) (tMkG C n ks.length sp gV E t tk) := by
  refine ⟨fun pins s σ H Q I h => ?_⟩
  refine wpAny_Call_Name_kw (ld_glob I hg M.g ?_ hdb)
  refine PySem.W.callWith_KW (h₀ := X.base) I.ok.mod.kin M.mks.kp hall (thn (ha.run pos pins s σ H _ I h) fun us s1 ⟨vs, H1, I1, r, q⟩ => ?_) hpl he
  refine thn (hkw.run pos pins s1 σ H1 _ I1 q) fun ws s2 ⟨zs, H2, I2, rz, l1, l2, q2⟩ => ⟨I2.kIn, ?_⟩
  rw [hks]
  exact run_mkG M.mks M.fn hr hG hb (hx σ) I2 r rz l1 l2 q2
theorem pe_mkGN {E : L2.St → XK} (M : MakG X.prog X.w X.K X.mg X.base CX k x C f fd ps sp) (hb : KBn X.K fd ps (0 + 1) ks g gV) (hr : Room (k + 1) X.A) (hG : X.A.guards = some []) (hx : ∀ σ, PassesAt CX X σ (E σ))
    (hkw : PK X kws tk) (hks : (backToKw pos (keywordEach kws X.env)).filterMap (·.1) = ks := by rfl) (hg : Gl X x := by rfl) (hall : (backToKw pos (keywordEach kws X.env)).all (·.1.isSome) = true := by rfl)
    (hdb : (x == ("__debug__" : Str)) = false := by decide)
    (hpl : ((backTo pos (starEach [] X.env)).any (·.1) || (backToKw pos (keywordEach kws X.env)).any (·.1.isNone)) = false := by rfl) :
    PE X (.Call (.Name x p) [] kws pos) (tMkG C 0 ks.length sp gV E tNil tk) := by
  refine ⟨fun pins s σ H Q I h => ?_⟩
  refine wpAny_Call_Name_kw (ld_glob I hg M.g ?_ hdb)
  refine PySem.W.callWith_KW0 (h₀ := X.base) I.ok.mod.kin M.mks.kp hall (thn (hkw.run pos pins s σ H _ I h) fun ws s2 ⟨zs, H2, I2, rz, l1, l2, q2⟩ => ⟨I2.kIn, ?_⟩) hpl
  rw [hks]
  exact run_mkG (us := []) (vs := []) M.mks M.fn hr hG hb (hx σ) I2 .nil rz l1 l2 q2
/-- o.m(e, ..) where no guard stands -/
def tMeG (C : Addr) (m : Str) (sp : Sp) (E : L2.St → XK) (ta : TE) (t : TA) : TE := fun σ H Q => ta σ H fun x H1 => ∃ a dx fs, x = .ref a ∧ H1 a = some (.ins C dx fs) ∧ fs.lookup m = none ∧ t σ H1 fun vs H2 => sp (.ref a :: vs) H2 Q (E σ)
structure MetG (P : Program) (w : World) (K : PySem.W.Frag) (mg : Str → Option Value) (base : Heap) (CX : CXT) (k : Nat) (C : Addr) (m : Str) (f : Addr) (fd : FuncData) (ps : List Str) (sp : Sp) : Prop where
  c : Cls K C
  m : Meth K C m f
  fn : FnG P w K mg base CX k f fd ps sp
  b : ∀ (s : Shared) (us : List Value), us.length = ps.length → BindsTo s fd ⟨us, []⟩ (ps.zip us)
theorem pe_meG {pl : Sem Bool} {E : L2.St → XK} (he : PE X o ta) (M : MetG X.prog X.w X.K X.mg X.base CX k C m f fd ps sp) (hr : Room k X.A) (hG : X.A.guards = some []) (hx : ∀ σ, PassesAt CX X σ (E σ)) (ha : PA X (e :: es) t)
    (hst : starEach (e :: es) X.env = (false, eval e X.env) :: starEach es X.env := by rfl) (hpl : (backTo pos (starEach es X.env)).any (·.1) = false := by rfl)
    (ht : eval (.Call (.Attribute o m apos) (e :: es) [] pos) X.env = (do
      let ov ← eval o X.env
      standAt apos.atName
      let (f, first) ← holding [ov] (getMethod ov m pl)
      callWith pos f first (backTo pos (starEach (e :: es) X.env)) (backToKw pos (keywordEach [] X.env))) := by rfl) :
    PE X (.Call (.Attribute o m apos) (e :: es) [] pos) (tMeG C m sp E ta t) := by
  refine ⟨fun pins s σ H Q I h => ?_⟩
  refine PySem.W.methodCall_KW (pl := pl) (thn (he.run pins s σ H _ I h) fun u s1 ⟨x, H1, I1, rx, a, dx, fs, ex, ea, l, q⟩ => ?_) ht
  subst ex
  obtain rfl : u = Value.ref a := rx
  refine getmeth_ok I1 ea M.c M.m l ?_
  refine PySem.W.callWith_K (first := [.ref a]) (h₀ := X.base) I.ok.mod.kin M.m.kp (thn (ha.run pos pins s1 σ H1 _ I1 q) fun us s2 ⟨vs, H2, I2, r, q2⟩ => ⟨I2.kIn, ?_⟩) hst hpl
  have r' : Vals (V.ref a :: vs) (Value.ref a :: us) := .cons rfl r
  exact run_g (ar := ⟨.ref a :: us, []⟩) M.fn hr hG (hx σ) I2 (M.b s2 _ ((Paired.length r').symm.trans (M.fn.size _ _ _ _ q2))) r' q2
theorem pe_meG0 {pl : Sem Bool} {E : L2.St → XK} (he : PE X o ta) (M : MetG X.prog X.w X.K X.mg X.base CX k C m f fd ps sp) (hr : Room k X.A) (hG : X.A.guards = some []) (hx : ∀ σ, PassesAt CX X σ (E σ))
    (ht : eval (.Call (.Attribute o m apos) [] [] pos) X.env = (do
      let ov ← eval o X.env
      standAt apos.atName
      let (f, first) ← holding [ov] (getMethod ov m pl)
      callWith pos f first (backTo pos (starEach [] X.env)) (backToKw pos (keywordEach [] X.env))) := by rfl) :
    PE X (.Call (.Attribute o m apos) [] [] pos) (tMeG C m sp E ta tNil) := by
  refine ⟨fun pins s σ H Q I h => ?_⟩
  refine PySem.W.methodCall_KW (pl := pl) (thn (he.run pins s σ H _ I h) fun u s1 ⟨x, H1, I1, rx, a, dx, fs, ex, ea, l, q⟩ => ?_) ht
  subst ex
  obtain rfl : u = Value.ref a := rx
  refine getmeth_ok I1 ea M.c M.m l ?_
  have r' : Vals [V.ref a] [Value.ref a] := .cons rfl .nil
  exact PySem.W.callWith_K0 (first := [.ref a]) I1.kIn M.m.kp (run_g (ar := ⟨[.ref a], []⟩) M.fn hr hG (hx σ) I1 (M.b s1 _ ((Paired.length r').symm.trans (M.fn.size _ _ _ _ q))) r' q)
end
section
variable {P : Program} {w : World} {K : PySem.W.Frag} {mg : Str → Option Value} {base : Heap} {CX : CXT} {k : Nat} {f : Addr} {fd : FuncData} {ps : List Str} {sp : Sp} {x qual : Str} {st : Stmt} {N : List Str} {dvs : List V} {kws : List (Str × V)}
/-- a def with defaults, by its body -/
theorem GfunDX (F : FunD K x qual (defArgs st) (defBody st) (defScope st) dvs kws f fd) (S : FnScope N ps (defScope st)) (size : ∀ vs H Q E, sp vs H Q E → vs.length = ps.length)
    (body : ∀ (cdv : Value) (B : Around) (out : List Env) (s : Shared) (H : Hp) (vs : List V) (Q : VK) (E : XK), B.guards = some [] →
      Room k (B.deeper (envOfC qual (defScope st) s.heap.objs.size f cdv)) → sp vs H Q E →
      ∃ t, PSs (cxOf CX P w K mg base N qual (defScope st) f cdv B out s H E) (defBody st) t ∧
        t { nx := fun _ H' => Q .non H', rt := Q } (start N vs) H) : FnG P w K mg base CX (k + 1) f fd ps sp := by
  obtain ⟨oc, od, dV, kV, doc, pm, an, cdv, ct, osl, rfl, lk, hcd, _, _⟩ := F.ex
  refine ⟨size, fun B out s H ar us vs Q E hr hg e0 hb r hs => ?_⟩
  have old : ∀ b o, base.get? b = some o → s.heap.get? b = some o := fun b o e => (e0.bs b o e).1
  have kin : K.In s.heap := e0.mod.kin.keeps old
  refine codeAny_call_function hr.depth (kin _ _ lk) rfl S.co S.gen rfl (PySem.W.codeRec_of kin hcd) (hb _ _ _ _ ?_)
  refine wpAny_newFunctionEnv_cells S.kind (fun ⟨n, v⟩ hy => ?_) fun env he s1 x => ?_
  · rcases S.par n (List.of_mem_zip hy).1 with q | q
    · exact Or.inl q
    · exact Or.inr ⟨q, PySem.W.cellsFrom_some _ _ _ (Or.inl q)⟩
  · subst he
    refine ⟨(e0.mod.nolimit.keeps old).keeps x.toInCall.keep, codeAny_func ?_⟩
    obtain ⟨t, ht, hq⟩ := body cdv B out s H vs Q E hg (hr.deeper _) hs
    have I := inv_start (CX := CX) (N := N) (qual := qual) (cd := cdv) (E := E) S hr.hd e0 (size _ _ _ _ hs) r x
    refine wpAny_mono (ht.run [] s1 (start N vs) H _ I hq) (fun fl s' hs' => ?_) fun e s' z => z
    cases fl with
    | ret u =>
      obtain ⟨v, σ', H', J, rv, q⟩ := hs'
      exact ⟨v, H', J.os, J.bare, J.base, J.hok, rv, q⟩
    | next =>
      obtain ⟨σ', H', J, q⟩ := hs'
      exact ⟨V.non, H', J.os, J.bare, J.base, J.hok, rfl, q⟩
    | brk =>
      obtain ⟨_, _, _, q⟩ := hs'
      exact q.elim
    | cont =>
      obtain ⟨_, _, _, q⟩ := hs'
      exact q.elim
end
end Lf

set_option Elab.async false
set_option linter.all false
set_option maxRecDepth 100000
set_option maxHeartbeats 4000000
set_option exponentiation.threshold 3000
/-! == by an own __eq__ that tells True or False, repr by an own __repr__, where no guard stands. -/
namespace Lf
open PySem PySem.Spec PyProof.Rows L2
/-- the special method m of the class at C, and what it promises -/
structure OwnM (P : Program) (w : World) (K : PySem.W.Frag) (mg : Str → Option Value) (base : Heap) (k : Nat) (C : Addr) (m : Str) (f : Addr) (fd : FuncData) (ps : List Str) (sp : Sp) : Prop where
  at_ : PySem.W.findIn K (.ref C) m = some (some (.ref f))
  isf : PySem.W.isFn K (.ref f) = true
  fn : FnG P w K mg base CX0 k f fd ps sp
  b : ∀ (s : Shared) (us : List Value), us.length = ps.length → BindsTo s fd ⟨us, []⟩ (ps.zip us)
section
variable {X : Cx} {k : Nat} {f C : Addr} {fd : FuncData} {ps : List Str} {sp : Sp} {m : Str}
/-- a special method runs on an object, in the caller's around or just below it -/
theorem OwnM.run (M : OwnM X.prog X.w X.K X.mg X.base k C m f fd ps sp) {B : Around} (hr : Room k B) (hG : B.guards = some []) (hf : B.frames = X.A.frames) {pins : List (Addr × Obj)} {σ : L2.St} {H : Hp} {s : Shared} {Q : VK} {us : List Value} {vs : List V}
    (I : Inv X pins σ H s) (r : Vals vs us) (h : sp vs H Q E0) : wpAny (model X.prog X.w) B (call (.ref f) us) (EP X pins σ Q) X.xe s := by
  have e := I.env0
  have e0 : Env0 X.prog X.w X.K X.mg X.base B X.stack s H := { frames := hf ▸ e.frames, mod := e.mod, bs := e.bs, bsz := e.bsz, funs := e.funs, frf := e.frf, hok := e.hok, bare := e.bare }
  have hl : us.length = ps.length := r.length ▸ M.fn.size _ _ _ _ h
  refine wpAny_call (codeAny_mono (M.fn.goes B X.stack s H ⟨us, []⟩ us vs Q E0 hr hG e0 (M.b s us hl) r h) fun z s' q => ?_)
  match z, q with
  | .ok (.ret u), q => exact I.after q
/-- the object's class, as the library looks at it -/
theorem ins_at {pins : List (Addr × Obj)} {σ : L2.St} {H : Hp} {s : Shared} {a dx : Addr} {fs : List (Str × V)} (I : Inv X pins σ H s) (e : H a = some (.ins C dx fs)) : ∃ od, PySem.W.InstAt s.heap a (PySem.W.instObj C dx) C (some od) := by
  obtain ⟨mA, J, _⟩ := ins_get I.hok e
  obtain ⟨od, J, _⟩ := J.look
  exact ⟨od, J⟩
/-- x == y, x an object of the class at C -/
def rEqO (K : PySem.W.Frag) (C : Addr) (sp : Sp) : R2 := fun x y H Q => ∃ (a dx : Addr) (fs : List (Str × V)) (t : Value), x = .ref a ∧ H a = some (.ins C dx fs) ∧ TyX K H y t ∧ PySem.W.notFirst K C t = true ∧ sp [x, y] H (fun v H' => ∃ b, v = .bl b ∧ Q (.bl b) H') E0
theorem op_eqO (M : OwnM X.prog X.w X.K X.mg X.base k C "__eq__" f fd ps sp) (hr : Room k X.A) (hG : X.A.guards = some []) : OpR X (compareOp .Eq) (rEqO X.K C sp) := by
  rintro pins s σ H x y v u Q I rx ry ⟨a, dx, fs, t, rfl, ea, ty, hn, q⟩
  cases (show v = Value.ref a from rx)
  obtain ⟨od, J⟩ := ins_at I ea
  obtain ⟨m, hF⟩ := I.fr
  obtain ⟨T, kit, hT, _⟩ := kit_of I ry ty
  refine PySem.W.cmp_K (op := .Eq) hr.units0 hF I.ok.mod.kin J (kit.ty _ _ I.kIn hT) hn M.at_ M.isf ?_
  refine wpAny_mono (M.run (vs := [V.ref a, y]) hr hG rfl I (.cons rfl (.cons ry .nil)) q) (fun z s' hz => ?_) fun _ _ e => e
  obtain ⟨zv, H', I', rz, b, rfl, hq⟩ := hz
  cases rz
  exact ⟨.bl b, H', I', rfl, hq⟩
/-- the same, the module's part given -/
theorem op_eqOK {K : PySem.W.Frag} (M : OwnM X.prog X.w X.K X.mg X.base k C "__eq__" f fd ps sp) (hr : Room k X.A) (hG : X.A.guards = some []) (hK : X.K = K := by rfl) : OpR X (compareOp .Eq) (rEqO K C sp) := hK ▸ op_eqO M hr hG
/-- repr(x), x an object of the class at C -/
def rReprO (C : Addr) (sp : Sp) : List V → Hp → VK → Prop := fun xs H Q => ∃ (a dx : Addr) (fs : List (Str × V)), xs = [.ref a] ∧ H a = some (.ins C dx fs) ∧ sp [.ref a] H (fun v H' => ∃ t, v = .str t ∧ Q (.str t) H') E0
theorem call_reprO (M : OwnM X.prog X.w X.K X.mg X.base k C "__repr__" f fd ps sp) (hr : Room (k + 1) X.A) (hG : X.A.guards = some []) : CallR X (.builtin "repr") (rReprO C sp) := by
  rintro pins s σ H xs us Q I r ⟨a, dx, fs, rfl, ea, q⟩
  obtain ⟨u, rfl, r1⟩ := vals1 r
  cases (show u = Value.ref a from r1)
  obtain ⟨od, J⟩ := ins_at I ea
  obtain ⟨m, hF⟩ := I.fr
  refine PySem.W.repr_K hr.in1.units0 hF I.ok.mod.kin J M.at_ M.isf ?_
  refine wpAny_mono (M.run (vs := [V.ref a]) hr.in1 hG rfl I (.cons rfl .nil) q) (fun z s' hz => ?_) fun _ _ e => e
  obtain ⟨zv, H', I', rz, t, rfl, hq⟩ := hz
  obtain ⟨tk, rfl⟩ := rz
  exact ⟨.str t, H', I', ⟨tk, rfl⟩, hq⟩
/-- o.m(k = e, ..): by names alone, in the parameters' order -/
theorem pe_meGK {pl : Sem Bool} {ks : List Str} {o : Expr} {kws : List Keyword} {ta : TE} {tk : TA} {pos apos : Pos} (he : PE X o ta) (M : MetG X.prog X.w X.K X.mg X.base CX0 k C m f fd ps sp) (hb : ∀ (s : Shared) (u : Value) (us : List Value), us.length = ks.length → BindsTo s fd ⟨[u], ks.zip us⟩ (ps.zip (u :: us))) (hr : Room k X.A) (hG : X.A.guards = some []) (hp : ps.length = ks.length + 1)
    (hk : PK X kws tk) (hks : (backToKw pos (keywordEach kws X.env)).filterMap (·.1) = ks := by rfl) (hall : (backToKw pos (keywordEach kws X.env)).all (·.1.isSome) = true := by rfl)
    (hpl : ((backTo pos (starEach [] X.env)).any (·.1) || (backToKw pos (keywordEach kws X.env)).any (·.1.isNone)) = false := by rfl)
    (ht : eval (.Call (.Attribute o m apos) [] kws pos) X.env = (do
      let ov ← eval o X.env
      standAt apos.atName
      let (g, first) ← holding [ov] (getMethod ov m pl)
      callWith pos g first (backTo pos (starEach [] X.env)) (backToKw pos (keywordEach kws X.env))) := by rfl) : PE X (.Call (.Attribute o m apos) [] kws pos) (tMeG C m sp (fun _ => E0) ta tk) := by
  refine ⟨fun pins s σ H Q I h => PySem.W.methodCall_KW (pl := pl) (thn (he.run pins s σ H _ I h) fun u s1 ⟨x, H1, I1, rx, a, dx, fs, ex, ea, l, q⟩ => ?_) ht⟩
  subst ex
  cases (show u = Value.ref a from rx)
  refine getmeth_ok I1 ea M.c M.m l (PySem.W.callWith_KW0 (first := [.ref a]) (h₀ := X.base) I.ok.mod.kin M.m.kp hall (thn (hk.run pos pins s1 σ H1 _ I1 q) fun us s2 ⟨vs, H2, I2, r, q2⟩ => ⟨I2.kIn, ?_⟩) hpl)
  rw [hks]
  have hl := M.fn.size _ _ _ _ q2
  have hl2 : us.length = ks.length := by
    have := r.length
    rw [List.length_cons] at hl
    omega
  exact run_g (ar := ⟨[.ref a], ks.zip us⟩) (us := .ref a :: us) (vs := .ref a :: vs) M.fn hr hG pass_no I2 (hb s2 (.ref a) us hl2) (.cons rfl r) q2
end
end Lf

set_option Elab.async false
set_option linter.all false
set_option maxRecDepth 100000
set_option maxHeartbeats 4000000
/-! len by an own __len__ -/
namespace Lf
open PySem PySem.Spec PyProof.Rows L2
section
variable {X : Cx} {k : Nat} {f C : Addr} {fd : FuncData} {ps : List Str} {sp : Sp}
/-- len(x), x an object of the class at C -/
def rLenO (C : Addr) (sp : Sp) : List V → Hp → VK → Prop := fun xs H Q => ∃ (a dx : Addr) (fs : List (Str × V)), xs = [.ref a] ∧ H a = some (.ins C dx fs) ∧ sp [.ref a] H (fun v H' => ∃ n : Nat, v = .int n ∧ n < 2 ^ 62 ∧ Q (.int n) H') E0
theorem call_lenO (M : OwnM X.prog X.w X.K X.mg X.base k C "__len__" f fd ps sp) (hr : Room (k + 1) X.A) (hG : X.A.guards = some []) : CallR X (.builtin "len") (rLenO C sp) := by
  rintro pins s σ H xs us Q I r ⟨a, dx, fs, rfl, ea, q⟩
  obtain ⟨u, rfl, r1⟩ := vals1 r
  cases (show u = Value.ref a from r1)
  obtain ⟨od, J⟩ := ins_at I ea
  obtain ⟨m, hF⟩ := I.fr
  refine PySem.W.len_K hF I.ok.mod.kin J M.at_ M.isf ?_
  refine wpAny_mono (M.run (vs := [V.ref a]) hr.in1 hG rfl I (.cons rfl .nil) q) (fun z s' hz => ?_) fun _ _ e => e
  obtain ⟨zv, H', I', rz, n, rfl, hn, hq⟩ := hz
  obtain ⟨tk, rfl⟩ := rz
  exact ⟨⟨by omega, by omega⟩, .int n, H', I'.tok _, ⟨_, rfl⟩, hq⟩
end
end Lf

set_option Elab.async false
set_option linter.all false
set_option maxRecDepth 100000
set_option maxHeartbeats 4000000
set_option exponentiation.threshold 3000
namespace Lf
open PySem PySem.Spec PyProof.Rows L2
theorem pot_ne {q p : Addr} {H : Hp} (h : Pot H q) (n : H p = none) : p ≠ q := fun z => by
  obtain ⟨x, y, _, _, e⟩ := h
  rw [← z, n] at e
  cases e
/-- a name -/
structure Nm (z : Str) : Prop where
  al : AllL z
  l1 : 1 ≤ z.length
  le : z.length ≤ 10
section
variable {P : Program} {w : World} {K : PySem.W.Frag} {mg : Str → Option Value} {base : Heap}
theorem AtK.but {q : Addr} {H H' : Hp} {v : V} {f : Int × Int} (b : But q H H') (hP : Pot H q) (h : AtK K H v f) : AtK K H' v f := by
  obtain ⟨p, e, h⟩ := h
  obtain ⟨x, y, _, _, eq⟩ := hP
  refine ⟨p, e, ?_⟩
  rcases h with (h | ⟨ob, h⟩) | h
  · exact .inl (.inl (b _ _ (fun z => by rw [z, eq] at h; cases h) h))
  · exact .inl (.inr ⟨ob, b _ _ (fun z => by rw [z, eq] at h; cases h) h⟩)
  · exact .inr h
theorem nm_inv {z : Str} (h : isNm (.str z) = true) : Nm z := by
  have h' : (decide (1 ≤ z.length) && decide (z.length ≤ 10) && z.cps.toList.all inL) = true := h
  rw [Bool.and_eq_true, Bool.and_eq_true] at h'
  exact ⟨List.all_eq_true.mp h'.2, of_decide_eq_true h'.1.1, of_decide_eq_true h'.1.2⟩

/-! ### _law_parts -/
theorem sc__law_parts : FnScope ["_law_pot_here", "_law_most"] ["_law_pot_here"] (defScope s__law_parts) := ⟨rfl, rfl, rfl, by decide +kernel, rfl, by decide +kernel, by decide +kernel⟩
/-- parts of a row -/
def sp_parts (K : PySem.W.Frag) : Sp := fun vs H Q _ => ∃ q : Addr, vs = [.ref q] ∧ Pot H q ∧ ∀ (v : V) (f : Int × Int) (H' : Hp), IsF f → 0 < f.1 → Bt 20 f → AtK K H' v f → Pot H' q → But q H H' → Q v H'
theorem ok_parts {f : Addr} {fd : FuncData} (F : Fun K "_law_parts" "_law_parts" s__law_parts f fd) (C__law_draw : Cal P w K mg base CX0 1 "_law_draw" ["_law_pot_here", "_law_many"] sp_draw) (C__law_low : Cal P w K mg base CX0 1 "_law_low" ["_law_top", "_law_bottom"] sp_low) : FnG P w K mg base CX0 2 f fd ["_law_pot_here"] (sp_parts K) := by
  refine Gfun F sc__law_parts (fun vs H Q E h => ?_) (fun cdv A outer s H vs Q E hg hr h => ?_)
  · obtain ⟨q, rfl, _⟩ := h
    rfl
  · obtain ⟨q, rfl, hP, k⟩ := h
    refine ⟨_, (pss_cons (ps_set (i := 1) sc__law_parts.nd rfl (.inl rfl) (pe_ix ix_list (pe_lst (pa_cons pe_int (pa_cons pe_int pa_nil))) (pe_g C__law_draw (hr.mono (by decide)) hg (pa_cons (pv 0) (pa_cons pe_int pa_nil))) (fun _ _ => rfl)))
      (pss_one (ps_ret (pe_g C__law_low (hr.mono (by decide)) hg (pa_cons (pe_op op_add pe_int (pe_g C__law_draw (hr.mono (by decide)) hg (pa_cons (pv 0) (pa_cons (pv 1) pa_nil)))) (pa_cons (pe_op op_add pe_int (pe_g C__law_draw (hr.mono (by decide)) hg (pa_cons (pv 0) (pa_cons (pv 1) pa_nil)))) pa_nil)))))), ?_⟩
    have mid : ∀ n : Int, 0 ≤ n → n < 2 ^ 41 → Mid n := fun n h0 h1 => Nat.lt_of_lt_of_le (show n.natAbs < 2 ^ 41 by omega) (Nat.pow_le_pow_right (by decide) (by decide))
    refine ⟨by decide, fun p3 hp3 => ⟨_, rfl, q, 2, rfl, by decide, by decide, pot_same hP (same_new hp3), fun r1 H1 r10 r11 hP1 b1 => ?_⟩⟩
    have b01 : But q H H1 := fun b o nb e => b1 _ _ nb (by rw [upd_ne (ne_of_none e hp3)]; exact e)
    have e3 := b1 _ _ (pot_ne hP hp3) upd_same
    obtain ⟨m, hm1, hm2, hat⟩ : ∃ m : Int, 1 ≤ m ∧ m ≤ 999999 ∧ atI [V.int 30, V.int 999999] r1 = some (.int m) := by
      have h3 : r1 = 0 ∨ r1 = 1 := by omega
      rcases h3 with rfl | rfl
      · exact ⟨30, by decide, by decide, rfl⟩
      · exact ⟨999999, by decide, by decide, rfl⟩
    have mb : m.natAbs < 2 ^ 900 := Nat.lt_of_lt_of_le (show m.natAbs < 2 ^ 20 by omega) (Nat.pow_le_pow_right (by decide) (by decide))
    refine ⟨p3, _, r1, _, rfl, rfl, .inl (.inl e3), hat, ?_⟩
    refine ⟨_, rfl, _, rfl, q, m, rfl, by omega, mb, hP1, fun r2 H2 r20 r21 hP2 b2 => ?_⟩
    refine ⟨_, _, rfl, rfl, _, rfl, _, rfl, q, m, rfl, by omega, mb, hP2, fun r3 H3 r30 r31 hP3 b3 => ?_⟩
    refine ⟨_, _, rfl, rfl, _, _, rfl, by omega, mid _ (by omega) (by omega), fun H4 p4 s4 e4 => ?_⟩
    exact k _ _ H4 (low_f (by omega)) (low_top_pos (by omega) (by omega)) (low_bt (by omega) (by omega) (by omega)) (AtK.of e4) (pot_same hP3 s4) (((b01.trans b2).trans b3).same s4)

/-! ### _law_names -/
theorem sc__law_names : FnScope ["_law_pot_here", "_law_many", "_law_found", "_law_k"] ["_law_pot_here", "_law_many"] (defScope s__law_names) := ⟨rfl, rfl, rfl, by decide +kernel, rfl, by decide +kernel, by decide +kernel⟩
/-- names, each another one -/
def sp_names (K : PySem.W.Frag) : Sp := fun vs H Q _ => ∃ (q : Addr) (m : Nat), vs = [.ref q, .int m] ∧ m ≤ 25 ∧ Pot H q ∧ ∀ (l : Addr) (zs : List Str) (H' : Hp), H' l = some (.lst (zs.map V.str)) → l ≠ q → zs.length = m → zs.Nodup → (∀ z ∈ zs, Nm z) → Pot H' q → But q H H' → Q (.ref l) H'
theorem ok_names {f : Addr} {fd : FuncData} (M : Blt mg) (F : Fun K "_law_names" "_law_names" s__law_names f fd) (C__law_name : Cal P w K mg base CX0 2 "_law_name" ["_law_pot_here", "_law_taken"] (sp_name K)) : FnG P w K mg base CX0 3 f fd ["_law_pot_here", "_law_many"] (sp_names K) := by
  refine Gfun F sc__law_names (fun vs H Q E h => ?_) (fun cdv A outer s H vs Q E hg hr h => ?_)
  · obtain ⟨q, m, rfl, _⟩ := h
    rfl
  · obtain ⟨q, m, rfl, hm, hP, k⟩ := h
    refine ⟨_, (pss_cons (ps_set (i := 2) sc__law_names.nd rfl (.inl rfl) (pe_lst pa_nil))
      (pss_cons (ps_for PassesOwn.never rfl (pi_range1 rfl M.range (pa_cons (pv 1) pa_nil)) (pg_name (i := 3) sc__law_names.nd rfl (.inl rfl))
      (pss_one (ps_expr (pe_bm PySem.F.plainAttrs_list PySem.F.slot_list_append PySem.F.type_list_append mt_append (pv 2) (pa_cons (pe_g C__law_name (hr.mono (by decide)) hg (pa_cons (pv 0) (pa_cons (pv 2) pa_nil))) pa_nil)))))
      (pss_one (ps_ret (pv 2))))), ?_⟩
    refine ⟨len_show (Nat.le_of_ble_eq_true rfl), fun l nl => ?_⟩
    have nlq := pot_ne hP nl
    have s1 : Same H (L2.upd H l (.lst [])) := same_new nl
    have e1 : L2.upd H l (.lst []) l = some (.lst []) := upd_same
    generalize L2.upd H l (.lst []) = H1 at s1 e1 ⊢
    refine ⟨_, rfl, _, rfl, by omega, by omega, ?_⟩
    refine for_range (lo := 0) (n := _) (fun i σ H' => ∃ (y : Option V) (zs : List Str), σ = [some (.ref q), some (.int m), some (.ref l), y] ∧ H' l = some (.lst (zs.map V.str)) ∧ zs.length = i ∧ zs.Nodup ∧ (∀ z ∈ zs, Nm z) ∧ Pot H' q ∧ But q H H') ⟨none, [], rfl, e1, rfl, .nil, (fun z h => nomatch h), pot_same hP s1, But.rfl.same s1⟩ ?_ ?_
    · rintro i σ H2 hi ⟨y, zs, rfl, e2, hl, nd, al, P2, b2⟩
      refine ⟨_, rfl, .inl ⟨rfl, _, .inl (.inl e2)⟩, _, rfl, _, rfl, q, l, zs, rfl, nlq, P2, .inl (.inl e2), by omega, fun z hz => (al z hz).al, fun z H3 nz lz zn P3 b3 => ?_⟩
      have e3 := b3 _ _ nlq e2
      refine ⟨l, _, _, rfl, rfl, e3, by rw [List.length_map, sizeLine_eq]; omega, some (.int (0 + (i : Int))), zs ++ [z], rfl, by rw [upd_same, List.map_append]; rfl, by rw [List.length_append, hl]; rfl, ?_, ?_, ?_, ?_⟩
      · rw [List.nodup_append]
        refine ⟨nd, (by simp), fun a ha b hb e => ?_⟩
        rw [List.mem_singleton.mp hb] at e
        exact zn (e ▸ ha)
      · intro x hx
        rcases List.mem_append.mp hx with hx | hx
        · exact al x hx
        · rw [List.mem_singleton.mp hx]
          exact nm_inv nz
      · obtain ⟨x, y0, a, b, e⟩ := P3
        exact ⟨x, y0, a, b, by rw [upd_ne (fun w => nlq w.symm)]; exact e⟩
      · intro b o nb e
        rw [upd_ne (ne_of_none e nl)]
        exact b3 _ _ nb (b2 _ _ nb e)
    · rintro σ H2 ⟨y, zs, rfl, e2, hl, nd, al, P2, b2⟩
      refine ⟨_, rfl, k l zs H2 e2 nlq ?_ nd al P2 b2⟩
      omega

end
end Lf

set_option Elab.async false
set_option linter.all false
set_option maxRecDepth 100000
set_option maxHeartbeats 4000000
/-! set(texts) of any number of texts, and how many there are. -/
namespace Lf
open PySem PySem.Spec PyProof.Rows
/-- a set of texts: just those of T, and T has each once -/
def TxtSet (prog : Program) (w : World) (h : Heap) (a : Addr) (T : List Str) : Prop := h.SetOf (PySem.strKind prog w) a (fun x => decide (x ∈ T)) T.length
/-- one more text -/
def into (T : List Str) (k : Str) : List Str := if k ∈ T then T else k :: T
theorem into_len (T : List Str) (k : Str) : (into T k).length ≤ T.length + 1 := by
  unfold into
  split
  · omega
  · simp
section
variable {prog : Program} {w : World} {A : Around} {E : Value → Shared → Prop} {R : Result → Shared → Prop} {s : Shared} {a : Addr} {T : List Str} {k : Str} {t : Tok}
theorem TxtSet.keep {h h' : Heap} (X : TxtSet prog w h a T) (e : ∀ o, h.get? a = some o → h'.get? a = some o) : TxtSet prog w h' a T := by
  obtain ⟨o, es, ep, tb, ho, r⟩ := X
  exact ⟨o, es, ep, tb, e o ho, r⟩
theorem put_txt {Q : Bool → Shared → Prop} (X : TxtSet prog w s.heap a T) (room : T.length + 1 < scanBound) (h : ∀ (b : Bool) (h' : Heap) (n : Nat), s.toks ≤ n → Heap.SameBut a s.heap h' → TxtSet prog w h' a (into T k) → Q b { s with heap := h', toks := n }) :
    wpAny (model prog w) A (setAdd a (.str k t)) Q E s := by
  have is : (PySem.strKind prog w).is k (.str k t) = true := by show Value.isStrOf k (.str k t) = true; simp [Value.isStrOf]
  unfold setAdd
  refine wpAny_holding (wpAny_bind ((PySem.strKind prog w).pyHash (k := k) is ?_))
  refine wpAny_setAddHashed_of (knd := PySem.strKind prog w) is rfl (S := fun x => decide (x ∈ T)) (n := T.length) X room fun h' sb X' => ?_
  refine h _ h' _ (by first | exact Nat.le_succ _ | exact Nat.le_refl _) sb ?_
  unfold TxtSet into
  by_cases hk : k ∈ T
  · rw [if_pos hk]
    refine SetOf_congr X' (fun x => ?_) (by simp [hk])
    by_cases hx : x ∈ T
    · simp [hx]
    · have : ¬ x = k := fun e => hx (e ▸ hk)
      simp [hx, this]
  · rw [if_neg hk]
    refine SetOf_congr X' (fun x => ?_) (by simp [hk])
    by_cases hx : x ∈ T
    · simp [hx]
    · simp [hx]
variable {I : Addr} {fp wr : List Addr} {G : Array GenState → Array GenState → Prop} {n : Nat} {P : Nat → Value → Prop} {St : Nat → Shared → Prop}
/-- all that is left to walk goes in -/
theorem fill_txt (W : WalksS prog w A.in1 I fp wr G n P St) (hf : a ∉ fp) (val : Nat → Str) (hv : ∀ i v, P i v → ∃ t, v = .str (val i) t) (hb : n + 1 < scanBound) : ∀ (m i : Nat) (T : List Str) (s : Shared), i + m = n → T.length ≤ i → St i s → TxtSet prog w s.heap a T →
    (∀ s', Moved (a :: wr) G s s' → TxtSet prog w s'.heap a ((List.range' i m).foldl (fun T j => into T (val j)) T) → R (.ok (.ret .none)) s') → codeAny (model prog w) A (.builtin "set.update.loop" ⟨[.ref a, .ref I], []⟩) R s := by
  have hw : a ∉ wr := fun z => hf (W.sub _ z)
  have more : ∀ b ∈ wr, b ∈ a :: wr := fun b z => List.mem_cons_of_mem _ z
  intro m
  induction m with
  | zero =>
    intro i T s e hl st X fin
    have ei : i = n := by omega
    subst ei
    apply codeAny_builtin PyProof.Rows.F.entry_set_update_loop
    rw [Around.under_plainId PyProof.Rows.F.plain_set_update_loop _]
    change wpAny _ A.in1 (pyNext (.ref I) >>= _) _ _ s
    exact wpAny_bind (W.done s _ _ st fun s' mv => wpAny_pure (fin s' (mv.mono more) (X.keep fun o ho => mv.heap a o hw ho)))
  | succ m ih =>
    intro i T s e hl st X fin
    apply codeAny_builtin PyProof.Rows.F.entry_set_update_loop
    rw [Around.under_plainId PyProof.Rows.F.plain_set_update_loop _]
    change wpAny _ A.in1 (pyNext (.ref I) >>= _) _ _ s
    apply wpAny_bind
    apply W.item i s _ _ (by omega) st
    intro v s1 hp st1 mv
    obtain ⟨t, rfl⟩ := hv i v hp
    change wpAny _ A.in1 (holding [Value.str (val i) t] (setAdd a (.str (val i) t)) >>= _) _ _ s1
    apply wpAny_bind
    apply wpAny_holding
    apply put_txt (X.keep fun o ho => mv.heap a o hw ho) (by omega)
    intro b h2 tk htk sb X2
    apply wpAny_pure
    refine ⟨plainId_quiet PyProof.Rows.F.plain_set_update_loop _, ih (i + 1) (into T (val i)) _ (by omega) (by have := into_len T (val i); omega) ?_ X2 ?_⟩
    · refine W.frame _ s1 _ _ st1 htk fun c hc o eo => ?_
      rw [sb.2 c (fun z => hf (z ▸ hc))]
      exact eo
    · intro s3 mv3 X3
      refine fin s3 (Moved.trans W.gtrans ((mv.mono more).then_heap htk fun c o hc eo => ?_) mv3) X3
      rw [sb.2 c (fun z => hc (z ▸ List.mem_cons_self))]
      exact eo
end
end Lf

set_option Elab.async false
set_option linter.all false
set_option maxRecDepth 100000
set_option maxHeartbeats 4000000
namespace Lf
open PySem PySem.Spec PyProof.Rows
/-- a new set, nothing in it -/
def emptySet (led : Bool) : Obj := { cls := .type "set", dict := none, data := .set #[] 0 (.fresh 0 0 led) }
/-- what n texts leave -/
def gone (val : Nat → Str) (n : Nat) : List Str := (List.range' 0 n).foldl (fun T j => into T (val j)) []
section
variable {prog : Program} {w : World} {A : Around} {E : Value → Shared → Prop} {s : Shared} {S l : Addr} {items : Array Value}
/-- set.__init__ of an empty set and a list of texts -/
theorem init_txt {Q : Value → Shared → Prop} {val : Nat → Str} {led : Bool} (hh : A.handled = none) (hS : s.heap.get? S = some (emptySet led)) (hl : s.heap.IsList l items) (ne : S ≠ l) (hv : ∀ i v, items[i]? = some v → ∃ t, v = Value.str (val i) t) (hb : items.size + 1 < scanBound)
    (h : ∀ h' tk, TxtSet prog w h' S (gone val items.size) → (∀ b o, b ≠ S → s.heap.get? b = some o → h'.get? b = some o) → Q .none { s with heap := h', toks := tk }) :
    codeAny (model prog w) A (.call (.builtin "set.__init__") ⟨[.ref S, .ref l], []⟩) (wants Q E) s := by
  have hT : s.TypeIs (.ref S) "set" := ⟨_, hS, rfl⟩
  have lS := Heap.lt_size hS
  apply codeAny_call_builtin PySem.F.called_set.init.plain PySem.F.entry_set_init
  apply check_set_init_1 hT
  obtain ⟨ol, hol, hcl, nl, hdl⟩ := id hl
  have ll := Heap.lt_size hol
  have tl : s.TypeIs (.ref l) "list" := ⟨ol, hol, hcl⟩
  have f1 := PySem.F.sub_list_set
  have f2 := PySem.F.sub_list_frozenset
  have f3 : (Value.type "list" == Value.type "dict") = false := by decide
  unfold Builtin.«set.__init__» noKeywords Builtin.Frozenset.updateFrom
  generalize hPI : pyIter = PI
  wp_walk
  subst hPI
  apply wpAny_pyIter_list hl
  apply wpAny_bind
  apply wpAny_runValue
  have hi : A.in1.in1.handled = none := by simp [hh]
  have nI : l ≠ s.heap.objs.size := Nat.ne_of_lt ll
  have off : S ∉ [s.heap.objs.size, l] := by
    simp only [List.mem_cons, List.not_mem_nil, or_false, not_or]
    exact ⟨Nat.ne_of_lt lS, ne⟩
  have X0 : TxtSet prog w (s.heap.push { cls := .type "list_iterator", data := .fields #[.ref l, .int 0 0] }) S [] := SetOf_congr ((setObjOf_fresh (knd := PySem.strKind prog w) led).setOf (Heap.get?_push_of_some _ hS) (by unfold scanBound; omega)) (fun _ => by simp) rfl
  refine fill_txt ((Walks.list hi _ l nI items).toS) off val hv hb items.size 0 [] _ (Nat.zero_add _) (Nat.le_refl _) ⟨⟨_, Heap.get?_push_size _ rfl, rfl, rfl⟩, hl.push _⟩ X0 fun s2 mv X2 => ?_
  have e2 : s2 = { s with heap := s2.heap, toks := s2.toks } := by
    have g := mv.gens
    have d := mv.drawn
    have o := mv.os
    cases s2
    cases g
    cases d
    cases o
    rfl
  change wpAny _ _ (pure ()) _ _ s2
  apply wpAny_pure
  change wpAny _ _ (ret Value.none) _ _ s2
  apply wpAny_pure
  change Q Value.none s2
  rw [e2]
  refine h s2.heap s2.toks X2 fun b o nb eb => ?_
  refine mv.heap b o ?_ (Heap.get?_push_of_some _ eb)
  simp only [List.mem_cons, List.not_mem_nil, or_false, not_or]
  exact ⟨nb, Nat.ne_of_lt (Heap.lt_size eb)⟩
/-- set(l) -/
theorem set_txt {Q : Value → Shared → Prop} {val : Nat → Str} (hh : A.handled = none) (hl : s.heap.IsList l items) (hv : ∀ i v, items[i]? = some v → ∃ t, v = Value.str (val i) t) (hb : items.size + 1 < scanBound)
    (h : ∀ h' tk, TxtSet prog w h' s.heap.objs.size (gone val items.size) → (∀ b o, s.heap.get? b = some o → h'.get? b = some o) → Q (.ref s.heap.objs.size) { s with heap := h', toks := tk }) : wpAny (model prog w) A (call (.type "set") [.ref l]) Q E s := by
  obtain ⟨c, tl, hmro⟩ := PySem.F.called_set.mro
  have k1 := PySem.F.called_set.made
  have k2 := PySem.F.called_set.sub
  have k3 := PySem.F.called_set.notType
  have k4 := PySem.F.called_set.canCreate
  have k5 := PySem.F.typeCall_set_1 (.ref l)
  have k6 := PySem.F.called_set.init.lookup
  apply wpAny_call
  apply codeAny_of_tree
  change wpAny _ _ (callAny (.type "set") _) _ _ _
  apply wpAny_pure
  refine ⟨Code.quiet_builtin _ (by decide +kernel), codeAny_builtin PySem.F.entry_type_call ?_⟩
  rw [Around.under_plain (weight_type_call_type "set" [.ref l] []) rfl]
  repeat (any_goals (first | assumption | wp_step))
  refine codeAny_mono (code_set_new_1 (.ref l) (E := E) (Q₁ := fun v s1 => ∃ led, v = .ref s.heap.objs.size ∧ s1 = { s with heap := s.heap.push (emptySet led) }) fun led => ⟨led, rfl, rfl⟩) ?_
  intro r s1 hr
  match r, hr with
  | .error e, hr => exact hr
  | .ok (.ret v), hr =>
    obtain ⟨led, rfl, rfl⟩ := hr
    have new : (s.heap.push (emptySet led)).get? s.heap.objs.size = some (emptySet led) := Heap.get?_push_size _ rfl
    have hT : Shared.TypeIs { s with heap := s.heap.push (emptySet led) } (.ref s.heap.objs.size) "set" := ⟨_, new, rfl⟩
    have k7 := PySem.F.called_set.init.bind (.ref s.heap.objs.size)
    have ll : l < s.heap.objs.size := by
      obtain ⟨ol, hol, _⟩ := id hl
      exact Heap.lt_size hol
    have run := init_txt (prog := prog) (w := w) (A := A.in1) (E := E) (s := { s with heap := s.heap.push (emptySet led) }) (Q := fun v s2 => v = .none ∧ Q (.ref s.heap.objs.size) s2) (by simp [hh]) new (hl.push _) (Nat.ne_of_gt ll) hv hb
      fun h' tk X' keep => ⟨rfl, h h' tk X' fun b o e => keep b o (Nat.ne_of_lt (Heap.lt_size e)) (Heap.get?_push_of_some _ e)⟩
    repeat (any_goals (first | assumption | wp_step))
    refine codeAny_mono run ?_
    intro r2 s2 hr2
    match r2, hr2 with
    | .error e, hr2 => exact hr2
    | .ok (.ret v2), hr2 =>
      obtain ⟨rfl, q⟩ := hr2
      repeat (any_goals (first | assumption | wp_step))
end
end Lf

set_option Elab.async false
set_option linter.all false
set_option maxRecDepth 100000
set_option maxHeartbeats 4000000
/-! len(set(texts)) -/
namespace Lf
open PySem PySem.Spec PyProof.Rows L2
/-- each text once -/
def once (xs : List Str) : List Str := xs.foldl into []
theorem once_go : ∀ (xs T : List Str), xs.Nodup → (∀ x ∈ xs, x ∉ T) → (xs.foldl into T).length = T.length + xs.length
  | [], T, _, _ => rfl
  | x :: xs, T, nd, h => by
    rw [List.foldl_cons, show into T x = x :: T from if_neg (h x List.mem_cons_self), once_go xs (x :: T) (List.nodup_cons.mp nd).2 fun y hy => ?_, List.length_cons, List.length_cons]
    · omega
    · rw [List.mem_cons, not_or]
      exact ⟨fun e => (List.nodup_cons.mp nd).1 (e ▸ hy), h y (List.mem_cons_of_mem _ hy)⟩
theorem once_all {xs : List Str} (nd : xs.Nodup) : (once xs).length = xs.length := by
  have := once_go xs [] nd fun _ _ z => nomatch z
  rw [List.length_nil, Nat.zero_add] at this
  exact this
theorem gone_once (xs : List Str) : gone (fun i => xs.getD i Str.empty) xs.length = once xs := by
  have e : (List.range' 0 xs.length).map (fun i => xs.getD i Str.empty) = xs := by
    apply List.ext_getElem
    · simp
    · intro i h1 h2
      rw [List.getElem_map, List.getElem_range', List.getD_eq_getElem?_getD]
      simp at h1
      simp [h1]
  unfold gone once
  conv => rhs; rw [← e]
  rw [List.foldl_map]
def tLenTxt (K : PySem.W.Frag) (ta : TE) : TE := fun σ H Q => ta σ H fun x H1 => ∃ (l : Addr) (xs : List Str), x = .ref l ∧ SqL K H1 l (xs.map V.str) ∧ xs.length ≤ 1000 ∧ Q (.int ((once xs).length : Nat)) H1
theorem once_le : ∀ (xs T : List Str), (xs.foldl into T).length ≤ T.length + xs.length
  | [], T => Nat.le_refl _
  | x :: xs, T => by
    have h1 := once_le xs (into T x)
    have h2 := into_len T x
    rw [List.foldl_cons, List.length_cons]
    omega
theorem strs_at : ∀ {xs : List Str} {us : List Value}, Vals (xs.map V.str) us → ∀ (i : Nat) (v : Value), us[i]? = some v → ∃ t, v = Value.str (xs.getD i Str.empty) t
  | [], _, .nil, i, v, h => by simp at h
  | x :: xs, _, .cons r t, 0, v, h => by
    obtain ⟨k, rfl⟩ := r
    simp at h
    exact ⟨k, h.symm⟩
  | x :: xs, _, .cons r t, i + 1, v, h => by
    obtain ⟨k, e⟩ := strs_at t i v (by simpa using h)
    exact ⟨k, by simpa using e⟩
theorem pe_lenTxt {X : Cx} {a : Expr} {ta : TE} {p p2 q pos : Pos} (hm : X.mg "len" = none) (hm2 : X.mg "set" = none) (ha : PE X a ta) (hg : Gl X "len" := by rfl) (hg2 : Gl X "set" := by rfl) (hc : X.calm = true := by rfl) (na : starEach [a] X.env = (false, eval a X.env) :: starEach [] X.env := by rfl) :
    PE X (.Call (.Name "len" p) [.Call (.Name "set" p2) [a] [] q] [] pos) (tLenTxt X.K ta) := by
  constructor
  intro pins s σ H Q I h
  refine Call_ ?_
  apply ld_blt I hg hm boot_len
  apply callWith_builtin1 _ rfl rfl
  apply args_cons _ rfl
  refine Call_ ?_
  apply ld_blt I hg2 hm2 boot_set
  apply callWith_type1 _ na rfl
  apply args_cons _ na
  apply thn (ha.run pins s σ H _ I h)
  rintro v s1 ⟨x, H1, I1, r1, l, xs, rfl, hq, hl, q1⟩
  cases (show v = Value.ref l from r1)
  apply args_nil
  obtain ⟨its, r, pl, hz⟩ := I1.list hq
  have hn : its.toArray.size = xs.length := by
    have := r.length
    rw [List.length_map] at this
    simp [this]
  refine set_txt (val := fun i => xs.getD i Str.empty) (I1.ok.hd hc) pl.isList (fun i v hv => strs_at r i v (by simpa using hv)) (by rw [hn]; unfold scanBound; omega) ?_
  intro h' tk X' keep
  rw [hn, gone_once] at X'
  apply args_nil
  obtain ⟨o, es, ep, t, ho, hex, hd, _, _, _, hf, he⟩ := X'
  have I2 : Inv X pins σ H1 { s1 with heap := h', toks := tk } := I1.kept keep
  have ob := once_le xs []
  rw [List.length_nil, Nat.zero_add] at ob
  have ob' : (once xs).length ≤ xs.length := ob
  exact call_len_set ho hex hd hf (by rw [he]; omega) ⟨.int ((once xs).length : Nat), H1, I2.tok _, ⟨_, by rw [he]⟩, q1⟩
end Lf

set_option Elab.async false
set_option linter.all false
set_option maxRecDepth 100000
set_option maxHeartbeats 4000000
/-! Promises of the __init__ of own exceptions. -/
namespace Lf
open PySem PySem.Spec PyProof.Rows L2
/-- one field, of anything -/
def sp_x1 (D : Addr) (f : Str) : Sp := fun vs H Q _ => ∃ (a : Addr) (v : V), vs = [.ref a, v] ∧ H a = some (exo a D none) ∧ ∀ dx, H dx = none → dx ≠ a → Q .non (upd (upd H dx (exd dx [(f, v)])) a (exo a D (some dx)))
/-- one field, a text -/
def sp_xt (D : Addr) (f : Str) : Sp := fun vs H Q _ => ∃ (a : Addr) (x : Str), vs = [.ref a, .str x] ∧ x.length ≤ 1000 ∧ H a = some (exo a D none) ∧ ∀ dx, H dx = none → dx ≠ a → Q .non (upd (upd H dx (exd dx [(f, .str x)])) a (exo a D (some dx)))
/-- two fields -/
def sp_x2 (D : Addr) (f g : Str) : Sp := fun vs H Q _ => ∃ (a : Addr) (v u : V), vs = [.ref a, v, u] ∧ H a = some (exo a D none) ∧ ∀ dx, H dx = none → dx ≠ a → Q .non (upd (upd (upd H dx (exd dx [(f, v)])) a (exo a D (some dx))) dx (exd dx [(f, v), (g, u)]))
/-- what a raise of an exception with fields leads to: the error's dict d is new and holds the fields -/
theorem raised {H : Hp} {a dx D : Addr} {fs : List (Str × V)} (ha : H a = none) (e1 : upd H a (exo a D none) dx = none) (e2 : dx ≠ a) {o1 o2 o3 : HO} : Same H (upd (del (upd (upd (upd H a o1) dx o2) a o3) a) dx (.xd fs)) ∧ H dx = none := by
  rw [upd_ne e2] at e1
  refine ⟨fun b o e => ?_, e1⟩
  have nb1 : b ≠ a := ne_of_none e ha
  have nb2 : b ≠ dx := ne_of_none e e1
  rw [upd_ne nb2, del_ne nb1, upd_ne nb1, upd_ne nb2, upd_ne nb1]
  exact e
end Lf

set_option Elab.async false
set_option linter.all false
set_option maxRecDepth 100000
set_option maxHeartbeats 4000000
/-! xs[i] += e of a list; promises of defs that let nothing out. -/
namespace Lf
open PySem PySem.Spec PyProof.Rows L2
def rGetN (K : PySem.W.Frag) : V → V → Hp → VK → Prop := fun x y H Q => ∃ (p : Addr) (xs : List V) (n : Nat) (v : V), x = .ref p ∧ y = .int n ∧ SqL K H p xs ∧ xs[n]? = some v ∧ n < 2 ^ 60 ∧ Q v H
theorem get_listN {X : Cx} : PGet X (rGetN X.K) := by
  intro pins s σ H o i ov iv Q I ro ri h
  obtain ⟨p, xs, n, v, rfl, rfl, hq, he, hn, q⟩ := h
  cases ro
  obtain ⟨t, rfl⟩ := ri
  obtain ⟨its, r, pl, hz⟩ := I.list hq
  obtain ⟨w, ew, rw'⟩ := r.get he
  exact getItem_listL (x := w) pl.isList (by omega) (by omega) (by simpa using ew) ⟨v, H, I, rw', q⟩
/-- a promise of more -/
theorem FnG.imp {P : Program} {w : World} {K : PySem.W.Frag} {mg : Str → Option Value} {base : Heap} {CX : CXT} {k : Nat} {f : Addr} {fd : FuncData} {ps : List Str} {sp sq : Sp} (F : FnG P w K mg base CX k f fd ps sp) (h : ∀ vs H Q E, sq vs H Q E → sp vs H Q E) : FnG P w K mg base CX k f fd ps sq :=
  ⟨fun vs H Q E q => F.size vs H Q E (h _ _ _ _ q), fun B out s H ar us vs Q E r hg e0 hb hv q => F.goes B out s H ar us vs Q E r hg e0 hb hv (h _ _ _ _ q)⟩
theorem Cal.imp {P : Program} {w : World} {K : PySem.W.Frag} {mg : Str → Option Value} {base : Heap} {CX : CXT} {k : Nat} {x : Str} {ps : List Str} {sp sq : Sp} (C : Cal P w K mg base CX k x ps sp) (h : ∀ vs H Q E, sq vs H Q E → sp vs H Q E) : Cal P w K mg base CX k x ps sq := by
  obtain ⟨f, fd, F, a, b, c, d, e⟩ := C.ex
  exact ⟨f, fd, F.imp h, a, b, c, d, e⟩
/-- where nothing is let out -/
theorem FnG.calm {P : Program} {w : World} {K : PySem.W.Frag} {mg : Str → Option Value} {base : Heap} {k : Nat} {f : Addr} {fd : FuncData} {ps : List Str} {sp : Sp} (F : FnG P w K mg base (L2.CX P w) k f fd ps sp) : FnG P w K mg base CX0 k f fd ps (fun vs H Q _ => sp vs H Q E0) := by
  refine ⟨fun vs H Q E q => F.size vs H Q E0 q, fun B out s H ar us vs Q E r hg e0 hb hv q => ?_⟩
  refine codeAny_mono (F.goes B out s H ar us vs Q E0 r hg e0 hb hv q) fun z s' hz => ?_
  cases z with
  | error e =>
    obtain ⟨_, _, _, _, _, _, _, _, _, _, _, _, z⟩ := (show L2.CX P w out H s E0 e s' from hz)
    exact z.elim
  | ok fl =>
    cases fl with
    | ret u => exact hz
    | next => exact False.elim hz
    | brk => exact False.elim hz
    | cont => exact False.elim hz
theorem Cal.calm {P : Program} {w : World} {K : PySem.W.Frag} {mg : Str → Option Value} {base : Heap} {k : Nat} {x : Str} {ps : List Str} {sp : Sp} (C : Cal P w K mg base (L2.CX P w) k x ps sp) : Cal P w K mg base CX0 k x ps (fun vs H Q _ => sp vs H Q E0) := by
  obtain ⟨f, fd, F, a, b, c, d, e⟩ := C.ex
  exact ⟨f, fd, F.calm, a, b, c, d, e⟩
theorem Cal.or {P : Program} {w : World} {K : PySem.W.Frag} {mg : Str → Option Value} {base : Heap} {CX : CXT} {k : Nat} {x : Str} {ps : List Str} {sp sq : Sp} {f : Addr} {fd : FuncData} (F : FnG P w K mg base CX k f fd ps sp) (G : FnG P w K mg base CX k f fd ps sq) :
    FnG P w K mg base CX k f fd ps (fun vs H Q E => sp vs H Q E ∨ sq vs H Q E) :=
  ⟨fun vs H Q E h => h.elim (F.size vs H Q E) (G.size vs H Q E), fun B out s H ar us vs Q E r hg e0 hb hv h => h.elim (F.goes B out s H ar us vs Q E r hg e0 hb hv) (G.goes B out s H ar us vs Q E r hg e0 hb hv)⟩
end Lf

set_option Elab.async false
set_option linter.all false
set_option maxRecDepth 100000
/-! A call of a def that an expression tells; a promise without exceptions, where exceptions may be. -/
namespace Lf
open PySem PySem.Spec PyProof.Rows L2
section
variable {P : Program} {w : World} {K : PySem.W.Frag} {mg : Str → Option Value} {base : Heap} {CX : CXT} {k : Nat} {f : Addr} {fd : FuncData} {ps : List Str} {sp : Sp} {x : Str}
/-- the def at f -/
structure CalF (P : Program) (w : World) (K : PySem.W.Frag) (mg : Str → Option Value) (base : Heap) (CX : CXT) (k : Nat) (f : Addr) (ps : List Str) (sp : Sp) : Prop where
  ex : ∃ (fd : FuncData), FnG P w K mg base CX k f fd ps sp ∧ (∀ (s : Shared) (us : List Value), us.length = ps.length → BindsTo s fd ⟨us, []⟩ (ps.zip us)) ∧ PySem.W.keepIn K (.ref f) = true
theorem FnG.lift (F : FnG P w K mg base CX0 k f fd ps sp) : FnG P w K mg base (L2.CX P w) k f fd ps sp := by
  refine ⟨F.size, fun B out s H ar us vs Q E hr hg e0 hb r h => codeAny_mono (F.goes B out s H ar us vs Q E hr hg e0 hb r h) fun z s' q => ?_⟩
  cases z with
  | error e => exact q.elim
  | ok fl =>
    cases fl with
    | ret u => exact q
    | next => exact False.elim q
    | brk => exact False.elim q
    | cont => exact False.elim q
theorem Cal.lift (C : Cal P w K mg base CX0 k x ps sp) : Cal P w K mg base (L2.CX P w) k x ps sp := by
  obtain ⟨f, fd, F, h⟩ := C.ex
  exact ⟨f, fd, F.lift, h⟩
end
section
variable {X : Cx} {CX : CXT} {k : Nat} {ps : List Str} {p pos : Pos} {fe e : Expr} {es : List Expr} {tf : TE} {t : TA} {S : Addr → Prop} {F : Addr → Sp}
/-- e(a, ..) where e tells one of some defs -/
def tCallV (S : Addr → Prop) (F : Addr → Sp) (E : L2.St → XK) (tf : TE) (t : TA) : TE := fun σ H Q => tf σ H fun y H1 => ∃ f, S f ∧ y = .ref f ∧ t σ H1 fun vs H2 => F f vs H2 Q (E σ)
theorem pe_callV {E : L2.St → XK} (hf : PE X fe tf) (C : ∀ f, S f → CalF X.prog X.w X.K X.mg X.base CX k f ps (F f)) (hr : Room k X.A) (hG : X.A.guards = some []) (hx : ∀ σ, PassesAt CX X σ (E σ)) (ha : PA X (e :: es) t)
    (ht : eval (.Call fe (e :: es) [] pos) X.env = (do
      let v ← eval fe X.env
      callWith pos v [] (backTo pos (starEach (e :: es) X.env)) (backToKw pos (keywordEach [] X.env))) := by rfl)
    (he : starEach (e :: es) X.env = (false, eval e X.env) :: starEach es X.env := by rfl)
    (hpl : (backTo pos (starEach es X.env)).any (·.1) = false := by rfl) : PE X (.Call fe (e :: es) [] pos) (tCallV S F E tf t) := by
  refine ⟨fun pins s σ H Q I h => ?_⟩
  rw [ht]
  refine wpAny_bind (thn (hf.run pins s σ H _ I h) fun u s1 ⟨y, H1, I1, r1, f, hS, ey, q1⟩ => ?_)
  subst ey
  cases (show u = Value.ref f from r1)
  obtain ⟨fd, F', hb, hk⟩ := (C f hS).ex
  refine PySem.W.callWith_K (h₀ := X.base) I.ok.mod.kin hk (thn (ha.run pos pins s1 σ _ _ I1 q1) fun us s2 ⟨vs, H2, I2, r, q⟩ => ⟨I2.kIn, ?_⟩) he hpl
  exact run_g (ar := ⟨us, []⟩) F' hr hG (hx σ) I2 (hb s2 us (r.length.symm.trans (F'.size _ _ _ _ q))) r q
end
end Lf

set_option Elab.async false
set_option linter.all false
set_option maxRecDepth 100000
set_option maxHeartbeats 4000000
set_option exponentiation.threshold 3000
namespace Lf
open PySem PySem.Spec PyProof.Rows L2
open NdefX
theorem bt_list : bootBuiltins "list" = some (.type "list") := by decide +kernel
theorem ix_tupK {X : Cx} {K : PySem.W.Frag} (hK : X.K = K := by rfl) : IxR X (rIxT K) := hK ▸ ix_tup
/-- a statement that is never come to -/
theorem ps_dead {X : Cx} {st : Stmt} : PS X st (fun _ _ _ => False) := ⟨fun _ _ _ _ _ _ h => h.elim⟩
/-- the top and the bottom of a fraction -/
def top2 : PyData → Int × Int
  | .tuple [.int a, .int b] => (a, b)
  | _ => (0, 1)
def isM (d : PyData) : Bool := isFr d && decide (0 ≤ (top2 d).1)
/-- a fraction above 0 -/
def isAb (d : PyData) : Bool := isFr d && decide (0 < (top2 d).1)
theorem isFr_inv {d : PyData} (h : isFr d = true) : ∃ a b : Int, d = .tuple [.int a, .int b] ∧ IsLow a b := by
  cases d with
  | tuple ds =>
    match ds, h with
    | [x, y], h =>
      have h' : fr2 x y = true := h
      cases x <;> cases y <;> first | (cases h'; done) | skip
      rename_i a b
      have h2 : (decide (0 < b) && decide (Nat.gcd a.natAbs b.natAbs = 1)) = true := h'
      rw [Bool.and_eq_true] at h2
      exact ⟨a, b, rfl, of_decide_eq_true h2.1, of_decide_eq_true h2.2⟩
    | [], h => cases h
    | [_], h => cases h
    | _ :: _ :: _ :: _, h => cases h
  | none => cases h
  | bool _ => cases h
  | int _ => cases h
  | str _ => cases h
  | list _ => cases h
  | dict _ => cases h
def whole : PyData → Int
  | .int n => n
  | _ => 0
def isRow : PyData → Bool
  | .tuple [n, p] => isNm n && isAb p
  | _ => false
def rowN : PyData → Str
  | .tuple [.str z, _] => z
  | _ => Str.empty
def isRsL (ds : List PyData) : Bool := decide (1 ≤ ds.length) && decide (ds.length ≤ 8) && ds.all isRow && decide ((ds.map rowN).Nodup)
def isRows : PyData → Bool
  | .list ds => isRsL ds
  | .tuple ds => isRsL ds
  | _ => false
def isLd (d : PyData) : Bool := isW d && decide (0 ≤ whole d ∧ whole d ≤ 99)
/-- the first of a dough's three that is not as told -/
def dgW (dn dr dl : PyData) : Option Str := if isNm dn = false then some ("name" : Str) else if isRows dr = false then some ("rows" : Str) else if isLd dl = false then some ("lead" : Str) else none
theorem isRow_inv {d : PyData} (h : isRow d = true) : ∃ z p, d = .tuple [.str z, p] ∧ isNm (.str z) = true ∧ isAb p = true := by
  cases d with
  | tuple ds =>
    match ds, h with
    | [n, p], h =>
      have h : (isNm n && isAb p) = true := h
      rw [Bool.and_eq_true] at h
      cases n <;> first | exact ⟨_, _, rfl, h.1, h.2⟩ | (exact absurd h.1 (by simp [isNm]))
    | [], h => cases h
    | [_], h => cases h
    | _ :: _ :: _ :: _, h => cases h
  | none => cases h
  | bool _ => cases h
  | int _ => cases h
  | str _ => cases h
  | list _ => cases h
  | dict _ => cases h
/-- a text that fits, a pair of numbers that fits -/
structure El (d : PyData) : Prop where
  st : ∀ z, d = .str z → z.length ≤ 1000 ∧ ∀ c ∈ z.cps.toList, c < 0x110000
  fr : ∀ a b, d = .tuple [.int a, .int b] → a.natAbs < 2 ^ 60 ∧ b.natAbs < 2 ^ 60
def RwG (d : PyData) : Prop := ∀ ds, d = .tuple ds → ∀ e ∈ ds, El e
def RsG (d : PyData) : Prop := ∀ ds, (d = .list ds ∨ d = .tuple ds) → ds.length ≤ 100 ∧ ∀ e ∈ ds, RwG e
theorem once_lt : ∀ (xs T : List Str), (¬ xs.Nodup ∨ ∃ x ∈ xs, x ∈ T) → (xs.foldl into T).length < T.length + xs.length
  | [], T, h => by rcases h with h | ⟨x, h, _⟩; exact absurd List.nodup_nil h; cases h
  | x :: xs, T, h => by
    rw [List.foldl_cons, List.length_cons]
    by_cases hx : x ∈ T
    · rw [show into T x = T from if_pos hx]
      have := once_le xs T
      omega
    · rw [show into T x = x :: T from if_neg hx]
      have h2 : ¬ xs.Nodup ∨ ∃ y ∈ xs, y ∈ x :: T := by
        rcases h with h | ⟨y, hy, hT⟩
        · by_cases q : x ∈ xs
          · exact .inr ⟨x, q, List.mem_cons_self⟩
          · exact .inl fun nd => h (List.nodup_cons.mpr ⟨q, nd⟩)
        · rcases List.mem_cons.mp hy with rfl | hy
          · exact absurd hT hx
          · exact .inr ⟨y, hy, List.mem_cons_of_mem _ hT⟩
      have := once_lt xs (x :: T) h2
      rw [List.length_cons] at this
      omega
theorem once_iff (xs : List Str) : decide (V.int ((once xs).length : Nat) = V.int (xs.length : Nat)) = decide xs.Nodup := by
  by_cases h : xs.Nodup
  · rw [once_all h, decide_eq_true rfl, decide_eq_true h]
  · rw [decide_eq_false h]
    refine decide_eq_false fun z => ?_
    have := once_lt xs [] (.inl h)
    have e := V.int.inj z
    unfold once at e
    rw [List.length_nil] at this
    omega
theorem kl_none : kitB "NoneType" "list" = some false := by decide +kernel
theorem kl_bool : kitB "bool" "list" = some false := by decide +kernel
theorem kl_int : kitB "int" "list" = some false := by decide +kernel
theorem kl_str : kitB "str" "list" = some false := by decide +kernel
theorem kl_list : kitB "list" "list" = some true := by decide +kernel
theorem kl_tuple : kitB "tuple" "list" = some false := by decide +kernel
theorem kl_dict : kitB "dict" "list" = some false := by decide +kernel
def isLi : PyData → Bool
  | .list _ => true
  | _ => false
theorem kl (d : PyData) : kitB (tyN d) "list" = some (isLi d) :=
  match d with
  | .none => kl_none
  | .bool _ => kl_bool
  | .int _ => kl_int
  | .str _ => kl_str
  | .list _ => kl_list
  | .tuple _ => kl_tuple
  | .dict _ => kl_dict
theorem k_lt {K : PySem.W.Frag} (d : PyData) : PySem.W.kitAny K (.type (tyN d)) [.type "list", .type "tuple"] = some (isLi d || isT d) := by
  refine kitAny_cons (kit_ty (kl d)) (fun h => ?_) (fun h => by rw [h]; rfl)
  rw [h, Bool.false_or]
  exact kitAny_cons (kit_ty (kt d)) (fun h => by rw [h]; rfl) (fun h => h)
section
variable {P : Program} {w : World} {K : PySem.W.Frag} {mg : Str → Option Value} {base : Heap} {c0 c1 : Addr}
theorem DgAll.get {H : Hp} : ∀ {vs : List V} {ds : List PyData} {i : Nat} {v : V}, DgAll K H vs ds → vs[i]? = some v → ∃ d, ds[i]? = some d ∧ Dg K H v d
  | _, _, _, _, .nil, e => by simp at e
  | _, _, 0, _, .cons a _, e => by simp at e; subst e; exact ⟨_, rfl, a⟩
  | _, _, i + 1, v, .cons _ r, e => by
    obtain ⟨d, h1, h2⟩ := DgAll.get (i := i) (v := v) r (by simpa using e)
    exact ⟨d, by simpa using h1, h2⟩
theorem Dg.pair {H : Hp} {v : V} {d1 d2 : PyData} (h : Dg K H v (.tuple [d1, d2])) : ∃ p x y, v = .ref p ∧ SqT K H p [x, y] ∧ Dg K H x d1 ∧ Dg K H y d2 := by
  cases h with
  | tup h1 h2 =>
    cases h2 with
    | cons a r =>
      cases r with
      | cons b r =>
        cases r
        exact ⟨_, _, _, rfl, h1, a, b⟩
theorem Dg.int_ {H : Hp} {v : V} {n : Int} (h : Dg K H v (.int n)) : v = .int n := by cases h; rfl
theorem Dg.str_ {H : Hp} {v : V} {z : Str} (h : Dg K H v (.str z)) : v = .str z := by cases h; rfl
/-- a thing that is a fraction stands so -/
theorem fr_at {H : Hp} {v : V} {d : PyData} (h : Dg K H v d) (e : isFr d = true) : AtK K H v (top2 d) ∧ IsF (top2 d) ∧ d = tD (top2 d) := by
  obtain ⟨a, b, rfl, hl⟩ := isFr_inv e
  obtain ⟨p, x, y, rfl, hS, h1, h2⟩ := h.pair
  obtain rfl := h1.int_
  obtain rfl := h2.int_
  exact ⟨⟨p, rfl, hS⟩, hl, rfl⟩

/-! ### is_above_0 -/
theorem sc_is_above_0 : FnScope ["thing"] ["thing"] (defScope s_is_above_0) := ⟨rfl, rfl, rfl, by decide +kernel, rfl, by decide +kernel, by decide +kernel⟩
def sp_ab0Q (K : PySem.W.Frag) : Sp := fun vs H Q _ => ∃ (v : V) (d : PyData), vs = [v] ∧ Dg K H v d ∧ Q (.bl (isAb d)) H
theorem ok_ab0Q {f : Addr} {fd : FuncData} (F : Fun K "is_above_0" "is_above_0" s_is_above_0 f fd) (C_is_fraction : Cal P w K mg base CX0 2 "is_fraction" ["thing"] (sp_isfr K)) : FnG P w K mg base CX0 3 f fd ["thing"] (sp_ab0Q K) := by
  refine Gfun F sc_is_above_0 (fun vs H Q E h => ?_) (fun cdv A outer s H vs Q E hg hr h => ?_)
  · obtain ⟨v, d, rfl, _⟩ := h
    rfl
  · obtain ⟨v, d, rfl, hq, k⟩ := h
    refine ⟨_, (pss_one (ps_ret (pe_and (pe_g C_is_fraction (hr.mono (by decide)) hg (pa_cons (pv 0) pa_nil)) (pe_one (pe_cmpR op_gt (pe_ix ix_tup (pv 0) pe_int (fun _ _ => rfl)) pe_int (nomark _)))))), ?_⟩
    refine ⟨_, rfl, v, d, rfl, hq, _, rfl, ite2 (fun e => ?_) (fun e => ?_)⟩
    · obtain ⟨⟨p, rfl, hp⟩, _, _⟩ := fr_at hq e
      refine ⟨_, rfl, p, _, _, _, rfl, rfl, hp, atI_nat (j := 0) rfl, _, _, rfl, rfl, ?_⟩
      have : isAb d = decide (0 < (top2 d).1) := by unfold isAb; rw [e]; rfl
      rw [this] at k
      exact k
    · have : isAb d = false := by unfold isAb; rw [show isFr d = false from Bool.eq_false_iff.mpr e]; rfl
      rw [this] at k
      exact k

/-! ### is_row -/
theorem sc_is_row : FnScope ["thing"] ["thing"] (defScope s_is_row) := ⟨rfl, rfl, rfl, by decide +kernel, rfl, by decide +kernel, by decide +kernel⟩
def sp_isrow (K : PySem.W.Frag) : Sp := fun vs H Q _ => ∃ (v : V) (d : PyData), vs = [v] ∧ Dg K H v d ∧ RwG d ∧ ∀ H', Same H H' → Q (.bl (isRow d)) H'
theorem ok_isrow {f : Addr} {fd : FuncData} (M : Blt mg) (Mx : Bltx mg) (F : Fun K "is_row" "is_row" s_is_row f fd) (C_is_name : Cal P w K mg base CX0 2 "is_name" ["thing"] (sp_isnm K)) (C_is_above_0 : Cal P w K mg base CX0 3 "is_above_0" ["thing"] (sp_ab0Q K)) : FnG P w K mg base CX0 4 f fd ["thing"] (sp_isrow K) := by
  refine Gfun F sc_is_row (fun vs H Q E h => ?_) (fun cdv A outer s H vs Q E hg hr h => ?_)
  · obtain ⟨v, r, rfl, _⟩ := h
    rfl
  · obtain ⟨v, d, rfl, hq, rg, k⟩ := h
    refine ⟨_, (pss_cons (ps_if (PW.pt (pw_or (pt_not (pt_val (pe_callB call_isi rfl Mx.isinstance bt_isinstance (pa_cons (pv 0) (pa_cons (pe_bltn (v := .ty "tuple") rfl Mx.tuple bt_tuple rfl) pa_nil))))) (pw_or1 (pt_cmpR op_ne (pe_callB call_len_seq rfl M.len bt_len (pa_cons (pv 0) pa_nil)) pe_int (nomark _)))))
      (pss_one (ps_ret pe_bl))
      pss_nil)
      (pss_one (ps_ret (pe_and (pe_g C_is_name (hr.mono (by decide)) hg (pa_cons (pe_ix ix_tup (pv 0) pe_int (fun _ _ => rfl)) pa_nil)) (pe_one (pe_g C_is_above_0 (hr.mono (by decide)) hg (pa_cons (pe_ix ix_tup (pv 0) pe_int (fun _ _ => rfl)) pa_nil))))))), ?_⟩
    have fin : ∀ b : Bool, isRow d = b → ∀ H', Same H H' → Q (.bl b) H' := fun b e H' s => e ▸ k H' s
    refine ⟨_, rfl, _, _, _, _, _, rfl, .ty "tuple", hq.ty, kit_ty (kt d), _, rfl, ?_⟩
    by_cases ht : isT d = true
    · rw [ht]
      refine iteF ?_
      obtain ⟨a, xs, ds, rfl, rfl, hS, hA, _⟩ := hq.tupI ht
      refine ⟨_, rfl, a, xs, rfl, .inr hS, rfl, _, rfl, ?_⟩
      by_cases hl : xs.length = 2
      · refine iteNS (show V.int (xs.length : Int) = V.int 2 by rw [hl]; rfl) ?_
        obtain ⟨x, y, d1, d2, rfl, rfl, h1, h2⟩ := two_of hA hl
        refine ⟨_, rfl, a, _, _, _, rfl, rfl, hS, atI_nat (j := 0) rfl, x, d1, rfl, h1, (fun z e => ((rg _ rfl d1 (by simp)).st z e).1), fun H1 s1 => ?_⟩
        refine ⟨_, rfl, ite2 (fun e => ?_) (fun e => ?_)⟩
        · refine ⟨_, rfl, a, _, _, _, rfl, rfl, sm_t s1 hS, atI_nat (j := 1) rfl, y, d2, rfl, h2.same s1, fin _ ?_ H1 s1⟩
          show (isNm d1 && isAb d2) = _
          rw [e, Bool.true_and]
        · refine fin _ ?_ H1 s1
          show (isNm d1 && isAb d2) = _
          rw [show isNm d1 = false from Bool.eq_false_iff.mpr e, Bool.false_and]
      · refine iteN (fun z => hl (by have := V.int.inj z; omega)) ?_
        refine fin _ ?_ H same_rfl
        have hl2 : ds.length ≠ 2 := by rw [← DgAll.len hA]; exact hl
        match ds, hl2 with
        | [], _ => rfl
        | [_], _ => rfl
        | [_, _], h => exact absurd rfl h
        | _ :: _ :: _ :: _, _ => rfl
    · have ht' : isT d = false := by cases h : isT d <;> first | rfl | exact absurd h ht
      rw [ht']
      refine iteT (fin _ ?_ H same_rfl)
      cases d <;> first | rfl | exact absurd rfl ht

/-! ### are_rows -/
theorem sc_are_rows : FnScope ["thing", "row"] ["thing"] (defScope s_are_rows) := ⟨rfl, rfl, rfl, by decide +kernel, rfl, by decide +kernel, by decide +kernel⟩
def sp_arerL (K : PySem.W.Frag) : Sp := fun vs H Q _ => ∃ (v : V) (ds : List PyData), vs = [v] ∧ Dg K H v (.list ds) ∧ RsG (.list ds) ∧ ∀ H', Same H H' → Q (.bl (isRsL ds)) H'
theorem ok_arerL {f : Addr} {fd : FuncData} {tk : Tok} (M : Blt mg) (Mx : Bltx mg) (ml : mg "list" = none) (ms : mg "set" = none) (G_MOST : mg "MOST_ROWS" = some (.int 8 tk)) (F : Fun K "are_rows" "are_rows" s_are_rows f fd) (C_is_row : Cal P w K mg base CX0 4 "is_row" ["thing"] (sp_isrow K)) : FnG P w K mg base CX0 5 f fd ["thing"] (sp_arerL K) := by
  refine Gfun F sc_are_rows (fun vs H Q E h => ?_) (fun cdv A outer s H vs Q E hg hr h => ?_)
  · obtain ⟨v, ds, rfl, _⟩ := h
    rfl
  · obtain ⟨v, ds, rfl, hq, rg, k⟩ := h
    refine ⟨_, (pss_cons (ps_if (PW.pt (pw_or (pt_not (pt_val (pe_callB call_isiT rfl Mx.isinstance bt_isinstance (pa_cons (pv 0) (pa_cons (pe_tup (pa_cons (pe_bltn (v := .ty "list") rfl ml bt_list rfl) (pa_cons (pe_bltn (v := .ty "tuple") rfl Mx.tuple bt_tuple rfl) pa_nil))) pa_nil))))) (pw_or1 (pt_not (pt_chain op_le op_le pe_int (pe_callB call_len_seq rfl M.len bt_len (pa_cons (pv 0) pa_nil)) (pe_glob (v := .int 8) rfl G_MOST ⟨_, rfl⟩))))))
      (pss_one (ps_ret pe_bl))
      pss_nil)
      (pss_cons (ps_if (pt_not (pt_val (pe_callB (cr_all rfl) rfl M.all bt_all (pa_cons (pe_lc (own := [("row", 1)]) (g := gName 1) (tt := tYes) rfl sc_are_rows.nd (pi_list (pv 0)) (blkOk_by (N := ["thing", "row"]) (sc := defScope s_are_rows) (by decide +kernel)) (fun _ _ _ _ _ => pg_name (i := 1) sc_are_rows.nd rfl (Or.inl rfl)) (fun _ _ _ _ _ => pts_nil) (fun _ _ _ _ _ => (pe_g C_is_row (hr.mono (by decide)) hg (pa_cons (pv 1) pa_nil)))) pa_nil))))
      (pss_one (ps_ret pe_bl))
      pss_nil)
      (pss_one (ps_ret (pe_cmpR op_eq (pe_lenTxt M.len ms (pe_lc (own := [("row", 1)]) (g := gName 1) (tt := tYes) rfl sc_are_rows.nd (pi_list (pv 0)) (blkOk_by (N := ["thing", "row"]) (sc := defScope s_are_rows) (by decide +kernel)) (fun _ _ _ _ _ => pg_name (i := 1) sc_are_rows.nd rfl (Or.inl rfl)) (fun _ _ _ _ _ => pts_nil) (fun _ _ _ _ _ => (pe_ix (ix_tupK (K := K)) (pv 1) pe_int (fun _ _ => rfl))))) (pe_callB call_len_seq rfl M.len bt_len (pa_cons (pv 0) pa_nil)) (nomark _)))))), ?_⟩
    obtain ⟨hl100, rwg⟩ := rg ds (.inl rfl)
    refine ⟨_, rfl, len_show (Nat.le_of_ble_eq_true rfl), fun tp nt => ?_⟩
    have s1 : Same H (L2.upd H tp (.tup [.ty "list", .ty "tuple"])) := same_new nt
    refine ⟨_, tp, _, _, _, true, rfl, upd_same, .cons (.ty "list") (.cons (.ty "tuple") .nil), (hq.same s1).ty, k_lt (.list ds), _, rfl, ?_⟩
    generalize L2.upd H tp (.tup [.ty "list", .ty "tuple"]) = H1 at s1 ⊢
    refine iteF ?_
    obtain ⟨a, xs, hx, hS, hA⟩ : ∃ a xs, v = .ref a ∧ SqL K H a xs ∧ DgAll K H xs ds := by
      cases hq with
      | lst h1 h2 => exact ⟨_, _, rfl, h1, h2⟩
    subst hx
    have hl : xs.length = ds.length := DgAll.len hA
    refine ⟨_, rfl, a, xs, rfl, .inl (sm_l s1 hS), _, _, rfl, rfl, _, rfl, ?_⟩
    unfold isRsL at k
    by_cases c1 : 1 ≤ ds.length
    · rw [decide_eq_true (show (1 : Int) ≤ (xs.length : Int) by omega)]
      refine iteT ⟨_, _, rfl, rfl, _, rfl, ?_⟩
      by_cases c8 : ds.length ≤ 8
      · rw [decide_eq_true (show (xs.length : Int) ≤ 8 by omega)]
        refine iteF ?_
        rw [decide_eq_true c1, decide_eq_true c8, Bool.true_and, Bool.true_and] at k
        refine ⟨_, rfl, a, rfl, ⟨_, sm_l s1 hS⟩, fun D hD => lc_list (xs := xs) (fun i H' => H' D = some (.lst ((ds.take i).map fun d => .bl (isRow d))) ∧ Same H1 H') ⟨upd_same, same_new hD⟩ (fun i H' _ h => sm_l (s1.trans h.2) hS) ?_ ?_⟩
        · rintro i x H2 hx ⟨eD, sm⟩
          obtain ⟨d, hd, hg0⟩ := hA.get hx
          have hi : i < xs.length := (List.getElem?_eq_some_iff.mp hx).1
          refine ⟨rfl, _, rfl, x, d, rfl, hg0.same (s1.trans sm), rwg d (List.mem_of_getElem? hd), fun H3 s3 => ?_⟩
          refine ⟨_, s3 _ _ eD, ?_, ?_, fun b o e => ?_⟩
          · rw [List.length_map, List.length_take, sizeLine_eq]
            omega
          · rw [upd_same, List.take_succ, hd, List.map_append]
            rfl
          · rw [upd_ne (ne_of_none e hD)]
            exact s3 _ _ (sm _ _ e)
        · rintro H2 ⟨eD, sm⟩
          rw [hl, List.take_length] at eD
          refine ⟨D, ds.map isRow, rfl, .inl (.inl (by rw [eD, List.map_map]; rfl)), ?_⟩
          rw [show (ds.map isRow).all id = ds.all isRow by rw [List.all_map]; rfl]
          by_cases ca : ds.all isRow = true
          · rw [ca]
            rw [ca, Bool.true_and] at k
            refine ⟨_, rfl, iteF ?_⟩
            have hrow := fun d hd => List.all_eq_true.mp ca d hd
            refine ⟨_, rfl, a, rfl, ⟨_, sm_l (s1.trans sm) hS⟩, fun D2 hD2 => lc_list (xs := xs) (fun i H' => H' D2 = some (.lst (((ds.map rowN).take i).map V.str)) ∧ Same H2 H') ⟨upd_same, same_new hD2⟩ (fun i H' _ h => sm_l (s1.trans (sm.trans h.2)) hS) ?_ ?_⟩
            · rintro i x H3 hx ⟨e3, sm3⟩
              obtain ⟨d, hd, hg0⟩ := hA.get hx
              have hi : i < xs.length := (List.getElem?_eq_some_iff.mp hx).1
              obtain ⟨z, p, rfl, _, _⟩ := isRow_inv (hrow d (List.mem_of_getElem? hd))
              obtain ⟨q, x1, x2, rfl, hp, g1, g2⟩ := hg0.pair
              obtain rfl := g1.str_
              refine ⟨rfl, _, rfl, q, _, _, _, rfl, rfl, sm_t (s1.trans (sm.trans sm3)) hp, atI_nat (j := 0) rfl, _, e3, ?_, ?_, fun b o e => ?_⟩
              · rw [List.length_map, List.length_take, sizeLine_eq]
                omega
              · have hg2 : (ds.map rowN)[i]? = some z := by rw [List.getElem?_map, hd]; rfl
                rw [upd_same, List.take_succ, hg2, List.map_append]
                rfl
              · rw [upd_ne (ne_of_none e hD2)]
                exact sm3 _ _ e
            · rintro H3 ⟨e3, sm3⟩
              rw [List.take_of_length_le (by rw [List.length_map]; omega)] at e3
              refine ⟨D2, ds.map rowN, rfl, .inl (.inl e3), by rw [List.length_map]; omega, ?_⟩
              refine ⟨_, rfl, a, xs, rfl, .inl (sm_l (s1.trans (sm.trans sm3)) hS), rfl, ?_⟩
              rw [show V.int (xs.length : Nat) = V.int ((ds.map rowN).length : Nat) by rw [List.length_map, hl], once_iff]
              exact k _ (s1.trans (sm.trans sm3))
          · rw [show ds.all isRow = false from Bool.eq_false_iff.mpr ca]
            rw [show ds.all isRow = false from Bool.eq_false_iff.mpr ca, Bool.false_and] at k
            exact ⟨_, rfl, iteT (k _ (s1.trans sm))⟩
      · rw [decide_eq_false (show ¬ (xs.length : Int) ≤ 8 by omega)]
        rw [decide_eq_false c8, Bool.and_false, Bool.false_and, Bool.false_and] at k
        exact iteT (k _ s1)
    · rw [decide_eq_false (show ¬ (1 : Int) ≤ (xs.length : Int) by omega)]
      rw [decide_eq_false c1, Bool.false_and, Bool.false_and, Bool.false_and] at k
      exact iteF ⟨_, rfl, iteT (k _ s1)⟩

def sp_arerT (K : PySem.W.Frag) : Sp := fun vs H Q _ => ∃ (v : V) (ds : List PyData), vs = [v] ∧ Dg K H v (.tuple ds) ∧ RsG (.tuple ds) ∧ ∀ H', Same H H' → Q (.bl (isRsL ds)) H'
theorem ok_arerT {f : Addr} {fd : FuncData} {tk : Tok} (M : Blt mg) (Mx : Bltx mg) (ml : mg "list" = none) (ms : mg "set" = none) (G_MOST : mg "MOST_ROWS" = some (.int 8 tk)) (F : Fun K "are_rows" "are_rows" s_are_rows f fd) (C_is_row : Cal P w K mg base CX0 4 "is_row" ["thing"] (sp_isrow K)) : FnG P w K mg base CX0 5 f fd ["thing"] (sp_arerT K) := by
  refine Gfun F sc_are_rows (fun vs H Q E h => ?_) (fun cdv A outer s H vs Q E hg hr h => ?_)
  · obtain ⟨v, ds, rfl, _⟩ := h
    rfl
  · obtain ⟨v, ds, rfl, hq, rg, k⟩ := h
    refine ⟨_, (pss_cons (ps_if (PW.pt (pw_or (pt_not (pt_val (pe_callB call_isiT rfl Mx.isinstance bt_isinstance (pa_cons (pv 0) (pa_cons (pe_tup (pa_cons (pe_bltn (v := .ty "list") rfl ml bt_list rfl) (pa_cons (pe_bltn (v := .ty "tuple") rfl Mx.tuple bt_tuple rfl) pa_nil))) pa_nil))))) (pw_or1 (pt_not (pt_chain op_le op_le pe_int (pe_callB call_len_seq rfl M.len bt_len (pa_cons (pv 0) pa_nil)) (pe_glob (v := .int 8) rfl G_MOST ⟨_, rfl⟩))))))
      (pss_one (ps_ret pe_bl))
      pss_nil)
      (pss_cons (ps_if (pt_not (pt_val (pe_callB (cr_all rfl) rfl M.all bt_all (pa_cons (pe_lc (own := [("row", 1)]) (g := gName 1) (tt := tYes) rfl sc_are_rows.nd (pi_tup (pv 0)) (blkOk_by (N := ["thing", "row"]) (sc := defScope s_are_rows) (by decide +kernel)) (fun _ _ _ _ _ => pg_name (i := 1) sc_are_rows.nd rfl (Or.inl rfl)) (fun _ _ _ _ _ => pts_nil) (fun _ _ _ _ _ => (pe_g C_is_row (hr.mono (by decide)) hg (pa_cons (pv 1) pa_nil)))) pa_nil))))
      (pss_one (ps_ret pe_bl))
      pss_nil)
      (pss_one (ps_ret (pe_cmpR op_eq (pe_lenTxt M.len ms (pe_lc (own := [("row", 1)]) (g := gName 1) (tt := tYes) rfl sc_are_rows.nd (pi_tup (pv 0)) (blkOk_by (N := ["thing", "row"]) (sc := defScope s_are_rows) (by decide +kernel)) (fun _ _ _ _ _ => pg_name (i := 1) sc_are_rows.nd rfl (Or.inl rfl)) (fun _ _ _ _ _ => pts_nil) (fun _ _ _ _ _ => (pe_ix (ix_tupK (K := K)) (pv 1) pe_int (fun _ _ => rfl))))) (pe_callB call_len_seq rfl M.len bt_len (pa_cons (pv 0) pa_nil)) (nomark _)))))), ?_⟩
    obtain ⟨hl100, rwg⟩ := rg ds (.inr rfl)
    refine ⟨_, rfl, len_show (Nat.le_of_ble_eq_true rfl), fun tp nt => ?_⟩
    have s1 : Same H (L2.upd H tp (.tup [.ty "list", .ty "tuple"])) := same_new nt
    refine ⟨_, tp, _, _, _, true, rfl, upd_same, .cons (.ty "list") (.cons (.ty "tuple") .nil), (hq.same s1).ty, k_lt (.tuple ds), _, rfl, ?_⟩
    generalize L2.upd H tp (.tup [.ty "list", .ty "tuple"]) = H1 at s1 ⊢
    refine iteF ?_
    obtain ⟨a, xs, hx, hS, hA⟩ : ∃ a xs, v = .ref a ∧ SqT K H a xs ∧ DgAll K H xs ds := by
      cases hq with
      | tup h1 h2 => exact ⟨_, _, rfl, h1, h2⟩
    subst hx
    have hl : xs.length = ds.length := DgAll.len hA
    refine ⟨_, rfl, a, xs, rfl, .inr (sm_t s1 hS), _, _, rfl, rfl, _, rfl, ?_⟩
    unfold isRsL at k
    by_cases c1 : 1 ≤ ds.length
    · rw [decide_eq_true (show (1 : Int) ≤ (xs.length : Int) by omega)]
      refine iteT ⟨_, _, rfl, rfl, _, rfl, ?_⟩
      by_cases c8 : ds.length ≤ 8
      · rw [decide_eq_true (show (xs.length : Int) ≤ 8 by omega)]
        refine iteF ?_
        rw [decide_eq_true c1, decide_eq_true c8, Bool.true_and, Bool.true_and] at k
        refine ⟨_, rfl, a, rfl, ⟨_, sm_t s1 hS⟩, fun D hD => lc_tup (xs := xs) (fun i H' => H' D = some (.lst ((ds.take i).map fun d => .bl (isRow d))) ∧ Same H1 H') ⟨upd_same, same_new hD⟩ (fun i H' _ h => sm_t (s1.trans h.2) hS) ?_ ?_⟩
        · rintro i x H2 hx ⟨eD, sm⟩
          obtain ⟨d, hd, hg0⟩ := hA.get hx
          have hi : i < xs.length := (List.getElem?_eq_some_iff.mp hx).1
          refine ⟨rfl, _, rfl, x, d, rfl, hg0.same (s1.trans sm), rwg d (List.mem_of_getElem? hd), fun H3 s3 => ?_⟩
          refine ⟨_, s3 _ _ eD, ?_, ?_, fun b o e => ?_⟩
          · rw [List.length_map, List.length_take, sizeLine_eq]
            omega
          · rw [upd_same, List.take_succ, hd, List.map_append]
            rfl
          · rw [upd_ne (ne_of_none e hD)]
            exact s3 _ _ (sm _ _ e)
        · rintro H2 ⟨eD, sm⟩
          rw [hl, List.take_length] at eD
          refine ⟨D, ds.map isRow, rfl, .inl (.inl (by rw [eD, List.map_map]; rfl)), ?_⟩
          rw [show (ds.map isRow).all id = ds.all isRow by rw [List.all_map]; rfl]
          by_cases ca : ds.all isRow = true
          · rw [ca]
            rw [ca, Bool.true_and] at k
            refine ⟨_, rfl, iteF ?_⟩
            have hrow := fun d hd => List.all_eq_true.mp ca d hd
            refine ⟨_, rfl, a, rfl, ⟨_, sm_t (s1.trans sm) hS⟩, fun D2 hD2 => lc_tup (xs := xs) (fun i H' => H' D2 = some (.lst (((ds.map rowN).take i).map V.str)) ∧ Same H2 H') ⟨upd_same, same_new hD2⟩ (fun i H' _ h => sm_t (s1.trans (sm.trans h.2)) hS) ?_ ?_⟩
            · rintro i x H3 hx ⟨e3, sm3⟩
              obtain ⟨d, hd, hg0⟩ := hA.get hx
              have hi : i < xs.length := (List.getElem?_eq_some_iff.mp hx).1
              obtain ⟨z, p, rfl, _, _⟩ := isRow_inv (hrow d (List.mem_of_getElem? hd))
              obtain ⟨q, x1, x2, rfl, hp, g1, g2⟩ := hg0.pair
              obtain rfl := g1.str_
              refine ⟨rfl, _, rfl, q, _, _, _, rfl, rfl, sm_t (s1.trans (sm.trans sm3)) hp, atI_nat (j := 0) rfl, _, e3, ?_, ?_, fun b o e => ?_⟩
              · rw [List.length_map, List.length_take, sizeLine_eq]
                omega
              · have hg2 : (ds.map rowN)[i]? = some z := by rw [List.getElem?_map, hd]; rfl
                rw [upd_same, List.take_succ, hg2, List.map_append]
                rfl
              · rw [upd_ne (ne_of_none e hD2)]
                exact sm3 _ _ e
            · rintro H3 ⟨e3, sm3⟩
              rw [List.take_of_length_le (by rw [List.length_map]; omega)] at e3
              refine ⟨D2, ds.map rowN, rfl, .inl (.inl e3), by rw [List.length_map]; omega, ?_⟩
              refine ⟨_, rfl, a, xs, rfl, .inr (sm_t (s1.trans (sm.trans sm3)) hS), rfl, ?_⟩
              rw [show V.int (xs.length : Nat) = V.int ((ds.map rowN).length : Nat) by rw [List.length_map, hl], once_iff]
              exact k _ (s1.trans (sm.trans sm3))
          · rw [show ds.all isRow = false from Bool.eq_false_iff.mpr ca]
            rw [show ds.all isRow = false from Bool.eq_false_iff.mpr ca, Bool.false_and] at k
            exact ⟨_, rfl, iteT (k _ (s1.trans sm))⟩
      · rw [decide_eq_false (show ¬ (xs.length : Int) ≤ 8 by omega)]
        rw [decide_eq_false c8, Bool.and_false, Bool.false_and, Bool.false_and] at k
        exact iteT (k _ s1)
    · rw [decide_eq_false (show ¬ (1 : Int) ≤ (xs.length : Int) by omega)]
      rw [decide_eq_false c1, Bool.false_and, Bool.false_and, Bool.false_and] at k
      exact iteF ⟨_, rfl, iteT (k _ s1)⟩

def sp_arerN (K : PySem.W.Frag) : Sp := fun vs H Q _ => ∃ (v : V) (d : PyData), vs = [v] ∧ Dg K H v d ∧ isLi d = false ∧ isT d = false ∧ ∀ H', Same H H' → Q (.bl false) H'
theorem ok_arerN {f : Addr} {fd : FuncData} {tk : Tok} (M : Blt mg) (Mx : Bltx mg) (ml : mg "list" = none) (ms : mg "set" = none) (G_MOST : mg "MOST_ROWS" = some (.int 8 tk)) (F : Fun K "are_rows" "are_rows" s_are_rows f fd) (C_is_row : Cal P w K mg base CX0 4 "is_row" ["thing"] (sp_isrow K)) : FnG P w K mg base CX0 5 f fd ["thing"] (sp_arerN K) := by
  refine Gfun F sc_are_rows (fun vs H Q E h => ?_) (fun cdv A outer s H vs Q E hg hr h => ?_)
  · obtain ⟨v, d, rfl, _⟩ := h
    rfl
  · obtain ⟨v, d, rfl, hq, nl, nt_, k⟩ := h
    refine ⟨_, (pss_cons (ps_if (PW.pt (pw_or (pt_not (pt_val (pe_callB call_isiT rfl Mx.isinstance bt_isinstance (pa_cons (pv 0) (pa_cons (pe_tup (pa_cons (pe_bltn (v := .ty "list") rfl ml bt_list rfl) (pa_cons (pe_bltn (v := .ty "tuple") rfl Mx.tuple bt_tuple rfl) pa_nil))) pa_nil))))) (pw_or1 (pt_not (pt_chain op_le op_le pe_int (pe_callB call_len_seq rfl M.len bt_len (pa_cons (pv 0) pa_nil)) (pe_glob (v := .int 8) rfl G_MOST ⟨_, rfl⟩))))))
      (pss_one (ps_ret pe_bl))
      pss_nil)
      (pss_cons (ps_if (pt_not (pt_val (pe_callB (cr_all rfl) rfl M.all bt_all (pa_cons (pe_lc (own := [("row", 1)]) (g := gName 1) (tt := tYes) rfl sc_are_rows.nd (pi_tup (pv 0)) (blkOk_by (N := ["thing", "row"]) (sc := defScope s_are_rows) (by decide +kernel)) (fun _ _ _ _ _ => pg_name (i := 1) sc_are_rows.nd rfl (Or.inl rfl)) (fun _ _ _ _ _ => pts_nil) (fun _ _ _ _ _ => (pe_g C_is_row (hr.mono (by decide)) hg (pa_cons (pv 1) pa_nil)))) pa_nil))))
      (pss_one (ps_ret pe_bl))
      pss_nil)
      (pss_one (ps_ret (pe_cmpR op_eq (pe_lenTxt M.len ms (pe_lc (own := [("row", 1)]) (g := gName 1) (tt := tYes) rfl sc_are_rows.nd (pi_tup (pv 0)) (blkOk_by (N := ["thing", "row"]) (sc := defScope s_are_rows) (by decide +kernel)) (fun _ _ _ _ _ => pg_name (i := 1) sc_are_rows.nd rfl (Or.inl rfl)) (fun _ _ _ _ _ => pts_nil) (fun _ _ _ _ _ => (pe_ix (ix_tupK (K := K)) (pv 1) pe_int (fun _ _ => rfl))))) (pe_callB call_len_seq rfl M.len bt_len (pa_cons (pv 0) pa_nil)) (nomark _)))))), ?_⟩
    refine ⟨_, rfl, len_show (Nat.le_of_ble_eq_true rfl), fun tp nt => ?_⟩
    have s1 : Same H (L2.upd H tp (.tup [.ty "list", .ty "tuple"])) := same_new nt
    refine ⟨_, tp, _, _, _, false, rfl, upd_same, .cons (.ty "list") (.cons (.ty "tuple") .nil), (hq.same s1).ty, by rw [k_lt, nl, nt_]; rfl, _, rfl, ?_⟩
    exact iteT (k _ s1)
def sp_arer (K : PySem.W.Frag) : Sp := fun vs H Q _ => ∃ (v : V) (d : PyData), vs = [v] ∧ Dg K H v d ∧ RsG d ∧ ∀ H', Same H H' → Q (.bl (isRows d)) H'
theorem ok_arer {f : Addr} {fd : FuncData} {tk : Tok} (M : Blt mg) (Mx : Bltx mg) (ml : mg "list" = none) (ms : mg "set" = none) (G_MOST : mg "MOST_ROWS" = some (.int 8 tk)) (F : Fun K "are_rows" "are_rows" s_are_rows f fd) (C_is_row : Cal P w K mg base CX0 4 "is_row" ["thing"] (sp_isrow K)) : FnG P w K mg base CX0 5 f fd ["thing"] (sp_arer K) := by
  refine (((ok_arerL M Mx ml ms G_MOST F C_is_row).or (ok_arerT M Mx ml ms G_MOST F C_is_row)).or (ok_arerN M Mx ml ms G_MOST F C_is_row)).imp fun vs H Q E h => ?_
  obtain ⟨v, d, rfl, hq, rg, k⟩ := h
  cases d with
  | list ds => exact .inl (.inl ⟨v, ds, rfl, hq, rg, k⟩)
  | tuple ds => exact .inl (.inr ⟨v, ds, rfl, hq, rg, k⟩)
  | none => exact .inr ⟨v, _, rfl, hq, rfl, rfl, k⟩
  | bool _ => exact .inr ⟨v, _, rfl, hq, rfl, rfl, k⟩
  | int _ => exact .inr ⟨v, _, rfl, hq, rfl, rfl, k⟩
  | str _ => exact .inr ⟨v, _, rfl, hq, rfl, rfl, k⟩
  | dict _ => exact .inr ⟨v, _, rfl, hq, rfl, rfl, k⟩

/-! ### is_lead -/
theorem sc_is_lead : FnScope ["thing"] ["thing"] (defScope s_is_lead) := ⟨rfl, rfl, rfl, by decide +kernel, rfl, by decide +kernel, by decide +kernel⟩
def sp_lead (K : PySem.W.Frag) : Sp := fun vs H Q _ => ∃ (v : V) (d : PyData), vs = [v] ∧ Dg K H v d ∧ Q (.bl (isLd d)) H
theorem ok_lead {f : Addr} {fd : FuncData} {tk : Tok} (G_LEAD : mg "LONGEST_LEAD" = some (.int 99 tk)) (F : Fun K "is_lead" "is_lead" s_is_lead f fd) (C_is_whole : Cal P w K mg base CX0 1 "is_whole" ["thing"] (sp_whole K)) : FnG P w K mg base CX0 2 f fd ["thing"] (sp_lead K) := by
  refine Gfun F sc_is_lead (fun vs H Q E h => ?_) (fun cdv A outer s H vs Q E hg hr h => ?_)
  · obtain ⟨v, d, rfl, _⟩ := h
    rfl
  · obtain ⟨v, d, rfl, hq, k⟩ := h
    refine ⟨_, (pss_one (ps_ret (pe_and (pe_g C_is_whole (hr.mono (by decide)) hg (pa_cons (pv 0) pa_nil)) (pe_one (pe_chain op_le op_le pe_int (pv 0) (pe_glob (v := .int 99) rfl G_LEAD ⟨_, rfl⟩)))))), ?_⟩
    refine ⟨_, rfl, v, d, rfl, hq, _, rfl, ite2 (fun e => ?_) (fun e => ?_)⟩
    · obtain ⟨n, rfl, rfl⟩ := hq.whole e
      have il : isLd (.int n) = decide (0 ≤ n ∧ n ≤ 99) := rfl
      rw [il] at k
      refine ⟨_, rfl, _, _, rfl, rfl, _, rfl, ?_⟩
      by_cases h0 : 0 ≤ n
      · rw [decide_eq_true h0]
        refine iteT ⟨_, _, rfl, rfl, ?_⟩
        change Q (V.bl (decide (n ≤ 99))) H
        rw [show decide (n ≤ 99) = decide (0 ≤ n ∧ n ≤ 99) from decide_eq_decide.mpr ⟨fun h => ⟨h0, h⟩, fun h => h.2⟩]
        exact k
      · rw [decide_eq_false h0]
        rw [decide_eq_false (fun h => h0 h.1)] at k
        exact iteF k
    · have : isLd d = false := by unfold isLd; rw [show isW d = false from Bool.eq_false_iff.mpr e]; rfl
      rw [this] at k
      exact k

end
end Lf

set_option Elab.async false
set_option linter.all false
set_option maxRecDepth 100000
set_option maxHeartbeats 4000000
set_option exponentiation.threshold 3000
namespace Lf
open PySem PySem.Spec PyProof.Rows L2
open NdefX
structure DghF (K : PySem.W.Frag) (C : Addr) : Prop where
  c : Cls K C
  n1 : NoAttr K C "own_name"
  n2 : NoAttr K C "own_rows"
  n3 : NoAttr K C "own_lead"
/-- a dough of these data -/
def DgO (K : PySem.W.Frag) (H : Hp) (C x : Addr) (vn vl : V) (xs : List V) : Prop := ∃ (dx pr : Addr), H x = some (.ins C dx [("own_name", vn), ("own_rows", .ref pr), ("own_lead", vl)]) ∧ SqT K H pr xs
theorem DgO.same {K : PySem.W.Frag} {H H' : Hp} {C x : Addr} {vn vl : V} {xs : List V} (s : Same H H') (p : DgO K H C x vn vl xs) : DgO K H' C x vn vl xs := by
  obtain ⟨dx, pr, h1, h2⟩ := p
  exact ⟨dx, pr, s _ _ h1, sm_t s h2⟩

/-! ### NoDough.__init__ -/
theorem scx_NoDough : NScope ["self", "field", "__class__"] ["self", "field"] ["__class__"] (defScope sx_NoDough) := nscope_by (by decide +kernel)
theorem okx_NoDough {P : Program} {w : World} {K : PySem.W.Frag} {mg : Str → Option Value} {base : Heap} {D f cc cda : Addr} {fd : FuncData} (T : XTn P K mg "NoDough" "NoDough.__init__" ["field"] sx_NoDough D f fd cc cda) : FnOk P w K mg base CX0 1 f fd ["self", "field"] (sp_xt D "field") := by
  refine xok T.F T.T T.sup scx_NoDough (fun vs H Q E h => ?_) rfl rfl rfl rfl rfl (fun L => ⟨_, rfl⟩) (fun L => rfl) (fun L => rfl) (fun L => rfl) (fun A outer s H vs Q E hr h => ?_)
  · obtain ⟨a, x, rfl, _⟩ := h
    rfl
  · obtain ⟨a, x, rfl, hx, ha, k⟩ := h
    refine ⟨_, _, pa_cons (pe_joined (PJ.cons pe_str (PJ.cons (pe_fmt (pv 1)) PJ.nil))) pa_nil, pss_one (ps_ost (pv 0) (pv 1)), a, rfl, ha, ?_⟩
    refine ⟨_, rfl, ?_, _, rfl, .inl ⟨x, rfl, Nat.le_trans hx (by decide), x, rfl, ?_, ?_⟩⟩
    · decide +kernel
    · refine Nat.le_trans (Nat.le_of_eq (PySem.Str.length_append _ _)) ?_
      exact Nat.le_trans (Nat.add_le_add (show Str.length (Str.empty ++ Str.ofString "no dough has such a ") ≤ 1000 by decide +kernel) hx) (by decide +kernel)
    · exact ⟨by show 1 ≤ 1000; decide, ha, _, rfl, _, rfl, a, D, rfl, T.T, T.no _ (by simp), .inl ⟨ha, fun dx n1 n2 => k dx n1 n2⟩⟩
section
variable {P : Program} {w : World} {K : PySem.W.Frag} {mg : Str → Option Value} {base : Heap} {c0 c1 : Addr}

/-! ### Dough.__init__ -/
theorem sc_dinit : FnScope ["self", "name", "rows", "lead"] ["self", "name", "rows", "lead"] (defScope s_dinit) := ⟨rfl, rfl, rfl, by decide +kernel, rfl, by decide +kernel, by decide +kernel⟩
/-- what a dough is made of -/
def sp_dinit (K : PySem.W.Frag) (C : Addr) : Sp := fun vs H Q _ => ∃ (x dx : Addr) (H0 : Hp) (vn vr vl : V) (dn dr dl : PyData) (a : Addr) (xs : List V), vs = [.ref x, vn, vr, vl] ∧ H0 x = none ∧ H0 dx = none ∧ dx ≠ x ∧ H = L2.upd (L2.upd H0 dx (.own x)) x (.ins C dx []) ∧
  Dg K H0 vn dn ∧ (∀ z, dn = .str z → z.length ≤ 1000) ∧ Dg K H0 vr dr ∧ RsG dr ∧ Dg K H0 vl dl ∧ dgW dn dr dl = none ∧ vr = .ref a ∧ (SqL K H0 a xs ∨ SqT K H0 a xs) ∧ ∀ H', Same H0 H' → DgO K H' C x vn vl xs → Q .non H'
theorem ok_dinit {C f : Addr} {fd : FuncData} {dvs : List V} {kws : List (Str × V)} (Mx : Bltx mg) (X : DghF K C) (F : FunD K "__init__" "Dough.__init__" (defArgs s_dinit) (defBody s_dinit) (defScope s_dinit) dvs kws f fd)
    (C_is_name : Cal P w K mg base CX0 2 "is_name" ["thing"] (sp_isnm K)) (C_are_rows : Cal P w K mg base CX0 5 "are_rows" ["thing"] (sp_arer K)) (C_is_lead : Cal P w K mg base CX0 2 "is_lead" ["thing"] (sp_lead K)) : FnG P w K mg base CX0 6 f fd ["self", "name", "rows", "lead"] (sp_dinit K C) := by
  refine GfunDX F sc_dinit (fun vs H Q E h => ?_) (fun cdv A outer s H vs Q E hg hr h => ?_)
  · obtain ⟨x, dx, H0, vn, vr, vl, dn, dr, dl, a, xs, rfl, _⟩ := h
    rfl
  · obtain ⟨x, dx, H0, vn, vr, vl, dn, dr, dl, a, xs, rfl, nx, nd, hdx, rfl, hn, hz, hr0, rg, hl, dg, rfl, hS, k⟩ := h
    refine ⟨_, (pss_cons (ps_if (pt_not (pt_val (pe_g C_is_name (hr.mono (by decide)) hg (pa_cons (pv 1) pa_nil))))
      (pss_one ps_dead)
      pss_nil)
      (pss_cons (ps_if (pt_not (pt_val (pe_g C_are_rows (hr.mono (by decide)) hg (pa_cons (pv 2) pa_nil))))
      (pss_one ps_dead)
      pss_nil)
      (pss_cons (ps_if (pt_not (pt_val (pe_g C_is_lead (hr.mono (by decide)) hg (pa_cons (pv 3) pa_nil))))
      (pss_one ps_dead)
      pss_nil)
      (pss_cons (ps_fld (pv 0) (pv 1) rfl)
      (pss_cons (ps_fld (pv 0) (pe_callTy call_tuple_of rfl Mx.tuple bt_tuple (pa_cons (pv 2) pa_nil)) rfl)
      (pss_one (ps_fld (pv 0) (pv 3) rfl))))))), ?_⟩
    have s01 : Same H0 (L2.upd (L2.upd H0 dx (.own x)) x (.ins C dx [])) := fun b o e => by
      rw [upd_ne (ne_of_none e nx), upd_ne (ne_of_none e nd)]
      exact e
    have hx1 : L2.upd (L2.upd H0 dx (.own x)) x (.ins C dx []) x = some (.ins C dx []) := upd_same
    generalize L2.upd (L2.upd H0 dx (.own x)) x (.ins C dx []) = H1 at s01 hx1 ⊢
    unfold dgW at dg
    by_cases en : isNm dn = false
    · rw [if_pos en] at dg; cases dg
    rw [if_neg en] at dg
    by_cases er : isRows dr = false
    · rw [if_pos er] at dg; cases dg
    rw [if_neg er] at dg
    by_cases el : isLd dl = false
    · rw [if_pos el] at dg; cases dg
    have en : isNm dn = true := by cases h : isNm dn <;> simp_all
    have er : isRows dr = true := by cases h : isRows dr <;> simp_all
    have el : isLd dl = true := by cases h : isLd dl <;> simp_all
    refine ⟨_, rfl, vn, dn, rfl, hn.same s01, hz, fun H2 s12 => ?_⟩
    rw [en]
    refine ⟨_, rfl, iteF ?_⟩
    have s02 := s01.trans s12
    refine ⟨_, rfl, _, dr, rfl, hr0.same s02, rg, fun H3 s23 => ?_⟩
    rw [er]
    refine ⟨_, rfl, iteF ?_⟩
    have s03 := s02.trans s23
    refine ⟨_, rfl, vl, dl, rfl, hl.same s03, ?_⟩
    rw [el]
    refine ⟨_, rfl, iteF ?_⟩
    have hx3 := (s12.trans s23) _ _ hx1
    refine ⟨_, rfl, _, rfl, x, C, dx, [], rfl, hx3, X.c, X.n1, by decide, ?_⟩
    have s04 : Same H0 (L2.upd H3 x (.ins C dx (putF "own_name" vn []))) := fun b o e => by
      rw [upd_ne (ne_of_none e nx)]
      exact s03 _ _ e
    have hx4 : L2.upd H3 x (.ins C dx (putF "own_name" vn [])) x = some (.ins C dx (putF "own_name" vn [])) := upd_same
    generalize L2.upd H3 x (.ins C dx (putF "own_name" vn [])) = H4 at s04 hx4 ⊢
    have fin : ∀ (H5 : Hp) (pr : Addr) (_ : Same H0 H5) (_ : H5 x = some (.ins C dx (putF "own_name" vn []))) (_ : SqT K H5 pr xs), Same H0 (L2.upd (L2.upd H5 x (.ins C dx (putF "own_rows" (.ref pr) (putF "own_name" vn [])))) x (.ins C dx (putF "own_lead" vl (putF "own_rows" (.ref pr) (putF "own_name" vn []))))) ∧
        DgO K (L2.upd (L2.upd H5 x (.ins C dx (putF "own_rows" (.ref pr) (putF "own_name" vn [])))) x (.ins C dx (putF "own_lead" vl (putF "own_rows" (.ref pr) (putF "own_name" vn []))))) C x vn vl xs := fun H5 pr s5 hx5 ht => by
      refine ⟨fun b o e => by rw [upd_ne (ne_of_none e nx), upd_ne (ne_of_none e nx)]; exact s5 _ _ e, dx, pr, upd_same, ?_⟩
      rcases ht with (h | ⟨o, h⟩) | h
      · have ne : pr ≠ x := fun e => by rw [e, hx5] at h; cases h
        exact .inl (.inl (by rw [upd_ne ne, upd_ne ne]; exact h))
      · have ne : pr ≠ x := fun e => by rw [e, hx5] at h; cases h
        exact .inl (.inr ⟨o, by rw [upd_ne ne, upd_ne ne]; exact h⟩)
      · exact .inr h
    rcases hS with hS | hS
    · refine ⟨_, rfl, a, xs, rfl, .inl ⟨sm_l s04 hS, fun l nl => ?_⟩⟩
      have s5 : Same H4 (L2.upd H4 l (.tup xs)) := same_new nl
      have hx5 := s5 _ _ hx4
      have t5 : SqT K (L2.upd H4 l (.tup xs)) l xs := .inl (.inl upd_same)
      generalize L2.upd H4 l (.tup xs) = H5 at s5 hx5 t5 ⊢
      obtain ⟨f1, f2⟩ := fin H5 l (s04.trans s5) hx5 t5
      refine ⟨_, rfl, x, C, dx, _, rfl, hx5, X.c, X.n2, by show 1 < 1000; decide, ?_⟩
      refine ⟨_, rfl, _, rfl, x, C, dx, _, rfl, upd_same, X.c, X.n3, by show 2 < 1000; decide, ?_⟩
      exact k _ f1 f2
    · refine ⟨_, rfl, a, xs, rfl, .inr ⟨sm_t s04 hS, ?_⟩⟩
      obtain ⟨f1, f2⟩ := fin H4 a s04 hx4 (sm_t s04 hS)
      refine ⟨_, rfl, x, C, dx, _, rfl, hx4, X.c, X.n2, by show 1 < 1000; decide, ?_⟩
      refine ⟨_, rfl, _, rfl, x, C, dx, _, rfl, upd_same, X.c, X.n3, by show 2 < 1000; decide, ?_⟩
      exact k _ f1 f2

def sp_dinitX (K : PySem.W.Frag) (D : Addr) : Sp := fun vs H Q E => ∃ (x dx C : Addr) (H0 : Hp) (vn vr vl : V) (dn dr dl : PyData) (wd : Str), vs = [.ref x, vn, vr, vl] ∧ H0 x = none ∧ H0 dx = none ∧ H = L2.upd (L2.upd H0 dx (.own x)) x (.ins C dx []) ∧
  Dg K H0 vn dn ∧ (∀ z, dn = .str z → z.length ≤ 1000) ∧ Dg K H0 vr dr ∧ RsG dr ∧ Dg K H0 vl dl ∧ dgW dn dr dl = some wd ∧ ∀ H' dx, Same H0 H' → H' dx = some (.xd [("field", .str wd)]) → E (.ref D) (some dx) H'
theorem ok_dinitX {f : Addr} {fd : FuncData} {dvs : List V} {kws : List (Str × V)} {DNoDough fNoDough ccNoDough cdNoDough : Addr} {fdNoDough : FuncData} (TX : XTn P K mg "NoDough" "NoDough.__init__" ["field"] sx_NoDough DNoDough fNoDough fdNoDough ccNoDough cdNoDough) (F : FunD K "__init__" "Dough.__init__" (defArgs s_dinit) (defBody s_dinit) (defScope s_dinit) dvs kws f fd)
    (C_is_name : Cal P w K mg base CX0 2 "is_name" ["thing"] (sp_isnm K)) (C_are_rows : Cal P w K mg base CX0 5 "are_rows" ["thing"] (sp_arer K)) (C_is_lead : Cal P w K mg base CX0 2 "is_lead" ["thing"] (sp_lead K)) : FnG P w K mg base (L2.CX P w) 6 f fd ["self", "name", "rows", "lead"] (sp_dinitX K DNoDough) := by
  refine GfunDX F sc_dinit (fun vs H Q E h => ?_) (fun cdv A outer s H vs Q E hg hr h => ?_)
  · obtain ⟨x, dx, C, H0, vn, vr, vl, dn, dr, dl, wd, rfl, _⟩ := h
    rfl
  · obtain ⟨x, dx, C, H0, vn, vr, vl, dn, dr, dl, wd, rfl, nx, nd, rfl, hn, hz, hr0, rg, hl, dg, k⟩ := h
    refine ⟨_, (pss_cons (ps_if (pt_not (pt_val (pe_g C_is_name (hr.mono (by decide)) hg (pa_cons (pv 1) pa_nil))))
      (pss_one (ps_raise rfl (takes_of rfl rfl rfl rfl) (pmk_oex TX.T TX.iC TX.tI (okx_NoDough TX) (hr.mono (by decide)) TX.b .nil pass0 rfl TX.g (pa_cons pe_str pa_nil))))
      pss_nil)
      (pss_cons (ps_if (pt_not (pt_val (pe_g C_are_rows (hr.mono (by decide)) hg (pa_cons (pv 2) pa_nil))))
      (pss_one (ps_raise rfl (takes_of rfl rfl rfl rfl) (pmk_oex TX.T TX.iC TX.tI (okx_NoDough TX) (hr.mono (by decide)) TX.b .nil pass0 rfl TX.g (pa_cons pe_str pa_nil))))
      pss_nil)
      (pss_cons (ps_if (pt_not (pt_val (pe_g C_is_lead (hr.mono (by decide)) hg (pa_cons (pv 3) pa_nil))))
      (pss_one (ps_raise rfl (takes_of rfl rfl rfl rfl) (pmk_oex TX.T TX.iC TX.tI (okx_NoDough TX) (hr.mono (by decide)) TX.b .nil pass0 rfl TX.g (pa_cons pe_str pa_nil))))
      pss_nil)
      (pss_cons ps_dead
      (pss_cons ps_dead
      (pss_one ps_dead)))))), ?_⟩
    have s01 : Same H0 (L2.upd (L2.upd H0 dx (.own x)) x (.ins C dx [])) := fun b o e => by
      rw [upd_ne (ne_of_none e nx), upd_ne (ne_of_none e nd)]
      exact e
    generalize L2.upd (L2.upd H0 dx (.own x)) x (.ins C dx []) = H1 at s01 ⊢
    unfold dgW at dg
    refine ⟨_, rfl, vn, dn, rfl, hn.same s01, hz, fun H2 s12 => ?_⟩
    have s02 := s01.trans s12
    by_cases en : isNm dn = false
    · rw [if_pos en] at dg
      cases dg
      rw [en]
      refine ⟨_, rfl, iteT ?_⟩
      refine ⟨by show 1 ≤ 1000; decide, fun a ha => ⟨a, ("name" : Str), rfl, by decide +kernel, upd_same, fun dy e1 e2 => ⟨rfl, dy, [(("field" : Str), .str ("name" : Str))], upd_same, ?_, ?_, ?_⟩⟩⟩
      · rw [upd_ne e2, upd_same]
      · rw [upd_ne e2] at e1
        exact e1
      · obtain ⟨r1, r2⟩ := raised (D := DNoDough) ha e1 e2
        exact k _ dy (s02.trans r1) upd_same
    rw [if_neg en] at dg
    rw [show isNm dn = true by cases h : isNm dn <;> simp_all]
    refine ⟨_, rfl, iteF ?_⟩
    refine ⟨_, rfl, vr, dr, rfl, hr0.same s02, rg, fun H3 s23 => ?_⟩
    have s03 := s02.trans s23
    by_cases er : isRows dr = false
    · rw [if_pos er] at dg
      cases dg
      rw [er]
      refine ⟨_, rfl, iteT ?_⟩
      refine ⟨by show 1 ≤ 1000; decide, fun a ha => ⟨a, ("rows" : Str), rfl, by decide +kernel, upd_same, fun dy e1 e2 => ⟨rfl, dy, [(("field" : Str), .str ("rows" : Str))], upd_same, ?_, ?_, ?_⟩⟩⟩
      · rw [upd_ne e2, upd_same]
      · rw [upd_ne e2] at e1
        exact e1
      · obtain ⟨r1, r2⟩ := raised (D := DNoDough) ha e1 e2
        exact k _ dy (s03.trans r1) upd_same
    rw [if_neg er] at dg
    rw [show isRows dr = true by cases h : isRows dr <;> simp_all]
    refine ⟨_, rfl, iteF ?_⟩
    refine ⟨_, rfl, vl, dl, rfl, hl.same s03, ?_⟩
    by_cases el : isLd dl = false
    · rw [if_pos el] at dg
      cases dg
      rw [el]
      refine ⟨_, rfl, iteT ?_⟩
      refine ⟨by show 1 ≤ 1000; decide, fun a ha => ⟨a, ("lead" : Str), rfl, by decide +kernel, upd_same, fun dy e1 e2 => ⟨rfl, dy, [(("field" : Str), .str ("lead" : Str))], upd_same, ?_, ?_, ?_⟩⟩⟩
      · rw [upd_ne e2, upd_same]
      · rw [upd_ne e2] at e1
        exact e1
      · obtain ⟨r1, r2⟩ := raised (D := DNoDough) ha e1 e2
        exact k _ dy (s03.trans r1) upd_same
    · rw [if_neg el] at dg
      cases dg

/-! ### Dough.name -/
theorem sc_dname : FnScope ["self"] ["self"] (defScope s_dname) := ⟨rfl, rfl, rfl, by decide +kernel, rfl, by decide +kernel, by decide +kernel⟩
def sp_dname (K : PySem.W.Frag) (C : Addr) : Sp := fun vs H Q _ => ∃ (x : Addr) (vn vl : V) (xs : List V), vs = [.ref x] ∧ DgO K H C x vn vl xs ∧ Q vn H
theorem ok_dname {C f : Addr} {fd : FuncData} (X : DghF K C) (F : Fun K "name" "Dough.name" s_dname f fd) : FnG P w K mg base CX0 1 f fd ["self"] (sp_dname K C) := by
  refine Gfun F sc_dname (fun vs H Q E h => ?_) (fun cdv A outer s H vs Q E hg hr h => ?_)
  · obtain ⟨x, vn, vl, xs, rfl, _⟩ := h
    rfl
  · obtain ⟨x, vn, vl, xs, rfl, ⟨dx, pr, h1, h2⟩, k⟩ := h
    exact ⟨_, (pss_one (ps_ret (pe_fld (pv 0) rfl))), _, rfl, x, C, dx, _, _, rfl, h1, X.c, X.n1, rfl, k⟩

/-! ### Dough.lead -/
theorem sc_dlead : FnScope ["self"] ["self"] (defScope s_dlead) := ⟨rfl, rfl, rfl, by decide +kernel, rfl, by decide +kernel, by decide +kernel⟩
def sp_dlead (K : PySem.W.Frag) (C : Addr) : Sp := fun vs H Q _ => ∃ (x : Addr) (vn vl : V) (xs : List V), vs = [.ref x] ∧ DgO K H C x vn vl xs ∧ Q vl H
theorem ok_dlead {C f : Addr} {fd : FuncData} (X : DghF K C) (F : Fun K "lead" "Dough.lead" s_dlead f fd) : FnG P w K mg base CX0 1 f fd ["self"] (sp_dlead K C) := by
  refine Gfun F sc_dlead (fun vs H Q E h => ?_) (fun cdv A outer s H vs Q E hg hr h => ?_)
  · obtain ⟨x, vn, vl, xs, rfl, _⟩ := h
    rfl
  · obtain ⟨x, vn, vl, xs, rfl, ⟨dx, pr, h1, h2⟩, k⟩ := h
    exact ⟨_, (pss_one (ps_ret (pe_fld (pv 0) rfl))), _, rfl, x, C, dx, _, _, rfl, h1, X.c, X.n3, rfl, k⟩

/-! ### Dough.rows -/
theorem sc_drows : FnScope ["self"] ["self"] (defScope s_drows) := ⟨rfl, rfl, rfl, by decide +kernel, rfl, by decide +kernel, by decide +kernel⟩
def sp_drows (K : PySem.W.Frag) (C : Addr) : Sp := fun vs H Q _ => ∃ (x : Addr) (vn vl : V) (xs : List V), vs = [.ref x] ∧ DgO K H C x vn vl xs ∧ ∀ l, H l = none → Q (.ref l) (L2.upd H l (.lst xs))
theorem ok_drows {C f : Addr} {fd : FuncData} (ml : mg "list" = none) (X : DghF K C) (F : Fun K "rows" "Dough.rows" s_drows f fd) : FnG P w K mg base CX0 1 f fd ["self"] (sp_drows K C) := by
  refine Gfun F sc_drows (fun vs H Q E h => ?_) (fun cdv A outer s H vs Q E hg hr h => ?_)
  · obtain ⟨x, vn, vl, xs, rfl, _⟩ := h
    rfl
  · obtain ⟨x, vn, vl, xs, rfl, ⟨dx, pr, h1, h2⟩, k⟩ := h
    exact ⟨_, (pss_one (ps_ret (pe_callTy call_list_of rfl ml bt_list (pa_cons (pe_fld (pv 0) rfl) pa_nil)))), _, rfl, x, C, dx, _, _, rfl, h1, X.c, X.n2, rfl, pr, xs, rfl, .inr h2, fun l nl => k l nl⟩

end
end Lf

set_option Elab.async false
set_option linter.all false
/-! Heaps without what stands at a place, and what is new in a heap. -/
namespace Lf
open PySem PySem.Spec PyProof.Rows L2
def wo (q : Addr) (H : Hp) : Hp := fun b => if b = q then none else H b
theorem wo_at {q p : Addr} {H : Hp} {o : HO} (n : p ≠ q) (e : H p = some o) : wo q H p = some o := by
  unfold wo
  rw [if_neg n]
  exact e
theorem wo_le {q : Addr} {H : Hp} : Same (wo q H) H := fun b o e => by
  unfold wo at e
  split at e
  · cases e
  · exact e
theorem wo_not {q p : Addr} {H : Hp} {o : HO} (e : wo q H p = some o) : p ≠ q := fun z => by
  unfold wo at e
  rw [if_pos z] at e
  cases e
theorem wo_wo {q : Addr} {H H' : Hp} (s : Same H H') : Same (wo q H) (wo q H') := fun b o e => wo_at (wo_not e) (s _ _ (wo_le _ _ e))
theorem wo_upd {q : Addr} {H : Hp} {o : HO} : Same (wo q H) (wo q (upd H q o)) := fun b o e => wo_at (wo_not e) (by rw [upd_ne (wo_not e)]; exact wo_le _ _ e)
/-- what is new -/
def nw (H H' : Hp) : Hp := fun b => match H b with | none => H' b | some _ => none
theorem nw_at {H H' : Hp} {p : Addr} {o : HO} (m : H p = none) (e : H' p = some o) : nw H H' p = some o := by
  unfold nw
  rw [m]
  exact e
theorem nw_of {H H' : Hp} {p : Addr} {o : HO} (e : nw H H' p = some o) : H p = none ∧ H' p = some o := by
  unfold nw at e
  cases h : H p with
  | none =>
    rw [h] at e
    exact ⟨rfl, e⟩
  | some u =>
    rw [h] at e
    cases e
theorem upd_twice {H : Hp} {a : Addr} {o o' : HO} : upd (upd H a o) a o' = upd H a o' := by
  funext b
  by_cases h : b = a
  · rw [h, upd_same, upd_same]
  · rw [upd_ne h, upd_ne h, upd_ne h]
theorem same_none {H H' : Hp} {a : Addr} (s : Same H H') (h : H' a = none) : H a = none := by
  cases e : H a with
  | none => rfl
  | some o =>
    rw [s _ _ e] at h
    cases h
end Lf

set_option Elab.async false
set_option linter.all false
set_option maxRecDepth 100000
set_option maxHeartbeats 4000000
set_option exponentiation.threshold 3000
namespace Lf
open PySem PySem.Spec PyProof.Rows L2
def S60 (n : Int) : Prop := n.natAbs < 2 ^ 60
theorem S60.sm {n : Int} (h : S60 n) : Sm n := Nat.lt_of_lt_of_le h (Nat.pow_le_pow_right (by decide) (by decide))
theorem Ft.i60 {n : Int} (h : S60 n) : Ft 60 0 (.int n) := by
  have f := Ft.int h.sm
  refine ⟨f.sh, f.nd, f.dp, f.lv, ?_⟩
  simp only [PyData.weight]
  have := PySem.Flt.log2_lt_of (by decide) h
  split <;> omega
/-- what a thing of a menu fits -/
def good (d : PyData) : Bool := d.showable && decide (d.depth ≤ 4) && d.leavesShort 1000 && decide (d.weight ≤ 300) && (match d with
  | .str z => decide (z.length ≤ 1000) && z.cps.toList.all (fun c => decide (c < 0x110000))
  | .tuple [.int a, .int b] => decide (a.natAbs < 2 ^ 60) && decide (b.natAbs < 2 ^ 60)
  | _ => true)
structure Gd (d : PyData) : Prop where
  fg : Fg 300 4 d
  el : El d
theorem gd_good {d : PyData} (h : good d = true) : Gd d := by
  unfold good at h
  rw [Bool.and_eq_true, Bool.and_eq_true, Bool.and_eq_true, Bool.and_eq_true] at h
  obtain ⟨⟨⟨⟨h1, h2⟩, h3⟩, h4⟩, h5⟩ := h
  refine ⟨⟨h1, of_decide_eq_true h2, h3, of_decide_eq_true h4⟩, fun z e => ?_, fun a b e => ?_⟩
  · subst e
    have h5 : (decide (z.length ≤ 1000) && z.cps.toList.all (fun c => decide (c < 0x110000))) = true := h5
    rw [Bool.and_eq_true] at h5
    exact ⟨of_decide_eq_true h5.1, fun c hc => of_decide_eq_true (List.all_eq_true.mp h5.2 c hc)⟩
  · subst e
    have h5 : (decide (a.natAbs < 2 ^ 60) && decide (b.natAbs < 2 ^ 60)) = true := h5
    rw [Bool.and_eq_true] at h5
    exact ⟨of_decide_eq_true h5.1, of_decide_eq_true h5.2⟩
section
variable {P : Program} {w : World} {K : PySem.W.Frag} {mg : Str → Option Value} {base : Heap} {c0 c1 : Addr}
theorem DgAll.app {H : Hp} : ∀ {vs us : List V} {ds es : List PyData}, DgAll K H vs ds → DgAll K H us es → DgAll K H (vs ++ us) (ds ++ es)
  | _, _, _, _, .nil, h => h
  | _, _, _, _, .cons a r, h => .cons a (DgAll.app r h)
theorem DgAll.length {H : Hp} {vs : List V} {ds : List PyData} (h : DgAll K H vs ds) : vs.length = ds.length := DgAll.len h

/-! ### _law_odd_name -/
theorem sc__law_odd_name : FnScope ["_law_pot_here", "_law_some"] ["_law_pot_here"] (defScope s__law_odd_name) := ⟨rfl, rfl, rfl, by decide +kernel, rfl, by decide +kernel, by decide +kernel⟩
def odd_nameD : List PyData := [.str (Str.ofString ""), .str (Str.ofString "abcdefghijk"), .str (Str.ofString "A"), .str (Str.ofString "aB"), .str (Str.ofString "a1"), .str (Str.ofString "a b"), .str (Str.ofString "a-"), .str (Str.ofString "a\n"), .none, .int 7, .int 0, .bool true, .list [.str (Str.ofString "a")], .tuple [.str (Str.ofString "a")], .dict [], .dict [(kD (Sum.inr (Str.ofString "a")), .int 1)], .str (Str.ofString "zz")]
def sp_oddn (K : PySem.W.Frag) : Sp := fun vs H Q _ => ∃ (q : Addr), vs = [.ref q] ∧ Pot H q ∧ ∀ (v : V) (d : PyData) (H' : Hp), Dg K (wo q H') v d → Gd d → Pot H' q → But q H H' → Q v H'
theorem ok_oddn {f : Addr} {fd : FuncData} (M : Blt mg) (F : Fun K "_law_odd_name" "_law_odd_name" s__law_odd_name f fd) (C__law_draw : Cal P w K mg base CX0 1 "_law_draw" ["_law_pot_here", "_law_many"] (sp_draw)) : FnG P w K mg base CX0 2 f fd ["_law_pot_here"] (sp_oddn K) := by
  refine Gfun F sc__law_odd_name (fun vs H Q E h => ?_) (fun cdv A outer s H vs Q E hg hr h => ?_)
  · obtain ⟨q, rfl, _⟩ := h
    rfl
  · obtain ⟨q, rfl, P0, k⟩ := h
    refine ⟨_, (pss_cons (ps_set (i := 1) sc__law_odd_name.nd rfl (.inl rfl) (pe_lst (pa_cons pe_str (pa_cons pe_str (pa_cons pe_str (pa_cons pe_str (pa_cons pe_str (pa_cons pe_str (pa_cons pe_str (pa_cons pe_str (pa_cons pe_non (pa_cons pe_int (pa_cons pe_int (pa_cons pe_bl (pa_cons (pe_lst (pa_cons pe_str pa_nil)) (pa_cons (pe_tup (pa_cons pe_str pa_nil)) (pa_cons pe_dnewK (pa_cons (pe_disp (pps_cons pe_str pe_int pps_nil) rfl rfl (by decide) (by decide)) (pa_cons pe_str pa_nil)))))))))))))))))))
      (pss_one (ps_ret (pe_ix ix_list (pv 1) (pe_g C__law_draw (hr.mono (by decide)) hg (pa_cons (pv 0) (pa_cons pe_int pa_nil))) (fun _ _ => rfl))))), ?_⟩
    refine ⟨len_show (Nat.le_of_ble_eq_true rfl), fun m1 nm1 => ?_⟩
    have sm1 : Same H (L2.upd H m1 (.lst [.str (Str.ofString "a")])) := same_new nm1
    have em1 : L2.upd H m1 (.lst [.str (Str.ofString "a")]) m1 = some (.lst [.str (Str.ofString "a")]) := upd_same
    generalize L2.upd H m1 (.lst [.str (Str.ofString "a")]) = G1 at sm1 em1 ⊢
    refine ⟨len_show (Nat.le_of_ble_eq_true rfl), fun m2 nm2 => ?_⟩
    have sm2 : Same G1 (L2.upd G1 m2 (.tup [.str (Str.ofString "a")])) := same_new nm2
    have em2 : L2.upd G1 m2 (.tup [.str (Str.ofString "a")]) m2 = some (.tup [.str (Str.ofString "a")]) := upd_same
    generalize L2.upd G1 m2 (.tup [.str (Str.ofString "a")]) = G2 at sm2 em2 ⊢
    refine fun m3 nm3 => ?_
    have sm3 : Same G2 (L2.upd G2 m3 (.dK [])) := same_new nm3
    have em3 : L2.upd G2 m3 (.dK []) m3 = some (.dK []) := upd_same
    generalize L2.upd G2 m3 (.dK []) = G3 at sm3 em3 ⊢
    refine fun m4 nm4 => ?_
    refine ⟨upd_same, [(Sum.inr (Str.ofString "a"), .int 1)], rfl, by show 1 ≤ 15; decide, ?_⟩
    have sm4 : Same G3 (L2.upd (L2.upd G3 m4 (.dK [])) m4 (.dK (mergeK [] [(Sum.inr (Str.ofString "a"), .int 1)]))) := fun b o e => by rw [upd_ne (ne_of_none e nm4), upd_ne (ne_of_none e nm4)]; exact e
    have em4 : (L2.upd (L2.upd G3 m4 (.dK [])) m4 (.dK (mergeK [] [(Sum.inr (Str.ofString "a"), .int 1)]))) m4 = some (.dK [(Sum.inr (Str.ofString "a"), .int 1)]) := by rw [upd_same]; rfl
    generalize L2.upd (L2.upd G3 m4 (.dK [])) m4 (.dK (mergeK [] [(Sum.inr (Str.ofString "a"), .int 1)])) = G4 at sm4 em4 ⊢
    refine ⟨len_show (Nat.le_of_ble_eq_true rfl), fun m5 nm5 => ?_⟩
    have sm5 : Same G4 (L2.upd G4 m5 (.lst [.str (Str.ofString ""), .str (Str.ofString "abcdefghijk"), .str (Str.ofString "A"), .str (Str.ofString "aB"), .str (Str.ofString "a1"), .str (Str.ofString "a b"), .str (Str.ofString "a-"), .str (Str.ofString "a\n"), .non, .int 7, .int 0, .bl true, .ref m1, .ref m2, .ref m3, .ref m4, .str (Str.ofString "zz")])) := same_new nm5
    have em5 : L2.upd G4 m5 (.lst [.str (Str.ofString ""), .str (Str.ofString "abcdefghijk"), .str (Str.ofString "A"), .str (Str.ofString "aB"), .str (Str.ofString "a1"), .str (Str.ofString "a b"), .str (Str.ofString "a-"), .str (Str.ofString "a\n"), .non, .int 7, .int 0, .bl true, .ref m1, .ref m2, .ref m3, .ref m4, .str (Str.ofString "zz")]) m5 = some (.lst [.str (Str.ofString ""), .str (Str.ofString "abcdefghijk"), .str (Str.ofString "A"), .str (Str.ofString "aB"), .str (Str.ofString "a1"), .str (Str.ofString "a b"), .str (Str.ofString "a-"), .str (Str.ofString "a\n"), .non, .int 7, .int 0, .bl true, .ref m1, .ref m2, .ref m3, .ref m4, .str (Str.ofString "zz")]) := upd_same
    generalize L2.upd G4 m5 (.lst [.str (Str.ofString ""), .str (Str.ofString "abcdefghijk"), .str (Str.ofString "A"), .str (Str.ofString "aB"), .str (Str.ofString "a1"), .str (Str.ofString "a b"), .str (Str.ofString "a-"), .str (Str.ofString "a\n"), .non, .int 7, .int 0, .bl true, .ref m1, .ref m2, .ref m3, .ref m4, .str (Str.ofString "zz")]) = G5 at sm5 em5 ⊢
    have nqm1 : m1 ≠ q := pot_ne P0 nm1
    have fm1 : G5 m1 = some (.lst [.str (Str.ofString "a")]) := (sm5 _ _ (sm4 _ _ (sm3 _ _ (sm2 _ _ em1))))
    have nqm2 : m2 ≠ q := pot_ne (pot_same P0 sm1) nm2
    have fm2 : G5 m2 = some (.tup [.str (Str.ofString "a")]) := (sm5 _ _ (sm4 _ _ (sm3 _ _ em2)))
    have nqm3 : m3 ≠ q := pot_ne (pot_same P0 (sm1.trans sm2)) nm3
    have fm3 : G5 m3 = some (.dK []) := (sm5 _ _ (sm4 _ _ em3))
    have nqm4 : m4 ≠ q := pot_ne (pot_same P0 ((sm1.trans sm2).trans sm3)) nm4
    have fm4 : G5 m4 = some (.dK [(Sum.inr (Str.ofString "a"), .int 1)]) := (sm5 _ _ em4)
    have nqm5 : m5 ≠ q := pot_ne (pot_same P0 (((sm1.trans sm2).trans sm3).trans sm4)) nm5
    have fm5 : G5 m5 = some (.lst [.str (Str.ofString ""), .str (Str.ofString "abcdefghijk"), .str (Str.ofString "A"), .str (Str.ofString "aB"), .str (Str.ofString "a1"), .str (Str.ofString "a b"), .str (Str.ofString "a-"), .str (Str.ofString "a\n"), .non, .int 7, .int 0, .bl true, .ref m1, .ref m2, .ref m3, .ref m4, .str (Str.ofString "zz")]) := em5
    have PG := pot_same P0 ((((sm1.trans sm2).trans sm3).trans sm4).trans sm5)
    have bG : But q H G5 := fun b o _ e => ((((sm1.trans sm2).trans sm3).trans sm4).trans sm5) _ _ e
    generalize G5 = HG at fm1 fm2 fm3 fm4 fm5 PG bG ⊢
    refine ⟨_, rfl, _, rfl, q, 17, rfl, by decide, by decide, PG, fun c H2 c0_ c1_ P2 b2 => ?_⟩
    obtain ⟨cn, rfl⟩ : ∃ cn : Nat, c = (cn : Int) := ⟨c.toNat, by omega⟩
    have hall : DgAll K (wo q H2) [.str (Str.ofString ""), .str (Str.ofString "abcdefghijk"), .str (Str.ofString "A"), .str (Str.ofString "aB"), .str (Str.ofString "a1"), .str (Str.ofString "a b"), .str (Str.ofString "a-"), .str (Str.ofString "a\n"), .non, .int 7, .int 0, .bl true, .ref m1, .ref m2, .ref m3, .ref m4, .str (Str.ofString "zz")] odd_nameD := ((.cons (.str _) (.cons (.str _) (.cons (.str _) (.cons (.str _) (.cons (.str _) (.cons (.str _) (.cons (.str _) (.cons (.str _) (.cons (.non) (.cons (.int _) (.cons (.int _) (.cons (.bl _) (.cons (.lst (.inl (.inl (wo_at nqm1 (b2 _ _ nqm1 fm1)))) (.cons (.str _) .nil)) (.cons (.tup (.inl (.inl (wo_at nqm2 (b2 _ _ nqm2 fm2)))) (.cons (.str _) .nil)) (.cons (.dk (wo_at nqm3 (b2 _ _ nqm3 fm3)) .nil) (.cons (.dk (wo_at nqm4 (b2 _ _ nqm4 fm4)) (.cons (.int _) .nil)) (.cons (.str _) .nil))))))))))))))))))
    have hlen : odd_nameD.length = 17 := rfl
    obtain ⟨v, hv⟩ : ∃ v, ([.str (Str.ofString ""), .str (Str.ofString "abcdefghijk"), .str (Str.ofString "A"), .str (Str.ofString "aB"), .str (Str.ofString "a1"), .str (Str.ofString "a b"), .str (Str.ofString "a-"), .str (Str.ofString "a\n"), .non, .int 7, .int 0, .bl true, .ref m1, .ref m2, .ref m3, .ref m4, .str (Str.ofString "zz")] : List V)[cn]? = some v := ⟨_, List.getElem?_eq_getElem (by rw [hall.length, hlen]; omega)⟩
    obtain ⟨d, hd, hq⟩ := hall.get hv
    have gd : good d = true := (by decide +kernel : ∀ d ∈ odd_nameD, good d = true) d (List.mem_of_getElem? hd)
    refine ⟨m5, _, _, _, rfl, rfl, .inl (.inl (b2 _ _ nqm5 fm5)), atI_nat (j := cn) hv, ?_⟩
    exact k v d H2 hq (gd_good gd) P2 fun b o n e => b2 _ _ n (bG _ _ n e)

/-! ### _law_odd_parts -/
theorem sc__law_odd_parts : FnScope ["_law_pot_here", "_law_some"] ["_law_pot_here"] (defScope s__law_odd_parts) := ⟨rfl, rfl, rfl, by decide +kernel, rfl, by decide +kernel, by decide +kernel⟩
def odd_partsD : List PyData := ([.tuple [.int 0, .int 1], .tuple [.int (-1), .int 2], .tuple [.int 2, .int 4], .tuple [.int 1, .int 0], .tuple [.int 1, .int (-2)], .tuple [.int (-1), .int (-2)], .tuple [.bool true, .int 1], .tuple [.int 1, .bool true], .tuple [.int 1], .tuple [.int 1, .int 2, .int 3], .list [.int 1, .int 2], .str (Str.ofString "1/2")] ++ [.int 5, .int 1, .none, .tuple [], .dict [], .tuple [.str (Str.ofString "1"), .int 2], .tuple [.int 1, .none], .tuple [.none, .int 1], .tuple [.tuple [.int 1, .int 1], .int 1], .tuple [.int 0, .int 0]])
def sp_oddp (K : PySem.W.Frag) : Sp := fun vs H Q _ => ∃ (q : Addr), vs = [.ref q] ∧ Pot H q ∧ ∀ (v : V) (d : PyData) (H' : Hp), Dg K (wo q H') v d → Gd d → Pot H' q → But q H H' → Q v H'
theorem ok_oddp {f : Addr} {fd : FuncData} (M : Blt mg) (F : Fun K "_law_odd_parts" "_law_odd_parts" s__law_odd_parts f fd) (C__law_draw : Cal P w K mg base CX0 1 "_law_draw" ["_law_pot_here", "_law_many"] (sp_draw)) : FnG P w K mg base CX0 2 f fd ["_law_pot_here"] (sp_oddp K) := by
  refine Gfun F sc__law_odd_parts (fun vs H Q E h => ?_) (fun cdv A outer s H vs Q E hg hr h => ?_)
  · obtain ⟨q, rfl, _⟩ := h
    rfl
  · obtain ⟨q, rfl, P0, k⟩ := h
    refine ⟨_, (pss_cons (ps_set (i := 1) sc__law_odd_parts.nd rfl (.inl rfl) (pe_lst (pa_cons (pe_tup (pa_cons pe_int (pa_cons pe_int pa_nil))) (pa_cons (pe_tup (pa_cons (pe_un un_neg pe_int) (pa_cons pe_int pa_nil))) (pa_cons (pe_tup (pa_cons pe_int (pa_cons pe_int pa_nil))) (pa_cons (pe_tup (pa_cons pe_int (pa_cons pe_int pa_nil))) (pa_cons (pe_tup (pa_cons pe_int (pa_cons (pe_un un_neg pe_int) pa_nil))) (pa_cons (pe_tup (pa_cons (pe_un un_neg pe_int) (pa_cons (pe_un un_neg pe_int) pa_nil))) (pa_cons (pe_tup (pa_cons pe_bl (pa_cons pe_int pa_nil))) (pa_cons (pe_tup (pa_cons pe_int (pa_cons pe_bl pa_nil))) (pa_cons (pe_tup (pa_cons pe_int pa_nil)) (pa_cons (pe_tup (pa_cons pe_int (pa_cons pe_int (pa_cons pe_int pa_nil)))) (pa_cons (pe_lst (pa_cons pe_int (pa_cons pe_int pa_nil))) (pa_cons pe_str pa_nil))))))))))))))
      (pss_cons (ps_set (i := 1) sc__law_odd_parts.nd rfl (.inl rfl) (pe_op op_cat (pv 1) (pe_lst (pa_cons pe_int (pa_cons pe_int (pa_cons pe_non (pa_cons (pe_tup pa_nil) (pa_cons pe_dnewK (pa_cons (pe_tup (pa_cons pe_str (pa_cons pe_int pa_nil))) (pa_cons (pe_tup (pa_cons pe_int (pa_cons pe_non pa_nil))) (pa_cons (pe_tup (pa_cons pe_non (pa_cons pe_int pa_nil))) (pa_cons (pe_tup (pa_cons (pe_tup (pa_cons pe_int (pa_cons pe_int pa_nil))) (pa_cons pe_int pa_nil))) (pa_cons (pe_tup (pa_cons pe_int (pa_cons pe_int pa_nil))) pa_nil)))))))))))))
      (pss_one (ps_ret (pe_ix ix_list (pv 1) (pe_g C__law_draw (hr.mono (by decide)) hg (pa_cons (pv 0) (pa_cons pe_int pa_nil))) (fun _ _ => rfl)))))), ?_⟩
    refine ⟨len_show (Nat.le_of_ble_eq_true rfl), fun m1 nm1 => ?_⟩
    have sm1 : Same H (L2.upd H m1 (.tup [.int 0, .int 1])) := same_new nm1
    have em1 : L2.upd H m1 (.tup [.int 0, .int 1]) m1 = some (.tup [.int 0, .int 1]) := upd_same
    generalize L2.upd H m1 (.tup [.int 0, .int 1]) = G1 at sm1 em1 ⊢
    refine ⟨_, rfl, len_show (Nat.le_of_ble_eq_true rfl), fun m2 nm2 => ?_⟩
    have sm2 : Same G1 (L2.upd G1 m2 (.tup [.int (-1), .int 2])) := same_new nm2
    have em2 : L2.upd G1 m2 (.tup [.int (-1), .int 2]) m2 = some (.tup [.int (-1), .int 2]) := upd_same
    generalize L2.upd G1 m2 (.tup [.int (-1), .int 2]) = G2 at sm2 em2 ⊢
    refine ⟨len_show (Nat.le_of_ble_eq_true rfl), fun m3 nm3 => ?_⟩
    have sm3 : Same G2 (L2.upd G2 m3 (.tup [.int 2, .int 4])) := same_new nm3
    have em3 : L2.upd G2 m3 (.tup [.int 2, .int 4]) m3 = some (.tup [.int 2, .int 4]) := upd_same
    generalize L2.upd G2 m3 (.tup [.int 2, .int 4]) = G3 at sm3 em3 ⊢
    refine ⟨len_show (Nat.le_of_ble_eq_true rfl), fun m4 nm4 => ?_⟩
    have sm4 : Same G3 (L2.upd G3 m4 (.tup [.int 1, .int 0])) := same_new nm4
    have em4 : L2.upd G3 m4 (.tup [.int 1, .int 0]) m4 = some (.tup [.int 1, .int 0]) := upd_same
    generalize L2.upd G3 m4 (.tup [.int 1, .int 0]) = G4 at sm4 em4 ⊢
    refine ⟨_, rfl, len_show (Nat.le_of_ble_eq_true rfl), fun m5 nm5 => ?_⟩
    have sm5 : Same G4 (L2.upd G4 m5 (.tup [.int 1, .int (-2)])) := same_new nm5
    have em5 : L2.upd G4 m5 (.tup [.int 1, .int (-2)]) m5 = some (.tup [.int 1, .int (-2)]) := upd_same
    generalize L2.upd G4 m5 (.tup [.int 1, .int (-2)]) = G5 at sm5 em5 ⊢
    refine ⟨_, rfl, _, rfl, len_show (Nat.le_of_ble_eq_true rfl), fun m6 nm6 => ?_⟩
    have sm6 : Same G5 (L2.upd G5 m6 (.tup [.int (-1), .int (-2)])) := same_new nm6
    have em6 : L2.upd G5 m6 (.tup [.int (-1), .int (-2)]) m6 = some (.tup [.int (-1), .int (-2)]) := upd_same
    generalize L2.upd G5 m6 (.tup [.int (-1), .int (-2)]) = G6 at sm6 em6 ⊢
    refine ⟨len_show (Nat.le_of_ble_eq_true rfl), fun m7 nm7 => ?_⟩
    have sm7 : Same G6 (L2.upd G6 m7 (.tup [.bl true, .int 1])) := same_new nm7
    have em7 : L2.upd G6 m7 (.tup [.bl true, .int 1]) m7 = some (.tup [.bl true, .int 1]) := upd_same
    generalize L2.upd G6 m7 (.tup [.bl true, .int 1]) = G7 at sm7 em7 ⊢
    refine ⟨len_show (Nat.le_of_ble_eq_true rfl), fun m8 nm8 => ?_⟩
    have sm8 : Same G7 (L2.upd G7 m8 (.tup [.int 1, .bl true])) := same_new nm8
    have em8 : L2.upd G7 m8 (.tup [.int 1, .bl true]) m8 = some (.tup [.int 1, .bl true]) := upd_same
    generalize L2.upd G7 m8 (.tup [.int 1, .bl true]) = G8 at sm8 em8 ⊢
    refine ⟨len_show (Nat.le_of_ble_eq_true rfl), fun m9 nm9 => ?_⟩
    have sm9 : Same G8 (L2.upd G8 m9 (.tup [.int 1])) := same_new nm9
    have em9 : L2.upd G8 m9 (.tup [.int 1]) m9 = some (.tup [.int 1]) := upd_same
    generalize L2.upd G8 m9 (.tup [.int 1]) = G9 at sm9 em9 ⊢
    refine ⟨len_show (Nat.le_of_ble_eq_true rfl), fun m10 nm10 => ?_⟩
    have sm10 : Same G9 (L2.upd G9 m10 (.tup [.int 1, .int 2, .int 3])) := same_new nm10
    have em10 : L2.upd G9 m10 (.tup [.int 1, .int 2, .int 3]) m10 = some (.tup [.int 1, .int 2, .int 3]) := upd_same
    generalize L2.upd G9 m10 (.tup [.int 1, .int 2, .int 3]) = G10 at sm10 em10 ⊢
    refine ⟨len_show (Nat.le_of_ble_eq_true rfl), fun m11 nm11 => ?_⟩
    have sm11 : Same G10 (L2.upd G10 m11 (.lst [.int 1, .int 2])) := same_new nm11
    have em11 : L2.upd G10 m11 (.lst [.int 1, .int 2]) m11 = some (.lst [.int 1, .int 2]) := upd_same
    generalize L2.upd G10 m11 (.lst [.int 1, .int 2]) = G11 at sm11 em11 ⊢
    refine ⟨len_show (Nat.le_of_ble_eq_true rfl), fun m12 nm12 => ?_⟩
    have sm12 : Same G11 (L2.upd G11 m12 (.lst [.ref m1, .ref m2, .ref m3, .ref m4, .ref m5, .ref m6, .ref m7, .ref m8, .ref m9, .ref m10, .ref m11, .str (Str.ofString "1/2")])) := same_new nm12
    have em12 : L2.upd G11 m12 (.lst [.ref m1, .ref m2, .ref m3, .ref m4, .ref m5, .ref m6, .ref m7, .ref m8, .ref m9, .ref m10, .ref m11, .str (Str.ofString "1/2")]) m12 = some (.lst [.ref m1, .ref m2, .ref m3, .ref m4, .ref m5, .ref m6, .ref m7, .ref m8, .ref m9, .ref m10, .ref m11, .str (Str.ofString "1/2")]) := upd_same
    generalize L2.upd G11 m12 (.lst [.ref m1, .ref m2, .ref m3, .ref m4, .ref m5, .ref m6, .ref m7, .ref m8, .ref m9, .ref m10, .ref m11, .str (Str.ofString "1/2")]) = G12 at sm12 em12 ⊢
    refine ⟨_, rfl, len_show (Nat.le_of_ble_eq_true rfl), fun m13 nm13 => ?_⟩
    have sm13 : Same G12 (L2.upd G12 m13 (.tup [])) := same_new nm13
    have em13 : L2.upd G12 m13 (.tup []) m13 = some (.tup []) := upd_same
    generalize L2.upd G12 m13 (.tup []) = G13 at sm13 em13 ⊢
    refine fun m14 nm14 => ?_
    have sm14 : Same G13 (L2.upd G13 m14 (.dK [])) := same_new nm14
    have em14 : L2.upd G13 m14 (.dK []) m14 = some (.dK []) := upd_same
    generalize L2.upd G13 m14 (.dK []) = G14 at sm14 em14 ⊢
    refine ⟨len_show (Nat.le_of_ble_eq_true rfl), fun m15 nm15 => ?_⟩
    have sm15 : Same G14 (L2.upd G14 m15 (.tup [.str (Str.ofString "1"), .int 2])) := same_new nm15
    have em15 : L2.upd G14 m15 (.tup [.str (Str.ofString "1"), .int 2]) m15 = some (.tup [.str (Str.ofString "1"), .int 2]) := upd_same
    generalize L2.upd G14 m15 (.tup [.str (Str.ofString "1"), .int 2]) = G15 at sm15 em15 ⊢
    refine ⟨len_show (Nat.le_of_ble_eq_true rfl), fun m16 nm16 => ?_⟩
    have sm16 : Same G15 (L2.upd G15 m16 (.tup [.int 1, .non])) := same_new nm16
    have em16 : L2.upd G15 m16 (.tup [.int 1, .non]) m16 = some (.tup [.int 1, .non]) := upd_same
    generalize L2.upd G15 m16 (.tup [.int 1, .non]) = G16 at sm16 em16 ⊢
    refine ⟨len_show (Nat.le_of_ble_eq_true rfl), fun m17 nm17 => ?_⟩
    have sm17 : Same G16 (L2.upd G16 m17 (.tup [.non, .int 1])) := same_new nm17
    have em17 : L2.upd G16 m17 (.tup [.non, .int 1]) m17 = some (.tup [.non, .int 1]) := upd_same
    generalize L2.upd G16 m17 (.tup [.non, .int 1]) = G17 at sm17 em17 ⊢
    refine ⟨len_show (Nat.le_of_ble_eq_true rfl), fun m18 nm18 => ?_⟩
    have sm18 : Same G17 (L2.upd G17 m18 (.tup [.int 1, .int 1])) := same_new nm18
    have em18 : L2.upd G17 m18 (.tup [.int 1, .int 1]) m18 = some (.tup [.int 1, .int 1]) := upd_same
    generalize L2.upd G17 m18 (.tup [.int 1, .int 1]) = G18 at sm18 em18 ⊢
    refine ⟨len_show (Nat.le_of_ble_eq_true rfl), fun m19 nm19 => ?_⟩
    have sm19 : Same G18 (L2.upd G18 m19 (.tup [.ref m18, .int 1])) := same_new nm19
    have em19 : L2.upd G18 m19 (.tup [.ref m18, .int 1]) m19 = some (.tup [.ref m18, .int 1]) := upd_same
    generalize L2.upd G18 m19 (.tup [.ref m18, .int 1]) = G19 at sm19 em19 ⊢
    refine ⟨len_show (Nat.le_of_ble_eq_true rfl), fun m20 nm20 => ?_⟩
    have sm20 : Same G19 (L2.upd G19 m20 (.tup [.int 0, .int 0])) := same_new nm20
    have em20 : L2.upd G19 m20 (.tup [.int 0, .int 0]) m20 = some (.tup [.int 0, .int 0]) := upd_same
    generalize L2.upd G19 m20 (.tup [.int 0, .int 0]) = G20 at sm20 em20 ⊢
    refine ⟨len_show (Nat.le_of_ble_eq_true rfl), fun m21 nm21 => ?_⟩
    have sm21 : Same G20 (L2.upd G20 m21 (.lst [.int 5, .int 1, .non, .ref m13, .ref m14, .ref m15, .ref m16, .ref m17, .ref m19, .ref m20])) := same_new nm21
    have em21 : L2.upd G20 m21 (.lst [.int 5, .int 1, .non, .ref m13, .ref m14, .ref m15, .ref m16, .ref m17, .ref m19, .ref m20]) m21 = some (.lst [.int 5, .int 1, .non, .ref m13, .ref m14, .ref m15, .ref m16, .ref m17, .ref m19, .ref m20]) := upd_same
    generalize L2.upd G20 m21 (.lst [.int 5, .int 1, .non, .ref m13, .ref m14, .ref m15, .ref m16, .ref m17, .ref m19, .ref m20]) = G21 at sm21 em21 ⊢
    refine ⟨m12, m21, _, _, rfl, rfl, (sm21 _ _ (sm20 _ _ (sm19 _ _ (sm18 _ _ (sm17 _ _ (sm16 _ _ (sm15 _ _ (sm14 _ _ (sm13 _ _ em12))))))))), em21, by rw [sizeLine_eq]; exact Nat.le_of_ble_eq_true rfl, fun m22 nm22 => ?_⟩
    have sm22 : Same G21 (L2.upd G21 m22 (.lst ([.ref m1, .ref m2, .ref m3, .ref m4, .ref m5, .ref m6, .ref m7, .ref m8, .ref m9, .ref m10, .ref m11, .str (Str.ofString "1/2")] ++ [.int 5, .int 1, .non, .ref m13, .ref m14, .ref m15, .ref m16, .ref m17, .ref m19, .ref m20]))) := same_new nm22
    have em22 : L2.upd G21 m22 (.lst ([.ref m1, .ref m2, .ref m3, .ref m4, .ref m5, .ref m6, .ref m7, .ref m8, .ref m9, .ref m10, .ref m11, .str (Str.ofString "1/2")] ++ [.int 5, .int 1, .non, .ref m13, .ref m14, .ref m15, .ref m16, .ref m17, .ref m19, .ref m20])) m22 = some (.lst ([.ref m1, .ref m2, .ref m3, .ref m4, .ref m5, .ref m6, .ref m7, .ref m8, .ref m9, .ref m10, .ref m11, .str (Str.ofString "1/2")] ++ [.int 5, .int 1, .non, .ref m13, .ref m14, .ref m15, .ref m16, .ref m17, .ref m19, .ref m20])) := upd_same
    generalize L2.upd G21 m22 (.lst ([.ref m1, .ref m2, .ref m3, .ref m4, .ref m5, .ref m6, .ref m7, .ref m8, .ref m9, .ref m10, .ref m11, .str (Str.ofString "1/2")] ++ [.int 5, .int 1, .non, .ref m13, .ref m14, .ref m15, .ref m16, .ref m17, .ref m19, .ref m20])) = G22 at sm22 em22 ⊢
    have nqm1 : m1 ≠ q := pot_ne P0 nm1
    have fm1 : G22 m1 = some (.tup [.int 0, .int 1]) := (sm22 _ _ (sm21 _ _ (sm20 _ _ (sm19 _ _ (sm18 _ _ (sm17 _ _ (sm16 _ _ (sm15 _ _ (sm14 _ _ (sm13 _ _ (sm12 _ _ (sm11 _ _ (sm10 _ _ (sm9 _ _ (sm8 _ _ (sm7 _ _ (sm6 _ _ (sm5 _ _ (sm4 _ _ (sm3 _ _ (sm2 _ _ em1)))))))))))))))))))))
    have nqm2 : m2 ≠ q := pot_ne (pot_same P0 sm1) nm2
    have fm2 : G22 m2 = some (.tup [.int (-1), .int 2]) := (sm22 _ _ (sm21 _ _ (sm20 _ _ (sm19 _ _ (sm18 _ _ (sm17 _ _ (sm16 _ _ (sm15 _ _ (sm14 _ _ (sm13 _ _ (sm12 _ _ (sm11 _ _ (sm10 _ _ (sm9 _ _ (sm8 _ _ (sm7 _ _ (sm6 _ _ (sm5 _ _ (sm4 _ _ (sm3 _ _ em2))))))))))))))))))))
    have nqm3 : m3 ≠ q := pot_ne (pot_same P0 (sm1.trans sm2)) nm3
    have fm3 : G22 m3 = some (.tup [.int 2, .int 4]) := (sm22 _ _ (sm21 _ _ (sm20 _ _ (sm19 _ _ (sm18 _ _ (sm17 _ _ (sm16 _ _ (sm15 _ _ (sm14 _ _ (sm13 _ _ (sm12 _ _ (sm11 _ _ (sm10 _ _ (sm9 _ _ (sm8 _ _ (sm7 _ _ (sm6 _ _ (sm5 _ _ (sm4 _ _ em3)))))))))))))))))))
    have nqm4 : m4 ≠ q := pot_ne (pot_same P0 ((sm1.trans sm2).trans sm3)) nm4
    have fm4 : G22 m4 = some (.tup [.int 1, .int 0]) := (sm22 _ _ (sm21 _ _ (sm20 _ _ (sm19 _ _ (sm18 _ _ (sm17 _ _ (sm16 _ _ (sm15 _ _ (sm14 _ _ (sm13 _ _ (sm12 _ _ (sm11 _ _ (sm10 _ _ (sm9 _ _ (sm8 _ _ (sm7 _ _ (sm6 _ _ (sm5 _ _ em4))))))))))))))))))
    have nqm5 : m5 ≠ q := pot_ne (pot_same P0 (((sm1.trans sm2).trans sm3).trans sm4)) nm5
    have fm5 : G22 m5 = some (.tup [.int 1, .int (-2)]) := (sm22 _ _ (sm21 _ _ (sm20 _ _ (sm19 _ _ (sm18 _ _ (sm17 _ _ (sm16 _ _ (sm15 _ _ (sm14 _ _ (sm13 _ _ (sm12 _ _ (sm11 _ _ (sm10 _ _ (sm9 _ _ (sm8 _ _ (sm7 _ _ (sm6 _ _ em5)))))))))))))))))
    have nqm6 : m6 ≠ q := pot_ne (pot_same P0 ((((sm1.trans sm2).trans sm3).trans sm4).trans sm5)) nm6
    have fm6 : G22 m6 = some (.tup [.int (-1), .int (-2)]) := (sm22 _ _ (sm21 _ _ (sm20 _ _ (sm19 _ _ (sm18 _ _ (sm17 _ _ (sm16 _ _ (sm15 _ _ (sm14 _ _ (sm13 _ _ (sm12 _ _ (sm11 _ _ (sm10 _ _ (sm9 _ _ (sm8 _ _ (sm7 _ _ em6))))))))))))))))
    have nqm7 : m7 ≠ q := pot_ne (pot_same P0 (((((sm1.trans sm2).trans sm3).trans sm4).trans sm5).trans sm6)) nm7
    have fm7 : G22 m7 = some (.tup [.bl true, .int 1]) := (sm22 _ _ (sm21 _ _ (sm20 _ _ (sm19 _ _ (sm18 _ _ (sm17 _ _ (sm16 _ _ (sm15 _ _ (sm14 _ _ (sm13 _ _ (sm12 _ _ (sm11 _ _ (sm10 _ _ (sm9 _ _ (sm8 _ _ em7)))))))))))))))
    have nqm8 : m8 ≠ q := pot_ne (pot_same P0 ((((((sm1.trans sm2).trans sm3).trans sm4).trans sm5).trans sm6).trans sm7)) nm8
    have fm8 : G22 m8 = some (.tup [.int 1, .bl true]) := (sm22 _ _ (sm21 _ _ (sm20 _ _ (sm19 _ _ (sm18 _ _ (sm17 _ _ (sm16 _ _ (sm15 _ _ (sm14 _ _ (sm13 _ _ (sm12 _ _ (sm11 _ _ (sm10 _ _ (sm9 _ _ em8))))))))))))))
    have nqm9 : m9 ≠ q := pot_ne (pot_same P0 (((((((sm1.trans sm2).trans sm3).trans sm4).trans sm5).trans sm6).trans sm7).trans sm8)) nm9
    have fm9 : G22 m9 = some (.tup [.int 1]) := (sm22 _ _ (sm21 _ _ (sm20 _ _ (sm19 _ _ (sm18 _ _ (sm17 _ _ (sm16 _ _ (sm15 _ _ (sm14 _ _ (sm13 _ _ (sm12 _ _ (sm11 _ _ (sm10 _ _ em9)))))))))))))
    have nqm10 : m10 ≠ q := pot_ne (pot_same P0 ((((((((sm1.trans sm2).trans sm3).trans sm4).trans sm5).trans sm6).trans sm7).trans sm8).trans sm9)) nm10
    have fm10 : G22 m10 = some (.tup [.int 1, .int 2, .int 3]) := (sm22 _ _ (sm21 _ _ (sm20 _ _ (sm19 _ _ (sm18 _ _ (sm17 _ _ (sm16 _ _ (sm15 _ _ (sm14 _ _ (sm13 _ _ (sm12 _ _ (sm11 _ _ em10))))))))))))
    have nqm11 : m11 ≠ q := pot_ne (pot_same P0 (((((((((sm1.trans sm2).trans sm3).trans sm4).trans sm5).trans sm6).trans sm7).trans sm8).trans sm9).trans sm10)) nm11
    have fm11 : G22 m11 = some (.lst [.int 1, .int 2]) := (sm22 _ _ (sm21 _ _ (sm20 _ _ (sm19 _ _ (sm18 _ _ (sm17 _ _ (sm16 _ _ (sm15 _ _ (sm14 _ _ (sm13 _ _ (sm12 _ _ em11)))))))))))
    have nqm12 : m12 ≠ q := pot_ne (pot_same P0 ((((((((((sm1.trans sm2).trans sm3).trans sm4).trans sm5).trans sm6).trans sm7).trans sm8).trans sm9).trans sm10).trans sm11)) nm12
    have fm12 : G22 m12 = some (.lst [.ref m1, .ref m2, .ref m3, .ref m4, .ref m5, .ref m6, .ref m7, .ref m8, .ref m9, .ref m10, .ref m11, .str (Str.ofString "1/2")]) := (sm22 _ _ (sm21 _ _ (sm20 _ _ (sm19 _ _ (sm18 _ _ (sm17 _ _ (sm16 _ _ (sm15 _ _ (sm14 _ _ (sm13 _ _ em12))))))))))
    have nqm13 : m13 ≠ q := pot_ne (pot_same P0 (((((((((((sm1.trans sm2).trans sm3).trans sm4).trans sm5).trans sm6).trans sm7).trans sm8).trans sm9).trans sm10).trans sm11).trans sm12)) nm13
    have fm13 : G22 m13 = some (.tup []) := (sm22 _ _ (sm21 _ _ (sm20 _ _ (sm19 _ _ (sm18 _ _ (sm17 _ _ (sm16 _ _ (sm15 _ _ (sm14 _ _ em13)))))))))
    have nqm14 : m14 ≠ q := pot_ne (pot_same P0 ((((((((((((sm1.trans sm2).trans sm3).trans sm4).trans sm5).trans sm6).trans sm7).trans sm8).trans sm9).trans sm10).trans sm11).trans sm12).trans sm13)) nm14
    have fm14 : G22 m14 = some (.dK []) := (sm22 _ _ (sm21 _ _ (sm20 _ _ (sm19 _ _ (sm18 _ _ (sm17 _ _ (sm16 _ _ (sm15 _ _ em14))))))))
    have nqm15 : m15 ≠ q := pot_ne (pot_same P0 (((((((((((((sm1.trans sm2).trans sm3).trans sm4).trans sm5).trans sm6).trans sm7).trans sm8).trans sm9).trans sm10).trans sm11).trans sm12).trans sm13).trans sm14)) nm15
    have fm15 : G22 m15 = some (.tup [.str (Str.ofString "1"), .int 2]) := (sm22 _ _ (sm21 _ _ (sm20 _ _ (sm19 _ _ (sm18 _ _ (sm17 _ _ (sm16 _ _ em15)))))))
    have nqm16 : m16 ≠ q := pot_ne (pot_same P0 ((((((((((((((sm1.trans sm2).trans sm3).trans sm4).trans sm5).trans sm6).trans sm7).trans sm8).trans sm9).trans sm10).trans sm11).trans sm12).trans sm13).trans sm14).trans sm15)) nm16
    have fm16 : G22 m16 = some (.tup [.int 1, .non]) := (sm22 _ _ (sm21 _ _ (sm20 _ _ (sm19 _ _ (sm18 _ _ (sm17 _ _ em16))))))
    have nqm17 : m17 ≠ q := pot_ne (pot_same P0 (((((((((((((((sm1.trans sm2).trans sm3).trans sm4).trans sm5).trans sm6).trans sm7).trans sm8).trans sm9).trans sm10).trans sm11).trans sm12).trans sm13).trans sm14).trans sm15).trans sm16)) nm17
    have fm17 : G22 m17 = some (.tup [.non, .int 1]) := (sm22 _ _ (sm21 _ _ (sm20 _ _ (sm19 _ _ (sm18 _ _ em17)))))
    have nqm18 : m18 ≠ q := pot_ne (pot_same P0 ((((((((((((((((sm1.trans sm2).trans sm3).trans sm4).trans sm5).trans sm6).trans sm7).trans sm8).trans sm9).trans sm10).trans sm11).trans sm12).trans sm13).trans sm14).trans sm15).trans sm16).trans sm17)) nm18
    have fm18 : G22 m18 = some (.tup [.int 1, .int 1]) := (sm22 _ _ (sm21 _ _ (sm20 _ _ (sm19 _ _ em18))))
    have nqm19 : m19 ≠ q := pot_ne (pot_same P0 (((((((((((((((((sm1.trans sm2).trans sm3).trans sm4).trans sm5).trans sm6).trans sm7).trans sm8).trans sm9).trans sm10).trans sm11).trans sm12).trans sm13).trans sm14).trans sm15).trans sm16).trans sm17).trans sm18)) nm19
    have fm19 : G22 m19 = some (.tup [.ref m18, .int 1]) := (sm22 _ _ (sm21 _ _ (sm20 _ _ em19)))
    have nqm20 : m20 ≠ q := pot_ne (pot_same P0 ((((((((((((((((((sm1.trans sm2).trans sm3).trans sm4).trans sm5).trans sm6).trans sm7).trans sm8).trans sm9).trans sm10).trans sm11).trans sm12).trans sm13).trans sm14).trans sm15).trans sm16).trans sm17).trans sm18).trans sm19)) nm20
    have fm20 : G22 m20 = some (.tup [.int 0, .int 0]) := (sm22 _ _ (sm21 _ _ em20))
    have nqm21 : m21 ≠ q := pot_ne (pot_same P0 (((((((((((((((((((sm1.trans sm2).trans sm3).trans sm4).trans sm5).trans sm6).trans sm7).trans sm8).trans sm9).trans sm10).trans sm11).trans sm12).trans sm13).trans sm14).trans sm15).trans sm16).trans sm17).trans sm18).trans sm19).trans sm20)) nm21
    have fm21 : G22 m21 = some (.lst [.int 5, .int 1, .non, .ref m13, .ref m14, .ref m15, .ref m16, .ref m17, .ref m19, .ref m20]) := (sm22 _ _ em21)
    have nqm22 : m22 ≠ q := pot_ne (pot_same P0 ((((((((((((((((((((sm1.trans sm2).trans sm3).trans sm4).trans sm5).trans sm6).trans sm7).trans sm8).trans sm9).trans sm10).trans sm11).trans sm12).trans sm13).trans sm14).trans sm15).trans sm16).trans sm17).trans sm18).trans sm19).trans sm20).trans sm21)) nm22
    have fm22 : G22 m22 = some (.lst ([.ref m1, .ref m2, .ref m3, .ref m4, .ref m5, .ref m6, .ref m7, .ref m8, .ref m9, .ref m10, .ref m11, .str (Str.ofString "1/2")] ++ [.int 5, .int 1, .non, .ref m13, .ref m14, .ref m15, .ref m16, .ref m17, .ref m19, .ref m20])) := em22
    have PG := pot_same P0 (((((((((((((((((((((sm1.trans sm2).trans sm3).trans sm4).trans sm5).trans sm6).trans sm7).trans sm8).trans sm9).trans sm10).trans sm11).trans sm12).trans sm13).trans sm14).trans sm15).trans sm16).trans sm17).trans sm18).trans sm19).trans sm20).trans sm21).trans sm22)
    have bG : But q H G22 := fun b o _ e => (((((((((((((((((((((sm1.trans sm2).trans sm3).trans sm4).trans sm5).trans sm6).trans sm7).trans sm8).trans sm9).trans sm10).trans sm11).trans sm12).trans sm13).trans sm14).trans sm15).trans sm16).trans sm17).trans sm18).trans sm19).trans sm20).trans sm21).trans sm22) _ _ e
    generalize G22 = HG at fm1 fm2 fm3 fm4 fm5 fm6 fm7 fm8 fm9 fm10 fm11 fm12 fm13 fm14 fm15 fm16 fm17 fm18 fm19 fm20 fm21 fm22 PG bG ⊢
    refine ⟨_, rfl, _, rfl, q, 22, rfl, by decide, by decide, PG, fun c H2 c0_ c1_ P2 b2 => ?_⟩
    obtain ⟨cn, rfl⟩ : ∃ cn : Nat, c = (cn : Int) := ⟨c.toNat, by omega⟩
    have hall : DgAll K (wo q H2) ([.ref m1, .ref m2, .ref m3, .ref m4, .ref m5, .ref m6, .ref m7, .ref m8, .ref m9, .ref m10, .ref m11, .str (Str.ofString "1/2")] ++ [.int 5, .int 1, .non, .ref m13, .ref m14, .ref m15, .ref m16, .ref m17, .ref m19, .ref m20]) odd_partsD := (DgAll.app ((.cons (.tup (.inl (.inl (wo_at nqm1 (b2 _ _ nqm1 fm1)))) (.cons (.int _) (.cons (.int _) .nil))) (.cons (.tup (.inl (.inl (wo_at nqm2 (b2 _ _ nqm2 fm2)))) (.cons (.int _) (.cons (.int _) .nil))) (.cons (.tup (.inl (.inl (wo_at nqm3 (b2 _ _ nqm3 fm3)))) (.cons (.int _) (.cons (.int _) .nil))) (.cons (.tup (.inl (.inl (wo_at nqm4 (b2 _ _ nqm4 fm4)))) (.cons (.int _) (.cons (.int _) .nil))) (.cons (.tup (.inl (.inl (wo_at nqm5 (b2 _ _ nqm5 fm5)))) (.cons (.int _) (.cons (.int _) .nil))) (.cons (.tup (.inl (.inl (wo_at nqm6 (b2 _ _ nqm6 fm6)))) (.cons (.int _) (.cons (.int _) .nil))) (.cons (.tup (.inl (.inl (wo_at nqm7 (b2 _ _ nqm7 fm7)))) (.cons (.bl _) (.cons (.int _) .nil))) (.cons (.tup (.inl (.inl (wo_at nqm8 (b2 _ _ nqm8 fm8)))) (.cons (.int _) (.cons (.bl _) .nil))) (.cons (.tup (.inl (.inl (wo_at nqm9 (b2 _ _ nqm9 fm9)))) (.cons (.int _) .nil)) (.cons (.tup (.inl (.inl (wo_at nqm10 (b2 _ _ nqm10 fm10)))) (.cons (.int _) (.cons (.int _) (.cons (.int _) .nil)))) (.cons (.lst (.inl (.inl (wo_at nqm11 (b2 _ _ nqm11 fm11)))) (.cons (.int _) (.cons (.int _) .nil))) (.cons (.str _) .nil))))))))))))) ((.cons (.int _) (.cons (.int _) (.cons (.non) (.cons (.tup (.inl (.inl (wo_at nqm13 (b2 _ _ nqm13 fm13)))) .nil) (.cons (.dk (wo_at nqm14 (b2 _ _ nqm14 fm14)) .nil) (.cons (.tup (.inl (.inl (wo_at nqm15 (b2 _ _ nqm15 fm15)))) (.cons (.str _) (.cons (.int _) .nil))) (.cons (.tup (.inl (.inl (wo_at nqm16 (b2 _ _ nqm16 fm16)))) (.cons (.int _) (.cons (.non) .nil))) (.cons (.tup (.inl (.inl (wo_at nqm17 (b2 _ _ nqm17 fm17)))) (.cons (.non) (.cons (.int _) .nil))) (.cons (.tup (.inl (.inl (wo_at nqm19 (b2 _ _ nqm19 fm19)))) (.cons (.tup (.inl (.inl (wo_at nqm18 (b2 _ _ nqm18 fm18)))) (.cons (.int _) (.cons (.int _) .nil))) (.cons (.int _) .nil))) (.cons (.tup (.inl (.inl (wo_at nqm20 (b2 _ _ nqm20 fm20)))) (.cons (.int _) (.cons (.int _) .nil))) .nil))))))))))))
    have hlen : odd_partsD.length = 22 := rfl
    obtain ⟨v, hv⟩ : ∃ v, (([.ref m1, .ref m2, .ref m3, .ref m4, .ref m5, .ref m6, .ref m7, .ref m8, .ref m9, .ref m10, .ref m11, .str (Str.ofString "1/2")] ++ [.int 5, .int 1, .non, .ref m13, .ref m14, .ref m15, .ref m16, .ref m17, .ref m19, .ref m20]) : List V)[cn]? = some v := ⟨_, List.getElem?_eq_getElem (by rw [hall.length, hlen]; omega)⟩
    obtain ⟨d, hd, hq⟩ := hall.get hv
    have gd : good d = true := (by decide +kernel : ∀ d ∈ odd_partsD, good d = true) d (List.mem_of_getElem? hd)
    refine ⟨m22, _, _, _, rfl, rfl, .inl (.inl (b2 _ _ nqm22 fm22)), atI_nat (j := cn) hv, ?_⟩
    exact k v d H2 hq (gd_good gd) P2 fun b o n e => b2 _ _ n (bG _ _ n e)

/-! ### _law_odd_lead -/
theorem sc__law_odd_lead : FnScope ["_law_pot_here", "_law_some"] ["_law_pot_here"] (defScope s__law_odd_lead) := ⟨rfl, rfl, rfl, by decide +kernel, rfl, by decide +kernel, by decide +kernel⟩
def odd_leadD : List PyData := [.int (-1), .int 100, .int 99, .int 0, .bool true, .bool false, .none, .str (Str.ofString "1"), .str (Str.ofString ""), .tuple [.int 1], .list [.int 1], .int (10 ^ Int.toNat 30), .int (-(10 ^ Int.toNat 30)), .dict [], .tuple [.int 0, .int 1]]
def sp_oddl (K : PySem.W.Frag) : Sp := fun vs H Q _ => ∃ (q : Addr), vs = [.ref q] ∧ Pot H q ∧ ∀ (v : V) (d : PyData) (H' : Hp), Dg K (wo q H') v d → Gd d → Pot H' q → But q H H' → Q v H'
theorem ok_oddl {f : Addr} {fd : FuncData} (M : Blt mg) (F : Fun K "_law_odd_lead" "_law_odd_lead" s__law_odd_lead f fd) (C__law_draw : Cal P w K mg base CX0 1 "_law_draw" ["_law_pot_here", "_law_many"] (sp_draw)) : FnG P w K mg base CX0 2 f fd ["_law_pot_here"] (sp_oddl K) := by
  refine Gfun F sc__law_odd_lead (fun vs H Q E h => ?_) (fun cdv A outer s H vs Q E hg hr h => ?_)
  · obtain ⟨q, rfl, _⟩ := h
    rfl
  · obtain ⟨q, rfl, P0, k⟩ := h
    refine ⟨_, (pss_cons (ps_set (i := 1) sc__law_odd_lead.nd rfl (.inl rfl) (pe_lst (pa_cons (pe_un un_neg pe_int) (pa_cons pe_int (pa_cons pe_int (pa_cons pe_int (pa_cons pe_bl (pa_cons pe_bl (pa_cons pe_non (pa_cons pe_str (pa_cons pe_str (pa_cons (pe_tup (pa_cons pe_int pa_nil)) (pa_cons (pe_lst (pa_cons pe_int pa_nil)) (pa_cons (pe_op op_pow pe_int pe_int) (pa_cons (pe_un un_neg (pe_op op_pow pe_int pe_int)) (pa_cons pe_dnewK (pa_cons (pe_tup (pa_cons pe_int (pa_cons pe_int pa_nil))) pa_nil)))))))))))))))))
      (pss_one (ps_ret (pe_ix ix_list (pv 1) (pe_g C__law_draw (hr.mono (by decide)) hg (pa_cons (pv 0) (pa_cons pe_int pa_nil))) (fun _ _ => rfl))))), ?_⟩
    refine ⟨_, rfl, len_show (Nat.le_of_ble_eq_true rfl), fun m1 nm1 => ?_⟩
    have sm1 : Same H (L2.upd H m1 (.tup [.int 1])) := same_new nm1
    have em1 : L2.upd H m1 (.tup [.int 1]) m1 = some (.tup [.int 1]) := upd_same
    generalize L2.upd H m1 (.tup [.int 1]) = G1 at sm1 em1 ⊢
    refine ⟨len_show (Nat.le_of_ble_eq_true rfl), fun m2 nm2 => ?_⟩
    have sm2 : Same G1 (L2.upd G1 m2 (.lst [.int 1])) := same_new nm2
    have em2 : L2.upd G1 m2 (.lst [.int 1]) m2 = some (.lst [.int 1]) := upd_same
    generalize L2.upd G1 m2 (.lst [.int 1]) = G2 at sm2 em2 ⊢
    refine ⟨10, 30, rfl, rfl, ⟨by decide, by decide, by decide⟩, 10, 30, rfl, rfl, ⟨by decide, by decide, by decide⟩, _, rfl, fun m3 nm3 => ?_⟩
    have sm3 : Same G2 (L2.upd G2 m3 (.dK [])) := same_new nm3
    have em3 : L2.upd G2 m3 (.dK []) m3 = some (.dK []) := upd_same
    generalize L2.upd G2 m3 (.dK []) = G3 at sm3 em3 ⊢
    refine ⟨len_show (Nat.le_of_ble_eq_true rfl), fun m4 nm4 => ?_⟩
    have sm4 : Same G3 (L2.upd G3 m4 (.tup [.int 0, .int 1])) := same_new nm4
    have em4 : L2.upd G3 m4 (.tup [.int 0, .int 1]) m4 = some (.tup [.int 0, .int 1]) := upd_same
    generalize L2.upd G3 m4 (.tup [.int 0, .int 1]) = G4 at sm4 em4 ⊢
    refine ⟨len_show (Nat.le_of_ble_eq_true rfl), fun m5 nm5 => ?_⟩
    have sm5 : Same G4 (L2.upd G4 m5 (.lst [.int (-1), .int 100, .int 99, .int 0, .bl true, .bl false, .non, .str (Str.ofString "1"), .str (Str.ofString ""), .ref m1, .ref m2, .int (10 ^ Int.toNat 30), .int (-(10 ^ Int.toNat 30)), .ref m3, .ref m4])) := same_new nm5
    have em5 : L2.upd G4 m5 (.lst [.int (-1), .int 100, .int 99, .int 0, .bl true, .bl false, .non, .str (Str.ofString "1"), .str (Str.ofString ""), .ref m1, .ref m2, .int (10 ^ Int.toNat 30), .int (-(10 ^ Int.toNat 30)), .ref m3, .ref m4]) m5 = some (.lst [.int (-1), .int 100, .int 99, .int 0, .bl true, .bl false, .non, .str (Str.ofString "1"), .str (Str.ofString ""), .ref m1, .ref m2, .int (10 ^ Int.toNat 30), .int (-(10 ^ Int.toNat 30)), .ref m3, .ref m4]) := upd_same
    generalize L2.upd G4 m5 (.lst [.int (-1), .int 100, .int 99, .int 0, .bl true, .bl false, .non, .str (Str.ofString "1"), .str (Str.ofString ""), .ref m1, .ref m2, .int (10 ^ Int.toNat 30), .int (-(10 ^ Int.toNat 30)), .ref m3, .ref m4]) = G5 at sm5 em5 ⊢
    have nqm1 : m1 ≠ q := pot_ne P0 nm1
    have fm1 : G5 m1 = some (.tup [.int 1]) := (sm5 _ _ (sm4 _ _ (sm3 _ _ (sm2 _ _ em1))))
    have nqm2 : m2 ≠ q := pot_ne (pot_same P0 sm1) nm2
    have fm2 : G5 m2 = some (.lst [.int 1]) := (sm5 _ _ (sm4 _ _ (sm3 _ _ em2)))
    have nqm3 : m3 ≠ q := pot_ne (pot_same P0 (sm1.trans sm2)) nm3
    have fm3 : G5 m3 = some (.dK []) := (sm5 _ _ (sm4 _ _ em3))
    have nqm4 : m4 ≠ q := pot_ne (pot_same P0 ((sm1.trans sm2).trans sm3)) nm4
    have fm4 : G5 m4 = some (.tup [.int 0, .int 1]) := (sm5 _ _ em4)
    have nqm5 : m5 ≠ q := pot_ne (pot_same P0 (((sm1.trans sm2).trans sm3).trans sm4)) nm5
    have fm5 : G5 m5 = some (.lst [.int (-1), .int 100, .int 99, .int 0, .bl true, .bl false, .non, .str (Str.ofString "1"), .str (Str.ofString ""), .ref m1, .ref m2, .int (10 ^ Int.toNat 30), .int (-(10 ^ Int.toNat 30)), .ref m3, .ref m4]) := em5
    have PG := pot_same P0 ((((sm1.trans sm2).trans sm3).trans sm4).trans sm5)
    have bG : But q H G5 := fun b o _ e => ((((sm1.trans sm2).trans sm3).trans sm4).trans sm5) _ _ e
    generalize G5 = HG at fm1 fm2 fm3 fm4 fm5 PG bG ⊢
    refine ⟨_, rfl, _, rfl, q, 15, rfl, by decide, by decide, PG, fun c H2 c0_ c1_ P2 b2 => ?_⟩
    obtain ⟨cn, rfl⟩ : ∃ cn : Nat, c = (cn : Int) := ⟨c.toNat, by omega⟩
    have hall : DgAll K (wo q H2) [.int (-1), .int 100, .int 99, .int 0, .bl true, .bl false, .non, .str (Str.ofString "1"), .str (Str.ofString ""), .ref m1, .ref m2, .int (10 ^ Int.toNat 30), .int (-(10 ^ Int.toNat 30)), .ref m3, .ref m4] odd_leadD := ((.cons (.int _) (.cons (.int _) (.cons (.int _) (.cons (.int _) (.cons (.bl _) (.cons (.bl _) (.cons (.non) (.cons (.str _) (.cons (.str _) (.cons (.tup (.inl (.inl (wo_at nqm1 (b2 _ _ nqm1 fm1)))) (.cons (.int _) .nil)) (.cons (.lst (.inl (.inl (wo_at nqm2 (b2 _ _ nqm2 fm2)))) (.cons (.int _) .nil)) (.cons (.int _) (.cons (.int _) (.cons (.dk (wo_at nqm3 (b2 _ _ nqm3 fm3)) .nil) (.cons (.tup (.inl (.inl (wo_at nqm4 (b2 _ _ nqm4 fm4)))) (.cons (.int _) (.cons (.int _) .nil))) .nil))))))))))))))))
    have hlen : odd_leadD.length = 15 := rfl
    obtain ⟨v, hv⟩ : ∃ v, ([.int (-1), .int 100, .int 99, .int 0, .bl true, .bl false, .non, .str (Str.ofString "1"), .str (Str.ofString ""), .ref m1, .ref m2, .int (10 ^ Int.toNat 30), .int (-(10 ^ Int.toNat 30)), .ref m3, .ref m4] : List V)[cn]? = some v := ⟨_, List.getElem?_eq_getElem (by rw [hall.length, hlen]; omega)⟩
    obtain ⟨d, hd, hq⟩ := hall.get hv
    have gd : good d = true := (by decide +kernel : ∀ d ∈ odd_leadD, good d = true) d (List.mem_of_getElem? hd)
    refine ⟨m5, _, _, _, rfl, rfl, .inl (.inl (b2 _ _ nqm5 fm5)), atI_nat (j := cn) hv, ?_⟩
    exact k v d H2 hq (gd_good gd) P2 fun b o n e => b2 _ _ n (bG _ _ n e)

end
end Lf

set_option Elab.async false
set_option linter.all false
set_option maxRecDepth 100000
set_option maxHeartbeats 4000000
set_option exponentiation.threshold 3000
namespace Lf
open PySem PySem.Spec PyProof.Rows L2
/-- a row as it may be -/
structure GR (d : PyData) : Prop where
  fg : Fg 1500 5 d
  rg : RwG d
/-- a row as told -/
structure GoodRow (e : PyData) (z : Str) (p : PyData) : Prop where
  eq : e = .tuple [.str z, p]
  nm : isNm (.str z) = true
  ab : isAb p = true
  el : El p
theorem low_sg {z : Str} (h : ∀ c ∈ z.cps.toList, inL c = true) : Sg z := fun c hc => Nat.lt_of_lt_of_le (inL_lt (h c hc)) (by decide)
theorem GoodRow.fz {e p : PyData} {z : Str} (g : GoodRow e z p) : Fg 10 0 (.str z) ∧ El (.str z) := by
  have h' : (decide (1 ≤ z.length) && decide (z.length ≤ 10) && z.cps.toList.all inL) = true := g.nm
  rw [Bool.and_eq_true, Bool.and_eq_true] at h'
  have al := List.all_eq_true.mp h'.2
  have le := of_decide_eq_true h'.1.2
  exact ⟨(Ft.str (low_sg al) le).fg, fun z' e => by cases e; exact ⟨Nat.le_trans le (by decide), fun c hc => inL_lt (al c hc)⟩, fun a b e => nomatch e⟩
theorem GoodRow.fp {e p : PyData} {z : Str} (g : GoodRow e z p) : Fg 122 1 p := by
  have hf : isFr p = true := by have := g.ab; unfold isAb at this; rw [Bool.and_eq_true] at this; exact this.1
  obtain ⟨a, b, rfl, _⟩ := isFr_inv hf
  obtain ⟨h1, h2⟩ := g.el.fr a b rfl
  exact (Ft.tuple (.cons (.i60 h1) (.cons (.i60 h2) .nil))).fg
theorem gr_of {d : PyData} {w k : Nat} (f : Fg w k d) (hw : w ≤ 1500 := by decide) (hk : k ≤ 5 := by decide) (h : RwG d := by intro ds e; cases e) : GR d := ⟨f.le hw hk, h⟩
theorem rwg_tup {ds : List PyData} (h : ∀ e ∈ ds, El e) : RwG (.tuple ds) := fun ds' e => by cases e; exact h
theorem rwg0 : RwG (.tuple []) := rwg_tup fun e h => nomatch h
theorem rwg1 {a : PyData} (h : El a) : RwG (.tuple [a]) := rwg_tup fun e he => by
  rw [List.mem_singleton.mp he]
  exact h
theorem rwg2 {a b : PyData} (h : El a) (k : El b) : RwG (.tuple [a, b]) := rwg_tup fun e he => by
  rcases List.mem_cons.mp he with rfl | he
  · exact h
  · rw [List.mem_singleton.mp he]; exact k
theorem rwg3 {a b c : PyData} (h : El a) (k : El b) (l : El c) : RwG (.tuple [a, b, c]) := rwg_tup fun e he => by
  rcases List.mem_cons.mp he with rfl | he
  · exact h
  rcases List.mem_cons.mp he with rfl | he
  · exact k
  · rw [List.mem_singleton.mp he]; exact l
theorem el_int (n : Int) : El (.int n) := ⟨(fun z e => nomatch e), (fun a b e => nomatch e)⟩
theorem el_list (ds : List PyData) : El (.list ds) := ⟨(fun z e => nomatch e), (fun a b e => nomatch e)⟩
theorem Gd.gr {d : PyData} (g : Gd d) (h : RwG d) : GR d := ⟨g.fg.le (by decide) (by decide), h⟩
section
variable {P : Program} {w : World} {K : PySem.W.Frag} {mg : Str → Option Value} {base : Heap} {c0 c1 : Addr}
theorem wo_but {q : Addr} {H H' : Hp} (b : But q H H') : Same (wo q H) (wo q H') := fun c o e => wo_at (wo_not e) (b _ _ (wo_not e) (wo_le _ _ e))

/-! ### _law_odd_row -/
theorem sc__law_odd_row : FnScope ["_law_pot_here", "_law_row", "_law_some", "_law_thing", "_law_parts_here"] ["_law_pot_here", "_law_row"] (defScope s__law_odd_row) := ⟨rfl, rfl, rfl, by decide +kernel, rfl, by decide +kernel, by decide +kernel⟩
def sp_oddr (K : PySem.W.Frag) : Sp := fun vs H Q _ => ∃ (q : Addr) (v : V) (e p : PyData) (z : Str), vs = [.ref q, v] ∧ Pot H q ∧ Dg K (wo q H) v e ∧ GoodRow e z p ∧ ∀ (v' : V) (d : PyData) (H' : Hp), Dg K (wo q H') v' d → GR d → Pot H' q → But q H H' → Q v' H'
set_option maxHeartbeats 16000000 in
theorem ok_oddr {f : Addr} {fd : FuncData} (M : Blt mg) (F : Fun K "_law_odd_row" "_law_odd_row" s__law_odd_row f fd) (C__law_draw : Cal P w K mg base CX0 1 "_law_draw" ["_law_pot_here", "_law_many"] (sp_draw)) : FnG P w K mg base CX0 2 f fd ["_law_pot_here", "_law_row"] (sp_oddr K) := by
  refine Gfun F sc__law_odd_row (fun vs H Q E h => ?_) (fun cdv A outer s H vs Q E hg hr h => ?_)
  · obtain ⟨q, v, e, p, z, rfl, _⟩ := h
    rfl
  · obtain ⟨q, v, e, p, z, rfl, P0, hv, G, k⟩ := h
    refine ⟨_, (pss_cons (ps_asg (pv 1) (pg_tup rfl (pgs_cons (pg_name (i := 3) sc__law_odd_row.nd rfl (.inl rfl)) (pgs_cons (pg_name (i := 4) sc__law_odd_row.nd rfl (.inl rfl)) pgs_nil))))
      (pss_cons (ps_set (i := 2) sc__law_odd_row.nd rfl (.inl rfl) (pe_lst (pa_cons (pe_lst (pa_cons (pv 3) (pa_cons (pv 4) pa_nil))) (pa_cons (pe_tup (pa_cons (pv 3) pa_nil)) (pa_cons (pe_tup (pa_cons (pv 3) (pa_cons (pv 4) (pa_cons (pv 4) pa_nil)))) (pa_cons pe_non (pa_cons (pv 3) (pa_cons (pv 4) (pa_cons (pe_disp (pps_cons (pv 3) (pv 4) pps_nil) rfl rfl (by decide) (by decide)) (pa_cons pe_int (pa_cons pe_bl (pa_cons (pe_tup pa_nil) pa_nil))))))))))))
      (pss_one (ps_ret (pe_ix ix_list (pe_op op_cat (pv 2) (pe_lst (pa_cons (pe_tup (pa_cons (pv 4) (pa_cons (pv 3) pa_nil))) (pa_cons (pe_tup (pa_cons (pe_lst (pa_cons (pv 3) pa_nil)) (pa_cons (pv 4) pa_nil))) (pa_cons (pe_tup (pa_cons pe_str (pa_cons (pv 4) pa_nil))) pa_nil))))) (pe_g C__law_draw (hr.mono (by decide)) hg (pa_cons (pv 0) (pa_cons pe_int pa_nil))) (fun _ _ => rfl)))))), ?_⟩
    have hv0 := hv
    obtain ⟨ra, x, vp, rfl, hS, hx, hp⟩ : ∃ ra x vp, v = .ref ra ∧ SqT K (wo q H) ra [x, vp] ∧ Dg K (wo q H) x (.str z) ∧ Dg K (wo q H) vp p := by
      rw [G.eq] at hv
      exact hv.pair
    obtain rfl := hx.str_
    have hS0 : SqT K H ra [.str z, vp] := sm_t wo_le hS
    refine ⟨_, rfl, ra, _, rfl, hS0, rfl, _, _, rfl, _, _, rfl, rfl, ?_⟩
    refine ⟨_, rfl, _, rfl, len_show (Nat.le_of_ble_eq_true rfl), fun m1 nm1 => ?_⟩
    have sm1 : Same H (L2.upd H m1 (.lst [.str z, vp])) := same_new nm1
    have em1 : L2.upd H m1 (.lst [.str z, vp]) m1 = some (.lst [.str z, vp]) := upd_same
    generalize L2.upd H m1 (.lst [.str z, vp]) = G1 at sm1 em1 ⊢
    refine ⟨_, rfl, len_show (Nat.le_of_ble_eq_true rfl), fun m2 nm2 => ?_⟩
    have sm2 : Same G1 (L2.upd G1 m2 (.tup [.str z])) := same_new nm2
    have em2 : L2.upd G1 m2 (.tup [.str z]) m2 = some (.tup [.str z]) := upd_same
    generalize L2.upd G1 m2 (.tup [.str z]) = G2 at sm2 em2 ⊢
    refine ⟨_, rfl, _, rfl, _, rfl, len_show (Nat.le_of_ble_eq_true rfl), fun m3 nm3 => ?_⟩
    have sm3 : Same G2 (L2.upd G2 m3 (.tup [.str z, vp, vp])) := same_new nm3
    have em3 : L2.upd G2 m3 (.tup [.str z, vp, vp]) m3 = some (.tup [.str z, vp, vp]) := upd_same
    generalize L2.upd G2 m3 (.tup [.str z, vp, vp]) = G3 at sm3 em3 ⊢
    refine ⟨_, rfl, _, rfl, fun m4 nm4 => ?_⟩
    refine ⟨_, rfl, _, rfl, upd_same, [(Sum.inr z, vp)], rfl, by show 1 ≤ 15; decide, ?_⟩
    have sm4 : Same G3 (L2.upd (L2.upd G3 m4 (.dK [])) m4 (.dK (mergeK [] [(Sum.inr z, vp)]))) := fun b o e => by rw [upd_ne (ne_of_none e nm4), upd_ne (ne_of_none e nm4)]; exact e
    have em4 : (L2.upd (L2.upd G3 m4 (.dK [])) m4 (.dK (mergeK [] [(Sum.inr z, vp)]))) m4 = some (.dK [(Sum.inr z, vp)]) := by rw [upd_same]; rfl
    generalize L2.upd (L2.upd G3 m4 (.dK [])) m4 (.dK (mergeK [] [(Sum.inr z, vp)])) = G4 at sm4 em4 ⊢
    refine ⟨len_show (Nat.le_of_ble_eq_true rfl), fun m5 nm5 => ?_⟩
    have sm5 : Same G4 (L2.upd G4 m5 (.tup [])) := same_new nm5
    have em5 : L2.upd G4 m5 (.tup []) m5 = some (.tup []) := upd_same
    generalize L2.upd G4 m5 (.tup []) = G5 at sm5 em5 ⊢
    refine ⟨len_show (Nat.le_of_ble_eq_true rfl), fun m6 nm6 => ?_⟩
    have sm6 : Same G5 (L2.upd G5 m6 (.lst [.ref m1, .ref m2, .ref m3, .non, .str z, vp, .ref m4, .int 0, .bl true, .ref m5])) := same_new nm6
    have em6 : L2.upd G5 m6 (.lst [.ref m1, .ref m2, .ref m3, .non, .str z, vp, .ref m4, .int 0, .bl true, .ref m5]) m6 = some (.lst [.ref m1, .ref m2, .ref m3, .non, .str z, vp, .ref m4, .int 0, .bl true, .ref m5]) := upd_same
    generalize L2.upd G5 m6 (.lst [.ref m1, .ref m2, .ref m3, .non, .str z, vp, .ref m4, .int 0, .bl true, .ref m5]) = G6 at sm6 em6 ⊢
    refine ⟨_, rfl, _, rfl, _, rfl, len_show (Nat.le_of_ble_eq_true rfl), fun m7 nm7 => ?_⟩
    have sm7 : Same G6 (L2.upd G6 m7 (.tup [vp, .str z])) := same_new nm7
    have em7 : L2.upd G6 m7 (.tup [vp, .str z]) m7 = some (.tup [vp, .str z]) := upd_same
    generalize L2.upd G6 m7 (.tup [vp, .str z]) = G7 at sm7 em7 ⊢
    refine ⟨_, rfl, len_show (Nat.le_of_ble_eq_true rfl), fun m8 nm8 => ?_⟩
    have sm8 : Same G7 (L2.upd G7 m8 (.lst [.str z])) := same_new nm8
    have em8 : L2.upd G7 m8 (.lst [.str z]) m8 = some (.lst [.str z]) := upd_same
    generalize L2.upd G7 m8 (.lst [.str z]) = G8 at sm8 em8 ⊢
    refine ⟨_, rfl, len_show (Nat.le_of_ble_eq_true rfl), fun m9 nm9 => ?_⟩
    have sm9 : Same G8 (L2.upd G8 m9 (.tup [.ref m8, vp])) := same_new nm9
    have em9 : L2.upd G8 m9 (.tup [.ref m8, vp]) m9 = some (.tup [.ref m8, vp]) := upd_same
    generalize L2.upd G8 m9 (.tup [.ref m8, vp]) = G9 at sm9 em9 ⊢
    refine ⟨_, rfl, len_show (Nat.le_of_ble_eq_true rfl), fun m10 nm10 => ?_⟩
    have sm10 : Same G9 (L2.upd G9 m10 (.tup [.str (Str.ofString "ab"), vp])) := same_new nm10
    have em10 : L2.upd G9 m10 (.tup [.str (Str.ofString "ab"), vp]) m10 = some (.tup [.str (Str.ofString "ab"), vp]) := upd_same
    generalize L2.upd G9 m10 (.tup [.str (Str.ofString "ab"), vp]) = G10 at sm10 em10 ⊢
    refine ⟨len_show (Nat.le_of_ble_eq_true rfl), fun m11 nm11 => ?_⟩
    have sm11 : Same G10 (L2.upd G10 m11 (.lst [.ref m7, .ref m9, .ref m10])) := same_new nm11
    have em11 : L2.upd G10 m11 (.lst [.ref m7, .ref m9, .ref m10]) m11 = some (.lst [.ref m7, .ref m9, .ref m10]) := upd_same
    generalize L2.upd G10 m11 (.lst [.ref m7, .ref m9, .ref m10]) = G11 at sm11 em11 ⊢
    refine ⟨m6, m11, _, _, rfl, rfl, (sm11 _ _ (sm10 _ _ (sm9 _ _ (sm8 _ _ (sm7 _ _ em6))))), em11, by rw [sizeLine_eq]; exact Nat.le_of_ble_eq_true rfl, fun m12 nm12 => ?_⟩
    have sm12 : Same G11 (L2.upd G11 m12 (.lst ([.ref m1, .ref m2, .ref m3, .non, .str z, vp, .ref m4, .int 0, .bl true, .ref m5] ++ [.ref m7, .ref m9, .ref m10]))) := same_new nm12
    have em12 : L2.upd G11 m12 (.lst ([.ref m1, .ref m2, .ref m3, .non, .str z, vp, .ref m4, .int 0, .bl true, .ref m5] ++ [.ref m7, .ref m9, .ref m10])) m12 = some (.lst ([.ref m1, .ref m2, .ref m3, .non, .str z, vp, .ref m4, .int 0, .bl true, .ref m5] ++ [.ref m7, .ref m9, .ref m10])) := upd_same
    generalize L2.upd G11 m12 (.lst ([.ref m1, .ref m2, .ref m3, .non, .str z, vp, .ref m4, .int 0, .bl true, .ref m5] ++ [.ref m7, .ref m9, .ref m10])) = G12 at sm12 em12 ⊢
    have nqm1 : m1 ≠ q := pot_ne P0 nm1
    have fm1 : G12 m1 = some (.lst [.str z, vp]) := (sm12 _ _ (sm11 _ _ (sm10 _ _ (sm9 _ _ (sm8 _ _ (sm7 _ _ (sm6 _ _ (sm5 _ _ (sm4 _ _ (sm3 _ _ (sm2 _ _ em1)))))))))))
    have nqm2 : m2 ≠ q := pot_ne (pot_same P0 sm1) nm2
    have fm2 : G12 m2 = some (.tup [.str z]) := (sm12 _ _ (sm11 _ _ (sm10 _ _ (sm9 _ _ (sm8 _ _ (sm7 _ _ (sm6 _ _ (sm5 _ _ (sm4 _ _ (sm3 _ _ em2))))))))))
    have nqm3 : m3 ≠ q := pot_ne (pot_same P0 (sm1.trans sm2)) nm3
    have fm3 : G12 m3 = some (.tup [.str z, vp, vp]) := (sm12 _ _ (sm11 _ _ (sm10 _ _ (sm9 _ _ (sm8 _ _ (sm7 _ _ (sm6 _ _ (sm5 _ _ (sm4 _ _ em3)))))))))
    have nqm4 : m4 ≠ q := pot_ne (pot_same P0 ((sm1.trans sm2).trans sm3)) nm4
    have fm4 : G12 m4 = some (.dK [(Sum.inr z, vp)]) := (sm12 _ _ (sm11 _ _ (sm10 _ _ (sm9 _ _ (sm8 _ _ (sm7 _ _ (sm6 _ _ (sm5 _ _ em4))))))))
    have nqm5 : m5 ≠ q := pot_ne (pot_same P0 (((sm1.trans sm2).trans sm3).trans sm4)) nm5
    have fm5 : G12 m5 = some (.tup []) := (sm12 _ _ (sm11 _ _ (sm10 _ _ (sm9 _ _ (sm8 _ _ (sm7 _ _ (sm6 _ _ em5)))))))
    have nqm6 : m6 ≠ q := pot_ne (pot_same P0 ((((sm1.trans sm2).trans sm3).trans sm4).trans sm5)) nm6
    have fm6 : G12 m6 = some (.lst [.ref m1, .ref m2, .ref m3, .non, .str z, vp, .ref m4, .int 0, .bl true, .ref m5]) := (sm12 _ _ (sm11 _ _ (sm10 _ _ (sm9 _ _ (sm8 _ _ (sm7 _ _ em6))))))
    have nqm7 : m7 ≠ q := pot_ne (pot_same P0 (((((sm1.trans sm2).trans sm3).trans sm4).trans sm5).trans sm6)) nm7
    have fm7 : G12 m7 = some (.tup [vp, .str z]) := (sm12 _ _ (sm11 _ _ (sm10 _ _ (sm9 _ _ (sm8 _ _ em7)))))
    have nqm8 : m8 ≠ q := pot_ne (pot_same P0 ((((((sm1.trans sm2).trans sm3).trans sm4).trans sm5).trans sm6).trans sm7)) nm8
    have fm8 : G12 m8 = some (.lst [.str z]) := (sm12 _ _ (sm11 _ _ (sm10 _ _ (sm9 _ _ em8))))
    have nqm9 : m9 ≠ q := pot_ne (pot_same P0 (((((((sm1.trans sm2).trans sm3).trans sm4).trans sm5).trans sm6).trans sm7).trans sm8)) nm9
    have fm9 : G12 m9 = some (.tup [.ref m8, vp]) := (sm12 _ _ (sm11 _ _ (sm10 _ _ em9)))
    have nqm10 : m10 ≠ q := pot_ne (pot_same P0 ((((((((sm1.trans sm2).trans sm3).trans sm4).trans sm5).trans sm6).trans sm7).trans sm8).trans sm9)) nm10
    have fm10 : G12 m10 = some (.tup [.str (Str.ofString "ab"), vp]) := (sm12 _ _ (sm11 _ _ em10))
    have nqm11 : m11 ≠ q := pot_ne (pot_same P0 (((((((((sm1.trans sm2).trans sm3).trans sm4).trans sm5).trans sm6).trans sm7).trans sm8).trans sm9).trans sm10)) nm11
    have fm11 : G12 m11 = some (.lst [.ref m7, .ref m9, .ref m10]) := (sm12 _ _ em11)
    have nqm12 : m12 ≠ q := pot_ne (pot_same P0 ((((((((((sm1.trans sm2).trans sm3).trans sm4).trans sm5).trans sm6).trans sm7).trans sm8).trans sm9).trans sm10).trans sm11)) nm12
    have fm12 : G12 m12 = some (.lst ([.ref m1, .ref m2, .ref m3, .non, .str z, vp, .ref m4, .int 0, .bl true, .ref m5] ++ [.ref m7, .ref m9, .ref m10])) := em12
    have PG := pot_same P0 (((((((((((sm1.trans sm2).trans sm3).trans sm4).trans sm5).trans sm6).trans sm7).trans sm8).trans sm9).trans sm10).trans sm11).trans sm12)
    have bG : But q H G12 := fun b o _ e => (((((((((((sm1.trans sm2).trans sm3).trans sm4).trans sm5).trans sm6).trans sm7).trans sm8).trans sm9).trans sm10).trans sm11).trans sm12) _ _ e
    generalize G12 = HG at fm1 fm2 fm3 fm4 fm5 fm6 fm7 fm8 fm9 fm10 fm11 fm12 PG bG ⊢
    refine ⟨_, rfl, q, 13, rfl, by decide, by decide, PG, fun c H2 c0_ c1_ P2 b2 => ?_⟩
    obtain ⟨cn, rfl⟩ : ∃ cn : Nat, c = (cn : Int) := ⟨c.toNat, by omega⟩
    have hpF : Dg K (wo q H2) vp p := hp.same (wo_but (bG.trans b2))
    have hall : DgAll K (wo q H2) ([.ref m1, .ref m2, .ref m3, .non, .str z, vp, .ref m4, .int 0, .bl true, .ref m5] ++ [.ref m7, .ref m9, .ref m10]) ([.list [.str z, p], .tuple [.str z], .tuple [.str z, p, p], .none, .str z, p, .dict [(kD (Sum.inr z), p)], .int 0, .bool true, .tuple []] ++ [.tuple [p, .str z], .tuple [.list [.str z], p], .tuple [.str (Str.ofString "ab"), p]]) := (DgAll.app ((.cons (.lst (.inl (.inl (wo_at nqm1 (b2 _ _ nqm1 fm1)))) (.cons (.str _) (.cons (hpF) .nil))) (.cons (.tup (.inl (.inl (wo_at nqm2 (b2 _ _ nqm2 fm2)))) (.cons (.str _) .nil)) (.cons (.tup (.inl (.inl (wo_at nqm3 (b2 _ _ nqm3 fm3)))) (.cons (.str _) (.cons (hpF) (.cons (hpF) .nil)))) (.cons (.non) (.cons (.str _) (.cons (hpF) (.cons (.dk (wo_at nqm4 (b2 _ _ nqm4 fm4)) (.cons (hpF) .nil)) (.cons (.int _) (.cons (.bl _) (.cons (.tup (.inl (.inl (wo_at nqm5 (b2 _ _ nqm5 fm5)))) .nil) .nil))))))))))) ((.cons (.tup (.inl (.inl (wo_at nqm7 (b2 _ _ nqm7 fm7)))) (.cons (hpF) (.cons (.str _) .nil))) (.cons (.tup (.inl (.inl (wo_at nqm9 (b2 _ _ nqm9 fm9)))) (.cons (.lst (.inl (.inl (wo_at nqm8 (b2 _ _ nqm8 fm8)))) (.cons (.str _) .nil)) (.cons (hpF) .nil))) (.cons (.tup (.inl (.inl (wo_at nqm10 (b2 _ _ nqm10 fm10)))) (.cons (.str _) (.cons (hpF) .nil))) .nil)))))
    have hc13 : cn < 13 := by omega
    obtain ⟨v', hv'⟩ : ∃ v', (([.ref m1, .ref m2, .ref m3, .non, .str z, vp, .ref m4, .int 0, .bl true, .ref m5] ++ [.ref m7, .ref m9, .ref m10]) : List V)[cn]? = some v' := ⟨_, List.getElem?_eq_getElem (by show cn < 13; omega)⟩
    obtain ⟨d, hd, hq⟩ := hall.get hv'
    refine ⟨m12, _, _, _, rfl, rfl, .inl (.inl (b2 _ _ nqm12 fm12)), atI_nat (j := cn) hv', ?_⟩
    have gr : GR d := by
      clear hall hq hv'
      obtain ⟨g1, e1⟩ := G.fz
      have g2 := G.fp
      have hf : isFr p = true := by have := G.ab; unfold isAb at this; rw [Bool.and_eq_true] at this; exact this.1
      have gab : Fg 300 4 (.str (Str.ofString "ab")) := (gd_good (by decide +kernel)).fg
      have eab : El (.str (Str.ofString "ab")) := (gd_good (by decide +kernel)).el
      match cn, hc13, hd with
        | 0, _, hd => cases hd; exact gr_of (Fg.list (.cons g1 (.cons g2 .nil)))
        | 1, _, hd => cases hd; exact gr_of (Fg.tuple (.cons g1 .nil)) (h := rwg1 e1)
        | 2, _, hd => cases hd; exact gr_of (Fg.tuple (.cons g1 (.cons g2 (.cons g2 .nil)))) (h := rwg3 e1 G.el G.el)
        | 3, _, hd => cases hd; exact gr_of Ft.none.fg
        | 4, _, hd => cases hd; exact gr_of g1
        | 5, _, hd => cases hd; exact gr_of g2 (h := by obtain ⟨a, b, ep, _⟩ := isFr_inv hf; rw [ep]; exact rwg2 (el_int _) (el_int _))
        | 6, _, hd => cases hd; exact gr_of (Fg.dict (.cons g1 g2 .nil))
        | 7, _, hd => cases hd; exact (gd_good (d := .int 0) (by decide +kernel)).gr (by intro ds e; cases e)
        | 8, _, hd => cases hd; exact gr_of (Ft.bool true).fg
        | 9, _, hd => cases hd; exact gr_of (Fg.tuple .nil) (h := rwg0)
        | 10, _, hd => cases hd; exact gr_of (Fg.tuple (.cons g2 (.cons g1 .nil))) (h := rwg2 G.el e1)
        | 11, _, hd => cases hd; exact gr_of (Fg.tuple (.cons (Fg.list (.cons g1 .nil)) (.cons g2 .nil))) (h := rwg2 (el_list _) G.el)
        | 12, _, hd => cases hd; exact gr_of (Fg.tuple (.cons gab (.cons g2 .nil))) (h := rwg2 eab G.el)
        | m + 13, h, _ => exact absurd h (by omega)
    exact k v' d H2 hq gr P2 fun b o n e => b2 _ _ n (bG _ _ n e)

end
end Lf

set_option Elab.async false
set_option linter.all false
/-! Slices of lists, by whole numbers from 0. -/
namespace Lf
open PySem PySem.Spec PyProof.Rows L2
theorem cutTo {xs : List V} {i : Int} {k : Nat} (h : i = (k : Int)) : cutV xs none (some i) = xs.take k := by
  rw [h]
  unfold cutV
  rw [HT.sIx_nat, HT.sIx_none, List.drop_zero, Nat.sub_zero]
  by_cases c : k ≤ xs.length
  · rw [Nat.min_eq_left c]
  · rw [Nat.min_eq_right (by omega), List.take_of_length_le (Nat.le_refl _), List.take_of_length_le (by omega)]
theorem cutFrom {xs : List V} {i : Int} {k : Nat} (h : i = (k : Int)) : cutV xs (some i) none = xs.drop k := by
  rw [h]
  unfold cutV
  rw [HT.sIx_nat, HT.sIx_none]
  by_cases c : k ≤ xs.length
  · rw [Nat.min_eq_left c]
    exact List.take_of_length_le (by rw [List.length_drop]; exact Nat.le_refl _)
  · rw [Nat.min_eq_right (by omega), Nat.sub_self, List.take_zero, List.drop_of_length_le (by omega)]
theorem cutMid {xs : List V} {i j : Int} {k n : Nat} (hi : i = (k : Int)) (hj : j = ((k + n : Nat) : Int)) (hl : k + n ≤ xs.length) : cutV xs (some i) (some j) = (xs.drop k).take n := by
  rw [hi, hj]
  unfold cutV
  rw [HT.sIx_nat, HT.sIx_nat, Nat.min_eq_left hl, Nat.min_eq_left (show k ≤ xs.length by omega), Nat.add_sub_cancel_left]
end Lf

set_option Elab.async false
set_option linter.all false
set_option maxRecDepth 100000
set_option maxHeartbeats 4000000
set_option exponentiation.threshold 3000
namespace Lf
open PySem PySem.Spec PyProof.Rows L2
section
variable {K : PySem.W.Frag}
/-- a row: a name and a fraction above 0 -/
structure RwOk (r : Str × (Int × Int)) : Prop where
  nm : Nm r.1
  lo : IsF r.2
  po : 0 < r.2.1
def RwAt (K : PySem.W.Frag) (H : Hp) (v : V) (r : Str × (Int × Int)) : Prop := ∃ p vf, v = .ref p ∧ SqT K H p [.str r.1, vf] ∧ AtK K H vf r.2
theorem RwAt.same {H H' : Hp} {v : V} {r : Str × (Int × Int)} (s : Same H H') (h : RwAt K H v r) : RwAt K H' v r := by
  obtain ⟨p, vf, e, h1, h2⟩ := h
  exact ⟨p, vf, e, sm_t s h1, h2.same s⟩
def RwsAt (K : PySem.W.Frag) (H : Hp) (xs : List V) (rs : List (Str × (Int × Int))) : Prop := Paired (RwAt K H) xs rs
theorem RwsAt.same {H H' : Hp} (s : Same H H') : ∀ {xs : List V} {rs : List (Str × (Int × Int))}, RwsAt K H xs rs → RwsAt K H' xs rs
  | _, _, .nil => .nil
  | _, _, .cons a r => .cons (a.same s) (RwsAt.same s r)
theorem RwsAt.get {H : Hp} : ∀ {xs : List V} {rs : List (Str × (Int × Int))} {i : Nat} {v : V}, RwsAt K H xs rs → xs[i]? = some v → ∃ r, rs[i]? = some r ∧ RwAt K H v r
  | _, _, _, _, .nil, e => by simp at e
  | _, _, 0, _, .cons a _, e => by simp at e; subst e; exact ⟨_, rfl, a⟩
  | _, _, i + 1, v, .cons _ r, e => by
    obtain ⟨x, h1, h2⟩ := RwsAt.get (i := i) (v := v) r (by simpa using e)
    exact ⟨x, by simpa using h1, h2⟩
def rwD (r : Str × (Int × Int)) : PyData := .tuple [.str r.1, tD r.2]
theorem RwAt.dp {H : Hp} {v : V} {r : Str × (Int × Int)} (h : RwAt K H v r) : Dp K H v (rwD r) := by
  obtain ⟨p, vf, rfl, h1, h2⟩ := h
  exact .tup h1 (.cons (.str r.1) (.cons h2.dp .nil))
theorem RwsAt.dps {H : Hp} : ∀ {xs : List V} {rs : List (Str × (Int × Int))}, RwsAt K H xs rs → DpAll K H xs (rs.map rwD)
  | _, _, .nil => .nil
  | _, _, .cons a r => .cons a.dp (RwsAt.dps r)
theorem nm_strOk {z : Str} (h : AllL z) : PyData.strOk z = true := by
  show z.cps.all (· < 0x110000) = true
  rw [← Array.all_toList]
  exact List.all_eq_true.mpr fun c hc => decide_eq_true (Nat.lt_of_lt_of_le (inL_lt (h c hc)) (by decide))
theorem rws_lay : ∀ rs : List (Str × (Int × Int)), (∀ r ∈ rs, RwOk r) → PyData.canLayAll0 (rs.map rwD) = true ∧ PyData.depthAll (rs.map rwD) ≤ 2
  | [], _ => ⟨by simp only [List.map_nil, PyData.canLayAll0], by simp only [List.map_nil, PyData.depthAll]; omega⟩
  | r :: rs, h => by
    obtain ⟨i1, i2⟩ := rws_lay rs fun x hx => h x (List.mem_cons_of_mem _ hx)
    have e := nm_strOk (h r List.mem_cons_self).nm.al
    refine ⟨?_, ?_⟩
    · simp only [List.map_cons, PyData.canLayAll0, i1, rwD, tD, PyData.canLay0, e, Bool.and_self]
    · simp only [List.map_cons, PyData.depthAll, rwD, tD, PyData.depth]
      omega
end
theorem rows_shaped {rs : List (Str × (Int × Int))} (h : ∀ r ∈ rs, RwOk r) : SeqAt.shaped (.list (rs.map rwD)) = true := by
  obtain ⟨i1, i2⟩ := rws_lay rs h
  unfold SeqAt.shaped
  rw [Bool.and_eq_true]
  refine ⟨by simp only [PyData.canLay0]; exact i1, decide_eq_true ?_⟩
  simp only [PyData.depth]
  omega
theorem rwD_inv {e : PyData} (h : isRow e = true) : ∃ r : Str × (Int × Int), e = rwD r ∧ RwOk r := by
  obtain ⟨z, p, rfl, nm, ab⟩ := isRow_inv h
  have ab' := ab
  unfold isAb at ab
  rw [Bool.and_eq_true] at ab
  obtain ⟨a, b, rfl, lo⟩ := isFr_inv ab.1
  exact ⟨(z, (a, b)), rfl, ⟨nm_inv nm, lo, of_decide_eq_true ab.2⟩⟩
/-- rows that are told right -/
structure GoodRs (ds : List PyData) (rs : List (Str × (Int × Int))) : Prop where
  eq : ds = rs.map rwD
  ok : ∀ r ∈ rs, RwOk r
  gr : ∀ e ∈ ds, GR e
  l1 : 1 ≤ ds.length
  l8 : ds.length ≤ 8
theorem good_rs {ds : List PyData} (h : isRsL ds = true) (g : ∀ e ∈ ds, GR e) : ∃ rs, GoodRs ds rs := by
  unfold isRsL at h
  rw [Bool.and_eq_true, Bool.and_eq_true, Bool.and_eq_true] at h
  obtain ⟨⟨⟨h1, h8⟩, ha⟩, _⟩ := h
  have h1 := of_decide_eq_true h1
  have h8 := of_decide_eq_true h8
  have ha := List.all_eq_true.mp ha
  have key : ∀ l : List PyData, (∀ e ∈ l, isRow e = true) → ∃ rs : List (Str × (Int × Int)), l = rs.map rwD ∧ ∀ r ∈ rs, RwOk r := by
    intro l
    induction l with
    | nil => intro _; exact ⟨[], rfl, fun r hr => nomatch hr⟩
    | cons e l ih =>
      intro hl
      obtain ⟨rs, rfl, ok⟩ := ih fun x hx => hl x (List.mem_cons_of_mem _ hx)
      obtain ⟨r, rfl, okr⟩ := rwD_inv (hl e List.mem_cons_self)
      refine ⟨r :: rs, rfl, fun x hx => ?_⟩
      rcases List.mem_cons.mp hx with rfl | hx
      · exact okr
      · exact ok x hx
  obtain ⟨rs, e, ok⟩ := key ds ha
  exact ⟨rs, e, ok, g, h1, h8⟩
/-- rows of any kind -/
def RowsD (d : PyData) : Prop := (∃ ds, (d = .list ds ∨ d = .tuple ds) ∧ ds.length ≤ 9 ∧ ∀ e ∈ ds, GR e) ∨ (isLi d = false ∧ isT d = false ∧ Fg 300 4 d)
theorem GoodRs.row {ds : List PyData} {rs : List (Str × (Int × Int))} (g : GoodRs ds rs) {i : Nat} {e : PyData} (h : ds[i]? = some e) : ∃ z p, GoodRow e z p := by
  have he := List.mem_of_getElem? h
  have hr : isRow e = true := by
    rw [g.eq, List.getElem?_map] at h
    cases hx : rs[i]? with
    | none => rw [hx] at h; cases h
    | some r =>
      rw [hx] at h
      cases h
      have ok := g.ok r (List.mem_of_getElem? hx)
      show (isNm (.str r.1) && isAb (tD r.2)) = true
      have h1 : isNm (.str r.1) = true := by
        show (decide (1 ≤ r.1.length) && decide (r.1.length ≤ 10) && r.1.cps.toList.all inL) = true
        rw [decide_eq_true ok.nm.l1, decide_eq_true ok.nm.le]
        exact List.all_eq_true.mpr ok.nm.al
      have h2 : isAb (tD r.2) = true := by
        show (decide (0 < r.2.2) && decide (Nat.gcd r.2.1.natAbs r.2.2.natAbs = 1) && decide (0 < r.2.1)) = true
        rw [decide_eq_true ok.lo.1, decide_eq_true ok.lo.2, decide_eq_true ok.po]
        rfl
      rw [h1, h2]
      rfl
  obtain ⟨z, p, rfl, nm, ab⟩ := isRow_inv hr
  exact ⟨z, p, rfl, nm, ab, (g.gr _ he).rg _ rfl p (by simp)⟩
section
variable {P : Program} {w : World} {K : PySem.W.Frag} {mg : Str → Option Value} {base : Heap} {c0 c1 : Addr}
theorem Dg.dp {H : Hp} : ∀ {d : PyData} {v : V}, Dg K H v d → (∀ r : Str × (Int × Int), d = rwD r → Dp K H v d)
  | _, _, h, r, e => by
    subst e
    obtain ⟨p, x, y, rfl, hS, h1, h2⟩ := (show Dg K H _ (.tuple [.str r.1, tD r.2]) from h).pair
    obtain rfl := h1.str_
    obtain ⟨p2, a, b, rfl, hS2, g1, g2⟩ := (show Dg K H y (.tuple [.int r.2.1, .int r.2.2]) from h2).pair
    obtain rfl := g1.int_
    obtain rfl := g2.int_
    exact .tup hS (.cons (.str _) (.cons (dp2 hS2) .nil))
theorem DgAll.dps {H : Hp} : ∀ {rs : List (Str × (Int × Int))} {xs : List V}, DgAll K H xs (rs.map rwD) → DpAll K H xs (rs.map rwD)
  | [], _, .nil => .nil
  | r :: rs, _, .cons a t => .cons (a.dp r rfl) (DgAll.dps t)
theorem DgAll.take {H : Hp} : ∀ (k : Nat) {xs : List V} {ds : List PyData}, DgAll K H xs ds → DgAll K H (xs.take k) (ds.take k)
  | 0, _, _, _ => by simp only [List.take_zero]; exact .nil
  | k + 1, _, _, .nil => by simp only [List.take_nil]; exact .nil
  | k + 1, _, _, .cons a r => .cons a (DgAll.take k r)
theorem DgAll.drop {H : Hp} : ∀ (k : Nat) {xs : List V} {ds : List PyData}, DgAll K H xs ds → DgAll K H (xs.drop k) (ds.drop k)
  | 0, _, _, h => h
  | k + 1, _, _, .nil => by simp only [List.drop_nil]; exact .nil
  | k + 1, _, _, .cons _ r => DgAll.drop k r
theorem eqv_rows (rs : List (Str × (Int × Int))) : PyData.eqv (.list (rs.map rwD)) (.list []) = rs.isEmpty := by
  cases rs <;> simp [PyData.eqv, PyData.eqvAll]

/-! ### _law_odd_rows -/
theorem sc__law_odd_rows : FnScope ["_law_pot_here", "_law_rows", "_law_way", "_law_own", "_law_at", "_law_more", "_law_some"] ["_law_pot_here", "_law_rows"] (defScope s__law_odd_rows) := ⟨rfl, rfl, rfl, by decide +kernel, rfl, by decide +kernel, by decide +kernel⟩
theorem gr2 {a b : PyData} (h : GR a) (k : GR b) : ∀ e ∈ [a, b], GR e := fun e he => by
  rcases List.mem_cons.mp he with rfl | he
  · exact h
  · rw [List.mem_singleton.mp he]; exact k
theorem gr11 : GR (.tuple [.int 1, .int 1]) := gr_of (Fg.tuple (.cons (gd_good (d := .int 1) (by decide +kernel)).fg (.cons (gd_good (d := .int 1) (by decide +kernel)).fg .nil))) (h := rwg2 (el_int _) (el_int _))
theorem el11 (a b : Int) (h : a.natAbs < 2 ^ 60 ∧ b.natAbs < 2 ^ 60) : El (.tuple [.int a, .int b]) := ⟨(fun z e => nomatch e), (fun x y e => by cases e; exact h)⟩
theorem fg11 (a b : Int) (h : S60 a ∧ S60 b) : Fg 122 1 (.tuple [.int a, .int b]) := (Ft.tuple (.cons (.i60 h.1) (.cons (.i60 h.2) .nil))).fg
theorem grab : GR (.tuple [.str (Str.ofString "ab"), .tuple [.int 1, .int 1]]) := gr_of (Fg.tuple (.cons (gd_good (d := .str (Str.ofString "ab")) (by decide +kernel)).fg (.cons (fg11 1 1 ⟨by unfold S60; decide, by unfold S60; decide⟩) .nil))) (h := rwg2 (gd_good (by decide +kernel)).el (el11 1 1 ⟨by decide, by decide⟩))
def sp_oddrs (K : PySem.W.Frag) : Sp := fun vs H Q _ => ∃ (q a : Addr) (xs : List V) (ds : List PyData) (rs : List (Str × (Int × Int))), vs = [.ref q, .ref a] ∧ Pot H q ∧ (SqL K (wo q H) a xs ∨ SqT K (wo q H) a xs) ∧ DgAll K (wo q H) xs ds ∧ GoodRs ds rs ∧ ∀ (v' : V) (d : PyData) (H' : Hp), Dg K (wo q H') v' d → RowsD d → Pot H' q → But q H H' → Q v' H'
set_option maxHeartbeats 16000000 in
theorem ok_oddrs {f : Addr} {fd : FuncData} (M : Blt mg) (Mx : Bltx mg) (ml : mg "list" = none) (F : Fun K "_law_odd_rows" "_law_odd_rows" s__law_odd_rows f fd) (C__law_draw : Cal P w K mg base CX0 1 "_law_draw" ["_law_pot_here", "_law_many"] (sp_draw)) (C__law_odd_row : Cal P w K mg base CX0 2 "_law_odd_row" ["_law_pot_here", "_law_row"] (sp_oddr K)) (C__law_odd_parts : Cal P w K mg base CX0 2 "_law_odd_parts" ["_law_pot_here"] (sp_oddp K)) (C__law_odd_name : Cal P w K mg base CX0 2 "_law_odd_name" ["_law_pot_here"] (sp_oddn K)) : FnG P w K mg base CX0 3 f fd ["_law_pot_here", "_law_rows"] (sp_oddrs K) := by
  refine Gfun F sc__law_odd_rows (fun vs H Q E h => ?_) (fun cdv A outer s H vs Q E hg hr h => ?_)
  · obtain ⟨q, a, xs, ds, rs, rfl, _⟩ := h
    rfl
  · obtain ⟨q, a, xs, ds, rs, rfl, P0, hS, hA, G, k⟩ := h
    refine ⟨_, (pss_cons (ps_set (i := 2) sc__law_odd_rows.nd rfl (.inl rfl) (pe_g C__law_draw (hr.mono (by decide)) hg (pa_cons (pv 0) (pa_cons pe_int pa_nil))))
      (pss_cons (ps_set (i := 3) sc__law_odd_rows.nd rfl (.inl rfl) (pe_callTy call_list_of rfl ml bt_list (pa_cons (pv 1) pa_nil)))
      (pss_cons (ps_if (PW.pt (pw_or (pt_cmpR (op_eqD hr.units) (pv 3) (pe_lst pa_nil) (nomark _)) (pw_or1 (pt_cmpR op_eq (pv 2) pe_int (nomark _)))))
      (pss_cons (ps_set (i := 6) sc__law_odd_rows.nd rfl (.inl rfl) (pe_lst (pa_cons pe_non (pa_cons (pe_lst pa_nil) (pa_cons (pe_tup pa_nil) (pa_cons pe_str (pa_cons pe_str (pa_cons pe_int (pa_cons pe_bl (pa_cons pe_dnewK (pa_cons (pe_disp (pps_cons pe_str (pe_tup (pa_cons pe_int (pa_cons pe_int pa_nil))) pps_nil) rfl rfl (by decide) (by decide)) (pa_cons (pe_tup (pa_cons pe_str (pa_cons (pe_tup (pa_cons pe_int (pa_cons pe_int pa_nil))) pa_nil))) (pa_cons (pe_op op_rep (pe_lst (pa_cons (pe_tup (pa_cons pe_str (pa_cons (pe_tup (pa_cons pe_int (pa_cons pe_int pa_nil))) pa_nil))) pa_nil)) pe_int) (pa_cons (pe_lst (pa_cons (pe_lst pa_nil) pa_nil)) pa_nil))))))))))))))
      (pss_one (ps_ret (pe_ix ix_list (pv 6) (pe_g C__law_draw (hr.mono (by decide)) hg (pa_cons (pv 0) (pa_cons pe_int pa_nil))) (fun _ _ => rfl)))))
      pss_nil)
      (pss_cons (ps_set (i := 4) sc__law_odd_rows.nd rfl (.inl rfl) (pe_g C__law_draw (hr.mono (by decide)) hg (pa_cons (pv 0) (pa_cons (pe_callB call_len_seq rfl M.len bt_len (pa_cons (pv 3) pa_nil)) pa_nil))))
      (pss_cons (ps_if (pt_cmpR op_eq (pv 2) pe_int (nomark _))
      (pss_one (ps_ret (pe_op op_cat (pe_op op_cat (pe_slice sl_list (pv 3) po_none (po_some (pv 4))) (pe_lst (pa_cons (pe_g C__law_odd_row (hr.mono (by decide)) hg (pa_cons (pv 0) (pa_cons (pe_ix ix_list (pv 3) (pv 4) (fun _ _ => rfl)) pa_nil))) pa_nil))) (pe_slice sl_list (pv 3) (po_some (pe_op op_add (pv 4) pe_int)) po_none))))
      pss_nil)
      (pss_cons (ps_if (pt_cmpR op_eq (pv 2) pe_int (nomark _))
      (pss_one (ps_ret (pe_op op_cat (pe_op op_cat (pe_slice sl_list (pv 3) po_none (po_some (pv 4))) (pe_lst (pa_cons (pe_tup (pa_cons (pe_ix ix_tup (pe_ix ix_list (pv 3) (pv 4) (fun _ _ => rfl)) pe_int (fun _ _ => rfl)) (pa_cons (pe_g C__law_odd_parts (hr.mono (by decide)) hg (pa_cons (pv 0) pa_nil)) pa_nil))) pa_nil))) (pe_slice sl_list (pv 3) (po_some (pe_op op_add (pv 4) pe_int)) po_none))))
      pss_nil)
      (pss_cons (ps_if (pt_cmpR op_eq (pv 2) pe_int (nomark _))
      (pss_one (ps_ret (pe_op op_cat (pe_op op_cat (pe_slice sl_list (pv 3) po_none (po_some (pv 4))) (pe_lst (pa_cons (pe_tup (pa_cons (pe_g C__law_odd_name (hr.mono (by decide)) hg (pa_cons (pv 0) pa_nil)) (pa_cons (pe_ix ix_tup (pe_ix ix_list (pv 3) (pv 4) (fun _ _ => rfl)) pe_int (fun _ _ => rfl)) pa_nil))) pa_nil))) (pe_slice sl_list (pv 3) (po_some (pe_op op_add (pv 4) pe_int)) po_none))))
      pss_nil)
      (pss_cons (ps_set (i := 5) sc__law_odd_rows.nd rfl (.inl rfl) (pe_ix ix_list (pe_lst (pa_cons (pe_ix ix_list (pv 3) (pv 4) (fun _ _ => rfl)) (pa_cons (pe_tup (pa_cons (pe_ix ix_tup (pe_ix ix_list (pv 3) (pv 4) (fun _ _ => rfl)) pe_int (fun _ _ => rfl)) (pa_cons (pe_tup (pa_cons pe_int (pa_cons pe_int pa_nil))) pa_nil))) (pa_cons (pe_tup (pa_cons pe_str (pa_cons (pe_tup (pa_cons pe_int (pa_cons pe_int pa_nil))) pa_nil))) (pa_cons (pe_tup (pa_cons pe_str (pa_cons (pe_tup (pa_cons pe_int (pa_cons pe_int pa_nil))) pa_nil))) pa_nil))))) (pe_g C__law_draw (hr.mono (by decide)) hg (pa_cons (pv 0) (pa_cons pe_int pa_nil))) (fun _ _ => rfl)))
      (pss_one (ps_ret (pe_callTy call_tuple_of rfl Mx.tuple bt_tuple (pa_cons (pe_op op_cat (pe_op op_cat (pe_slice sl_list (pv 3) po_none (po_some (pv 4))) (pe_lst (pa_cons (pv 5) pa_nil))) (pe_slice sl_list (pv 3) (po_some (pv 4)) po_none)) pa_nil)))))))))))), ?_⟩
    have lx : xs.length = ds.length := DgAll.len hA
    have l1 := G.l1
    have l8 := G.l8
    refine ⟨_, rfl, q, 5, rfl, by decide, by decide, P0, fun wy H1 w0 w1 P1 b1 => ?_⟩
    have hS1 : SqL K H1 a xs ∨ SqT K H1 a xs := hS.imp (sm_l ((wo_but b1).trans wo_le)) (sm_t ((wo_but b1).trans wo_le))
    refine ⟨_, rfl, a, xs, rfl, hS1, fun ow now => ?_⟩
    have sow : Same H1 (L2.upd H1 ow (.lst xs)) := same_new now
    have eow : L2.upd H1 ow (.lst xs) ow = some (.lst xs) := upd_same
    generalize L2.upd H1 ow (.lst xs) = H2 at sow eow ⊢
    have nqo : ow ≠ q := pot_ne P1 now
    refine ⟨_, rfl, len_show (Nat.le_of_ble_eq_true rfl), fun e0 ne0 => ?_⟩
    have se0 : Same H2 (L2.upd H2 e0 (.lst [])) := same_new ne0
    have ee0 : L2.upd H2 e0 (.lst []) e0 = some (.lst []) := upd_same
    generalize L2.upd H2 e0 (.lst []) = H3 at se0 ee0 ⊢
    have P3 := pot_same (pot_same P1 sow) se0
    have eow3 := se0 _ _ eow
    have b03 : But q H H3 := fun b o n e => se0 _ _ (sow _ _ (b1 _ _ n e))
    have hA3 : DgAll K H3 xs ds := DgAll.same ((wo_but b03).trans wo_le) hA
    refine ⟨.list ds, .list [], .lst (.inl (.inl eow3)) (by rw [G.eq] at hA3 ⊢; exact DgAll.dps hA3), .lst (.inl (.inl ee0)) .nil, by rw [G.eq]; exact rows_shaped G.ok, by decide +kernel, _, rfl, ?_⟩
    have ne : PyData.eqv (.list ds) (.list []) = false := by
      rw [G.eq, eqv_rows]
      have : rs.length = ds.length := by rw [G.eq, List.length_map]
      cases rs with
      | nil => simp at this; omega
      | cons _ _ => rfl
    rw [ne]
    refine iteF ⟨_, rfl, rfl, _, rfl, ite2 (fun ew => ?_) (fun ew => ?_)⟩
    · refine ⟨len_show (Nat.le_of_ble_eq_true rfl), fun m1 nm1 => ?_⟩
      have sm1 : Same H3 (L2.upd H3 m1 (.lst [])) := same_new nm1
      have em1 : L2.upd H3 m1 (.lst []) m1 = some (.lst []) := upd_same
      generalize L2.upd H3 m1 (.lst []) = G1 at sm1 em1 ⊢
      refine ⟨len_show (Nat.le_of_ble_eq_true rfl), fun m2 nm2 => ?_⟩
      have sm2 : Same G1 (L2.upd G1 m2 (.tup [])) := same_new nm2
      have em2 : L2.upd G1 m2 (.tup []) m2 = some (.tup []) := upd_same
      generalize L2.upd G1 m2 (.tup []) = G2 at sm2 em2 ⊢
      refine fun m3 nm3 => ?_
      have sm3 : Same G2 (L2.upd G2 m3 (.dK [])) := same_new nm3
      have em3 : L2.upd G2 m3 (.dK []) m3 = some (.dK []) := upd_same
      generalize L2.upd G2 m3 (.dK []) = G3 at sm3 em3 ⊢
      refine fun m4 nm4 => ?_
      refine ⟨len_show (Nat.le_of_ble_eq_true rfl), fun m5 nm5 => ?_⟩
      have qm5 : m4 ≠ m5 := fun z => by rw [← z, upd_same] at nm5; cases nm5
      refine ⟨(by rw [upd_ne qm5]; exact upd_same), [(Sum.inr (Str.ofString "a"), .ref m5)], rfl, by show 1 ≤ 15; decide, ?_⟩
      have sm4 : Same G3 (L2.upd (L2.upd (L2.upd G3 m4 (.dK [])) m5 (.tup [.int 1, .int 1])) m4 (.dK (mergeK [] [(Sum.inr (Str.ofString "a"), .ref m5)]))) := fun b o e => by
        have n1 := ne_of_none e nm4
        have n2 : b ≠ m5 := fun z => by rw [z] at e; rw [upd_ne (fun y => qm5 y.symm)] at nm5; rw [e] at nm5; cases nm5
        rw [upd_ne n1, upd_ne n2, upd_ne n1]
        exact e
      have em5 : (L2.upd (L2.upd (L2.upd G3 m4 (.dK [])) m5 (.tup [.int 1, .int 1])) m4 (.dK (mergeK [] [(Sum.inr (Str.ofString "a"), .ref m5)]))) m5 = some (.tup [.int 1, .int 1]) := by rw [upd_ne (fun y => qm5 y.symm)]; exact upd_same
      have em4 : (L2.upd (L2.upd (L2.upd G3 m4 (.dK [])) m5 (.tup [.int 1, .int 1])) m4 (.dK (mergeK [] [(Sum.inr (Str.ofString "a"), .ref m5)]))) m4 = some (.dK [(Sum.inr (Str.ofString "a"), .ref m5)]) := by rw [upd_same]; rfl
      have n0m5 : G3 m5 = none := by rw [upd_ne (fun y => qm5 y.symm)] at nm5; exact nm5
      generalize L2.upd (L2.upd (L2.upd G3 m4 (.dK [])) m5 (.tup [.int 1, .int 1])) m4 (.dK (mergeK [] [(Sum.inr (Str.ofString "a"), .ref m5)])) = G5 at sm4 em4 em5 ⊢
      refine ⟨len_show (Nat.le_of_ble_eq_true rfl), fun m6 nm6 => ?_⟩
      have sm6 : Same G5 (L2.upd G5 m6 (.tup [.int 1, .int 1])) := same_new nm6
      have em6 : L2.upd G5 m6 (.tup [.int 1, .int 1]) m6 = some (.tup [.int 1, .int 1]) := upd_same
      generalize L2.upd G5 m6 (.tup [.int 1, .int 1]) = G6 at sm6 em6 ⊢
      refine ⟨len_show (Nat.le_of_ble_eq_true rfl), fun m7 nm7 => ?_⟩
      have sm7 : Same G6 (L2.upd G6 m7 (.tup [.str (Str.ofString "ab"), .ref m6])) := same_new nm7
      have em7 : L2.upd G6 m7 (.tup [.str (Str.ofString "ab"), .ref m6]) m7 = some (.tup [.str (Str.ofString "ab"), .ref m6]) := upd_same
      generalize L2.upd G6 m7 (.tup [.str (Str.ofString "ab"), .ref m6]) = G7 at sm7 em7 ⊢
      refine ⟨len_show (Nat.le_of_ble_eq_true rfl), fun m8 nm8 => ?_⟩
      have sm8 : Same G7 (L2.upd G7 m8 (.tup [.int 1, .int 1])) := same_new nm8
      have em8 : L2.upd G7 m8 (.tup [.int 1, .int 1]) m8 = some (.tup [.int 1, .int 1]) := upd_same
      generalize L2.upd G7 m8 (.tup [.int 1, .int 1]) = G8 at sm8 em8 ⊢
      refine ⟨len_show (Nat.le_of_ble_eq_true rfl), fun m9 nm9 => ?_⟩
      have sm9 : Same G8 (L2.upd G8 m9 (.tup [.str (Str.ofString "ab"), .ref m8])) := same_new nm9
      have em9 : L2.upd G8 m9 (.tup [.str (Str.ofString "ab"), .ref m8]) m9 = some (.tup [.str (Str.ofString "ab"), .ref m8]) := upd_same
      generalize L2.upd G8 m9 (.tup [.str (Str.ofString "ab"), .ref m8]) = G9 at sm9 em9 ⊢
      refine ⟨len_show (Nat.le_of_ble_eq_true rfl), fun m10 nm10 => ?_⟩
      have sm10 : Same G9 (L2.upd G9 m10 (.lst [.ref m9])) := same_new nm10
      have em10 : L2.upd G9 m10 (.lst [.ref m9]) m10 = some (.lst [.ref m9]) := upd_same
      generalize L2.upd G9 m10 (.lst [.ref m9]) = G10 at sm10 em10 ⊢
      refine ⟨m10, 2, _, rfl, rfl, em10, by decide, by decide, by rw [sizeLine_eq]; exact Nat.le_of_ble_eq_true rfl, fun m11 nm11 => ?_⟩
      have sm11 : Same G10 (L2.upd G10 m11 (.lst (List.replicate (2 : Int).toNat [.ref m9]).flatten)) := same_new nm11
      have em11 : L2.upd G10 m11 (.lst (List.replicate (2 : Int).toNat [.ref m9]).flatten) m11 = some (.lst (List.replicate (2 : Int).toNat [.ref m9]).flatten) := upd_same
      generalize L2.upd G10 m11 (.lst (List.replicate (2 : Int).toNat [.ref m9]).flatten) = G11 at sm11 em11 ⊢
      refine ⟨len_show (Nat.le_of_ble_eq_true rfl), fun m12 nm12 => ?_⟩
      have sm12 : Same G11 (L2.upd G11 m12 (.lst [])) := same_new nm12
      have em12 : L2.upd G11 m12 (.lst []) m12 = some (.lst []) := upd_same
      generalize L2.upd G11 m12 (.lst []) = G12 at sm12 em12 ⊢
      refine ⟨len_show (Nat.le_of_ble_eq_true rfl), fun m13 nm13 => ?_⟩
      have sm13 : Same G12 (L2.upd G12 m13 (.lst [.ref m12])) := same_new nm13
      have em13 : L2.upd G12 m13 (.lst [.ref m12]) m13 = some (.lst [.ref m12]) := upd_same
      generalize L2.upd G12 m13 (.lst [.ref m12]) = G13 at sm13 em13 ⊢
      refine ⟨len_show (Nat.le_of_ble_eq_true rfl), fun m14 nm14 => ?_⟩
      have sm14 : Same G13 (L2.upd G13 m14 (.lst [.non, .ref m1, .ref m2, .str (Str.ofString ""), .str (Str.ofString "ab"), .int 7, .bl true, .ref m3, .ref m4, .ref m7, .ref m11, .ref m13])) := same_new nm14
      have em14 : L2.upd G13 m14 (.lst [.non, .ref m1, .ref m2, .str (Str.ofString ""), .str (Str.ofString "ab"), .int 7, .bl true, .ref m3, .ref m4, .ref m7, .ref m11, .ref m13]) m14 = some (.lst [.non, .ref m1, .ref m2, .str (Str.ofString ""), .str (Str.ofString "ab"), .int 7, .bl true, .ref m3, .ref m4, .ref m7, .ref m11, .ref m13]) := upd_same
      generalize L2.upd G13 m14 (.lst [.non, .ref m1, .ref m2, .str (Str.ofString ""), .str (Str.ofString "ab"), .int 7, .bl true, .ref m3, .ref m4, .ref m7, .ref m11, .ref m13]) = G14 at sm14 em14 ⊢
      have nqm1 : m1 ≠ q := pot_ne P3 nm1
      have fm1 : G14 m1 = some (.lst []) := (sm14 _ _ (sm13 _ _ (sm12 _ _ (sm11 _ _ (sm10 _ _ (sm9 _ _ (sm8 _ _ (sm7 _ _ (sm6 _ _ (sm4 _ _ (sm3 _ _ (sm2 _ _ em1))))))))))))
      have nqm2 : m2 ≠ q := pot_ne (pot_same P3 sm1) nm2
      have fm2 : G14 m2 = some (.tup []) := (sm14 _ _ (sm13 _ _ (sm12 _ _ (sm11 _ _ (sm10 _ _ (sm9 _ _ (sm8 _ _ (sm7 _ _ (sm6 _ _ (sm4 _ _ (sm3 _ _ em2)))))))))))
      have nqm3 : m3 ≠ q := pot_ne (pot_same P3 (sm1.trans sm2)) nm3
      have fm3 : G14 m3 = some (.dK []) := (sm14 _ _ (sm13 _ _ (sm12 _ _ (sm11 _ _ (sm10 _ _ (sm9 _ _ (sm8 _ _ (sm7 _ _ (sm6 _ _ (sm4 _ _ em3))))))))))
      have nqm4 : m4 ≠ q := pot_ne (pot_same P3 ((sm1.trans sm2).trans sm3)) nm4
      have fm4 : G14 m4 = some (.dK [(Sum.inr (Str.ofString "a"), .ref m5)]) := (sm14 _ _ (sm13 _ _ (sm12 _ _ (sm11 _ _ (sm10 _ _ (sm9 _ _ (sm8 _ _ (sm7 _ _ (sm6 _ _ em4)))))))))
      have nqm5 : m5 ≠ q := pot_ne (pot_same P3 ((sm1.trans sm2).trans sm3)) n0m5
      have fm5 : G14 m5 = some (.tup [.int 1, .int 1]) := (sm14 _ _ (sm13 _ _ (sm12 _ _ (sm11 _ _ (sm10 _ _ (sm9 _ _ (sm8 _ _ (sm7 _ _ (sm6 _ _ em5)))))))))
      have nqm6 : m6 ≠ q := pot_ne (pot_same P3 (((sm1.trans sm2).trans sm3).trans sm4)) nm6
      have fm6 : G14 m6 = some (.tup [.int 1, .int 1]) := (sm14 _ _ (sm13 _ _ (sm12 _ _ (sm11 _ _ (sm10 _ _ (sm9 _ _ (sm8 _ _ (sm7 _ _ em6))))))))
      have nqm7 : m7 ≠ q := pot_ne (pot_same P3 ((((sm1.trans sm2).trans sm3).trans sm4).trans sm6)) nm7
      have fm7 : G14 m7 = some (.tup [.str (Str.ofString "ab"), .ref m6]) := (sm14 _ _ (sm13 _ _ (sm12 _ _ (sm11 _ _ (sm10 _ _ (sm9 _ _ (sm8 _ _ em7)))))))
      have nqm8 : m8 ≠ q := pot_ne (pot_same P3 (((((sm1.trans sm2).trans sm3).trans sm4).trans sm6).trans sm7)) nm8
      have fm8 : G14 m8 = some (.tup [.int 1, .int 1]) := (sm14 _ _ (sm13 _ _ (sm12 _ _ (sm11 _ _ (sm10 _ _ (sm9 _ _ em8))))))
      have nqm9 : m9 ≠ q := pot_ne (pot_same P3 ((((((sm1.trans sm2).trans sm3).trans sm4).trans sm6).trans sm7).trans sm8)) nm9
      have fm9 : G14 m9 = some (.tup [.str (Str.ofString "ab"), .ref m8]) := (sm14 _ _ (sm13 _ _ (sm12 _ _ (sm11 _ _ (sm10 _ _ em9)))))
      have nqm10 : m10 ≠ q := pot_ne (pot_same P3 (((((((sm1.trans sm2).trans sm3).trans sm4).trans sm6).trans sm7).trans sm8).trans sm9)) nm10
      have fm10 : G14 m10 = some (.lst [.ref m9]) := (sm14 _ _ (sm13 _ _ (sm12 _ _ (sm11 _ _ em10))))
      have nqm11 : m11 ≠ q := pot_ne (pot_same P3 ((((((((sm1.trans sm2).trans sm3).trans sm4).trans sm6).trans sm7).trans sm8).trans sm9).trans sm10)) nm11
      have fm11 : G14 m11 = some (.lst (List.replicate (2 : Int).toNat [.ref m9]).flatten) := (sm14 _ _ (sm13 _ _ (sm12 _ _ em11)))
      have nqm12 : m12 ≠ q := pot_ne (pot_same P3 (((((((((sm1.trans sm2).trans sm3).trans sm4).trans sm6).trans sm7).trans sm8).trans sm9).trans sm10).trans sm11)) nm12
      have fm12 : G14 m12 = some (.lst []) := (sm14 _ _ (sm13 _ _ em12))
      have nqm13 : m13 ≠ q := pot_ne (pot_same P3 ((((((((((sm1.trans sm2).trans sm3).trans sm4).trans sm6).trans sm7).trans sm8).trans sm9).trans sm10).trans sm11).trans sm12)) nm13
      have fm13 : G14 m13 = some (.lst [.ref m12]) := (sm14 _ _ em13)
      have nqm14 : m14 ≠ q := pot_ne (pot_same P3 (((((((((((sm1.trans sm2).trans sm3).trans sm4).trans sm6).trans sm7).trans sm8).trans sm9).trans sm10).trans sm11).trans sm12).trans sm13)) nm14
      have fm14 : G14 m14 = some (.lst [.non, .ref m1, .ref m2, .str (Str.ofString ""), .str (Str.ofString "ab"), .int 7, .bl true, .ref m3, .ref m4, .ref m7, .ref m11, .ref m13]) := em14
      have PG := pot_same P3 ((((((((((((sm1.trans sm2).trans sm3).trans sm4).trans sm6).trans sm7).trans sm8).trans sm9).trans sm10).trans sm11).trans sm12).trans sm13).trans sm14)
      have bG : But q H G14 := fun b o n e => ((((((((((((sm1.trans sm2).trans sm3).trans sm4).trans sm6).trans sm7).trans sm8).trans sm9).trans sm10).trans sm11).trans sm12).trans sm13).trans sm14) _ _ (b03 _ _ n e)
      generalize G14 = HG at fm1 fm2 fm3 fm4 fm5 fm6 fm7 fm8 fm9 fm10 fm11 fm12 fm13 fm14 PG bG ⊢
      refine ⟨_, rfl, _, rfl, q, 12, rfl, by decide, by decide, PG, fun c K2 c0_ c1_ P2 b2 => ?_⟩
      obtain ⟨cn, rfl⟩ : ∃ cn : Nat, c = (cn : Int) := ⟨c.toNat, by omega⟩
      have hall : DgAll K (wo q K2) [.non, .ref m1, .ref m2, .str (Str.ofString ""), .str (Str.ofString "ab"), .int 7, .bl true, .ref m3, .ref m4, .ref m7, .ref m11, .ref m13] [.none, .list [], .tuple [], .str (Str.ofString ""), .str (Str.ofString "ab"), .int 7, .bool true, .dict [], .dict [(kD (Sum.inr (Str.ofString "a")), .tuple [.int 1, .int 1])], .tuple [.str (Str.ofString "ab"), .tuple [.int 1, .int 1]], .list [.tuple [.str (Str.ofString "ab"), .tuple [.int 1, .int 1]], .tuple [.str (Str.ofString "ab"), .tuple [.int 1, .int 1]]], .list [.list []]] := ((.cons (.non) (.cons (.lst (.inl (.inl (wo_at nqm1 (b2 _ _ nqm1 fm1)))) .nil) (.cons (.tup (.inl (.inl (wo_at nqm2 (b2 _ _ nqm2 fm2)))) .nil) (.cons (.str _) (.cons (.str _) (.cons (.int _) (.cons (.bl _) (.cons (.dk (wo_at nqm3 (b2 _ _ nqm3 fm3)) .nil) (.cons (.dk (wo_at nqm4 (b2 _ _ nqm4 fm4)) (.cons (.tup (.inl (.inl (wo_at nqm5 (b2 _ _ nqm5 fm5)))) (.cons (.int _) (.cons (.int _) .nil))) .nil)) (.cons (.tup (.inl (.inl (wo_at nqm7 (b2 _ _ nqm7 fm7)))) (.cons (.str _) (.cons (.tup (.inl (.inl (wo_at nqm6 (b2 _ _ nqm6 fm6)))) (.cons (.int _) (.cons (.int _) .nil))) .nil))) (.cons (.lst (.inl (.inl (wo_at nqm11 (b2 _ _ nqm11 fm11)))) (.cons (.tup (.inl (.inl (wo_at nqm9 (b2 _ _ nqm9 fm9)))) (.cons (.str _) (.cons (.tup (.inl (.inl (wo_at nqm8 (b2 _ _ nqm8 fm8)))) (.cons (.int _) (.cons (.int _) .nil))) .nil))) (.cons (.tup (.inl (.inl (wo_at nqm9 (b2 _ _ nqm9 fm9)))) (.cons (.str _) (.cons (.tup (.inl (.inl (wo_at nqm8 (b2 _ _ nqm8 fm8)))) (.cons (.int _) (.cons (.int _) .nil))) .nil))) .nil))) (.cons (.lst (.inl (.inl (wo_at nqm13 (b2 _ _ nqm13 fm13)))) (.cons (.lst (.inl (.inl (wo_at nqm12 (b2 _ _ nqm12 fm12)))) .nil) .nil)) .nil)))))))))))))
      have hc12 : cn < 12 := by omega
      obtain ⟨v', hv'⟩ : ∃ v', ([.non, .ref m1, .ref m2, .str (Str.ofString ""), .str (Str.ofString "ab"), .int 7, .bl true, .ref m3, .ref m4, .ref m7, .ref m11, .ref m13] : List V)[cn]? = some v' := ⟨_, List.getElem?_eq_getElem (by show cn < 12; omega)⟩
      obtain ⟨d, hd, hq⟩ := hall.get hv'
      refine ⟨m14, _, _, _, rfl, rfl, .inl (.inl (b2 _ _ nqm14 fm14)), atI_nat (j := cn) hv', ?_⟩
      have rd : RowsD d := by
        clear hall hq hv'
        match cn, hc12, hd with
        | 0, _, hd => cases hd; exact .inr ⟨rfl, rfl, Ft.none.fg.le (by decide) (by decide)⟩
        | 1, _, hd => cases hd; exact .inl ⟨[], .inl rfl, by decide, fun e h => nomatch h⟩
        | 2, _, hd => cases hd; exact .inl ⟨[], .inr rfl, by decide, fun e h => nomatch h⟩
        | 3, _, hd => cases hd; exact .inr ⟨rfl, rfl, (gd_good (by decide +kernel)).fg⟩
        | 4, _, hd => cases hd; exact .inr ⟨rfl, rfl, (gd_good (by decide +kernel)).fg⟩
        | 5, _, hd => cases hd; exact .inr ⟨rfl, rfl, (gd_good (by decide +kernel)).fg⟩
        | 6, _, hd => cases hd; exact .inr ⟨rfl, rfl, (gd_good (by decide +kernel)).fg⟩
        | 7, _, hd => cases hd; exact .inr ⟨rfl, rfl, (gd_good (by decide +kernel)).fg⟩
        | 8, _, hd => cases hd; exact .inr ⟨rfl, rfl, (gd_good (by decide +kernel)).fg⟩
        | 9, _, hd => cases hd; exact .inl ⟨_, .inr rfl, by decide, gr2 (gr_of (gd_good (d := .str (Str.ofString "ab")) (by decide +kernel)).fg) gr11⟩
        | 10, _, hd => cases hd; exact .inl ⟨_, .inl rfl, by decide, gr2 grab grab⟩
        | 11, _, hd => cases hd; exact .inl ⟨_, .inl rfl, by decide, fun e h => by rw [List.mem_singleton.mp h]; exact gr_of (Fg.list .nil)⟩
        | m + 12, h, _ => exact absurd h (by omega)
      exact k v' d K2 hq rd P2 fun b o n e => b2 _ _ n (bG _ _ n e)
    have lenb : ((xs.length : Nat) : Int).natAbs < 2 ^ 900 := Nat.lt_of_lt_of_le (show ((xs.length : Nat) : Int).natAbs < 2 ^ 4 by omega) (Nat.pow_le_pow_right (by decide) (by decide))
    refine ⟨_, rfl, _, rfl, ow, xs, rfl, .inl (.inl (.inl eow3)), q, _, rfl, by omega, lenb, P3, fun at_ H4 a0 a1 P4 b4 => ?_⟩
    obtain ⟨an, rfl⟩ : ∃ an : Nat, at_ = (an : Int) := ⟨at_.toNat, by omega⟩
    have han : an < xs.length := by omega
    have eow4 : H4 ow = some (.lst xs) := b4 _ _ nqo eow3
    have b04 : But q H H4 := fun b o n e => b4 _ _ n (b03 _ _ n e)
    obtain ⟨va, hat⟩ : ∃ va, xs[an]? = some va := ⟨_, List.getElem?_eq_getElem han⟩
    obtain ⟨e, hde, hdg⟩ := hA.get hat
    obtain ⟨z, p, GRw⟩ := G.row hde
    have hdg4 : Dg K (wo q H4) va e := hdg.same (wo_but b04)
    have P5of : ∀ {G1 : Hp}, Same H4 G1 → Pot G1 q := fun s => pot_same P4 s
    obtain ⟨ra, x0, vp, hva, hSr, hgx, hgp⟩ : ∃ ra x0 vp, va = .ref ra ∧ SqT K (wo q H4) ra [x0, vp] ∧ Dg K (wo q H4) x0 (.str z) ∧ Dg K (wo q H4) vp p := by
      have h := hdg4
      rw [GRw.eq] at h
      exact h.pair
    subst hva
    obtain rfl := hgx.str_
    obtain ⟨gz, ez⟩ := GRw.fz
    have gp := GRw.fp
    refine ⟨_, rfl, rfl, _, rfl, ite2 (fun _ => ?_) (fun _ => ?_)⟩
    · refine ⟨_, rfl, _, rfl, _, rfl, ow, _, rfl, .inl (.inl eow4), fun l1' nl1 => ?_⟩
      rw [cutTo (k := an) rfl]
      have sl1 : Same H4 (L2.upd H4 l1' (.lst (xs.take an))) := same_new nl1
      have el1 : L2.upd H4 l1' (.lst (xs.take an)) l1' = some (.lst (xs.take an)) := upd_same
      generalize L2.upd H4 l1' (.lst (xs.take an)) = I1 at sl1 el1 ⊢
      have P41 := pot_same P4 sl1
      have nq1 : l1' ≠ q := pot_ne P4 nl1
      have ow1 := sl1 _ _ eow4
      refine ⟨_, rfl, _, rfl, _, rfl, ow, _, _, _, rfl, rfl, .inl (.inl ow1), atI_nat (j := an) hat, q, _, e, p, z, rfl, P41, hdg4.same (wo_wo sl1), GRw, fun v' d' K1 hv0 gr' Pk bk => ?_⟩
      refine ⟨len_show (Nat.le_of_ble_eq_true rfl), fun l2 nl2 => ?_⟩
      have sl2 : Same K1 (L2.upd K1 l2 (.lst [v'])) := same_new nl2
      have el2 : L2.upd K1 l2 (.lst [v']) l2 = some (.lst [v']) := upd_same
      generalize L2.upd K1 l2 (.lst [v']) = I5 at sl2 el2 ⊢
      have b15 : But q I1 I5 := fun b o n e => sl2 _ _ (bk _ _ n e)
      have P5 := pot_same Pk sl2
      have hv' : Dg K (wo q I5) v' d' := hv0.same (wo_wo sl2)
      have fl1 : I5 l1' = some (.lst (xs.take an)) := b15 _ _ nq1 el1
      refine ⟨l1', l2, _, _, rfl, rfl, fl1, el2, by rw [sizeLine_eq]; simp only [List.length_take, List.length_drop, List.length_cons, List.length_nil, List.length_append]; omega, fun l3 nl3 => ?_⟩
      have sl3 : Same I5 (L2.upd I5 l3 (.lst (xs.take an ++ [v']))) := same_new nl3
      have el3 : L2.upd I5 l3 (.lst (xs.take an ++ [v'])) l3 = some (.lst (xs.take an ++ [v'])) := upd_same
      generalize L2.upd I5 l3 (.lst (xs.take an ++ [v'])) = I6 at sl3 el3 ⊢
      have owb : I6 ow = some (.lst xs) := sl3 _ _ (b15 _ _ nqo (sl1 _ _ eow4))
      refine ⟨_, rfl, _, rfl, _, _, rfl, rfl, _, rfl, ow, _, rfl, .inl (.inl owb), fun l4 nl4 => ?_⟩
      rw [cutFrom (k := an + 1) (by push_cast; rfl)]
      have sl4 : Same I6 (L2.upd I6 l4 (.lst (xs.drop (an + 1)))) := same_new nl4
      have el4 : L2.upd I6 l4 (.lst (xs.drop (an + 1))) l4 = some (.lst (xs.drop (an + 1))) := upd_same
      generalize L2.upd I6 l4 (.lst (xs.drop (an + 1))) = I7 at sl4 el4 ⊢
      refine ⟨l3, l4, _, _, rfl, rfl, sl4 _ _ el3, el4, by rw [sizeLine_eq]; simp only [List.length_take, List.length_drop, List.length_cons, List.length_nil, List.length_append]; omega, fun l5 nl5 => ?_⟩
      have sl5 : Same I7 (L2.upd I7 l5 (.lst (xs.take an ++ [v'] ++ xs.drop (an + 1)))) := same_new nl5
      have el5 : L2.upd I7 l5 (.lst (xs.take an ++ [v'] ++ xs.drop (an + 1))) l5 = some (.lst (xs.take an ++ [v'] ++ xs.drop (an + 1))) := upd_same
      generalize L2.upd I7 l5 (.lst (xs.take an ++ [v'] ++ xs.drop (an + 1))) = I8 at sl5 el5 ⊢
      have P8 := pot_same P5 ((sl3.trans sl4).trans sl5)
      have nq5 : l5 ≠ q := pot_ne (pot_same P5 (sl3.trans sl4)) nl5
      have b08 : But q H I8 := fun b o n e => sl5 _ _ (sl4 _ _ (sl3 _ _ (b15 _ _ n (sl1 _ _ (b04 _ _ n e)))))
      have w58 : Same (wo q I5) (wo q I8) := wo_wo ((sl3.trans sl4).trans sl5)
      have hA8 : DgAll K (wo q I8) xs ds := DgAll.same (wo_but b08) hA
      have hall : DgAll K (wo q I8) (xs.take an ++ [v'] ++ xs.drop (an + 1)) (ds.take an ++ [d'] ++ ds.drop (an + 1)) := DgAll.app (DgAll.app (DgAll.take an hA8) (.cons (hv'.same w58) .nil)) (DgAll.drop (an + 1) hA8)
      have rgd : ∀ e ∈ ds.take an ++ [d'] ++ ds.drop (an + 1), GR e := fun e he => by
        rcases List.mem_append.mp he with he | he
        · rcases List.mem_append.mp he with he | he
          · exact G.gr e (List.mem_of_mem_take he)
          · rw [List.mem_singleton.mp he]; exact gr'
        · exact G.gr e (List.mem_of_mem_drop he)
      have rln : (ds.take an ++ [d'] ++ ds.drop (an + 1)).length ≤ 9 := by
        have := G.l8
        rw [List.length_append, List.length_append, List.length_take, List.length_drop, List.length_cons, List.length_nil]
        omega
      exact k (.ref l5) (.list (ds.take an ++ [d'] ++ ds.drop (an + 1))) I8 (.lst (.inl (.inl (wo_at nq5 el5))) hall) (.inl ⟨_, .inl rfl, rln, rgd⟩) P8 b08
    refine ⟨_, rfl, rfl, _, rfl, ite2 (fun _ => ?_) (fun _ => ?_)⟩
    · refine ⟨_, rfl, _, rfl, _, rfl, ow, _, rfl, .inl (.inl eow4), fun l1' nl1 => ?_⟩
      rw [cutTo (k := an) rfl]
      have sl1 : Same H4 (L2.upd H4 l1' (.lst (xs.take an))) := same_new nl1
      have el1 : L2.upd H4 l1' (.lst (xs.take an)) l1' = some (.lst (xs.take an)) := upd_same
      generalize L2.upd H4 l1' (.lst (xs.take an)) = I1 at sl1 el1 ⊢
      have P41 := pot_same P4 sl1
      have nq1 : l1' ≠ q := pot_ne P4 nl1
      have ow1 := sl1 _ _ eow4
      refine ⟨_, rfl, _, rfl, ow, _, _, _, rfl, rfl, .inl (.inl ow1), atI_nat (j := an) hat, ra, _, _, _, rfl, rfl, sm_t (wo_le.trans sl1) hSr, atI_nat (j := 0) rfl, _, rfl, q, rfl, P41, fun vo do_ K1 hv0 gd0 Pk bk => ?_⟩
      refine ⟨len_show (Nat.le_of_ble_eq_true rfl), fun tp ntp => ?_⟩
      have stp : Same K1 (L2.upd K1 tp (.tup [.str z, vo])) := same_new ntp
      have etp : L2.upd K1 tp (.tup [.str z, vo]) tp = some (.tup [.str z, vo]) := upd_same
      generalize L2.upd K1 tp (.tup [.str z, vo]) = K3 at stp etp ⊢
      refine ⟨len_show (Nat.le_of_ble_eq_true rfl), fun l2 nl2 => ?_⟩
      have sl2 : Same K3 (L2.upd K3 l2 (.lst [.ref tp])) := same_new nl2
      have el2 : L2.upd K3 l2 (.lst [.ref tp]) l2 = some (.lst [.ref tp]) := upd_same
      generalize L2.upd K3 l2 (.lst [.ref tp]) = I5 at sl2 el2 ⊢
      have b15 : But q I1 I5 := fun b o n e => sl2 _ _ (stp _ _ (bk _ _ n e))
      have Pk2 := pot_same Pk stp
      have P5 := pot_same Pk2 sl2
      have nqt : tp ≠ q := pot_ne Pk ntp
      obtain ⟨v', hv'e⟩ : ∃ v', v' = V.ref tp := ⟨_, rfl⟩
      obtain ⟨d', hd'e⟩ : ∃ d', d' = PyData.tuple [.str z, do_] := ⟨_, rfl⟩
      rw [← hv'e] at el2
      have hv' : Dg K (wo q I5) v' d' := by rw [hv'e, hd'e]; exact .tup (.inl (.inl (wo_at nqt (sl2 _ _ etp)))) (.cons (.str z) (.cons (hv0.same (wo_wo (stp.trans sl2))) .nil))
      have gr' : GR d' := by rw [hd'e]; exact gr_of (Fg.tuple (.cons gz (.cons gd0.fg .nil))) (h := rwg2 ez gd0.el)
      have fl1 : I5 l1' = some (.lst (xs.take an)) := b15 _ _ nq1 el1
      refine ⟨l1', l2, _, _, rfl, rfl, fl1, el2, by rw [sizeLine_eq]; simp only [List.length_take, List.length_drop, List.length_cons, List.length_nil, List.length_append]; omega, fun l3 nl3 => ?_⟩
      have sl3 : Same I5 (L2.upd I5 l3 (.lst (xs.take an ++ [v']))) := same_new nl3
      have el3 : L2.upd I5 l3 (.lst (xs.take an ++ [v'])) l3 = some (.lst (xs.take an ++ [v'])) := upd_same
      generalize L2.upd I5 l3 (.lst (xs.take an ++ [v'])) = I6 at sl3 el3 ⊢
      have owb : I6 ow = some (.lst xs) := sl3 _ _ (b15 _ _ nqo (sl1 _ _ eow4))
      refine ⟨_, rfl, _, rfl, _, _, rfl, rfl, _, rfl, ow, _, rfl, .inl (.inl owb), fun l4 nl4 => ?_⟩
      rw [cutFrom (k := an + 1) (by push_cast; rfl)]
      have sl4 : Same I6 (L2.upd I6 l4 (.lst (xs.drop (an + 1)))) := same_new nl4
      have el4 : L2.upd I6 l4 (.lst (xs.drop (an + 1))) l4 = some (.lst (xs.drop (an + 1))) := upd_same
      generalize L2.upd I6 l4 (.lst (xs.drop (an + 1))) = I7 at sl4 el4 ⊢
      refine ⟨l3, l4, _, _, rfl, rfl, sl4 _ _ el3, el4, by rw [sizeLine_eq]; simp only [List.length_take, List.length_drop, List.length_cons, List.length_nil, List.length_append]; omega, fun l5 nl5 => ?_⟩
      have sl5 : Same I7 (L2.upd I7 l5 (.lst (xs.take an ++ [v'] ++ xs.drop (an + 1)))) := same_new nl5
      have el5 : L2.upd I7 l5 (.lst (xs.take an ++ [v'] ++ xs.drop (an + 1))) l5 = some (.lst (xs.take an ++ [v'] ++ xs.drop (an + 1))) := upd_same
      generalize L2.upd I7 l5 (.lst (xs.take an ++ [v'] ++ xs.drop (an + 1))) = I8 at sl5 el5 ⊢
      have P8 := pot_same P5 ((sl3.trans sl4).trans sl5)
      have nq5 : l5 ≠ q := pot_ne (pot_same P5 (sl3.trans sl4)) nl5
      have b08 : But q H I8 := fun b o n e => sl5 _ _ (sl4 _ _ (sl3 _ _ (b15 _ _ n (sl1 _ _ (b04 _ _ n e)))))
      have w58 : Same (wo q I5) (wo q I8) := wo_wo ((sl3.trans sl4).trans sl5)
      have hA8 : DgAll K (wo q I8) xs ds := DgAll.same (wo_but b08) hA
      have hall : DgAll K (wo q I8) (xs.take an ++ [v'] ++ xs.drop (an + 1)) (ds.take an ++ [d'] ++ ds.drop (an + 1)) := DgAll.app (DgAll.app (DgAll.take an hA8) (.cons (hv'.same w58) .nil)) (DgAll.drop (an + 1) hA8)
      have rgd : ∀ e ∈ ds.take an ++ [d'] ++ ds.drop (an + 1), GR e := fun e he => by
        rcases List.mem_append.mp he with he | he
        · rcases List.mem_append.mp he with he | he
          · exact G.gr e (List.mem_of_mem_take he)
          · rw [List.mem_singleton.mp he]; exact gr'
        · exact G.gr e (List.mem_of_mem_drop he)
      have rln : (ds.take an ++ [d'] ++ ds.drop (an + 1)).length ≤ 9 := by
        have := G.l8
        rw [List.length_append, List.length_append, List.length_take, List.length_drop, List.length_cons, List.length_nil]
        omega
      exact k (.ref l5) (.list (ds.take an ++ [d'] ++ ds.drop (an + 1))) I8 (.lst (.inl (.inl (wo_at nq5 el5))) hall) (.inl ⟨_, .inl rfl, rln, rgd⟩) P8 b08
    refine ⟨_, rfl, rfl, _, rfl, ite2 (fun _ => ?_) (fun _ => ?_)⟩
    · refine ⟨_, rfl, _, rfl, _, rfl, ow, _, rfl, .inl (.inl eow4), fun l1' nl1 => ?_⟩
      rw [cutTo (k := an) rfl]
      have sl1 : Same H4 (L2.upd H4 l1' (.lst (xs.take an))) := same_new nl1
      have el1 : L2.upd H4 l1' (.lst (xs.take an)) l1' = some (.lst (xs.take an)) := upd_same
      generalize L2.upd H4 l1' (.lst (xs.take an)) = I1 at sl1 el1 ⊢
      have P41 := pot_same P4 sl1
      have nq1 : l1' ≠ q := pot_ne P4 nl1
      refine ⟨_, rfl, q, rfl, P41, fun vo do_ K1 hv0 gd0 Pk bk => ?_⟩
      have b1k : But q H4 K1 := fun b o n e => bk _ _ n (sl1 _ _ e)
      have owk := b1k _ _ nqo eow4
      have hSk : SqT K K1 ra [.str z, vp] := sm_t ((wo_but b1k).trans wo_le) hSr
      refine ⟨_, rfl, _, rfl, ow, _, _, _, rfl, rfl, .inl (.inl owk), atI_nat (j := an) hat, ra, _, _, _, rfl, rfl, hSk, atI_nat (j := 1) rfl, ?_⟩
      refine ⟨len_show (Nat.le_of_ble_eq_true rfl), fun tp ntp => ?_⟩
      have stp : Same K1 (L2.upd K1 tp (.tup [vo, vp])) := same_new ntp
      have etp : L2.upd K1 tp (.tup [vo, vp]) tp = some (.tup [vo, vp]) := upd_same
      generalize L2.upd K1 tp (.tup [vo, vp]) = K3 at stp etp ⊢
      refine ⟨len_show (Nat.le_of_ble_eq_true rfl), fun l2 nl2 => ?_⟩
      have sl2 : Same K3 (L2.upd K3 l2 (.lst [.ref tp])) := same_new nl2
      have el2 : L2.upd K3 l2 (.lst [.ref tp]) l2 = some (.lst [.ref tp]) := upd_same
      generalize L2.upd K3 l2 (.lst [.ref tp]) = I5 at sl2 el2 ⊢
      have b15 : But q I1 I5 := fun b o n e => sl2 _ _ (stp _ _ (bk _ _ n e))
      have Pk2 := pot_same Pk stp
      have P5 := pot_same Pk2 sl2
      have nqt : tp ≠ q := pot_ne Pk ntp
      obtain ⟨v', hv'e⟩ : ∃ v', v' = V.ref tp := ⟨_, rfl⟩
      obtain ⟨d', hd'e⟩ : ∃ d', d' = PyData.tuple [do_, p] := ⟨_, rfl⟩
      rw [← hv'e] at el2
      have hv' : Dg K (wo q I5) v' d' := by rw [hv'e, hd'e]; exact .tup (.inl (.inl (wo_at nqt (sl2 _ _ etp)))) (.cons (hv0.same (wo_wo (stp.trans sl2))) (.cons (hgp.same ((wo_but b1k).trans (wo_wo (stp.trans sl2)))) .nil))
      have gr' : GR d' := by rw [hd'e]; exact gr_of (Fg.tuple (.cons gd0.fg (.cons gp .nil))) (h := rwg2 gd0.el GRw.el)
      have fl1 : I5 l1' = some (.lst (xs.take an)) := b15 _ _ nq1 el1
      refine ⟨l1', l2, _, _, rfl, rfl, fl1, el2, by rw [sizeLine_eq]; simp only [List.length_take, List.length_drop, List.length_cons, List.length_nil, List.length_append]; omega, fun l3 nl3 => ?_⟩
      have sl3 : Same I5 (L2.upd I5 l3 (.lst (xs.take an ++ [v']))) := same_new nl3
      have el3 : L2.upd I5 l3 (.lst (xs.take an ++ [v'])) l3 = some (.lst (xs.take an ++ [v'])) := upd_same
      generalize L2.upd I5 l3 (.lst (xs.take an ++ [v'])) = I6 at sl3 el3 ⊢
      have owb : I6 ow = some (.lst xs) := sl3 _ _ (b15 _ _ nqo (sl1 _ _ eow4))
      refine ⟨_, rfl, _, rfl, _, _, rfl, rfl, _, rfl, ow, _, rfl, .inl (.inl owb), fun l4 nl4 => ?_⟩
      rw [cutFrom (k := an + 1) (by push_cast; rfl)]
      have sl4 : Same I6 (L2.upd I6 l4 (.lst (xs.drop (an + 1)))) := same_new nl4
      have el4 : L2.upd I6 l4 (.lst (xs.drop (an + 1))) l4 = some (.lst (xs.drop (an + 1))) := upd_same
      generalize L2.upd I6 l4 (.lst (xs.drop (an + 1))) = I7 at sl4 el4 ⊢
      refine ⟨l3, l4, _, _, rfl, rfl, sl4 _ _ el3, el4, by rw [sizeLine_eq]; simp only [List.length_take, List.length_drop, List.length_cons, List.length_nil, List.length_append]; omega, fun l5 nl5 => ?_⟩
      have sl5 : Same I7 (L2.upd I7 l5 (.lst (xs.take an ++ [v'] ++ xs.drop (an + 1)))) := same_new nl5
      have el5 : L2.upd I7 l5 (.lst (xs.take an ++ [v'] ++ xs.drop (an + 1))) l5 = some (.lst (xs.take an ++ [v'] ++ xs.drop (an + 1))) := upd_same
      generalize L2.upd I7 l5 (.lst (xs.take an ++ [v'] ++ xs.drop (an + 1))) = I8 at sl5 el5 ⊢
      have P8 := pot_same P5 ((sl3.trans sl4).trans sl5)
      have nq5 : l5 ≠ q := pot_ne (pot_same P5 (sl3.trans sl4)) nl5
      have b08 : But q H I8 := fun b o n e => sl5 _ _ (sl4 _ _ (sl3 _ _ (b15 _ _ n (sl1 _ _ (b04 _ _ n e)))))
      have w58 : Same (wo q I5) (wo q I8) := wo_wo ((sl3.trans sl4).trans sl5)
      have hA8 : DgAll K (wo q I8) xs ds := DgAll.same (wo_but b08) hA
      have hall : DgAll K (wo q I8) (xs.take an ++ [v'] ++ xs.drop (an + 1)) (ds.take an ++ [d'] ++ ds.drop (an + 1)) := DgAll.app (DgAll.app (DgAll.take an hA8) (.cons (hv'.same w58) .nil)) (DgAll.drop (an + 1) hA8)
      have rgd : ∀ e ∈ ds.take an ++ [d'] ++ ds.drop (an + 1), GR e := fun e he => by
        rcases List.mem_append.mp he with he | he
        · rcases List.mem_append.mp he with he | he
          · exact G.gr e (List.mem_of_mem_take he)
          · rw [List.mem_singleton.mp he]; exact gr'
        · exact G.gr e (List.mem_of_mem_drop he)
      have rln : (ds.take an ++ [d'] ++ ds.drop (an + 1)).length ≤ 9 := by
        have := G.l8
        rw [List.length_append, List.length_append, List.length_take, List.length_drop, List.length_cons, List.length_nil]
        omega
      exact k (.ref l5) (.list (ds.take an ++ [d'] ++ ds.drop (an + 1))) I8 (.lst (.inl (.inl (wo_at nq5 el5))) hall) (.inl ⟨_, .inl rfl, rln, rgd⟩) P8 b08
    refine ⟨_, rfl, _, rfl, ow, _, _, _, rfl, rfl, .inl (.inl eow4), atI_nat (j := an) hat, _, rfl, _, rfl, ow, _, _, _, rfl, rfl, .inl (.inl eow4), atI_nat (j := an) hat, ra, _, _, _, rfl, rfl, sm_t (wo_le) hSr, atI_nat (j := 0) rfl, len_show (Nat.le_of_ble_eq_true rfl), fun m1 nm1 => ?_⟩
    have sm1 : Same H4 (L2.upd H4 m1 (.tup [.int 1, .int 7])) := same_new nm1
    have em1 : L2.upd H4 m1 (.tup [.int 1, .int 7]) m1 = some (.tup [.int 1, .int 7]) := upd_same
    generalize L2.upd H4 m1 (.tup [.int 1, .int 7]) = G1 at sm1 em1 ⊢
    refine ⟨len_show (Nat.le_of_ble_eq_true rfl), fun m2 nm2 => ?_⟩
    have sm2 : Same G1 (L2.upd G1 m2 (.tup [.str z, .ref m1])) := same_new nm2
    have em2 : L2.upd G1 m2 (.tup [.str z, .ref m1]) m2 = some (.tup [.str z, .ref m1]) := upd_same
    generalize L2.upd G1 m2 (.tup [.str z, .ref m1]) = G2 at sm2 em2 ⊢
    refine ⟨len_show (Nat.le_of_ble_eq_true rfl), fun m3 nm3 => ?_⟩
    have sm3 : Same G2 (L2.upd G2 m3 (.tup [.int 1, .int 1])) := same_new nm3
    have em3 : L2.upd G2 m3 (.tup [.int 1, .int 1]) m3 = some (.tup [.int 1, .int 1]) := upd_same
    generalize L2.upd G2 m3 (.tup [.int 1, .int 1]) = G3 at sm3 em3 ⊢
    refine ⟨len_show (Nat.le_of_ble_eq_true rfl), fun m4 nm4 => ?_⟩
    have sm4 : Same G3 (L2.upd G3 m4 (.tup [.str (Str.ofString "abcdefghij"), .ref m3])) := same_new nm4
    have em4 : L2.upd G3 m4 (.tup [.str (Str.ofString "abcdefghij"), .ref m3]) m4 = some (.tup [.str (Str.ofString "abcdefghij"), .ref m3]) := upd_same
    generalize L2.upd G3 m4 (.tup [.str (Str.ofString "abcdefghij"), .ref m3]) = G4 at sm4 em4 ⊢
    refine ⟨len_show (Nat.le_of_ble_eq_true rfl), fun m5 nm5 => ?_⟩
    have sm5 : Same G4 (L2.upd G4 m5 (.tup [.int 1, .int 2])) := same_new nm5
    have em5 : L2.upd G4 m5 (.tup [.int 1, .int 2]) m5 = some (.tup [.int 1, .int 2]) := upd_same
    generalize L2.upd G4 m5 (.tup [.int 1, .int 2]) = G5 at sm5 em5 ⊢
    refine ⟨len_show (Nat.le_of_ble_eq_true rfl), fun m6 nm6 => ?_⟩
    have sm6 : Same G5 (L2.upd G5 m6 (.tup [.str (Str.ofString "q"), .ref m5])) := same_new nm6
    have em6 : L2.upd G5 m6 (.tup [.str (Str.ofString "q"), .ref m5]) m6 = some (.tup [.str (Str.ofString "q"), .ref m5]) := upd_same
    generalize L2.upd G5 m6 (.tup [.str (Str.ofString "q"), .ref m5]) = G6 at sm6 em6 ⊢
    refine ⟨len_show (Nat.le_of_ble_eq_true rfl), fun m7 nm7 => ?_⟩
    have sm7 : Same G6 (L2.upd G6 m7 (.lst [.ref ra, .ref m2, .ref m4, .ref m6])) := same_new nm7
    have em7 : L2.upd G6 m7 (.lst [.ref ra, .ref m2, .ref m4, .ref m6]) m7 = some (.lst [.ref ra, .ref m2, .ref m4, .ref m6]) := upd_same
    generalize L2.upd G6 m7 (.lst [.ref ra, .ref m2, .ref m4, .ref m6]) = G7 at sm7 em7 ⊢
    have nqm1 : m1 ≠ q := pot_ne P4 nm1
    have fm1 : G7 m1 = some (.tup [.int 1, .int 7]) := (sm7 _ _ (sm6 _ _ (sm5 _ _ (sm4 _ _ (sm3 _ _ (sm2 _ _ em1))))))
    have nqm2 : m2 ≠ q := pot_ne (pot_same P4 sm1) nm2
    have fm2 : G7 m2 = some (.tup [.str z, .ref m1]) := (sm7 _ _ (sm6 _ _ (sm5 _ _ (sm4 _ _ (sm3 _ _ em2)))))
    have nqm3 : m3 ≠ q := pot_ne (pot_same P4 (sm1.trans sm2)) nm3
    have fm3 : G7 m3 = some (.tup [.int 1, .int 1]) := (sm7 _ _ (sm6 _ _ (sm5 _ _ (sm4 _ _ em3))))
    have nqm4 : m4 ≠ q := pot_ne (pot_same P4 ((sm1.trans sm2).trans sm3)) nm4
    have fm4 : G7 m4 = some (.tup [.str (Str.ofString "abcdefghij"), .ref m3]) := (sm7 _ _ (sm6 _ _ (sm5 _ _ em4)))
    have nqm5 : m5 ≠ q := pot_ne (pot_same P4 (((sm1.trans sm2).trans sm3).trans sm4)) nm5
    have fm5 : G7 m5 = some (.tup [.int 1, .int 2]) := (sm7 _ _ (sm6 _ _ em5))
    have nqm6 : m6 ≠ q := pot_ne (pot_same P4 ((((sm1.trans sm2).trans sm3).trans sm4).trans sm5)) nm6
    have fm6 : G7 m6 = some (.tup [.str (Str.ofString "q"), .ref m5]) := (sm7 _ _ em6)
    have nqm7 : m7 ≠ q := pot_ne (pot_same P4 (((((sm1.trans sm2).trans sm3).trans sm4).trans sm5).trans sm6)) nm7
    have fm7 : G7 m7 = some (.lst [.ref ra, .ref m2, .ref m4, .ref m6]) := em7
    have PG := pot_same P4 ((((((sm1.trans sm2).trans sm3).trans sm4).trans sm5).trans sm6).trans sm7)
    have sG : Same H4 G7 := ((((((sm1.trans sm2).trans sm3).trans sm4).trans sm5).trans sm6).trans sm7)
    generalize G7 = HG at fm1 fm2 fm3 fm4 fm5 fm6 fm7 PG sG ⊢
    refine ⟨_, rfl, q, 4, rfl, by decide, by decide, PG, fun c K2 c0_ c1_ P2 b2 => ?_⟩
    obtain ⟨cn, rfl⟩ : ∃ cn : Nat, c = (cn : Int) := ⟨c.toNat, by omega⟩
    have b4k : But q H4 K2 := fun b o n e => b2 _ _ n (sG _ _ e)
    have hdgF : Dg K (wo q K2) (.ref ra) e := hdg4.same (wo_but b4k)
    have hallM : DgAll K (wo q K2) [.ref ra, .ref m2, .ref m4, .ref m6] [e, .tuple [.str z, .tuple [.int 1, .int 7]], .tuple [.str (Str.ofString "abcdefghij"), .tuple [.int 1, .int 1]], .tuple [.str (Str.ofString "q"), .tuple [.int 1, .int 2]]] := ((.cons (hdgF) (.cons (.tup (.inl (.inl (wo_at nqm2 (b2 _ _ nqm2 fm2)))) (.cons (.str z) (.cons (.tup (.inl (.inl (wo_at nqm1 (b2 _ _ nqm1 fm1)))) (.cons (.int _) (.cons (.int _) .nil))) .nil))) (.cons (.tup (.inl (.inl (wo_at nqm4 (b2 _ _ nqm4 fm4)))) (.cons (.str _) (.cons (.tup (.inl (.inl (wo_at nqm3 (b2 _ _ nqm3 fm3)))) (.cons (.int _) (.cons (.int _) .nil))) .nil))) (.cons (.tup (.inl (.inl (wo_at nqm6 (b2 _ _ nqm6 fm6)))) (.cons (.str _) (.cons (.tup (.inl (.inl (wo_at nqm5 (b2 _ _ nqm5 fm5)))) (.cons (.int _) (.cons (.int _) .nil))) .nil))) .nil)))))
    have hc4 : cn < 4 := by omega
    obtain ⟨v', hvM⟩ : ∃ v', ([.ref ra, .ref m2, .ref m4, .ref m6] : List V)[cn]? = some v' := ⟨_, List.getElem?_eq_getElem (by show cn < 4; omega)⟩
    obtain ⟨d', hdM, hqM⟩ := hallM.get hvM
    refine ⟨m7, _, _, _, rfl, rfl, .inl (.inl (b2 _ _ nqm7 fm7)), atI_nat (j := cn) hvM, ?_⟩
    have gr' : GR d' := by
      clear hallM hqM hvM
      match cn, hc4, hdM with
      | 0, _, hd => cases hd; exact G.gr _ (List.mem_of_getElem? hde)
      | 1, _, hd => cases hd; exact gr_of (Fg.tuple (.cons gz (.cons (fg11 1 7 ⟨by unfold S60; decide, by unfold S60; decide⟩) .nil))) (h := rwg2 ez (el11 1 7 ⟨by decide, by decide⟩))
      | 2, _, hd => cases hd; exact gr_of (Fg.tuple (.cons (gd_good (d := .str (Str.ofString "abcdefghij")) (by decide +kernel)).fg (.cons (fg11 1 1 ⟨by unfold S60; decide, by unfold S60; decide⟩) .nil))) (h := rwg2 (gd_good (by decide +kernel)).el (el11 1 1 ⟨by decide, by decide⟩))
      | 3, _, hd => cases hd; exact gr_of (Fg.tuple (.cons (gd_good (d := .str (Str.ofString "q")) (by decide +kernel)).fg (.cons (fg11 1 2 ⟨by unfold S60; decide, by unfold S60; decide⟩) .nil))) (h := rwg2 (gd_good (by decide +kernel)).el (el11 1 2 ⟨by decide, by decide⟩))
      | m + 4, h, _ => exact absurd h (by omega)
    have eow4 : K2 ow = some (.lst xs) := b4k _ _ nqo eow4
    have b04 : But q H K2 := b04.trans b4k
    refine ⟨_, rfl, _, rfl, _, rfl, ow, _, rfl, .inl (.inl eow4), fun l1' nl1 => ?_⟩
    rw [cutTo (k := an) rfl]
    have sl1 : Same K2 (L2.upd K2 l1' (.lst (xs.take an))) := same_new nl1
    have el1 : L2.upd K2 l1' (.lst (xs.take an)) l1' = some (.lst (xs.take an)) := upd_same
    generalize L2.upd K2 l1' (.lst (xs.take an)) = I1 at sl1 el1 ⊢
    have nq1 : l1' ≠ q := pot_ne P2 nl1
    have P21 := pot_same P2 sl1
    refine ⟨_, rfl, len_show (Nat.le_of_ble_eq_true rfl), fun l2 nl2 => ?_⟩
    have sl2 : Same I1 (L2.upd I1 l2 (.lst [v'])) := same_new nl2
    have el2 : L2.upd I1 l2 (.lst [v']) l2 = some (.lst [v']) := upd_same
    generalize L2.upd I1 l2 (.lst [v']) = I5 at sl2 el2 ⊢
    have b15 : But q I1 I5 := fun b o _ e => sl2 _ _ e
    have P5 := pot_same P21 sl2
    have hv' : Dg K (wo q I5) v' d' := hqM.same (wo_wo (sl1.trans sl2))
    have fl1 : I5 l1' = some (.lst (xs.take an)) := b15 _ _ nq1 el1
    refine ⟨l1', l2, _, _, rfl, rfl, fl1, el2, by rw [sizeLine_eq]; simp only [List.length_take, List.length_drop, List.length_cons, List.length_nil, List.length_append]; omega, fun l3 nl3 => ?_⟩
    have sl3 : Same I5 (L2.upd I5 l3 (.lst (xs.take an ++ [v']))) := same_new nl3
    have el3 : L2.upd I5 l3 (.lst (xs.take an ++ [v'])) l3 = some (.lst (xs.take an ++ [v'])) := upd_same
    generalize L2.upd I5 l3 (.lst (xs.take an ++ [v'])) = I6 at sl3 el3 ⊢
    have owb : I6 ow = some (.lst xs) := sl3 _ _ (b15 _ _ nqo (sl1 _ _ eow4))
    refine ⟨_, rfl, _, rfl, _, rfl, ow, _, rfl, .inl (.inl owb), fun l4 nl4 => ?_⟩
    rw [cutFrom (k := an) rfl]
    have sl4 : Same I6 (L2.upd I6 l4 (.lst (xs.drop (an)))) := same_new nl4
    have el4 : L2.upd I6 l4 (.lst (xs.drop (an))) l4 = some (.lst (xs.drop (an))) := upd_same
    generalize L2.upd I6 l4 (.lst (xs.drop (an))) = I7 at sl4 el4 ⊢
    refine ⟨l3, l4, _, _, rfl, rfl, sl4 _ _ el3, el4, by rw [sizeLine_eq]; simp only [List.length_take, List.length_drop, List.length_cons, List.length_nil, List.length_append]; omega, fun l5 nl5 => ?_⟩
    have sl5 : Same I7 (L2.upd I7 l5 (.lst (xs.take an ++ [v'] ++ xs.drop (an)))) := same_new nl5
    have el5 : L2.upd I7 l5 (.lst (xs.take an ++ [v'] ++ xs.drop (an))) l5 = some (.lst (xs.take an ++ [v'] ++ xs.drop (an))) := upd_same
    generalize L2.upd I7 l5 (.lst (xs.take an ++ [v'] ++ xs.drop (an))) = I8 at sl5 el5 ⊢
    have P8 := pot_same P5 ((sl3.trans sl4).trans sl5)
    have nq5 : l5 ≠ q := pot_ne (pot_same P5 (sl3.trans sl4)) nl5
    have b08 : But q H I8 := fun b o n e => sl5 _ _ (sl4 _ _ (sl3 _ _ (b15 _ _ n (sl1 _ _ (b04 _ _ n e)))))
    have w58 : Same (wo q I5) (wo q I8) := wo_wo ((sl3.trans sl4).trans sl5)
    have hA8 : DgAll K (wo q I8) xs ds := DgAll.same (wo_but b08) hA
    have hall : DgAll K (wo q I8) (xs.take an ++ [v'] ++ xs.drop (an)) (ds.take an ++ [d'] ++ ds.drop (an)) := DgAll.app (DgAll.app (DgAll.take an hA8) (.cons (hv'.same w58) .nil)) (DgAll.drop (an) hA8)
    have rgd : ∀ e ∈ ds.take an ++ [d'] ++ ds.drop (an), GR e := fun e he => by
      rcases List.mem_append.mp he with he | he
      · rcases List.mem_append.mp he with he | he
        · exact G.gr e (List.mem_of_mem_take he)
        · rw [List.mem_singleton.mp he]; exact gr'
      · exact G.gr e (List.mem_of_mem_drop he)
    have rln : (ds.take an ++ [d'] ++ ds.drop (an)).length ≤ 9 := by
      have := G.l8
      rw [List.length_append, List.length_append, List.length_take, List.length_drop, List.length_cons, List.length_nil]
      omega
    refine ⟨l5, _, rfl, .inl ⟨.inl (.inl el5), fun T nT => ?_⟩⟩
    have sT : Same I8 (L2.upd I8 T (.tup (xs.take an ++ [v'] ++ xs.drop an))) := same_new nT
    have eT : L2.upd I8 T (.tup (xs.take an ++ [v'] ++ xs.drop an)) T = some (.tup (xs.take an ++ [v'] ++ xs.drop an)) := upd_same
    generalize L2.upd I8 T (.tup (xs.take an ++ [v'] ++ xs.drop an)) = I9 at sT eT ⊢
    exact k (.ref T) (.tuple (ds.take an ++ [d'] ++ ds.drop an)) I9 (.tup (.inl (.inl (wo_at (pot_ne P8 nT) eT))) (DgAll.same (wo_wo sT) hall)) (.inl ⟨_, .inr rfl, rln, rgd⟩) (pot_same P8 sT) (fun b o n e => sT _ _ (b08 _ _ n e))

end
end Lf

set_option Elab.async false
set_option linter.all false
set_option maxRecDepth 100000
set_option maxHeartbeats 4000000
set_option exponentiation.threshold 3000
namespace Lf
open PySem PySem.Spec PyProof.Rows L2
section
variable {P : Program} {w : World} {K : PySem.W.Frag} {mg : Str → Option Value} {base : Heap} {c0 c1 : Addr}
theorem low_one {a b : Int} (hb : 0 < b) : decide (low a b = (a, b)) = decide (Nat.gcd a.natAbs b.natAbs = 1) := by
  by_cases h : Nat.gcd a.natAbs b.natAbs = 1
  · rw [decide_eq_true h]
    exact decide_eq_true (low_self ⟨hb, h⟩)
  · rw [decide_eq_false h]
    refine decide_eq_false fun z => h ?_
    have := (low_is (n := a) (d := b) (by omega)).2
    rw [z] at this
    exact this
theorem op_inK {X : Cx} {K : PySem.W.Frag} (h : X.A.units + 65 < cLine) (hK : X.K = K := by rfl) : OpR X (compareOp .In) (rInD K) := by
  subst hK
  exact op_inD h
theorem ix_listK {X : Cx} {K : PySem.W.Frag} (hK : X.K = K := by rfl) : IxR X (rIxL K) := hK ▸ ix_list
theorem sl_listK {X : Cx} {K : PySem.W.Frag} (hK : X.K = K := by rfl) : SlR X (rSlL K) := hK ▸ sl_list
/-- places whose text stands ahead of them too -/
def badK (ts : List Str) (i : Nat) : List Nat := (List.range i).filter fun k => decide (ts.getD k Str.empty ∈ ts.take k)
theorem badK_nil (ts : List Str) : (badK ts ts.length).isEmpty = decide ts.Nodup := by
  by_cases h : ts.Nodup
  · rw [decide_eq_true h, List.isEmpty_iff]
    refine List.filter_eq_nil_iff.mpr fun k hk hx => ?_
    have hk := List.mem_range.mp hk
    have h2 := of_decide_eq_true hx
    rw [List.getD_eq_getElem?_getD, List.getElem?_eq_getElem hk, Option.getD_some] at h2
    obtain ⟨j, hj, e⟩ := List.mem_take_iff_getElem.mp h2
    have hp := List.pairwise_iff_getElem.mp h j k (by omega) hk (by omega)
    exact hp e
  · rw [decide_eq_false h, Bool.eq_false_iff]
    intro he
    apply h
    have he := List.filter_eq_nil_iff.mp (List.isEmpty_iff.mp he)
    refine List.pairwise_iff_getElem.mpr fun i j hi hj hij e => ?_
    refine he j (List.mem_range.mpr hj) (decide_eq_true ?_)
    rw [List.getD_eq_getElem?_getD, List.getElem?_eq_getElem hj, Option.getD_some]
    exact List.mem_take_iff_getElem.mpr ⟨i, by omega, e⟩
theorem ints_dp {K : PySem.W.Frag} {H : Hp} : ∀ l : List Nat, DpAll K H (l.map fun n => V.int (n : Nat)) (l.map fun n => PyData.int (n : Nat))
  | [] => .nil
  | n :: l => .cons (.int _) (ints_dp l)
theorem ints_lay : ∀ l : List Nat, PyData.canLayAll0 (l.map fun n => PyData.int (n : Nat)) = true ∧ PyData.depthAll (l.map fun n => PyData.int (n : Nat)) = 0
  | [] => ⟨rfl, rfl⟩
  | n :: l => by
    obtain ⟨a, b⟩ := ints_lay l
    refine ⟨by simp only [List.map_cons, PyData.canLayAll0, PyData.canLay0, a, Bool.and_self], ?_⟩
    simp only [List.map_cons, PyData.depthAll, PyData.depth, b, Nat.max_self]
theorem ints_shaped (l : List Nat) : SeqAt.shaped (.list (l.map fun n => PyData.int (n : Nat))) = true := by
  obtain ⟨a, b⟩ := ints_lay l
  unfold SeqAt.shaped
  rw [Bool.and_eq_true]
  refine ⟨by simp only [PyData.canLay0]; exact a, decide_eq_true ?_⟩
  simp only [PyData.depth, b]
  omega
theorem eqv_ints (l : List Nat) : PyData.eqv (.list (l.map fun n => PyData.int (n : Nat))) (.list []) = l.isEmpty := by
  cases l <;> simp [PyData.eqv, PyData.eqvAll]
theorem isRow_al {d : PyData} (h : isRow d = true) : AllL (rowN d) := by
  obtain ⟨z, p, rfl, nm, _⟩ := isRow_inv h
  exact (nm_inv nm).al

/-! ### _law_is_name -/
theorem sc__law_is_name : FnScope ["_law_thing", "_law_sign"] ["_law_thing"] (defScope s__law_is_name) := ⟨rfl, rfl, rfl, by decide +kernel, rfl, by decide +kernel, by decide +kernel⟩
def sp_lisnm (K : PySem.W.Frag) : Sp := fun vs H Q _ => ∃ (v : V) (d : PyData), vs = [v] ∧ Dg K H v d ∧ (∀ z, d = .str z → z.length ≤ 1000 ∧ ∀ c ∈ z.cps.toList, c < 0x110000) ∧ ∀ H', Same H H' → Q (.bl (isNm d)) H'
theorem filt_empty (l : List Nat) : (l.filter fun c => !inL c).isEmpty = l.all inL := by
  induction l with
  | nil => rfl
  | cons c l ih =>
    rw [List.filter_cons, List.all_cons]
    cases h : inL c
    · rfl
    · simpa [h] using ih
theorem signs_dp {H : Hp} : ∀ l : List Nat, DpAll K H (l.map fun c => V.str ⟨#[c]⟩) (l.map fun c => PyData.str ⟨#[c]⟩)
  | [] => .nil
  | c :: l => .cons (.str _) (signs_dp l)
theorem signs_shaped : ∀ l : List Nat, (∀ c ∈ l, c < 0x110000) → PyData.canLayAll0 (l.map fun c => PyData.str ⟨#[c]⟩) = true ∧ PyData.depthAll (l.map fun c => PyData.str ⟨#[c]⟩) = 0
  | [], _ => ⟨by simp only [List.map_nil, PyData.canLayAll0], by simp only [List.map_nil, PyData.depthAll]⟩
  | c :: l, h => by
    obtain ⟨i1, i2⟩ := signs_shaped l fun x hx => h x (List.mem_cons_of_mem _ hx)
    have hc := h c List.mem_cons_self
    refine ⟨?_, ?_⟩
    · simp only [List.map_cons, PyData.canLayAll0, i1, PyData.canLay0, PyData.strOk, Bool.and_true]
      simp [hc]
    · simp only [List.map_cons, PyData.depthAll, i2, PyData.depth]
      rfl
theorem eqv_nils (l : List Nat) : PyData.eqv (.list (l.map fun c => PyData.str ⟨#[c]⟩)) (.list []) = l.isEmpty := by
  cases l with
  | nil => simp only [List.map_nil, PyData.eqv, PyData.eqvAll, List.isEmpty_nil]
  | cons f r => simp only [List.map_cons, PyData.eqv, PyData.eqvAll, List.isEmpty_cons]

theorem ok_lisnm {f : Addr} {fd : FuncData} (M : Blt mg) (Mx : Bltx mg) (F : Fun K "_law_is_name" "_law_is_name" s__law_is_name f fd) : FnG P w K mg base CX0 2 f fd ["_law_thing"] (sp_lisnm K) := by
  refine Gfun F sc__law_is_name (fun vs H Q E h => ?_) (fun cdv A outer s H vs Q E hg hr h => ?_)
  · obtain ⟨v, d, rfl, _⟩ := h
    rfl
  · obtain ⟨v, d, rfl, hq, hz, k⟩ := h
    refine ⟨_, (pss_cons (ps_if (PW.pt (pw_or (pt_not (pt_val (pe_callB call_isi rfl Mx.isinstance bt_isinstance (pa_cons (pv 0) (pa_cons (pe_bltn (v := .ty "str") rfl M.str bt_str rfl) pa_nil))))) (pw_or1 (pt_not (pt_chain op_le op_le pe_int (pe_callB call_len_str rfl M.len bt_len (pa_cons (pv 0) pa_nil)) pe_int)))))
      (pss_one (ps_ret pe_bl))
      pss_nil)
      (pss_one (ps_ret (pe_cmpR (op_eqD hr.units) (pe_lc (own := [("_law_sign", 1)]) (g := gName 1) rfl sc__law_is_name.nd (pi_str (pv 0)) (blkOk_by (N := ["_law_thing", "_law_sign"]) (sc := defScope s__law_is_name) (by decide +kernel)) (fun _ _ _ _ _ => pg_name (i := 1) sc__law_is_name.nd rfl (Or.inl rfl)) (fun _ _ _ _ _ => (pts_one (pt_cmpR op_notInS (pv 1) pe_str rfl))) (fun _ _ _ _ _ => (pv 1))) (pe_lst pa_nil) (nomark _))))), ?_⟩
    have fin : ∀ b : Bool, isNm d = b → ∀ H', Same H H' → Q (.bl b) H' := fun b e H' s => e ▸ k H' s
    refine ⟨_, rfl, _, _, _, _, _, rfl, .ty "str", hq.ty, kit_ty (ks d), _, rfl, ?_⟩
    by_cases ht : isS d = true
    · rw [ht]
      refine iteF ?_
      obtain ⟨z, rfl, rfl⟩ := hq.txt ht
      obtain ⟨hzl, hzc⟩ := hz z rfl
      have hnm : isNm (.str z) = (decide (1 ≤ z.length) && decide (z.length ≤ 10) && z.cps.toList.all inL) := rfl
      refine ⟨_, rfl, z, rfl, len_show hzl, _, _, rfl, rfl, _, rfl, ?_⟩
      by_cases h0 : (1 : Int) ≤ (z.length : Int)
      · rw [decide_eq_true h0]
        have h1 : 1 ≤ z.length := by omega
        refine iteT ⟨_, _, rfl, rfl, _, rfl, ?_⟩
        by_cases h2 : (z.length : Int) ≤ 10
        · rw [decide_eq_true h2]
          refine iteF ?_
          refine ⟨_, rfl, z, rfl, fun D hD => lc_it walk_str (fun i H' => H' D = some (.lst (((z.cps.toList.take i).filter fun c => !inL c).map fun c => .str ⟨#[c]⟩)) ∧ Same H H') ⟨upd_same, same_new hD⟩ (fun _ _ _ _ => trivial) ?_ ?_⟩
          · rintro i x H1 H2 hi ⟨eD, sm⟩ ⟨rfl, c, hc, rfl⟩
            have hsz : z.cps.size ≤ 1000 := hzl
            have tk : z.cps.toList.take (i + 1) = z.cps.toList.take i ++ [c] := by
              rw [List.take_add_one, Array.getElem?_toList, hc]
              rfl
            refine ⟨rfl, _, rfl, c, lets, rfl, rfl, _, rfl, ?_⟩
            show if (!inL c) = true then _ else _
            cases hL : inL c
            · refine iteT ⟨_, rfl, _, eD, ?_, ?_, fun b o e => ?_⟩
              · rw [List.length_map, sizeLine_eq]
                have := List.length_filter_le (fun c => !inL c) (z.cps.toList.take i)
                rw [List.length_take] at this
                omega
              · rw [upd_same, tk, List.filter_append, List.map_append]
                simp [hL]
              · rw [upd_ne (ne_of_none e hD)]
                exact sm _ _ e
            · refine iteF ⟨?_, sm⟩
              rw [eD, tk, List.filter_append]
              simp [hL]
          · rintro H1 ⟨eD, sm⟩
            rw [show z.cps.size = z.cps.toList.length from Array.length_toList.symm, List.take_length] at eD
            refine ⟨len_show (Nat.le_of_ble_eq_true rfl), fun m nm => ?_⟩
            have ss := signs_shaped (z.cps.toList.filter fun c => !inL c) (fun c hc => hzc c (List.mem_filter.mp hc).1)
            have sh : SeqAt.shaped (.list ((z.cps.toList.filter fun c => !inL c).map fun c => PyData.str ⟨#[c]⟩)) = true := by
              unfold SeqAt.shaped
              rw [Bool.and_eq_true]
              refine ⟨by simp only [PyData.canLay0]; exact ss.1, decide_eq_true ?_⟩
              simp only [PyData.depth, ss.2]
              omega
            refine ⟨_, _, .lst (.inl (.inl (same_new nm _ _ eD))) (signs_dp _), .lst (.inl (.inl upd_same)) .nil, sh, (by decide), ?_⟩
            rw [eqv_nils, filt_empty]
            refine fin _ ?_ _ (sm.trans (same_new nm))
            rw [hnm, decide_eq_true h1, decide_eq_true (show z.length ≤ 10 by omega)]
            rfl
        · rw [decide_eq_false h2]
          refine iteT (fin false ?_ H same_rfl)
          rw [hnm, show decide (z.length ≤ 10) = false from decide_eq_false (by omega), Bool.and_false, Bool.false_and]
      · rw [decide_eq_false h0]
        refine iteF ⟨_, rfl, iteT (fin false ?_ H same_rfl)⟩
        rw [hnm, show decide (1 ≤ z.length) = false from decide_eq_false (by omega), Bool.false_and, Bool.false_and]
    · have ht' : isS d = false := by cases h : isS d <;> first | rfl | exact absurd h ht
      rw [ht']
      exact iteT (fin _ (isNm_no ht') H same_rfl)

/-! ### _law_is_weight -/
theorem sc__law_is_weight : FnScope ["_law_thing", "_law_one"] ["_law_thing"] (defScope s__law_is_weight) := ⟨rfl, rfl, rfl, by decide +kernel, rfl, by decide +kernel, by decide +kernel⟩
def sp_lisw (K : PySem.W.Frag) : Sp := fun vs H Q _ => ∃ (v : V) (d : PyData), vs = [v] ∧ Dg K H v d ∧ (∀ a b, d = .tuple [.int a, .int b] → Mid b) ∧ ∀ H', Same H H' → Q (.bl (isAb d)) H'
theorem isAb_no {d : PyData} (h : isFr d = false) : isAb d = false := by unfold isAb; rw [h]; rfl
theorem ok_lisw {f : Addr} {fd : FuncData} (M : Blt mg) (Mx : Bltx mg) (F : Fun K "_law_is_weight" "_law_is_weight" s__law_is_weight f fd) (C__law_is_whole : Cal P w K mg base CX0 1 "_law_is_whole" ["_law_thing"] (sp_whole K)) (C__law_low : Cal P w K mg base CX0 1 "_law_low" ["_law_top", "_law_bottom"] (sp_low)) :
    FnG P w K mg base CX0 2 f fd ["_law_thing"] (sp_lisw K) := by
  refine Gfun F sc__law_is_weight (fun vs H Q E h => ?_) (fun cdv A outer s H vs Q E hg hr h => ?_)
  · obtain ⟨v, d, rfl, _⟩ := h
    rfl
  · obtain ⟨v, d, rfl, hq, hmid, k⟩ := h
    refine ⟨_, (pss_cons (ps_if (PW.pt (pw_or (pt_not (pt_val (pe_callB call_isi rfl Mx.isinstance bt_isinstance (pa_cons (pv 0) (pa_cons (pe_bltn (v := .ty "tuple") rfl Mx.tuple bt_tuple rfl) pa_nil))))) (pw_or (pt_cmpR op_ne (pe_callB call_len_seq rfl M.len bt_len (pa_cons (pv 0) pa_nil)) pe_int (nomark _)) (pw_or1 (pt_not (pt_val (pe_callB (cr_all rfl) rfl M.all bt_all (pa_cons (pe_lc (own := [("_law_one", 1)]) (g := gName 1) (tt := tYes) rfl sc__law_is_weight.nd (pi_tup (pv 0)) (blkOk_by (N := ["_law_thing", "_law_one"]) (sc := defScope s__law_is_weight) (by decide +kernel)) (fun _ _ _ _ _ => pg_name (i := 1) sc__law_is_weight.nd rfl (Or.inl rfl)) (fun _ _ _ _ _ => pts_nil) (fun _ _ _ _ _ => (pe_g C__law_is_whole (hr.mono (by decide)) hg (pa_cons (pv 1) pa_nil)))) pa_nil))))))))
      (pss_one (ps_ret pe_bl))
      pss_nil)
      (pss_one (ps_ret (pe_and (pe_cmpR op_gt (pe_ix ix_tup (pv 0) pe_int (fun _ _ => rfl)) pe_int (nomark _)) (pe_and (pe_cmpR op_gt (pe_ix ix_tup (pv 0) pe_int (fun _ _ => rfl)) pe_int (nomark _)) (pe_one (pe_cmpR (op_eqD hr.units) (pe_g C__law_low (hr.mono (by decide)) hg (pa_cons (pe_ix ix_tup (pv 0) pe_int (fun _ _ => rfl)) (pa_cons (pe_ix ix_tup (pv 0) pe_int (fun _ _ => rfl)) pa_nil))) (pv 0) (nomark _)))))))), ?_⟩
    have fin : ∀ b : Bool, isAb d = b → ∀ H', Same H H' → Q (.bl b) H' := fun b e H' s => e ▸ k H' s
    refine ⟨_, rfl, _, _, _, _, _, rfl, .ty "tuple", hq.ty, kit_ty (kt d), _, rfl, ?_⟩
    by_cases ht : isT d = true
    · rw [ht]
      refine iteF ?_
      obtain ⟨a, xs, ds, rfl, rfl, hS, hA, hn⟩ := hq.tupI ht
      refine ⟨_, rfl, a, xs, rfl, .inr hS, rfl, _, rfl, ?_⟩
      by_cases hl : xs.length = 2
      · refine iteNS (show V.int (xs.length : Int) = V.int 2 by rw [hl]; rfl) ?_
        obtain ⟨x, y, d1, d2, rfl, rfl, q1, q2⟩ := two_of hA hl
        refine ⟨_, rfl, a, rfl, ⟨_, hS⟩, fun D hD => lc_tup (xs := [x, y]) (fun i H' => H' D = some (.lst (([isW d1, isW d2].take i).map V.bl)) ∧ Same H H') ⟨upd_same, same_new hD⟩ (fun i H' _ h => sm_t h.2 hS) ?_ ?_⟩
        · rintro i u H' hu ⟨eD, sm⟩
          obtain ⟨du, hdu, hw⟩ : ∃ du, Dg K H u du ∧ [isW d1, isW d2][i]? = some (isW du) := by
            match i, hu with
            | 0, hu => cases hu; exact ⟨d1, q1, rfl⟩
            | 1, hu => cases hu; exact ⟨d2, q2, rfl⟩
            | n + 2, hu => simp at hu
          refine ⟨rfl, _, rfl, u, du, rfl, hdu.same sm, _, eD, ?_, ?_, fun b o e => ?_⟩
          · rw [List.length_map, List.length_take, sizeLine_eq]
            have : ([isW d1, isW d2] : List Bool).length = 2 := rfl
            omega
          · rw [upd_same, List.take_add_one, hw, List.map_append]
            rfl
          · rw [upd_ne (ne_of_none e hD)]
            exact sm _ _ e
        · rintro H1 ⟨eD, sm⟩
          refine ⟨D, [isW d1, isW d2], rfl, .inl (.inl eD), _, rfl, ?_⟩
          by_cases w1 : isW d1 = true
          · by_cases w2 : isW d2 = true
            · rw [w1, w2]
              refine iteF ?_
              obtain ⟨p, rfl, rfl⟩ := q1.whole w1
              obtain ⟨b, rfl, rfl⟩ := q2.whole w2
              have hS1 := sm_t sm hS
              have hab : isAb (.tuple [.int p, .int b]) = (decide (0 < b) && decide (Nat.gcd p.natAbs b.natAbs = 1) && decide (0 < p)) := rfl
              refine ⟨_, rfl, a, _, _, _, rfl, rfl, hS1, rfl, _, _, rfl, rfl, _, rfl, ite2 (fun ep => ?_) (fun ep => ?_)⟩
              · have hp : 0 < p := of_decide_eq_true ep
                refine ⟨_, rfl, a, _, _, _, rfl, rfl, hS1, rfl, _, _, rfl, rfl, _, rfl, ite2 (fun e => ?_) (fun e => ?_)⟩
                · have hb : 0 < b := of_decide_eq_true e
                  refine ⟨_, rfl, a, _, _, _, rfl, rfl, hS1, rfl, _, rfl, a, _, _, _, rfl, rfl, hS1, rfl, p, b, rfl, by omega, hmid p b rfl, fun H2 p2 s2 e2 => ?_⟩
                  refine ⟨_, rfl, tD (low p b), tD (p, b), dp2' e2, dp2 (sm_t s2 hS1), tD_shaped _, tD_shaped _, ?_⟩
                  rw [eqv_tD, low_one hb]
                  refine fin _ ?_ H2 (sm.trans s2)
                  rw [hab, decide_eq_true hb, decide_eq_true hp, Bool.true_and, Bool.and_true]
                · refine fin _ ?_ H1 sm
                  rw [hab, show decide (0 < b) = false from Bool.eq_false_iff.mpr e, Bool.false_and, Bool.false_and]
              · refine fin _ ?_ H1 sm
                rw [hab, show decide (0 < p) = false from Bool.eq_false_iff.mpr ep, Bool.and_false]
            · have w2' : isW d2 = false := by cases h : isW d2 <;> first | rfl | exact absurd h w2
              rw [w2', show List.all [isW d1, false] id = false by simp]
              exact iteT (fin _ (isAb_no (isFr_no (.inr w2'))) H1 sm)
          · have w1' : isW d1 = false := by cases h : isW d1 <;> first | rfl | exact absurd h w1
            rw [w1', show List.all [false, isW d2] id = false by simp]
            exact iteT (fin _ (isAb_no (isFr_no (.inl w1'))) H1 sm)
      · refine iteN (fun z => hl (by have := V.int.inj z; omega)) ?_
        have hl2 : ds.length ≠ 2 := by rw [← DgAll.len hA]; exact hl
        exact fin _ (isAb_no (isFr_len hl2)) H same_rfl
    · have ht' : isT d = false := by cases h : isT d <;> first | rfl | exact absurd h ht
      rw [ht']
      refine iteT ?_
      have : isFr d = false := by
        cases d <;> first | rfl | exact absurd rfl ht
      exact fin _ (isAb_no this) H same_rfl

/-! ### _law_are_rows -/
theorem sc__law_are_rows : FnScope ["_law_thing", "_law_seen", "_law_row", "_law_k"] ["_law_thing"] (defScope s__law_are_rows) := ⟨rfl, rfl, rfl, by decide +kernel, rfl, by decide +kernel, by decide +kernel⟩
def sp_larerL (K : PySem.W.Frag) : Sp := fun vs H Q _ => ∃ (v : V) (ds : List PyData), vs = [v] ∧ Dg K H v (.list ds) ∧ RsG (.list ds) ∧ ∀ H', Same H H' → Q (.bl (isRsL ds)) H'
set_option maxHeartbeats 16000000 in
theorem ok_larerL {f : Addr} {fd : FuncData} (M : Blt mg) (Mx : Bltx mg) (ml : mg "list" = none) (F : Fun K "_law_are_rows" "_law_are_rows" s__law_are_rows f fd) (C__law_is_name : Cal P w K mg base CX0 2 "_law_is_name" ["_law_thing"] (sp_lisnm K)) (C__law_is_weight : Cal P w K mg base CX0 2 "_law_is_weight" ["_law_thing"] (sp_lisw K)) : FnG P w K mg base CX0 3 f fd ["_law_thing"] (sp_larerL K) := by
  refine Gfun F sc__law_are_rows (fun vs H Q E h => ?_) (fun cdv A outer s H vs Q E hg hr h => ?_)
  · obtain ⟨v, ds, rfl, _⟩ := h
    rfl
  · obtain ⟨v, ds, rfl, hq, rg, k⟩ := h
    refine ⟨_, (pss_cons (ps_if (PW.pt (pw_or (pt_not (pt_val (pe_callB call_isiT rfl Mx.isinstance bt_isinstance (pa_cons (pv 0) (pa_cons (pe_tup (pa_cons (pe_bltn (v := .ty "list") rfl ml bt_list rfl) (pa_cons (pe_bltn (v := .ty "tuple") rfl Mx.tuple bt_tuple rfl) pa_nil))) pa_nil))))) (pw_or1 (pt_not (pt_chain op_le op_le pe_int (pe_callB call_len_seq rfl M.len bt_len (pa_cons (pv 0) pa_nil)) pe_int)))))
      (pss_one (ps_ret pe_bl))
      pss_nil)
      (pss_cons (ps_set (i := 1) sc__law_are_rows.nd rfl (.inr rfl) (pe_lst pa_nil))
      (pss_cons (ps_for PassesOwn.never rfl (pi_list (pv 0)) (pg_name (i := 2) sc__law_are_rows.nd rfl (.inl rfl))
      (pss_cons (ps_if (PW.pt (pw_or (pt_not (pt_val (pe_callB call_isi rfl Mx.isinstance bt_isinstance (pa_cons (pv 2) (pa_cons (pe_bltn (v := .ty "tuple") rfl Mx.tuple bt_tuple rfl) pa_nil))))) (pw_or (pt_cmpR op_ne (pe_callB call_len_seq rfl M.len bt_len (pa_cons (pv 2) pa_nil)) pe_int (nomark _)) (pw_or (pt_not (pt_val (pe_g C__law_is_name (hr.mono (by decide)) hg (pa_cons (pe_ix ix_tup (pv 2) pe_int (fun _ _ => rfl)) pa_nil)))) (pw_or1 (pt_not (pt_val (pe_g C__law_is_weight (hr.mono (by decide)) hg (pa_cons (pe_ix ix_tup (pv 2) pe_int (fun _ _ => rfl)) pa_nil)))))))))
      (pss_one (ps_ret pe_bl))
      pss_nil)
      (pss_one (ps_expr (pe_bm PySem.F.plainAttrs_list PySem.F.slot_list_append PySem.F.type_list_append mt_append (pv 1) (pa_cons (pe_ix ix_tup (pv 2) pe_int (fun _ _ => rfl)) pa_nil))))))
      (pss_one (ps_ret (pe_cmpR (op_eqD hr.units) (pe_lc (own := [("_law_k", 3)]) (g := gName 3) rfl sc__law_are_rows.nd (pi_range1 rfl M.range (pa_cons (pe_callB call_len_seq rfl M.len bt_len (pa_cons (pv 1) pa_nil)) pa_nil)) (blkOk_by (N := ["_law_thing", "_law_seen", "_law_row", "_law_k"]) (sc := defScope s__law_are_rows) (by decide +kernel)) (fun _ _ _ _ _ => pg_name (i := 3) sc__law_are_rows.nd rfl (Or.inl rfl)) (fun _ _ _ _ _ => (pts_one (pt_cmpR (op_inK (K := K) (by exact u65 hr)) (pe_ix (ix_listK (K := K)) (pv 1) (pv 3) (fun _ _ => rfl)) (pe_slice (sl_listK (K := K)) (pv 1) po_none (po_some (pv 3))) rfl))) (fun _ _ _ _ _ => (pv 3))) (pe_lst pa_nil) (nomark _))))))), ?_⟩
    obtain ⟨hl100, rwg⟩ := rg ds (.inl rfl)
    refine ⟨_, rfl, len_show (Nat.le_of_ble_eq_true rfl), fun tp nt => ?_⟩
    have s1 : Same H (L2.upd H tp (.tup [.ty "list", .ty "tuple"])) := same_new nt
    refine ⟨_, tp, _, _, _, true, rfl, upd_same, .cons (.ty "list") (.cons (.ty "tuple") .nil), (hq.same s1).ty, k_lt (.list ds), _, rfl, ?_⟩
    generalize L2.upd H tp (.tup [.ty "list", .ty "tuple"]) = H1 at s1 ⊢
    refine iteF ?_
    obtain ⟨a, xs, hx, hS, hA⟩ : ∃ a xs, v = .ref a ∧ SqL K H a xs ∧ DgAll K H xs ds := by
      cases hq with
      | lst h1 h2 => exact ⟨_, _, rfl, h1, h2⟩
    subst hx
    have hl : xs.length = ds.length := DgAll.len hA
    refine ⟨_, rfl, a, xs, rfl, .inl (sm_l s1 hS), _, _, rfl, rfl, _, rfl, ?_⟩
    unfold isRsL at k
    by_cases c1 : 1 ≤ ds.length
    · rw [decide_eq_true (show (1 : Int) ≤ (xs.length : Int) by omega)]
      refine iteT ⟨_, _, rfl, rfl, _, rfl, ?_⟩
      by_cases c8 : ds.length ≤ 8
      · rw [decide_eq_true (show (xs.length : Int) ≤ 8 by omega)]
        refine iteF ?_
        rw [decide_eq_true c1, decide_eq_true c8, Bool.true_and, Bool.true_and] at k
        refine ⟨len_show (Nat.le_of_ble_eq_true rfl), fun sn nsn => ?_⟩
        have s2 : Same H1 (L2.upd H1 sn (.lst [])) := same_new nsn
        have e2 : L2.upd H1 sn (.lst []) sn = some (.lst []) := upd_same
        generalize L2.upd H1 sn (.lst []) = H2 at s2 e2 ⊢
        have e2' : H2 sn = some (.lst (((ds.take 0).map rowN).map V.str)) := e2
        have noAll : ∀ {i d}, ds[i]? = some d → isRow d = false → ds.all isRow = false := fun hd hr => by
          rw [List.all_eq_false]
          exact ⟨_, List.mem_of_getElem? hd, by rw [hr]; decide⟩
        refine ⟨_, rfl, a, rfl, ⟨_, sm_l (s1.trans s2) hS⟩, ?_⟩
        refine for_list (xs := xs) (fun i σ H' => ∃ (y2 y3 : Option V), σ = [some (.ref a), some (.ref sn), y2, y3] ∧ Same H1 H' ∧ H' sn = some (.lst (((ds.take i).map rowN).map V.str)) ∧ ∀ d ∈ ds.take i, isRow d = true) ⟨_, _, rfl, s2, e2', fun d hd => by rw [List.take_zero] at hd; cases hd⟩ (fun i σ H' _ h => sm_l (s1.trans h.choose_spec.choose_spec.2.1) hS) ?_ ?_
        · rintro i x σ H3 hx ⟨y2, y3, rfl, s3, e3, al3⟩
          obtain ⟨d, hd, hdg⟩ := hA.get hx
          have hi : i < xs.length := (List.getElem?_eq_some_iff.mp hx).1
          have hdg3 := hdg.same (s1.trans s3)
          have no : isRow d = false → ∀ H', Same H H' → Q (.bl false) H' := fun h H' s => by
            have := k H' s
            rw [noAll hd h, Bool.false_and] at this
            exact this
          have rgd := rwg d (List.mem_of_getElem? hd)
          refine ⟨_, rfl, _, _, _, _, _, rfl, .ty "tuple", hdg3.ty, kit_ty (kt d), _, rfl, ?_⟩
          by_cases ht : isT d = true
          · rw [ht]
            refine iteF ?_
            obtain ⟨ra, ys, es, rfl, rfl, hSr, hAr, _⟩ := hdg3.tupI ht
            refine ⟨_, rfl, ra, ys, rfl, .inr hSr, rfl, _, rfl, ?_⟩
            by_cases hl2 : ys.length = 2
            · refine iteNS (show V.int (ys.length : Int) = V.int 2 by rw [hl2]; rfl) ?_
              obtain ⟨x1, x2, d1, d2, rfl, rfl, g1, g2⟩ := two_of hAr hl2
              refine ⟨_, rfl, ra, _, _, _, rfl, rfl, hSr, atI_nat (j := 0) rfl, x1, d1, rfl, g1, (rgd _ rfl d1 (by simp)).st, fun Ha sa => ?_⟩
              have hSa := sm_t sa hSr
              by_cases n1 : isNm d1 = true
              · rw [n1]
                refine ⟨_, rfl, iteF ?_⟩
                refine ⟨_, rfl, ra, _, _, _, rfl, rfl, hSa, atI_nat (j := 1) rfl, x2, d2, rfl, g2.same sa, (fun a b e => Nat.lt_of_lt_of_le ((rgd _ rfl d2 (by simp)).fr a b e).2 (Nat.pow_le_pow_right (by decide) (by decide))), fun Hb sb => ?_⟩
                have hSb := sm_t sb hSa
                have s3b := (s3.trans sa).trans sb
                by_cases n2 : isAb d2 = true
                · rw [n2]
                  refine ⟨_, rfl, iteF ?_⟩
                  have es : isS d1 = true := by cases d1 <;> first | rfl | cases n1
                  obtain ⟨z, rfl, rfl⟩ := g1.txt es
                  have eb := sb _ _ (sa _ _ e3)
                  refine ⟨_, rfl, .inl ⟨rfl, _, .inl (.inl eb)⟩, _, rfl, ra, _, _, _, rfl, rfl, hSb, atI_nat (j := 0) rfl, sn, _, _, rfl, rfl, eb, ?_, _, _, rfl, fun b o e => ?_, ?_, fun d' hd' => ?_⟩
                  · rw [List.length_map, List.length_map, List.length_take, sizeLine_eq]
                    omega
                  · rw [upd_ne (ne_of_none e nsn)]
                    exact s3b _ _ e
                  · rw [upd_same, List.take_succ, hd, Option.toList_some, List.map_append, List.map_append]
                    rfl
                  · rw [List.take_succ, hd, Option.toList_some] at hd'
                    rcases List.mem_append.mp hd' with h | h
                    · exact al3 d' h
                    · rw [List.mem_singleton.mp h]
                      show (isNm (.str z) && isAb d2) = true
                      rw [n1, n2]
                      rfl
                · have n2' : isAb d2 = false := Bool.eq_false_iff.mpr n2
                  rw [n2']
                  refine ⟨_, rfl, iteT (no ?_ _ (s1.trans s3b))⟩
                  show (isNm d1 && isAb d2) = false
                  rw [n2', Bool.and_false]
              · have n1' : isNm d1 = false := Bool.eq_false_iff.mpr n1
                rw [n1']
                refine ⟨_, rfl, iteT (no ?_ _ (s1.trans (s3.trans sa)))⟩
                show (isNm d1 && isAb d2) = false
                rw [n1', Bool.false_and]
            · refine iteN (fun z => hl2 (by have := V.int.inj z; omega)) (no ?_ _ (s1.trans s3))
              have hl3 : es.length ≠ 2 := by rw [← DgAll.len hAr]; exact hl2
              match es, hl3 with
              | [], _ => rfl
              | [_], _ => rfl
              | [_, _], h => exact absurd rfl h
              | _ :: _ :: _ :: _, _ => rfl
          · have ht' : isT d = false := Bool.eq_false_iff.mpr ht
            rw [ht']
            refine iteT (no ?_ _ (s1.trans s3))
            cases d <;> first | rfl | exact absurd rfl ht
        · rintro σ H3 ⟨y2, y3, rfl, s3, e3, al3⟩
          rw [hl, List.take_length] at e3 al3
          have all1 : ds.all isRow = true := List.all_eq_true.mpr al3
          rw [all1, Bool.true_and] at k
          have lt : ((ds.map rowN).map V.str).length = ds.length := by rw [List.length_map, List.length_map]
          have als : ∀ z ∈ ds.map rowN, AllL z := fun z hz => by
            obtain ⟨d, hd, rfl⟩ := List.mem_map.mp hz
            exact isRow_al (al3 d hd)
          refine ⟨_, rfl, sn, _, rfl, .inl (.inl (.inl e3)), _, rfl, by omega, by omega, fun D hD => ?_⟩
          refine lc_range (lo := 0) (n := _) (fun i H' => H' D = some (.lst ((badK (ds.map rowN) i).map fun n => V.int (n : Nat))) ∧ Same H3 H') ⟨upd_same, same_new hD⟩ ?_ ?_
          · rintro i H4 hi ⟨eD, s4⟩
            have hi' : i < ds.length := by rw [lt] at hi; omega
            have e4 := s4 _ _ e3
            obtain ⟨z, hz⟩ : ∃ z, (ds.map rowN)[i]? = some z := ⟨_, List.getElem?_eq_getElem (by rw [List.length_map]; exact hi')⟩
            have hzv : ((ds.map rowN).map V.str)[i]? = some (.str z) := by rw [List.getElem?_map, hz]; rfl
            refine ⟨rfl, _, rfl, _, rfl, sn, _, _, _, rfl, rfl, .inl (.inl e4), (by show atI _ (0 + (i : Int)) = _; rw [Int.zero_add]; exact atI_nat (j := i) hzv), _, rfl, _, rfl, _, rfl, sn, _, rfl, .inl (.inl e4), fun l nl => ?_⟩
            rw [cutTo (k := i) (by show (0 + (i : Int)) = _; rw [Int.zero_add])]
            have s5 := same_new (o := .lst (((ds.map rowN).map V.str).take i)) nl
            have e5 : L2.upd H4 l (.lst (((ds.map rowN).map V.str).take i)) l = some (.lst (((ds.map rowN).take i).map V.str)) := by rw [upd_same, List.map_take]
            generalize L2.upd H4 l (.lst (((ds.map rowN).map V.str).take i)) = H5 at s5 e5 ⊢
            refine ⟨.str z, ((ds.map rowN).take i).map PyData.str, .str _, .lst (.inl (.inl e5)) (strs_dp _), al_shaped (als z (List.mem_of_getElem? hz)), strs_shaped (fun y hy => als y (List.mem_of_mem_take hy)), _, rfl, ?_⟩
            rw [strs_any]
            have eD5 := s5 _ _ eD
            have step : badK (ds.map rowN) (i + 1) = badK (ds.map rowN) i ++ (if z ∈ (ds.map rowN).take i then [i] else []) := by
              unfold badK
              rw [List.range_succ, List.filter_append]
              congr 1
              have gz : (ds.map rowN).getD i Str.empty = z := by rw [List.getD_eq_getElem?_getD, hz, Option.getD_some]
              by_cases hm : z ∈ (ds.map rowN).take i
              · rw [if_pos hm, List.filter_cons, if_pos (decide_eq_true (by rw [gz]; exact hm))]
                rfl
              · rw [if_neg hm, List.filter_cons, if_neg]
                · rfl
                · intro h
                  have h := of_decide_eq_true h
                  rw [gz] at h
                  exact hm h
            refine ite2 (fun c => ?_) (fun c => ?_)
            · refine ⟨_, rfl, _, eD5, ?_, ?_, fun b o e => ?_⟩
              · have := List.length_filter_le (fun k => decide ((ds.map rowN).getD k Str.empty ∈ (ds.map rowN).take k)) (List.range i)
                rw [List.length_range] at this
                rw [List.length_map, sizeLine_eq]
                show (badK (ds.map rowN) i).length < _
                unfold badK
                omega
              · rw [upd_same, step, if_pos (of_decide_eq_true c), List.map_append]
                show some (HO.lst (_ ++ [V.int (0 + (i : Int))])) = _
                rw [Int.zero_add]
                rfl
              · rw [upd_ne (ne_of_none e hD)]
                exact s5 _ _ (s4 _ _ e)
            · refine ⟨?_, s4.trans s5⟩
              rw [eD5, step, if_neg (fun h => c (decide_eq_true h)), List.append_nil]
          · rintro H4 ⟨eD, s4⟩
            refine ⟨len_show (Nat.le_of_ble_eq_true rfl), fun m nm => ?_⟩
            have s5 := same_new (o := .lst []) nm
            refine ⟨_, _, .lst (.inl (.inl (s5 _ _ eD))) (ints_dp _), .lst (.inl (.inl upd_same)) .nil, ints_shaped _, (by decide +kernel), ?_⟩
            rw [eqv_ints]
            have en : Int.toNat ((((ds.map rowN).map V.str).length : Nat) : Int) = (ds.map rowN).length := by
              rw [lt, List.length_map]
              omega
            rw [en, badK_nil]
            exact k _ (((s1.trans s3).trans s4).trans s5)
      · rw [decide_eq_false (show ¬ (xs.length : Int) ≤ 8 by omega)]
        rw [decide_eq_false c8, Bool.and_false, Bool.false_and, Bool.false_and] at k
        exact iteT (k _ s1)
    · rw [decide_eq_false (show ¬ (1 : Int) ≤ (xs.length : Int) by omega)]
      rw [decide_eq_false c1, Bool.false_and, Bool.false_and, Bool.false_and] at k
      exact iteF ⟨_, rfl, iteT (k _ s1)⟩

def sp_larerT (K : PySem.W.Frag) : Sp := fun vs H Q _ => ∃ (v : V) (ds : List PyData), vs = [v] ∧ Dg K H v (.tuple ds) ∧ RsG (.tuple ds) ∧ ∀ H', Same H H' → Q (.bl (isRsL ds)) H'
set_option maxHeartbeats 16000000 in
theorem ok_larerT {f : Addr} {fd : FuncData} (M : Blt mg) (Mx : Bltx mg) (ml : mg "list" = none) (F : Fun K "_law_are_rows" "_law_are_rows" s__law_are_rows f fd) (C__law_is_name : Cal P w K mg base CX0 2 "_law_is_name" ["_law_thing"] (sp_lisnm K)) (C__law_is_weight : Cal P w K mg base CX0 2 "_law_is_weight" ["_law_thing"] (sp_lisw K)) : FnG P w K mg base CX0 3 f fd ["_law_thing"] (sp_larerT K) := by
  refine Gfun F sc__law_are_rows (fun vs H Q E h => ?_) (fun cdv A outer s H vs Q E hg hr h => ?_)
  · obtain ⟨v, ds, rfl, _⟩ := h
    rfl
  · obtain ⟨v, ds, rfl, hq, rg, k⟩ := h
    refine ⟨_, (pss_cons (ps_if (PW.pt (pw_or (pt_not (pt_val (pe_callB call_isiT rfl Mx.isinstance bt_isinstance (pa_cons (pv 0) (pa_cons (pe_tup (pa_cons (pe_bltn (v := .ty "list") rfl ml bt_list rfl) (pa_cons (pe_bltn (v := .ty "tuple") rfl Mx.tuple bt_tuple rfl) pa_nil))) pa_nil))))) (pw_or1 (pt_not (pt_chain op_le op_le pe_int (pe_callB call_len_seq rfl M.len bt_len (pa_cons (pv 0) pa_nil)) pe_int)))))
      (pss_one (ps_ret pe_bl))
      pss_nil)
      (pss_cons (ps_set (i := 1) sc__law_are_rows.nd rfl (.inr rfl) (pe_lst pa_nil))
      (pss_cons (ps_for PassesOwn.never rfl (pi_tup (pv 0)) (pg_name (i := 2) sc__law_are_rows.nd rfl (.inl rfl))
      (pss_cons (ps_if (PW.pt (pw_or (pt_not (pt_val (pe_callB call_isi rfl Mx.isinstance bt_isinstance (pa_cons (pv 2) (pa_cons (pe_bltn (v := .ty "tuple") rfl Mx.tuple bt_tuple rfl) pa_nil))))) (pw_or (pt_cmpR op_ne (pe_callB call_len_seq rfl M.len bt_len (pa_cons (pv 2) pa_nil)) pe_int (nomark _)) (pw_or (pt_not (pt_val (pe_g C__law_is_name (hr.mono (by decide)) hg (pa_cons (pe_ix ix_tup (pv 2) pe_int (fun _ _ => rfl)) pa_nil)))) (pw_or1 (pt_not (pt_val (pe_g C__law_is_weight (hr.mono (by decide)) hg (pa_cons (pe_ix ix_tup (pv 2) pe_int (fun _ _ => rfl)) pa_nil)))))))))
      (pss_one (ps_ret pe_bl))
      pss_nil)
      (pss_one (ps_expr (pe_bm PySem.F.plainAttrs_list PySem.F.slot_list_append PySem.F.type_list_append mt_append (pv 1) (pa_cons (pe_ix ix_tup (pv 2) pe_int (fun _ _ => rfl)) pa_nil))))))
      (pss_one (ps_ret (pe_cmpR (op_eqD hr.units) (pe_lc (own := [("_law_k", 3)]) (g := gName 3) rfl sc__law_are_rows.nd (pi_range1 rfl M.range (pa_cons (pe_callB call_len_seq rfl M.len bt_len (pa_cons (pv 1) pa_nil)) pa_nil)) (blkOk_by (N := ["_law_thing", "_law_seen", "_law_row", "_law_k"]) (sc := defScope s__law_are_rows) (by decide +kernel)) (fun _ _ _ _ _ => pg_name (i := 3) sc__law_are_rows.nd rfl (Or.inl rfl)) (fun _ _ _ _ _ => (pts_one (pt_cmpR (op_inK (K := K) (by exact u65 hr)) (pe_ix (ix_listK (K := K)) (pv 1) (pv 3) (fun _ _ => rfl)) (pe_slice (sl_listK (K := K)) (pv 1) po_none (po_some (pv 3))) rfl))) (fun _ _ _ _ _ => (pv 3))) (pe_lst pa_nil) (nomark _))))))), ?_⟩
    obtain ⟨hl100, rwg⟩ := rg ds (.inr rfl)
    refine ⟨_, rfl, len_show (Nat.le_of_ble_eq_true rfl), fun tp nt => ?_⟩
    have s1 : Same H (L2.upd H tp (.tup [.ty "list", .ty "tuple"])) := same_new nt
    refine ⟨_, tp, _, _, _, true, rfl, upd_same, .cons (.ty "list") (.cons (.ty "tuple") .nil), (hq.same s1).ty, k_lt (.tuple ds), _, rfl, ?_⟩
    generalize L2.upd H tp (.tup [.ty "list", .ty "tuple"]) = H1 at s1 ⊢
    refine iteF ?_
    obtain ⟨a, xs, hx, hS, hA⟩ : ∃ a xs, v = .ref a ∧ SqT K H a xs ∧ DgAll K H xs ds := by
      cases hq with
      | tup h1 h2 => exact ⟨_, _, rfl, h1, h2⟩
    subst hx
    have hl : xs.length = ds.length := DgAll.len hA
    refine ⟨_, rfl, a, xs, rfl, .inr (sm_t s1 hS), _, _, rfl, rfl, _, rfl, ?_⟩
    unfold isRsL at k
    by_cases c1 : 1 ≤ ds.length
    · rw [decide_eq_true (show (1 : Int) ≤ (xs.length : Int) by omega)]
      refine iteT ⟨_, _, rfl, rfl, _, rfl, ?_⟩
      by_cases c8 : ds.length ≤ 8
      · rw [decide_eq_true (show (xs.length : Int) ≤ 8 by omega)]
        refine iteF ?_
        rw [decide_eq_true c1, decide_eq_true c8, Bool.true_and, Bool.true_and] at k
        refine ⟨len_show (Nat.le_of_ble_eq_true rfl), fun sn nsn => ?_⟩
        have s2 : Same H1 (L2.upd H1 sn (.lst [])) := same_new nsn
        have e2 : L2.upd H1 sn (.lst []) sn = some (.lst []) := upd_same
        generalize L2.upd H1 sn (.lst []) = H2 at s2 e2 ⊢
        have e2' : H2 sn = some (.lst (((ds.take 0).map rowN).map V.str)) := e2
        have noAll : ∀ {i d}, ds[i]? = some d → isRow d = false → ds.all isRow = false := fun hd hr => by
          rw [List.all_eq_false]
          exact ⟨_, List.mem_of_getElem? hd, by rw [hr]; decide⟩
        refine ⟨_, rfl, a, rfl, ⟨_, sm_t (s1.trans s2) hS⟩, ?_⟩
        refine for_tup (xs := xs) (fun i σ H' => ∃ (y2 y3 : Option V), σ = [some (.ref a), some (.ref sn), y2, y3] ∧ Same H1 H' ∧ H' sn = some (.lst (((ds.take i).map rowN).map V.str)) ∧ ∀ d ∈ ds.take i, isRow d = true) ⟨_, _, rfl, s2, e2', fun d hd => by rw [List.take_zero] at hd; cases hd⟩ (fun i σ H' _ h => sm_t (s1.trans h.choose_spec.choose_spec.2.1) hS) ?_ ?_
        · rintro i x σ H3 hx ⟨y2, y3, rfl, s3, e3, al3⟩
          obtain ⟨d, hd, hdg⟩ := hA.get hx
          have hi : i < xs.length := (List.getElem?_eq_some_iff.mp hx).1
          have hdg3 := hdg.same (s1.trans s3)
          have no : isRow d = false → ∀ H', Same H H' → Q (.bl false) H' := fun h H' s => by
            have := k H' s
            rw [noAll hd h, Bool.false_and] at this
            exact this
          have rgd := rwg d (List.mem_of_getElem? hd)
          refine ⟨_, rfl, _, _, _, _, _, rfl, .ty "tuple", hdg3.ty, kit_ty (kt d), _, rfl, ?_⟩
          by_cases ht : isT d = true
          · rw [ht]
            refine iteF ?_
            obtain ⟨ra, ys, es, rfl, rfl, hSr, hAr, _⟩ := hdg3.tupI ht
            refine ⟨_, rfl, ra, ys, rfl, .inr hSr, rfl, _, rfl, ?_⟩
            by_cases hl2 : ys.length = 2
            · refine iteNS (show V.int (ys.length : Int) = V.int 2 by rw [hl2]; rfl) ?_
              obtain ⟨x1, x2, d1, d2, rfl, rfl, g1, g2⟩ := two_of hAr hl2
              refine ⟨_, rfl, ra, _, _, _, rfl, rfl, hSr, atI_nat (j := 0) rfl, x1, d1, rfl, g1, (rgd _ rfl d1 (by simp)).st, fun Ha sa => ?_⟩
              have hSa := sm_t sa hSr
              by_cases n1 : isNm d1 = true
              · rw [n1]
                refine ⟨_, rfl, iteF ?_⟩
                refine ⟨_, rfl, ra, _, _, _, rfl, rfl, hSa, atI_nat (j := 1) rfl, x2, d2, rfl, g2.same sa, (fun a b e => Nat.lt_of_lt_of_le ((rgd _ rfl d2 (by simp)).fr a b e).2 (Nat.pow_le_pow_right (by decide) (by decide))), fun Hb sb => ?_⟩
                have hSb := sm_t sb hSa
                have s3b := (s3.trans sa).trans sb
                by_cases n2 : isAb d2 = true
                · rw [n2]
                  refine ⟨_, rfl, iteF ?_⟩
                  have es : isS d1 = true := by cases d1 <;> first | rfl | cases n1
                  obtain ⟨z, rfl, rfl⟩ := g1.txt es
                  have eb := sb _ _ (sa _ _ e3)
                  refine ⟨_, rfl, .inl ⟨rfl, _, .inl (.inl eb)⟩, _, rfl, ra, _, _, _, rfl, rfl, hSb, atI_nat (j := 0) rfl, sn, _, _, rfl, rfl, eb, ?_, _, _, rfl, fun b o e => ?_, ?_, fun d' hd' => ?_⟩
                  · rw [List.length_map, List.length_map, List.length_take, sizeLine_eq]
                    omega
                  · rw [upd_ne (ne_of_none e nsn)]
                    exact s3b _ _ e
                  · rw [upd_same, List.take_succ, hd, Option.toList_some, List.map_append, List.map_append]
                    rfl
                  · rw [List.take_succ, hd, Option.toList_some] at hd'
                    rcases List.mem_append.mp hd' with h | h
                    · exact al3 d' h
                    · rw [List.mem_singleton.mp h]
                      show (isNm (.str z) && isAb d2) = true
                      rw [n1, n2]
                      rfl
                · have n2' : isAb d2 = false := Bool.eq_false_iff.mpr n2
                  rw [n2']
                  refine ⟨_, rfl, iteT (no ?_ _ (s1.trans s3b))⟩
                  show (isNm d1 && isAb d2) = false
                  rw [n2', Bool.and_false]
              · have n1' : isNm d1 = false := Bool.eq_false_iff.mpr n1
                rw [n1']
                refine ⟨_, rfl, iteT (no ?_ _ (s1.trans (s3.trans sa)))⟩
                show (isNm d1 && isAb d2) = false
                rw [n1', Bool.false_and]
            · refine iteN (fun z => hl2 (by have := V.int.inj z; omega)) (no ?_ _ (s1.trans s3))
              have hl3 : es.length ≠ 2 := by rw [← DgAll.len hAr]; exact hl2
              match es, hl3 with
              | [], _ => rfl
              | [_], _ => rfl
              | [_, _], h => exact absurd rfl h
              | _ :: _ :: _ :: _, _ => rfl
          · have ht' : isT d = false := Bool.eq_false_iff.mpr ht
            rw [ht']
            refine iteT (no ?_ _ (s1.trans s3))
            cases d <;> first | rfl | exact absurd rfl ht
        · rintro σ H3 ⟨y2, y3, rfl, s3, e3, al3⟩
          rw [hl, List.take_length] at e3 al3
          have all1 : ds.all isRow = true := List.all_eq_true.mpr al3
          rw [all1, Bool.true_and] at k
          have lt : ((ds.map rowN).map V.str).length = ds.length := by rw [List.length_map, List.length_map]
          have als : ∀ z ∈ ds.map rowN, AllL z := fun z hz => by
            obtain ⟨d, hd, rfl⟩ := List.mem_map.mp hz
            exact isRow_al (al3 d hd)
          refine ⟨_, rfl, sn, _, rfl, .inl (.inl (.inl e3)), _, rfl, by omega, by omega, fun D hD => ?_⟩
          refine lc_range (lo := 0) (n := _) (fun i H' => H' D = some (.lst ((badK (ds.map rowN) i).map fun n => V.int (n : Nat))) ∧ Same H3 H') ⟨upd_same, same_new hD⟩ ?_ ?_
          · rintro i H4 hi ⟨eD, s4⟩
            have hi' : i < ds.length := by rw [lt] at hi; omega
            have e4 := s4 _ _ e3
            obtain ⟨z, hz⟩ : ∃ z, (ds.map rowN)[i]? = some z := ⟨_, List.getElem?_eq_getElem (by rw [List.length_map]; exact hi')⟩
            have hzv : ((ds.map rowN).map V.str)[i]? = some (.str z) := by rw [List.getElem?_map, hz]; rfl
            refine ⟨rfl, _, rfl, _, rfl, sn, _, _, _, rfl, rfl, .inl (.inl e4), (by show atI _ (0 + (i : Int)) = _; rw [Int.zero_add]; exact atI_nat (j := i) hzv), _, rfl, _, rfl, _, rfl, sn, _, rfl, .inl (.inl e4), fun l nl => ?_⟩
            rw [cutTo (k := i) (by show (0 + (i : Int)) = _; rw [Int.zero_add])]
            have s5 := same_new (o := .lst (((ds.map rowN).map V.str).take i)) nl
            have e5 : L2.upd H4 l (.lst (((ds.map rowN).map V.str).take i)) l = some (.lst (((ds.map rowN).take i).map V.str)) := by rw [upd_same, List.map_take]
            generalize L2.upd H4 l (.lst (((ds.map rowN).map V.str).take i)) = H5 at s5 e5 ⊢
            refine ⟨.str z, ((ds.map rowN).take i).map PyData.str, .str _, .lst (.inl (.inl e5)) (strs_dp _), al_shaped (als z (List.mem_of_getElem? hz)), strs_shaped (fun y hy => als y (List.mem_of_mem_take hy)), _, rfl, ?_⟩
            rw [strs_any]
            have eD5 := s5 _ _ eD
            have step : badK (ds.map rowN) (i + 1) = badK (ds.map rowN) i ++ (if z ∈ (ds.map rowN).take i then [i] else []) := by
              unfold badK
              rw [List.range_succ, List.filter_append]
              congr 1
              have gz : (ds.map rowN).getD i Str.empty = z := by rw [List.getD_eq_getElem?_getD, hz, Option.getD_some]
              by_cases hm : z ∈ (ds.map rowN).take i
              · rw [if_pos hm, List.filter_cons, if_pos (decide_eq_true (by rw [gz]; exact hm))]
                rfl
              · rw [if_neg hm, List.filter_cons, if_neg]
                · rfl
                · intro h
                  have h := of_decide_eq_true h
                  rw [gz] at h
                  exact hm h
            refine ite2 (fun c => ?_) (fun c => ?_)
            · refine ⟨_, rfl, _, eD5, ?_, ?_, fun b o e => ?_⟩
              · have := List.length_filter_le (fun k => decide ((ds.map rowN).getD k Str.empty ∈ (ds.map rowN).take k)) (List.range i)
                rw [List.length_range] at this
                rw [List.length_map, sizeLine_eq]
                show (badK (ds.map rowN) i).length < _
                unfold badK
                omega
              · rw [upd_same, step, if_pos (of_decide_eq_true c), List.map_append]
                show some (HO.lst (_ ++ [V.int (0 + (i : Int))])) = _
                rw [Int.zero_add]
                rfl
              · rw [upd_ne (ne_of_none e hD)]
                exact s5 _ _ (s4 _ _ e)
            · refine ⟨?_, s4.trans s5⟩
              rw [eD5, step, if_neg (fun h => c (decide_eq_true h)), List.append_nil]
          · rintro H4 ⟨eD, s4⟩
            refine ⟨len_show (Nat.le_of_ble_eq_true rfl), fun m nm => ?_⟩
            have s5 := same_new (o := .lst []) nm
            refine ⟨_, _, .lst (.inl (.inl (s5 _ _ eD))) (ints_dp _), .lst (.inl (.inl upd_same)) .nil, ints_shaped _, (by decide +kernel), ?_⟩
            rw [eqv_ints]
            have en : Int.toNat ((((ds.map rowN).map V.str).length : Nat) : Int) = (ds.map rowN).length := by
              rw [lt, List.length_map]
              omega
            rw [en, badK_nil]
            exact k _ (((s1.trans s3).trans s4).trans s5)
      · rw [decide_eq_false (show ¬ (xs.length : Int) ≤ 8 by omega)]
        rw [decide_eq_false c8, Bool.and_false, Bool.false_and, Bool.false_and] at k
        exact iteT (k _ s1)
    · rw [decide_eq_false (show ¬ (1 : Int) ≤ (xs.length : Int) by omega)]
      rw [decide_eq_false c1, Bool.false_and, Bool.false_and, Bool.false_and] at k
      exact iteF ⟨_, rfl, iteT (k _ s1)⟩

end
end Lf

set_option Elab.async false
set_option linter.all false
set_option maxRecDepth 100000
/-! Clauses of a try, one after the other, some with a name: each clause by itself (Heard), then the try. -/
namespace Lf
open PySem PySem.Spec PyProof.Rows L2
/-- the exception at a has come to the clauses of a try -/
structure Came (X : Cx) (pins : List (Addr × Obj)) (a : Addr) (cls : Value) (d : Option Addr) (σ : L2.St) (H : Hp) (s : Shared) : Prop where
  own : H a = none
  bare : AllBare s.gens
  way : ∃ (B : Heap) (s₀ : Shared), HandSPX.FlyingZ B (X.env :: X.outer) a (Zc cls d) s.heap ∧ Inv X pins σ H s₀ ∧ (∀ b o, s₀.heap.get? b = some o → b ∉ frs X.stack → B.get? b = some o) ∧ s₀.heap.UpToSlots s.heap ∧ s.os = s₀.os
section
variable {X : Cx} {pins : List (Addr × Obj)} {a : Addr} {cls : Value} {d : Option Addr} {σ : L2.St} {H : Hp} {s : Shared}
theorem Came.inv (c : Came X pins a cls d σ H s) : Inv X pins σ H s := by
  obtain ⟨_, _, g1, g2, g3, g4, g5⟩ := c.way
  exact Inv.landed g2 g3 g1.1 g4 g5 c.bare
/-- landed again: its slots alone are others -/
theorem Came.next (c : Came X pins a cls d σ H s) {B : Heap} {s₀ : Shared} (g2 : Inv X pins σ H s₀) (g3 : ∀ b o, s₀.heap.get? b = some o → b ∉ frs X.stack → B.get? b = some o) (g4 : s₀.heap.UpToSlots s.heap) (g5 : s.os = s₀.os) {h : Heap}
    (f : HandSPX.FlyingZ B (X.env :: X.outer) a (Zc cls d) h) (u : s.heap.UpToSlots h) : Came X pins a cls d σ H { s with heap := h } :=
  ⟨c.own, c.bare, B, s₀, f, g2, g3, Heap.UpToSlots.trans g4 u, g5⟩
/-- what a clause's suite starts from -/
theorem Came.suite (c : Came X pins a cls d σ H s) (lk : X.env.frame = some X.env.locals) : ∃ oe vs, s.heap.get? a = some oe ∧ oe.data = .fields vs ∧ Zc cls d oe ∧ Inv (X.suite a ((a, oe) :: (X.pn ++ pins))) [] σ H s := by
  obtain ⟨B, _, fly, _⟩ := c.way
  obtain ⟨oe, vs, at_, kind, data⟩ := HandSPX.FlyingZ.there fly
  have out : ∀ e ∈ X.env :: X.outer, e.frame ≠ some a := fun e he z => by
    obtain ⟨_, ob, there, bad⟩ := Heap.FunFrames.mem fly.2.2.1 (List.mem_filterMap.mpr ⟨e, he, z⟩)
    rw [at_] at there
    exact bad vs (Option.some.inj there ▸ data)
  refine ⟨oe, vs, at_, data, kind, Inv.suite c.inv at_ data c.own (fun z => out X.env List.mem_cons_self (z ▸ lk)) fun z => ?_⟩
  obtain ⟨e, he, ef⟩ := List.mem_filterMap.mp z
  exact out e (List.mem_cons_of_mem _ he) ef
end
/-- these clauses do as W says with what comes to them -/
def Heard (X : Cx) (hds : List ExceptHandler) (W : Ends → WX) : Prop :=
  ∀ (pins : List (Addr × Obj)) (D : Ends) (a : Addr) (cls : Value) (d : Option Addr) (σ : L2.St) (H : Hp) (s : Shared), Came X pins a cls d σ H s → W D cls d σ H → wpAny (model X.prog X.w) X.A (handleBy (.ref a) X.env hds) (SP X pins D) X.xe s
section
variable {X : Cx} {x n : Str} {c : Value} {i : Nat} {body suite : List Stmt} {b₀ : Stmt} {np pos pos' : Pos} {tb : WX → TS} {ts : Addr → Value → Option Addr → TS} {W : Ends → WX} {Wout : WX} {hds : List ExceptHandler} {h₀ : ExceptHandler}
/-- no clause is left: it goes on -/
theorem heard_nil (hs : X.stack = X.env :: X.outer) (hf : X.env.frame = some X.env.locals) (tk : Takes X Wout) : Heard X [] fun _ => Wout := by
  intro pins D a cls d σ H s ca w
  obtain ⟨B, s₀, fly, g2, g3, g4, g5⟩ := ca.way
  have fly2 := fly
  obtain ⟨_, _, _, _, vs, T, _, _, at_, _, data, tb_, _⟩ := fly2
  apply wpAny_handleBy_nil
  unfold PySem.passOn
  apply wpAny_bind
  apply wpAny_field at_ data tb_
  have last : wpAny (model X.prog X.w) X.A (setFlight (.ref a) X.env.frame) (fun _ s' => wpAny (model X.prog X.w) X.A (throw (.ref a) : Sem Flow) (SP X pins D) X.xe s') X.xe s := by
    rw [hf]
    apply HandSPX.setFlight_upZ fly
    intro h held u
    apply wpAny_throw
    apply tk
    exact ⟨a, B, s₀, pins, σ, H, cls, d, rfl, g2, g3, Heap.UpToSlots.trans g4 u, Or.inr (Or.inr (hs ▸ held)), ca.own, g5, ca.bare, w⟩
  have some_ : ¬ ((Value.ref T == Value.none) = true) := by simp
  rw [if_neg some_]
  first
    | exact wpAny_bind last
    | exact wpAny_bind (wpAny_pure (wpAny_bind last))
/-- the class that a clause names is told -/
theorem Names.told (hc : Names X x c) {a : Addr} {q : Addr × Obj} {pn : List (Addr × Obj)} {σ : L2.St} {H : Hp} {s : Shared} (I : Inv (X.suite a (q :: pn)) [] σ H s) {Q E : Value → Shared → Prop} (k : Q c s) : wpAny (model X.prog X.w) (X.A.mark (some (.ref a))) (eval (.Name x np) X.env) Q E s := by
  obtain ⟨g, nd, m | ⟨m, b, nn⟩⟩ := hc
  · exact ld_glob (X := X.suite a (q :: pn)) I g m k nd
  · exact ld_blt (X := X.suite a (q :: pn)) I g m b k nn nd
/-- whether it is of the class -/
theorem Came.test {pins : List (Addr × Obj)} {a : Addr} {cls : Value} {d : Option Addr} {σ : L2.St} {H : Hp} {s : Shared} (ca : Came X pins a cls d σ H s) {b : Bool} (e : PySem.W.exmOne X.K cls c = some b) : PySem.W.Looks (model X.prog X.w) s.heap (excMatches (.ref a) c) b := by
  obtain ⟨B, _, fly, _⟩ := ca.way
  obtain ⟨oe, _, at_, kind, _⟩ := HandSPX.FlyingZ.there fly
  refine PySem.W.exm_one ca.inv.kIn (fun A Q E s' keep q => ?_) e
  have at' := keep _ _ at_
  apply wpAny_typeOf_ref at'
  rwa [kind.1]
/-- except x as n: .. -/
theorem heard_as (hf : X.env.frame = some X.env.locals) (hN : X.N.Nodup) (hi : X.N[i]? = some n) (hln : X.env.kindOf n = some .local) (hc : Names X x c) (ok : X.Ok)
    (hsu : ∀ (a : Addr) (oe : Obj) (cls : Value) (d : Option Addr) (pn : List (Addr × Obj)), Zc cls d oe → (∃ vs, oe.data = .fields vs) → PSs (X.suite a ((a, oe) :: pn)) (b₀ :: suite) (ts a cls d)) (r : Heard X hds W) :
    Heard X (.ExceptHandler (some (.Name x np)) (some n) (b₀ :: suite) pos' :: hds) fun D => wAs X.K c i ts (W D) D := by
  intro pins D a cls d σ H s ca ⟨b, eb, yes, no⟩
  obtain ⟨oe, vs, _, _, _, S⟩ := ca.suite hf
  apply wpAny_handleBy_cons
  case hnb => exact fun z => nomatch z
  apply codeAny_handlers_test
  apply Names.told hc S
  apply PySem.W.Looks.here (ca.test eb)
  cases b
  · exact r pins D a cls d σ H s ca (no rfl)
  apply codeAny_handlers_suite_as
  obtain ⟨B, s₀, fly, g2, g3, g4, g5⟩ := ca.way
  apply HandSPX.lands_againZ fly
  intro h fly' u
  have ca' := ca.next g2 g3 g4 g5 fly' u
  obtain ⟨oe', vs', _, data', kind', S'⟩ := ca'.suite hf
  apply store_ok (v := .ref a) S' hN hi (.inl hln) rfl _ (.inr hln)
  intro s5 I5
  have run := (hsu a oe' cls d (X.pn ++ pins) kind' ⟨vs', data'⟩).run [] s5 _ H _ I5 (yes rfl a ca.own)
  refine wpAny_mono run (fun f s6 told => ?_) fun _ _ z => False.elim z
  have clean : ∀ {σ6 : L2.St} {H6 : Hp} {Q : Shared → Prop}, Inv (X.suite a ((a, oe') :: (X.pn ++ pins))) [] σ6 H6 s6 → (∀ s7, Inv X pins (σ6.set i none) H6 s7 → Q s7) → wpAny (model X.prog X.w) X.A (do bindName X.env n .none; unbindBehindTheSuite X.env n pos') (fun _ s7 => Q s7) X.xe s6 :=
    fun I6 k => gone_ok (Inv.unsuite I6 ok) hN hi hln k
  cases f
  case ret u =>
    obtain ⟨v, σ6, H6, I6, rv_, q⟩ := told
    exact clean I6 fun _ I7 => ⟨v, _, H6, I7, rv_, q⟩
  all_goals
    obtain ⟨σ6, H6, I6, q⟩ := told
    exact clean I6 fun _ I7 => ⟨_, H6, I7, q⟩
/-- what becomes of an exception of the body -/
def Caught (X : Cx) (hds : List ExceptHandler) (Q : Flow → Shared → Prop) : Value → Shared → Prop := fun u s' =>
  wpAny (model X.prog X.w) X.A (noteFrame u X.env) (fun _ s1 => wpAny (model X.prog X.w) X.A (setFlight u none) (fun _ s2 => wpAny (model X.prog X.w) X.A (handleBy u X.env hds) Q X.xe s2) X.xe s1) X.xe s'
theorem caught_of {pins : List (Addr × Obj)} {D : Ends} {l : List ExceptHandler} (hs : X.stack = X.env :: X.outer) (hf : X.env.frame = some X.env.locals) (ok : X.Ok) (hh : Heard X l W) : Takes (X.tr (X.pn ++ pins) (Caught X l (SP X pins D))) (W D) := by
  intro u s' came
  obtain ⟨a, B, s₀, pn', σ', H', cls, d, rfl, I', g3, g4, sky, own, g5, ag, w⟩ := came
  have sky' : Sky B (X.env :: X.outer) a (Zc cls d) X.env.locals s'.heap := by
    rw [← hs]
    exact sky
  have fr : X.A.frames = some (X.env :: X.outer) := by rw [ok.frames, hs]
  exact Sky.land Zc.steady fr hf sky' fun h fly u => hh pins D a cls d σ' H' _ ⟨own, ag, B, s₀, fly, Inv.ofTry I' ok, g3, Heap.UpToSlots.trans g4 u, g5⟩ w
/-- a try by its clauses -/
theorem ps_try_heard (hs : X.stack = X.env :: X.outer) (hf : X.env.frame = some X.env.locals)
    (hb : ∀ (W : WX) (pn : List (Addr × Obj)) (xe : Value → Shared → Prop), Takes (X.tr pn xe) W → PassesOwn (model X.prog X.w) X.A X.env xe → PSs (X.tr pn xe) body (tb W))
    (hh : X.Ok → Heard X (h₀ :: hds) W) : PS X (.Try body (h₀ :: hds) [] [] pos) fun D σ H => tb (W D) D σ H := by
  constructor
  intro pins s σ H D I h
  have ok := I.ok
  apply wpAny_Try_except
  have run := (hb (W D) (X.pn ++ pins) (Caught X (h₀ :: hds) (SP X pins D)) (caught_of hs hf ok (hh ok)) PassesOwn.looking).run [] s σ H D (I.toTry _) h
  refine wpAny_mono run (fun f s1 told => ?_) fun _ _ z => z
  cases f
  case next =>
    obtain ⟨σ1, H1, I1, q⟩ := told
    exact wpAny_execs_nil ⟨σ1, H1, Inv.ofTry I1 ok, q⟩
  case ret u =>
    obtain ⟨v, σ1, H1, I1, rv_, q⟩ := told
    exact ⟨v, σ1, H1, Inv.ofTry I1 ok, rv_, q⟩
  all_goals
    obtain ⟨σ1, H1, I1, q⟩ := told
    exact ⟨σ1, H1, Inv.ofTry I1 ok, q⟩
end
end Lf

set_option Elab.async false
set_option linter.all false
set_option maxRecDepth 100000
set_option maxHeartbeats 4000000
/-! max of a tuple of two whole numbers; isinstance of a caught error and a tuple of classes. -/
namespace Lf
open PySem PySem.Spec PyProof.Rows L2
def rMaxT2 (K : PySem.W.Frag) : List V → Hp → VK → Prop := fun xs H Q => ∃ (p : Addr) (i j : Int), xs = [.ref p] ∧ SqT K H p [.int i, .int j] ∧ ∀ m : Int, i ≤ m → j ≤ m → Q (.int m) H
theorem call_maxT2 {X : Cx} (hc : X.calm = true) {k : Nat} (hr : Room k X.A) : CallR X (.builtin "max") (rMaxT2 X.K) := by
  intro pins s σ H xs us Q I r h
  obtain ⟨p, i, j, rfl, hS, q⟩ := h
  obtain ⟨its, rv, ht, _⟩ := I.tuple hS
  rw [Vals.ref1 r]
  have hu := hr.units
  have rd : ∃ as, ReadsAll s.heap its [PyData.int i, PyData.int j] as := by
    cases rv with
    | cons r1 rv =>
      cases rv with
      | cons r2 rv =>
        cases rv
        obtain ⟨t1, rfl⟩ := r1
        obtain ⟨t2, rfl⟩ := r2
        exact ⟨_, .cons (.int i t1) (.cons (.int j t2) .nil)⟩
  obtain ⟨as, rd⟩ := rd
  have al : PySem.W.AlikeAll [PyData.int i, PyData.int j] := by
    refine ⟨fun x hx y hy => ?_, fun x hx => ?_⟩
    · simp only [List.mem_cons, List.not_mem_nil, or_false] at hx hy
      rcases hx with rfl | rfl <;> rcases hy with rfl | rfl <;> rfl
    · simp only [List.mem_cons, List.not_mem_nil, or_false] at hx
      rcases hx with rfl | rfl <;> exact fun z => nomatch z
  refine PySem.W.max_tuple_data (x := .int i) (xs := [.int j]) (as := as) (I.ok.hd hc) ht (by simpa using rd) al (by simp only [PyData.depthAll, PyData.depth]; omega) fun n v h' tk bs hn rr hk => ?_
  have e : PySem.W.maxD (.int i) [PyData.int j] = .int (max i j) := PySem.W.maxD_ints i [j]
  rw [e] at rr
  cases rr with
  | int _ t => exact ⟨.int (max i j), H, I.kept hk, ⟨_, rfl⟩, q _ (by omega) (by omega)⟩
/-- isinstance(e, (C1, ..)), e the error that the suite holds -/
def rIsXT (K : PySem.W.Frag) (D a : Addr) (cls : Value) (d : Option Addr) : List V → Hp → VK → Prop := fun xs H Q => cls = .ref D ∧ (d = none ∨ ∃ (dd : Addr) (fs : List (Str × V)), d = some dd ∧ H dd = some (.xd fs)) ∧
  ∃ (tp : Addr) (cs : List V) (ws : List Value) (b : Bool), xs = [.ref a, .ref tp] ∧ H tp = some (.tup cs) ∧ Paired ClsV cs ws ∧ PySem.W.kitAny K (.ref D) ws = some b ∧ Q (.bl b) H
theorem call_isXT {X : Cx} {a D : Addr} {oe : Obj} {cls : Value} {d : Option Addr} {pn : List (Addr × Obj)} (C : ExcC X.K D) (hz : Zc cls d oe) (hf : ∃ vs, oe.data = .fields vs) : CallR (X.suite a ((a, oe) :: pn)) (.builtin "isinstance") (rIsXT X.K D a cls d) := by
  intro pins s σ H xs us Q I r h
  obtain ⟨ec, hd, tp, cs, ws, b, rfl, hT, hcv, e, q⟩ := h
  obtain ⟨u1, u2, rfl, r1, r2⟩ := vals2 r
  cases (show u2 = Value.ref tp from r2)
  cases (show u1 = Value.ref a from r1)
  obtain ⟨_, its, rv, o, h1, h2, n, h3⟩ := (show ObjOk X.prog X.w H s.heap tp (.tup cs) from I.hok tp _ hT)
  have e3 := ClsV.all hcv rv
  subst e3
  obtain ⟨oc, od0, dt, sl⟩ := o
  simp only at h2 h3
  subst h2 h3
  obtain ⟨hget, _⟩ := I.pin (a, oe) (List.mem_append.mpr (.inl List.mem_cons_self))
  obtain ⟨vs, hv⟩ := hf
  have J : ∃ od, PySem.W.InstAt s.heap a oe D od := by
    rcases hd with hd | ⟨dd, fs, hd, hH⟩
    · exact ⟨none, hget, by rw [hz.1, ec], by unfold PySem.W.notCls; rw [hv] <;> rfl, by rw [hz.2, hd]; trivial⟩
    · have hx : ObjOk X.prog X.w H s.heap dd (.xd fs) := I.hok dd _ hH
      obtain ⟨o, ho⟩ := objOk_get hx
      exact ⟨some o, hget, by rw [hz.1, ec], by unfold PySem.W.notCls; rw [hv] <;> rfl, by rw [hz.2, hd]; exact ho⟩
  obtain ⟨od, J⟩ := J
  exact PySem.W.kia_tup (kit_own (od := od) C) I.kIn J h1 e (fun z => nomatch z) fun tk => ⟨.bl b, H, I.kept (t' := tk) fun _ _ z => z, rfl, q⟩
end Lf

set_option Elab.async false
set_option linter.all false
set_option maxRecDepth 100000
set_option maxHeartbeats 4000000
/-! isinstance of a caught error, the part K given. -/
namespace Lf
open PySem PySem.Spec PyProof.Rows L2
theorem call_isXK {X : Cx} {K : PySem.W.Frag} {a D : Addr} {oe : Obj} {cls : Value} {d : Option Addr} {pn : List (Addr × Obj)} (C : ExcC K D) (hz : Zc cls d oe) (hf : ∃ vs, oe.data = .fields vs) (hK : X.K = K := by rfl) : CallR (X.suite a ((a, oe) :: pn)) (.builtin "isinstance") (rIsX K D a cls d) := by
  subst hK
  exact call_isX C hz hf
theorem call_isXTK {X : Cx} {K : PySem.W.Frag} {a D : Addr} {oe : Obj} {cls : Value} {d : Option Addr} {pn : List (Addr × Obj)} (C : ExcC K D) (hz : Zc cls d oe) (hf : ∃ vs, oe.data = .fields vs) (hK : X.K = K := by rfl) : CallR (X.suite a ((a, oe) :: pn)) (.builtin "isinstance") (rIsXT K D a cls d) := by
  subst hK
  exact call_isXT C hz hf
end Lf

set_option Elab.async false
set_option linter.all false
set_option maxRecDepth 100000
set_option maxHeartbeats 4000000
/-! A caught error that is handed to a def: the def stands while the error is held; what is known of the error is told at the reading. -/
namespace Lf
open PySem PySem.Spec PyProof.Rows L2
open L2H (RoomH PinOk cxH inv_startH)
section
variable {P : Program} {w : World} {K : PySem.W.Frag} {mg : Str → Option Value} {base : Heap} {k : Nat} {f : Addr} {fd : FuncData} {ps : List Str} {sp : Addr × Obj → Sp}
/-- a def's promise where an error is held -/
structure FnL (P : Program) (w : World) (K : PySem.W.Frag) (mg : Str → Option Value) (base : Heap) (k : Nat) (f : Addr) (fd : FuncData) (ps : List Str) (sp : Addr × Obj → Sp) : Prop where
  size : ∀ p vs H Q E, sp p vs H Q E → vs.length = ps.length
  goes : ∀ (p : Addr × Obj) (B : Around) (out : List Env) (s : Shared) (H : Hp) (ar : Args) (us : List Value) (vs : List V) (Q : VK) (E : XK),
    RoomH k B → B.guards = some [] → PinOk out H s p → Env0 P w K mg base B out s H → BindsTo s fd ar (ps.zip us) → Vals vs us → sp p vs H Q E →
      codeAny (model P w) B (.call (.ref f) ar) (CR CX0 out P w H s Q E) s
theorem Lfun {x qual : Str} {st : Stmt} {N : List Str} (F : Fun K x qual st f fd) (S : FnScope N ps (defScope st)) (size : ∀ p vs H Q E, sp p vs H Q E → vs.length = ps.length)
    (body : ∀ (cdv : Value) (B : Around) (out : List Env) (s : Shared) (H : Hp) (vs : List V) (Q : VK) (E : XK) (p : Addr × Obj), B.guards = some [] →
      RoomH k (B.deeper (envOfC qual (defScope st) s.heap.objs.size f cdv)) → sp p vs H Q E →
      ∃ t, PSs (cxH CX0 P w K mg base N qual (defScope st) f cdv B out s H E p) (defBody st) t ∧
        t { nx := fun _ H' => Q .non H', rt := Q } (start N vs) H) : FnL P w K mg base (k + 1) f fd ps sp := by
  obtain ⟨oc, od, kV, doc, pm, an, cdv, ct, osl, rfl, lk, hcd⟩ := F.ex
  refine ⟨size, fun p B out s H ar us vs Q E hr hg hp e0 hb r hs => ?_⟩
  have old : ∀ b o, base.get? b = some o → s.heap.get? b = some o := fun b o e => (e0.bs b o e).1
  have kin : K.In s.heap := e0.mod.kin.keeps old
  refine codeAny_call_function hr.depth (kin _ _ lk) rfl S.co S.gen rfl (PySem.W.codeRec_of kin hcd) (hb _ _ _ _ ?_)
  refine wpAny_newFunctionEnv_cells S.kind (fun ⟨n, v⟩ hy => ?_) fun env he s1 x => ?_
  · rcases S.par n (List.of_mem_zip hy).1 with q | q
    · exact Or.inl q
    · exact Or.inr ⟨q, PySem.W.cellsFrom_some _ _ _ (Or.inl q)⟩
  · subst he
    refine ⟨(e0.mod.nolimit.keeps old).keeps x.toInCall.keep, codeAny_func ?_⟩
    obtain ⟨t, ht, hq⟩ := body cdv B out s H vs Q E p hg (hr.deeper _) hs
    have I := inv_startH (CX := CX0) (N := N) (qual := qual) (cd := cdv) (E := E) S hp e0 (size _ _ _ _ _ hs) r x
    refine wpAny_mono (ht.run [] s1 (start N vs) H _ I hq) (fun fl s' hs' => ?_) fun e s' z => z
    cases fl with
    | ret u =>
      obtain ⟨v, σ', H', J, rv, q⟩ := hs'
      exact ⟨v, H', J.os, J.bare, J.base, J.hok, rv, q⟩
    | next =>
      obtain ⟨σ', H', J, q⟩ := hs'
      exact ⟨V.non, H', J.os, J.bare, J.base, J.hok, rfl, q⟩
    | brk =>
      obtain ⟨_, _, _, q⟩ := hs'
      exact q.elim
    | cont =>
      obtain ⟨_, _, _, q⟩ := hs'
      exact q.elim
/-- a def of the module's name x -/
structure CalL (P : Program) (w : World) (K : PySem.W.Frag) (mg : Str → Option Value) (base : Heap) (k : Nat) (x : Str) (ps : List Str) (sp : Addr × Obj → Sp) : Prop where
  ex : ∃ (f : Addr) (fd : FuncData), FnL P w K mg base k f fd ps sp ∧ (∀ (s : Shared) (us : List Value), us.length = ps.length → BindsTo s fd ⟨us, []⟩ (ps.zip us)) ∧ mg x = some (.ref f) ∧ PySem.W.keepIn K (.ref f) = true
end
section
variable {X : Cx} {K : PySem.W.Frag} {k : Nat} {f : Addr} {fd : FuncData} {ps : List Str} {sp : Addr × Obj → Sp} {x : Str} {pos q : Pos} {e : Expr} {es : List Expr} {t : TA} {p : Addr × Obj}
theorem pin_ok {pins : List (Addr × Obj)} {σ : L2.St} {H : Hp} {s : Shared} (I : Inv X pins σ H s) (hp : p ∈ X.pn) : PinOk X.stack H s p := by
  obtain ⟨h1, h2, h3, h4, h5⟩ := I.pin p (List.mem_append.mpr (.inl hp))
  refine ⟨h1, h2, fun z => ?_, h5⟩
  rcases I.ok.stk with e | ⟨e, fr⟩
  · rw [e] at z
    exact h4 z
  · rw [e] at z
    obtain ⟨en, he, ef⟩ := List.mem_filterMap.mp z
    rcases List.mem_cons.mp he with rfl | he
    · rw [fr] at ef
      exact h3 (Option.some.inj ef).symm
    · exact h4 (List.mem_filterMap.mpr ⟨en, he, ef⟩)
/-- room where an error is held -/
theorem hot {A : Around} {v : Option Value} {j k : Nat} (h : Room k A) (hj : j ≤ k) : RoomH j (A.mark v) := let r := (L2H.roomH_of h).mono hj; ⟨r.dp, r.un⟩
/-- f(e, ..) while the error is held -/
def tGL (p : Addr × Obj) (sp : Addr × Obj → Sp) (t : TA) : TE := fun σ H Q => t σ H fun vs H1 => sp p vs H1 Q E0
theorem pe_lend (hp : p ∈ X.pn) (C : CalL X.prog X.w X.K X.mg X.base k x ps sp) (hr : RoomH k X.A) (hG : X.A.guards = some []) (ha : PA X (e :: es) t) (hg : Gl X x := by rfl)
    (hdb : (x == ("__debug__" : Str)) = false := by decide) (he : starEach (e :: es) X.env = (false, eval e X.env) :: starEach es X.env := by rfl)
    (hpl : (backTo pos (starEach es X.env)).any (·.1) = false := by rfl) : PE X (.Call (.Name x q) (e :: es) [] pos) (tGL p sp t) := by
  obtain ⟨f, fd, F, hb, hm, hk⟩ := C.ex
  refine ⟨fun pins s σ H Q I h => wpAny_Call_Name_kw (ld_glob I hg hm (PySem.W.callWith_K (h₀ := X.base) I.ok.mod.kin hk
    (thn (ha.run pos pins s σ H _ I h) fun us s1 ⟨vs, H1, I1, r, q⟩ => ⟨I1.kIn, ?_⟩) he hpl) hdb)⟩
  refine wpAny_call (codeAny_mono (F.goes p X.A X.stack s1 H1 ⟨us, []⟩ us vs _ E0 hr hG (pin_ok I1 hp) I1.env0 (hb s1 us (r.length.symm.trans (F.size _ _ _ _ _ q))) r q) fun z s' hq => ?_)
  cases z with
  | error e => exact hq.elim
  | ok fl =>
    cases fl with
    | ret u => exact I1.after hq
    | next => exact False.elim hq
    | brk => exact False.elim hq
    | cont => exact False.elim hq
/-- what is known of a held error: its class, its fields -/
def Er (H : Hp) (p : Addr × Obj) (D : Addr) (fs : Option (List (Str × V))) : Prop := p.2.cls = .ref D ∧ (∃ vs, p.2.data = .fields vs) ∧ match fs with
  | none => p.2.dict = none
  | some l => ∃ dd, p.2.dict = some dd ∧ H dd = some (.xd l)
theorem Er.same {H H' : Hp} {D : Addr} {fs : Option (List (Str × V))} (s : Same H H') (h : Er H p D fs) : Er H' p D fs := by
  obtain ⟨h2, h3, h4⟩ := h
  refine ⟨h2, h3, ?_⟩
  cases fs with
  | none => exact h4
  | some l =>
    obtain ⟨dd, e1, e2⟩ := h4
    exact ⟨dd, e1, s _ _ e2⟩
/-- as it is caught -/
theorem er_of {H : Hp} {a D : Addr} {oe : Obj} {cls : Value} {d : Option Addr} {fs : Option (List (Str × V))} (hz : Zc cls d oe) (hf : ∃ vs, oe.data = .fields vs) (ec : cls = .ref D) (e : match fs with | none => d = none | some l => ∃ dd, d = some dd ∧ H dd = some (.xd l)) : Er H (a, oe) D fs := by
  refine ⟨by rw [hz.1, ec], hf, ?_⟩
  cases fs with
  | none => exact hz.2.trans e
  | some l =>
    obtain ⟨dd, e1, e2⟩ := e
    exact ⟨dd, hz.2.trans e1, e2⟩
theorem Er.inst {pins : List (Addr × Obj)} {σ : L2.St} {H : Hp} {s : Shared} {D : Addr} {fs : Option (List (Str × V))} (e : Er H p D fs) (I : Inv X pins σ H s) (hp : p ∈ X.pn) : ∃ od, PySem.W.InstAt s.heap p.1 p.2 D od := by
  obtain ⟨h2, ⟨vs, h3⟩, h4⟩ := e
  obtain ⟨hget, _⟩ := I.pin p (List.mem_append.mpr (.inl hp))
  cases fs with
  | none => exact ⟨none, hget, h2, by unfold PySem.W.notCls; rw [h3] <;> rfl, by rw [h4]; trivial⟩
  | some l =>
    obtain ⟨dd, e1, e2⟩ := h4
    obtain ⟨o, ho⟩ := objOk_get (I.hok dd _ e2)
    exact ⟨some o, hget, h2, by unfold PySem.W.notCls; rw [h3] <;> rfl, by rw [e1]; exact ho⟩
/-- isinstance(e, c), e held -/
def rIsE (K : PySem.W.Frag) (p : Addr × Obj) : List V → Hp → VK → Prop := fun xs H Q => ∃ (D : Addr) (fs : Option (List (Str × V))) (c : V) (cv : Value) (b : Bool), xs = [.ref p.1, c] ∧ Er H p D fs ∧ ExcC K D ∧ (∀ u, RelV c u → u = cv) ∧ PySem.W.kitOne K (.ref D) cv = some b ∧ Q (.bl b) H
theorem call_isE (hp : p ∈ X.pn) (hK : X.K = K := by rfl) : CallR X (.builtin "isinstance") (rIsE K p) := by
  subst hK
  intro pins s σ H xs us Q I r h
  obtain ⟨D, fs, c, cv, b, rfl, er, C, hcv, e, q⟩ := h
  cases r with
  | cons rx rr =>
    cases rr with
    | cons rt rr =>
      cases rr
      cases rx
      have ecv := hcv _ rt
      subst ecv
      obtain ⟨od, J⟩ := er.inst I hp
      exact PySem.W.kia_one (kit_own (od := od) C) I.kIn J e (fun z => nomatch z) fun tk => ⟨.bl b, H, I.kept (t' := tk) fun _ _ z => z, rfl, q⟩
/-- isinstance(e, (c1, ..)), e held -/
def rIsET (K : PySem.W.Frag) (p : Addr × Obj) : List V → Hp → VK → Prop := fun xs H Q => ∃ (D tp : Addr) (fs : Option (List (Str × V))) (cs : List V) (ws : List Value) (b : Bool), xs = [.ref p.1, .ref tp] ∧ Er H p D fs ∧ ExcC K D ∧ H tp = some (.tup cs) ∧ Paired ClsV cs ws ∧ PySem.W.kitAny K (.ref D) ws = some b ∧ Q (.bl b) H
theorem call_isET (hp : p ∈ X.pn) (hK : X.K = K := by rfl) : CallR X (.builtin "isinstance") (rIsET K p) := by
  subst hK
  intro pins s σ H xs us Q I r h
  obtain ⟨D, tp, fs, cs, ws, b, rfl, er, C, hT, hcv, e, q⟩ := h
  obtain ⟨u1, u2, rfl, r1, r2⟩ := vals2 r
  cases (show u2 = Value.ref tp from r2)
  cases (show u1 = Value.ref p.1 from r1)
  obtain ⟨_, its, rv, o, h1, h2, n, h3⟩ := (show ObjOk X.prog X.w H s.heap tp (.tup cs) from I.hok tp _ hT)
  have e3 := ClsV.all hcv rv
  subst e3
  obtain ⟨oc, od0, dt, sl⟩ := o
  simp only at h2 h3
  subst h2 h3
  obtain ⟨od, J⟩ := er.inst I hp
  exact PySem.W.kia_tup (kit_own (od := od) C) I.kIn J h1 e (fun z => nomatch z) fun tk => ⟨.bl b, H, I.kept (t' := tk) fun _ _ z => z, rfl, q⟩
/-- e.n, e held -/
def tXfE (K : PySem.W.Frag) (p : Addr × Obj) (n : Str) (te : TE) : TE := fun σ H Q => te σ H fun x H1 => ∃ (D : Addr) (l : List (Str × V)) (v : V), x = .ref p.1 ∧ Er H1 p D (some l) ∧ XfC K D ∧ PySem.W.findIn K (.ref D) n = some none ∧ l.lookup n = some v ∧ Q v H1
theorem pe_xfE {e : Expr} {te : TE} {pos : Pos} {n : Str} (hp : p ∈ X.pn) (h : PE X e te) (hb : attributeBase e n X.env (eval e X.env) = eval e X.env := by rfl) (hK : X.K = K := by rfl) : PE X (.Attribute e n pos) (tXfE K p n te) := by
  subst hK
  refine ⟨fun pins s σ H Q I hw => attr_of hb (thn (h.run pins s σ H _ I hw) fun u s1 ⟨x, H1, I1, r, D, l, v, ex, er, T, no, lk, q⟩ => ?_)⟩
  subst ex
  cases (show u = Value.ref p.1 from r)
  obtain ⟨h2, ⟨vs, h3⟩, dd, e1, e2⟩ := er
  obtain ⟨hget, _⟩ := I1.pin p (List.mem_append.mpr (.inl hp))
  obtain ⟨m, hns, hm⟩ := (show ObjOk X.prog X.w H1 s1.heap dd (.xd l) from I1.hok dd _ e2)
  obtain ⟨od, ho, look⟩ := lookIn_ns hns
  have rl := hm n
  rw [lk] at rl
  obtain ⟨uv, ev, rv⟩ := RelO.some_of rl
  refine PySem.HandSPX.exc_get (gt := none) I1.kIn (⟨hget, h2, by unfold PySem.W.notCls; rw [h3] <;> rfl, by rw [e1]; exact ho⟩ : PySem.W.InstAt s1.heap p.1 p.2 D (some od)) T.ga T.gg T.exC (PySem.W.findObj_own T.hdC no rfl (by rw [look, ev])) (handed_of rv) ⟨v, H1, I1.tok _, rv, q⟩
end
/-- what a clause with a name does; the error's object is told at the reading -/
def wAsO (K : PySem.W.Frag) (c : Value) (i : Nat) (ts : Addr → Obj → Value → Option Addr → TS) (Wout : WX) (D : Ends) : WX := fun cls d σ H => ∃ b, PySem.W.exmOne K cls c = some b ∧
  (b = true → ∀ a oe, Zc cls d oe → (∃ vs, oe.data = .fields vs) → H a = none → ts a oe cls d { nx := fun σ2 H2 => D.nx (σ2.set i none) H2, rt := D.rt, bk := fun σ2 H2 => D.bk (σ2.set i none) H2, ct := fun σ2 H2 => D.ct (σ2.set i none) H2 } (σ.set i (some (.ref a))) H) ∧ (b = false → Wout cls d σ H)
section
variable {X : Cx} {x n : Str} {c : Value} {i : Nat} {body suite : List Stmt} {b₀ : Stmt} {np pos pos' : Pos} {tb : WX → TS} {W : Ends → WX} {Wout : WX} {hds : List ExceptHandler} {h₀ : ExceptHandler}
/-- except x as n: .., the error told as an object -/
theorem heard_asO {ts : Addr → Obj → Value → Option Addr → TS} (hf : X.env.frame = some X.env.locals) (hN : X.N.Nodup) (hi : X.N[i]? = some n) (hln : X.env.kindOf n = some .local) (hc : Names X x c) (ok : X.Ok)
    (hsu : ∀ (a : Addr) (oe : Obj) (cls : Value) (d : Option Addr) (pn : List (Addr × Obj)), Zc cls d oe → (∃ vs, oe.data = .fields vs) → PSs (X.suite a ((a, oe) :: pn)) (b₀ :: suite) (ts a oe cls d)) (r : Heard X hds W) :
    Heard X (.ExceptHandler (some (.Name x np)) (some n) (b₀ :: suite) pos' :: hds) fun D => wAsO X.K c i ts (W D) D := by
  intro pins D a cls d σ H s ca ⟨b, eb, yes, no⟩
  obtain ⟨oe, vs, _, _, _, S⟩ := ca.suite hf
  apply wpAny_handleBy_cons
  case hnb => exact fun z => nomatch z
  apply codeAny_handlers_test
  apply Names.told hc S
  apply PySem.W.Looks.here (ca.test eb)
  cases b
  · exact r pins D a cls d σ H s ca (no rfl)
  apply codeAny_handlers_suite_as
  obtain ⟨B, s₀, fly, g2, g3, g4, g5⟩ := ca.way
  apply HandSPX.lands_againZ fly
  intro h fly' u
  have ca' := ca.next g2 g3 g4 g5 fly' u
  obtain ⟨oe', vs', _, data', kind', S'⟩ := ca'.suite hf
  apply store_ok (v := .ref a) S' hN hi (.inl hln) rfl _ (.inr hln)
  intro s5 I5
  have run := (hsu a oe' cls d (X.pn ++ pins) kind' ⟨vs', data'⟩).run [] s5 _ H _ I5 (yes rfl a oe' kind' ⟨vs', data'⟩ ca.own)
  refine wpAny_mono run (fun f s6 told => ?_) fun _ _ z => False.elim z
  have clean : ∀ {σ6 : L2.St} {H6 : Hp} {Q : Shared → Prop}, Inv (X.suite a ((a, oe') :: (X.pn ++ pins))) [] σ6 H6 s6 → (∀ s7, Inv X pins (σ6.set i none) H6 s7 → Q s7) → wpAny (model X.prog X.w) X.A (do bindName X.env n .none; unbindBehindTheSuite X.env n pos') (fun _ s7 => Q s7) X.xe s6 :=
    fun I6 k => gone_ok (Inv.unsuite I6 ok) hN hi hln k
  cases f
  case ret u =>
    obtain ⟨v, σ6, H6, I6, rv_, q⟩ := told
    exact clean I6 fun _ I7 => ⟨v, _, H6, I7, rv_, q⟩
  all_goals
    obtain ⟨σ6, H6, I6, q⟩ := told
    exact clean I6 fun _ I7 => ⟨_, H6, I7, q⟩
/-- a method of a built-in type, the part K given -/
theorem pe_bmK {X : Cx} {K : PySem.W.Frag} {e : Expr} {to : TE} {t : TA} {T : String} {r : V → List V → Hp → VK → Prop} (h : PE X e (tBM X.K T r to t)) (hK : X.K = K := by rfl) : PE X e (tBM K T r to t) := hK ▸ h
end
end Lf

set_option Elab.async false
set_option linter.all false
set_option maxRecDepth 100000
/-! A try by its clauses, with what follows where nothing is raised. -/
namespace Lf
open PySem PySem.Spec PyProof.Rows L2
variable {X : Cx} {body : List Stmt} {pos : Pos} {tb : WX → TS} {W : Ends → WX} {hds : List ExceptHandler} {h₀ : ExceptHandler}
theorem ps_try_heardE {more : List Stmt} {u : TS} (hm : PSs X more u) (hs : X.stack = X.env :: X.outer) (hf : X.env.frame = some X.env.locals)
    (hb : ∀ (W : WX) (pn : List (Addr × Obj)) (xe : Value → Shared → Prop), Takes (X.tr pn xe) W → PassesOwn (model X.prog X.w) X.A X.env xe → PSs (X.tr pn xe) body (tb W))
    (hh : X.Ok → Heard X (h₀ :: hds) W) : PS X (.Try body (h₀ :: hds) more [] pos) fun D σ H => tb (W D) { D with nx := fun σ1 H1 => u D σ1 H1 } σ H := by
  constructor
  intro pins s σ H D I h
  have ok := I.ok
  apply wpAny_Try_except
  have tk := caught_of (pins := pins) (D := D) hs hf ok (hh ok)
  have run := (hb (W D) (X.pn ++ pins) (Caught X (h₀ :: hds) (SP X pins D)) tk PassesOwn.looking).run [] s σ H { D with nx := fun σ1 H1 => u D σ1 H1 } (I.toTry _) h
  refine wpAny_mono run (fun f s1 told => ?_) fun _ _ z => z
  cases f with
  | next =>
    obtain ⟨σ1, H1, I1, q⟩ := told
    exact hm.run pins s1 σ1 H1 D (Inv.ofTry I1 ok) q
  | ret v0 =>
    obtain ⟨v, σ1, H1, I1, rv_, q⟩ := told
    exact ⟨v, σ1, H1, Inv.ofTry I1 ok, rv_, q⟩
  | brk =>
    obtain ⟨σ1, H1, I1, q⟩ := told
    exact ⟨σ1, H1, Inv.ofTry I1 ok, q⟩
  | cont =>
    obtain ⟨σ1, H1, I1, q⟩ := told
    exact ⟨σ1, H1, Inv.ofTry I1 ok, q⟩
end Lf

set_option Elab.async false
set_option linter.all false
set_option maxRecDepth 100000
set_option maxHeartbeats 4000000
set_option exponentiation.threshold 3000
namespace Lf
open PySem PySem.Spec PyProof.Rows L2
theorem GR.rwg {d : PyData} (g : GR d) : RwG d := g.rg
theorem RowsD.rs {d : PyData} (h : RowsD d) : RsG d := fun ds e => by
  rcases h with ⟨ds', e', l9, g⟩ | ⟨h1, h2, _⟩
  · have : ds = ds' := by rcases e with e | e <;> rcases e' with e' | e' <;> (rw [e] at e'; first | (cases e'; rfl) | cases e')
    subst this
    exact ⟨by omega, fun x hx => (g x hx).rg⟩
  · rcases e with rfl | rfl
    · cases h1
    · cases h2
theorem RowsD.fg {d : PyData} (h : RowsD d) : Fg 13600 6 d := by
  rcases h with ⟨ds, e, l9, g⟩ | ⟨_, _, f⟩
  · have r : FgA ((1500 + 1) * ds.length) 5 ds := FgA.all fun x hx => (g x hx).fg
    have r' : FgA 13600 5 ds := r.le (by omega) (Nat.le_refl _)
    rcases e with rfl | rfl
    · exact Fg.list r'
    · exact Fg.tuple r'
  · exact f.le (by decide) (by decide)
theorem three_show {a b c : PyData} (ha : Gd a) (hb : Fg 13600 6 b) (hc : Gd c) : ShowG (.tuple [a, b, c]) :=
  (Fg.tuple (.cons ha.fg (.cons hb (.cons hc.fg .nil)))).g
section
variable {P : Program} {w : World} {K : PySem.W.Frag} {mg : Str → Option Value} {base : Heap} {c0 c1 : Addr}

def sp_larerN (K : PySem.W.Frag) : Sp := fun vs H Q _ => ∃ (v : V) (d : PyData), vs = [v] ∧ Dg K H v d ∧ isLi d = false ∧ isT d = false ∧ ∀ H', Same H H' → Q (.bl false) H'
theorem ok_larerN {f : Addr} {fd : FuncData} (M : Blt mg) (Mx : Bltx mg) (ml : mg "list" = none) (F : Fun K "_law_are_rows" "_law_are_rows" s__law_are_rows f fd) (C__law_is_name : Cal P w K mg base CX0 2 "_law_is_name" ["_law_thing"] (sp_lisnm K)) (C__law_is_weight : Cal P w K mg base CX0 2 "_law_is_weight" ["_law_thing"] (sp_lisw K)) : FnG P w K mg base CX0 3 f fd ["_law_thing"] (sp_larerN K) := by
  refine Gfun F sc__law_are_rows (fun vs H Q E h => ?_) (fun cdv A outer s H vs Q E hg hr h => ?_)
  · obtain ⟨v, d, rfl, _⟩ := h
    rfl
  · obtain ⟨v, d, rfl, hq, nl, nt_, k⟩ := h
    refine ⟨_, (pss_cons (ps_if (PW.pt (pw_or (pt_not (pt_val (pe_callB call_isiT rfl Mx.isinstance bt_isinstance (pa_cons (pv 0) (pa_cons (pe_tup (pa_cons (pe_bltn (v := .ty "list") rfl ml bt_list rfl) (pa_cons (pe_bltn (v := .ty "tuple") rfl Mx.tuple bt_tuple rfl) pa_nil))) pa_nil))))) (pw_or1 (pt_not (pt_chain op_le op_le pe_int (pe_callB call_len_seq rfl M.len bt_len (pa_cons (pv 0) pa_nil)) pe_int)))))
      (pss_one (ps_ret pe_bl))
      pss_nil)
      (pss_cons (ps_set (i := 1) sc__law_are_rows.nd rfl (.inr rfl) (pe_lst pa_nil))
      (pss_cons (ps_for PassesOwn.never rfl (pi_list (pv 0)) (pg_name (i := 2) sc__law_are_rows.nd rfl (.inl rfl))
      (pss_cons (ps_if (PW.pt (pw_or (pt_not (pt_val (pe_callB call_isi rfl Mx.isinstance bt_isinstance (pa_cons (pv 2) (pa_cons (pe_bltn (v := .ty "tuple") rfl Mx.tuple bt_tuple rfl) pa_nil))))) (pw_or (pt_cmpR op_ne (pe_callB call_len_seq rfl M.len bt_len (pa_cons (pv 2) pa_nil)) pe_int (nomark _)) (pw_or (pt_not (pt_val (pe_g C__law_is_name (hr.mono (by decide)) hg (pa_cons (pe_ix ix_tup (pv 2) pe_int (fun _ _ => rfl)) pa_nil)))) (pw_or1 (pt_not (pt_val (pe_g C__law_is_weight (hr.mono (by decide)) hg (pa_cons (pe_ix ix_tup (pv 2) pe_int (fun _ _ => rfl)) pa_nil)))))))))
      (pss_one (ps_ret pe_bl))
      pss_nil)
      (pss_one (ps_expr (pe_bm PySem.F.plainAttrs_list PySem.F.slot_list_append PySem.F.type_list_append mt_append (pv 1) (pa_cons (pe_ix ix_tup (pv 2) pe_int (fun _ _ => rfl)) pa_nil))))))
      (pss_one (ps_ret (pe_cmpR (op_eqD hr.units) (pe_lc (own := [("_law_k", 3)]) (g := gName 3) rfl sc__law_are_rows.nd (pi_range1 rfl M.range (pa_cons (pe_callB call_len_seq rfl M.len bt_len (pa_cons (pv 1) pa_nil)) pa_nil)) (blkOk_by (N := ["_law_thing", "_law_seen", "_law_row", "_law_k"]) (sc := defScope s__law_are_rows) (by decide +kernel)) (fun _ _ _ _ _ => pg_name (i := 3) sc__law_are_rows.nd rfl (Or.inl rfl)) (fun _ _ _ _ _ => (pts_one (pt_cmpR (op_inK (K := K) (by exact u65 hr)) (pe_ix (ix_listK (K := K)) (pv 1) (pv 3) (fun _ _ => rfl)) (pe_slice (sl_listK (K := K)) (pv 1) po_none (po_some (pv 3))) rfl))) (fun _ _ _ _ _ => (pv 3))) (pe_lst pa_nil) (nomark _))))))), ?_⟩
    refine ⟨_, rfl, len_show (Nat.le_of_ble_eq_true rfl), fun tp nt => ?_⟩
    have s1 : Same H (L2.upd H tp (.tup [.ty "list", .ty "tuple"])) := same_new nt
    refine ⟨_, tp, _, _, _, false, rfl, upd_same, .cons (.ty "list") (.cons (.ty "tuple") .nil), (hq.same s1).ty, by rw [k_lt, nl, nt_]; rfl, _, rfl, ?_⟩
    exact iteT (k _ s1)
def sp_larer (K : PySem.W.Frag) : Sp := fun vs H Q _ => ∃ (v : V) (d : PyData), vs = [v] ∧ Dg K H v d ∧ RsG d ∧ ∀ H', Same H H' → Q (.bl (isRows d)) H'
theorem ok_larer {f : Addr} {fd : FuncData} (M : Blt mg) (Mx : Bltx mg) (ml : mg "list" = none) (F : Fun K "_law_are_rows" "_law_are_rows" s__law_are_rows f fd) (C__law_is_name : Cal P w K mg base CX0 2 "_law_is_name" ["_law_thing"] (sp_lisnm K)) (C__law_is_weight : Cal P w K mg base CX0 2 "_law_is_weight" ["_law_thing"] (sp_lisw K)) : FnG P w K mg base CX0 3 f fd ["_law_thing"] (sp_larer K) := by
  refine (((ok_larerL M Mx ml F C__law_is_name C__law_is_weight).or (ok_larerT M Mx ml F C__law_is_name C__law_is_weight)).or (ok_larerN M Mx ml F C__law_is_name C__law_is_weight)).imp fun vs H Q E h => ?_
  obtain ⟨v, d, rfl, hq, rg, k⟩ := h
  cases d with
  | list ds => exact .inl (.inl ⟨v, ds, rfl, hq, rg, k⟩)
  | tuple ds => exact .inl (.inr ⟨v, ds, rfl, hq, rg, k⟩)
  | none => exact .inr ⟨v, _, rfl, hq, rfl, rfl, k⟩
  | bool _ => exact .inr ⟨v, _, rfl, hq, rfl, rfl, k⟩
  | int _ => exact .inr ⟨v, _, rfl, hq, rfl, rfl, k⟩
  | str _ => exact .inr ⟨v, _, rfl, hq, rfl, rfl, k⟩
  | dict _ => exact .inr ⟨v, _, rfl, hq, rfl, rfl, k⟩

/-! ### _law_wrong -/
theorem sc__law_wrong : FnScope ["_law_name_here", "_law_rows", "_law_lead"] ["_law_name_here", "_law_rows", "_law_lead"] (defScope s__law_wrong) := ⟨rfl, rfl, rfl, by decide +kernel, rfl, by decide +kernel, by decide +kernel⟩
def sp_wrong (K : PySem.W.Frag) : Sp := fun vs H Q _ => ∃ (vn vr vl : V) (dn dr dl : PyData), vs = [vn, vr, vl] ∧ Dg K H vn dn ∧ Dg K H vr dr ∧ Dg K H vl dl ∧ El dn ∧ RsG dr ∧ ∀ H', Same H H' → Q (.str ((dgW dn dr dl).getD "made")) H'
theorem ok_wrong {f : Addr} {fd : FuncData} (F : Fun K "_law_wrong" "_law_wrong" s__law_wrong f fd) (C__law_is_name : Cal P w K mg base CX0 2 "_law_is_name" ["_law_thing"] (sp_lisnm K)) (C__law_are_rows : Cal P w K mg base CX0 3 "_law_are_rows" ["_law_thing"] (sp_larer K)) (C__law_is_whole : Cal P w K mg base CX0 1 "_law_is_whole" ["_law_thing"] (sp_whole K)) : FnG P w K mg base CX0 4 f fd ["_law_name_here", "_law_rows", "_law_lead"] (sp_wrong K) := by
  refine Gfun F sc__law_wrong (fun vs H Q E h => ?_) (fun cdv A outer s H vs Q E hg hr h => ?_)
  · obtain ⟨vn, vr, vl, dn, dr, dl, rfl, _⟩ := h
    rfl
  · obtain ⟨vn, vr, vl, dn, dr, dl, rfl, hn, hr0, hl, en_, rg, k⟩ := h
    refine ⟨_, (pss_cons (ps_if (pt_not (pt_val (pe_g C__law_is_name (hr.mono (by decide)) hg (pa_cons (pv 0) pa_nil))))
      (pss_one (ps_ret pe_str))
      pss_nil)
      (pss_cons (ps_if (pt_not (pt_val (pe_g C__law_are_rows (hr.mono (by decide)) hg (pa_cons (pv 1) pa_nil))))
      (pss_one (ps_ret pe_str))
      pss_nil)
      (pss_cons (ps_if (PW.pt (pw_or (pt_not (pt_val (pe_g C__law_is_whole (hr.mono (by decide)) hg (pa_cons (pv 2) pa_nil)))) (pw_or1 (pt_not (pt_chain op_le op_le pe_int (pv 2) pe_int)))))
      (pss_one (ps_ret pe_str))
      pss_nil)
      (pss_one (ps_ret pe_str))))), ?_⟩
    unfold dgW at k
    refine ⟨_, rfl, vn, dn, rfl, hn, en_.st, fun H1 s1 => ?_⟩
    by_cases en : isNm dn = false
    · rw [if_pos en] at k
      rw [en]
      exact ⟨_, rfl, iteT (k H1 s1)⟩
    rw [if_neg en] at k
    rw [show isNm dn = true by cases h : isNm dn <;> simp_all]
    refine ⟨_, rfl, iteF ?_⟩
    refine ⟨_, rfl, vr, dr, rfl, hr0.same s1, rg, fun H2 s2 => ?_⟩
    have s02 := s1.trans s2
    by_cases er : isRows dr = false
    · rw [if_pos er] at k
      rw [er]
      exact ⟨_, rfl, iteT (k H2 s02)⟩
    rw [if_neg er] at k
    rw [show isRows dr = true by cases h : isRows dr <;> simp_all]
    refine ⟨_, rfl, iteF ?_⟩
    refine ⟨_, rfl, vl, dl, rfl, hl.same s02, _, rfl, ?_⟩
    by_cases hw : isW dl = true
    · obtain ⟨n, rfl, rfl⟩ := hl.whole hw
      rw [hw]
      refine iteF ?_
      refine ⟨_, rfl, _, _, rfl, rfl, _, rfl, ?_⟩
      have il : isLd (.int n) = decide (0 ≤ n ∧ n ≤ 99) := rfl
      rw [il] at k
      by_cases c1 : 0 ≤ n
      · rw [decide_eq_true c1]
        refine iteT ⟨_, _, rfl, rfl, _, rfl, ?_⟩
        by_cases c2 : n ≤ 99
        · rw [if_neg (by rw [decide_eq_true ⟨c1, c2⟩]; decide)] at k
          rw [decide_eq_true c2]
          exact iteF (k H2 s02)
        · rw [if_pos (decide_eq_false fun h => c2 h.2)] at k
          rw [decide_eq_false c2]
          exact iteT (k H2 s02)
      · rw [if_pos (decide_eq_false fun h => c1 h.1)] at k
        rw [decide_eq_false c1]
        exact iteF ⟨_, rfl, iteT (k H2 s02)⟩
    · have hw' : isW dl = false := Bool.eq_false_iff.mpr hw
      rw [if_pos (by unfold isLd; rw [hw']; rfl)] at k
      rw [hw']
      exact iteT (k H2 s02)

end
/-- classes of errors -/
structure Oths (K : PySem.W.Frag) (mg : Str → Option Value) : Type where
  cNoCount : Addr
  gNoCount : mg "NoCount" = some (.ref cNoCount)
  cNoFraction : Addr
  gNoFraction : mg "NoFraction" = some (.ref cNoFraction)
  cNoName : Addr
  gNoName : mg "NoName" = some (.ref cNoName)
  cNoPan : Addr
  gNoPan : mg "NoPan" = some (.ref cNoPan)
  cNoStuff : Addr
  gNoStuff : mg "NoStuff" = some (.ref cNoStuff)
  cNoWeight : Addr
  gNoWeight : mg "NoWeight" = some (.ref cNoWeight)
  cRing : Addr
  gRing : mg "Ring" = some (.ref cRing)
  cTwice : Addr
  gTwice : mg "Twice" = some (.ref cTwice)
  cUneven : Addr
  gUneven : mg "Uneven" = some (.ref cUneven)
  cUnknown : Addr
  gUnknown : mg "Unknown" = some (.ref cUnknown)
/-- what is known of the error's class -/
structure FaD (K : PySem.W.Frag) (mg : Str → Option Value) (T : Oths K mg) (D cL : Addr) : Prop where
  ex : ExcC K D
  kv : PySem.W.kitOne K (.ref D) (.type "ValueError") = some true
  k0 : PySem.W.kitAny K (.ref D) [.ref T.cNoCount, .ref T.cNoFraction, .ref T.cNoName, .ref T.cNoPan, .ref T.cNoStuff, .ref T.cNoWeight, .ref T.cRing, .ref T.cTwice, .ref T.cUneven, .ref T.cUnknown] = some false
  kd : PySem.W.kitOne K (.ref D) (.ref D) = some true
  l : PySem.W.exmOne K (.ref D) (.ref cL) = some true
  xf : XfC K D
  no : PySem.W.findIn K (.ref D) "field" = some none
section
variable {P : Program} {w : World} {K : PySem.W.Frag} {mg : Str → Option Value} {base : Heap} {c0 c1 : Addr}

/-! ### _law_told -/
theorem sc__law_told : FnScope ["_law_name_here", "_law_rows", "_law_lead", "_law_told_here", "e", "_law_dough", "_law_others"] ["_law_name_here", "_law_rows", "_law_lead"] (defScope s__law_told) := ⟨rfl, rfl, rfl, by decide +kernel, rfl, by decide +kernel, by decide +kernel⟩
def sp_told (K : PySem.W.Frag) : Sp := fun vs H Q _ => ∃ (vn vr vl : V) (dn dr dl : PyData), vs = [vn, vr, vl] ∧ Dg K H vn dn ∧ Dg K H vr dr ∧ Dg K H vl dl ∧ Gd dn ∧ RowsD dr ∧ Gd dl ∧ ∀ H', Same H H' → Q (.str ((dgW dn dr dl).getD "made")) H'
def sp_or (s1 s2 : Sp) : Sp := fun vs H Q E => s1 vs H Q E ∨ s2 vs H Q E
set_option maxHeartbeats 16000000 in
theorem ok_told {C DD cL f fP fn fh fl : Addr} {fd fdP fdn fdh fdl : FuncData} {g0 : List Value → List Value → List Value} (M : Blt mg) (Mx : Bltx mg) (ml : mg "list" = none) (MV : mg "ValueError" = none) (T : Oths K mg) (gD : mg "NoDough" = some (.ref DD)) (gL : mg "LoafError" = some (.ref cL)) (X : FaD K mg T DD cL)
    (h_all : KBn K fdP ["self", "name", "rows", "lead"] (3 + 1) [] g0 (fun vs _ => vs)) (MP : MakG P w K mg base (L2.CX P w) 6 "Dough" C fP fdP ["self", "name", "rows", "lead"] (sp_or (sp_dinit K C) (sp_dinitX K DD)))
    (Mn : MetG P w K mg base CX0 1 C "name" fn fdn ["self"] (sp_dname K C)) (Mr : MetG P w K mg base CX0 1 C "rows" fh fdh ["self"] (sp_drows K C)) (Ml : MetG P w K mg base CX0 1 C "lead" fl fdl ["self"] (sp_dlead K C))
    (F : Fun K "_law_told" "_law_told" s__law_told f fd) : FnG P w K mg base CX0 8 f fd ["_law_name_here", "_law_rows", "_law_lead"] (sp_told K) := by
  refine Gfun F sc__law_told (fun vs H Q E h => ?_) (fun cdv A outer s H vs Q E hg hr h => ?_)
  · obtain ⟨vn, vr, vl, dn, dr, dl, rfl, _⟩ := h
    rfl
  · obtain ⟨vn, vr, vl, dn, dr, dl, rfl, hn, hr0, hl, gn, rd, gl, k⟩ := h
    refine ⟨_, (pss_cons (ps_set (i := 3) sc__law_told.nd rfl (.inl rfl) pe_str)
      (pss_cons (ps_try_heardE (pss_one (ps_if (pt_cmpR op_ne (pe_callB (call_showG hg hr) rfl M.repr bt_repr (pa_cons (pe_tup (pa_cons (pe_meG0 (pv 5) Mn (hr.mono (by decide)) hg (fun _ => pass_no)) (pa_cons (pe_meG0 (pv 5) Mr (hr.mono (by decide)) hg (fun _ => pass_no)) (pa_cons (pe_meG0 (pv 5) Ml (hr.mono (by decide)) hg (fun _ => pass_no)) pa_nil)))) pa_nil)) (pe_callB (call_showG hg hr) rfl M.repr bt_repr (pa_cons (pe_tup (pa_cons (pv 0) (pa_cons (pe_callTy call_list_of rfl ml bt_list (pa_cons (pv 1) pa_nil)) (pa_cons (pv 2) pa_nil)))) pa_nil)) (nomark _))
      (pss_one (ps_set (i := 3) sc__law_told.nd rfl (.inl rfl) pe_str))
      pss_nil)) rfl rfl
        (fun W pn xe tk _ => (pss_one (ps_set (i := 5) sc__law_told.nd rfl (.inl rfl) (pe_mkG MP h_all (hr.mono (by decide)) hg (fun σ => passAt tk σ) (pa_cons (pv 0) (pa_cons (pv 1) (pa_cons (pv 2) pa_nil)))))))
        (fun ok => (heard_asO (i := 4) (n := "e") (c := .ref cL) rfl sc__law_told.nd rfl rfl ⟨rfl, by decide, Or.inl gL⟩ ok (fun a oe cls d pn hz hf => (pss_cons (ps_set (i := 6) sc__law_told.nd rfl (.inl rfl) (pe_callB (call_isET (K := K) (p := (a, oe)) List.mem_cons_self) rfl Mx.isinstance bt_isinstance (pa_cons (pv 4) (pa_cons (pe_tup (pa_cons (pe_glob (v := .ref T.cNoCount) rfl T.gNoCount rfl) (pa_cons (pe_glob (v := .ref T.cNoFraction) rfl T.gNoFraction rfl) (pa_cons (pe_glob (v := .ref T.cNoName) rfl T.gNoName rfl) (pa_cons (pe_glob (v := .ref T.cNoPan) rfl T.gNoPan rfl) (pa_cons (pe_glob (v := .ref T.cNoStuff) rfl T.gNoStuff rfl) (pa_cons (pe_glob (v := .ref T.cNoWeight) rfl T.gNoWeight rfl) (pa_cons (pe_glob (v := .ref T.cRing) rfl T.gRing rfl) (pa_cons (pe_glob (v := .ref T.cTwice) rfl T.gTwice rfl) (pa_cons (pe_glob (v := .ref T.cUneven) rfl T.gUneven rfl) (pa_cons (pe_glob (v := .ref T.cUnknown) rfl T.gUnknown rfl) pa_nil))))))))))) pa_nil))))
      (pss_one (ps_set (i := 3) sc__law_told.nd rfl (.inl rfl) (pe_ifExp (PW.pt (pw_or (pt_val (pv 6)) (pw_or (pt_not (pt_val (pe_callB (call_isE (K := K) (p := (a, oe)) List.mem_cons_self) rfl Mx.isinstance bt_isinstance (pa_cons (pv 4) (pa_cons (pe_glob (v := .ref DD) rfl gD rfl) pa_nil))))) (pw_or1 (pt_not (pt_val (pe_callB (call_isE (K := K) (p := (a, oe)) List.mem_cons_self) rfl Mx.isinstance bt_isinstance (pa_cons (pv 4) (pa_cons (pe_bltn (v := .ty "ValueError") rfl MV PyProof.Rows.Boot.«ValueError» rfl) pa_nil))))))))) pe_str (pe_xfE (K := K) (p := (a, oe)) List.mem_cons_self (pv 4))))))) (heard_nil (Wout := fun _ _ _ _ => False) rfl rfl takes0))))
      (pss_one (ps_ret (pv 3))))), ?_⟩
    refine ⟨_, rfl, _, rfl, _, rfl, rfl, rfl, fun x dx nx nd hdx => ?_⟩
    cases dg : dgW dn dr dl with
    | none =>
      rw [dg] at k
      have ir : isRows dr = true := by
        unfold dgW at dg
        by_cases e1 : isNm dn = false
        · rw [if_pos e1] at dg; cases dg
        rw [if_neg e1] at dg
        by_cases e2 : isRows dr = false
        · rw [if_pos e2] at dg; cases dg
        cases h : isRows dr <;> simp_all
      obtain ⟨a, xs, ds, rfl, hS, hA, hgr, hl9⟩ : ∃ a xs ds, vr = .ref a ∧ (SqL K H a xs ∨ SqT K H a xs) ∧ DgAll K H xs ds ∧ (∀ e ∈ ds, GR e) ∧ ds.length ≤ 9 := by
        rcases rd with ⟨ds, e, l9, g⟩ | ⟨h1, h2, _⟩
        · rcases e with rfl | rfl
          · cases hr0 with
            | lst h1 h2 => exact ⟨_, _, ds, rfl, .inl h1, h2, g, l9⟩
          · cases hr0 with
            | tup h1 h2 => exact ⟨_, _, ds, rfl, .inr h1, h2, g, l9⟩
        · exfalso
          cases dr <;> simp_all [isRows, isLi, isT]
      have rdl : RowsD (.list ds) := .inl ⟨ds, .inl rfl, hl9, hgr⟩
      have sh := three_show gn rdl.fg gl
      refine .inl ⟨x, dx, H, vn, .ref a, vl, dn, dr, dl, a, xs, rfl, nx, nd, hdx, rfl, hn, (fun z ez => (gn.el.st z ez).1), hr0, rd.rs, hl, dg, rfl, hS, fun H' s' dgo => ⟨rfl, ?_⟩⟩
      obtain ⟨dxx, pr, i1, i2⟩ := id dgo
      refine ⟨_, rfl, x, _, _, rfl, i1, rfl, x, vn, vl, xs, rfl, dgo, ?_⟩
      refine ⟨_, rfl, x, _, _, rfl, i1, rfl, x, vn, vl, xs, rfl, dgo, fun l nl => ?_⟩
      have s1 : Same H' (L2.upd H' l (.lst xs)) := same_new nl
      have e1 : L2.upd H' l (.lst xs) l = some (.lst xs) := upd_same
      generalize L2.upd H' l (.lst xs) = H1 at s1 e1 ⊢
      have dgo1 := dgo.same s1
      obtain ⟨dxx1, pr1, i3, i4⟩ := id dgo1
      refine ⟨_, rfl, x, _, _, rfl, i3, rfl, x, vn, vl, xs, rfl, dgo1, ?_⟩
      refine ⟨len_show (Nat.le_of_ble_eq_true rfl), fun t1 n1 => ?_⟩
      have s2 : Same H1 (L2.upd H1 t1 (.tup [vn, .ref l, vl])) := same_new n1
      have e2 : L2.upd H1 t1 (.tup [vn, .ref l, vl]) t1 = some (.tup [vn, .ref l, vl]) := upd_same
      generalize L2.upd H1 t1 (.tup [vn, .ref l, vl]) = H2 at s2 e2 ⊢
      have s02 := (s'.trans s1).trans s2
      refine ⟨.ref t1, .tuple [dn, .list ds, dl], rfl, .tup (.inl (.inl e2)) (.cons (hn.same s02) (.cons (.lst (.inl (.inl (s2 _ _ e1))) (DgAll.same s02 hA)) (.cons (hl.same s02) .nil))), sh.sh, sh.dp, sh.ln, ?_⟩
      have hS2 : SqL K H2 a xs ∨ SqT K H2 a xs := hS.imp (sm_l s02) (sm_t s02)
      refine ⟨_, rfl, _, rfl, a, xs, rfl, hS2, fun l2 nl2 => ?_⟩
      have s3 : Same H2 (L2.upd H2 l2 (.lst xs)) := same_new nl2
      have e3 : L2.upd H2 l2 (.lst xs) l2 = some (.lst xs) := upd_same
      generalize L2.upd H2 l2 (.lst xs) = H3 at s3 e3 ⊢
      refine ⟨_, rfl, len_show (Nat.le_of_ble_eq_true rfl), fun t2 n2 => ?_⟩
      have s4 : Same H3 (L2.upd H3 t2 (.tup [vn, .ref l2, vl])) := same_new n2
      have e4 : L2.upd H3 t2 (.tup [vn, .ref l2, vl]) t2 = some (.tup [vn, .ref l2, vl]) := upd_same
      generalize L2.upd H3 t2 (.tup [vn, .ref l2, vl]) = H4 at s4 e4 ⊢
      have s04 := (s02.trans s3).trans s4
      refine ⟨.ref t2, .tuple [dn, .list ds, dl], rfl, .tup (.inl (.inl e4)) (.cons (hn.same s04) (.cons (.lst (.inl (.inl (s4 _ _ e3))) (DgAll.same s04 hA)) (.cons (hl.same s04) .nil))), sh.sh, sh.dp, sh.ln, rfl, _, rfl, iteNS rfl ?_⟩
      exact ⟨_, rfl, k H4 s04⟩
    | some wd =>
      rw [dg] at k
      refine .inr ⟨x, dx, C, H, vn, vr, vl, dn, dr, dl, wd, rfl, nx, nd, rfl, hn, (fun z ez => (gn.el.st z ez).1), hr0, rd.rs, hl, dg, fun H' d s' ed => ?_⟩
      refine ⟨true, X.l, fun _ a oe hz hf ha => ?_, fun z => Bool.noConfusion z⟩
      have er : Er H' (a, oe) DD (some [(("field" : Str), V.str wd)]) := er_of hz hf rfl ⟨d, rfl, ed⟩
      refine ⟨_, rfl, len_show (Nat.le_of_ble_eq_true rfl), fun t1 n1 => ?_⟩
      have s1 : Same H' (L2.upd H' t1 (.tup [.ref T.cNoCount, .ref T.cNoFraction, .ref T.cNoName, .ref T.cNoPan, .ref T.cNoStuff, .ref T.cNoWeight, .ref T.cRing, .ref T.cTwice, .ref T.cUneven, .ref T.cUnknown])) := same_new n1
      have e1 : L2.upd H' t1 (.tup [.ref T.cNoCount, .ref T.cNoFraction, .ref T.cNoName, .ref T.cNoPan, .ref T.cNoStuff, .ref T.cNoWeight, .ref T.cRing, .ref T.cTwice, .ref T.cUneven, .ref T.cUnknown]) t1 = some (.tup [.ref T.cNoCount, .ref T.cNoFraction, .ref T.cNoName, .ref T.cNoPan, .ref T.cNoStuff, .ref T.cNoWeight, .ref T.cRing, .ref T.cTwice, .ref T.cUneven, .ref T.cUnknown]) := upd_same
      generalize L2.upd H' t1 (.tup [.ref T.cNoCount, .ref T.cNoFraction, .ref T.cNoName, .ref T.cNoPan, .ref T.cNoStuff, .ref T.cNoWeight, .ref T.cRing, .ref T.cTwice, .ref T.cUneven, .ref T.cUnknown]) = H1 at s1 e1 ⊢
      have er1 := er.same s1
      refine ⟨DD, t1, _, _, _, false, rfl, er1, X.ex, e1, .cons (.own _) (.cons (.own _) (.cons (.own _) (.cons (.own _) (.cons (.own _) (.cons (.own _) (.cons (.own _) (.cons (.own _) (.cons (.own _) (.cons (.own _) (.nil)))))))))), X.k0, ?_⟩
      refine ⟨_, rfl, _, rfl, iteF ?_⟩
      refine ⟨_, rfl, DD, _, .ref DD, .ref DD, true, rfl, er1, X.ex, fun u r => r, X.kd, _, rfl, iteF ?_⟩
      refine ⟨_, rfl, DD, _, .ty "ValueError", .type "ValueError", true, rfl, er1, X.ex, fun u r => r, X.kv, _, rfl, iteF ?_⟩
      exact ⟨_, rfl, DD, _, _, rfl, er1, X.xf, X.no, rfl, _, rfl, k H1 (s'.trans s1)⟩

end
end Lf

set_option Elab.async false
set_option linter.all false
set_option maxRecDepth 100000
set_option maxHeartbeats 4000000
set_option exponentiation.threshold 3000
namespace Lf
open PySem PySem.Spec PyProof.Rows L2
theorem nm_gd {z : Str} (h : Nm z) : Gd (.str z) :=
  ⟨(Ft.str (low_sg h.al) (Nat.le_trans h.le (by decide : 10 ≤ 300))).fg.le (Nat.le_refl _) (by decide), (fun z' e => by cases e; exact ⟨Nat.le_trans h.le (by decide), fun c hc => inL_lt (h.al c hc)⟩), (fun a b e => nomatch e)⟩
theorem int_gd {n : Int} (h : n.natAbs < 2 ^ 60) : Gd (.int n) := ⟨(Ft.i60 h).fg.le (by decide) (by decide), (fun z e => nomatch e), (fun a b e => nomatch e)⟩
theorem row_gr {z : Str} {f : Int × Int} (h : Nm z) (b : Bt 20 f) : GR (.tuple [.str z, tD f]) := by
  have b60 : f.1.natAbs < 2 ^ 60 ∧ f.2.natAbs < 2 ^ 60 := ⟨Nat.lt_of_lt_of_le b.1 (by decide), Nat.lt_of_lt_of_le b.2 (by decide)⟩
  exact gr_of (Fg.tuple (.cons (nm_gd h).fg (.cons (fg11 _ _ b60) .nil))) (h := rwg2 (nm_gd h).el (el11 _ _ b60))
section
variable {P : Program} {w : World} {K : PySem.W.Frag} {mg : Str → Option Value} {base : Heap} {c0 c1 : Addr}

/-! ### law -/
theorem sc_law : FnScope ["_law_script", "_law_k", "_law_pot_here", "_law_names_here", "_law_rows", "_law_turn", "_law_before", "_law_name_here", "_law_lead", "_law_way", "_law_thing"] ["_law_script"] (defScope s_law) := ⟨rfl, rfl, rfl, by decide +kernel, rfl, by decide +kernel, by decide +kernel⟩
def sp_law (K : PySem.W.Frag) : Sp := fun vs H Q _ => ∃ (a : Addr) (ns : List Int), vs = [.ref a] ∧ SqL K H a (ns.map V.int) ∧ ns.length ≤ 63 ∧ ∀ H', Q (.bl true) H'
set_option maxHeartbeats 16000000 in
theorem ok_law {f : Addr} {fd : FuncData} (M : Blt mg) (Mx : Bltx mg) (ml : mg "list" = none) (F : Fun K "law" "law" s_law f fd) (C__law_cell : Cal P w K mg base CX0 1 "_law_cell" ["_law_script", "_law_k"] (sp_cell K)) (C__law_pot : Cal P w K mg base CX0 1 "_law_pot" ["_law_cell_here"] (sp_pot)) (C__law_draw : Cal P w K mg base CX0 1 "_law_draw" ["_law_pot_here", "_law_many"] (sp_draw)) (C__law_names : Cal P w K mg base CX0 3 "_law_names" ["_law_pot_here", "_law_many"] (sp_names K)) (C__law_parts : Cal P w K mg base CX0 2 "_law_parts" ["_law_pot_here"] (sp_parts K))
    (C__law_odd_name : Cal P w K mg base CX0 2 "_law_odd_name" ["_law_pot_here"] (sp_oddn K)) (C__law_odd_lead : Cal P w K mg base CX0 2 "_law_odd_lead" ["_law_pot_here"] (sp_oddl K)) (C__law_odd_rows : Cal P w K mg base CX0 3 "_law_odd_rows" ["_law_pot_here", "_law_rows"] (sp_oddrs K)) (C__law_are_rows : Cal P w K mg base CX0 3 "_law_are_rows" ["_law_thing"] (sp_larer K)) (C__law_wrong : Cal P w K mg base CX0 4 "_law_wrong" ["_law_name_here", "_law_rows", "_law_lead"] (sp_wrong K)) (C__law_told : Cal P w K mg base CX0 8 "_law_told" ["_law_name_here", "_law_rows", "_law_lead"] (sp_told K)) : FnG P w K mg base CX0 9 f fd ["_law_script"] (sp_law K) := by
  refine Gfun F sc_law (fun vs H Q E h => ?_) (fun cdv A outer s H vs Q E hg hr h => ?_)
  · obtain ⟨a, ns, rfl, _⟩ := h
    rfl
  · obtain ⟨a, ns, rfl, hS, hl, k⟩ := h
    refine ⟨_, (pss_cons (ps_for PassesOwn.never rfl (pi_range1 rfl M.range (pa_cons (pe_callB (call_max2 rfl) rfl M.max bt_max (pa_cons pe_int (pa_cons (pe_callB (call_min2 rfl) rfl M.min bt_min (pa_cons pe_int (pa_cons (pe_callB call_len_seq rfl M.len bt_len (pa_cons (pv 0) pa_nil)) pa_nil))) pa_nil))) pa_nil)) (pg_name (i := 1) sc_law.nd rfl (by first | exact .inl rfl | exact .inr rfl))
      (pss_cons (ps_set (i := 2) sc_law.nd rfl (.inr rfl) (pe_g C__law_pot (hr.mono (by decide)) hg (pa_cons (pe_g C__law_cell (hr.mono (by decide)) hg (pa_cons (pv 0) (pa_cons (pv 1) pa_nil))) pa_nil)))
      (pss_cons (ps_set (i := 3) sc_law.nd rfl (by first | exact .inl rfl | exact .inr rfl) (pe_g C__law_names (hr.mono (by decide)) hg (pa_cons (pv 2) (pa_cons (pe_op op_add pe_int (pe_g C__law_draw (hr.mono (by decide)) hg (pa_cons (pv 2) (pa_cons pe_int pa_nil)))) pa_nil))))
      (pss_cons (ps_par (i := 7) (j := 8) rfl sc_law.nd rfl rfl (by decide) rfl rfl (pa_cons (pe_ix ix_list (pv 3) pe_int (fun _ _ => rfl)) (pa_cons (pe_g C__law_draw (hr.mono (by decide)) hg (pa_cons (pv 2) (pa_cons pe_int pa_nil))) pa_nil)) (by rfl))
      (pss_cons (ps_setLc (i := 4) (own := [("_law_thing", 10)]) (g := gName 10) (tt := tYes) rfl sc_law.nd rfl rfl (sw_true rfl rfl rfl (by decide +kernel)) (pi_list (pe_slice sl_list (pv 3) (po_some pe_int) po_none)) (blkOk_by (N := ["_law_script", "_law_k", "_law_pot_here", "_law_names_here", "_law_rows", "_law_turn", "_law_before", "_law_name_here", "_law_lead", "_law_way", "_law_thing"]) (sc := defScope s_law) (by decide +kernel)) (fun _ _ _ _ _ => pg_name (i := 10) sc_law.nd rfl (Or.inl rfl)) (fun _ _ _ _ _ => pts_nil) (fun _ _ _ _ _ => (pe_tup (pa_cons (pv 10) (pa_cons (pe_g C__law_parts (hr.mono (by decide)) hg (pa_cons (pv 2) pa_nil)) pa_nil)))))
      (pss_cons (ps_for PassesOwn.never rfl (pi_range1 rfl M.range (pa_cons (pe_g C__law_draw (hr.mono (by decide)) hg (pa_cons (pv 2) (pa_cons pe_int pa_nil))) pa_nil)) (pg_name (i := 5) sc_law.nd rfl (by first | exact .inl rfl | exact .inr rfl))
      (pss_cons (ps_set (i := 9) sc_law.nd rfl (by first | exact .inl rfl | exact .inr rfl) (pe_g C__law_draw (hr.mono (by decide)) hg (pa_cons (pv 2) (pa_cons pe_int pa_nil))))
      (pss_one (ps_if (pt_cmpR op_eq (pv 9) pe_int (nomark _))
      (pss_one (ps_set (i := 7) sc_law.nd rfl (by first | exact .inl rfl | exact .inr rfl) (pe_g C__law_odd_name (hr.mono (by decide)) hg (pa_cons (pv 2) pa_nil))))
      (pss_one (ps_if (pt_cmpR op_eq (pv 9) pe_int (nomark _))
      (pss_one (ps_set (i := 8) sc_law.nd rfl (by first | exact .inl rfl | exact .inr rfl) (pe_g C__law_odd_lead (hr.mono (by decide)) hg (pa_cons (pv 2) pa_nil))))
      (pss_one (ps_if (PW.pt (pw_and (pt_val (pe_callB call_isiT rfl Mx.isinstance bt_isinstance (pa_cons (pv 4) (pa_cons (pe_tup (pa_cons (pe_bltn (v := .ty "list") rfl ml bt_list rfl) (pa_cons (pe_bltn (v := .ty "tuple") rfl Mx.tuple bt_tuple rfl) pa_nil))) pa_nil)))) (pw_and1 (pt_val (pe_g C__law_are_rows (hr.mono (by decide)) hg (pa_cons (pv 4) pa_nil))))))
      (pss_one (ps_set (i := 4) sc_law.nd rfl (by first | exact .inl rfl | exact .inr rfl) (pe_g C__law_odd_rows (hr.mono (by decide)) hg (pa_cons (pv 2) (pa_cons (pv 4) pa_nil)))))
      pss_nil))))))))
      (pss_cons (ps_set (i := 6) sc_law.nd rfl (by first | exact .inl rfl | exact .inr rfl) (pe_callB (call_showG hg hr) rfl M.repr bt_repr (pa_cons (pe_tup (pa_cons (pv 7) (pa_cons (pv 4) (pa_cons (pv 8) pa_nil)))) pa_nil)))
      (pss_one (ps_if (PW.pt (pw_or (pt_cmpR op_ne (pe_g C__law_told (hr.mono (by decide)) hg (pa_cons (pv 7) (pa_cons (pv 4) (pa_cons (pv 8) pa_nil)))) (pe_g C__law_wrong (hr.mono (by decide)) hg (pa_cons (pv 7) (pa_cons (pv 4) (pa_cons (pv 8) pa_nil)))) (nomark _)) (pw_or1 (pt_cmpR op_ne (pe_callB (call_showG hg hr) rfl M.repr bt_repr (pa_cons (pe_tup (pa_cons (pv 7) (pa_cons (pv 4) (pa_cons (pv 8) pa_nil)))) pa_nil)) (pv 6) (nomark _)))))
      (pss_one (ps_ret pe_bl))
      pss_nil)))))))))
      (pss_one (ps_ret pe_bl))), ?_⟩
    refine ⟨_, rfl, a, _, rfl, .inl hS, _, _, rfl, _, _, rfl, _, rfl, ?_, ?_, ?_⟩
    · split <;> split <;> omega
    · split <;> split <;> omega
    generalize hN : Int.toNat _ = N
    have hN2 : N ≤ 64 := by
      rw [← hN]
      split <;> split <;> omega
    refine for_range (lo := 0) (n := N) (fun i σ H' => ∃ (y1 y2 y3 y4 y5 y6 y7 y8 y9 y10 : Option V), σ = [some (.ref a), y1, y2, y3, y4, y5, y6, y7, y8, y9, y10] ∧ Same H H') ⟨_, _, _, _, _, _, _, _, _, _, rfl, same_rfl⟩ ?_ ?_
    · rintro i σ H1 hi ⟨y1, y2, y3, y4, y5, y6, y7, y8, y9, y10, rfl, s1⟩
      refine ⟨_, rfl, _, rfl, a, ns, i, (by show [V.ref a, V.int (0 + (i : Int))] = _; rw [Int.zero_add]), sm_l s1 hS, by omega, fun c => ?_⟩
      refine ⟨c, rfl, fun x0 y0 q y00 y0l nq => ?_⟩
      have P2 : Pot (L2.upd H1 q (.lst [.int x0, .int y0])) q := ⟨x0, y0, y00, y0l, upd_same⟩
      have s2 : Same H1 (L2.upd H1 q (.lst [.int x0, .int y0])) := same_new nq
      generalize L2.upd H1 q (.lst [.int x0, .int y0]) = H2 at P2 s2 ⊢
      have nb1 : ∀ {b o}, H1 b = some o → b ≠ q := fun e => ne_of_none e nq
      refine ⟨_, rfl, _, rfl, q, 8, rfl, by decide, by decide, P2, fun n8 H3 n80 n81 P3 b3 => ?_⟩
      obtain ⟨m8, rfl⟩ : ∃ m8 : Nat, n8 = (m8 : Int) := ⟨n8.toNat, by omega⟩
      refine ⟨_, _, rfl, rfl, q, 2 + m8, (by rw [Int.natCast_add]; rfl), by omega, P3, fun ln zs H4 e4 nlq lz nd alz P4 b4 => ?_⟩
      obtain ⟨z0, zr, rfl⟩ : ∃ z0 zr, zs = z0 :: zr := by
        cases zs with
        | nil => rw [List.length_nil] at lz; omega
        | cons z0 zr => exact ⟨z0, zr, rfl⟩
      refine ⟨_, rfl, ln, _, _, _, rfl, rfl, .inl (.inl e4), atI_nat (j := 0) rfl, _, rfl, q, 100, rfl, by decide, by decide, P4, fun ld H5 ld0 ld1 P5 b5 => ?_⟩
      have e5 := b5 _ _ nlq e4
      refine ⟨_, _, rfl, ?_⟩
      refine ⟨_, rfl, _, rfl, ln, _, rfl, .inl (.inl e5), fun l2 nl2 => ?_⟩
      rw [cutFrom (i := 1) (k := 1) rfl]
      have s6 : Same H5 (L2.upd H5 l2 (.lst (((z0 :: zr).map V.str).drop 1))) := same_new nl2
      have e6 : L2.upd H5 l2 (.lst (((z0 :: zr).map V.str).drop 1)) l2 = some (.lst (((z0 :: zr).map V.str).drop 1)) := upd_same
      generalize L2.upd H5 l2 (.lst (((z0 :: zr).map V.str).drop 1)) = H6 at s6 e6 ⊢
      have e6' : H6 l2 = some (.lst (zr.map V.str)) := e6
      have P6 := pot_same P5 s6
      have nq2 : l2 ≠ q := pot_ne P5 nl2
      have b16 : But q H1 H6 := fun b o n e => s6 _ _ (b5 _ _ n (b4 _ _ n (b3 _ _ n (s2 _ _ e))))
      refine ⟨l2, rfl, ⟨_, .inl (.inl e6')⟩, fun D hD => ?_⟩
      have nDq : D ≠ q := pot_ne P6 hD
      have toD : ∀ {G G' : Hp}, But q G G' → Same (wo D (wo q G)) (wo D (wo q G')) := fun b => wo_wo (wo_but b)
      refine lc_list (xs := zr.map V.str) (fun j H' => ∃ (acc : List V) (ds : List PyData), H' D = some (.lst acc) ∧ DgAll K (wo D (wo q H')) acc ds ∧ acc.length = j ∧ ds.length = j ∧ (∀ e ∈ ds, GR e) ∧ Pot H' q ∧ But q H6 H') ⟨[], [], upd_same, .nil, rfl, rfl, (fun e h => nomatch h), pot_same P6 (same_new hD), fun b o n e => same_new hD _ _ e⟩ (fun j H' _ h => .inl (.inl (h.choose_spec.choose_spec.2.2.2.2.2.2 _ _ nq2 e6'))) ?_ ?_
      · rintro j y H7 hy ⟨acc, ds, eD, hA, la, ld_, gr, P7, b7⟩
        obtain ⟨z, hz, rfl⟩ : ∃ z, zr[j]? = some z ∧ y = .str z := by
          rw [List.getElem?_map] at hy
          cases h : zr[j]? with
          | none => rw [h] at hy; cases hy
          | some z => rw [h] at hy; exact ⟨z, rfl, (Option.some.inj hy).symm⟩
        have nz : Nm z := alz z (List.mem_cons_of_mem _ (List.mem_of_getElem? hz))
        refine ⟨rfl, _, rfl, _, rfl, q, rfl, P7, fun v f H8 ff fp fb af P8 b8 => ?_⟩
        refine ⟨len_show (Nat.le_of_ble_eq_true rfl), fun p np => ?_⟩
        have sp : Same H8 (L2.upd H8 p (.tup [.str z, v])) := same_new np
        have ep : L2.upd H8 p (.tup [.str z, v]) p = some (.tup [.str z, v]) := upd_same
        generalize L2.upd H8 p (.tup [.str z, v]) = H9 at sp ep ⊢
        have eD9 := sp _ _ (b8 _ _ nDq eD)
        have npq : p ≠ q := pot_ne P8 np
        have npD : p ≠ D := fun w => by rw [w, b8 _ _ nDq eD] at np; cases np
        have hj : j < zr.length := (List.getElem?_eq_some_iff.mp hz).1
        have fv : AtK K (wo D (wo q H9)) v f := by
          obtain ⟨pv, rfl, hp⟩ := af.same sp
          refine ⟨pv, rfl, ?_⟩
          obtain ⟨u1, u2, _, _, eq9⟩ := pot_same P8 sp
          rcases hp with (h | ⟨ob, h⟩) | h
          · exact .inl (.inl (wo_at (fun w => by rw [w, eD9] at h; cases h) (wo_at (fun w => by rw [w, eq9] at h; cases h) h)))
          · exact .inl (.inr ⟨ob, wo_at (fun w => by rw [w, eD9] at h; cases h) (wo_at (fun w => by rw [w, eq9] at h; cases h) h)⟩)
          · exact .inr h
        have dgp : Dg K (wo D (wo q H9)) (.ref p) (.tuple [.str z, tD f]) := by
          obtain ⟨pv, rfl, hp⟩ := fv
          exact .tup (.inl (.inl (wo_at npD (wo_at npq ep)))) (.cons (.str z) (.cons (.tup hp (.cons (.int _) (.cons (.int _) .nil))) .nil))
        refine ⟨acc, eD9, ?_, acc ++ [.ref p], ds ++ [.tuple [.str z, tD f]], upd_same, ?_, ?_, ?_, fun e he => ?_, ?_, fun b o n e => ?_⟩
        · rw [la, sizeLine_eq]
          have : zr.length ≤ 25 := by rw [List.length_cons] at lz; omega
          omega
        · exact DgAll.same (by
            intro b o e
            have h1 := wo_not e
            have h2 := wo_le _ _ e
            have h3 := wo_not h2
            exact wo_at h1 (wo_at h3 (by rw [upd_ne h1]; exact wo_le _ _ h2))) (DgAll.app (DgAll.same ((toD b8).trans (wo_wo (wo_wo sp))) hA) (.cons dgp .nil))
        · rw [List.length_append, la]; rfl
        · rw [List.length_append, ld_]; rfl
        · rcases List.mem_append.mp he with h | h
          · exact gr e h
          · rw [List.mem_singleton.mp h]; exact row_gr nz fb
        · obtain ⟨x, y, h1, h2, e⟩ := pot_same P8 sp
          exact ⟨x, y, h1, h2, by rw [upd_ne (Ne.symm nDq)]; exact e⟩
        · rw [upd_ne (ne_of_none e hD)]
          exact sp _ _ (b8 _ _ n (b7 _ _ n e))
      rintro H7 ⟨acc, ds, eD, hA, la, ld_, gr, P7, b7⟩
      have lr : zr.length ≤ 9 := by rw [List.length_cons] at lz; omega
      have dg7 : Dg K (wo q H7) (.ref D) (.list ds) := .lst (.inl (.inl (wo_at nDq eD))) (DgAll.same wo_le hA)
      have rd7 : RowsD (.list ds) := .inl ⟨ds, .inl rfl, by rw [ld_, List.length_map]; exact lr, gr⟩
      have k17 : Same H1 H7 := fun b o e => b7 _ _ (nb1 e) (b16 _ _ (nb1 e) e)
      have lb : ld.natAbs < 2 ^ 60 := Nat.lt_of_lt_of_le (show ld.natAbs < 2 ^ 10 by omega) (by decide)
      refine ⟨_, rfl, q, 4, rfl, by decide, by decide, P7, fun n4 H8 n40 n41 P8 b8 => ?_⟩
      refine ⟨n4, rfl, by omega, by omega, for_range (lo := 0) (n := n4.toNat) (fun j σ H' => ∃ (y1 y3 y5 y6 y9 y10 : Option V) (vn vr vl : V) (dn dr dl : PyData), σ = [some (.ref a), y1, some (.ref q), y3, some (vr), y5, y6, some (vn), some (vl), y9, y10] ∧ Dg K (wo q H') vn dn ∧ Dg K (wo q H') vr dr ∧ Dg K (wo q H') vl dl ∧ Gd dn ∧ RowsD dr ∧ Gd dl ∧ Pot H' q ∧ Same H1 H')
        ⟨_, _, _, _, _, _, .str z0, .ref D, .int ld, .str z0, .list ds, .int ld, rfl, .str z0, dg7.same (wo_but b8), .int ld, nm_gd (alz z0 List.mem_cons_self), rd7, int_gd lb, P8, fun b o e => b8 _ _ (nb1 e) (k17 _ _ e)⟩ ?_ ?_⟩
      · rintro j σ Ha hj ⟨y1, y3, y5, y6, y9, y10, vn, vr, vl, dn, dr, dl, rfl, hn, hr0, hl0, gn, rd, gl, Pa, ka⟩
        refine ⟨_, rfl, q, 4, rfl, by decide, by decide, Pa, fun wy Hb w0 w1 Pb bb => ?_⟩
        have kb : Same H1 Hb := fun b o e => bb _ _ (nb1 e) (ka _ _ e)
        have hnb := hn.same (wo_but bb)
        have hrb := hr0.same (wo_but bb)
        have hlb := hl0.same (wo_but bb)
        refine ⟨_, rfl, rfl, _, rfl, ite2 (fun _ => ?_) (fun _ => ?_)⟩
        · refine ⟨_, rfl, q, rfl, Pb, fun v d Hc hv gd Pc bc => ?_⟩
          exact ⟨_, _, _, _, _, _, _, _, _, _, _, _, rfl, hv, hrb.same (wo_but bc), hlb.same (wo_but bc), gd, rd, gl, Pc, fun b o e => bc _ _ (nb1 e) (kb _ _ e)⟩
        refine ⟨_, rfl, rfl, _, rfl, ite2 (fun _ => ?_) (fun _ => ?_)⟩
        · refine ⟨_, rfl, q, rfl, Pb, fun v d Hc hv gd Pc bc => ?_⟩
          exact ⟨_, _, _, _, _, _, _, _, _, _, _, _, rfl, hnb.same (wo_but bc), hrb.same (wo_but bc), hv, gn, rd, gd, Pc, fun b o e => bc _ _ (nb1 e) (kb _ _ e)⟩
        refine ⟨_, rfl, len_show (Nat.le_of_ble_eq_true rfl), fun tp nt => ?_⟩
        have st1 : Same Hb (L2.upd Hb tp (.tup [.ty "list", .ty "tuple"])) := same_new nt
        have Pt := pot_same Pb st1
        refine ⟨_, tp, _, _, _, isLi dr || isT dr, rfl, upd_same, .cons (.ty "list") (.cons (.ty "tuple") .nil), ((hrb.same wo_le).same st1).ty, k_lt dr, _, rfl, ?_⟩
        generalize L2.upd Hb tp (.tup [.ty "list", .ty "tuple"]) = Hc at st1 Pt ⊢
        have kc := kb.trans st1
        have hnc := hnb.same (wo_wo st1)
        have hrc := hrb.same (wo_wo st1)
        have hlc := hlb.same (wo_wo st1)
        refine ite2 (fun _ => ?_) (fun _ => ?_)
        · refine ⟨_, rfl, vr, dr, rfl, hrc.same wo_le, rd.rs, fun Hd sd => ?_⟩
          have Pd := pot_same Pt sd
          have hnd := hnc.same (wo_wo sd)
          have hrd := hrc.same (wo_wo sd)
          have hld := hlc.same (wo_wo sd)
          have kd := kc.trans sd
          refine ⟨_, rfl, ite2 (fun ir => ?_) (fun _ => ?_)⟩
          · obtain ⟨ar, xs, es, rfl, hSr, hAr, hgr, hirs⟩ : ∃ ar xs es, vr = .ref ar ∧ (SqL K (wo q Hd) ar xs ∨ SqT K (wo q Hd) ar xs) ∧ DgAll K (wo q Hd) xs es ∧ (∀ e ∈ es, GR e) ∧ isRsL es = true := by
              rcases rd with ⟨es, e, l9, g⟩ | ⟨h1, h2, _⟩
              · rcases e with rfl | rfl
                · cases hrd with
                  | lst h1 h2 => exact ⟨_, _, es, rfl, .inl h1, h2, g, ir⟩
                · cases hrd with
                  | tup h1 h2 => exact ⟨_, _, es, rfl, .inr h1, h2, g, ir⟩
              · exfalso
                cases dr <;> simp_all [isRows, isLi, isT]
            obtain ⟨rs, G⟩ := good_rs hirs hgr
            refine ⟨_, rfl, _, rfl, q, ar, xs, es, rs, rfl, Pd, hSr, hAr, G, fun v' d' He hv' rd' Pe be => ?_⟩
            exact ⟨_, _, _, _, _, _, _, _, _, _, _, _, rfl, hnd.same (wo_but be), hv', hld.same (wo_but be), gn, rd', gl, Pe, fun b o e => be _ _ (nb1 e) (kd _ _ e)⟩
          · exact ⟨_, _, _, _, _, _, _, _, _, _, _, _, rfl, hnd, hrd, hld, gn, rd, gl, Pd, kd⟩
        · exact ⟨_, _, _, _, _, _, _, _, _, _, _, _, rfl, hnc, hrc, hlc, gn, rd, gl, Pt, kc⟩
      · rintro σ Ha ⟨y1, y3, y5, y6, y9, y10, vn, vr, vl, dn, dr, dl, rfl, hn, hr0, hl0, gn, rd, gl, Pa, ka⟩
        have sh := three_show gn rd.fg gl
        have hna := hn.same wo_le
        have hra := hr0.same wo_le
        have hla := hl0.same wo_le
        refine ⟨_, rfl, _, rfl, _, rfl, len_show (Nat.le_of_ble_eq_true rfl), fun t1 nt1 => ?_⟩
        have sb : Same Ha (L2.upd Ha t1 (.tup [vn, vr, vl])) := same_new nt1
        have eb : L2.upd Ha t1 (.tup [vn, vr, vl]) t1 = some (.tup [vn, vr, vl]) := upd_same
        generalize L2.upd Ha t1 (.tup [vn, vr, vl]) = Hb at sb eb ⊢
        refine ⟨.ref t1, .tuple [dn, dr, dl], rfl, .tup (.inl (.inl eb)) (.cons (hna.same sb) (.cons (hra.same sb) (.cons (hla.same sb) .nil))), sh.sh, sh.dp, sh.ln, ?_⟩
        refine ⟨_, rfl, _, rfl, _, rfl, vn, vr, vl, dn, dr, dl, rfl, hna.same sb, hra.same sb, hla.same sb, gn, rd, gl, fun Hc sc => ?_⟩
        have sac := sb.trans sc
        refine ⟨_, rfl, _, rfl, _, rfl, vn, vr, vl, dn, dr, dl, rfl, hna.same sac, hra.same sac, hla.same sac, gn.el, rd.rs, fun Hd sd => ?_⟩
        have sad := sac.trans sd
        refine ⟨rfl, _, rfl, iteNS rfl ?_⟩
        refine ⟨_, rfl, _, rfl, _, rfl, len_show (Nat.le_of_ble_eq_true rfl), fun t2 nt2 => ?_⟩
        have se : Same Hd (L2.upd Hd t2 (.tup [vn, vr, vl])) := same_new nt2
        have ee : L2.upd Hd t2 (.tup [vn, vr, vl]) t2 = some (.tup [vn, vr, vl]) := upd_same
        generalize L2.upd Hd t2 (.tup [vn, vr, vl]) = He at se ee ⊢
        have sae := sad.trans se
        refine ⟨.ref t2, .tuple [dn, dr, dl], rfl, .tup (.inl (.inl ee)) (.cons (hna.same sae) (.cons (hra.same sae) (.cons (hla.same sae) .nil))), sh.sh, sh.dp, sh.ln, _, rfl, rfl, _, rfl, iteNS rfl ?_⟩
        exact ⟨_, _, _, _, _, _, _, _, _, _, rfl, s1.trans (ka.trans sae)⟩
    · rintro σ H1 ⟨y1, y2, y3, y4, y5, y6, y7, y8, y9, y10, rfl, s1⟩
      exact k H1

end
end Lf

set_option Elab.async false
set_option linter.all false
set_option maxRecDepth 100000
set_option maxHeartbeats 8000000
namespace Lf
open PySem PySem.Spec PyProof.Rows L2
theorem bp_0 {x q : Str} {p0 : Pos} {body : List Stmt} {sc : Scope} {kV doc pm : Value} {an : Option Addr} {cdv ct : Value} (s : Shared) (us : List Value) (hl : us.length = 1) : BindsTo s (PySem.W.fnOf x q (plainA [{ arg := "thing", annotation := none, pos := p0 }]) body sc .none kV doc pm an cdv ct) ⟨us, []⟩ ((["thing"] : List Str).zip us) := .of_eq (match us, hl with | [_], _ => rfl)
theorem df_is_whole {K : PySem.W.Frag} {mg : Str → Option Value} {f : Addr} {fd : FuncData} (F : FunD K "is_whole" "is_whole" (defArgs s_is_whole) (defBody s_is_whole) (defScope s_is_whole) [] [] f fd) (g : mg "is_whole" = some (.ref f)) : Df K mg "is_whole" s_is_whole ["thing"] f fd := by
  obtain ⟨kV, doc, pm, an, cdv, ct, rfl, F⟩ := fun_of F
  have ⟨p0, ea⟩ : ∃ p0 : Pos, defArgs s_is_whole = plainA [{ arg := "thing", annotation := none, pos := p0 }] := ⟨_, rfl⟩
  exact ⟨F, g, by rw [ea]; exact bp_0, no_kw (by decide +kernel), no_kw (by decide +kernel)⟩
theorem bp_1 {x q : Str} {p0 p1 : Pos} {body : List Stmt} {sc : Scope} {kV doc pm : Value} {an : Option Addr} {cdv ct : Value} (s : Shared) (us : List Value) (hl : us.length = 2) : BindsTo s (PySem.W.fnOf x q (plainA [{ arg := "one", annotation := none, pos := p0 }, { arg := "other", annotation := none, pos := p1 }]) body sc .none kV doc pm an cdv ct) ⟨us, []⟩ ((["one", "other"] : List Str).zip us) := .of_eq (match us, hl with | [_, _], _ => rfl)
theorem df_common {K : PySem.W.Frag} {mg : Str → Option Value} {f : Addr} {fd : FuncData} (F : FunD K "common" "common" (defArgs sCom) (defBody sCom) (defScope sCom) [] [] f fd) (g : mg "common" = some (.ref f)) : Df K mg "common" sCom ["one", "other"] f fd := by
  obtain ⟨kV, doc, pm, an, cdv, ct, rfl, F⟩ := fun_of F
  have ⟨p0, p1, ea⟩ : ∃ p0 p1 : Pos, defArgs sCom = plainA [{ arg := "one", annotation := none, pos := p0 }, { arg := "other", annotation := none, pos := p1 }] := ⟨_, _, rfl⟩
  exact ⟨F, g, by rw [ea]; exact bp_1, no_kw (by decide +kernel), no_kw (by decide +kernel)⟩
theorem df_is_fraction {K : PySem.W.Frag} {mg : Str → Option Value} {f : Addr} {fd : FuncData} (F : FunD K "is_fraction" "is_fraction" (defArgs s_is_fraction) (defBody s_is_fraction) (defScope s_is_fraction) [] [] f fd) (g : mg "is_fraction" = some (.ref f)) : Df K mg "is_fraction" s_is_fraction ["thing"] f fd := by
  obtain ⟨kV, doc, pm, an, cdv, ct, rfl, F⟩ := fun_of F
  have ⟨p0, ea⟩ : ∃ p0 : Pos, defArgs s_is_fraction = plainA [{ arg := "thing", annotation := none, pos := p0 }] := ⟨_, rfl⟩
  exact ⟨F, g, by rw [ea]; exact bp_0, fun _ s us hl => .of_eq (match us, hl with | [_], _ => rfl), fun _ s us hl => .of_eq (match us, hl with | [_], _ => rfl)⟩
theorem df_is_above_0 {K : PySem.W.Frag} {mg : Str → Option Value} {f : Addr} {fd : FuncData} (F : FunD K "is_above_0" "is_above_0" (defArgs s_is_above_0) (defBody s_is_above_0) (defScope s_is_above_0) [] [] f fd) (g : mg "is_above_0" = some (.ref f)) : Df K mg "is_above_0" s_is_above_0 ["thing"] f fd := by
  obtain ⟨kV, doc, pm, an, cdv, ct, rfl, F⟩ := fun_of F
  have ⟨p0, ea⟩ : ∃ p0 : Pos, defArgs s_is_above_0 = plainA [{ arg := "thing", annotation := none, pos := p0 }] := ⟨_, rfl⟩
  exact ⟨F, g, by rw [ea]; exact bp_0, no_kw (by decide +kernel), no_kw (by decide +kernel)⟩
theorem df_is_name {K : PySem.W.Frag} {mg : Str → Option Value} {f : Addr} {fd : FuncData} (F : FunD K "is_name" "is_name" (defArgs s_is_name) (defBody s_is_name) (defScope s_is_name) [] [] f fd) (g : mg "is_name" = some (.ref f)) : Df K mg "is_name" s_is_name ["thing"] f fd := by
  obtain ⟨kV, doc, pm, an, cdv, ct, rfl, F⟩ := fun_of F
  have ⟨p0, ea⟩ : ∃ p0 : Pos, defArgs s_is_name = plainA [{ arg := "thing", annotation := none, pos := p0 }] := ⟨_, rfl⟩
  exact ⟨F, g, by rw [ea]; exact bp_0, fun _ s us hl => .of_eq (match us, hl with | [_], _ => rfl), fun _ s us hl => .of_eq (match us, hl with | [_], _ => rfl)⟩
theorem df_is_row {K : PySem.W.Frag} {mg : Str → Option Value} {f : Addr} {fd : FuncData} (F : FunD K "is_row" "is_row" (defArgs s_is_row) (defBody s_is_row) (defScope s_is_row) [] [] f fd) (g : mg "is_row" = some (.ref f)) : Df K mg "is_row" s_is_row ["thing"] f fd := by
  obtain ⟨kV, doc, pm, an, cdv, ct, rfl, F⟩ := fun_of F
  have ⟨p0, ea⟩ : ∃ p0 : Pos, defArgs s_is_row = plainA [{ arg := "thing", annotation := none, pos := p0 }] := ⟨_, rfl⟩
  exact ⟨F, g, by rw [ea]; exact bp_0, no_kw (by decide +kernel), no_kw (by decide +kernel)⟩
theorem df_are_rows {K : PySem.W.Frag} {mg : Str → Option Value} {f : Addr} {fd : FuncData} (F : FunD K "are_rows" "are_rows" (defArgs s_are_rows) (defBody s_are_rows) (defScope s_are_rows) [] [] f fd) (g : mg "are_rows" = some (.ref f)) : Df K mg "are_rows" s_are_rows ["thing"] f fd := by
  obtain ⟨kV, doc, pm, an, cdv, ct, rfl, F⟩ := fun_of F
  have ⟨p0, ea⟩ : ∃ p0 : Pos, defArgs s_are_rows = plainA [{ arg := "thing", annotation := none, pos := p0 }] := ⟨_, rfl⟩
  exact ⟨F, g, by rw [ea]; exact bp_0, no_kw (by decide +kernel), no_kw (by decide +kernel)⟩
theorem df_is_lead {K : PySem.W.Frag} {mg : Str → Option Value} {f : Addr} {fd : FuncData} (F : FunD K "is_lead" "is_lead" (defArgs s_is_lead) (defBody s_is_lead) (defScope s_is_lead) [] [] f fd) (g : mg "is_lead" = some (.ref f)) : Df K mg "is_lead" s_is_lead ["thing"] f fd := by
  obtain ⟨kV, doc, pm, an, cdv, ct, rfl, F⟩ := fun_of F
  have ⟨p0, ea⟩ : ∃ p0 : Pos, defArgs s_is_lead = plainA [{ arg := "thing", annotation := none, pos := p0 }] := ⟨_, rfl⟩
  exact ⟨F, g, by rw [ea]; exact bp_0, no_kw (by decide +kernel), no_kw (by decide +kernel)⟩
theorem bp_2 {x q : Str} {p0 p1 : Pos} {body : List Stmt} {sc : Scope} {kV doc pm : Value} {an : Option Addr} {cdv ct : Value} (s : Shared) (us : List Value) (hl : us.length = 2) : BindsTo s (PySem.W.fnOf x q (plainA [{ arg := "_law_script", annotation := none, pos := p0 }, { arg := "_law_k", annotation := none, pos := p1 }]) body sc .none kV doc pm an cdv ct) ⟨us, []⟩ ((["_law_script", "_law_k"] : List Str).zip us) := .of_eq (match us, hl with | [_, _], _ => rfl)
theorem df__law_cell {K : PySem.W.Frag} {mg : Str → Option Value} {f : Addr} {fd : FuncData} (F : FunD K "_law_cell" "_law_cell" (defArgs s__law_cell) (defBody s__law_cell) (defScope s__law_cell) [] [] f fd) (g : mg "_law_cell" = some (.ref f)) : Df K mg "_law_cell" s__law_cell ["_law_script", "_law_k"] f fd := by
  obtain ⟨kV, doc, pm, an, cdv, ct, rfl, F⟩ := fun_of F
  have ⟨p0, p1, ea⟩ : ∃ p0 p1 : Pos, defArgs s__law_cell = plainA [{ arg := "_law_script", annotation := none, pos := p0 }, { arg := "_law_k", annotation := none, pos := p1 }] := ⟨_, _, rfl⟩
  exact ⟨F, g, by rw [ea]; exact bp_2, no_kw (by decide +kernel), no_kw (by decide +kernel)⟩
theorem bp_3 {x q : Str} {p0 : Pos} {body : List Stmt} {sc : Scope} {kV doc pm : Value} {an : Option Addr} {cdv ct : Value} (s : Shared) (us : List Value) (hl : us.length = 1) : BindsTo s (PySem.W.fnOf x q (plainA [{ arg := "_law_cell_here", annotation := none, pos := p0 }]) body sc .none kV doc pm an cdv ct) ⟨us, []⟩ ((["_law_cell_here"] : List Str).zip us) := .of_eq (match us, hl with | [_], _ => rfl)
theorem df__law_pot {K : PySem.W.Frag} {mg : Str → Option Value} {f : Addr} {fd : FuncData} (F : FunD K "_law_pot" "_law_pot" (defArgs s__law_pot) (defBody s__law_pot) (defScope s__law_pot) [] [] f fd) (g : mg "_law_pot" = some (.ref f)) : Df K mg "_law_pot" s__law_pot ["_law_cell_here"] f fd := by
  obtain ⟨kV, doc, pm, an, cdv, ct, rfl, F⟩ := fun_of F
  have ⟨p0, ea⟩ : ∃ p0 : Pos, defArgs s__law_pot = plainA [{ arg := "_law_cell_here", annotation := none, pos := p0 }] := ⟨_, rfl⟩
  exact ⟨F, g, by rw [ea]; exact bp_3, no_kw (by decide +kernel), no_kw (by decide +kernel)⟩
theorem bp_4 {x q : Str} {p0 p1 : Pos} {body : List Stmt} {sc : Scope} {kV doc pm : Value} {an : Option Addr} {cdv ct : Value} (s : Shared) (us : List Value) (hl : us.length = 2) : BindsTo s (PySem.W.fnOf x q (plainA [{ arg := "_law_pot_here", annotation := none, pos := p0 }, { arg := "_law_many", annotation := none, pos := p1 }]) body sc .none kV doc pm an cdv ct) ⟨us, []⟩ ((["_law_pot_here", "_law_many"] : List Str).zip us) := .of_eq (match us, hl with | [_, _], _ => rfl)
theorem df__law_draw {K : PySem.W.Frag} {mg : Str → Option Value} {f : Addr} {fd : FuncData} (F : FunD K "_law_draw" "_law_draw" (defArgs s__law_draw) (defBody s__law_draw) (defScope s__law_draw) [] [] f fd) (g : mg "_law_draw" = some (.ref f)) : Df K mg "_law_draw" s__law_draw ["_law_pot_here", "_law_many"] f fd := by
  obtain ⟨kV, doc, pm, an, cdv, ct, rfl, F⟩ := fun_of F
  have ⟨p0, p1, ea⟩ : ∃ p0 p1 : Pos, defArgs s__law_draw = plainA [{ arg := "_law_pot_here", annotation := none, pos := p0 }, { arg := "_law_many", annotation := none, pos := p1 }] := ⟨_, _, rfl⟩
  exact ⟨F, g, by rw [ea]; exact bp_4, no_kw (by decide +kernel), no_kw (by decide +kernel)⟩
theorem bp_5 {x q : Str} {p0 p1 : Pos} {body : List Stmt} {sc : Scope} {kV doc pm : Value} {an : Option Addr} {cdv ct : Value} (s : Shared) (us : List Value) (hl : us.length = 2) : BindsTo s (PySem.W.fnOf x q (plainA [{ arg := "_law_top", annotation := none, pos := p0 }, { arg := "_law_bottom", annotation := none, pos := p1 }]) body sc .none kV doc pm an cdv ct) ⟨us, []⟩ ((["_law_top", "_law_bottom"] : List Str).zip us) := .of_eq (match us, hl with | [_, _], _ => rfl)
theorem df__law_low {K : PySem.W.Frag} {mg : Str → Option Value} {f : Addr} {fd : FuncData} (F : FunD K "_law_low" "_law_low" (defArgs s__law_low) (defBody s__law_low) (defScope s__law_low) [] [] f fd) (g : mg "_law_low" = some (.ref f)) : Df K mg "_law_low" s__law_low ["_law_top", "_law_bottom"] f fd := by
  obtain ⟨kV, doc, pm, an, cdv, ct, rfl, F⟩ := fun_of F
  have ⟨p0, p1, ea⟩ : ∃ p0 p1 : Pos, defArgs s__law_low = plainA [{ arg := "_law_top", annotation := none, pos := p0 }, { arg := "_law_bottom", annotation := none, pos := p1 }] := ⟨_, _, rfl⟩
  exact ⟨F, g, by rw [ea]; exact bp_5, no_kw (by decide +kernel), no_kw (by decide +kernel)⟩
theorem bp_6 {x q : Str} {p0 p1 : Pos} {body : List Stmt} {sc : Scope} {kV doc pm : Value} {an : Option Addr} {cdv ct : Value} (s : Shared) (us : List Value) (hl : us.length = 2) : BindsTo s (PySem.W.fnOf x q (plainA [{ arg := "_law_pot_here", annotation := none, pos := p0 }, { arg := "_law_taken", annotation := none, pos := p1 }]) body sc .none kV doc pm an cdv ct) ⟨us, []⟩ ((["_law_pot_here", "_law_taken"] : List Str).zip us) := .of_eq (match us, hl with | [_, _], _ => rfl)
theorem df__law_name {K : PySem.W.Frag} {mg : Str → Option Value} {f : Addr} {fd : FuncData} (F : FunD K "_law_name" "_law_name" (defArgs s__law_name) (defBody s__law_name) (defScope s__law_name) [] [] f fd) (g : mg "_law_name" = some (.ref f)) : Df K mg "_law_name" s__law_name ["_law_pot_here", "_law_taken"] f fd := by
  obtain ⟨kV, doc, pm, an, cdv, ct, rfl, F⟩ := fun_of F
  have ⟨p0, p1, ea⟩ : ∃ p0 p1 : Pos, defArgs s__law_name = plainA [{ arg := "_law_pot_here", annotation := none, pos := p0 }, { arg := "_law_taken", annotation := none, pos := p1 }] := ⟨_, _, rfl⟩
  exact ⟨F, g, by rw [ea]; exact bp_6, no_kw (by decide +kernel), no_kw (by decide +kernel)⟩
theorem df__law_names {K : PySem.W.Frag} {mg : Str → Option Value} {f : Addr} {fd : FuncData} (F : FunD K "_law_names" "_law_names" (defArgs s__law_names) (defBody s__law_names) (defScope s__law_names) [] [] f fd) (g : mg "_law_names" = some (.ref f)) : Df K mg "_law_names" s__law_names ["_law_pot_here", "_law_many"] f fd := by
  obtain ⟨kV, doc, pm, an, cdv, ct, rfl, F⟩ := fun_of F
  have ⟨p0, p1, ea⟩ : ∃ p0 p1 : Pos, defArgs s__law_names = plainA [{ arg := "_law_pot_here", annotation := none, pos := p0 }, { arg := "_law_many", annotation := none, pos := p1 }] := ⟨_, _, rfl⟩
  exact ⟨F, g, by rw [ea]; exact bp_4, no_kw (by decide +kernel), no_kw (by decide +kernel)⟩
theorem bp_7 {x q : Str} {p0 : Pos} {body : List Stmt} {sc : Scope} {kV doc pm : Value} {an : Option Addr} {cdv ct : Value} (s : Shared) (us : List Value) (hl : us.length = 1) : BindsTo s (PySem.W.fnOf x q (plainA [{ arg := "_law_pot_here", annotation := none, pos := p0 }]) body sc .none kV doc pm an cdv ct) ⟨us, []⟩ ((["_law_pot_here"] : List Str).zip us) := .of_eq (match us, hl with | [_], _ => rfl)
theorem df__law_parts {K : PySem.W.Frag} {mg : Str → Option Value} {f : Addr} {fd : FuncData} (F : FunD K "_law_parts" "_law_parts" (defArgs s__law_parts) (defBody s__law_parts) (defScope s__law_parts) [] [] f fd) (g : mg "_law_parts" = some (.ref f)) : Df K mg "_law_parts" s__law_parts ["_law_pot_here"] f fd := by
  obtain ⟨kV, doc, pm, an, cdv, ct, rfl, F⟩ := fun_of F
  have ⟨p0, ea⟩ : ∃ p0 : Pos, defArgs s__law_parts = plainA [{ arg := "_law_pot_here", annotation := none, pos := p0 }] := ⟨_, rfl⟩
  exact ⟨F, g, by rw [ea]; exact bp_7, no_kw (by decide +kernel), no_kw (by decide +kernel)⟩
theorem df__law_odd_name {K : PySem.W.Frag} {mg : Str → Option Value} {f : Addr} {fd : FuncData} (F : FunD K "_law_odd_name" "_law_odd_name" (defArgs s__law_odd_name) (defBody s__law_odd_name) (defScope s__law_odd_name) [] [] f fd) (g : mg "_law_odd_name" = some (.ref f)) : Df K mg "_law_odd_name" s__law_odd_name ["_law_pot_here"] f fd := by
  obtain ⟨kV, doc, pm, an, cdv, ct, rfl, F⟩ := fun_of F
  have ⟨p0, ea⟩ : ∃ p0 : Pos, defArgs s__law_odd_name = plainA [{ arg := "_law_pot_here", annotation := none, pos := p0 }] := ⟨_, rfl⟩
  exact ⟨F, g, by rw [ea]; exact bp_7, no_kw (by decide +kernel), no_kw (by decide +kernel)⟩
theorem df__law_odd_parts {K : PySem.W.Frag} {mg : Str → Option Value} {f : Addr} {fd : FuncData} (F : FunD K "_law_odd_parts" "_law_odd_parts" (defArgs s__law_odd_parts) (defBody s__law_odd_parts) (defScope s__law_odd_parts) [] [] f fd) (g : mg "_law_odd_parts" = some (.ref f)) : Df K mg "_law_odd_parts" s__law_odd_parts ["_law_pot_here"] f fd := by
  obtain ⟨kV, doc, pm, an, cdv, ct, rfl, F⟩ := fun_of F
  have ⟨p0, ea⟩ : ∃ p0 : Pos, defArgs s__law_odd_parts = plainA [{ arg := "_law_pot_here", annotation := none, pos := p0 }] := ⟨_, rfl⟩
  exact ⟨F, g, by rw [ea]; exact bp_7, no_kw (by decide +kernel), no_kw (by decide +kernel)⟩
theorem bp_8 {x q : Str} {p0 p1 : Pos} {body : List Stmt} {sc : Scope} {kV doc pm : Value} {an : Option Addr} {cdv ct : Value} (s : Shared) (us : List Value) (hl : us.length = 2) : BindsTo s (PySem.W.fnOf x q (plainA [{ arg := "_law_pot_here", annotation := none, pos := p0 }, { arg := "_law_row", annotation := none, pos := p1 }]) body sc .none kV doc pm an cdv ct) ⟨us, []⟩ ((["_law_pot_here", "_law_row"] : List Str).zip us) := .of_eq (match us, hl with | [_, _], _ => rfl)
theorem df__law_odd_row {K : PySem.W.Frag} {mg : Str → Option Value} {f : Addr} {fd : FuncData} (F : FunD K "_law_odd_row" "_law_odd_row" (defArgs s__law_odd_row) (defBody s__law_odd_row) (defScope s__law_odd_row) [] [] f fd) (g : mg "_law_odd_row" = some (.ref f)) : Df K mg "_law_odd_row" s__law_odd_row ["_law_pot_here", "_law_row"] f fd := by
  obtain ⟨kV, doc, pm, an, cdv, ct, rfl, F⟩ := fun_of F
  have ⟨p0, p1, ea⟩ : ∃ p0 p1 : Pos, defArgs s__law_odd_row = plainA [{ arg := "_law_pot_here", annotation := none, pos := p0 }, { arg := "_law_row", annotation := none, pos := p1 }] := ⟨_, _, rfl⟩
  exact ⟨F, g, by rw [ea]; exact bp_8, no_kw (by decide +kernel), no_kw (by decide +kernel)⟩
theorem df__law_odd_lead {K : PySem.W.Frag} {mg : Str → Option Value} {f : Addr} {fd : FuncData} (F : FunD K "_law_odd_lead" "_law_odd_lead" (defArgs s__law_odd_lead) (defBody s__law_odd_lead) (defScope s__law_odd_lead) [] [] f fd) (g : mg "_law_odd_lead" = some (.ref f)) : Df K mg "_law_odd_lead" s__law_odd_lead ["_law_pot_here"] f fd := by
  obtain ⟨kV, doc, pm, an, cdv, ct, rfl, F⟩ := fun_of F
  have ⟨p0, ea⟩ : ∃ p0 : Pos, defArgs s__law_odd_lead = plainA [{ arg := "_law_pot_here", annotation := none, pos := p0 }] := ⟨_, rfl⟩
  exact ⟨F, g, by rw [ea]; exact bp_7, no_kw (by decide +kernel), no_kw (by decide +kernel)⟩
theorem bp_9 {x q : Str} {p0 p1 : Pos} {body : List Stmt} {sc : Scope} {kV doc pm : Value} {an : Option Addr} {cdv ct : Value} (s : Shared) (us : List Value) (hl : us.length = 2) : BindsTo s (PySem.W.fnOf x q (plainA [{ arg := "_law_pot_here", annotation := none, pos := p0 }, { arg := "_law_rows", annotation := none, pos := p1 }]) body sc .none kV doc pm an cdv ct) ⟨us, []⟩ ((["_law_pot_here", "_law_rows"] : List Str).zip us) := .of_eq (match us, hl with | [_, _], _ => rfl)
theorem df__law_odd_rows {K : PySem.W.Frag} {mg : Str → Option Value} {f : Addr} {fd : FuncData} (F : FunD K "_law_odd_rows" "_law_odd_rows" (defArgs s__law_odd_rows) (defBody s__law_odd_rows) (defScope s__law_odd_rows) [] [] f fd) (g : mg "_law_odd_rows" = some (.ref f)) : Df K mg "_law_odd_rows" s__law_odd_rows ["_law_pot_here", "_law_rows"] f fd := by
  obtain ⟨kV, doc, pm, an, cdv, ct, rfl, F⟩ := fun_of F
  have ⟨p0, p1, ea⟩ : ∃ p0 p1 : Pos, defArgs s__law_odd_rows = plainA [{ arg := "_law_pot_here", annotation := none, pos := p0 }, { arg := "_law_rows", annotation := none, pos := p1 }] := ⟨_, _, rfl⟩
  exact ⟨F, g, by rw [ea]; exact bp_9, no_kw (by decide +kernel), no_kw (by decide +kernel)⟩
theorem bp_10 {x q : Str} {p0 : Pos} {body : List Stmt} {sc : Scope} {kV doc pm : Value} {an : Option Addr} {cdv ct : Value} (s : Shared) (us : List Value) (hl : us.length = 1) : BindsTo s (PySem.W.fnOf x q (plainA [{ arg := "_law_thing", annotation := none, pos := p0 }]) body sc .none kV doc pm an cdv ct) ⟨us, []⟩ ((["_law_thing"] : List Str).zip us) := .of_eq (match us, hl with | [_], _ => rfl)
theorem df__law_is_whole {K : PySem.W.Frag} {mg : Str → Option Value} {f : Addr} {fd : FuncData} (F : FunD K "_law_is_whole" "_law_is_whole" (defArgs s__law_is_whole) (defBody s__law_is_whole) (defScope s__law_is_whole) [] [] f fd) (g : mg "_law_is_whole" = some (.ref f)) : Df K mg "_law_is_whole" s__law_is_whole ["_law_thing"] f fd := by
  obtain ⟨kV, doc, pm, an, cdv, ct, rfl, F⟩ := fun_of F
  have ⟨p0, ea⟩ : ∃ p0 : Pos, defArgs s__law_is_whole = plainA [{ arg := "_law_thing", annotation := none, pos := p0 }] := ⟨_, rfl⟩
  exact ⟨F, g, by rw [ea]; exact bp_10, no_kw (by decide +kernel), no_kw (by decide +kernel)⟩
theorem df__law_is_name {K : PySem.W.Frag} {mg : Str → Option Value} {f : Addr} {fd : FuncData} (F : FunD K "_law_is_name" "_law_is_name" (defArgs s__law_is_name) (defBody s__law_is_name) (defScope s__law_is_name) [] [] f fd) (g : mg "_law_is_name" = some (.ref f)) : Df K mg "_law_is_name" s__law_is_name ["_law_thing"] f fd := by
  obtain ⟨kV, doc, pm, an, cdv, ct, rfl, F⟩ := fun_of F
  have ⟨p0, ea⟩ : ∃ p0 : Pos, defArgs s__law_is_name = plainA [{ arg := "_law_thing", annotation := none, pos := p0 }] := ⟨_, rfl⟩
  exact ⟨F, g, by rw [ea]; exact bp_10, no_kw (by decide +kernel), no_kw (by decide +kernel)⟩
theorem df__law_is_weight {K : PySem.W.Frag} {mg : Str → Option Value} {f : Addr} {fd : FuncData} (F : FunD K "_law_is_weight" "_law_is_weight" (defArgs s__law_is_weight) (defBody s__law_is_weight) (defScope s__law_is_weight) [] [] f fd) (g : mg "_law_is_weight" = some (.ref f)) : Df K mg "_law_is_weight" s__law_is_weight ["_law_thing"] f fd := by
  obtain ⟨kV, doc, pm, an, cdv, ct, rfl, F⟩ := fun_of F
  have ⟨p0, ea⟩ : ∃ p0 : Pos, defArgs s__law_is_weight = plainA [{ arg := "_law_thing", annotation := none, pos := p0 }] := ⟨_, rfl⟩
  exact ⟨F, g, by rw [ea]; exact bp_10, no_kw (by decide +kernel), no_kw (by decide +kernel)⟩
theorem df__law_are_rows {K : PySem.W.Frag} {mg : Str → Option Value} {f : Addr} {fd : FuncData} (F : FunD K "_law_are_rows" "_law_are_rows" (defArgs s__law_are_rows) (defBody s__law_are_rows) (defScope s__law_are_rows) [] [] f fd) (g : mg "_law_are_rows" = some (.ref f)) : Df K mg "_law_are_rows" s__law_are_rows ["_law_thing"] f fd := by
  obtain ⟨kV, doc, pm, an, cdv, ct, rfl, F⟩ := fun_of F
  have ⟨p0, ea⟩ : ∃ p0 : Pos, defArgs s__law_are_rows = plainA [{ arg := "_law_thing", annotation := none, pos := p0 }] := ⟨_, rfl⟩
  exact ⟨F, g, by rw [ea]; exact bp_10, no_kw (by decide +kernel), no_kw (by decide +kernel)⟩
theorem bp_11 {x q : Str} {p0 p1 p2 : Pos} {body : List Stmt} {sc : Scope} {kV doc pm : Value} {an : Option Addr} {cdv ct : Value} (s : Shared) (us : List Value) (hl : us.length = 3) : BindsTo s (PySem.W.fnOf x q (plainA [{ arg := "_law_name_here", annotation := none, pos := p0 }, { arg := "_law_rows", annotation := none, pos := p1 }, { arg := "_law_lead", annotation := none, pos := p2 }]) body sc .none kV doc pm an cdv ct) ⟨us, []⟩ ((["_law_name_here", "_law_rows", "_law_lead"] : List Str).zip us) := .of_eq (match us, hl with | [_, _, _], _ => rfl)
theorem df__law_wrong {K : PySem.W.Frag} {mg : Str → Option Value} {f : Addr} {fd : FuncData} (F : FunD K "_law_wrong" "_law_wrong" (defArgs s__law_wrong) (defBody s__law_wrong) (defScope s__law_wrong) [] [] f fd) (g : mg "_law_wrong" = some (.ref f)) : Df K mg "_law_wrong" s__law_wrong ["_law_name_here", "_law_rows", "_law_lead"] f fd := by
  obtain ⟨kV, doc, pm, an, cdv, ct, rfl, F⟩ := fun_of F
  have ⟨p0, p1, p2, ea⟩ : ∃ p0 p1 p2 : Pos, defArgs s__law_wrong = plainA [{ arg := "_law_name_here", annotation := none, pos := p0 }, { arg := "_law_rows", annotation := none, pos := p1 }, { arg := "_law_lead", annotation := none, pos := p2 }] := ⟨_, _, _, rfl⟩
  exact ⟨F, g, by rw [ea]; exact bp_11, no_kw (by decide +kernel), no_kw (by decide +kernel)⟩
theorem df__law_told {K : PySem.W.Frag} {mg : Str → Option Value} {f : Addr} {fd : FuncData} (F : FunD K "_law_told" "_law_told" (defArgs s__law_told) (defBody s__law_told) (defScope s__law_told) [] [] f fd) (g : mg "_law_told" = some (.ref f)) : Df K mg "_law_told" s__law_told ["_law_name_here", "_law_rows", "_law_lead"] f fd := by
  obtain ⟨kV, doc, pm, an, cdv, ct, rfl, F⟩ := fun_of F
  have ⟨p0, p1, p2, ea⟩ : ∃ p0 p1 p2 : Pos, defArgs s__law_told = plainA [{ arg := "_law_name_here", annotation := none, pos := p0 }, { arg := "_law_rows", annotation := none, pos := p1 }, { arg := "_law_lead", annotation := none, pos := p2 }] := ⟨_, _, _, rfl⟩
  exact ⟨F, g, by rw [ea]; exact bp_11, no_kw (by decide +kernel), no_kw (by decide +kernel)⟩
theorem bp_12 {x q : Str} {p0 : Pos} {body : List Stmt} {sc : Scope} {kV doc pm : Value} {an : Option Addr} {cdv ct : Value} (s : Shared) (us : List Value) (hl : us.length = 1) : BindsTo s (PySem.W.fnOf x q (plainA [{ arg := "_law_script", annotation := none, pos := p0 }]) body sc .none kV doc pm an cdv ct) ⟨us, []⟩ ((["_law_script"] : List Str).zip us) := .of_eq (match us, hl with | [_], _ => rfl)
theorem df_law {K : PySem.W.Frag} {mg : Str → Option Value} {f : Addr} {fd : FuncData} (F : FunD K "law" "law" (defArgs s_law) (defBody s_law) (defScope s_law) [] [] f fd) (g : mg "law" = some (.ref f)) : Df K mg "law" s_law ["_law_script"] f fd := by
  obtain ⟨kV, doc, pm, an, cdv, ct, rfl, F⟩ := fun_of F
  have ⟨p0, ea⟩ : ∃ p0 : Pos, defArgs s_law = plainA [{ arg := "_law_script", annotation := none, pos := p0 }] := ⟨_, rfl⟩
  exact ⟨F, g, by rw [ea]; exact bp_12, no_kw (by decide +kernel), no_kw (by decide +kernel)⟩
theorem mt_dname {K : PySem.W.Frag} {f : Addr} {fd : FuncData} (F : FunD K "name" "Dough.name" (defArgs s_dname) (defBody s_dname) (defScope s_dname) [] [] f fd) : Fun K "name" "Dough.name" s_dname f fd ∧ ∀ (s : Shared) (us : List Value), us.length = 1 → BindsTo s fd ⟨us, []⟩ ((["self"] : List Str).zip us) := by
  obtain ⟨kV, doc, pm, an, cdv, ct, rfl, F⟩ := fun_of F
  exact ⟨F, fun s us hl => .of_eq (match us, hl with | [_], _ => rfl)⟩
theorem mt_drows {K : PySem.W.Frag} {f : Addr} {fd : FuncData} (F : FunD K "rows" "Dough.rows" (defArgs s_drows) (defBody s_drows) (defScope s_drows) [] [] f fd) : Fun K "rows" "Dough.rows" s_drows f fd ∧ ∀ (s : Shared) (us : List Value), us.length = 1 → BindsTo s fd ⟨us, []⟩ ((["self"] : List Str).zip us) := by
  obtain ⟨kV, doc, pm, an, cdv, ct, rfl, F⟩ := fun_of F
  exact ⟨F, fun s us hl => .of_eq (match us, hl with | [_], _ => rfl)⟩
theorem mt_dlead {K : PySem.W.Frag} {f : Addr} {fd : FuncData} (F : FunD K "lead" "Dough.lead" (defArgs s_dlead) (defBody s_dlead) (defScope s_dlead) [] [] f fd) : Fun K "lead" "Dough.lead" s_dlead f fd ∧ ∀ (s : Shared) (us : List Value), us.length = 1 → BindsTo s fd ⟨us, []⟩ ((["self"] : List Str).zip us) := by
  obtain ⟨kV, doc, pm, an, cdv, ct, rfl, F⟩ := fun_of F
  exact ⟨F, fun s us hl => .of_eq (match us, hl with | [_], _ => rfl)⟩
theorem dall22 {K : PySem.W.Frag} {f : Addr} {fd : FuncData} (F : FunD K "__init__" "Dough.__init__" (defArgs s_dinit) (defBody s_dinit) (defScope s_dinit) [.int 0] [] f fd) : ∃ g, KBn K fd ["self", "name", "rows", "lead"] (3 + 1) [] g (fun vs _ => vs) := by
  obtain ⟨its, hb⟩ := L2.FunD.kbindsD (ps := ["self", "name", "rows", "lead"]) F (3 + 1) [] (fun us _ _ => us) (fun z => nomatch z) (fun r1 r2 r3 => r1) (fun T kV doc pm an cdv ct us its ws h1 h2 h3 => by
      match us, its, ws, h1, h2, h3 with
      | [_, _, _, _], [_], [], _, _, _ => exact ⟨_, rfl, rfl⟩)
  exact ⟨_, hb⟩
theorem all_mk {l : PySem.W.OpenLaw} {w : World} {K : PySem.W.Frag} {h : Heap} {mg : Str → Option Value} {fa : Addr} (X : K.In h) (G : h.Ns mainGlobals mg) (hfa : mg "law" = some (.ref fa)) (c : SaysY hdFa hdFn K) (hfile : l.prog.main.file = FILE) (htop : (l.prog.main.scope.names.lookup ("super" : Str)).isSome = false) :
    ∃ fd : FuncData, (∀ (s : Shared) (v : Value), BindsTo s fd ⟨[v], []⟩ [("_law_script", v)]) ∧ ∀ base : Heap, K.In base → base.Ns mainGlobals mg → FnG l.prog w K mg base CX0 9 fa fd ["_law_script"] (sp_law K) := by
  have M : Blt mg := ⟨He.free_ok X G (c.fact 37), He.free_ok X G (c.fact 38), He.free_ok X G (c.fact 39), He.free_ok X G (c.fact 40), He.free_ok X G (c.fact 41), He.free_ok X G (c.fact 42), He.free_ok X G (c.fact 43), He.free_ok X G (c.fact 44), He.free_ok X G (c.fact 45), He.free_ok X G (c.fact 46)⟩
  obtain ⟨xC, kC, bC, tC⟩ := He.exc_ok (c.fact 47)
  have T : ExT K mg "NoFraction" (He.ga K "NoFraction") := ⟨He.glo_ok X G (c.fact 24), xC, kC, bC, tC, He.exm_ok (c.fact 48)⟩
  obtain ⟨t_LETTERS, g_LETTERS⟩ := He.str_ok X G (c.fact 49)
  obtain ⟨t_LONGEST_NAME, g_LONGEST_NAME⟩ := He.int_ok X G (c.fact 50)
  obtain ⟨t_MOST_ROWS, g_MOST_ROWS⟩ := He.int_ok X G (c.fact 51)
  obtain ⟨t_LONGEST_LEAD, g_LONGEST_LEAD⟩ := He.int_ok X G (c.fact 52)
  obtain ⟨fd0, FD0⟩ := c.def_ 5
  have D0 := df_is_whole FD0 (He.glo_ok X G (c.fact 53))
  obtain ⟨fd1, FD1⟩ := c.def_ 6
  have D1 := df_common FD1 (He.glo_ok X G (c.fact 54))
  obtain ⟨fd2, FD2⟩ := c.def_ 7
  have D2 := df_is_fraction FD2 (He.glo_ok X G (c.fact 55))
  obtain ⟨fd3, FD3⟩ := c.def_ 8
  have D3 := df_is_above_0 FD3 (He.glo_ok X G (c.fact 56))
  obtain ⟨fd4, FD4⟩ := c.def_ 9
  have D4 := df_is_name FD4 (He.glo_ok X G (c.fact 57))
  obtain ⟨fd5, FD5⟩ := c.def_ 10
  have D5 := df_is_row FD5 (He.glo_ok X G (c.fact 58))
  obtain ⟨fd6, FD6⟩ := c.def_ 11
  have D6 := df_are_rows FD6 (He.glo_ok X G (c.fact 59))
  obtain ⟨fd7, FD7⟩ := c.def_ 12
  have D7 := df_is_lead FD7 (He.glo_ok X G (c.fact 60))
  obtain ⟨fd8, FD8⟩ := c.def_ 13
  have D8 := df__law_cell FD8 (He.glo_ok X G (c.fact 61))
  obtain ⟨fd9, FD9⟩ := c.def_ 14
  have D9 := df__law_pot FD9 (He.glo_ok X G (c.fact 62))
  obtain ⟨fd10, FD10⟩ := c.def_ 15
  have D10 := df__law_draw FD10 (He.glo_ok X G (c.fact 63))
  obtain ⟨fd11, FD11⟩ := c.def_ 16
  have D11 := df__law_low FD11 (He.glo_ok X G (c.fact 64))
  obtain ⟨fd12, FD12⟩ := c.def_ 17
  have D12 := df__law_name FD12 (He.glo_ok X G (c.fact 65))
  obtain ⟨fd13, FD13⟩ := c.def_ 18
  have D13 := df__law_names FD13 (He.glo_ok X G (c.fact 66))
  obtain ⟨fd14, FD14⟩ := c.def_ 19
  have D14 := df__law_parts FD14 (He.glo_ok X G (c.fact 67))
  obtain ⟨fd15, FD15⟩ := c.def_ 20
  have D15 := df__law_odd_name FD15 (He.glo_ok X G (c.fact 68))
  obtain ⟨fd16, FD16⟩ := c.def_ 21
  have D16 := df__law_odd_parts FD16 (He.glo_ok X G (c.fact 69))
  obtain ⟨fd17, FD17⟩ := c.def_ 22
  have D17 := df__law_odd_row FD17 (He.glo_ok X G (c.fact 70))
  obtain ⟨fd18, FD18⟩ := c.def_ 23
  have D18 := df__law_odd_lead FD18 (He.glo_ok X G (c.fact 71))
  obtain ⟨fd19, FD19⟩ := c.def_ 24
  have D19 := df__law_odd_rows FD19 (He.glo_ok X G (c.fact 72))
  obtain ⟨fd20, FD20⟩ := c.def_ 25
  have D20 := df__law_is_whole FD20 (He.glo_ok X G (c.fact 73))
  obtain ⟨fd21, FD21⟩ := c.def_ 26
  have D21 := df__law_is_name FD21 (He.glo_ok X G (c.fact 74))
  obtain ⟨fd22, FD22⟩ := c.def_ 27
  have D22 := df__law_is_weight FD22 (He.glo_ok X G (c.fact 75))
  obtain ⟨fd23, FD23⟩ := c.def_ 28
  have D23 := df__law_are_rows FD23 (He.glo_ok X G (c.fact 76))
  obtain ⟨fd24, FD24⟩ := c.def_ 29
  have D24 := df__law_wrong FD24 (He.glo_ok X G (c.fact 77))
  obtain ⟨fd25, FD25⟩ := c.def_ 30
  have D25 := df__law_told FD25 (He.glo_ok X G (c.fact 78))
  obtain ⟨fd26, FD26⟩ := c.def_ 31
  have D26 := df_law FD26 (He.glo_ok X G (c.fact 79))
  have e := hfa.symm.trans D26.g
  cases e
  refine ⟨_, fun s v => D26.b1 s [v] rfl, fun base _ _ => ?_⟩
  have Mx : Bltx mg := ⟨He.free_ok X G (c.fact 0), He.free_ok X G (c.fact 1), He.free_ok X G (c.fact 2)⟩
  have hn : PySem.W.specialIn K (.builtin "object.__class__") "__get__" = some (some (.builtin "getset_descriptor.__get__")) := of_decide_eq_true (c.fact 3)
  have htk : PySem.W.takesIn K (.builtin "object.__class__") = some true := of_decide_eq_true (c.fact 4)
  have ml := He.free_ok X G (c.fact 5)
  have ms := He.free_ok X G (c.fact 6)
  obtain ⟨fdD, FDD⟩ := c.def_ 0
  have FDD : FunD K "__init__" "Dough.__init__" (defArgs s_dinit) (defBody s_dinit) (defScope s_dinit) [.int 0] [] (He.ma K (He.ga K "Dough") "__init__") fdD := FDD
  have MKD : Mk K (He.ga K "Dough") (He.ma K (He.ga K "Dough") "__init__") := He.mkr_ok (c.fact 7)
  have XKD : Cls K (He.ga K "Dough") := He.cls_ok (c.fact 8)
  have XD : DghF K (He.ga K "Dough") := ⟨XKD, He.noat_ok (c.fact 9), He.noat_ok (c.fact 10), He.noat_ok (c.fact 11)⟩
  have clD : PySem.W.findIn K (.ref (He.ga K "Dough")) "__class__" = some (some (.builtin "object.__class__")) := of_decide_eq_true (c.fact 12)
  have moD : PySem.W.mroIn K (He.ga K "Dough") (.type "object") = some true := of_decide_eq_true (c.fact 13)
  have GCD := He.glo_ok X G (c.fact 14)
  obtain ⟨fd_dname, FD_dname⟩ := c.def_ 1
  have FM_dname := mt_dname FD_dname
  have ME_dname : Meth K (He.ga K "Dough") "name" (He.ma K (He.ga K "Dough") "name") := He.meth_ok (c.fact 15)
  obtain ⟨fd_drows, FD_drows⟩ := c.def_ 2
  have FM_drows := mt_drows FD_drows
  have ME_drows : Meth K (He.ga K "Dough") "rows" (He.ma K (He.ga K "Dough") "rows") := He.meth_ok (c.fact 16)
  obtain ⟨fd_dlead, FD_dlead⟩ := c.def_ 3
  have FM_dlead := mt_dlead FD_dlead
  have ME_dlead : Meth K (He.ga K "Dough") "lead" (He.ma K (He.ga K "Dough") "lead") := He.meth_ok (c.fact 17)
  have C1 : Cal l.prog w K mg base CX0 1 "common" ["one", "other"] (spCom) := D1.cal (ok_com D1.fn)
  have CW : Cal l.prog w K mg base CX0 1 "is_whole" ["thing"] (sp_whole K) := D0.cal (ok_whole M Mx D0.fn)
  have CF : Cal l.prog w K mg base CX0 2 "is_fraction" ["thing"] (sp_isfr K) := D2.cal (ok_isfr M Mx D2.fn CW C1)
  have CN : Cal l.prog w K mg base CX0 2 "is_name" ["thing"] (sp_isnm K) := D4.cal (ok_isnm M Mx g_LETTERS g_LONGEST_NAME D4.fn)
  have CAQ : Cal l.prog w K mg base CX0 3 "is_above_0" ["thing"] (sp_ab0Q K) := D3.cal (ok_ab0Q D3.fn CF)
  have CRo : Cal l.prog w K mg base CX0 4 "is_row" ["thing"] (sp_isrow K) := D5.cal (ok_isrow M Mx D5.fn CN CAQ)
  have CRs : Cal l.prog w K mg base CX0 5 "are_rows" ["thing"] (sp_arer K) := D6.cal (ok_arer M Mx ml ms g_MOST_ROWS D6.fn CRo)
  have CLd : Cal l.prog w K mg base CX0 2 "is_lead" ["thing"] (sp_lead K) := D7.cal (ok_lead g_LONGEST_LEAD D7.fn CW)
  have gL := He.glo_ok X G (c.fact 18)
  have MV := He.free_ok X G (c.fact 19)
  obtain ⟨e_TX, o_TX⟩ := c.at_ 4 rfl
  obtain ⟨fdNoDough, TX⟩ := xtB_ok (mg := mg) (ps := ["field"]) (st := sx_NoDough) (qual := "NoDough.__init__") hfile htop (He.glo_ok X G (c.fact 21)) (He.free_ok X G (c.fact 22)) (c.fact 20) e_TX o_TX rfl (fun cc kV doc pm an cdv ct us hl => match us, hl with | [_, _], _ => rfl)
  have FID := ok_dinit (P := l.prog) (w := w) (base := base) (mg := mg) Mx XD FDD CN CRs CLd
  have FIX := ok_dinitX (P := l.prog) (w := w) (base := base) (mg := mg) TX FDD CN CRs CLd
  have MPX : MakG l.prog w K mg base (L2.CX l.prog w) 6 "Dough" (He.ga K "Dough") (He.ma K (He.ga K "Dough") "__init__") _ ["self", "name", "rows", "lead"] (sp_or (sp_dinit K (He.ga K "Dough")) (sp_dinitX K (He.ga K "NoDough"))) := ⟨MKD, FID.lift.or FIX, GCD⟩
  have DMn : MetG l.prog w K mg base CX0 1 (He.ga K "Dough") "name" (He.ma K (He.ga K "Dough") "name") fd_dname ["self"] (sp_dname K (He.ga K "Dough")) := ⟨XKD, ME_dname, ok_dname XD FM_dname.1, FM_dname.2⟩
  have DMr : MetG l.prog w K mg base CX0 1 (He.ga K "Dough") "rows" (He.ma K (He.ga K "Dough") "rows") fd_drows ["self"] (sp_drows K (He.ga K "Dough")) := ⟨XKD, ME_drows, ok_drows ml XD FM_drows.1, FM_drows.2⟩
  have DMl : MetG l.prog w K mg base CX0 1 (He.ga K "Dough") "lead" (He.ma K (He.ga K "Dough") "lead") fd_dlead ["self"] (sp_dlead K (He.ga K "Dough")) := ⟨XKD, ME_dlead, ok_dlead XD FM_dlead.1, FM_dlead.2⟩
  obtain ⟨dgall, dhall⟩ := dall22 FDD
  let OT : Oths K mg := ⟨(He.ga K "NoCount"), He.glo_ok X G (c.fact 23), (He.ga K "NoFraction"), He.glo_ok X G (c.fact 24), (He.ga K "NoName"), He.glo_ok X G (c.fact 25), (He.ga K "NoPan"), He.glo_ok X G (c.fact 26), (He.ga K "NoStuff"), He.glo_ok X G (c.fact 27), (He.ga K "NoWeight"), He.glo_ok X G (c.fact 28), (He.ga K "Ring"), He.glo_ok X G (c.fact 29), (He.ga K "Twice"), He.glo_ok X G (c.fact 30), (He.ga K "Uneven"), He.glo_ok X G (c.fact 31), (He.ga K "Unknown"), He.glo_ok X G (c.fact 32)⟩
  have koD : PySem.W.kitAny K (.ref (He.ga K "NoDough")) [.ref (He.ga K "NoCount"), .ref (He.ga K "NoFraction"), .ref (He.ga K "NoName"), .ref (He.ga K "NoPan"), .ref (He.ga K "NoStuff"), .ref (He.ga K "NoWeight"), .ref (He.ga K "Ring"), .ref (He.ga K "Twice"), .ref (He.ga K "Uneven"), .ref (He.ga K "Unknown")] = some false := of_decide_eq_true (c.fact 33)
  have kVD : PySem.W.kitOne K (.ref (He.ga K "NoDough")) (.type "ValueError") = some true := of_decide_eq_true (c.fact 34)
  have elD : PySem.W.exmOne K (.ref (He.ga K "NoDough")) (.ref (He.ga K "LoafError")) = some true := of_decide_eq_true (c.fact 35)
  have kDD : PySem.W.kitOne K (.ref (He.ga K "NoDough")) (.ref (He.ga K "NoDough")) = some true := of_decide_eq_true (c.fact 36)
  have FA : FaD K mg OT (He.ga K "NoDough") (He.ga K "LoafError") := ⟨TX.E, kVD, koD, kDD, elD, TX.X, TX.no _ (by simp)⟩
  have B1 : Cal l.prog w K mg base CX0 1 "_law_cell" ["_law_script", "_law_k"] (sp_cell K) := D8.cal (ok_cell M D8.fn)
  have B2 : Cal l.prog w K mg base CX0 1 "_law_pot" ["_law_cell_here"] (sp_pot) := D9.cal (ok_pot M D9.fn)
  have B3 : Cal l.prog w K mg base CX0 1 "_law_draw" ["_law_pot_here", "_law_many"] (sp_draw) := D10.cal (ok_draw M D10.fn)
  have B4 : Cal l.prog w K mg base CX0 1 "_law_low" ["_law_top", "_law_bottom"] (sp_low) := D11.cal (ok_low M D11.fn)
  have B5 : Cal l.prog w K mg base CX0 2 "_law_name" ["_law_pot_here", "_law_taken"] (sp_name K) := D12.cal (ok_name M D12.fn B3)
  have B6 : Cal l.prog w K mg base CX0 3 "_law_names" ["_law_pot_here", "_law_many"] (sp_names K) := D13.cal (ok_names M D13.fn B5)
  have BP : Cal l.prog w K mg base CX0 2 "_law_parts" ["_law_pot_here"] (sp_parts K) := D14.cal (ok_parts D14.fn B3 B4)
  have BN : Cal l.prog w K mg base CX0 2 "_law_odd_name" ["_law_pot_here"] (sp_oddn K) := D15.cal (ok_oddn M D15.fn B3)
  have BO : Cal l.prog w K mg base CX0 2 "_law_odd_parts" ["_law_pot_here"] (sp_oddp K) := D16.cal (ok_oddp M D16.fn B3)
  have BL : Cal l.prog w K mg base CX0 2 "_law_odd_lead" ["_law_pot_here"] (sp_oddl K) := D18.cal (ok_oddl M D18.fn B3)
  have BR : Cal l.prog w K mg base CX0 2 "_law_odd_row" ["_law_pot_here", "_law_row"] (sp_oddr K) := D17.cal (ok_oddr M D17.fn B3)
  have BRs : Cal l.prog w K mg base CX0 3 "_law_odd_rows" ["_law_pot_here", "_law_rows"] (sp_oddrs K) := D19.cal (ok_oddrs M Mx ml D19.fn B3 BR BO BN)
  have LW : Cal l.prog w K mg base CX0 1 "_law_is_whole" ["_law_thing"] (sp_whole K) := D20.cal (ok_lwhole M Mx D20.fn)
  have LN : Cal l.prog w K mg base CX0 2 "_law_is_name" ["_law_thing"] (sp_lisnm K) := D21.cal (ok_lisnm M Mx D21.fn)
  have LG : Cal l.prog w K mg base CX0 2 "_law_is_weight" ["_law_thing"] (sp_lisw K) := D22.cal (ok_lisw M Mx D22.fn LW B4)
  have LR : Cal l.prog w K mg base CX0 3 "_law_are_rows" ["_law_thing"] (sp_larer K) := D23.cal (ok_larer M Mx ml D23.fn LN LG)
  have LWr : Cal l.prog w K mg base CX0 4 "_law_wrong" ["_law_name_here", "_law_rows", "_law_lead"] (sp_wrong K) := D24.cal (ok_wrong D24.fn LN LR LW)
  have LT : Cal l.prog w K mg base CX0 8 "_law_told" ["_law_name_here", "_law_rows", "_law_lead"] (sp_told K) := D25.cal (ok_told M Mx ml MV OT TX.g gL FA dhall MPX DMn DMr DMl D25.fn)
  exact ok_law M Mx ml D26.fn B1 B2 B3 B6 BP BN BL BRs LR LWr LT
end Lf

set_option Elab.async false
set_option linter.all false
set_option maxRecDepth 100000
set_option maxHeartbeats 0
namespace Lf
open PySem PySem.Spec PyProof.Rows L2
end Lf
open PySem PySem.W PySem.Calls PyProof.Rows
theorem PySem.Challenge.cw_loafshares_k22_whole_doughs_refused_holds : PySem.Challenge.rw_loafshares_k22_whole_doughs_refused.Holds := by
  w_on; o_law
  refine HandSHeadRun.head_any (r := OpenLaw.row PySem.Challenge.rw_loafshares_k22_whole_doughs_refused) (q := view (OpenLaw.row PySem.Challenge.rw_loafshares_k22_whole_doughs_refused).prog [48]) (H := Lf.hdK) (ob := Lf.hdOb) (M := 20000) (loose := Lf.hdLoose) (d := HandSHeadRun.topDef (OpenLaw.row PySem.Challenge.rw_loafshares_k22_whole_doughs_refused).prog 48) (kwd := []) Lf.hdOb_eq
    (by kernel_rfl) (fun s => by kernel_rfl) Lf.hdRun (by kernel_rfl) (by kernel_rfl) (by kernel_rfl) (by rfl) (by first | assumption | decide +kernel) (by decide +kernel) ⟨rfl, rfl, rfl, rfl, rfl, by decide +kernel⟩ ?hw ?hc
  case hw => w_witness2
  case hc =>
    refine Lf.walkX (l := PySem.Challenge.rw_loafshares_k22_whole_doughs_refused) (n := 63) (k := 9) (x := "_law_script") (sp := Lf.sp_law) rfl (by decide) (by kernel_rfl) ⟨rfl, by decide, by decide⟩ ?F (fun K H a ns hl _ hS => ⟨a, ns, rfl, hS, hl, fun _ => rfl⟩)
    intro w mg fa h Y G hmg0
    obtain ⟨K, KX, c⟩ := Y
    have hmg : mg ("law" : PySem.Str) = some (.ref fa) := by
      have e : (HandSHeadRun.topDef (OpenLaw.row PySem.Challenge.rw_loafshares_k22_whole_doughs_refused).prog 48).name = ("law" : PySem.Str) := by kernel_rfl
      rw [← e]
      exact hmg0
    obtain ⟨fd, hb, hF⟩ := Lf.all_mk (l := PySem.Challenge.rw_loafshares_k22_whole_doughs_refused) (w := w) KX G hmg c (by kernel_rfl) (by kernel_rfl)
    exact ⟨K, KX, fd, hb, hF⟩
