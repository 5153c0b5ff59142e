import PyProof.Rows.All
import Wide.All
import OpenK.AllK
import Wide.FinOn
import HandS.ForExc
import HandS.Comp
import HandS.Wide
import KE.KStateDown
import HandS.Ends
import HandS.More
import HandS.Defaults
import HandS.Head0
import HandS.Head1
import HandS.Head2
import HandS.HeadEnd
import HandS.HeadHook1
import HandS.HeadHook2
import KE.KExcSuper
import HandS.Nested
import HandS.ExcInit
import KE.KIsAll
import KE.KExcIs
import KE.KTryMore
import HandS.Base
import HandS.Call
import HandS.Exc
import HandS.ExcIs
import HandS.ExcField
import HandS.ExcOwn
import HandS.FStr
import HandS.CallLocal
import HandS.WideBits
import HandS.Text
import HandS.IsInst
import HandS.Dict
import HandS.Steps
import HandS.Walk
import HandS.Deep
import PyProof.Rows.AssignMoreSeq
import HandS.Iter
import HandS.Zip
import KE.GoesMore
import KE.GoesZip
import KE.DataMinMax
import HandS.Style
import PySem.Challenge.RW_loafshares_k53_whole_none_nearer
set_option Elab.async false
set_option linter.all false
set_option maxRecDepth 100000
set_option maxHeartbeats 4000000
/-! Defs that show data by repr: the promise FnG holds where nothing is being shown (no guard stands), as it is behind a law's call. -/
namespace Lf
open PySem PySem.Spec PyProof.Rows L2
/-- a def's promise where no guard stands -/
structure FnG (P : Program) (w : World) (K : PySem.W.Frag) (mg : Str → Option Value) (base : Heap) (CX : CXT) (k : Nat) (f : Addr) (fd : FuncData) (ps : List Str) (sp : Sp) : Prop where
  size : ∀ vs H Q E, sp vs H Q E → vs.length = ps.length
  goes : ∀ (B : Around) (out : List Env) (s : Shared) (H : Hp) (ar : Args) (us : List Value) (vs : List V) (Q : VK) (E : XK),
    Room k B → B.guards = some [] → Env0 P w K mg base B out s H → BindsTo s fd ar (ps.zip us) → Vals vs us → sp vs H Q E →
      codeAny (model P w) B (.call (.ref f) ar) (CR CX out P w H s Q E) s
section
variable {P : Program} {w : World} {K : PySem.W.Frag} {mg : Str → Option Value} {base : Heap} {CX : CXT} {k : Nat} {f : Addr} {fd : FuncData} {ps : List Str} {sp : Sp}
theorem FnG.mono {j : Nat} (F : FnG P w K mg base CX j f fd ps sp) (h : j ≤ k) : FnG P w K mg base CX k f fd ps sp :=
  ⟨F.size, fun B out s H ar us vs Q E r => F.goes B out s H ar us vs Q E (r.mono h)⟩
theorem FnG.of (F : FnOk P w K mg base CX k f fd ps sp) : FnG P w K mg base CX k f fd ps sp :=
  ⟨F.len, fun B out s H ar us vs Q E r _ => F.run B out s H ar us vs Q E r⟩
/-- by its body: behind the entry no guard stands either -/
theorem GfunX {x qual : Str} {st : Stmt} {N : List Str} (F : Fun K x qual st f fd) (S : FnScope N ps (defScope st)) (size : ∀ vs H Q E, sp vs H Q E → vs.length = ps.length)
    (body : ∀ (cdv : Value) (B : Around) (out : List Env) (s : Shared) (H : Hp) (vs : List V) (Q : VK) (E : XK), B.guards = some [] →
      Room k (B.deeper (envOfC qual (defScope st) s.heap.objs.size f cdv)) → sp vs H Q E →
      ∃ t, PSs (cxOf CX P w K mg base N qual (defScope st) f cdv B out s H E) (defBody st) t ∧
        t { nx := fun _ H' => Q .non H', rt := Q } (start N vs) H) : FnG P w K mg base CX (k + 1) f fd ps sp := by
  obtain ⟨oc, od, kV, doc, pm, an, cdv, ct, osl, rfl, lk, hcd⟩ := F.ex
  refine ⟨size, fun B out s H ar us vs Q E hr hg e0 hb r hs => ?_⟩
  have old : ∀ b o, base.get? b = some o → s.heap.get? b = some o := fun b o e => (e0.bs b o e).1
  have kin : K.In s.heap := e0.mod.kin.keeps old
  refine codeAny_call_function hr.depth (kin _ _ lk) rfl S.co S.gen rfl (PySem.W.codeRec_of kin hcd) (hb _ _ _ _ ?_)
  refine wpAny_newFunctionEnv_cells S.kind (fun ⟨n, v⟩ hy => ?_) fun env he s1 x => ?_
  · rcases S.par n (List.of_mem_zip hy).1 with q | q
    · exact Or.inl q
    · exact Or.inr ⟨q, PySem.W.cellsFrom_some _ _ _ (Or.inl q)⟩
  · subst he
    refine ⟨(e0.mod.nolimit.keeps old).keeps x.toInCall.keep, codeAny_func ?_⟩
    obtain ⟨t, ht, hq⟩ := body cdv B out s H vs Q E hg (hr.deeper _) hs
    have I := inv_start (CX := CX) (N := N) (qual := qual) (cd := cdv) (E := E) S hr.hd e0 (size _ _ _ _ hs) r x
    refine wpAny_mono (ht.run [] s1 (start N vs) H _ I hq) (fun fl s' hs' => ?_) fun e s' z => z
    cases fl with
    | ret u =>
      obtain ⟨v, σ', H', J, rv, q⟩ := hs'
      exact ⟨v, H', J.os, J.bare, J.base, J.hok, rv, q⟩
    | next =>
      obtain ⟨σ', H', J, q⟩ := hs'
      exact ⟨V.non, H', J.os, J.bare, J.base, J.hok, rfl, q⟩
    | brk =>
      obtain ⟨_, _, _, q⟩ := hs'
      exact q.elim
    | cont =>
      obtain ⟨_, _, _, q⟩ := hs'
      exact q.elim
theorem Gfun {x qual : Str} {st : Stmt} {N : List Str} (F : Fun K x qual st f fd) (S : FnScope N ps (defScope st)) (size : ∀ vs H Q E, sp vs H Q E → vs.length = ps.length)
    (body : ∀ (cdv : Value) (B : Around) (out : List Env) (s : Shared) (H : Hp) (vs : List V) (Q : VK) (E : XK), B.guards = some [] →
      Room k (B.deeper (envOfC qual (defScope st) s.heap.objs.size f cdv)) → sp vs H Q E →
      ∃ t, PSs (cxOf CX0 P w K mg base N qual (defScope st) f cdv B out s H E).nox (defBody st) t ∧
        t { nx := fun _ H' => Q .non H', rt := Q } (start N vs) H) : FnG P w K mg base CX0 (k + 1) f fd ps sp :=
  GfunX F S size fun cdv B out s H vs Q E hg hr hs => by
    obtain ⟨t, ht, hq⟩ := body cdv B out s H vs Q E hg hr hs
    exact ⟨t, ht.nox, hq⟩
end
/-- the names that are called by their arguments' names -/
def kwNamesA : List Str := ["aims", "book_text", "by_shares", "changed", "cost", "dough_for", "feel", "fraction", "fraction_text", "is_fraction", "is_less", "is_name", "left", "loaves", "measured", "minus", "moves", "opened"]
def kwNamesB : List Str := ["over", "pan_for", "paper", "parting", "plus", "read_book", "rejoined", "rounded", "row_shares", "scaled", "shares", "sheet", "shows", "times", "tree", "weighed", "worst_of"]
def kwNames : List Str := kwNamesA ++ kwNamesB
def kwN (x : Str) : Bool := kwNames.any fun y => y == x
/-- a def of the module's name x that keeps sp, by level k -/
structure Cal (P : Program) (w : World) (K : PySem.W.Frag) (mg : Str → Option Value) (base : Heap) (CX : CXT) (k : Nat) (x : Str) (ps : List Str) (sp : Sp) : Prop where
  ex : ∃ (f : Addr) (fd : FuncData), FnG P w K mg base CX k f fd ps sp ∧ (∀ (s : Shared) (us : List Value), us.length = ps.length → BindsTo s fd ⟨us, []⟩ (ps.zip us)) ∧
    (kwN x = true → ∀ (s : Shared) (us : List Value), us.length = ps.length → BindsTo s fd ⟨[], ps.zip us⟩ (ps.zip us)) ∧
    (kwN x = true → ∀ (s : Shared) (us : List Value), us.length = ps.length → BindsTo s fd ⟨[], ps.reverse.zip us⟩ (ps.zip us.reverse)) ∧ mg x = some (.ref f) ∧ PySem.W.keepIn K (.ref f) = true
theorem paired_rev {α β : Type} {R : α → β → Prop} : ∀ {xs : List α} {ys : List β}, Paired R xs ys → Paired R xs.reverse ys.reverse := by
  have app : ∀ {xs : List α} {ys : List β} {x : α} {y : β}, Paired R xs ys → R x y → Paired R (xs ++ [x]) (ys ++ [y]) := by
    intro xs ys x y h r
    induction h with
    | nil => exact .cons r .nil
    | cons q _ ih => exact .cons q ih
  intro xs ys h
  induction h with
  | nil => exact .nil
  | cons r _ ih =>
    rw [List.reverse_cons, List.reverse_cons]
    exact app ih r
section
variable {X : Cx} {CX : CXT} {k i : Nat} {f : Addr} {fd : FuncData} {ps : List Str} {sp : Sp} {x : Str} {p pos : Pos} {e : Expr} {es : List Expr} {kws : List Keyword} {t : TA}
/-- what is raised is wished for at the caller's slots -/
theorem run_g {pins : List (Addr × Obj)} {σ : L2.St} {H : Hp} {s : Shared} {Q : VK} {us : List Value} {vs : List V} {ar : Args} {E : XK} (F : FnG X.prog X.w X.K X.mg X.base CX k f fd ps sp) (hr : Room k X.A) (hG : X.A.guards = some [])
    (hx : PassesAt CX X σ E) (I : Inv X pins σ H s) (hb : BindsTo s fd ar (ps.zip us)) (r : Vals vs us) (h : sp vs H Q E) : wpAny (model X.prog X.w) X.A (call (.ref f) ar.pos ar.kw) (EP X pins σ Q) X.xe s := by
  refine wpAny_call (codeAny_mono (F.goes X.A X.stack s H ar us vs Q E hr hG I.env0 hb r h) fun z s' hq => ?_)
  cases z with
  | error e => exact hx pins H s e s' I hq
  | ok fl =>
    cases fl with
    | ret u => exact I.after hq
    | next => exact False.elim hq
    | brk => exact False.elim hq
    | cont => exact False.elim hq
/-- f(e, ..); E: what is wished of an exception at the slots -/
def tG (sp : Sp) (E : L2.St → XK) (t : TA) : TE := fun σ H Q => t σ H fun vs H1 => sp vs H1 Q (E σ)
theorem pe_gS {E : L2.St → XK} (C : Cal X.prog X.w X.K X.mg X.base CX k x ps sp) (hr : Room k X.A) (hG : X.A.guards = some []) (hx : ∀ σ, PassesAt CX X σ (E σ)) (ha : PA X (e :: es) t) (hg : Gl X x := by rfl)
    (hdb : (x == ("__debug__" : Str)) = false := by decide) (he : starEach (e :: es) X.env = (false, eval e X.env) :: starEach es X.env := by rfl)
    (hpl : (backTo pos (starEach es X.env)).any (·.1) = false := by rfl) : PE X (.Call (.Name x p) (e :: es) [] pos) (tG sp E t) := by
  obtain ⟨f, fd, F, hb, _, _, hm, hk⟩ := C.ex
  refine ⟨fun pins s σ H Q I h => wpAny_Call_Name_kw (ld_glob I hg hm (PySem.W.callWith_K (h₀ := X.base) I.ok.mod.kin hk
    (thn (ha.run pos pins s σ H _ I h) fun us s1 ⟨vs, H1, I1, r, q⟩ => ⟨I1.kIn, ?_⟩) he hpl) hdb)⟩
  exact run_g (ar := ⟨us, []⟩) F hr hG (hx σ) I1 (hb s1 us (r.length.symm.trans (F.size _ _ _ _ q))) r q
theorem pass_no {σ : L2.St} : PassesAt CX0 X σ E0 := fun _ _ _ _ _ _ z => z.elim
theorem pe_g (C : Cal X.prog X.w X.K X.mg X.base CX0 k x ps sp) (hr : Room k X.A) (hG : X.A.guards = some []) (ha : PA X (e :: es) t) (hg : Gl X x := by rfl)
    (hdb : (x == ("__debug__" : Str)) = false := by decide) (he : starEach (e :: es) X.env = (false, eval e X.env) :: starEach es X.env := by rfl)
    (hpl : (backTo pos (starEach es X.env)).any (·.1) = false := by rfl) : PE X (.Call (.Name x p) (e :: es) [] pos) (tG sp (fun _ => E0) t) :=
  pe_gS C hr hG (fun _ => pass_no) ha hg hdb he hpl
/-- f(a = e, ..): all by names, in the parameters' order -/
theorem pe_gk (C : Cal X.prog X.w X.K X.mg X.base CX0 k x ps sp) (hr : Room k X.A) (hG : X.A.guards = some []) (ha : PK X kws t) (hks : (backToKw pos (keywordEach kws X.env)).filterMap (·.1) = ps := by rfl) (hg : Gl X x := by rfl)
    (hall : (backToKw pos (keywordEach kws X.env)).all (·.1.isSome) = true := by rfl) (hdb : (x == ("__debug__" : Str)) = false := by decide)
    (hpl : ((backTo pos (starEach [] X.env)).any (·.1) || (backToKw pos (keywordEach kws X.env)).any (·.1.isNone)) = false := by rfl) (hkw : kwN x = true := by decide +kernel) : PE X (.Call (.Name x p) [] kws pos) (tG sp (fun _ => E0) t) := by
  obtain ⟨f, fd, F, _, hb, _, hm, hk⟩ := C.ex
  refine ⟨fun pins s σ H Q I h => wpAny_Call_Name_kw (ld_glob I hg hm (PySem.W.callWith_KW0 (h₀ := X.base) I.ok.mod.kin hk hall (thn (ha.run pos pins s σ H _ I h) fun us s1 ⟨vs, H1, I1, r, q⟩ => ⟨I1.kIn, ?_⟩) hpl) hdb)⟩
  rw [hks]
  exact run_g (ar := ⟨[], ps.zip us⟩) F hr hG pass_no I1 (hb hkw s1 us (r.length.symm.trans (F.size _ _ _ _ q))) r q
/-- f(b = e, a = ..): all by names, from the last parameter to the first -/
def tGr (sp : Sp) (t : TA) : TE := fun σ H Q => t σ H fun vs H1 => sp vs.reverse H1 Q E0
theorem pe_gr (C : Cal X.prog X.w X.K X.mg X.base CX0 k x ps sp) (hr : Room k X.A) (hG : X.A.guards = some []) (ha : PK X kws t) (hks : (backToKw pos (keywordEach kws X.env)).filterMap (·.1) = ps.reverse := by rfl) (hg : Gl X x := by rfl)
    (hall : (backToKw pos (keywordEach kws X.env)).all (·.1.isSome) = true := by rfl) (hdb : (x == ("__debug__" : Str)) = false := by decide)
    (hpl : ((backTo pos (starEach [] X.env)).any (·.1) || (backToKw pos (keywordEach kws X.env)).any (·.1.isNone)) = false := by rfl) (hkw : kwN x = true := by decide +kernel) : PE X (.Call (.Name x p) [] kws pos) (tGr sp t) := by
  obtain ⟨f, fd, F, _, _, hb, hm, hk⟩ := C.ex
  refine ⟨fun pins s σ H Q I h => wpAny_Call_Name_kw (ld_glob I hg hm (PySem.W.callWith_KW0 (h₀ := X.base) I.ok.mod.kin hk hall (thn (ha.run pos pins s σ H _ I h) fun us s1 ⟨vs, H1, I1, r, q⟩ => ⟨I1.kIn, ?_⟩) hpl) hdb)⟩
  rw [hks]
  have hl : us.length = ps.length := r.length.symm.trans ((List.length_reverse (as := vs)).symm.trans (F.size _ _ _ _ q))
  exact run_g (ar := ⟨[], ps.reverse.zip us⟩) (us := us.reverse) (vs := vs.reverse) F hr hG pass_no I1 (hb hkw s1 us hl) (paired_rev r) q
/-- d(e, ..) where the i-th slot holds the def of the module's name y -/
def tGl (i : Nat) (mg : Str → Option Value) (y : Str) (sp : Sp) (E : L2.St → XK) (t : TA) : TE := fun σ H Q => ∃ f, mg y = some (.ref f) ∧ σ[i]? = some (some (.ref f)) ∧ t σ H fun vs H1 => sp vs H1 Q (E σ)
theorem pe_gl {E : L2.St → XK} {y : Str} (C : Cal X.prog X.w X.K X.mg X.base CX k y ps sp) (hr : Room k X.A) (hG : X.A.guards = some []) (hx : ∀ σ, PassesAt CX X σ (E σ)) (ha : PA X (e :: es) t) (hN : X.N[i]? = some x := by rfl)
    (hv : Vis X.env.scope x := by first | exact Or.inl rfl | exact Or.inr (Or.inl rfl) | exact Or.inr (Or.inr rfl))
    (hdb : (x == ("__debug__" : Str)) = false := by decide) (hcd : (x == ("__classdict__" : Str)) = false := by decide) (he : starEach (e :: es) X.env = (false, eval e X.env) :: starEach es X.env := by rfl)
    (hpl : (backTo pos (starEach es X.env)).any (·.1) = false := by rfl) : PE X (.Call (.Name x p) (e :: es) [] pos) (tGl i X.mg y sp E t) := by
  obtain ⟨f, fd, F, hb, _, _, hm, hk⟩ := C.ex
  refine ⟨fun pins s σ H Q I h => ?_⟩
  obtain ⟨f', hf', hs, ht⟩ := h
  obtain rfl : f' = f := by
    rw [hm] at hf'
    cases hf'
    rfl
  refine wpAny_Call_Name_kw (thn ((pe_var (pos := p) hN hv hdb hcd).run pins s σ H (fun v H1 => v = .ref f' ∧ H1 = H) I ⟨.ref f', hs, rfl, rfl⟩) fun u s1 ⟨v, H1, I1, r1, q1⟩ => ?_)
  obtain ⟨rfl, rfl⟩ := q1
  cases r1
  refine PySem.W.callWith_K (h₀ := X.base) I.ok.mod.kin hk (thn (ha.run pos pins s1 σ _ _ I1 ht) fun us s2 ⟨vs, H2, I2, r, q⟩ => ⟨I2.kIn, ?_⟩) he hpl
  exact run_g (ar := ⟨us, []⟩) F hr hG (hx σ) I2 (hb s2 us (r.length.symm.trans (F.size _ _ _ _ q))) r q
end
/-! ### repr of data -/
section
variable {X : Cx}
def rShow (K : PySem.W.Frag) : List V → Hp → VK → Prop := fun xs H Q => ∃ (a : Addr) (d : PyData), xs = [.ref a] ∧ Dp K H (.ref a) d ∧
  d.showable = true ∧ d.hasDict = false ∧ d.depth ≤ 30 ∧ d.shown.length ≤ sizeLine ∧ Q (.str d.shown) H
theorem call_show (hG : X.A.guards = some []) {k : Nat} (hr : Room k X.A) : CallR X (.builtin "repr") (rShow X.K) := by
  intro pins s σ H xs us Q I r h
  obtain ⟨a, d, rfl, hd, hs, hn, h30, hz, q⟩ := h
  cases r with
  | cons r1 r2 =>
    cases r2
    obtain ⟨as, rd⟩ := Dp.reads I d _ _ hd r1
    cases r1
    have hu := hr.units
    exact repr_of_reads' rd hs (PyData.noDict_hsm hn) hG (by omega) (fun _ _ z => z) (fun h' u tk hk => ⟨.str d.shown, H, I.kept hk, ⟨u, rfl⟩, q⟩) hz
/-- // by any divisor but 0 -/
def CDivN (_ j : Int) : Prop := j ≠ 0 ∧ j.natAbs.log2 < 9000
theorem op_fdivN : OpR X (binaryOp .FloorDiv) (rI CDivN fun i j => .int (i.fdiv j)) := opI fun i j _ _ _ _ _ hc q =>
  floordiv_int hc.1 q (.inl (PyProof.noPylong_of_log2 hc.2))
end
/-! ### the end of a law's row -/
theorem at_caller {P : Program} {w : World} {K : PySem.W.Frag} {mg mb : Str → Option Value} {k : Nat} {fa a : Addr} {fd : FuncData} {x : Str} {sp : Sp} {s : Shared} {us : List Value} {ns : List Int}
    (KX : K.In s.heap) (hns : s.heap.Ns mainGlobals mg) (hb : s.heap.Ns builtinsNs mb) (hbb : ∀ x : Str, x ≠ "__name__" → mb x = bootBuiltins x) (hlim : s.heap.NoLimit) (hgen : s.gens = #[])
    (ha : s.heap.get? a = some { cls := .type "list", data := .seq us.toArray }) (hi : IntsAre us ns) (hl : ns.length ≤ sizeLine) (hr : Room k callerA)
    (F : ∀ base : Heap, K.In base → base.Ns mainGlobals mg → FnG P w K mg base CX0 k fa fd [x] sp) (hbind : ∀ (s : Shared) (u : Value), BindsTo s fd ⟨[u], []⟩ [(x, u)])
    (hsp : ∀ H : Hp, Only H → SqL K H a (ns.map V.int) → sp [.ref a] H (fun v _ => v = .bl true) E0) :
    codeAny (model P w) callerA (.call (.ref fa) ⟨[.ref a], []⟩) (fun r s' => r = .ok (.ret (.bool true)) ∧ OldK s.heap s'.heap ∧ s'.os = s.os ∧ AllBare s'.gens) s := by
  -- from a heap that tracks at most the script
  have go : ∀ H : Hp, Only H → SqL K H a (ns.map V.int) → HOk P w H s.heap → (∀ b, H b ≠ none → b = a) → (H a ≠ none → K.lookup a = none) →
      codeAny (model P w) callerA (.call (.ref fa) ⟨[.ref a], []⟩) (fun r s' => r = .ok (.ret (.bool true)) ∧ OldK s.heap s'.heap ∧ s'.os = s.os ∧ AllBare s'.gens) s := by
    intro H only sq hok one key
    have keep : ∀ {b : Addr} {o : Obj}, s.heap.get? b = some o → (∀ vs n, o.data ≠ .seq vs n) → (hidT s.heap H).get? b = some o := by
      intro b o e hd
      refine hidT_get e ?_
      cases q : H b with
      | none => rfl
      | some u =>
        obtain rfl : b = a := one b (by rw [q]; exact fun z => nomatch z)
        rw [ha] at e
        cases e
        exact absurd rfl (hd _ _)
    have names : ∀ {b : Addr} {m : Str → Option Value}, s.heap.Ns b m → (hidT s.heap H).Ns b m := by
      rintro b m ⟨o, es, ep, e, d, r⟩
      exact ⟨o, es, ep, keep e (fun vs n z => by rw [d] at z; cases z), d, r⟩
    have kin : K.In (hidT s.heap H) := by
      intro b o e
      refine hidT_get (KX b o e) ?_
      cases q : H b with
      | none => rfl
      | some u =>
        have nn : H b ≠ none := by rw [q]; exact fun z => nomatch z
        obtain rfl : b = a := one b nn
        rw [key nn] at e
        cases e
    have md : Mod K mg (hidT s.heap H) := ⟨kin, names hns, ⟨mb, names hb, hbb⟩, by obtain ⟨mc, h1, h2⟩ := hlim; exact ⟨mc, names h1, h2⟩⟩
    have none_in : ∀ b : Addr, b ∉ frs [] := fun b z => absurd (show b ∈ ([] : List Addr) from z) (by simp)
    have e0 : Env0 P w K mg (hidT s.heap H) callerA [] s H := { frames := rfl, mod := md, bs := fun b o e => of_hidT e, bsz := Nat.le_of_eq (hidT_size _ _), funs := trivial, frf := fun b z => absurd z (none_in b), hok := hok, bare := .of_eq hgen }
    refine codeAny_mono ((F _ kin (names hns)).goes callerA [] s H ⟨[.ref a], []⟩ [.ref a] [.ref a] _ _ hr rfl e0 (hbind s (.ref a)) (.cons rfl .nil) (hsp H only sq)) fun r s' h => ?_
    cases r with
    | error e => exact False.elim h
    | ok fl =>
      cases fl with
      | next => exact False.elim h
      | brk => exact False.elim h
      | cont => exact False.elim h
      | ret u =>
        obtain ⟨v, H', os, bare, un, hok', rv, q⟩ := h
        obtain rfl : v = .bl true := q
        obtain rfl : u = Value.bool true := rv
        refine ⟨rfl, OldK.of_keep fun b o e => ?_, os, bare⟩
        cases q : H b with
        | none => exact un.keep b o e q (none_in b) (by simp)
        | some y =>
          rcases only b with z | ⟨ob, xs, z⟩
          · rw [q] at z
            cases z
          · obtain ⟨e1, _⟩ := hok b _ z
            obtain ⟨e2, _⟩ := hok' b _ (un.frzs b ob _ z)
            rw [e] at e1
            cases e1
            exact e2
  have rv := vals_ints hi
  cases hk : K.lookup a with
  | some o =>
    have e := KX a o hk
    rw [ha] at e
    cases e
    exact go (fun _ => none) (fun _ => Or.inl rfl) (Or.inr ⟨_, us.toArray, _, hk, rfl, rfl, rfl, by rw [List.size_toArray, hi.length]; exact hl, by simpa using rv⟩)
      (fun b u z => by cases (show (none : Option HO) = some u from z)) (fun b z => absurd rfl z) (fun z => absurd rfl z)
  | none =>
    refine go (fun b => if b = a then some (.frz { cls := .type "list", data := .seq us.toArray } (.lst (ns.map V.int))) else none) ?_ (Or.inl (Or.inr ⟨_, if_pos rfl⟩)) ?_ ?_ (fun _ => hk)
    · intro b
      by_cases h : b = a
      · exact Or.inr ⟨_, _, if_pos h⟩
      · exact Or.inl (if_neg h)
    · intro b u z
      by_cases h : b = a
      · cases (if_pos h).symm.trans z
        subst h
        exact ⟨ha, by rw [List.length_map]; exact hl, us, _, rv, ha⟩
      · cases (if_neg h).symm.trans z
    · intro b z
      by_cases h : b = a
      · exact h
      · exact absurd (if_neg h) z
theorem walkG {l : PySem.W.OpenLaw} {n k : Nat} {q : Program} {loose : List Str} {XP : (Str → Option Value) → Heap → Prop} {YP : World → Heap → Prop} {d : DefRec} {K : Params → PySem.W.Frag} {sp : PySem.W.Frag → Sp} {x : Str}
    (hn : l.most = some n) (hn2 : n ≤ sizeLine) (hdf : d.params.defaults = []) (hr : Room k callerA) (hY : ∀ (w : World) (h : Heap), YP w h → (K w.params).In h)
    (F : ∀ (w : World) (mg : Str → Option Value) (fa : Addr) (h : Heap), (K w.params).In h → h.Ns mainGlobals mg → mg d.name = some (.ref fa) →
      ∃ fd : FuncData, (∀ (s : Shared) (u : Value), BindsTo s fd ⟨[u], []⟩ [(x, u)]) ∧ ∀ base : Heap, (K w.params).In base → base.Ns mainGlobals mg → FnG l.prog w (K w.params) mg base CX0 k fa fd [x] (sp (K w.params)))
    (hsp : ∀ (K : PySem.W.Frag) (H : Hp) (a : Addr) (ns : List Int), ns.length ≤ n → Only H → SqL K H a (ns.map V.int) → sp K [.ref a] H (fun v _ => v = .bl true) E0) :
    PySem.W.WalkO q loose XP YP l.row.toRowW d [] (fun f vs => PySem.call f vs) := by
  refine Att.attach_call hn hdf fun w s0 s mg mb fa o pm cd doc a us ns G Y ho hd hcd hmg hobj hints hlen hg => ?_
  obtain ⟨fd, hb, hF⟩ := F w mg fa _ (hY w _ Y) G.T.g hmg
  exact at_caller (hY w _ Y) G.T.g G.T.b G.T.builtins G.T.nolimit hg hobj hints (Nat.le_trans hlen hn2) hr hF hb fun H hO hS => hsp _ H a ns hlen hO hS
end Lf

set_option Elab.async false
set_option linter.all false
set_option maxRecDepth 100000
set_option maxHeartbeats 4000000
/-! The head by one kernel run, with facts of any form: a fact is a Bool of the part of the heap that the module's names reach. -/
namespace Lf
open PySem PySem.Spec PyProof.Rows L2
abbrev Fct : Type := PySem.W.Frag → Bool
def obsX (fa : List Fct) (fn : List He.DefD) (K : PySem.W.Frag) : He.AlD := ((fa.all fun f => f K) && fn.all fun d => d.ok K, fn.map fun d => He.fnW K d.at_)
def SaysX (fa : List Fct) (fn : List He.DefD) (K : PySem.W.Frag) : Prop := obsX fa fn K = He.valD fn
def obsXG (n : Nat) (fa : List Fct) (fn : List He.DefD) (g : Addr → Option Obj) : He.AlD := obsX fa fn (He.frG g (He.asD g n))
def hookX (n : Nat) (fa : List Fct) (fn : List He.DefD) : PySem.W.Hook where
  α := He.AlD
  obs := fun s => obsXG n fa fn s.heap.get?
  val := fun _ => He.valD fn
  says := fun _ h => ∃ K : PySem.W.Frag, K.In h ∧ SaysX fa fn K
  of := fun _ _ e => ⟨_, He.frG_in, e⟩
  keeps := fun _ _ _ ⟨K, hK, c⟩ k => ⟨K, PySem.W.Frag.In.keeps hK k, c⟩
theorem obsXG_eq {n : Nat} {fa : List Fct} {fn : List He.DefD} {g : Addr → Option Obj} {s : Shared} (h : ∀ a, g a = s.heap.get? a) : obsXG n fa fn g = (hookX n fa fn).obs s := by
  have e : g = s.heap.get? := funext h
  rw [e] <;> rfl
section
variable {fa : List Fct} {fn : List He.DefD} {K : PySem.W.Frag}
theorem SaysX.all (c : SaysX fa fn K) : (fa.all fun f => f K) = true := (He.ba (show ((fa.all fun f => f K) && fn.all fun d => d.ok K) = true from congrArg (fun z : He.AlD => z.1) c)).1
theorem SaysX.fact (c : SaysX fa fn K) (i : Nat) {f : Fct} (h : fa[i]? = some f := by rfl) : f K = true := List.all_eq_true.mp c.all f (List.mem_of_getElem? h)
theorem SaysX.def_ (c : SaysX fa fn K) (i : Nat) {d : He.DefD} (h : fn[i]? = some d := by rfl) : ∃ fd, FunD K d.name d.qual d.params d.body d.scope (d.dvs K) (d.kws K) (He.fAd K d.at_) fd := by
  have c2 := (He.ba (show ((fa.all fun f => f K) && fn.all fun d => d.ok K) = true from congrArg (fun z : He.AlD => z.1) c)).2
  have e : fn.map (fun d => He.fnW K d.at_) = fn.map He.DefD.val := congrArg (fun z : He.AlD => z.2) c
  have e2 : (fn.map fun d => He.fnW K d.at_)[i]? = (fn.map He.DefD.val)[i]? := by rw [e]
  rw [List.getElem?_map, List.getElem?_map, h] at e2
  exact He.DefD.funD (Option.some.inj e2) (List.all_eq_true.mp c2 d (List.mem_of_getElem? h))
end
/-- a def without defaults as the machine has it -/
theorem fun_of {K : PySem.W.Frag} {x qual : Str} {st : Stmt} {f : Addr} {fd : FuncData} (F : FunD K x qual (defArgs st) (defBody st) (defScope st) [] [] f fd) :
    ∃ (kV doc pm : Value) (an : Option Addr) (cdv ct : Value), fd = PySem.W.fnOf x qual (defArgs st) (defBody st) (defScope st) .none kV doc pm an cdv ct ∧ Fun K x qual st f fd := by
  obtain ⟨oc, od, dV, kV, doc, pm, an, cdv, ct, osl, rfl, lk, hcd, dv, _⟩ := F.ex
  obtain rfl : dV = .none := (dv.resolve_right fun z => z.1 rfl).2
  exact ⟨kV, doc, pm, an, cdv, ct, rfl, fun_mk lk hcd F.kp⟩
/-- a def as the top left it, and how its arguments come to it -/
structure Df (K : PySem.W.Frag) (mg : Str → Option Value) (x : Str) (st : Stmt) (ps : List Str) (f : Addr) (fd : FuncData) : Prop where
  fn : Fun K x x st f fd
  g : mg x = some (.ref f)
  b1 : ∀ (s : Shared) (us : List Value), us.length = ps.length → BindsTo s fd ⟨us, []⟩ (ps.zip us)
  b2 : kwN x = true → ∀ (s : Shared) (us : List Value), us.length = ps.length → BindsTo s fd ⟨[], ps.zip us⟩ (ps.zip us)
  b3 : kwN x = true → ∀ (s : Shared) (us : List Value), us.length = ps.length → BindsTo s fd ⟨[], ps.reverse.zip us⟩ (ps.zip us.reverse)
theorem Df.cal {P : Program} {w : World} {K : PySem.W.Frag} {mg : Str → Option Value} {base : Heap} {CX : CXT} {k : Nat} {x : Str} {st : Stmt} {ps : List Str} {f : Addr} {fd : FuncData} {sp : Sp} (D : Df K mg x st ps f fd) (F : FnG P w K mg base CX k f fd ps sp) : Cal P w K mg base CX k x ps sp :=
  ⟨f, fd, F, D.b1, D.b2, D.b3, D.g, D.fn.kp⟩
/-- nothing keeps the promise of nothing -/
theorem FnG.no {P : Program} {w : World} {K : PySem.W.Frag} {mg : Str → Option Value} {base : Heap} {CX : CXT} {k : Nat} {f : Addr} {fd : FuncData} {ps : List Str} : FnG P w K mg base CX k f fd ps (fun _ _ _ _ => False) :=
  ⟨fun _ _ _ _ h => h.elim, fun _ _ _ _ _ _ _ _ _ _ _ _ _ _ h => h.elim⟩
/-- how plain arguments are bound: by the names alone -/
def plainA (as : List Arg) : Arguments := { posonlyargs := [], args := as, vararg := none, kwonlyargs := [], kw_defaults := [], kwarg := none, defaults := [] }
theorem no_kw {x : Str} {p : Prop} (h : kwN x = false) : kwN x = true → p := fun z => by
  rw [h] at z
  cases z
/-- the law's walk, the module's part given with it -/
theorem walkX {l : PySem.W.OpenLaw} {n k : Nat} {q : Program} {loose : List Str} {XP : (Str → Option Value) → Heap → Prop} {YP : World → Heap → Prop} {d : DefRec} {sp : PySem.W.Frag → Sp} {x : Str}
    (hn : l.most = some n) (hn2 : n ≤ sizeLine) (hdf : d.params.defaults = []) (hr : Room k callerA)
    (F : ∀ (w : World) (mg : Str → Option Value) (fa : Addr) (h : Heap), YP w h → h.Ns mainGlobals mg → mg d.name = some (.ref fa) →
      ∃ K : PySem.W.Frag, K.In h ∧ ∃ fd : FuncData, (∀ (s : Shared) (u : Value), BindsTo s fd ⟨[u], []⟩ [(x, u)]) ∧ ∀ base : Heap, K.In base → base.Ns mainGlobals mg → FnG l.prog w K mg base CX0 k fa fd [x] (sp K))
    (hsp : ∀ (K : PySem.W.Frag) (H : Hp) (a : Addr) (ns : List Int), ns.length ≤ n → Only H → SqL K H a (ns.map V.int) → sp K [.ref a] H (fun v _ => v = .bl true) E0) :
    PySem.W.WalkO q loose XP YP l.row.toRowW d [] (fun f vs => PySem.call f vs) := by
  refine Att.attach_call hn hdf fun w s0 s mg mb fa o pm cd doc a us ns G Y ho hd hcd hmg hobj hints hlen hg => ?_
  obtain ⟨K, KX, fd, hb, hF⟩ := F w mg fa _ Y G.T.g hmg
  exact at_caller KX G.T.g G.T.b G.T.builtins G.T.nolimit hg hobj hints (Nat.le_trans hlen hn2) hr hF hb fun H hO hS => hsp _ H a ns hlen hO hS
end Lf

set_option Elab.async false
set_option linter.all false
set_option maxRecDepth 100000
set_option maxHeartbeats 4000000
/-! An own exception over ValueError whose __init__ begins by super().__init__(..): its body's rule, and its promise FnOk. -/
namespace Lf
open PySem PySem.Spec PyProof.Rows L2 NdefX
/-- what the written part says of a class D whose __init__ at f says super().__init__ : the cell, the code -/
structure SupC (P : Program) (K : PySem.W.Frag) (D f cc cda : Addr) (fd : FuncData) : Prop where
  fn : ∃ (oc : Value) (od : Option Addr) (osl : Array (Option Value)), K.lookup f = some ⟨oc, od, .func fd, osl⟩
  code : ∃ (ccl : Value) (cdd : Option Addr) (vs : Array Value) (ccs : Array (Option Value)) (file : Str) (tf : Tok), K.lookup cda = some ⟨ccl, cdd, .fields vs, ccs⟩ ∧ vs[2]? = some (.str file tf) ∧ ((P.main.file : Str) == file) = true
  cell : ∃ (cl : Value) (cld : Option Addr) (csl : Array (Option Value)), K.lookup cc = some ⟨cl, cld, .cell (some (.ref D)), csl⟩
  sup : PySem.W.ks_superIn K D D "__init__" = some (some (.builtin "ValueError.__init__"))
  sub : PySem.W.mroIn K D (.ref D) = some true
  ve : PySem.W.subIn K (.ref D) (.type "ValueError") = some true
  stat : PySem.W.nsIn K cStatics "thirdparty.any" = some none
  top : (P.main.scope.names.lookup ("super" : Str)).isSome = false
/-- what a body that begins by super().__init__(..) asks: the self is the exception that is being made -/
def tSup (K : PySem.W.Frag) (D : Addr) (ta : TA) (t : TS) : TS := fun E σ H => ∃ a, σ[0]? = some (some (.ref a)) ∧ H a = some (exo a D none) ∧ ta σ H fun vs H1 => vs.length ≤ 1000 ∧ H1 a = some (exo a D none) ∧ t E σ H1
section
variable {X : Cx} {D f cc cda : Addr} {fd : FuncData} {ar : Arg} {e : Expr} {es : List Expr} {rest body : List Stmt} {ta : TA} {t : TS} {p0 p1 p2 p3 pos : Pos} {x0 : Str}
theorem call_sup {pins : List (Addr × Obj)} {σ : L2.St} {H : Hp} {s : Shared} {a u : Addr} {us : List Value} {Q : Value → Shared → Prop} {E : Value → Shared → Prop} {A : Around} (T : OexC X.K D) (I : Inv X pins σ H s) (ea : H a = some (exo a D none))
    (hu : s.heap.get? u = some (PySem.W.kxs_mw "ValueError.__init__" a)) (hl : us.length ≤ sizeLine) (h : ∀ s', Inv X pins σ H s' → Q .none s') : wpAny (model X.prog X.w) A (call (.ref u) us) Q E s := by
  obtain ⟨nm, q, N, bs, bm, sn, sub, ab, col, dd, k0, k1, k2, k3, k5, hC, hbm⟩ := T.cls
  obtain ⟨t1, ho⟩ := exo_at I.hok ea
  obtain ⟨hp, g, d, tk, os⟩ := s
  refine wpAny_call (codeAny_of_tree ?_)
  show wpAny _ A.in1 (callAny (.ref u) ⟨us, []⟩) _ _ _
  simp only [callAny]
  refine wpAny_bind (wpAny_load hu ?_)
  simp only [PySem.W.kxs_mw, show (Value.type "method-wrapper" == Value.type "method" || Value.type "method-wrapper" == Value.type "builtin_function_or_method" || Value.type "method-wrapper" == Value.type "method-wrapper") = true by decide, if_true]
  refine PySem.W.KFB.if_so (by decide) ?_
  refine wpAny_bind (PySem.W.check_bound_init F.excBase_ValueError.toExcCallFacts (I.kIn _ _ hC) ho rfl ?_)
  refine wpAny_bind (wpAny_pure (wpAny_pure ?_))
  refine ⟨plainId_quiet F.excBase_ValueError.init.plain _, codeAny_builtin F.excBase_ValueError.initEntry ?_⟩
  refine PySem.W.exc_init_tree (cls := .ref D) (t0 := t1) (dv := none) (c2 := .none) (c3 := .none) (b4 := .bool false) ho hl fun h' k e' _ => ?_
  have J := I.write (t' := tk) (x := a) (e := a) (o := exo a D none) (by rw [ea]; exact True.intro) (.inl rfl) k ⟨_, e'⟩ (exo_ok e')
  have eu : upd H a (exo a D none) = H := by
    funext b
    by_cases hb : b = a
    · rw [hb, upd_same, ea]
    · rw [upd_ne hb]
  rw [eu] at J
  exact h _ J
/-- the body's rule -/
theorem body_sup {pins : List (Addr × Obj)} {σ : L2.St} {H : Hp} {s : Shared} {E : Ends} (S : SupC X.prog X.K D f cc cda fd) (T : OexC X.K D) (hm : X.mg "super" = none) (hA : PA X (e :: es) ta) (hR : PSs X rest t) (I : Inv X pins σ H s) (h : tSup X.K D ta t E σ H)
    (hp : (fd.params.posonlyargs ++ fd.params.args).head? = some ar) (hN : X.N[0]? = some ar.arg) (hka : X.env.kindOf ar.arg = some .local) (hvis : Vis X.env.scope ar.arg)
    (hks : X.env.kindOf "super" = some .globalImplicit) (hkc : X.env.kindOf "__class__" = some .free) (hfu : X.env.func = some f) (hco : X.env.code = .ref cda) (hcl : X.env.cells.lookup ("__class__" : Str) = some cc)
    (hc : ∀ pl : Unit, ∃ pl : Sem Bool, eval (.Call (.Attribute (.Call (.Name "super" p0) [] [] p1) "__init__" p2) (e :: es) [] pos) X.env = (do
      let ov ← attributeBase (.Call (.Name "super" p0) [] [] p1) "__init__" X.env (eval (.Call (.Name "super" p0) [] [] p1) X.env)
      standAt p2.atName
      let (f, first) ← holding [ov] (getMethod ov "__init__" pl)
      callWith pos f first (backTo pos (starEach (e :: es) X.env)) []))
    (hs : swapsWith (.Call (.Attribute (.Call (.Name "super" p0) [] [] p1) "__init__" p2) (e :: es) [] pos) none p3.line X.env = pure false)
    (he : starEach (e :: es) X.env = (false, eval e X.env) :: starEach es X.env) (hpl : (backTo pos (starEach es X.env)).any (·.1) = false) :
    PySem.wpAt (model X.prog X.w) X.A (.func body X.env) (execs (.Expr (.Call (.Attribute (.Call (.Name "super" p0) [] [] p1) "__init__" p2) (e :: es) [] pos) p3 :: rest) X.env) (SP X pins E) X.xe s := by
  obtain ⟨pl, hc⟩ := hc ()
  refine ks_wpAt_execs_cons (ks_wpAt_Expr_any (ks_wpAt_MethodCall (pl := pl) ?_ hc) I.quiet hs)
  have KX := I.kIn
  obtain ⟨oc, od, osl, hf⟩ := S.fn
  obtain ⟨ccl, cdd, vs, ccs, file, tf, hcode, hvs, hfile⟩ := S.code
  obtain ⟨cl, cld, csl, hcell⟩ := S.cell
  obtain ⟨a, hs0, ea, hta⟩ := h
  obtain ⟨t1, ho⟩ := exo_at I.hok ea
  obtain ⟨nm, qn, Nn, bs, bm, sn, sub, ab, col, dd, k0, k1, k2, k3, k5, hC, hbm⟩ := T.cls
  have hcls : PySem.W.clsIn X.K D = some { name := nm, bases := bs, mro := .ref D :: bm, ns := Nn, qualname := qn, hasDict := true, slotNames := sn, subclasses := sub, abstract := ab, collection := col, hasDel := false } := by unfold PySem.W.clsIn; rw [hC] <;> rfl
  have hat : (("__init__" : Str) == ("__class__" : Str)) = false := by decide
  refine ks_wpAt_super_base (env := X.env) hks hkc hat hfu (KX _ _ hf) rfl hp hco (KX _ _ hcode) rfl hvs hfile S.top ?_
  obtain ⟨mb, b1, b2⟩ := I.mod.blt
  refine PySem.W.ks_loadName_global I.ok.kind hks (Calls.loadGlobal_builtin (by rw [I.ok.glob]; exact I.mod.glob.keeps I.bk) hm (by rw [I.ok.blt]; exact b1.keeps I.bk) ((b2 _ (by decide)).trans (PyProof.Rows.Boot.«super»)) ⟨rfl, ?_⟩)
  refine wpAny_loadName_free I.ok.kind hkc hcl ⟨_, KX _ _ hcell, rfl⟩ ?_
  obtain ⟨m, hns, hsl⟩ := I.loc
  obtain ⟨u0, ru0, lk⟩ := hsl 0 ar.arg (.ref a) hN hs0 hvis
  cases ru0
  have hm0 : m ar.arg = some (.ref a) := by
    rcases lk with ⟨_, e⟩ | ⟨e | e, _⟩
    · exact e
    · rw [hka] at e; cases e
    · rw [hka] at e; cases e
  refine wpAny_loadName_local I.ok.kind hka hns hm0 ?_
  refine ks_wpAny_isType_cls (KX _ _ hC) rfl ⟨rfl, ?_⟩
  have II : PySem.W.InstAt s.heap a { cls := .ref D, dict := none, data := .fields #[.ref t1, .none, .none, .none, .bool false, .none] } D none := ⟨ho, rfl, rfl, trivial⟩
  obtain ⟨hp', g, d, tk, os⟩ := s
  refine ks_wpAny_call_super (KX _ _ hC) rfl ho rfl (fun c e => by cases e) (PySem.W.looks_mroIn KX S.sub) (fun h1 e1 kk1 => ?_)
  have I1 : Inv X pins σ H ⟨h1, g, d, tk, os⟩ := I.kept (t' := tk) kk1
  have KX1 := I1.kIn
  have II1 : PySem.W.InstAt h1 a { cls := .ref D, dict := none, data := .fields #[.ref t1, .none, .none, .none, .bool false, .none] } D none := ⟨kk1 _ _ ho, rfl, rfl, trivial⟩
  have sup := S.sup
  unfold PySem.W.ks_superIn at sup
  rw [hcls] at sup
  refine PySem.W.kxs_getMethod PySem.W.kxs_ValueError e1 (PySem.W.looks_opaque KX1 S.stat) (l₀ := .ref D :: bm) (fun A Q E s k q => wpAny_bind ((PySem.W.looks_clsIn KX1 hcls) A _ E s k (wpAny_pure q))) rfl KX1 sup (II1.type.andThen (PySem.W.looks_subIn KX1 S.ve)) (PySem.W.ks_ne KX1 II1 hcls) hat ?_
  show wpAny _ _ (callWith pos (.ref h1.objs.size) [] (backTo pos (starEach (e :: es) X.env)) []) _ _ _
  have kk2 : ∀ b o, h1.get? b = some o → (h1.push (PySem.W.kxs_mw "ValueError.__init__" a)).get? b = some o := fun b o e => Heap.get?_push_of_some _ e
  have I2 : Inv X pins σ H ⟨h1.push (PySem.W.kxs_mw "ValueError.__init__" a), g, d, tk + 1, os⟩ := I1.kept (t' := tk + 1) kk2
  have eu : (h1.push (PySem.W.kxs_mw "ValueError.__init__" a)).get? h1.objs.size = some (PySem.W.kxs_mw "ValueError.__init__" a) := Heap.get?_push_at rfl rfl
  have hnu : H h1.objs.size = none := I1.hok.fresh (Nat.le_refl _)
  have I3 : Inv X ((h1.objs.size, PySem.W.kxs_mw "ValueError.__init__" a) :: pins) σ H ⟨h1.push (PySem.W.kxs_mw "ValueError.__init__" a), g, d, tk + 1, os⟩ := by
    refine I2.pins_of fun p hp => ?_
    rcases List.mem_cons.mp hp with rfl | hp
    · exact ⟨eu, hnu, Ne.symm (Nat.ne_of_lt I1.lt), I1.nofs (Nat.le_refl _), fun v z => by cases z⟩
    · exact I2.pin p (List.mem_append_right _ hp)
  have key := thn (Q' := fun us s4 => PySem.W.KxsAt "ValueError.__init__" h1.objs.size a s4.heap ∧ wpAny (model X.prog X.w) X.A (call (.ref h1.objs.size) ([] ++ us) []) (fun _ s' => PySem.wpAt (model X.prog X.w) X.A (.func body X.env) (execs rest X.env) (SP X pins E) X.xe s') X.xe s4)
      (hA.run pos _ _ σ H _ I3 hta) fun us s4 ⟨vs4, H4, I4, r4, hz, ea4, q4⟩ => by
    have hu4 := (I4.pin _ (List.mem_append_right _ (List.mem_cons_self ..))).1
    have I5 : Inv X pins σ H4 s4 := I4.pins_of fun p hp => I4.pin p (List.mem_append_right _ (List.mem_cons_of_mem _ hp))
    refine ⟨hu4, ?_⟩
    exact call_sup T I5 ea4 hu4 (by rw [List.nil_append, ← Paired.length r4, sizeLine_eq]; omega) fun s' J => wpAt_of_wpAny (hR.run pins s' σ H4 E J q4)
  rw [he] at key ⊢
  refine PySem.W.kxs_callWith (i := "ValueError.__init__") (x := a) (by show (false || (backTo pos (starEach es X.env)).any (·.1)) = false; rw [hpl]; rfl) ?_
  exact PySem.Calls.evalArgs_plain key
end
/-- an own exception's __init__ as it stands behind the top -/
structure XFun (P : Program) (K : PySem.W.Frag) (qual : Str) (st : Stmt) (D f : Addr) (fd : FuncData) (cc cda : Addr) : Prop where
  ex : ∃ (dV kV doc pm : Value) (an : Option Addr) (ct : Value), fd = PySem.W.fnX "__init__" qual (defArgs st) (defBody st) (defScope st) [("__class__", cc)] dV kV doc pm an (.ref cda) ct
  sup : SupC P K D f cc cda fd
  code : PySem.W.codeIn K (.ref cda) qual = true
/-- the context of its body -/
abbrev xcx (CX : CXT) (P : Program) (w : World) (K : PySem.W.Frag) (mg : Str → Option Value) (base : Heap) (N : List Str) (qual : Str) (st : Stmt) (f cc cda : Addr) (A : Around) (outer : List Env) (s : Shared) (H : Hp) (E : XK) : Cx :=
  ncx CX P w K mg base N ⟨"__init__", qual, defArgs st, defBody st, defScope st, [("__class__", cc)], cda⟩ f A outer s H E
section
variable {CX : CXT} {P : Program} {w : World} {K : PySem.W.Frag} {mg : Str → Option Value} {base : Heap} {qual : Str} {st : Stmt} {D f cc cda : Addr} {fd : FuncData} {N ps : List Str} {k : Nat} {sp : Sp} {ar : Arg} {p0 p1 p2 p3 pos : Pos} {e : Expr} {es : List Expr} {rest : List Stmt}
theorem xok (F : XFun P K qual st D f fd cc cda) (T : OexC K D) (hm : mg "super" = none) (S : NScope N ps ["__class__"] (defScope st)) (len : ∀ vs H Q E, sp vs H Q E → vs.length = ps.length)
    (hb : defBody st = .Expr (.Call (.Attribute (.Call (.Name "super" p0) [] [] p1) "__init__" p2) (e :: es) [] pos) p3 :: rest)
    (hp : ((defArgs st).posonlyargs ++ (defArgs st).args).head? = some ar) (hN : N[0]? = some ar.arg) (hka : (defScope st).names.lookup ar.arg = some .local)
    (hks : (defScope st).names.lookup ("super" : Str) = some .globalImplicit)
    (hc : ∀ L : Addr, ∃ pl : Sem Bool, eval (.Call (.Attribute (.Call (.Name "super" p0) [] [] p1) "__init__" p2) (e :: es) [] pos) (PySem.W.envX qual (defScope st) L f (.ref cda) [("__class__", cc)]) = (do
      let ov ← attributeBase (.Call (.Name "super" p0) [] [] p1) "__init__" (PySem.W.envX qual (defScope st) L f (.ref cda) [("__class__", cc)]) (eval (.Call (.Name "super" p0) [] [] p1) (PySem.W.envX qual (defScope st) L f (.ref cda) [("__class__", cc)]))
      standAt p2.atName
      let (g, first) ← holding [ov] (getMethod ov "__init__" pl)
      callWith pos g first (backTo pos (starEach (e :: es) (PySem.W.envX qual (defScope st) L f (.ref cda) [("__class__", cc)]))) []))
    (hs : ∀ L : Addr, swapsWith (.Call (.Attribute (.Call (.Name "super" p0) [] [] p1) "__init__" p2) (e :: es) [] pos) none p3.line (PySem.W.envX qual (defScope st) L f (.ref cda) [("__class__", cc)]) = pure false)
    (he : ∀ L : Addr, starEach (e :: es) (PySem.W.envX qual (defScope st) L f (.ref cda) [("__class__", cc)]) = (false, eval e (PySem.W.envX qual (defScope st) L f (.ref cda) [("__class__", cc)])) :: starEach es (PySem.W.envX qual (defScope st) L f (.ref cda) [("__class__", cc)]))
    (hpl : ∀ L : Addr, (backTo pos (starEach es (PySem.W.envX qual (defScope st) L f (.ref cda) [("__class__", cc)]))).any (·.1) = false)
    (body : ∀ (A : Around) (outer : List Env) (s : Shared) (H : Hp) (vs : List V) (Q : VK) (E : XK), Room k (A.deeper (PySem.W.envX qual (defScope st) s.heap.objs.size f (.ref cda) [("__class__", cc)])) → sp vs H Q E →
      ∃ ta t, PA (xcx CX P w K mg base N qual st f cc cda A outer s H E) (e :: es) ta ∧ PSs (xcx CX P w K mg base N qual st f cc cda A outer s H E) rest t ∧
        tSup K D ta t { nx := fun _ H' => Q .non H', rt := Q } (startF N vs [none]) H) : FnOk P w K mg base CX (k + 1) f fd ps sp := by
  obtain ⟨dV, kV, doc, pm, an, ct, rfl⟩ := F.ex
  obtain ⟨oc, od, osl, hf⟩ := F.sup.fn
  obtain ⟨cl, cld, csl, hcell⟩ := F.sup.cell
  refine ⟨len, fun A outer s H ar' us vs Q E hr e0 hbi r hsp => ?_⟩
  have hl := len _ _ _ _ hsp
  have old : ∀ b o, base.get? b = some o → s.heap.get? b = some o := fun b o e => (e0.bs b o e).1
  have kin : K.In s.heap := e0.mod.kin.keeps old
  have hcc : H cc = none := (e0.bs _ _ (e0.mod.kin _ _ hcell)).2
  refine codeAny_call_function hr.depth (kin _ _ hf) rfl S.co S.gen rfl (PySem.W.codeRec_of kin F.code) (hbi _ _ _ _ ?_)
  refine wpAny_newFunctionEnv S.nocell (fun ⟨n, _⟩ hy => S.par n (List.of_mem_zip hy).1) (fun h₁ hns hsb => ⟨(e0.mod.nolimit.keeps old).fresh _ hsb, ?_⟩) S.kind
  have kp : ∀ b o, s.heap.get? b = some o → h₁.get? b = some o := fun b o e => hsb.extBut b o (Nat.ne_of_lt (Heap.lt_size e)) (Heap.get?_push_of_some _ e)
  obtain ⟨ta, t, hA, hR, hq⟩ := body A outer s H vs Q E (hr.deeper _) hsp
  have C : CellsAt [("__class__", cc)] ["__class__"] [none] s.heap H := by
    have lk : ∀ {y : Str} {c : Addr}, ([(("__class__" : Str), cc)] : List (Str × Addr)).lookup y = some c → y = "__class__" ∧ c = cc := by
      intro y c e
      rw [List.lookup_cons] at e
      cases hy : (y == ("__class__" : Str)) with
      | true =>
        rw [hy] at e
        exact ⟨by simpa using hy, (Option.some.inj e).symm⟩
      | false =>
        rw [hy] at e
        cases e
    refine ⟨rfl, fun y c e => ?_, fun x y c e1 e2 => ?_, fun i y e => ?_⟩
    · obtain ⟨_, rfl⟩ := lk e
      exact ⟨hcc, _, _, kin _ _ hcell, rfl⟩
    · rw [(lk e1).1, (lk e2).1]
    · match i, e with
      | 0, e =>
        cases e
        exact ⟨cc, by simp [List.lookup], fun v z => by cases z⟩
  have I : Inv (xcx CX P w K mg base N qual st f cc cda A outer s H E) [] (startF N vs [none]) H { s with heap := h₁, toks := s.toks + (ps.zip us).length } :=
    inv_startN (F := ⟨"__init__", qual, defArgs st, defBody st, defScope st, [("__class__", cc)], cda⟩) S hr.hd e0 hl r C hns kp
  show codeAny _ _ (.func (defBody st) (PySem.W.envX qual (defScope st) s.heap.objs.size f (.ref cda) [("__class__", cc)])) _ _
  refine ks_codeAny_funcAt ?_
  have B := body_sup (X := xcx CX P w K mg base N qual st f cc cda A outer s H E) (body := defBody st) (cc := cc) (cda := cda) (p3 := p3) F.sup T hm hA hR I hq hp hN hka (.inl hka) hks (S.frk _ (List.mem_cons_self ..)) rfl rfl (show ([(("__class__" : Str), cc)] : List (Str × Addr)).lookup ("__class__" : Str) = some cc by simp [List.lookup]) (fun _ => hc _) (hs _) (he _) (hpl _)
  rw [← hb] at B
  refine ks_wpAt_mono B (fun fl s' hs' => ?_) fun e s' z => z
  have fin : ∀ {σ' : L2.St} {H' : Hp} {v : V} {u : Value}, Inv (xcx CX P w K mg base N qual st f cc cda A outer s H E) [] σ' H' s' → L2.RelV v u → Q v H' → CE outer P w H s Q u s' :=
    fun {σ' H' v u} J rv q => ⟨v, H', J.os, J.bare, J.base, J.hok, rv, q⟩
  cases fl with
  | ret u =>
    obtain ⟨v, σ', H', J, rv, q⟩ := hs'
    exact fin J rv q
  | next =>
    obtain ⟨σ', H', J, q⟩ := hs'
    exact fin (v := V.non) (u := Value.none) J rfl q
  | brk =>
    obtain ⟨_, _, _, q⟩ := hs'
    exact False.elim q
  | cont =>
    obtain ⟨_, _, _, q⟩ := hs'
    exact False.elim q
end
end Lf

set_option Elab.async false
set_option linter.all false
set_option maxRecDepth 100000
set_option maxHeartbeats 4000000
/-! isinstance of a caught error that has fields of its own, in the suite that caught it. -/
namespace Lf
open PySem PySem.Spec PySem.Calls PyProof.Rows PySem.W
/-- the library's fact of an own error, asked of the facts that L2.ExcC holds: with or without a dict of its own -/
theorem kit_own {K : Frag} {x D : Addr} {ox : Obj} {od : Option Obj} (T : L2.ExcC K D) : KitX K (.ref x) (.ref D) (fun h => InstAt h x ox D od) :=
  kitx_exc (gt := none) (match any_some T.hd with | ⟨_, hc, _⟩ => by rw [hc]; rfl) T.hg T.hk T.hs T.ha T.hn T.ht T.hm
end Lf
namespace Lf
open PySem PySem.Spec PyProof.Rows L2
/-- isinstance(e, c), e what the suite caught: its class is D, its fields stand -/
def rIsX (K : PySem.W.Frag) (D a : Addr) (cls : Value) (d : Option Addr) : List V → Hp → VK → Prop := fun xs H Q => cls = .ref D ∧ (d = none ∨ ∃ (dd : Addr) (fs : List (Str × V)), d = some dd ∧ H dd = some (.xd fs)) ∧
  ∃ (c : V) (cv : Value) (b : Bool), xs = [.ref a, c] ∧ (∀ u, RelV c u → u = cv) ∧ PySem.W.kitOne K (.ref D) cv = some b ∧ Q (.bl b) H
theorem call_isX {X : Cx} {a D : Addr} {oe : Obj} {cls : Value} {d : Option Addr} {pn : List (Addr × Obj)} (C : ExcC X.K D) (hz : Zc cls d oe) (hf : ∃ vs, oe.data = .fields vs) : CallR (X.suite a ((a, oe) :: pn)) (.builtin "isinstance") (rIsX X.K D a cls d) := by
  intro pins s σ H xs us Q I r h
  obtain ⟨ec, hd, c, cv, b, rfl, hcv, e, q⟩ := h
  cases r with
  | cons rx rr =>
    cases rr with
    | cons rt rr =>
      cases rr
      cases rx
      have ecv := hcv _ rt
      subst ecv
      obtain ⟨hget, _⟩ := I.pin (a, oe) (List.mem_append.mpr (.inl List.mem_cons_self))
      obtain ⟨vs, hv⟩ := hf
      have J : ∃ od, PySem.W.InstAt s.heap a oe D od := by
        rcases hd with hd | ⟨dd, fs, hd, hH⟩
        · exact ⟨none, hget, by rw [hz.1, ec], by unfold PySem.W.notCls; rw [hv] <;> rfl, by rw [hz.2, hd]; trivial⟩
        · have hx : ObjOk X.prog X.w H s.heap dd (.xd fs) := I.hok dd _ hH
          obtain ⟨o, ho⟩ := objOk_get hx
          exact ⟨some o, hget, by rw [hz.1, ec], by unfold PySem.W.notCls; rw [hv] <;> rfl, by rw [hz.2, hd]; exact ho⟩
      obtain ⟨od, J⟩ := J
      exact PySem.W.kia_one (kit_own (od := od) C) I.kIn J e (fun z => nomatch z) fun tk => ⟨.bl b, H, I.kept (t' := tk) fun _ _ z => z, rfl, q⟩
end Lf

set_option Elab.async false
set_option linter.all false
set_option maxRecDepth 100000
set_option maxHeartbeats 4000000
/-! The head by kernel runs, with the __init__ of own exceptions (a def that holds its class in a cell) among the defs, and the facts of such exceptions. -/
namespace Lf
open PySem PySem.Spec PyProof.Rows L2
abbrev FnV : Type := Option (Str × Str × Arguments × FuncBody × Scope × Addr × List Str × Addr)
def fnV (K : PySem.W.Frag) (p : Str × Option Str) : FnV := match K.lookup (He.fAd K p) with
  | some ⟨_, _, .func fd, _⟩ => some (fd.name, fd.qualname, fd.params, fd.body, fd.scope, fd.globals, fd.closure.map (·.1), fd.builtins)
  | _ => none
/-- a def, and the names that it holds in cells -/
structure DefY where
  d : He.DefD
  cl : List Str := []
def DefY.val (y : DefY) : FnV := some (y.d.name, y.d.qual, y.d.params, .stmts y.d.body, y.d.scope, mainGlobals, y.cl, builtinsNs)
abbrev AlY : Type := Bool × List FnV
def obsY (fa : List Fct) (fn : List DefY) (K : PySem.W.Frag) : AlY := ((fa.all fun f => f K) && fn.all fun y => y.d.ok K, fn.map fun y => fnV K y.d.at_)
def valY (fn : List DefY) : AlY := (true, fn.map DefY.val)
def SaysY (fa : List Fct) (fn : List DefY) (K : PySem.W.Frag) : Prop := obsY fa fn K = valY fn
def obsYG (n : Nat) (fa : List Fct) (fn : List DefY) (g : Addr → Option Obj) : AlY := obsY fa fn (He.frG g (He.asD g n ++ [cStatics]))
def hookY (n : Nat) (fa : List Fct) (fn : List DefY) : PySem.W.Hook where
  α := AlY
  obs := fun s => obsYG n fa fn s.heap.get?
  val := fun _ => valY fn
  says := fun _ h => ∃ K : PySem.W.Frag, K.In h ∧ SaysY fa fn K
  of := fun _ _ e => ⟨_, He.frG_in, e⟩
  keeps := fun _ _ _ ⟨K, hK, c⟩ k => ⟨K, PySem.W.Frag.In.keeps hK k, c⟩
theorem obsYG_eq {n : Nat} {fa : List Fct} {fn : List DefY} {g : Addr → Option Obj} {s : Shared} (h : ∀ a, g a = s.heap.get? a) : obsYG n fa fn g = (hookY n fa fn).obs s := by
  have e : g = s.heap.get? := funext h
  rw [e] <;> rfl
section
variable {fa : List Fct} {fn : List DefY} {K : PySem.W.Frag}
theorem SaysY.fact (c : SaysY fa fn K) (i : Nat) {f : Fct} (h : fa[i]? = some f := by rfl) : f K = true :=
  List.all_eq_true.mp (He.ba (show ((fa.all fun f => f K) && fn.all fun y => y.d.ok K) = true from congrArg (fun z : AlY => z.1) c)).1 f (List.mem_of_getElem? h)
theorem SaysY.at_ (c : SaysY fa fn K) (i : Nat) {y : DefY} (h : fn[i]? = some y) : fnV K y.d.at_ = y.val ∧ y.d.ok K = true := by
  have c2 := (He.ba (show ((fa.all fun f => f K) && fn.all fun y => y.d.ok K) = true from congrArg (fun z : AlY => z.1) c)).2
  have e : fn.map (fun y => fnV K y.d.at_) = fn.map DefY.val := congrArg (fun z : AlY => z.2) c
  have e2 : (fn.map fun y => fnV K y.d.at_)[i]? = (fn.map DefY.val)[i]? := by rw [e]
  rw [List.getElem?_map, List.getElem?_map, h] at e2
  exact ⟨Option.some.inj e2, List.all_eq_true.mp c2 y (List.mem_of_getElem? h)⟩
/-- the def itself, as the part has it -/
theorem DefY.here {y : DefY} (e : fnV K y.d.at_ = y.val) (c : y.d.ok K = true) : ∃ (oc : Value) (od : Option Addr) (cl : List (Str × Addr)) (dV kV doc pm : Value) (an : Option Addr) (cdv ct : Value) (osl : Array (Option Value)),
    K.lookup (He.fAd K y.d.at_) = some ⟨oc, od, .func (PySem.W.fnX y.d.name y.d.qual y.d.params y.d.body y.d.scope cl dV kV doc pm an cdv ct), osl⟩ ∧ cl.map (·.1) = y.cl ∧ PySem.W.codeIn K cdv y.d.qual = true ∧ PySem.W.keepIn K (.ref (He.fAd K y.d.at_)) = true ∧ He.dflB K dV (y.d.dvs K) = true := by
  obtain ⟨kp, c2⟩ := He.ba c
  unfold fnV at e
  cases q : K.lookup (He.fAd K y.d.at_) with
  | none =>
    rw [q] at c2
    cases c2
  | some o =>
    obtain ⟨oc, od, dt, osl⟩ := o
    rw [q] at c2 e
    cases dt with
    | func fd =>
      obtain ⟨n1, n2, n3, n4, n5, n6, n7, n8, n9, n10, n11, n12, n13, n14, n15⟩ := fd
      have e2 : (some (n1, n2, n3, n4, n5, n6, n7.map (·.1), n15) : FnV) = some (y.d.name, y.d.qual, y.d.params, .stmts y.d.body, y.d.scope, mainGlobals, y.cl, builtinsNs) := e
      simp only [Option.some.injEq, Prod.mk.injEq] at e2
      obtain ⟨h1, h2, h3, h4, h5, h6, h7, h8⟩ := e2
      subst h1 h2 h3 h4 h5 h6 h8
      have c3 : (PySem.W.codeIn K n13 y.d.qual && (He.dflB K n8 (y.d.dvs K) && He.kwdB K n9 (y.d.kws K))) = true := c2
      exact ⟨oc, od, n7, n8, n9, n10, n11, n12, n13, n14, osl, rfl, h7, (He.ba c3).1, kp, (He.ba (He.ba c3).2).1⟩
    | _ => cases c2
theorem SaysY.def_ (c : SaysY fa fn K) (i : Nat) {y : DefY} (h : fn[i]? = some y := by rfl) (hc : y.cl = [] := by rfl) : ∃ fd, FunD K y.d.name y.d.qual y.d.params y.d.body y.d.scope (y.d.dvs K) (y.d.kws K) (He.fAd K y.d.at_) fd := by
  obtain ⟨e, ok⟩ := c.at_ i h
  refine He.DefD.funD ?_ ok
  obtain ⟨oc, od, cl, dV, kV, doc, pm, an, cdv, ct, osl, lk, ec, _⟩ := DefY.here e ok
  rw [hc] at ec
  cases cl with
  | nil =>
    show He.fnW K y.d.at_ = _
    unfold He.fnW
    rw [lk]
    rfl
  | cons a b => cases ec
end
/-! ### several runs -/
section
open PySem.W HandSHeadRun
theorem obsY_app {fa fb : List Fct} {fn gn : List DefY} {K : PySem.W.Frag} (h : obsY fa fn K = valY fn) (k : obsY fb gn K = valY gn) : obsY (fa ++ fb) (fn ++ gn) K = valY (fn ++ gn) := by
  have a := He.ba (show ((fa.all fun f => f K) && fn.all fun y => y.d.ok K) = true from congrArg (fun z : AlY => z.1) h)
  have b := He.ba (show ((fb.all fun f => f K) && gn.all fun y => y.d.ok K) = true from congrArg (fun z : AlY => z.1) k)
  have h2 : fn.map (fun y => fnV K y.d.at_) = fn.map DefY.val := congrArg (fun z : AlY => z.2) h
  have k2 : gn.map (fun y => fnV K y.d.at_) = gn.map DefY.val := congrArg (fun z : AlY => z.2) k
  show (((fa ++ fb).all fun f => f K) && (fn ++ gn).all fun y => y.d.ok K, (fn ++ gn).map fun y => fnV K y.d.at_) = (true, (fn ++ gn).map DefY.val)
  rw [List.all_append, List.all_append, a.1, a.2, b.1, b.2, List.map_append, List.map_append, h2, k2]
  rfl
def RunPartY (r : OpenRow) (n M : Nat) (fa : List Fct) (fn : List DefY) (w : World) : Prop := ∀ os : OsState, (endF (stepQ (denQ tabQ) r.prog w) M r.prog w os).map (fun s => obsYG n fa fn (getT s)) = some (valY fn)
def RunLooksY (r : OpenRow) (q : Program) (M : Nat) (loose : List PySem.Str) (w : World) : Prop := ∀ os : OsState, (endF (stepQ (denQ tabQ) r.prog w) M r.prog w os).map (fun s => (looksF r.prog (boot_heap w.params) s.abs, seenQ q loose (importedModules r.prog.main.body) (fun s => xlAt q [] s && recOk r.toRowW.records s) s.abs)) = some (true, openGood q loose)
theorem RunPartY.app {r : OpenRow} {n M : Nat} {fa fb : List Fct} {fn gn : List DefY} {w : World} (h : RunPartY r n M fa fn w) (k : RunPartY r n M fb gn w) : RunPartY r n M (fa ++ fb) (fn ++ gn) w := fun os => by
  have h' := h os
  have k' := k os
  cases e : endF (stepQ (denQ tabQ) r.prog w) M r.prog w os with
  | none =>
    rw [e] at h'
    cases h'
  | some s =>
    rw [e] at h' k'
    exact congrArg some (obsY_app (Option.some.inj h') (Option.some.inj k'))
theorem runY_of {r : OpenRow} {q : Program} {n M : Nat} {loose : List PySem.Str} {fa : List Fct} {fn : List DefY} {w : World} (h : RunLooksY r q M loose w) (k : RunPartY r n M fa fn w) : RunEq r q (hookY n fa fn) (fun s => obsYG n fa fn (getT s)) M loose w := fun os => by
  have h' := h os
  have k' := k os
  cases e : endF (stepQ (denQ tabQ) r.prog w) M r.prog w os with
  | none =>
    rw [e] at h'
    cases h'
  | some s =>
    rw [e] at h' k'
    have h1 := Option.some.inj h'
    have k1 : obsYG n fa fn (getT s) = valY fn := Option.some.inj k'
    refine congrArg some ?_
    show (looksF r.prog (boot_heap w.params) s.abs, seenQ q loose (importedModules r.prog.main.body) (fun s => xlAt q [] s && recOk r.toRowW.records s) s.abs, obsYG n fa fn (getT s)) = (true, openGood q loose, valY fn)
    rw [k1, (Prod.mk.inj h1).1, (Prod.mk.inj h1).2]
end
/-! ### own exceptions -/
/-- an own exception with fields, under its name: ps are the parameters of its __init__, st the def -/
structure XTn (P : Program) (K : PySem.W.Frag) (mg : Str → Option Value) (x qual : Str) (ps : List Str) (st : Stmt) (D fI : Addr) (fdI : FuncData) (cc cda : Addr) : Prop where
  g : mg x = some (.ref D)
  T : OexC K D
  iC : PySem.W.findIn K (.ref D) "__init__" = some (some (.ref fI))
  tI : PySem.W.typeIn K (.ref fI) = some (.type "function")
  F : XFun P K qual st D fI fdI cc cda
  b : Binds K fdI (("self" : Str) :: ps) []
  sup : mg "super" = none
  no : ∀ f ∈ ps, PySem.W.findIn K (.ref D) f = some none
  E : ExcC K D
  X : XfC K D
section
variable {K : PySem.W.Frag} {D : Addr}
def oexB (K : PySem.W.Frag) (D : Addr) : Bool := match K.lookup D with
  | some ⟨.type t, _, .cls cd, sl⟩ => t == "type" && (cd.hasDict && (!cd.hasDel && (match cd.mro, sl.toList with
    | .ref C' :: bm, [_, _, _, _, some (.builtin n), _] => C' == D && (n == "ValueError.__new__" && PySem.HandSPX.refsVE bm)
    | _, _ => false)))
  | _ => false
theorem oexB_ok (hz : oexB K D = true) : ∃ nm q N bs bm sn sub ab col dd k0 k1 k2 k3 k5, K.lookup D = some (excClassObj nm q D N bs bm true sn sub ab col dd k0 k1 k2 k3 k5 "ValueError.__new__") ∧ PySem.HandSPX.refsVE bm = true := by
  unfold oexB at hz
  split at hz
  · rename_i t dd cd sl hl
    obtain ⟨h1, ha⟩ := He.ba hz
    obtain ⟨h2, hb⟩ := He.ba ha
    obtain ⟨h3, hc⟩ := He.ba hb
    clear ha hb hz
    obtain ⟨nm, bs, mro, N, q, hdct, sn, sub, ab, col, hdel⟩ := cd
    obtain ⟨sl⟩ := sl
    have e2 : hdct = true := h2
    have e3 : hdel = false := by
      cases hdel with
      | false => rfl
      | true => cases h3
    subst e2 e3
    have e1 : t = "type" := by simpa using h1
    subst e1
    split at hc
    · rename_i C' bm k0 k1 k2 k3 n k5 hm hs
      obtain ⟨h4, hd⟩ := He.ba hc
      obtain ⟨h5, h6⟩ := He.ba hd
      have e4 : C' = D := by simpa using h4
      have e5 : n = "ValueError.__new__" := by simpa using h5
      subst e4 e5
      have hm : mro = .ref C' :: bm := hm
      have hs : sl = [k0, k1, k2, k3, some (.builtin "ValueError.__new__"), k5] := hs
      subst hm hs
      exact ⟨nm, q, N, bs, bm, sn, sub, ab, col, dd, k0, k1, k2, k3, k5, hl, h6⟩
    · cases hc
  · cases hz
/-- the facts of an own exception over ValueError, with or without an __init__ of its own -/
def excB (K : PySem.W.Frag) (D : Addr) : Bool := decide (PySem.W.findIn K (.ref D) "__getattribute__" = some (some (.builtin "BaseException.__getattribute__"))) && (decide (PySem.W.findIn K (.ref D) "__getattr__" = some none) && (decide (PySem.W.subIn K (.ref D) (.type "BaseException") = some true) && (PySem.W.hasDictIn K D &&
  (decide (PySem.W.findIn K (.ref D) "__class__" = some (some (.builtin "object.__class__"))) && (decide (PySem.W.specialIn K (.builtin "object.__class__") "__get__" = some (some (.builtin "getset_descriptor.__get__"))) && (decide (PySem.W.takesIn K (.builtin "object.__class__") = some true) && decide (PySem.W.mroIn K D (.type "object") = some true)))))))
theorem excB_ok (h : excB K D = true) : ExcC K D ∧ XfC K D := by
  obtain ⟨h1, h⟩ := He.ba h
  obtain ⟨h2, h⟩ := He.ba h
  obtain ⟨h3, h⟩ := He.ba h
  obtain ⟨h4, h⟩ := He.ba h
  obtain ⟨h5, h⟩ := He.ba h
  obtain ⟨h6, h⟩ := He.ba h
  obtain ⟨h7, h8⟩ := He.ba h
  exact ⟨⟨of_decide_eq_true h1, of_decide_eq_true h2, of_decide_eq_true h3, h4, of_decide_eq_true h5, of_decide_eq_true h6, of_decide_eq_true h7, of_decide_eq_true h8⟩, ⟨of_decide_eq_true h1, of_decide_eq_true h2, of_decide_eq_true h3, h4⟩⟩
/-- the cell's place, the code's place, of a def that holds its class -/
def ccOf (K : PySem.W.Frag) (f : Addr) : Addr := match K.lookup f with
  | some ⟨_, _, .func fd, _⟩ => (match fd.closure with | [(_, a)] => a | _ => 0)
  | _ => 0
def cdOf (K : PySem.W.Frag) (f : Addr) : Addr := match K.lookup f with
  | some ⟨_, _, .func fd, _⟩ => (match fd.code with | .ref a => a | _ => 0)
  | _ => 0
def codeB (K : PySem.W.Frag) (file : Str) (c : Addr) : Bool := match K.lookup c with
  | some ⟨_, _, .fields vs, _⟩ => (match (vs[2]? : Option Value) with | some (.str z _) => file == z | _ => false)
  | _ => false
def cellB (K : PySem.W.Frag) (c D : Addr) : Bool := match K.lookup c with
  | some ⟨_, _, .cell (some (.ref a)), _⟩ => a == D
  | _ => false
def xtB (file x : Str) (ps : List Str) (K : PySem.W.Frag) : Bool := oexB K (He.ga K x) && (excB K (He.ga K x) && (codeB K file (cdOf K (He.ma K (He.ga K x) "__init__")) && (cellB K (ccOf K (He.ma K (He.ga K x) "__init__")) (He.ga K x) &&
  (decide (PySem.W.findIn K (.ref (He.ga K x)) "__setattr__" = some (some (.builtin "object.__setattr__"))) && (decide (PySem.W.typeIn K (.ref (He.ga K x)) = some (.type "type")) && (PySem.W.keepIn K (.ref (He.ga K x)) &&
  (decide (PySem.W.findIn K (.ref (He.ga K x)) "__init__" = some (some (.ref (He.ma K (He.ga K x) "__init__")))) && (decide (PySem.W.typeIn K (.ref (He.ma K (He.ga K x) "__init__")) = some (.type "function")) &&
  (decide (PySem.W.ks_superIn K (He.ga K x) (He.ga K x) "__init__" = some (some (.builtin "ValueError.__init__"))) && (decide (PySem.W.mroIn K (He.ga K x) (.ref (He.ga K x)) = some true) && (decide (PySem.W.subIn K (.ref (He.ga K x)) (.type "ValueError") = some true) &&
  (decide (PySem.W.nsIn K cStatics "thirdparty.any" = some none) && (ps.all fun f => decide (PySem.W.findIn K (.ref (He.ga K x)) f = some none))))))))))))))
theorem xtB_ok {P : Program} {mg : Str → Option Value} {x : Str} {ps : List Str} {st : Stmt} {qual file : Str} (hf : P.main.file = file) (htop : (P.main.scope.names.lookup ("super" : Str)).isSome = false) (g : mg x = some (.ref (He.ga K x))) (sup : mg "super" = none) (h : xtB file x ps K = true)
    {y : DefY} (e : fnV K y.d.at_ = y.val) (c : y.d.ok K = true) (ey : y = ⟨⟨(x, some "__init__"), "__init__", qual, defArgs st, defBody st, defScope st, [], []⟩, ["__class__"]⟩)
    (hb : ∀ (cc : Addr) (kV doc pm : Value) (an : Option Addr) (cdv ct : Value) (us : List Value), us.length = (("self" : Str) :: ps).length → bindArgs (PySem.W.fnX "__init__" qual (defArgs st) (defBody st) (defScope st) [("__class__", cc)] .none kV doc pm an cdv ct) ⟨us, []⟩ = pure ((("self" : Str) :: ps).zip us)) :
    ∃ fd, XTn P K mg x qual ps st (He.ga K x) (He.ma K (He.ga K x) "__init__") fd (ccOf K (He.ma K (He.ga K x) "__init__")) (cdOf K (He.ma K (He.ga K x) "__init__")) := by
  subst ey
  obtain ⟨h1, h⟩ := He.ba h
  obtain ⟨h2, h⟩ := He.ba h
  obtain ⟨h3, h⟩ := He.ba h
  obtain ⟨h4, h⟩ := He.ba h
  obtain ⟨h5, h⟩ := He.ba h
  obtain ⟨h6, h⟩ := He.ba h
  obtain ⟨h7, h⟩ := He.ba h
  obtain ⟨h8, h⟩ := He.ba h
  obtain ⟨h9, h⟩ := He.ba h
  obtain ⟨h10, h⟩ := He.ba h
  obtain ⟨h11, h⟩ := He.ba h
  obtain ⟨h12, h⟩ := He.ba h
  obtain ⟨h13, h14⟩ := He.ba h
  obtain ⟨E, Xf⟩ := excB_ok h2
  obtain ⟨oc, od, cl, dV, kV, doc, pm, an, cdv, ct, osl, lk, ec, hcd, kp, dfl⟩ := DefY.here e c
  obtain rfl : dV = .none := ((He.dflB_ok dfl).resolve_right fun z => z.1 rfl).2
  have lk : K.lookup (He.ma K (He.ga K x) "__init__") = some ⟨oc, od, .func (PySem.W.fnX "__init__" qual (defArgs st) (defBody st) (defScope st) cl .none kV doc pm an cdv ct), osl⟩ := lk
  obtain ⟨cc, rfl⟩ : ∃ cc, cl = [(("__class__" : Str), cc)] := by
    match cl, ec with
    | [(a, b)], ec =>
      have : a = ("__class__" : Str) := (List.cons.inj ec).1
      exact ⟨b, by rw [this]⟩
  have ecc : ccOf K (He.ma K (He.ga K x) "__init__") = cc := by
    unfold ccOf
    rw [lk]
  have hcd : PySem.W.codeIn K cdv qual = true := hcd
  obtain ⟨cda, rfl⟩ : ∃ cda, cdv = .ref cda := by
    unfold PySem.W.codeIn at hcd
    split at hcd
    · exact ⟨_, rfl⟩
    · cases hcd
  have ecd : cdOf K (He.ma K (He.ga K x) "__init__") = cda := by
    unfold cdOf
    rw [lk]
  rw [ecd] at h3 ⊢
  rw [ecc] at h4 ⊢
  refine ⟨_, g, ⟨oexB_ok h1, of_decide_eq_true h5, E.hs, of_decide_eq_true h6, h7⟩, of_decide_eq_true h8, of_decide_eq_true h9, ⟨⟨.none, kV, doc, pm, an, ct, rfl⟩, ⟨⟨oc, od, osl, lk⟩, ?_, ?_, of_decide_eq_true h10, of_decide_eq_true h11, of_decide_eq_true h12, of_decide_eq_true h13, htop⟩, hcd⟩, .all fun us hl => hb _ _ _ _ _ _ _ us hl, sup, fun f hf => of_decide_eq_true (List.all_eq_true.mp h14 f hf), E, Xf⟩
  · unfold codeB at h3
    split at h3
    · rename_i a1 a2 vs a3 hl
      split at h3
      · rename_i z tz hz
        exact ⟨a1, a2, vs, a3, z, tz, hl, hz, by rw [hf]; exact h3⟩
      · cases h3
    · cases h3
  · unfold cellB at h4
    split at h4
    · rename_i a1 a2 a a3 hl
      have : a = He.ga K x := by simpa using h4
      subst this
      exact ⟨a1, a2, a3, hl⟩
    · cases h4
end
end Lf

set_option Elab.async false
set_option linter.all false
set_option maxRecDepth 100000
set_option maxHeartbeats 4000000
/-! The head by kernel runs, at less cost: what is seen is kept as bits of a number, so that no list is compared with itself; and the wanted list is no `List.map`, so that the kernel never compares the two mapped functions. -/
namespace Lf
open PySem PySem.Spec PyProof.Rows L2
open PySem.W HandSHeadRun
def seenB (m a : Nat) : Bool := Nat.beq (Nat.land (Nat.shiftRight m a) 1) 1
def freshB : List Addr → Nat → List Addr
  | [], _ => []
  | a :: r, m => match seenB m a with
    | true => freshB r m
    | false => a :: freshB r (Nat.lor m (Nat.shiftLeft 1 a))
def addB : List Addr → Nat → Nat
  | [], m => m
  | a :: r, m => addB r (Nat.lor m (Nat.shiftLeft 1 a))
def refsB (g : Addr → Option Obj) : List Addr → List Addr
  | [] => []
  | a :: r => (match g a with
    | some o => He.refsD o
    | none => []) ++ refsB g r
/-- level by level: m the bits of what is seen, fr the newest level -/
def walkB (g : Addr → Option Obj) : Nat → Nat → List Addr → List Addr
  | 0, _, fr => fr
  | n + 1, m, fr => fr ++ walkB g n (addB (freshB (refsB g fr) m) m) (freshB (refsB g fr) m)
def asB (g : Addr → Option Obj) (n : Nat) : List Addr := walkB g n (addB [mainGlobals] 0) [mainGlobals]
def obsB (n : Nat) (fa : List Fct) (fn : List DefY) (g : Addr → Option Obj) : AlY := obsY fa fn (He.frG g (asB g n ++ [cStatics]))
def hookB (n : Nat) (fa : List Fct) (fn : List DefY) : PySem.W.Hook where
  α := AlY
  obs := fun s => obsB n fa fn s.heap.get?
  val := fun _ => valY fn
  says := fun _ h => ∃ K : PySem.W.Frag, K.In h ∧ SaysY fa fn K
  of := fun _ _ e => ⟨_, He.frG_in, e⟩
  keeps := fun _ _ _ ⟨K, hK, c⟩ k => ⟨K, PySem.W.Frag.In.keeps hK k, c⟩
theorem obsB_eq {n : Nat} {fa : List Fct} {fn : List DefY} {g : Addr → Option Obj} {s : Shared} (h : ∀ a, g a = s.heap.get? a) : obsB n fa fn g = (hookB n fa fn).obs s := by
  have e : g = s.heap.get? := funext h
  rw [e] <;> rfl
def DefY.vals : List DefY → List FnV
  | [] => []
  | y :: ys => y.val :: DefY.vals ys
theorem DefY.vals_eq : ∀ fn : List DefY, DefY.vals fn = fn.map DefY.val
  | [] => rfl
  | y :: ys => by rw [DefY.vals, DefY.vals_eq ys, List.map_cons]
def RunPartZ (r : OpenRow) (n M : Nat) (fa : List Fct) (fn : List DefY) (w : World) : Prop := ∀ os : OsState, (endF (stepQ (denQ tabQ) r.prog w) M r.prog w os).map (fun s => obsB n fa fn (getT s)) = some (true, DefY.vals fn)
def RunPartB (r : OpenRow) (n M : Nat) (fa : List Fct) (fn : List DefY) (w : World) : Prop := ∀ os : OsState, (endF (stepQ (denQ tabQ) r.prog w) M r.prog w os).map (fun s => obsB n fa fn (getT s)) = some (valY fn)
theorem RunPartZ.b {r : OpenRow} {n M : Nat} {fa : List Fct} {fn : List DefY} {w : World} (h : RunPartZ r n M fa fn w) : RunPartB r n M fa fn w := fun os => by
  rw [h os, DefY.vals_eq]
  rfl
theorem RunPartB.app {r : OpenRow} {n M : Nat} {fa fb : List Fct} {fn gn : List DefY} {w : World} (h : RunPartB r n M fa fn w) (k : RunPartB r n M fb gn w) : RunPartB r n M (fa ++ fb) (fn ++ gn) w := fun os => by
  have h' := h os
  have k' := k os
  cases e : endF (stepQ (denQ tabQ) r.prog w) M r.prog w os with
  | none =>
    rw [e] at h'
    cases h'
  | some s =>
    rw [e] at h' k'
    exact congrArg some (obsY_app (Option.some.inj h') (Option.some.inj k'))
theorem runB_of {r : OpenRow} {q : Program} {n M : Nat} {loose : List PySem.Str} {fa : List Fct} {fn : List DefY} {w : World} (h : RunLooksY r q M loose w) (k : RunPartB r n M fa fn w) : RunEq r q (hookB n fa fn) (fun s => obsB n fa fn (getT s)) M loose w := fun os => by
  have h' := h os
  have k' := k os
  cases e : endF (stepQ (denQ tabQ) r.prog w) M r.prog w os with
  | none =>
    rw [e] at h'
    cases h'
  | some s =>
    rw [e] at h' k'
    have h1 := Option.some.inj h'
    have k1 : obsB n fa fn (getT s) = valY fn := Option.some.inj k'
    refine congrArg some ?_
    show (looksF r.prog (boot_heap w.params) s.abs, seenQ q loose (importedModules r.prog.main.body) (fun s => xlAt q [] s && recOk r.toRowW.records s) s.abs, obsB n fa fn (getT s)) = (true, openGood q loose, valY fn)
    rw [k1, (Prod.mk.inj h1).1, (Prod.mk.inj h1).2]
end Lf

set_option linter.all false
/-! Lowest terms: plain arithmetic. -/
namespace Lf
/-- the fraction of two whole numbers, d not 0 -/
def low (n d : Int) : Int × Int := ((n * d.sign) / (Nat.gcd n.natAbs d.natAbs : Nat), (d.natAbs : Int) / (Nat.gcd n.natAbs d.natAbs : Nat))
def IsLow (t b : Int) : Prop := 0 < b ∧ Nat.Coprime t.natAbs b.natAbs
theorem gcd_pos {n d : Int} (h : d ≠ 0) : 0 < Nat.gcd n.natAbs d.natAbs := Nat.gcd_pos_of_pos_right _ (by omega)
theorem low_parts {n d : Int} (h : d ≠ 0) : ∃ (u : Int) (v : Nat), n * d.sign = u * (Nat.gcd n.natAbs d.natAbs : Nat) ∧ d.natAbs = v * Nat.gcd n.natAbs d.natAbs ∧ low n d = (u, (v : Int)) ∧ 0 < v ∧ Nat.Coprime u.natAbs v := by
  have hg := gcd_pos (n := n) h
  obtain ⟨v, hv⟩ := Nat.gcd_dvd_right n.natAbs d.natAbs
  obtain ⟨u, hu⟩ : ∃ u : Int, n * d.sign = (Nat.gcd n.natAbs d.natAbs : Nat) * u := by
    obtain ⟨x, hx⟩ := Nat.gcd_dvd_left n.natAbs d.natAbs
    rcases Int.natAbs_eq n with e | e
    · exact ⟨x * d.sign, by rw [← Int.mul_assoc, ← Int.natCast_mul, ← hx, ← e]⟩
    · exact ⟨-(x : Int) * d.sign, by rw [← Int.mul_assoc, Int.mul_neg, ← Int.natCast_mul, ← hx, ← e]⟩
  have hn : n.natAbs = Nat.gcd n.natAbs d.natAbs * u.natAbs := by
    have := congrArg Int.natAbs hu
    rw [Int.natAbs_mul, Int.natAbs_mul, Int.natAbs_sign_of_ne_zero h, Nat.mul_one, Int.natAbs_natCast] at this
    exact this
  have hvp : 0 < v := by
    rcases Nat.eq_zero_or_pos v with e | e
    · rw [e, Nat.mul_zero] at hv
      omega
    · exact e
  have hgi : ((Nat.gcd n.natAbs d.natAbs : Nat) : Int) ≠ 0 := by omega
  refine ⟨u, v, by rw [hu, Int.mul_comm], by rw [Nat.mul_comm]; exact hv, ?_, hvp, ?_⟩
  · unfold low
    rw [hu, Int.mul_ediv_cancel_left _ hgi]
    have : (d.natAbs : Int) = (Nat.gcd n.natAbs d.natAbs : Nat) * (v : Int) := by rw [← Int.natCast_mul, ← hv]
    rw [this, Int.mul_ediv_cancel_left _ hgi]
  · have e : Nat.gcd n.natAbs d.natAbs = Nat.gcd n.natAbs d.natAbs * Nat.gcd u.natAbs v := by
      rw [← Nat.gcd_mul_left, ← hn, ← hv]
    have e' : Nat.gcd n.natAbs d.natAbs * 1 = Nat.gcd n.natAbs d.natAbs * Nat.gcd u.natAbs v := by rw [Nat.mul_one]; exact e
    exact (Nat.eq_of_mul_eq_mul_left hg e').symm
theorem sign_mul_natAbs' (d : Int) : d.sign * (d.natAbs : Int) = d := Int.sign_mul_natAbs d
theorem low_is {n d : Int} (h : d ≠ 0) : IsLow (low n d).1 (low n d).2 := by
  obtain ⟨u, v, _, _, e, hv, hc⟩ := low_parts (n := n) h
  rw [e]
  exact ⟨by show (0 : Int) < v; omega, hc⟩
theorem low_cross {n d : Int} (h : d ≠ 0) : (low n d).1 * d = n * (low n d).2 := by
  obtain ⟨u, v, h1, h2, e, hv, hc⟩ := low_parts (n := n) h
  rw [e]
  show u * d = n * v
  have hg := gcd_pos (n := n) h
  have hgi : ((Nat.gcd n.natAbs d.natAbs : Nat) : Int) ≠ 0 := by omega
  have hs : d.sign * d.sign = 1 := by
    rcases Int.lt_or_gt_of_ne h with q | q
    · rw [Int.sign_eq_neg_one_of_neg q]
      rfl
    · rw [Int.sign_eq_one_of_pos q]
      rfl
  have ed : d = d.sign * ((v : Int) * (Nat.gcd n.natAbs d.natAbs : Nat)) := by
    rw [← Int.natCast_mul, ← h2]
    exact (sign_mul_natAbs' d).symm
  have : (u * d) * ((Nat.gcd n.natAbs d.natAbs : Nat) : Int) = (n * v) * (Nat.gcd n.natAbs d.natAbs : Nat) := by
    have e1 : (u * d) * ((Nat.gcd n.natAbs d.natAbs : Nat) : Int) = (u * (Nat.gcd n.natAbs d.natAbs : Nat)) * d := by
      rw [Int.mul_assoc, Int.mul_assoc, Int.mul_comm d]
    rw [e1, ← h1]
    generalize hG : ((Nat.gcd n.natAbs d.natAbs : Nat) : Int) = G at *
    calc n * d.sign * d = n * d.sign * (d.sign * (v * G)) := by rw [← ed]
      _ = n * (d.sign * d.sign) * (v * G) := by simp only [Int.mul_assoc]
      _ = n * v * G := by rw [hs]; simp only [Int.mul_one, Int.mul_assoc]
  exact Int.eq_of_mul_eq_mul_right hgi this
theorem low_uniq {t b t' b' : Int} (h : IsLow t b) (h' : IsLow t' b') (e : t * b' = t' * b) : t = t' ∧ b = b' := by
  obtain ⟨hb, hc⟩ := h
  obtain ⟨hb', hc'⟩ := h'
  have e1 : t.natAbs * b'.natAbs = t'.natAbs * b.natAbs := by
    have := congrArg Int.natAbs e
    rwa [Int.natAbs_mul, Int.natAbs_mul] at this
  have d1 : b.natAbs ∣ b'.natAbs := by
    have q : b.natAbs ∣ t.natAbs * b'.natAbs := by
      rw [e1]
      exact Nat.dvd_mul_left _ _
    exact Nat.Coprime.dvd_of_dvd_mul_left hc.symm q
  have d2 : b'.natAbs ∣ b.natAbs := by
    have q : b'.natAbs ∣ t'.natAbs * b.natAbs := by
      rw [← e1]
      exact Nat.dvd_mul_left _ _
    exact Nat.Coprime.dvd_of_dvd_mul_left hc'.symm q
  have eb : b.natAbs = b'.natAbs := Nat.dvd_antisymm d1 d2
  have eb' : b = b' := by omega
  subst eb'
  exact ⟨Int.eq_of_mul_eq_mul_right (by omega) e, rfl⟩
/-- the fraction is the one in lowest terms -/
theorem low_eq {n d t b : Int} (h : d ≠ 0) (hl : IsLow t b) (e : t * d = n * b) : low n d = (t, b) := by
  have hi := low_is (n := n) h
  have hx := low_cross (n := n) h
  have key : (low n d).1 * b = t * (low n d).2 := by
    have q : ((low n d).1 * b) * d = (t * (low n d).2) * d := by
      calc ((low n d).1 * b) * d = ((low n d).1 * d) * b := by rw [Int.mul_assoc, Int.mul_comm b d, Int.mul_assoc]
        _ = (n * (low n d).2) * b := by rw [hx]
        _ = (n * b) * (low n d).2 := by rw [Int.mul_assoc, Int.mul_comm _ b, Int.mul_assoc]
        _ = (t * d) * (low n d).2 := by rw [e]
        _ = (t * (low n d).2) * d := by rw [Int.mul_assoc, Int.mul_comm d, Int.mul_assoc]
    exact Int.eq_of_mul_eq_mul_right h q
  obtain ⟨e1, e2⟩ := low_uniq hi hl key
  exact Prod.ext e1 e2
theorem low_self {t b : Int} (h : IsLow t b) : low t b = (t, b) := low_eq (by have := h.1; omega) h rfl
/-- bounds -/
theorem low_top_le {n d : Int} (h : d ≠ 0) : (low n d).1.natAbs ≤ n.natAbs := by
  obtain ⟨u, v, h1, h2, e, hv, hc⟩ := low_parts (n := n) h
  rw [e]
  show u.natAbs ≤ n.natAbs
  have hg := gcd_pos (n := n) h
  have := congrArg Int.natAbs h1
  rw [Int.natAbs_mul, Int.natAbs_mul, Int.natAbs_sign_of_ne_zero h, Nat.mul_one, Int.natAbs_natCast] at this
  rw [this]
  exact Nat.le_mul_of_pos_right _ hg
theorem low_bottom_le {n d : Int} (h : d ≠ 0) : (low n d).2.natAbs ≤ d.natAbs := by
  obtain ⟨u, v, h1, h2, e, hv, hc⟩ := low_parts (n := n) h
  rw [e]
  show (v : Int).natAbs ≤ d.natAbs
  have hg := gcd_pos (n := n) h
  rw [h2, Int.natAbs_natCast]
  exact Nat.le_mul_of_pos_right _ hg
/-- the program's way: over a bottom above 0 -/
theorem low_pos {n d : Int} (h : 0 < d) : low n d = (n / (Nat.gcd n.natAbs d.natAbs : Nat), d / (Nat.gcd n.natAbs d.natAbs : Nat)) := by
  unfold low
  rw [Int.sign_eq_one_of_pos h, Int.mul_one, show (d.natAbs : Int) = d by omega]
theorem low_neg (n d : Int) : low (-n) (-d) = low n d := by
  unfold low
  rw [Int.sign_neg, Int.natAbs_neg, Int.natAbs_neg, Int.neg_mul_neg]
/-- the law's way: by the greatest common one, below 0 where the bottom is -/
theorem low_fdiv_pos {n d : Int} (h : 0 < d) : (n.fdiv (Nat.gcd n.natAbs d.natAbs : Nat), d.fdiv (Nat.gcd n.natAbs d.natAbs : Nat)) = low n d := by
  rw [low_pos h, Int.fdiv_eq_ediv_of_nonneg _ (by omega), Int.fdiv_eq_ediv_of_nonneg _ (by omega)]
theorem low_fdiv_neg {n d : Int} (h : d < 0) : (n.fdiv (-(Nat.gcd n.natAbs d.natAbs : Nat)), d.fdiv (-(Nat.gcd n.natAbs d.natAbs : Nat))) = low n d := by
  have q := low_fdiv_pos (n := -n) (d := -d) (by omega)
  rw [Int.natAbs_neg, Int.natAbs_neg, low_neg] at q
  rw [← q, ← Int.neg_fdiv_neg, ← Int.neg_fdiv_neg d, Int.neg_neg]
/-- the sum less the other one is the one -/
theorem low_back {a b c d : Int} (hl : IsLow a b) (hd : 0 < d) :
    low ((low (a * d + c * b) (b * d)).1 * d - c * (low (a * d + c * b) (b * d)).2) ((low (a * d + c * b) (b * d)).2 * d) = (a, b) := by
  have hb := hl.1
  have h0 : b * d ≠ 0 := Int.ne_of_gt (Int.mul_pos hb hd)
  have hi := low_is (n := a * d + c * b) h0
  have hx := low_cross (n := a * d + c * b) h0
  generalize (low (a * d + c * b) (b * d)).1 = x at *
  generalize (low (a * d + c * b) (b * d)).2 = y at *
  refine low_eq (Int.ne_of_gt (Int.mul_pos hi.1 hd)) hl ?_
  have : x * (b * d) = x * d * b := by rw [Int.mul_comm b d, Int.mul_assoc]
  rw [this] at hx
  rw [Int.sub_mul, hx, Int.add_mul]
  have e1 : c * y * b = c * b * y := by rw [Int.mul_assoc, Int.mul_comm y b, Int.mul_assoc]
  have e2 : a * (y * d) = a * d * y := by rw [Int.mul_comm y d, Int.mul_assoc]
  rw [e1, e2]
  omega
/-- Euclid's steps keep the greatest common one -/
theorem gcd_step (a b : Int) (hb : 0 < b) (ha : 0 ≤ a) : Nat.gcd b.natAbs (a % b).natAbs = Nat.gcd a.natAbs b.natAbs := by
  have e : (a % b).natAbs = a.natAbs % b.natAbs := by
    rw [Int.natAbs_emod_of_nonneg ha]
  rw [e, Nat.gcd_comm b.natAbs, ← Nat.gcd_rec, Nat.gcd_comm]
end Lf

set_option Elab.async false
set_option linter.all false
set_option maxRecDepth 100000
set_option maxHeartbeats 4000000
set_option exponentiation.threshold 3000
/-! What repr shows of data, and that it fits. -/
namespace Lf
open PySem PySem.Spec PyProof.Rows L2
/-- below 2 ^ 900 -/
def Sm (n : Int) : Prop := n.natAbs < 2 ^ 900
theorem Sm.log {n : Int} (h : Sm n) : n.natAbs.log2 < 900 := PySem.Flt.log2_lt_of (by decide) h
theorem Sm.text {n : Int} (h : Sm n) : (Str.ofString (toString n)).length ≤ 901 := by
  rw [PySem.ofString_length]
  exact int_text_length_le (by decide) h.log
/-- data that can be shown: its weight, its depth -/
structure Ft (w k : Nat) (d : PyData) : Prop where
  sh : d.showable = true
  nd : d.hasDict = false
  dp : d.depth ≤ k
  lv : d.leavesShort 1000 = true
  wt : d.weight ≤ w
structure FtA (w k : Nat) (ds : List PyData) : Prop where
  sh : PyData.showableAll ds = true
  nd : PyData.hasDictAll ds = false
  dp : PyData.depthAll ds ≤ k
  lv : PyData.leavesShortAll 1000 ds = true
  wt : PyData.weightAll ds ≤ w
theorem Ft.int {n : Int} (h : Sm n) : Ft 900 0 (.int n) := by
  have hl := h.log
  refine ⟨?_, ?_, ?_, ?_, ?_⟩
  · simp only [PyData.showable, decide_eq_true_eq]
    omega
  · simp only [PyData.hasDict]
  · simp only [PyData.depth, Nat.le_refl]
  · simp only [PyData.leavesShort, decide_eq_true_eq, PyData.shown]
    exact decide_eq_true (Nat.le_trans h.text (show 901 ≤ 1000 by decide))
  · simp only [PyData.weight]
    split <;> omega
theorem Ft.bool (b : Bool) : Ft 0 0 (.bool b) := ⟨by simp only [PyData.showable], by simp only [PyData.hasDict], by simp only [PyData.depth, Nat.le_refl], by simp only [PyData.leavesShort], by simp only [PyData.weight, Nat.le_refl]⟩
theorem Ft.none : Ft 0 0 .none := ⟨by simp only [PyData.showable], by simp only [PyData.hasDict], by simp only [PyData.depth, Nat.le_refl], by simp only [PyData.leavesShort], by simp only [PyData.weight, Nat.le_refl]⟩
/-- a text whose signs are signs -/
def Sg (x : Str) : Prop := ∀ c ∈ x.cps.toList, c < 16 ^ 8
theorem Sg.of (s : String) : Sg (Str.ofString s) := by
  intro c hc
  rw [Str.ofString_eq_toList] at hc
  obtain ⟨ch, _, rfl⟩ := List.mem_map.mp (show c ∈ s.toList.map Char.toNat from hc)
  exact ch.val.toNat_lt
theorem Sg.app {x y : Str} (h : Sg x) (k : Sg y) : Sg (x ++ y) := by
  intro c hc
  have e : (x ++ y).cps.toList = x.cps.toList ++ y.cps.toList := by
    rw [show (x ++ y).cps = x.cps ++ y.cps from rfl, Array.toList_append]
  rw [e] at hc
  rcases List.mem_append.mp hc with q | q
  · exact h c q
  · exact k c q
theorem Ft.str {w : Nat} {x : Str} (h : Sg x) (hw : x.length ≤ w) : Ft w 0 (.str x) := ⟨by simp only [PyData.showable], by simp only [PyData.hasDict], by simp only [PyData.depth, Nat.le_refl],
  by simp only [PyData.leavesShort, List.all_eq_true, decide_eq_true_eq]; exact h, by simp only [PyData.weight]; exact hw⟩
theorem FtA.nil : FtA 0 0 [] := ⟨by simp only [PyData.showableAll], by simp only [PyData.hasDictAll], by simp only [PyData.depthAll, Nat.le_refl], by simp only [PyData.leavesShortAll], by simp only [PyData.weightAll, Nat.le_refl]⟩
theorem FtA.cons {w k w' k' : Nat} {d : PyData} {ds : List PyData} (h : Ft w k d) (r : FtA w' k' ds) : FtA (w + 1 + w') (max k k') (d :: ds) := by
  refine ⟨?_, ?_, ?_, ?_, ?_⟩
  · simp only [PyData.showableAll, h.sh, r.sh, Bool.and_self]
  · simp only [PyData.hasDictAll, h.nd, r.nd, Bool.or_self]
  · simp only [PyData.depthAll]
    have := h.dp
    have := r.dp
    omega
  · simp only [PyData.leavesShortAll, h.lv, r.lv, Bool.and_self]
  · simp only [PyData.weightAll]
    have := h.wt
    have := r.wt
    omega
theorem Ft.list {w k : Nat} {ds : List PyData} (r : FtA w k ds) : Ft w (k + 1) (.list ds) :=
  ⟨by simp only [PyData.showable]; exact r.sh, by simp only [PyData.hasDict]; exact r.nd, by simp only [PyData.depth]; exact Nat.succ_le_succ r.dp, by simp only [PyData.leavesShort]; exact r.lv, by simp only [PyData.weight]; exact r.wt⟩
theorem Ft.tuple {w k : Nat} {ds : List PyData} (r : FtA w k ds) : Ft w (k + 1) (.tuple ds) :=
  ⟨by simp only [PyData.showable]; exact r.sh, by simp only [PyData.hasDict]; exact r.nd, by simp only [PyData.depth]; exact Nat.succ_le_succ r.dp, by simp only [PyData.leavesShort]; exact r.lv, by simp only [PyData.weight]; exact r.wt⟩
/-- what repr asks -/
structure Showy (d : PyData) : Prop where
  sh : d.showable = true
  nd : d.hasDict = false
  dp : d.depth ≤ 30
  ln : d.shown.length ≤ sizeLine
theorem Ft.showy {w k : Nat} {d : PyData} (h : Ft w k d) (hk : k ≤ 30 := by decide) (hw : w ≤ 16000 := by decide) : Showy d := by
  refine ⟨h.sh, h.nd, Nat.le_trans h.dp hk, ?_⟩
  have e := PyData.shown_le 1000 (by decide) d h.lv
  have e2 := h.wt
  have e3 : (1000 + 2) * d.weight ≤ 1002 * 16000 := Nat.mul_le_mul (Nat.le_refl _) (Nat.le_trans e2 hw)
  have e4 := sizeLine_eq
  omega
/-- a fraction -/
def tD (t : Int × Int) : PyData := .tuple [.int t.1, .int t.2]
theorem Ft.two {t : Int × Int} (h : Sm t.1) (k : Sm t.2) : Ft 1802 1 (tD t) := Ft.tuple (.cons (.int h) (.cons (.int k) .nil))
theorem dp2 {K : PySem.W.Frag} {H : Hp} {p : Addr} {x y : Int} (h : SqT K H p [.int x, .int y]) : Dp K H (.ref p) (tD (x, y)) := .tup h (.cons (.int x) (.cons (.int y) .nil))
theorem dp2' {K : PySem.W.Frag} {H : Hp} {p : Addr} {t : Int × Int} (h : H p = some (.tup [.int t.1, .int t.2])) : Dp K H (.ref p) (tD t) := .tup (.inl (.inl h)) (.cons (.int _) (.cons (.int _) .nil))
mutual
theorem Dp.same {K : PySem.W.Frag} {H H' : Hp} (s : Same H H') : ∀ (d : PyData) (v : V), Dp K H v d → Dp K H' v d
  | .none, _, h => by cases h; exact .non
  | .bool b, _, h => by cases h; exact .bl b
  | .int i, _, h => by cases h; exact .int i
  | .str x, _, h => by cases h; exact .str x
  | .list ds, _, h => by
    cases h with
    | lst h1 h2 => exact .lst (s.seq h1) (DpAll.same s ds _ h2)
  | .tuple ds, _, h => by
    cases h with
    | tup h1 h2 =>
      refine .tup ?_ (DpAll.same s ds _ h2)
      rcases h1 with (h | ⟨o, h⟩) | h
      · exact .inl (.inl (s _ _ h))
      · exact .inl (.inr ⟨o, s _ _ h⟩)
      · exact .inr h
  | .dict _, _, h => by cases h
theorem DpAll.same {K : PySem.W.Frag} {H H' : Hp} (s : Same H H') : ∀ (ds : List PyData) (vs : List V), DpAll K H vs ds → DpAll K H' vs ds
  | [], _, h => by cases h; exact .nil
  | d :: ds, _, h => by
    cases h with
    | cons h1 h2 => exact .cons (Dp.same s d _ h1) (DpAll.same s ds _ h2)
end
end Lf

set_option Elab.async false
set_option linter.all false
set_option maxRecDepth 100000
set_option maxHeartbeats 4000000
namespace Lf
open PySem PySem.Spec PyProof.Rows L2
theorem same_new {H : Hp} {p : Addr} {o : HO} (h : H p = none) : Same H (upd H p o) := fun b x e => by
  rw [upd_ne (ne_of_none e h)]
  exact e
theorem same_rfl {H : Hp} : Same H H := fun _ _ e => e
theorem bt_abs : bootBuiltins "abs" = some (.builtin "abs") := by decide +kernel
theorem bt_len : bootBuiltins "len" = some (.builtin "len") := by decide +kernel
theorem bt_max : bootBuiltins "max" = some (.builtin "max") := by decide +kernel
theorem bt_min : bootBuiltins "min" = some (.builtin "min") := by decide +kernel
theorem bt_divmod : bootBuiltins "divmod" = some (.builtin "divmod") := by decide +kernel
theorem bt_repr : bootBuiltins "repr" = some (.builtin "repr") := by decide +kernel
theorem bt_all : bootBuiltins "all" = some (.builtin "all") := by decide +kernel
theorem bt_int : bootBuiltins "int" = some (.type "int") := by decide +kernel
theorem bt_str : bootBuiltins "str" = some (.type "str") := by decide +kernel
/-- the built-in names that nothing of the text hides -/
structure Blt (mg : Str → Option Value) : Prop where
  abs : mg "abs" = none
  len : mg "len" = none
  max : mg "max" = none
  min : mg "min" = none
  divmod : mg "divmod" = none
  repr : mg "repr" = none
  all : mg "all" = none
  int : mg "int" = none
  str : mg "str" = none
  range : mg "range" = none
/-- an own class under ValueError -/
structure ExT (K : PySem.W.Frag) (mg : Str → Option Value) (x : Str) (C : Addr) : Prop where
  g : mg x = some (.ref C)
  x : PySem.W.excIn K C [.type "ValueError", .type "Exception", .type "BaseException", .type "object"] "ValueError.__new__" = true
  k : PySem.W.keepIn K (.ref C) = true
  b : PySem.W.subIn K (.ref C) (.type "BaseException") = some true
  t : PySem.W.typeIn K (.ref C) = some (.type "type")
  m : PySem.W.exmOne K (.ref C) (.ref C) = some true
section
variable {K : PySem.W.Frag} {H : Hp} {p : Addr} {x y : V} {Q : VK}
theorem ixT0 (h : SqT K H p [x, y]) (q : Q x H) : rIxT K (.ref p) (.int 0) H Q := ⟨p, _, 0, _, rfl, rfl, h, rfl, q⟩
theorem ixT1 (h : SqT K H p [x, y]) (q : Q y H) : rIxT K (.ref p) (.int 1) H Q := ⟨p, _, 1, _, rfl, rfl, h, rfl, q⟩
theorem ixL0 (h : SqL K H p [x, y]) (q : Q x H) : rIxL K (.ref p) (.int 0) H Q := ⟨p, _, 0, _, rfl, rfl, h, rfl, q⟩
theorem ixL1 (h : SqL K H p [x, y]) (q : Q y H) : rIxL K (.ref p) (.int 1) H Q := ⟨p, _, 1, _, rfl, rfl, h, rfl, q⟩
theorem tup2 {a b : V} (q : ∀ p, H p = none → Q (.ref p) (upd H p (.tup [a, b]))) : [a, b].length ≤ sizeLine ∧ ∀ p, H p = none → Q (.ref p) (upd H p (.tup [a, b])) := ⟨by show 2 ≤ sizeLine; decide, q⟩
theorem lst2 {a b : V} (q : ∀ p, H p = none → Q (.ref p) (upd H p (.lst [a, b]))) : [a, b].length ≤ sizeLine ∧ ∀ p, H p = none → Q (.ref p) (upd H p (.lst [a, b])) := ⟨by show 2 ≤ sizeLine; decide, q⟩
end
theorem sm_t {K : PySem.W.Frag} {H H' : Hp} {a : Addr} {xs : List V} (s : Same H H') (h : SqT K H a xs) : SqT K H' a xs := by
  rcases h with (h | ⟨o, h⟩) | h
  · exact .inl (.inl (s _ _ h))
  · exact .inl (.inr ⟨o, s _ _ h⟩)
  · exact .inr h
def topS (i : Nat) : Stmt := PySem.Challenge.pw_loafshares_k53_whole_none_nearer.main.body.getD i (.Pass ⟨0, 0, 0, 0⟩)
section
variable {P : Program} {w : World} {K : PySem.W.Frag} {mg : Str → Option Value} {base : Heap}
/-! ### common -/
abbrev sCom : Stmt := topS 9
theorem scCom : FnScope ["one", "other"] ["one", "other"] (defScope sCom) := ⟨rfl, rfl, rfl, by decide +kernel, rfl, by decide +kernel, by decide +kernel⟩
def spCom : Sp := fun vs H Q _ => ∃ (a b : Int), vs = [.int a, .int b] ∧ 0 ≤ a ∧ 0 ≤ b ∧ Q (.int (Nat.gcd a.natAbs b.natAbs : Nat)) H
theorem ok_com {f : Addr} {fd : FuncData} (F : Fun K "common" "common" sCom f fd) : FnG P w K mg base CX0 1 f fd ["one", "other"] spCom := by
  refine Gfun F scCom (fun vs H Q E h => ?_) (fun cdv A outer s H vs Q E hg hr h => ?_)
  · obtain ⟨a, b, rfl, _⟩ := h
    rfl
  · obtain ⟨a, b, rfl, ha, hb, q⟩ := h
    refine ⟨_, pss_cons (ps_while PassesOwn.never (pt_cmpR op_ne (pv 1) pe_int (nomark _))
        (pss_one (ps_par (i := 0) (j := 1) rfl scCom.nd rfl rfl (by decide) rfl rfl (pa_cons (pv 1) (pa_cons (pe_op op_mod (pv 0) (pv 1)) pa_nil)) (by rfl))))
      (pss_one (ps_ret (pv 0))), ?_⟩
    refine while_by (fun σ H' => ∃ x y : Int, σ = [some (.int x), some (.int y)] ∧ 0 ≤ x ∧ 0 ≤ y ∧ Nat.gcd x.natAbs y.natAbs = Nat.gcd a.natAbs b.natAbs ∧ H' = H)
      (fun σ _ => match σ with | [_, some (.int y)] => y.toNat | _ => 0) ⟨a, b, rfl, ha, hb, rfl, rfl⟩ ?_ ?_
    · rintro σ H1 ⟨x, y, rfl, hx, hy, hg, rfl⟩
      refine ⟨_, rfl, rfl, _, rfl, ite2 (fun e => ?_) (fun e => ?_)⟩
      · have hy0 : y ≠ 0 := fun z => by
          rw [z] at e
          exact absurd e (by decide)
        have hyp : 0 < y := by omega
        refine ⟨_, rfl, _, rfl, _, rfl, x, y, rfl, rfl, hyp, _, _, rfl, ⟨y, x % y, rfl, hy, Int.emod_nonneg _ hy0, (gcd_step x y hyp hx).trans hg, rfl⟩, ?_⟩
        show (x % y).toNat < y.toNat
        have := Int.emod_lt_of_pos x hyp
        omega
      · have hy0 : y = 0 := by
          by_cases z : y = 0
          · exact z
          · exact absurd (by rw [decide_eq_false (fun q => z (V.int.inj q))]; rfl) e
        subst hy0
        refine ⟨_, rfl, ?_⟩
        rw [← hg, Int.natAbs_zero, Nat.gcd_zero_right] at q
        rw [show (x.natAbs : Int) = x by omega] at q
        exact q
    · rintro σ H1 Q1 Q2 hq ⟨u, hu, h1, h2, h3, h4⟩
      exact ⟨u, hu, h1, h2, h3, hq _ _ h4⟩
/-! ### fraction -/
abbrev sFrac : Stmt := topS 10
theorem scFrac : FnScope ["top", "bottom", "shared"] ["top", "bottom"] (defScope sFrac) := ⟨rfl, rfl, rfl, by decide +kernel, rfl, by decide +kernel, by decide +kernel⟩
/-- below 2 ^ 2000 -/
def Mid (n : Int) : Prop := n.natAbs < 2 ^ 2000
theorem Mid.log {n : Int} (h : Mid n) : n.natAbs.log2 < 9000 := Nat.lt_of_lt_of_le (PySem.Flt.log2_lt_of (by decide) h) (by decide)
/-- a new tuple of two ints -/
def Two (H : Hp) (Q : VK) (t : Int × Int) : Prop := ∀ H' p, Same H H' → H' p = some (.tup [.int t.1, .int t.2]) → Q (.ref p) H'
def spFrac (neg : Bool) : Sp := fun vs H Q _ => ∃ (n d : Int), vs = [.int n, .int d] ∧ d ≠ 0 ∧ (neg = false → 0 < d) ∧ Mid n ∧ Mid d ∧ Two H Q (low n d)
theorem gcd_mid {n d : Int} (h : d ≠ 0) (hd : Mid d) : Mid ((Nat.gcd n.natAbs d.natAbs : Nat) : Int) := by
  unfold Mid at hd ⊢
  rw [Int.natAbs_natCast]
  exact Nat.lt_of_le_of_lt (Nat.le_of_dvd (by omega) (Nat.gcd_dvd_right _ _)) hd
theorem abs_is (n : Int) : (if n < 0 then -n else n) = (n.natAbs : Int) := by
  split <;> omega
theorem ok_frac {j : Nat} {f : Addr} {fd : FuncData} {C : Addr} (neg : Bool) (R : Sp) (hR : ∀ n d H Q, d < 0 → spFrac neg [.int n, .int d] H Q E0 → R [.int (-n), .int (-d)] H Q E0) (M : Blt mg) (X : ExT K mg "NoFraction" C) (F : Fun K "fraction" "fraction" sFrac f fd)
    (C_common : Cal P w K mg base CX0 1 "common" ["one", "other"] spCom) (C_fraction : Cal P w K mg base CX0 (j + 1) "fraction" ["top", "bottom"] R) : FnG P w K mg base CX0 (j + 2) f fd ["top", "bottom"] (spFrac neg) := by
  refine Gfun F scFrac (fun vs H Q E h => ?_) (fun cdv A outer s H vs Q E hg hr h => ?_)
  · obtain ⟨a, b, rfl, _⟩ := h
    rfl
  · obtain ⟨n, d, rfl, hd, hneg, hn2, hd2, q⟩ := h
    refine ⟨_, pss_cons (ps_if (pt_cmpR op_eq (pv 1) pe_int (nomark _)) (pss_one (ps_raise rfl takes0 (pmk_own PySem.F.excBase_ValueError X.x X.g X.k (raises_own X.b X.t) rfl))) pss_nil)
      (pss_cons (ps_if (pt_cmpR op_lt (pv 1) pe_int (nomark _)) (pss_one (ps_ret (pe_g C_fraction (hr.mono (by omega)) hg (pa_cons (pe_un un_neg (pv 0)) (pa_cons (pe_un un_neg (pv 1)) pa_nil))))) pss_nil)
      (pss_cons (ps_set (i := 2) scFrac.nd rfl (.inl rfl) (pe_g C_common (hr.mono (by omega)) hg (pa_cons (pe_callB call_abs rfl M.abs bt_abs (pa_cons (pv 0) pa_nil)) (pa_cons (pv 1) pa_nil))))
      (pss_one (ps_ret (pe_tup (pa_cons (pe_op op_fdivN (pv 0) (pv 2)) (pa_cons (pe_op op_fdivN (pv 1) (pv 2)) pa_nil))))))), ?_⟩
    refine ⟨_, rfl, rfl, _, rfl, ite2 (fun e => ?_) (fun _ => ?_)⟩
    · exact absurd (V.int.inj (of_decide_eq_true e)) hd
    refine ⟨_, rfl, _, _, rfl, rfl, _, rfl, ite2 (fun e => ?_) (fun e => ?_)⟩
    · have e' : d < 0 := of_decide_eq_true e
      refine ⟨_, rfl, _, rfl, _, rfl, _, rfl, ?_⟩
      exact hR n d H Q e' ⟨n, d, rfl, hd, hneg, hn2, hd2, q⟩
    · have e' : 0 < d := by
        have : ¬ d < 0 := fun z => e (decide_eq_true z)
        omega
      refine ⟨_, rfl, _, rfl, _, rfl, _, d, rfl, ?_, Int.le_of_lt e', ?_⟩
      · rw [abs_is]
        omega
      · rw [abs_is, Int.natAbs_natCast]
        have hgz : ((Nat.gcd n.natAbs d.natAbs : Nat) : Int) ≠ 0 := by
          have := gcd_pos (n := n) hd
          omega
        have hm : CDivN n ((Nat.gcd n.natAbs d.natAbs : Nat) : Int) := ⟨hgz, (gcd_mid hd hd2).log⟩
        refine ⟨_, rfl, _, rfl, n, _, rfl, rfl, hm, _, rfl, _, rfl, d, _, rfl, rfl, hm, tup2 fun p hp => ?_⟩
        refine q _ p (same_new hp) ?_
        have := low_fdiv_pos (n := n) (d := d) e'
        rw [← this]
        exact upd_same
end
end Lf

set_option Elab.async false
set_option linter.all false
set_option maxRecDepth 100000
set_option maxHeartbeats 0
namespace Lf
open PySem PySem.Spec PyProof.Rows L2
abbrev s_plus : Stmt := topS 11
abbrev s_minus : Stmt := topS 12
abbrev s_times : Stmt := topS 13
abbrev s_over : Stmt := topS 14
abbrev s_is_less : Stmt := topS 16
abbrev s_is_whole : Stmt := topS 8
abbrev s_is_fraction : Stmt := topS 18
abbrev s__law_cell : Stmt := topS 33
abbrev s__law_pot : Stmt := topS 34
abbrev s__law_draw : Stmt := topS 35
abbrev s__law_low : Stmt := topS 36
abbrev s_together : Stmt := topS 15
abbrev s_is_above_0 : Stmt := topS 19
abbrev s_are_weights : Stmt := topS 22
abbrev s_floor_of : Stmt := topS 17
abbrev s_many_steps : Stmt := topS 24
abbrev s_aims : Stmt := topS 25
abbrev s_above_floor : Stmt := topS 23
abbrev s_how_many_more : Stmt := topS 26
abbrev s_is_sooner : Stmt := topS 27
abbrev s_are_sooner : Stmt := topS 28
abbrev s_nearest : Stmt := topS 29
abbrev s_worst_of : Stmt := topS 30
abbrev s_rounded : Stmt := topS 31
abbrev s__law_sum : Stmt := topS 37
abbrev s__law_total : Stmt := topS 38
abbrev s__law_whole_some : Stmt := topS 39
abbrev s__law_weights : Stmt := topS 40
abbrev s__law_step : Stmt := topS 41
abbrev s__law_many : Stmt := topS 42
abbrev s__law_aims : Stmt := topS 43
abbrev s__law_fit_step : Stmt := topS 44
abbrev s__law_less : Stmt := topS 45
abbrev s__law_worst : Stmt := topS 46
abbrev s__law_moved : Stmt := topS 47
abbrev s__law_others : Stmt := topS 48
abbrev s__law_worsts_right : Stmt := topS 49
abbrev s__law_right : Stmt := topS 50
abbrev s_law : Stmt := topS 51
def FILE : Str := "/claim/cut.py"
def hdFa_0 : List Fct := [fun K => (He.Fa.free "isinstance").ok K,
  fun K => (He.Fa.free "bool").ok K,
  fun K => (He.Fa.free "tuple").ok K,
  fun K => decide (PySem.W.specialIn K (.builtin "object.__class__") "__get__" = some (some (.builtin "getset_descriptor.__get__"))),
  fun K => decide (PySem.W.takesIn K (.builtin "object.__class__") = some true),
  fun K => (He.Fa.free "list").ok K,
  fun K => (He.Fa.free "set").ok K,
  fun K => (He.Fa.glo "NONE_OF_IT").ok K,
  fun K => He.tupB K "NONE_OF_IT" [.int 0, .int 1],
  fun K => (He.Fa.free "sum").ok K,
  fun K => (He.Fa.free "zip").ok K,
  fun K => (He.Fa.free "any").ok K,
  fun K => (He.Fa.free "enumerate").ok K,
  fun K => (He.Fa.exc "TooLittle").ok K,
  fun K => (He.Fa.exm "TooLittle" "TooLittle" true).ok K,
  fun K => excB K (He.ga K "TooLittle"),
  fun K => (He.Fa.glo "TooLittle").ok K,
  fun K => (He.Fa.free "abs").ok K,
  fun K => (He.Fa.free "len").ok K,
  fun K => (He.Fa.free "max").ok K,
  fun K => (He.Fa.free "min").ok K,
  fun K => (He.Fa.free "divmod").ok K,
  fun K => (He.Fa.free "repr").ok K,
  fun K => (He.Fa.free "all").ok K,
  fun K => (He.Fa.free "int").ok K,
  fun K => (He.Fa.free "str").ok K,
  fun K => (He.Fa.free "range").ok K,
  fun K => (He.Fa.exc "NoFraction").ok K,
  fun K => (He.Fa.exm "NoFraction" "NoFraction" true).ok K,
  fun K => (He.Fa.glo "NoFraction").ok K,
  fun K => (He.Fa.int "MOST_WEIGHTS" 12).ok K,
  fun K => (He.Fa.glo "is_whole").ok K,
  fun K => (He.Fa.glo "common").ok K,
  fun K => (He.Fa.glo "fraction").ok K,
  fun K => (He.Fa.glo "plus").ok K,
  fun K => (He.Fa.glo "minus").ok K]
def hdFa_1 : List Fct := [fun K => (He.Fa.glo "times").ok K,
  fun K => (He.Fa.glo "over").ok K,
  fun K => (He.Fa.glo "together").ok K,
  fun K => (He.Fa.glo "is_less").ok K,
  fun K => (He.Fa.glo "floor_of").ok K,
  fun K => (He.Fa.glo "is_fraction").ok K,
  fun K => (He.Fa.glo "is_above_0").ok K,
  fun K => (He.Fa.glo "are_weights").ok K,
  fun K => (He.Fa.glo "above_floor").ok K,
  fun K => (He.Fa.glo "many_steps").ok K,
  fun K => (He.Fa.glo "aims").ok K,
  fun K => (He.Fa.glo "how_many_more").ok K,
  fun K => (He.Fa.glo "is_sooner").ok K,
  fun K => (He.Fa.glo "are_sooner").ok K,
  fun K => (He.Fa.glo "nearest").ok K,
  fun K => (He.Fa.glo "worst_of").ok K,
  fun K => (He.Fa.glo "rounded").ok K,
  fun K => (He.Fa.glo "_law_cell").ok K,
  fun K => (He.Fa.glo "_law_pot").ok K,
  fun K => (He.Fa.glo "_law_draw").ok K,
  fun K => (He.Fa.glo "_law_low").ok K,
  fun K => (He.Fa.glo "_law_sum").ok K,
  fun K => (He.Fa.glo "_law_total").ok K,
  fun K => (He.Fa.glo "_law_whole_some").ok K,
  fun K => (He.Fa.glo "_law_weights").ok K,
  fun K => (He.Fa.glo "_law_step").ok K,
  fun K => (He.Fa.glo "_law_many").ok K,
  fun K => (He.Fa.glo "_law_aims").ok K,
  fun K => (He.Fa.glo "_law_fit_step").ok K,
  fun K => (He.Fa.glo "_law_less").ok K,
  fun K => (He.Fa.glo "_law_worst").ok K,
  fun K => (He.Fa.glo "_law_moved").ok K,
  fun K => (He.Fa.glo "_law_others").ok K,
  fun K => (He.Fa.glo "_law_worsts_right").ok K,
  fun K => (He.Fa.glo "_law_right").ok K,
  fun K => (He.Fa.glo "law").ok K]
def hdFa : List Fct := hdFa_0 ++ hdFa_1
def hdFn_0 : List DefY := [⟨⟨("is_whole", none), "is_whole", "is_whole", defArgs s_is_whole, defBody s_is_whole, defScope s_is_whole, [], []⟩, []⟩,
  ⟨⟨("common", none), "common", "common", defArgs sCom, defBody sCom, defScope sCom, [], []⟩, []⟩,
  ⟨⟨("fraction", none), "fraction", "fraction", defArgs sFrac, defBody sFrac, defScope sFrac, [], []⟩, []⟩,
  ⟨⟨("plus", none), "plus", "plus", defArgs s_plus, defBody s_plus, defScope s_plus, [], []⟩, []⟩,
  ⟨⟨("minus", none), "minus", "minus", defArgs s_minus, defBody s_minus, defScope s_minus, [], []⟩, []⟩,
  ⟨⟨("times", none), "times", "times", defArgs s_times, defBody s_times, defScope s_times, [], []⟩, []⟩,
  ⟨⟨("over", none), "over", "over", defArgs s_over, defBody s_over, defScope s_over, [], []⟩, []⟩,
  ⟨⟨("together", none), "together", "together", defArgs s_together, defBody s_together, defScope s_together, [], []⟩, []⟩,
  ⟨⟨("is_less", none), "is_less", "is_less", defArgs s_is_less, defBody s_is_less, defScope s_is_less, [], []⟩, []⟩,
  ⟨⟨("floor_of", none), "floor_of", "floor_of", defArgs s_floor_of, defBody s_floor_of, defScope s_floor_of, [], []⟩, []⟩,
  ⟨⟨("is_fraction", none), "is_fraction", "is_fraction", defArgs s_is_fraction, defBody s_is_fraction, defScope s_is_fraction, [], []⟩, []⟩,
  ⟨⟨("is_above_0", none), "is_above_0", "is_above_0", defArgs s_is_above_0, defBody s_is_above_0, defScope s_is_above_0, [], []⟩, []⟩,
  ⟨⟨("are_weights", none), "are_weights", "are_weights", defArgs s_are_weights, defBody s_are_weights, defScope s_are_weights, [], []⟩, []⟩,
  ⟨⟨("above_floor", none), "above_floor", "above_floor", defArgs s_above_floor, defBody s_above_floor, defScope s_above_floor, [], []⟩, []⟩,
  ⟨⟨("many_steps", none), "many_steps", "many_steps", defArgs s_many_steps, defBody s_many_steps, defScope s_many_steps, [], []⟩, []⟩,
  ⟨⟨("aims", none), "aims", "aims", defArgs s_aims, defBody s_aims, defScope s_aims, [], []⟩, []⟩,
  ⟨⟨("how_many_more", none), "how_many_more", "how_many_more", defArgs s_how_many_more, defBody s_how_many_more, defScope s_how_many_more, [], []⟩, []⟩,
  ⟨⟨("is_sooner", none), "is_sooner", "is_sooner", defArgs s_is_sooner, defBody s_is_sooner, defScope s_is_sooner, [], []⟩, []⟩,
  ⟨⟨("are_sooner", none), "are_sooner", "are_sooner", defArgs s_are_sooner, defBody s_are_sooner, defScope s_are_sooner, [], []⟩, []⟩,
  ⟨⟨("nearest", none), "nearest", "nearest", defArgs s_nearest, defBody s_nearest, defScope s_nearest, [], []⟩, []⟩,
  ⟨⟨("worst_of", none), "worst_of", "worst_of", defArgs s_worst_of, defBody s_worst_of, defScope s_worst_of, [], []⟩, []⟩]
def hdFn_1 : List DefY := [⟨⟨("rounded", none), "rounded", "rounded", defArgs s_rounded, defBody s_rounded, defScope s_rounded, [], []⟩, []⟩,
  ⟨⟨("_law_cell", none), "_law_cell", "_law_cell", defArgs s__law_cell, defBody s__law_cell, defScope s__law_cell, [], []⟩, []⟩,
  ⟨⟨("_law_pot", none), "_law_pot", "_law_pot", defArgs s__law_pot, defBody s__law_pot, defScope s__law_pot, [], []⟩, []⟩,
  ⟨⟨("_law_draw", none), "_law_draw", "_law_draw", defArgs s__law_draw, defBody s__law_draw, defScope s__law_draw, [], []⟩, []⟩,
  ⟨⟨("_law_low", none), "_law_low", "_law_low", defArgs s__law_low, defBody s__law_low, defScope s__law_low, [], []⟩, []⟩,
  ⟨⟨("_law_sum", none), "_law_sum", "_law_sum", defArgs s__law_sum, defBody s__law_sum, defScope s__law_sum, [], []⟩, []⟩,
  ⟨⟨("_law_total", none), "_law_total", "_law_total", defArgs s__law_total, defBody s__law_total, defScope s__law_total, [], []⟩, []⟩,
  ⟨⟨("_law_whole_some", none), "_law_whole_some", "_law_whole_some", defArgs s__law_whole_some, defBody s__law_whole_some, defScope s__law_whole_some, [], []⟩, []⟩,
  ⟨⟨("_law_weights", none), "_law_weights", "_law_weights", defArgs s__law_weights, defBody s__law_weights, defScope s__law_weights, [], []⟩, []⟩,
  ⟨⟨("_law_step", none), "_law_step", "_law_step", defArgs s__law_step, defBody s__law_step, defScope s__law_step, [], []⟩, []⟩,
  ⟨⟨("_law_many", none), "_law_many", "_law_many", defArgs s__law_many, defBody s__law_many, defScope s__law_many, [], []⟩, []⟩,
  ⟨⟨("_law_aims", none), "_law_aims", "_law_aims", defArgs s__law_aims, defBody s__law_aims, defScope s__law_aims, [], []⟩, []⟩,
  ⟨⟨("_law_fit_step", none), "_law_fit_step", "_law_fit_step", defArgs s__law_fit_step, defBody s__law_fit_step, defScope s__law_fit_step, [], []⟩, []⟩,
  ⟨⟨("_law_less", none), "_law_less", "_law_less", defArgs s__law_less, defBody s__law_less, defScope s__law_less, [], []⟩, []⟩,
  ⟨⟨("_law_worst", none), "_law_worst", "_law_worst", defArgs s__law_worst, defBody s__law_worst, defScope s__law_worst, [], []⟩, []⟩,
  ⟨⟨("_law_moved", none), "_law_moved", "_law_moved", defArgs s__law_moved, defBody s__law_moved, defScope s__law_moved, [], []⟩, []⟩,
  ⟨⟨("_law_others", none), "_law_others", "_law_others", defArgs s__law_others, defBody s__law_others, defScope s__law_others, [], []⟩, []⟩,
  ⟨⟨("_law_worsts_right", none), "_law_worsts_right", "_law_worsts_right", defArgs s__law_worsts_right, defBody s__law_worsts_right, defScope s__law_worsts_right, [], []⟩, []⟩,
  ⟨⟨("_law_right", none), "_law_right", "_law_right", defArgs s__law_right, defBody s__law_right, defScope s__law_right, [], []⟩, []⟩,
  ⟨⟨("law", none), "law", "law", defArgs s_law, defBody s_law, defScope s_law, [], []⟩, []⟩]
def hdFn : List DefY := hdFn_0 ++ hdFn_1
def hdLoose_0 : List Str := ["LoafError",
  "NoFraction",
  "NoWeights",
  "NoStep",
  "TooLittle",
  "NONE_OF_IT",
  "is_whole",
  "common",
  "fraction",
  "plus",
  "minus",
  "times",
  "over",
  "together",
  "is_less",
  "floor_of",
  "is_fraction",
  "is_above_0",
  "MOST_WEIGHTS",
  "are_weights",
  "above_floor",
  "many_steps",
  "aims",
  "how_many_more",
  "is_sooner",
  "are_sooner",
  "nearest",
  "worst_of",
  "rounded",
  "_law_cell"]
def hdLoose_1 : List Str := ["_law_pot",
  "_law_draw",
  "_law_low",
  "_law_sum",
  "_law_total",
  "_law_whole_some",
  "_law_weights",
  "_law_step",
  "_law_many",
  "_law_aims",
  "_law_fit_step",
  "_law_less",
  "_law_worst",
  "_law_moved",
  "_law_others",
  "_law_worsts_right",
  "_law_right"]
def hdLoose : List Str := hdLoose_0 ++ hdLoose_1
abbrev hdR : PySem.W.OpenRow := PySem.W.OpenLaw.row PySem.Challenge.rw_loafshares_k53_whole_none_nearer
abbrev hdK : PySem.W.Hook := hookB 5 hdFa hdFn
def hdOb (s : PySem.W.SharedT) : AlY := obsB 5 hdFa hdFn (HandSHeadRun.getT s)
theorem hdOb_eq (s : PySem.W.SharedT) : hdOb s = hdK.obs s.abs := obsB_eq (HandSHeadRun.getT_eq s)
theorem hdLooks (w : World) : RunLooksY hdR (PySem.W.view hdR.prog [51]) 14000 hdLoose w := by
  intro os
  kernel_rfl
theorem hdPart_0 (w : World) : RunPartZ hdR 5 14000 hdFa_0 hdFn_0 w := by
  intro os
  kernel_rfl
theorem hdPart_1 (w : World) : RunPartZ hdR 5 14000 hdFa_1 hdFn_1 w := by
  intro os
  kernel_rfl
theorem hdRun (w : World) : HandSHeadRun.RunEq hdR (PySem.W.view hdR.prog [51]) hdK hdOb 14000 hdLoose w := runB_of (hdLooks w) (((hdPart_0 w).b).app (hdPart_1 w).b)
end Lf

set_option Elab.async false
set_option linter.all false
set_option maxRecDepth 100000
set_option maxHeartbeats 4000000
set_option exponentiation.threshold 3000
namespace Lf
open PySem PySem.Spec PyProof.Rows L2
theorem Sm.mid {n : Int} (h : Sm n) : Mid n := Nat.lt_of_lt_of_le h (Nat.pow_le_pow_right (by decide) (by decide))
theorem Sm.mulW {a b : Int} (ha : Sm a) (hb : Sm b) : CMulW a b := by
  have := ha.log
  have := hb.log
  unfold CMulW
  omega
theorem Sm.prod {a b : Int} (ha : Sm a) (hb : Sm b) : (a * b).natAbs < 2 ^ 1800 := by
  rw [Int.natAbs_mul, show (2 : Nat) ^ 1800 = 2 ^ 900 * 2 ^ 900 by rw [← Nat.pow_add]]
  exact Nat.mul_lt_mul'' ha hb
theorem Sm.mul {a b : Int} (ha : Sm a) (hb : Sm b) : Mid (a * b) := Nat.lt_of_lt_of_le (Sm.prod ha hb) (Nat.pow_le_pow_right (by decide) (by decide))
theorem two_pow : (2 : Nat) ^ 1800 + 2 ^ 1800 = 2 ^ 1801 := (Nat.two_pow_succ 1800).symm
theorem Sm.add {a b c d : Int} (ha : Sm a) (hb : Sm b) (hc : Sm c) (hd : Sm d) : Mid (a * b + c * d) := by
  have h1 := Sm.prod ha hb
  have h2 := Sm.prod hc hd
  have h3 := Int.natAbs_add_le (a * b) (c * d)
  have h4 : (2 : Nat) ^ 1801 ≤ 2 ^ 2000 := Nat.pow_le_pow_right (by decide) (by decide)
  have h5 := two_pow
  unfold Mid
  omega
theorem Sm.sub {a b c d : Int} (ha : Sm a) (hb : Sm b) (hc : Sm c) (hd : Sm d) : Mid (a * b - c * d) := by
  have h1 := Sm.prod ha hb
  have h2 := Sm.prod hc hd
  have h3 := Int.natAbs_sub_le (a * b) (c * d)
  have h4 : (2 : Nat) ^ 1801 ≤ 2 ^ 2000 := Nat.pow_le_pow_right (by decide) (by decide)
  have h5 := two_pow
  unfold Mid
  omega
/-- two handed fractions -/
structure Pr (K : PySem.W.Frag) (H : Hp) (vs : List V) (a b c d : Int) : Prop where
  ex : ∃ p q, vs = [.ref p, .ref q] ∧ SqT K H p [.int a, .int b] ∧ SqT K H q [.int c, .int d]
  hb : b ≠ 0
  hd : d ≠ 0
  a1 : Sm a
  b1 : Sm b
  c1 : Sm c
  d1 : Sm d
theorem mul_ne {a b : Int} (ha : a ≠ 0) (hb : b ≠ 0) : a * b ≠ 0 := Int.mul_ne_zero ha hb
section
variable {P : Program} {w : World} {K : PySem.W.Frag} {mg : Str → Option Value} {base : Heap}
/-! ### fraction of a bottom 0 -/
def spFrac0 (C : Addr) : Sp := fun vs H Q E => ∃ n : Int, vs = [.int n, .int 0] ∧ E (.ref C) none H
theorem ok_frac0 {f : Addr} {fd : FuncData} {C : Addr} {R : Sp} (M : Blt mg) (X : ExT K mg "NoFraction" C) (F : Fun K "fraction" "fraction" sFrac f fd)
    (C_common : Cal P w K mg base CX0 1 "common" ["one", "other"] spCom) (C_fraction : Cal P w K mg base CX0 2 "fraction" ["top", "bottom"] R) : FnG P w K mg base (L2.CX P w) 3 f fd ["top", "bottom"] (spFrac0 C) := by
  refine GfunX F scFrac (fun vs H Q E h => ?_) (fun cdv A outer s H vs Q E hg hr h => ?_)
  · obtain ⟨n, rfl, _⟩ := h
    rfl
  · obtain ⟨n, rfl, q⟩ := h
    refine ⟨_, pss_cons (ps_if (pt_cmpR op_eq (pv 1) pe_int (nomark _)) (pss_one (ps_raise rfl (takes_of rfl rfl rfl rfl) (pmk_own PySem.F.excBase_ValueError X.x X.g X.k (raises_own X.b X.t) rfl))) pss_nil)
      (pss_cons (ps_if (pt_cmpR op_lt (pv 1) pe_int (nomark _)) (pss_one (ps_ret (pe_g C_fraction (hr.mono (by decide)) hg (pa_cons (pe_un un_neg (pv 0)) (pa_cons (pe_un un_neg (pv 1)) pa_nil))))) pss_nil)
      (pss_cons (ps_set (i := 2) scFrac.nd rfl (.inl rfl) (pe_g C_common (hr.mono (by decide)) hg (pa_cons (pe_callB call_abs rfl M.abs bt_abs (pa_cons (pv 0) pa_nil)) (pa_cons (pv 1) pa_nil))))
      (pss_one (ps_ret (pe_tup (pa_cons (pe_op op_fdivN (pv 0) (pv 2)) (pa_cons (pe_op op_fdivN (pv 1) (pv 2)) pa_nil))))))), ?_⟩
    exact ⟨_, rfl, rfl, _, rfl, iteT q⟩

/-! ### plus -/
theorem sc_plus : FnScope ["one", "other"] ["one", "other"] (defScope s_plus) := ⟨rfl, rfl, rfl, by decide +kernel, rfl, by decide +kernel, by decide +kernel⟩
def sp_plus (K : PySem.W.Frag) : Sp := fun vs H Q _ => ∃ a b c d : Int, Pr K H vs a b c d ∧ Two H Q (low (a * d + c * b) (b * d))
theorem ok_plus {f : Addr} {fd : FuncData} (F : Fun K "plus" "plus" s_plus f fd) (C_fraction : Cal P w K mg base CX0 4 "fraction" ["top", "bottom"] (spFrac true)) : FnG P w K mg base CX0 5 f fd ["one", "other"] (sp_plus K) := by
  refine Gfun F sc_plus (fun vs H Q E h => ?_) (fun cdv A outer s H vs Q E hg hr h => ?_)
  · obtain ⟨a, b, c, d, h, _⟩ := h
    obtain ⟨p, q, rfl, _⟩ := h.ex
    rfl
  · obtain ⟨a, b, c, d, h, k⟩ := h
    obtain ⟨p, q, rfl, hp, hq⟩ := h.ex
    refine ⟨_, (pss_one (ps_ret (pe_g C_fraction (hr.mono (by decide)) hg (pa_cons (pe_op op_add (pe_op op_mulW (pe_ix ix_tup (pv 0) pe_int (fun _ _ => rfl)) (pe_ix ix_tup (pv 1) pe_int (fun _ _ => rfl))) (pe_op op_mulW (pe_ix ix_tup (pv 1) pe_int (fun _ _ => rfl)) (pe_ix ix_tup (pv 0) pe_int (fun _ _ => rfl)))) (pa_cons (pe_op op_mulW (pe_ix ix_tup (pv 0) pe_int (fun _ _ => rfl)) (pe_ix ix_tup (pv 1) pe_int (fun _ _ => rfl))) pa_nil))))), ?_⟩
    refine ⟨_, rfl, p, _, _, _, rfl, rfl, hp, rfl, _, rfl, q, _, _, _, rfl, rfl, hq, rfl, _, _, rfl, rfl, Sm.mulW h.a1 h.d1, ?_⟩
    refine ⟨_, rfl, q, _, _, _, rfl, rfl, hq, rfl, _, rfl, p, _, _, _, rfl, rfl, hp, rfl, _, _, rfl, rfl, Sm.mulW h.c1 h.b1, ?_⟩
    refine ⟨_, _, rfl, rfl, ?_⟩
    refine ⟨_, rfl, p, _, _, _, rfl, rfl, hp, rfl, _, rfl, q, _, _, _, rfl, rfl, hq, rfl, _, _, rfl, rfl, Sm.mulW h.b1 h.d1, ?_⟩
    exact ⟨_, _, rfl, mul_ne h.hb h.hd, (fun z => Bool.noConfusion z), Sm.add h.a1 h.d1 h.c1 h.b1, Sm.mul h.b1 h.d1, k⟩

/-! ### minus -/
theorem sc_minus : FnScope ["one", "other"] ["one", "other"] (defScope s_minus) := ⟨rfl, rfl, rfl, by decide +kernel, rfl, by decide +kernel, by decide +kernel⟩
def sp_minus (K : PySem.W.Frag) : Sp := fun vs H Q _ => ∃ a b c d : Int, Pr K H vs a b c d ∧ Two H Q (low (a * d - c * b) (b * d))
theorem ok_minus {f : Addr} {fd : FuncData} (F : Fun K "minus" "minus" s_minus f fd) (C_fraction : Cal P w K mg base CX0 4 "fraction" ["top", "bottom"] (spFrac true)) : FnG P w K mg base CX0 5 f fd ["one", "other"] (sp_minus K) := by
  refine Gfun F sc_minus (fun vs H Q E h => ?_) (fun cdv A outer s H vs Q E hg hr h => ?_)
  · obtain ⟨a, b, c, d, h, _⟩ := h
    obtain ⟨p, q, rfl, _⟩ := h.ex
    rfl
  · obtain ⟨a, b, c, d, h, k⟩ := h
    obtain ⟨p, q, rfl, hp, hq⟩ := h.ex
    refine ⟨_, (pss_one (ps_ret (pe_g C_fraction (hr.mono (by decide)) hg (pa_cons (pe_op op_sub (pe_op op_mulW (pe_ix ix_tup (pv 0) pe_int (fun _ _ => rfl)) (pe_ix ix_tup (pv 1) pe_int (fun _ _ => rfl))) (pe_op op_mulW (pe_ix ix_tup (pv 1) pe_int (fun _ _ => rfl)) (pe_ix ix_tup (pv 0) pe_int (fun _ _ => rfl)))) (pa_cons (pe_op op_mulW (pe_ix ix_tup (pv 0) pe_int (fun _ _ => rfl)) (pe_ix ix_tup (pv 1) pe_int (fun _ _ => rfl))) pa_nil))))), ?_⟩
    refine ⟨_, rfl, p, _, _, _, rfl, rfl, hp, rfl, _, rfl, q, _, _, _, rfl, rfl, hq, rfl, _, _, rfl, rfl, Sm.mulW h.a1 h.d1, ?_⟩
    refine ⟨_, rfl, q, _, _, _, rfl, rfl, hq, rfl, _, rfl, p, _, _, _, rfl, rfl, hp, rfl, _, _, rfl, rfl, Sm.mulW h.c1 h.b1, ?_⟩
    refine ⟨_, _, rfl, rfl, ?_⟩
    refine ⟨_, rfl, p, _, _, _, rfl, rfl, hp, rfl, _, rfl, q, _, _, _, rfl, rfl, hq, rfl, _, _, rfl, rfl, Sm.mulW h.b1 h.d1, ?_⟩
    exact ⟨_, _, rfl, mul_ne h.hb h.hd, (fun z => Bool.noConfusion z), Sm.sub h.a1 h.d1 h.c1 h.b1, Sm.mul h.b1 h.d1, k⟩

/-! ### times -/
theorem sc_times : FnScope ["one", "other"] ["one", "other"] (defScope s_times) := ⟨rfl, rfl, rfl, by decide +kernel, rfl, by decide +kernel, by decide +kernel⟩
def sp_times (K : PySem.W.Frag) : Sp := fun vs H Q _ => ∃ a b c d : Int, Pr K H vs a b c d ∧ Two H Q (low (a * c) (b * d))
theorem ok_times {f : Addr} {fd : FuncData} (F : Fun K "times" "times" s_times f fd) (C_fraction : Cal P w K mg base CX0 4 "fraction" ["top", "bottom"] (spFrac true)) : FnG P w K mg base CX0 5 f fd ["one", "other"] (sp_times K) := by
  refine Gfun F sc_times (fun vs H Q E h => ?_) (fun cdv A outer s H vs Q E hg hr h => ?_)
  · obtain ⟨a, b, c, d, h, _⟩ := h
    obtain ⟨p, q, rfl, _⟩ := h.ex
    rfl
  · obtain ⟨a, b, c, d, h, k⟩ := h
    obtain ⟨p, q, rfl, hp, hq⟩ := h.ex
    refine ⟨_, (pss_one (ps_ret (pe_g C_fraction (hr.mono (by decide)) hg (pa_cons (pe_op op_mulW (pe_ix ix_tup (pv 0) pe_int (fun _ _ => rfl)) (pe_ix ix_tup (pv 1) pe_int (fun _ _ => rfl))) (pa_cons (pe_op op_mulW (pe_ix ix_tup (pv 0) pe_int (fun _ _ => rfl)) (pe_ix ix_tup (pv 1) pe_int (fun _ _ => rfl))) pa_nil))))), ?_⟩
    refine ⟨_, rfl, p, _, _, _, rfl, rfl, hp, rfl, _, rfl, q, _, _, _, rfl, rfl, hq, rfl, _, _, rfl, rfl, Sm.mulW h.a1 h.c1, ?_⟩
    refine ⟨_, rfl, p, _, _, _, rfl, rfl, hp, rfl, _, rfl, q, _, _, _, rfl, rfl, hq, rfl, _, _, rfl, rfl, Sm.mulW h.b1 h.d1, ?_⟩
    exact ⟨_, _, rfl, mul_ne h.hb h.hd, (fun z => Bool.noConfusion z), Sm.mul h.a1 h.c1, Sm.mul h.b1 h.d1, k⟩

/-! ### over -/
theorem sc_over : FnScope ["one", "other"] ["one", "other"] (defScope s_over) := ⟨rfl, rfl, rfl, by decide +kernel, rfl, by decide +kernel, by decide +kernel⟩
def sp_over (K : PySem.W.Frag) : Sp := fun vs H Q _ => ∃ a b c d : Int, Pr K H vs a b c d ∧ c ≠ 0 ∧ Two H Q (low (a * d) (b * c))
theorem ok_over {f : Addr} {fd : FuncData} (F : Fun K "over" "over" s_over f fd) (C_fraction : Cal P w K mg base CX0 4 "fraction" ["top", "bottom"] (spFrac true)) : FnG P w K mg base CX0 5 f fd ["one", "other"] (sp_over K) := by
  refine Gfun F sc_over (fun vs H Q E h => ?_) (fun cdv A outer s H vs Q E hg hr h => ?_)
  · obtain ⟨a, b, c, d, h, _⟩ := h
    obtain ⟨p, q, rfl, _⟩ := h.ex
    rfl
  · obtain ⟨a, b, c, d, h, hc, k⟩ := h
    obtain ⟨p, q, rfl, hp, hq⟩ := h.ex
    refine ⟨_, (pss_one (ps_ret (pe_g C_fraction (hr.mono (by decide)) hg (pa_cons (pe_op op_mulW (pe_ix ix_tup (pv 0) pe_int (fun _ _ => rfl)) (pe_ix ix_tup (pv 1) pe_int (fun _ _ => rfl))) (pa_cons (pe_op op_mulW (pe_ix ix_tup (pv 0) pe_int (fun _ _ => rfl)) (pe_ix ix_tup (pv 1) pe_int (fun _ _ => rfl))) pa_nil))))), ?_⟩
    refine ⟨_, rfl, p, _, _, _, rfl, rfl, hp, rfl, _, rfl, q, _, _, _, rfl, rfl, hq, rfl, _, _, rfl, rfl, Sm.mulW h.a1 h.d1, ?_⟩
    refine ⟨_, rfl, p, _, _, _, rfl, rfl, hp, rfl, _, rfl, q, _, _, _, rfl, rfl, hq, rfl, _, _, rfl, rfl, Sm.mulW h.b1 h.c1, ?_⟩
    exact ⟨_, _, rfl, mul_ne h.hb hc, (fun z => Bool.noConfusion z), Sm.mul h.a1 h.d1, Sm.mul h.b1 h.c1, k⟩

/-! ### over 0 -/
def sp_over0 (K : PySem.W.Frag) (C : Addr) : Sp := fun vs H Q E => ∃ a b d : Int, Pr K H vs a b 0 d ∧ E (.ref C) none H
theorem ok_over0 {f : Addr} {fd : FuncData} {C : Addr} (F : Fun K "over" "over" s_over f fd) (C_fraction : Cal P w K mg base (L2.CX P w) 3 "fraction" ["top", "bottom"] (spFrac0 C)) : FnG P w K mg base (L2.CX P w) 5 f fd ["one", "other"] (sp_over0 K C) := by
  refine GfunX F sc_over (fun vs H Q E h => ?_) (fun cdv A outer s H vs Q E hg hr h => ?_)
  · obtain ⟨a, b, d, h, _⟩ := h
    obtain ⟨p, q, rfl, _⟩ := h.ex
    rfl
  · obtain ⟨a, b, d, h, k⟩ := h
    obtain ⟨p, q, rfl, hp, hq⟩ := h.ex
    refine ⟨_, (pss_one (ps_ret (pe_gS C_fraction (hr.mono (by decide)) hg (fun σ => passAt (takes_of rfl rfl rfl rfl) σ) (pa_cons (pe_op op_mulW (pe_ix ix_tup (pv 0) pe_int (fun _ _ => rfl)) (pe_ix ix_tup (pv 1) pe_int (fun _ _ => rfl))) (pa_cons (pe_op op_mulW (pe_ix ix_tup (pv 0) pe_int (fun _ _ => rfl)) (pe_ix ix_tup (pv 1) pe_int (fun _ _ => rfl))) pa_nil))))), ?_⟩
    refine ⟨_, rfl, p, _, _, _, rfl, rfl, hp, rfl, _, rfl, q, _, _, _, rfl, rfl, hq, rfl, _, _, rfl, rfl, Sm.mulW h.a1 h.d1, ?_⟩
    refine ⟨_, rfl, p, _, _, _, rfl, rfl, hp, rfl, _, rfl, q, _, _, _, rfl, rfl, hq, rfl, _, _, rfl, rfl, Sm.mulW h.b1 h.c1, ?_⟩
    exact ⟨a * d, by show [V.int (a * d), V.int (b * 0)] = _; rw [Int.mul_zero], k⟩

/-! ### is_less -/
theorem sc_is_less : FnScope ["one", "other"] ["one", "other"] (defScope s_is_less) := ⟨rfl, rfl, rfl, by decide +kernel, rfl, by decide +kernel, by decide +kernel⟩
def sp_is_less (K : PySem.W.Frag) : Sp := fun vs H Q _ => ∃ a b c d : Int, Pr K H vs a b c d ∧ Q (.bl (decide (a * d < c * b))) H
theorem ok_is_less {f : Addr} {fd : FuncData} (F : Fun K "is_less" "is_less" s_is_less f fd) : FnG P w K mg base CX0 1 f fd ["one", "other"] (sp_is_less K) := by
  refine Gfun F sc_is_less (fun vs H Q E h => ?_) (fun cdv A outer s H vs Q E hg hr h => ?_)
  · obtain ⟨a, b, c, d, h, _⟩ := h
    obtain ⟨p, q, rfl, _⟩ := h.ex
    rfl
  · obtain ⟨a, b, c, d, h, k⟩ := h
    obtain ⟨p, q, rfl, hp, hq⟩ := h.ex
    refine ⟨_, (pss_one (ps_ret (pe_cmpR op_lt (pe_op op_mulW (pe_ix ix_tup (pv 0) pe_int (fun _ _ => rfl)) (pe_ix ix_tup (pv 1) pe_int (fun _ _ => rfl))) (pe_op op_mulW (pe_ix ix_tup (pv 1) pe_int (fun _ _ => rfl)) (pe_ix ix_tup (pv 0) pe_int (fun _ _ => rfl))) (nomark _)))), ?_⟩
    refine ⟨_, rfl, p, _, _, _, rfl, rfl, hp, rfl, _, rfl, q, _, _, _, rfl, rfl, hq, rfl, _, _, rfl, rfl, Sm.mulW h.a1 h.d1, ?_⟩
    refine ⟨_, rfl, q, _, _, _, rfl, rfl, hq, rfl, _, rfl, p, _, _, _, rfl, rfl, hp, rfl, _, _, rfl, rfl, Sm.mulW h.c1 h.b1, ?_⟩
    exact ⟨_, _, rfl, rfl, k⟩

end
end Lf

set_option Elab.async false
set_option linter.all false
set_option maxRecDepth 100000
set_option maxHeartbeats 4000000
set_option exponentiation.threshold 3000
/-! Things of any kind: data without dicts, and dicts of plain things. -/
namespace Lf
open PySem PySem.Spec PyProof.Rows L2
def kD : Key → PyData
  | .inl i => .int i
  | .inr x => .str x
inductive Sc : V → PyData → Prop
  | non : Sc .non .none
  | bl (b : Bool) : Sc (.bl b) (.bool b)
  | int (i : Int) : Sc (.int i) (.int i)
  | str (x : Str) : Sc (.str x) (.str x)
/-- a thing: data, or a dict of plain things -/
inductive Dq (K : PySem.W.Frag) (H : Hp) : V → PyData → Prop
  | dp {v : V} {d : PyData} (h : Dp K H v d) (n : d.hasDict = false) : Dq K H v d
  | dic {a : Addr} {kvs : List (Key × V)} {ds : List (PyData × PyData)} (h : H a = some (.dK kvs)) (p : Paired (fun (kv : Key × V) (d : PyData × PyData) => d.1 = kD kv.1 ∧ Sc kv.2 d.2) kvs ds) : Dq K H (.ref a) (.dict ds)
theorem Dq.same {K : PySem.W.Frag} {H H' : Hp} {v : V} {d : PyData} (s : Same H H') (h : Dq K H v d) : Dq K H' v d := by
  cases h with
  | dp h n => exact .dp (Dp.same s _ _ h) n
  | dic h p => exact .dic (s _ _ h) p
section
variable {X : Cx} {pins : List (Addr × Obj)} {σ : L2.St} {H : Hp} {s : Shared}
theorem Sc.reads {v : V} {d : PyData} {u : Value} {h : Heap} (k : Sc v d) (r : RelV v u) : Reads h u d [] := by
  cases k with
  | non => cases r; exact .none
  | bl b => cases r; exact .bool b
  | int i => obtain ⟨t, rfl⟩ := r; exact .int i t
  | str x => obtain ⟨t, rfl⟩ := r; exact .str x t
theorem dic_reads {P : Program} {w : World} {h : Heap} : ∀ {es : List DictEntry} {vs : List (Key × Value)} {kvs : List (Key × V)} {ds : List (PyData × PyData)}, Pairs (mixKind P w) es vs → KV kvs vs →
    Paired (fun (kv : Key × V) (d : PyData × PyData) => d.1 = kD kv.1 ∧ Sc kv.2 d.2) kvs ds → ReadsAll h (es.map (·.key)) (ds.map (·.1)) [] ∧ ReadsAll h (es.map (·.val)) (ds.map (·.2)) []
  | _, _, _, _, .nil, kv, p => by
    cases kv
    cases p
    exact ⟨.nil, .nil⟩
  | _, _, _, _, .cons (e := e) hk hv r, kv, p => by
    cases kv with
    | cons q kv =>
      cases p with
      | cons z p =>
        obtain ⟨i1, i2⟩ := dic_reads r kv p
        obtain ⟨q1, q2⟩ := q
        obtain ⟨z1, z2⟩ := z
        refine ⟨?_, ?_⟩
        · rw [List.map_cons, List.map_cons]
          refine ReadsAll.cons (as := []) (bs := []) ?_ i1
          rw [z1, q1]
          rcases keyIs_shape (show keyIs _ e.key = true from hk) with ⟨i, t, e1, e2⟩ | ⟨x, t, e1, e2⟩
          · rw [e1, e2]
            exact .int i t
          · rw [e1, e2]
            exact .str x t
        · rw [List.map_cons, List.map_cons]
          refine ReadsAll.cons (as := []) (bs := []) ?_ i2
          rw [hv]
          exact z2.reads q2
theorem Dq.reads (I : Inv X pins σ H s) {v : V} {d : PyData} {u : Value} (h : Dq X.K H v d) (r : RelV v u) : ∃ as, Reads s.heap u d as ∧ (d.hasDict = true → sysModules ∉ as) := by
  cases h with
  | dp h n =>
    obtain ⟨as, q⟩ := Dp.reads I d v u h r
    exact ⟨as, q, fun z => by rw [n] at z; cases z⟩
  | @dic a kvs ds h p =>
    cases r
    obtain ⟨hz, hs, vs, kv, o, es, ep, h1, h2, h3, h4, h5, h6⟩ := (show ObjOk X.prog X.w H s.heap a (.dK kvs) from I.hok a _ h)
    obtain ⟨i1, i2⟩ := dic_reads (h := s.heap) h5 kv p
    refine ⟨_, Reads.dict h1 h2.1 h3 i1 i2, fun _ hm => ?_⟩
    have : sysModules = a := by simpa using hm
    rw [this] at hs
    simp at hs
/-- the built-in type of a thing -/
def tyN : PyData → String
  | .none => "NoneType"
  | .bool _ => "bool"
  | .int _ => "int"
  | .str _ => "str"
  | .list _ => "list"
  | .tuple _ => "tuple"
  | .dict _ => "dict"
theorem Dp.ty {K : PySem.W.Frag} {v : V} {d : PyData} (h : Dp K H v d) : TyX K H v (.type (tyN d)) := by
  cases h with
  | non => exact .base .non
  | bl b => exact .base (.bl b)
  | int i => exact .base (.int i)
  | str x => exact .base (.str x)
  | lst h1 _ =>
    rcases h1 with (h | ⟨o, h⟩) | ⟨o, arr, n, hk, hc, _⟩
    · exact .base (.lst h)
    · exact .base (.frz h)
    · exact .kList hk hc
  | tup h1 _ =>
    rcases h1 with (h | ⟨o, h⟩) | ⟨o, arr, n, hk, hc, _⟩
    · exact .base (.tup h)
    · exact .fTuple h
    · exact .kTuple hk hc
theorem Dq.ty {K : PySem.W.Frag} {v : V} {d : PyData} (h : Dq K H v d) : TyX K H v (.type (tyN d)) := by
  cases h with
  | dp h _ => exact Lf.Dp.ty h
  | dic h _ => exact .base (.dK h)
/-! ### repr of a list of things -/
inductive DqAll (K : PySem.W.Frag) (H : Hp) : List V → List PyData → Prop
  | nil : DqAll K H [] []
  | cons {v : V} {vs : List V} {d : PyData} {ds : List PyData} : Dq K H v d → DqAll K H vs ds → DqAll K H (v :: vs) (d :: ds)
theorem DqAll.same {K : PySem.W.Frag} {H H' : Hp} (s : Same H H') : ∀ {vs : List V} {ds : List PyData}, DqAll K H vs ds → DqAll K H' vs ds
  | _, _, .nil => .nil
  | _, _, .cons a r => .cons (a.same s) (DqAll.same s r)
theorem DqAll.get {K : PySem.W.Frag} {H : Hp} : ∀ {vs : List V} {ds : List PyData} {i : Nat} {v : V}, DqAll K H vs ds → vs[i]? = some v → ∃ d, ds[i]? = some d ∧ Dq K H v d
  | _, _, _, _, .nil, e => by simp at e
  | _, _, 0, _, .cons a _, e => by
    simp at e
    subst e
    exact ⟨_, rfl, a⟩
  | _, _, i + 1, v, .cons _ r, e => by
    obtain ⟨d, h1, h2⟩ := DqAll.get (i := i) (v := v) r (by simpa using e)
    exact ⟨d, by simpa using h1, h2⟩
theorem DqAll.app {K : PySem.W.Frag} {H : Hp} : ∀ {vs us : List V} {ds es : List PyData}, DqAll K H vs ds → DqAll K H us es → DqAll K H (vs ++ us) (ds ++ es)
  | _, _, _, _, .nil, h => h
  | _, _, _, _, .cons a r, h => .cons a (DqAll.app r h)
theorem DqAll.length {K : PySem.W.Frag} {H : Hp} : ∀ {vs : List V} {ds : List PyData}, DqAll K H vs ds → vs.length = ds.length
  | _, _, .nil => rfl
  | _, _, .cons _ r => congrArg Nat.succ (DqAll.length r)
theorem dq_repr (I : Inv X pins σ H s) : ∀ {vs : List V} {ds : List PyData} {us : List Value}, DqAll X.K H vs ds → Vals vs us → PyData.showableAll ds = true → (∀ t ∈ PyData.shownAll ds, t.length ≤ sizeLine) →
    ∃ bs as, ReadAtMost s.heap (PyData.depthAll ds) bs ∧ ReprAllK X.prog X.w bs s.heap (PyData.depthAll ds) us (PyData.shownAll ds) ∧ ReadsAll s.heap us ds as
  | _, _, _, .nil, r, _, _ => by
    cases r
    exact ⟨[], [], (fun _ h => nomatch h), by simp only [PyData.shownAll]; exact .nil, .nil⟩
  | _, _, _, .cons (d := d) (ds := ds) a q, r, hs, hz => by
    cases r with
    | cons r1 r2 =>
      have hs' : d.showable = true ∧ PyData.showableAll ds = true := by simpa [PyData.showableAll] using hs
      have hz' : d.shown.length ≤ sizeLine ∧ ∀ t ∈ PyData.shownAll ds, t.length ≤ sizeLine := by
        simp only [PyData.shownAll] at hz
        exact ⟨hz _ List.mem_cons_self, fun t ht => hz t (List.mem_cons_of_mem _ ht)⟩
      obtain ⟨as1, rd, hsm⟩ := a.reads I r1
      obtain ⟨b1, m1, k1⟩ := ReprK.of_reads (prog := X.prog) (w := X.w) rd hs'.1 hsm hz'.1
      obtain ⟨b2, as2, m2, k2, rd2⟩ := dq_repr I q r2 hs'.2 hz'.2
      have l1 : d.depth ≤ PyData.depthAll (d :: ds) := by simp only [PyData.depthAll]; omega
      have l2 : PyData.depthAll ds ≤ PyData.depthAll (d :: ds) := by simp only [PyData.depthAll]; omega
      refine ⟨b1 ++ b2, as1 ++ as2, ?_, ?_, .cons rd rd2⟩
      · intro b hb
        rcases List.mem_append.mp hb with z | z
        · obtain ⟨d', as', r', e'⟩ := m1 b z
          exact ⟨d', as', r', Nat.le_trans e' l1⟩
        · obtain ⟨d', as', r', e'⟩ := m2 b z
          exact ⟨d', as', r', Nat.le_trans e' l2⟩
      · simp only [PyData.shownAll]
        exact .cons ((k1.more (fun b hb => List.mem_append_left _ hb)).level_le l1) (k2.more_le (fun b hb => List.mem_append_right _ hb) l2)
def rShowQ (K : PySem.W.Frag) : List V → Hp → VK → Prop := fun xs H Q => ∃ (a : Addr) (v : V) (vs : List V) (ds : List PyData), xs = [.ref a] ∧ SqL K H a (v :: vs) ∧ DqAll K H (v :: vs) ds ∧
  PyData.showableAll ds = true ∧ PyData.depthAll ds ≤ 29 ∧ (PyData.shown (.list ds)).length ≤ sizeLine ∧ Q (.str (PyData.shown (.list ds))) H
theorem call_showQ (hG : X.A.guards = some []) {k : Nat} (hr : Room k X.A) : CallR X (.builtin "repr") (rShowQ X.K) := by
  intro pins s σ H xs us Q I r h
  obtain ⟨a, v, vs, ds, rfl, hS, hd, hs, h30, hz, q⟩ := h
  cases r with
  | cons r1 r2 =>
    cases r2
    cases r1
    have hu := hr.units
    obtain ⟨its, rv, ⟨o, n, ho, hc, _, hdt⟩, _⟩ := I.list hS
    have hz' : (listText (PyData.shownAll ds)).length ≤ sizeLine := by simpa only [PyData.shown] using hz
    obtain ⟨bs, as, m, k, rd⟩ := dq_repr I hd rv hs (fun t ht => Nat.le_trans (listText_mem_le ht) hz')
    have rl : Reads s.heap (.ref a) (.list ds) (a :: as) := Reads.list ho hc hdt rd
    have hna : a ∉ bs := not_mem_of_deeper rl (by simp only [PyData.depth]; omega) m
    cases its with
    | nil => cases rv
    | cons u us' =>
      refine call_repr_slot (T := "list") (by omega) ⟨o, ho, hc⟩ F.slot_list_repr.toG ?_
      refine call_list_reprK ho hc hdt hna (by simpa using k.length_eq) (fun i y e => k.item i y (by simpa using e)) hG (fun b _ => Clear.nil b) (by show X.A.units + 1 + (PyData.depthAll ds + 1) < cLine; omega) (fun _ _ z => z) (fun h' u tk hk => ?_) hz'
      refine ⟨_, _, rfl, ⟨.str (PyData.shown (.list ds)), H, I.kept hk, ⟨u, ?_⟩, q⟩⟩
      simp only [PyData.shown]
end
/-- a statement and the rest, what follows shown once from what holds between them -/
def tMid (t u : TS) : TS := fun D σ H => ∃ Md : L2.St → Hp → Prop, t { D with nx := Md } σ H ∧ ∀ σ' H', Md σ' H' → u D σ' H'
theorem pss_mid {X : Cx} {st : Stmt} {more : List Stmt} {t u : TS} (h1 : PS X st t) (h2 : PSs X more u) : PSs X (st :: more) (tMid t u) := by
  refine ⟨fun pins s σ H D I ⟨Md, hm, hu⟩ => wpAny_execs_cons (thn (h1.run pins s σ H { D with nx := Md } I hm) fun f s1 q => ?_)⟩
  cases f with
  | next =>
    obtain ⟨σ', H', I', q⟩ := q
    exact h2.run pins s1 σ' H' D I' (hu σ' H' q)
  | ret v => exact q
  | brk => exact q
  | cont => exact q
/-- what repr asks of a list of things -/
structure ShowA (ds : List PyData) : Prop where
  sh : PyData.showableAll ds = true
  dp : PyData.depthAll ds ≤ 29
  ln : (PyData.shown (.list ds)).length ≤ sizeLine
end Lf

set_option Elab.async false
set_option linter.all false
set_option maxRecDepth 100000
set_option maxHeartbeats 4000000
set_option exponentiation.threshold 3000
namespace Lf
open PySem PySem.Spec PyProof.Rows L2
theorem bt_isinstance : bootBuiltins "isinstance" = some (.builtin "isinstance") := by decide +kernel
theorem bt_bool : bootBuiltins "bool" = some (.type "bool") := by decide +kernel
theorem bt_tuple : bootBuiltins "tuple" = some (.type "tuple") := by decide +kernel
structure Bltx (mg : Str → Option Value) : Prop where
  isinstance : mg "isinstance" = none
  bool : mg "bool" = none
  tuple : mg "tuple" = none
theorem len_show {n : Nat} (h : n ≤ 1000) : n ≤ sizeLine := by
  rw [sizeLine_eq]
  omega
theorem u65 {k : Nat} {A : Around} (r : Room k A) : A.units + 65 < cLine := by
  have := r.un
  omega
theorem iteN {c A B : Prop} [Decidable c] (hc : ¬ c) (h : A) : if (!decide c) = true then A else B := by
  rw [decide_eq_false hc]
  exact iteT h
def isI : PyData → Bool
  | .int _ => true
  | .bool _ => true
  | _ => false
def isB : PyData → Bool
  | .bool _ => true
  | _ => false
def isT : PyData → Bool
  | .tuple _ => true
  | _ => false
def isS : PyData → Bool
  | .str _ => true
  | _ => false
def isW : PyData → Bool
  | .int _ => true
  | _ => false
theorem ki_none : kitB "NoneType" "int" = some false := by decide +kernel
theorem ki_bool : kitB "bool" "int" = some true := by decide +kernel
theorem ki_int : kitB "int" "int" = some true := by decide +kernel
theorem ki_str : kitB "str" "int" = some false := by decide +kernel
theorem ki_list : kitB "list" "int" = some false := by decide +kernel
theorem ki_tuple : kitB "tuple" "int" = some false := by decide +kernel
theorem ki_dict : kitB "dict" "int" = some false := by decide +kernel
theorem ki (d : PyData) : kitB (tyN d) "int" = some (isI d) :=
  match d with
  | .none => ki_none
  | .bool _ => ki_bool
  | .int _ => ki_int
  | .str _ => ki_str
  | .list _ => ki_list
  | .tuple _ => ki_tuple
  | .dict _ => ki_dict
theorem kb_none : kitB "NoneType" "bool" = some false := by decide +kernel
theorem kb_bool : kitB "bool" "bool" = some true := by decide +kernel
theorem kb_int : kitB "int" "bool" = some false := by decide +kernel
theorem kb_str : kitB "str" "bool" = some false := by decide +kernel
theorem kb_list : kitB "list" "bool" = some false := by decide +kernel
theorem kb_tuple : kitB "tuple" "bool" = some false := by decide +kernel
theorem kb_dict : kitB "dict" "bool" = some false := by decide +kernel
theorem kb (d : PyData) : kitB (tyN d) "bool" = some (isB d) :=
  match d with
  | .none => kb_none
  | .bool _ => kb_bool
  | .int _ => kb_int
  | .str _ => kb_str
  | .list _ => kb_list
  | .tuple _ => kb_tuple
  | .dict _ => kb_dict
theorem kt_none : kitB "NoneType" "tuple" = some false := by decide +kernel
theorem kt_bool : kitB "bool" "tuple" = some false := by decide +kernel
theorem kt_int : kitB "int" "tuple" = some false := by decide +kernel
theorem kt_str : kitB "str" "tuple" = some false := by decide +kernel
theorem kt_list : kitB "list" "tuple" = some false := by decide +kernel
theorem kt_tuple : kitB "tuple" "tuple" = some true := by decide +kernel
theorem kt_dict : kitB "dict" "tuple" = some false := by decide +kernel
theorem kt (d : PyData) : kitB (tyN d) "tuple" = some (isT d) :=
  match d with
  | .none => kt_none
  | .bool _ => kt_bool
  | .int _ => kt_int
  | .str _ => kt_str
  | .list _ => kt_list
  | .tuple _ => kt_tuple
  | .dict _ => kt_dict
theorem ks_none : kitB "NoneType" "str" = some false := by decide +kernel
theorem ks_bool : kitB "bool" "str" = some false := by decide +kernel
theorem ks_int : kitB "int" "str" = some false := by decide +kernel
theorem ks_str : kitB "str" "str" = some true := by decide +kernel
theorem ks_list : kitB "list" "str" = some false := by decide +kernel
theorem ks_tuple : kitB "tuple" "str" = some false := by decide +kernel
theorem ks_dict : kitB "dict" "str" = some false := by decide +kernel
theorem ks (d : PyData) : kitB (tyN d) "str" = some (isS d) :=
  match d with
  | .none => ks_none
  | .bool _ => ks_bool
  | .int _ => ks_int
  | .str _ => ks_str
  | .list _ => ks_list
  | .tuple _ => ks_tuple
  | .dict _ => ks_dict
def fr2 : PyData → PyData → Bool
  | .int a, .int b => decide (0 < b) && decide (Nat.gcd a.natAbs b.natAbs = 1)
  | _, _ => false
def frL : List PyData → Bool
  | [x, y] => fr2 x y
  | _ => false
def isFr : PyData → Bool
  | .tuple ds => frL ds
  | _ => false
def lets : Str := Str.ofString "abcdefghijklmnopqrstuvwxyz"
def inL (c : Nat) : Bool := decide (c ∈ lets.cps.toList)
def isNm : PyData → Bool
  | .str z => decide (1 ≤ z.length) && decide (z.length ≤ 10) && z.cps.toList.all inL
  | _ => false
section
variable {P : Program} {w : World} {K : PySem.W.Frag} {mg : Str → Option Value} {base : Heap}
theorem Dq.tup {H : Hp} {v : V} {d : PyData} (h : Dq K H v d) (e : isT d = true) : ∃ (a : Addr) (xs : List V) (ds : List PyData), v = .ref a ∧ d = .tuple ds ∧ SqT K H a xs ∧ DpAll K H xs ds ∧ PyData.hasDictAll ds = false := by
  cases h with
  | dp h n =>
    cases h with
    | tup h1 h2 => exact ⟨_, _, _, rfl, rfl, h1, h2, by simpa [PyData.hasDict] using n⟩
    | non => cases e
    | bl _ => cases e
    | int _ => cases e
    | str _ => cases e
    | lst _ _ => cases e
  | dic _ _ => cases e
theorem Dq.txt {H : Hp} {v : V} {d : PyData} (h : Dq K H v d) (e : isS d = true) : ∃ z, v = .str z ∧ d = .str z := by
  cases h with
  | dp h n =>
    cases h with
    | str z => exact ⟨z, rfl, rfl⟩
    | non => cases e
    | bl _ => cases e
    | int _ => cases e
    | tup _ _ => cases e
    | lst _ _ => cases e
  | dic _ _ => cases e
theorem Dq.whole {H : Hp} {v : V} {d : PyData} (h : Dq K H v d) (e : isW d = true) : ∃ i, v = .int i ∧ d = .int i := by
  cases h with
  | dp h n =>
    cases h with
    | int i => exact ⟨i, rfl, rfl⟩
    | non => cases e
    | bl _ => cases e
    | str _ => cases e
    | tup _ _ => cases e
    | lst _ _ => cases e
  | dic _ _ => cases e

def sp_whole (K : PySem.W.Frag) : Sp := fun vs H Q _ => ∃ (v : V) (d : PyData), vs = [v] ∧ Dq K H v d ∧ Q (.bl (isW d)) H
/-! ### is_whole -/
theorem sc_is_whole : FnScope ["thing"] ["thing"] (defScope s_is_whole) := ⟨rfl, rfl, rfl, by decide +kernel, rfl, by decide +kernel, by decide +kernel⟩
theorem ok_whole {f : Addr} {fd : FuncData} (M : Blt mg) (Mx : Bltx mg) (F : Fun K "is_whole" "is_whole" s_is_whole f fd) : FnG P w K mg base CX0 1 f fd ["thing"] (sp_whole K) := by
  refine Gfun F sc_is_whole (fun vs H Q E h => ?_) (fun cdv A outer s H vs Q E hg hr h => ?_)
  · obtain ⟨v, d, rfl, _⟩ := h
    rfl
  · obtain ⟨v, d, rfl, hq, k⟩ := h
    refine ⟨_, (pss_one (ps_ret (pe_and (pe_callB call_isi rfl Mx.isinstance bt_isinstance (pa_cons (pv 0) (pa_cons (pe_bltn (v := .ty "int") rfl M.int bt_int rfl) pa_nil))) (pe_one (pe_not (pe_callB call_isi rfl Mx.isinstance bt_isinstance (pa_cons (pv 0) (pa_cons (pe_bltn (v := .ty "bool") rfl Mx.bool bt_bool rfl) pa_nil)))))))), ?_⟩
    refine ⟨_, rfl, _, _, _, _, _, rfl, .ty "int", hq.ty, kit_ty (ki d), _, rfl, ite2 (fun e => ?_) (fun e => ?_)⟩
    · refine ⟨_, rfl, _, _, _, _, _, rfl, .ty "bool", hq.ty, kit_ty (kb d), _, rfl, ?_⟩
      have : isW d = !isB d := by cases d <;> first | rfl | (cases e)
      rw [← this]
      exact k
    · have : isW d = false := by cases d <;> first | rfl | (exact absurd rfl e)
      rw [this] at k
      exact k

/-! ### is_fraction -/
theorem sc_is_fraction : FnScope ["thing", "top", "bottom"] ["thing"] (defScope s_is_fraction) := ⟨rfl, rfl, rfl, by decide +kernel, rfl, by decide +kernel, by decide +kernel⟩
def sp_isfr (K : PySem.W.Frag) : Sp := fun vs H Q _ => ∃ (v : V) (d : PyData), vs = [v] ∧ Dq K H v d ∧ Q (.bl (isFr d)) H
theorem isFr_len {ds : List PyData} (h : ds.length ≠ 2) : isFr (.tuple ds) = false := by
  match ds, h with
  | [], _ => rfl
  | [_], _ => rfl
  | [_, _], h => exact absurd rfl h
  | _ :: _ :: _ :: _, _ => rfl
theorem isFr_no {d e : PyData} (h : isW d = false ∨ isW e = false) : isFr (.tuple [d, e]) = false := by
  cases d <;> cases e <;> first | rfl | (rcases h with h | h <;> cases h)
theorem isFr_two {a b : Int} : isFr (.tuple [.int a, .int b]) = (decide (0 < b) && decide (Nat.gcd a.natAbs b.natAbs = 1)) := rfl
theorem DpAll.len {H : Hp} : ∀ {vs : List V} {ds : List PyData}, DpAll K H vs ds → vs.length = ds.length
  | _, _, .nil => rfl
  | _, _, .cons _ r => congrArg Nat.succ (DpAll.len r)
theorem two_of {H : Hp} {xs : List V} {ds : List PyData} (h : DpAll K H xs ds) (hl : xs.length = 2) : ∃ x y d1 d2, xs = [x, y] ∧ ds = [d1, d2] ∧ Dp K H x d1 ∧ Dp K H y d2 := by
  match xs, ds, h, hl with
  | _, _, .cons h1 (.cons h2 .nil), _ => exact ⟨_, _, _, _, rfl, rfl, h1, h2⟩
  | _, _, .nil, e => cases e
  | _, _, .cons _ .nil, e => cases e
  | _, _, .cons _ (.cons _ (.cons _ _)), e => simp at e
theorem ok_isfr {f : Addr} {fd : FuncData} (M : Blt mg) (Mx : Bltx mg) (F : Fun K "is_fraction" "is_fraction" s_is_fraction f fd) (C_is_whole : Cal P w K mg base CX0 1 "is_whole" ["thing"] (sp_whole K)) (C_common : Cal P w K mg base CX0 1 "common" ["one", "other"] spCom) :
    FnG P w K mg base CX0 2 f fd ["thing"] (sp_isfr K) := by
  refine Gfun F sc_is_fraction (fun vs H Q E h => ?_) (fun cdv A outer s H vs Q E hg hr h => ?_)
  · obtain ⟨v, d, rfl, _⟩ := h
    rfl
  · obtain ⟨v, d, rfl, hq, k⟩ := h
    refine ⟨_, (pss_cons (ps_if (PW.pt (pw_or (pt_not (pt_val (pe_callB call_isi rfl Mx.isinstance bt_isinstance (pa_cons (pv 0) (pa_cons (pe_bltn (v := .ty "tuple") rfl Mx.tuple bt_tuple rfl) pa_nil))))) (pw_or1 (pt_cmpR op_ne (pe_callB call_len_seq rfl M.len bt_len (pa_cons (pv 0) pa_nil)) pe_int (nomark _)))))
      (pss_one (ps_ret pe_bl))
      pss_nil)
      (pss_cons (ps_asg (pv 0) (pg_tup rfl (pgs_cons (pg_name (i := 1) sc_is_fraction.nd rfl (.inl rfl)) (pgs_cons (pg_name (i := 2) sc_is_fraction.nd rfl (.inl rfl)) pgs_nil))))
      (pss_cons (ps_if (PW.pt (pw_or (pt_not (pt_val (pe_g C_is_whole (hr.mono (by decide)) hg (pa_cons (pv 1) pa_nil)))) (pw_or1 (pt_not (pt_val (pe_g C_is_whole (hr.mono (by decide)) hg (pa_cons (pv 2) pa_nil)))))))
      (pss_one (ps_ret pe_bl))
      pss_nil)
      (pss_one (ps_ret (pe_and (pe_cmpR op_gt (pv 2) pe_int (nomark _)) (pe_one (pe_cmpR op_eq (pe_g C_common (hr.mono (by decide)) hg (pa_cons (pe_callB call_abs rfl M.abs bt_abs (pa_cons (pv 1) pa_nil)) (pa_cons (pv 2) pa_nil))) pe_int (nomark _))))))))), ?_⟩
    refine ⟨_, rfl, _, _, _, _, _, rfl, .ty "tuple", hq.ty, kit_ty (kt d), _, rfl, ?_⟩
    by_cases ht : isT d = true
    · rw [ht]
      refine iteF ?_
      obtain ⟨a, xs, ds, rfl, rfl, hS, hA, hn⟩ := hq.tup ht
      refine ⟨_, rfl, a, xs, rfl, .inr hS, rfl, _, rfl, ?_⟩
      by_cases hl : xs.length = 2
      · refine iteNS (show V.int (xs.length : Int) = V.int 2 by rw [hl]; rfl) ?_
        obtain ⟨x, y, d1, d2, rfl, rfl, h1, h2⟩ := two_of hA hl
        refine ⟨_, rfl, a, _, rfl, hS, rfl, _, _, rfl, _, _, rfl, rfl, ?_⟩
        have hn' : d1.hasDict = false ∧ d2.hasDict = false := by simpa [PyData.hasDictAll] using hn
        have q1 : Dq K H x d1 := .dp h1 hn'.1
        have q2 : Dq K H y d2 := .dp h2 hn'.2
        refine ⟨_, rfl, x, d1, rfl, q1, _, rfl, ?_⟩
        by_cases w1 : isW d1 = true
        · rw [w1]
          refine iteF ?_
          refine ⟨_, rfl, y, d2, rfl, q2, _, rfl, ?_⟩
          by_cases w2 : isW d2 = true
          · rw [w2]
            refine iteF ?_
            obtain ⟨p, rfl, rfl⟩ := q1.whole w1
            obtain ⟨b, rfl, rfl⟩ := q2.whole w2
            rw [isFr_two] at k
            refine ⟨_, rfl, _, _, rfl, rfl, _, rfl, ite2 (fun e => ?_) (fun e => ?_)⟩
            · have hb : 0 < b := of_decide_eq_true e
              refine ⟨_, rfl, _, rfl, _, rfl, _, b, rfl, ?_, Int.le_of_lt hb, rfl, ?_⟩
              · rw [abs_is]
                omega
              · rw [abs_is, Int.natAbs_natCast]
                rw [decide_eq_true hb, Bool.true_and] at k
                have e2 : decide (V.int ((Nat.gcd p.natAbs b.natAbs : Nat) : Int) = V.int 1) = decide (Nat.gcd p.natAbs b.natAbs = 1) := by
                  by_cases z : Nat.gcd p.natAbs b.natAbs = 1
                  · rw [decide_eq_true z, z]
                    rfl
                  · rw [decide_eq_false z]
                    exact decide_eq_false fun q => z (by have := V.int.inj q; omega)
                rw [e2]
                exact k
            · rw [show decide (0 < b) = false from Bool.eq_false_iff.mpr e, Bool.false_and] at k
              exact k
          · have w2' : isW d2 = false := by cases h : isW d2 <;> first | rfl | exact absurd h w2
            rw [w2']
            refine iteT ?_
            rw [isFr_no (.inr w2')] at k
            exact k
        · have w1' : isW d1 = false := by cases h : isW d1 <;> first | rfl | exact absurd h w1
          rw [w1']
          refine iteT ?_
          rw [isFr_no (.inl w1')] at k
          exact k
      · refine iteN (fun z => hl (by have := V.int.inj z; omega)) ?_
        have hl2 : ds.length ≠ 2 := by rw [← DpAll.len hA]; exact hl
        rw [isFr_len hl2] at k
        exact k
    · have ht' : isT d = false := by cases h : isT d <;> first | rfl | exact absurd h ht
      rw [ht']
      refine iteT ?_
      have : isFr d = false := by
        cases d <;> first | rfl | exact absurd rfl ht
      rw [this] at k
      exact k

end
end Lf

set_option Elab.async false
set_option linter.all false
set_option maxRecDepth 100000
set_option maxHeartbeats 4000000
set_option exponentiation.threshold 3000
namespace Lf
open PySem PySem.Spec PyProof.Rows L2
theorem sm_l {K : PySem.W.Frag} {H H' : Hp} {a : Addr} {xs : List V} (s : Same H H') (h : SqL K H a xs) : SqL K H' a xs := s.seq h
theorem small30 {n : Int} (h : 0 ≤ n) (h2 : n < 2147483648) : Sm n := Nat.lt_of_lt_of_le (show n.natAbs < 2 ^ 31 by omega) (Nat.pow_le_pow_right (by decide) (by decide))
section
variable {P : Program} {w : World} {K : PySem.W.Frag} {mg : Str → Option Value} {base : Heap}

/-! ### _law_cell -/
theorem sc__law_cell : FnScope ["_law_script", "_law_k"] ["_law_script", "_law_k"] (defScope s__law_cell) := ⟨rfl, rfl, rfl, by decide +kernel, rfl, by decide +kernel, by decide +kernel⟩
def sp_cell (K : PySem.W.Frag) : Sp := fun vs H Q _ => ∃ (a : Addr) (ns : List Int) (k : Nat), vs = [.ref a, .int k] ∧ SqL K H a (ns.map V.int) ∧ k < 2 ^ 62 ∧ ∀ n : Int, Q (.int n) H
theorem ok_cell {f : Addr} {fd : FuncData} (M : Blt mg) (F : Fun K "_law_cell" "_law_cell" s__law_cell f fd) : FnG P w K mg base CX0 1 f fd ["_law_script", "_law_k"] (sp_cell K) := by
  refine Gfun F sc__law_cell (fun vs H Q E h => ?_) (fun cdv A outer s H vs Q E hg hr h => ?_)
  · obtain ⟨a, ns, k, rfl, _⟩ := h
    rfl
  · obtain ⟨a, ns, k, rfl, hS, hk, q⟩ := h
    refine ⟨_, (pss_one (ps_ret (pe_ifExp (pt_cmpR op_lt (pv 1) (pe_callB call_len_seq rfl M.len bt_len (pa_cons (pv 0) pa_nil)) (nomark _)) (pe_ix ix_list (pv 0) (pv 1) (fun _ _ => rfl)) pe_int))), ?_⟩
    refine ⟨_, rfl, _, rfl, a, _, rfl, .inl hS, _, _, rfl, rfl, _, rfl, ite2 (fun e => ?_) (fun e => ?_)⟩
    · have e' : (k : Int) < (((ns.map V.int).length : Nat) : Int) := of_decide_eq_true e
      rw [List.length_map] at e'
      have hlt : k < ns.length := by omega
      refine ⟨_, rfl, _, rfl, a, _, _, .int ns[k], rfl, rfl, hS, atI_nat ?_, q _⟩
      rw [List.getElem?_map, List.getElem?_eq_getElem hlt]
      rfl
    · exact q 0

/-! ### _law_pot -/
theorem sc__law_pot : FnScope ["_law_cell_here"] ["_law_cell_here"] (defScope s__law_pot) := ⟨rfl, rfl, rfl, by decide +kernel, rfl, by decide +kernel, by decide +kernel⟩
def sp_pot : Sp := fun vs H Q _ => ∃ n : Int, vs = [.int n] ∧ ∀ (x y : Int) (p : Addr), 0 ≤ y → y < 2147483648 → H p = none → Q (.ref p) (upd H p (.lst [.int x, .int y]))
theorem ok_pot {f : Addr} {fd : FuncData} (M : Blt mg) (F : Fun K "_law_pot" "_law_pot" s__law_pot f fd) : FnG P w K mg base CX0 1 f fd ["_law_cell_here"] sp_pot := by
  refine Gfun F sc__law_pot (fun vs H Q E h => ?_) (fun cdv A outer s H vs Q E hg hr h => ?_)
  · obtain ⟨n, rfl, _⟩ := h
    rfl
  · obtain ⟨n, rfl, q⟩ := h
    refine ⟨_, (pss_one (ps_ret (pe_lst (pa_cons (pe_callB (call_max2 rfl) rfl M.max bt_max (pa_cons pe_int (pa_cons (pe_op op_sub (pv 0) (pe_op op_pow pe_int pe_int)) pa_nil))) (pa_cons (pe_op op_mod (pe_op op_add (pe_op op_mulW (pe_op op_mod (pv 0) pe_int) pe_int) pe_int) pe_int) pa_nil))))), ?_⟩
    refine ⟨_, rfl, 10, 18, rfl, rfl, ⟨by decide, by decide, by decide⟩, _, _, rfl, rfl, _, _, rfl, ?_⟩
    have h1 := Int.emod_nonneg n (show (2147483629 : Int) ≠ 0 by decide)
    have h2 := Int.emod_lt_of_pos n (show (0 : Int) < 2147483629 by decide)
    refine ⟨_, rfl, _, _, rfl, rfl, (by show (0 : Int) < 2147483629; decide), _, _, rfl, rfl, Sm.mulW (small30 h1 (by omega)) (small30 (by decide) (by decide)), _, _, rfl, rfl, _, _, rfl, rfl, (by show (0 : Int) < 2147483647; decide), lst2 fun p hp => ?_⟩
    have h3 := Int.emod_nonneg (n % 2147483629 * 48271 + 7919) (show (2147483647 : Int) ≠ 0 by decide)
    have h4 := Int.emod_lt_of_pos (n % 2147483629 * 48271 + 7919) (show (0 : Int) < 2147483647 by decide)
    exact q _ _ p h3 (by omega) hp

/-! ### _law_draw -/
theorem sc__law_draw : FnScope ["_law_pot_here", "_law_many_here", "_law_digit"] ["_law_pot_here", "_law_many_here"] (defScope s__law_draw) := ⟨rfl, rfl, rfl, by decide +kernel, rfl, by decide +kernel, by decide +kernel⟩
/-- all but the pot at q stands as before -/
def But (q : Addr) (H H' : Hp) : Prop := ∀ b o, b ≠ q → H b = some o → H' b = some o
theorem But.rfl {q : Addr} {H : Hp} : But q H H := fun _ _ _ e => e
theorem But.trans {q : Addr} {H H1 H2 : Hp} (h : But q H H1) (k : But q H1 H2) : But q H H2 := fun b o n e => k b o n (h b o n e)
theorem But.same {q : Addr} {H H1 H2 : Hp} (h : But q H H1) (k : Same H1 H2) : But q H H2 := fun b o n e => k b o (h b o n e)
/-- a pot of draws at q -/
def Pot (H : Hp) (q : Addr) : Prop := ∃ x y : Int, 0 ≤ y ∧ y < 2147483648 ∧ H q = some (.lst [.int x, .int y])
def Drawn (H : Hp) (q : Addr) (Q : VK) (m : Int) : Prop := ∀ (r : Int) (H' : Hp), 0 ≤ r → r < m → Pot H' q → But q H H' → Q (.int r) H'
def sp_draw : Sp := fun vs H Q _ => ∃ (q : Addr) (m : Int), vs = [.ref q, .int m] ∧ 0 < m ∧ m.natAbs < 2 ^ 900 ∧ Pot H q ∧ Drawn H q Q m
theorem ok_draw {f : Addr} {fd : FuncData} (M : Blt mg) (F : Fun K "_law_draw" "_law_draw" s__law_draw f fd) : FnG P w K mg base CX0 1 f fd ["_law_pot_here", "_law_many_here"] sp_draw := by
  refine Gfun F sc__law_draw (fun vs H Q E h => ?_) (fun cdv A outer s H vs Q E hg hr h => ?_)
  · obtain ⟨q, m, rfl, _⟩ := h
    rfl
  · obtain ⟨q, m, rfl, hm, hm2, ⟨x, y, hy0, hy1, hP⟩, k⟩ := h
    refine ⟨_, (pss_cons (ps_if (pt_cmpR op_gt (pe_ix ix_list (pv 0) pe_int (fun _ _ => rfl)) pe_int (nomark _))
      (pss_cons (ps_asg (pe_callB call_divmodW rfl M.divmod bt_divmod (pa_cons (pe_ix ix_list (pv 0) pe_int (fun _ _ => rfl)) (pa_cons (pv 1) pa_nil))) (pg_tup rfl (pgs_cons (pg_sub (pv 0) pe_int set_list) (pgs_cons (pg_name (i := 2) sc__law_draw.nd rfl (.inl rfl)) pgs_nil))))
      (pss_one (ps_ret (pv 2))))
      pss_nil)
      (pss_cons (ps_asg (pe_op op_mod (pe_op op_add (pe_op op_mulW (pe_ix ix_list (pv 0) pe_int (fun _ _ => rfl)) pe_int) pe_int) pe_int) (pg_sub (pv 0) pe_int set_list))
      (pss_one (ps_ret (pe_op op_mod (pe_op op_fdivN (pe_op op_mod (pe_op op_mulW (pe_ix ix_list (pv 0) pe_int (fun _ _ => rfl)) (pe_ix ix_list (pv 0) pe_int (fun _ _ => rfl))) pe_int) pe_int) (pv 1)))))), ?_⟩
    refine ⟨_, rfl, q, _, _, _, rfl, rfl, .inl (.inl hP), rfl, _, _, rfl, rfl, _, rfl, ite2 (fun e => ?_) (fun e => ?_)⟩
    · refine ⟨_, rfl, q, _, _, _, rfl, rfl, .inl (.inl hP), rfl, _, rfl, x, m, rfl, ⟨hm, PyProof.noPylong_of_log2 (Nat.lt_of_lt_of_le (PySem.Flt.log2_lt_of (by decide) hm2) (by decide))⟩, fun p hp => ?_⟩
      have nq : q ≠ p := ne_of_none hP hp
      have hP2 : upd H p (.tup [.int (x / m), .int (x % m)]) q = some (.lst [.int x, .int y]) := by
        rw [upd_ne nq]
        exact hP
      refine ⟨p, _, rfl, .inl (.inl upd_same), rfl, _, _, rfl, ?_⟩
      refine ⟨_, rfl, q, _, _, _, rfl, rfl, hP2, rfl, ?_⟩
      refine ⟨_, _, rfl, rfl, ?_⟩
      refine ⟨_, rfl, k (x % m) _ (Int.emod_nonneg _ (by omega)) (Int.emod_lt_of_pos _ hm) ⟨x / m, y, hy0, hy1, upd_same⟩ fun b o nb eb => ?_⟩
      rw [upd_ne nb, upd_ne (ne_of_none eb hp)]
      exact eb
    · refine ⟨_, rfl, q, _, _, _, rfl, rfl, .inl (.inl hP), rfl, _, _, rfl, rfl, Sm.mulW (small30 hy0 hy1) (small30 (by decide) (by decide)), _, _, rfl, rfl, _, _, rfl, rfl, (by show (0 : Int) < 2147483587; decide), ?_⟩
      refine ⟨_, rfl, q, _, _, _, rfl, rfl, hP, rfl, ?_⟩
      have h3 := Int.emod_nonneg (y * 39373 + 8191) (show (2147483587 : Int) ≠ 0 by decide)
      have h4 := Int.emod_lt_of_pos (y * 39373 + 8191) (show (0 : Int) < 2147483587 by decide)
      have sz : Sm ((y * 39373 + 8191) % 2147483587) := small30 h3 (by omega)
      refine ⟨_, rfl, q, _, _, _, rfl, rfl, .inl (.inl upd_same), rfl, _, rfl, q, _, _, _, rfl, rfl, .inl (.inl upd_same), rfl, _, _, rfl, rfl, Sm.mulW sz sz, _, _, rfl, rfl, (by show (0 : Int) < 2147483543; decide), ?_⟩
      refine ⟨_, _, rfl, rfl, ⟨by decide, by decide⟩, _, rfl, _, _, rfl, rfl, hm, ?_⟩
      refine k _ _ (Int.emod_nonneg _ (by omega)) (Int.emod_lt_of_pos _ hm) ⟨x, _, h3, by omega, upd_same⟩ fun b o nb eb => ?_
      rw [upd_ne nb]
      exact eb

/-! ### _law_low -/
theorem sc__law_low : FnScope ["_law_top", "_law_bottom", "_law_one", "_law_other"] ["_law_top", "_law_bottom"] (defScope s__law_low) := ⟨rfl, rfl, rfl, by decide +kernel, rfl, by decide +kernel, by decide +kernel⟩
def sp_low : Sp := fun vs H Q _ => ∃ (n d : Int), vs = [.int n, .int d] ∧ d ≠ 0 ∧ Mid d ∧ Two H Q (low n d)
theorem ok_low {f : Addr} {fd : FuncData} (M : Blt mg) (F : Fun K "_law_low" "_law_low" s__law_low f fd) : FnG P w K mg base CX0 1 f fd ["_law_top", "_law_bottom"] sp_low := by
  refine Gfun F sc__law_low (fun vs H Q E h => ?_) (fun cdv A outer s H vs Q E hg hr h => ?_)
  · obtain ⟨n, d, rfl, _⟩ := h
    rfl
  · obtain ⟨n, d, rfl, hd, hd2, q⟩ := h
    refine ⟨_, (pss_cons (ps_par (i := 2) (j := 3) rfl sc__law_low.nd rfl rfl (by decide) rfl rfl (pa_cons (pe_callB call_abs rfl M.abs bt_abs (pa_cons (pv 0) pa_nil)) (pa_cons (pe_callB call_abs rfl M.abs bt_abs (pa_cons (pv 1) pa_nil)) pa_nil)) (by rfl))
      (pss_cons (ps_while PassesOwn.never (pt_cmpR op_gt (pv 3) pe_int (nomark _))
      (pss_one (ps_par (i := 2) (j := 3) rfl sc__law_low.nd rfl rfl (by decide) rfl rfl (pa_cons (pv 3) (pa_cons (pe_op op_mod (pv 2) (pv 3)) pa_nil)) (by rfl))))
      (pss_cons (ps_if (pt_cmpR op_lt (pv 1) pe_int (nomark _))
      (pss_one (ps_set (i := 2) sc__law_low.nd rfl (.inl rfl) (pe_un un_neg (pv 2))))
      pss_nil)
      (pss_one (ps_ret (pe_tup (pa_cons (pe_op op_fdivN (pv 0) (pv 2)) (pa_cons (pe_op op_fdivN (pv 1) (pv 2)) pa_nil)))))))), ?_⟩
    refine ⟨_, rfl, _, rfl, _, rfl, _, rfl, _, _, rfl, ?_⟩
    refine while_by (fun σ H' => ∃ x y : Int, σ = [some (.int n), some (.int d), some (.int x), some (.int y)] ∧ 0 ≤ x ∧ 0 ≤ y ∧ Nat.gcd x.natAbs y.natAbs = Nat.gcd n.natAbs d.natAbs ∧ H' = H)
      (fun σ _ => match σ with | [_, _, _, some (.int y)] => y.toNat | _ => 0) ⟨_, _, rfl, ?_, ?_, ?_, rfl⟩ ?_ ?_
    · rw [abs_is]
      omega
    · rw [abs_is]
      omega
    · rw [abs_is, abs_is, Int.natAbs_natCast, Int.natAbs_natCast]
    · rintro σ H1 ⟨x, y, rfl, hx, hy, hgc, rfl⟩
      refine ⟨_, rfl, _, _, rfl, rfl, _, rfl, ite2 (fun e => ?_) (fun e => ?_)⟩
      · have hyp : 0 < y := of_decide_eq_true e
        refine ⟨_, rfl, _, rfl, _, rfl, x, y, rfl, rfl, hyp, _, _, rfl, ⟨y, x % y, rfl, hy, Int.emod_nonneg _ (by omega), (gcd_step x y hyp hx).trans hgc, rfl⟩, ?_⟩
        show (x % y).toNat < y.toNat
        have := Int.emod_lt_of_pos x hyp
        omega
      · have hy0 : y = 0 := by
          have : ¬ 0 < y := fun z => e (decide_eq_true z)
          omega
        subst hy0
        rw [Int.natAbs_zero, Nat.gcd_zero_right] at hgc
        have ex : x = ((Nat.gcd n.natAbs d.natAbs : Nat) : Int) := by omega
        subst ex
        have hgz : ((Nat.gcd n.natAbs d.natAbs : Nat) : Int) ≠ 0 := by
          have := gcd_pos (n := n) hd
          omega
        have hlg := (gcd_mid (n := n) hd hd2).log
        refine ⟨_, rfl, _, _, rfl, rfl, _, rfl, ite2 (fun e => ?_) (fun e => ?_)⟩
        · have e' : d < 0 := of_decide_eq_true e
          have hm : ∀ i, CDivN i (-((Nat.gcd n.natAbs d.natAbs : Nat) : Int)) := fun i => ⟨by omega, by rw [Int.natAbs_neg]; exact hlg⟩
          refine ⟨_, rfl, _, rfl, _, rfl, _, rfl, n, _, rfl, rfl, hm n, _, rfl, _, rfl, d, _, rfl, rfl, hm d, (by show 2 ≤ sizeLine; decide), fun p hp => ?_⟩
          refine q _ p (same_new hp) ?_
          rw [← low_fdiv_neg (n := n) e']
          exact upd_same
        · have e' : 0 < d := by
            have : ¬ d < 0 := fun z => e (decide_eq_true z)
            omega
          have hm : ∀ i, CDivN i ((Nat.gcd n.natAbs d.natAbs : Nat) : Int) := fun i => ⟨hgz, hlg⟩
          refine ⟨_, rfl, _, rfl, n, _, rfl, rfl, hm n, _, rfl, _, rfl, d, _, rfl, rfl, hm d, (by show 2 ≤ sizeLine; decide), fun p hp => ?_⟩
          refine q _ p (same_new hp) ?_
          rw [← low_fdiv_pos (n := n) e']
          exact upd_same
    · rintro σ H1 Q1 Q2 hq ⟨u, hu, i, j, h1, h2, k, h3, h4⟩
      exact ⟨u, hu, i, j, h1, h2, k, h3, hq _ _ h4⟩

end
end Lf

set_option linter.all false
/-! Sums and products of fractions in any order, by rational numbers. -/
namespace Lf
def rv (f : Int × Int) : Rat := Rat.divInt f.1 f.2
def IsF (f : Int × Int) : Prop := IsLow f.1 f.2
theorem IsF.ne {f : Int × Int} (h : IsF f) : f.2 ≠ 0 := by
  have : 0 < f.2 := h.1
  omega
theorem rv_inj {f g : Int × Int} (hf : IsF f) (hg : IsF g) (e : rv f = rv g) : f = g := by
  have q := (Rat.divInt_eq_divInt_iff hf.ne hg.ne).mp e
  obtain ⟨e1, e2⟩ := low_uniq hf hg q
  exact Prod.ext e1 e2
theorem low_f {n d : Int} (h : d ≠ 0) : IsF (low n d) := low_is h
theorem rv_low {n d : Int} (h : d ≠ 0) : rv (low n d) = Rat.divInt n d :=
  (Rat.divInt_eq_divInt_iff (low_f (n := n) h).ne h).mpr (low_cross h)
def fadd (f g : Int × Int) : Int × Int := low (f.1 * g.2 + g.1 * f.2) (f.2 * g.2)
def fsub (f g : Int × Int) : Int × Int := low (f.1 * g.2 - g.1 * f.2) (f.2 * g.2)
def fmul (f g : Int × Int) : Int × Int := low (f.1 * g.1) (f.2 * g.2)
def fdiv (f g : Int × Int) : Int × Int := low (f.1 * g.2) (f.2 * g.1)
section
variable {f g : Int × Int}
theorem fadd_f (hf : IsF f) (hg : IsF g) : IsF (fadd f g) := low_f (Int.mul_ne_zero hf.ne hg.ne)
theorem fsub_f (hf : IsF f) (hg : IsF g) : IsF (fsub f g) := low_f (Int.mul_ne_zero hf.ne hg.ne)
theorem fmul_f (hf : IsF f) (hg : IsF g) : IsF (fmul f g) := low_f (Int.mul_ne_zero hf.ne hg.ne)
theorem fdiv_f (hf : IsF f) (h0 : g.1 ≠ 0) : IsF (fdiv f g) := low_f (Int.mul_ne_zero hf.ne h0)
theorem rv_add (hf : IsF f) (hg : IsF g) : rv (fadd f g) = rv f + rv g := by
  unfold fadd
  rw [rv_low (Int.mul_ne_zero hf.ne hg.ne)]
  exact (Rat.divInt_add_divInt _ _ hf.ne hg.ne).symm
theorem rv_sub (hf : IsF f) (hg : IsF g) : rv (fsub f g) = rv f - rv g := by
  unfold fsub
  rw [rv_low (Int.mul_ne_zero hf.ne hg.ne)]
  exact (Rat.divInt_sub_divInt _ _ hf.ne hg.ne).symm
theorem rv_mul (hf : IsF f) (hg : IsF g) : rv (fmul f g) = rv f * rv g := by
  unfold fmul
  rw [rv_low (Int.mul_ne_zero hf.ne hg.ne)]
  exact (Rat.divInt_mul_divInt _ _).symm
theorem rv_div (hf : IsF f) (h0 : g.1 ≠ 0) : rv (fdiv f g) = rv f * (rv g)⁻¹ := by
  unfold fdiv
  rw [rv_low (Int.mul_ne_zero hf.ne h0)]
  unfold rv
  rw [Rat.inv_divInt, Rat.divInt_mul_divInt]
end
def f0 : Int × Int := (0, 1)
def f1 : Int × Int := (1, 1)
theorem f0_f : IsF f0 := ⟨by decide, by decide⟩
theorem f1_f : IsF f1 := ⟨by decide, by decide⟩
theorem rv0 : rv f0 = 0 := Rat.zero_divInt 1
theorem rv1 : rv f1 = 1 := Rat.divInt_self' (by decide)
theorem rv_zero {f : Int × Int} (h : IsF f) : rv f = 0 ↔ f.1 = 0 := by
  constructor
  · intro e
    have := rv_inj h f0_f (e.trans rv0.symm)
    rw [this]
    rfl
  · intro e
    unfold rv
    rw [e, Rat.zero_divInt]
theorem is0 {f : Int × Int} (h : IsF f) : f.1 = 0 ↔ f = f0 := by
  constructor
  · intro e
    exact rv_inj h f0_f (((rv_zero h).mpr e).trans rv0.symm)
  · intro e
    rw [e]
    rfl
def rsum : List (Int × Int) → Rat
  | [] => 0
  | f :: r => rv f + rsum r
def rprod : List (Int × Int) → Rat
  | [] => 1
  | f :: r => rv f * rprod r
theorem rsum_perm {l m : List (Int × Int)} (p : l.Perm m) : rsum l = rsum m := by
  induction p with
  | nil => rfl
  | cons x _ ih => exact congrArg (rv x + ·) ih
  | swap x y l =>
    show rv y + (rv x + rsum l) = rv x + (rv y + rsum l)
    rw [← Rat.add_assoc, ← Rat.add_assoc, Rat.add_comm (rv y)]
  | trans _ _ h1 h2 => exact h1.trans h2
theorem rprod_perm {l m : List (Int × Int)} (p : l.Perm m) : rprod l = rprod m := by
  induction p with
  | nil => rfl
  | cons x _ ih => exact congrArg (rv x * ·) ih
  | swap x y l =>
    show rv y * (rv x * rprod l) = rv x * (rv y * rprod l)
    rw [← Rat.mul_assoc, ← Rat.mul_assoc, Rat.mul_comm (rv y)]
  | trans _ _ h1 h2 => exact h1.trans h2
def AllF (l : List (Int × Int)) : Prop := ∀ f ∈ l, IsF f
theorem AllF.tl {f : Int × Int} {l : List (Int × Int)} (h : AllF (f :: l)) : AllF l := fun g hg => h g (List.mem_cons_of_mem _ hg)
theorem AllF.hd {f : Int × Int} {l : List (Int × Int)} (h : AllF (f :: l)) : IsF f := h f List.mem_cons_self
theorem sum_fold : ∀ (l : List (Int × Int)) (a : Int × Int), IsF a → AllF l → IsF (l.foldl fadd a) ∧ rv (l.foldl fadd a) = rv a + rsum l
  | [], a, ha, _ => ⟨ha, (Rat.add_zero _).symm⟩
  | f :: l, a, ha, h => by
    obtain ⟨h1, h2⟩ := sum_fold l (fadd a f) (fadd_f ha h.hd) h.tl
    refine ⟨h1, ?_⟩
    show rv (l.foldl fadd (fadd a f)) = rv a + (rv f + rsum l)
    rw [h2, rv_add ha h.hd, Rat.add_assoc]
theorem mul_fold : ∀ (l : List (Int × Int)) (a : Int × Int), IsF a → AllF l → IsF (l.foldl fmul a) ∧ rv (l.foldl fmul a) = rv a * rprod l
  | [], a, ha, _ => ⟨ha, (Rat.mul_one _).symm⟩
  | f :: l, a, ha, h => by
    obtain ⟨h1, h2⟩ := mul_fold l (fmul a f) (fmul_f ha h.hd) h.tl
    refine ⟨h1, ?_⟩
    show rv (l.foldl fmul (fmul a f)) = rv a * (rv f * rprod l)
    rw [h2, rv_mul ha h.hd, Rat.mul_assoc]
theorem sub_fold : ∀ (l : List (Int × Int)) (a : Int × Int), IsF a → AllF l → IsF (l.foldl fsub a) ∧ rv (l.foldl fsub a) = rv a - rsum l
  | [], a, ha, _ => ⟨ha, by show rv a = rv a - 0; rw [Rat.sub_eq_add_neg, show -(0 : Rat) = 0 from rfl, Rat.add_zero]⟩
  | f :: l, a, ha, h => by
    obtain ⟨h1, h2⟩ := sub_fold l (fsub a f) (fsub_f ha h.hd) h.tl
    refine ⟨h1, ?_⟩
    show rv (l.foldl fsub (fsub a f)) = rv a - (rv f + rsum l)
    rw [h2, rv_sub ha h.hd, Rat.sub_eq_add_neg, Rat.sub_eq_add_neg, Rat.sub_eq_add_neg, Rat.neg_add, Rat.add_assoc]
/-- one division, where it is one -/
def ddiv (a f : Int × Int) : Int × Int := if f.1 ≠ 0 ∧ a.1 ≠ 0 then fdiv a f else a
theorem ddiv_f {a f : Int × Int} (ha : IsF a) (hf : IsF f) : IsF (ddiv a f) := by
  unfold ddiv
  split
  · exact fdiv_f ha (by rename_i h; exact h.1)
  · exact ha
theorem div_fold0 : ∀ (l : List (Int × Int)) (a : Int × Int), a.1 = 0 → l.foldl ddiv a = a
  | [], _, _ => rfl
  | f :: l, a, h => by
    show l.foldl ddiv (ddiv a f) = a
    have e : ddiv a f = a := if_neg fun z => z.2 h
    rw [e]
    exact div_fold0 l a h
theorem div_fold : ∀ (l : List (Int × Int)) (a : Int × Int), IsF a → AllF l → (∀ f ∈ l, f.1 ≠ 0) → a.1 ≠ 0 → IsF (l.foldl ddiv a) ∧ rv (l.foldl ddiv a) * rprod l = rv a
  | [], a, ha, _, _, _ => ⟨ha, Rat.mul_one _⟩
  | f :: l, a, ha, h, h0, ha0 => by
    have hf0 : f.1 ≠ 0 := h0 f List.mem_cons_self
    have e : ddiv a f = fdiv a f := if_pos ⟨hf0, ha0⟩
    have hq := fdiv_f (g := f) ha hf0
    have rq := rv_div (g := f) ha hf0
    have rf0 : rv f ≠ 0 := fun z => hf0 ((rv_zero h.hd).mp z)
    have hb : rv (fdiv a f) * rv f = rv a := by rw [rq, Rat.mul_assoc, Rat.inv_mul_cancel _ rf0, Rat.mul_one]
    have hq0 : (fdiv a f).1 ≠ 0 := fun z => by
      have := (rv_zero hq).mpr z
      rw [this, Rat.zero_mul] at hb
      exact ha0 ((rv_zero ha).mp hb.symm)
    obtain ⟨h1, h2⟩ := div_fold l (fdiv a f) hq h.tl (fun g hg => h0 g (List.mem_cons_of_mem _ hg)) hq0
    show IsF (l.foldl ddiv (ddiv a f)) ∧ rv (l.foldl ddiv (ddiv a f)) * (rv f * rprod l) = rv a
    rw [e]
    refine ⟨h1, ?_⟩
    rw [Rat.mul_comm (rv f), ← Rat.mul_assoc, h2, hb]
theorem rprod0 : ∀ {l : List (Int × Int)}, AllF l → (rprod l = 0 ↔ ∃ f ∈ l, f.1 = 0)
  | [], _ => ⟨fun e => absurd e (by decide), fun ⟨_, h, _⟩ => nomatch h⟩
  | f :: l, h => by
    show rv f * rprod l = 0 ↔ _
    rw [Rat.mul_eq_zero, rv_zero h.hd, rprod0 h.tl]
    constructor
    · rintro (e | ⟨g, hg, e⟩)
      · exact ⟨f, List.mem_cons_self, e⟩
      · exact ⟨g, List.mem_cons_of_mem _ hg, e⟩
    · rintro ⟨g, hg, e⟩
      rcases List.mem_cons.mp hg with z | z
      · exact Or.inl (z ▸ e)
      · exact Or.inr ⟨g, z, e⟩
/-- told in two orders the same -/
theorem sum_same {l m : List (Int × Int)} (p : l.Perm m) (h : AllF l) : l.foldl fadd f0 = m.foldl fadd f0 := by
  have hm : AllF m := fun f hf => h f (p.mem_iff.mpr hf)
  obtain ⟨a1, a2⟩ := sum_fold l f0 f0_f h
  obtain ⟨b1, b2⟩ := sum_fold m f0 f0_f hm
  exact rv_inj a1 b1 (by rw [a2, b2, rsum_perm p])
theorem mul_same {l m : List (Int × Int)} (p : l.Perm m) (h : AllF l) : l.foldl fmul f1 = m.foldl fmul f1 := by
  have hm : AllF m := fun f hf => h f (p.mem_iff.mpr hf)
  obtain ⟨a1, a2⟩ := mul_fold l f1 f1_f h
  obtain ⟨b1, b2⟩ := mul_fold m f1 f1_f hm
  exact rv_inj a1 b1 (by rw [a2, b2, rprod_perm p])
theorem sub_none {l m : List (Int × Int)} (p : l.Perm m) (h : AllF l) : m.foldl fsub (l.foldl fadd f0) = f0 := by
  have hm : AllF m := fun f hf => h f (p.mem_iff.mpr hf)
  obtain ⟨a1, a2⟩ := sum_fold l f0 f0_f h
  obtain ⟨b1, b2⟩ := sub_fold m _ a1 hm
  exact rv_inj b1 f0_f (by rw [b2, a2, rv0, Rat.zero_add, rsum_perm p, Rat.sub_self])
theorem div_none {l m : List (Int × Int)} (p : l.Perm m) (h : AllF l) : m.foldl ddiv (l.foldl fmul f1) = if f0 ∈ l then f0 else f1 := by
  have hm : AllF m := fun f hf => h f (p.mem_iff.mpr hf)
  obtain ⟨a1, a2⟩ := mul_fold l f1 f1_f h
  rw [rv1, Rat.one_mul] at a2
  by_cases hz : f0 ∈ l
  · rw [if_pos hz]
    have z : rprod l = 0 := (rprod0 h).mpr ⟨f0, hz, rfl⟩
    have z1 : (l.foldl fmul f1).1 = 0 := (rv_zero a1).mp (a2.trans z)
    rw [div_fold0 _ _ z1]
    exact (is0 a1).mp z1
  · rw [if_neg hz]
    have nz : ∀ f ∈ l, f.1 ≠ 0 := fun f hf e => hz ((is0 (h f hf)).mp e ▸ hf)
    have np : rprod l ≠ 0 := fun e => by
      obtain ⟨f, hf, e'⟩ := (rprod0 h).mp e
      exact nz f hf e'
    have n1 : (l.foldl fmul f1).1 ≠ 0 := fun e => np (a2.symm.trans ((rv_zero a1).mpr e))
    obtain ⟨b1, b2⟩ := div_fold m _ a1 hm (fun f hf => nz f (p.mem_iff.mpr hf)) n1
    refine rv_inj b1 f1_f ?_
    rw [a2, rprod_perm p] at b2
    have np' : rprod m ≠ 0 := by rw [← rprod_perm p]; exact np
    have : rv (m.foldl ddiv (l.foldl fmul f1)) * rprod m * (rprod m)⁻¹ = rprod m * (rprod m)⁻¹ := by rw [b2]
    rw [Rat.mul_assoc, Rat.mul_inv_cancel _ np', Rat.mul_one] at this
    rw [this, rv1]
/-- one fraction times a sum is the sum of its products -/
theorem spread_fold (x : Int × Int) (hx : IsF x) : ∀ (l : List (Int × Int)) (a : Int × Int), IsF a → AllF l → IsF (l.foldl (fun a f => fadd a (fmul x f)) a) ∧ rv (l.foldl (fun a f => fadd a (fmul x f)) a) = rv a + rv x * rsum l
  | [], a, ha, _ => ⟨ha, by show rv a = rv a + rv x * 0; rw [Rat.mul_zero, Rat.add_zero]⟩
  | f :: l, a, ha, h => by
    obtain ⟨h1, h2⟩ := spread_fold x hx l (fadd a (fmul x f)) (fadd_f ha (fmul_f hx h.hd)) h.tl
    refine ⟨h1, ?_⟩
    show rv (l.foldl (fun a f => fadd a (fmul x f)) (fadd a (fmul x f))) = rv a + rv x * (rv f + rsum l)
    rw [h2, rv_add ha (fmul_f hx h.hd), rv_mul hx h.hd, Rat.mul_add, Rat.add_assoc]
theorem spread_same {x : Int × Int} {l : List (Int × Int)} (hx : IsF x) (h : AllF l) : l.foldl (fun a f => fadd a (fmul x f)) f0 = fmul (fmul f1 x) (l.foldl fadd f0) := by
  obtain ⟨a1, a2⟩ := spread_fold x hx l f0 f0_f h
  obtain ⟨b1, b2⟩ := sum_fold l f0 f0_f h
  have c := fmul_f f1_f hx
  refine rv_inj a1 (fmul_f c b1) ?_
  rw [a2, rv_mul c b1, rv_mul f1_f hx, b2, rv0, rv1, Rat.one_mul, Rat.zero_add, Rat.zero_add]
/-! sizes -/
def Bt (k : Nat) (f : Int × Int) : Prop := f.1.natAbs < 2 ^ k ∧ f.2.natAbs < 2 ^ k
theorem Bt.mono {j k : Nat} {f : Int × Int} (h : Bt j f) (hk : j ≤ k) : Bt k f :=
  ⟨Nat.lt_of_lt_of_le h.1 (Nat.pow_le_pow_right (by decide) hk), Nat.lt_of_lt_of_le h.2 (Nat.pow_le_pow_right (by decide) hk)⟩
theorem mul_lt {a b : Int} {j k : Nat} (ha : a.natAbs < 2 ^ j) (hb : b.natAbs < 2 ^ k) : (a * b).natAbs < 2 ^ (j + k) := by
  rw [Int.natAbs_mul, Nat.pow_add]
  exact Nat.mul_lt_mul'' ha hb
theorem low_bt {n d : Int} {k : Nat} (h : d ≠ 0) (hn : n.natAbs < 2 ^ k) (hd : d.natAbs < 2 ^ k) : Bt k (low n d) :=
  ⟨Nat.lt_of_le_of_lt (low_top_le h) hn, Nat.lt_of_le_of_lt (low_bottom_le h) hd⟩
section
variable {f g : Int × Int} {j k : Nat}
theorem fadd_bt (hf : IsF f) (hg : IsF g) (a : Bt k f) (b : Bt j g) : Bt (k + j + 1) (fadd f g) := by
  have h1 := mul_lt a.1 b.2
  have h2 := mul_lt a.2 b.1
  have h3 := mul_lt a.2 b.2
  have h4 := Int.natAbs_add_le (f.1 * g.2) (g.1 * f.2)
  rw [Int.mul_comm g.1] at h4
  have h5 : (2 : Nat) ^ (k + j + 1) = 2 ^ (k + j) + 2 ^ (k + j) := Nat.two_pow_succ _
  refine low_bt (Int.mul_ne_zero hf.ne hg.ne) ?_ (by omega)
  rw [Int.mul_comm g.1]
  omega
theorem fsub_bt (hf : IsF f) (hg : IsF g) (a : Bt k f) (b : Bt j g) : Bt (k + j + 1) (fsub f g) := by
  have h1 := mul_lt a.1 b.2
  have h2 := mul_lt a.2 b.1
  have h3 := mul_lt a.2 b.2
  have h4 := Int.natAbs_sub_le (f.1 * g.2) (g.1 * f.2)
  rw [Int.mul_comm g.1] at h4
  have h5 : (2 : Nat) ^ (k + j + 1) = 2 ^ (k + j) + 2 ^ (k + j) := Nat.two_pow_succ _
  refine low_bt (Int.mul_ne_zero hf.ne hg.ne) ?_ (by omega)
  rw [Int.mul_comm g.1]
  omega
theorem fmul_bt (hf : IsF f) (hg : IsF g) (a : Bt k f) (b : Bt j g) : Bt (k + j) (fmul f g) :=
  low_bt (Int.mul_ne_zero hf.ne hg.ne) (mul_lt a.1 b.1) (mul_lt a.2 b.2)
theorem fdiv_bt (hf : IsF f) (h0 : g.1 ≠ 0) (a : Bt k f) (b : Bt j g) : Bt (k + j) (fdiv f g) :=
  low_bt (Int.mul_ne_zero hf.ne h0) (mul_lt a.1 b.2) (mul_lt a.2 b.1)
theorem ddiv_bt (hf : IsF f) (a : Bt k f) (b : Bt j g) : Bt (k + j) (ddiv f g) := by
  unfold ddiv
  split
  · rename_i h
    exact fdiv_bt hf h.1 a b
  · exact a.mono (Nat.le_add_right _ _)
end
end Lf

set_option Elab.async false
set_option linter.all false
set_option maxRecDepth 100000
set_option maxHeartbeats 4000000
set_option exponentiation.threshold 3000
/-! Fractions that stand in the heap or among the module's constants, and rows of them. -/
namespace Lf
open PySem PySem.Spec PyProof.Rows L2
/-- a fraction stands at v -/
def AtK (K : PySem.W.Frag) (H : Hp) (v : V) (f : Int × Int) : Prop := ∃ p, v = .ref p ∧ SqT K H p [.int f.1, .int f.2]
theorem AtK.same {K : PySem.W.Frag} {H H' : Hp} {v : V} {f : Int × Int} (s : Same H H') (h : AtK K H v f) : AtK K H' v f := by
  obtain ⟨p, e, h⟩ := h
  refine ⟨p, e, ?_⟩
  rcases h with (h | ⟨o, h⟩) | h
  · exact .inl (.inl (s _ _ h))
  · exact .inl (.inr ⟨o, s _ _ h⟩)
  · exact .inr h
theorem AtK.of {K : PySem.W.Frag} {H : Hp} {p : Addr} {f : Int × Int} (h : H p = some (.tup [.int f.1, .int f.2])) : AtK K H (.ref p) f := ⟨p, rfl, .inl (.inl h)⟩
/-- fractions stand at vs -/
def AtKs (K : PySem.W.Frag) (H : Hp) (vs : List V) (fs : List (Int × Int)) : Prop := Paired (AtK K H) vs fs
theorem AtKs.map {K : PySem.W.Frag} {H H' : Hp} (s : ∀ v f, AtK K H v f → AtK K H' v f) : ∀ {vs : List V} {fs : List (Int × Int)}, AtKs K H vs fs → AtKs K H' vs fs
  | _, _, .nil => .nil
  | _, _, .cons a r => .cons (s _ _ a) (AtKs.map s r)
theorem AtKs.same {K : PySem.W.Frag} {H H' : Hp} (s : Same H H') {vs : List V} {fs : List (Int × Int)} (h : AtKs K H vs fs) : AtKs K H' vs fs := h.map fun _ _ => AtK.same s
theorem AtKs.get {K : PySem.W.Frag} {H : Hp} : ∀ {vs : List V} {fs : List (Int × Int)} {i : Nat} {v : V}, AtKs K H vs fs → vs[i]? = some v → ∃ f, fs[i]? = some f ∧ AtK K H v f
  | _, _, _, _, .nil, e => by simp at e
  | _, _, 0, _, .cons a _, e => by
    simp at e
    subst e
    exact ⟨_, rfl, a⟩
  | _, _, i + 1, v, .cons _ r, e => by
    obtain ⟨f, h1, h2⟩ := AtKs.get (i := i) (v := v) r (by simpa using e)
    exact ⟨f, by simpa using h1, h2⟩
theorem AtKs.getF {K : PySem.W.Frag} {H : Hp} : ∀ {vs : List V} {fs : List (Int × Int)} {i : Nat} {f : Int × Int}, AtKs K H vs fs → fs[i]? = some f → ∃ v, vs[i]? = some v ∧ AtK K H v f
  | _, _, _, _, .nil, e => by simp at e
  | _, _, 0, _, .cons a _, e => by
    simp at e
    subst e
    exact ⟨_, rfl, a⟩
  | _, _, i + 1, f, .cons _ r, e => by
    obtain ⟨v, h1, h2⟩ := AtKs.getF (i := i) (f := f) r (by simpa using e)
    exact ⟨v, by simpa using h1, h2⟩
theorem AtKs.length {K : PySem.W.Frag} {H : Hp} {vs : List V} {fs : List (Int × Int)} (h : AtKs K H vs fs) : vs.length = fs.length := Paired.length h
theorem AtKs.app {K : PySem.W.Frag} {H : Hp} : ∀ {vs us : List V} {fs gs : List (Int × Int)}, AtKs K H vs fs → AtKs K H us gs → AtKs K H (vs ++ us) (fs ++ gs)
  | _, _, _, _, .nil, h => h
  | _, _, _, _, .cons a r, h => .cons a (AtKs.app r h)
theorem fold_take {α β : Type} (g : β → α → β) (a : β) {l : List α} {i : Nat} {x : α} (h : l[i]? = some x) : (l.take (i + 1)).foldl g a = g ((l.take i).foldl g a) x := by
  rw [List.take_add_one, h, List.foldl_append]
  rfl
theorem take_all {l : List (Int × Int)} (h : AllF l) (i : Nat) : AllF (l.take i) := fun f hf => h f (List.mem_of_mem_take hf)
def AllB (b : Nat) (l : List (Int × Int)) : Prop := ∀ f ∈ l, Bt b f
theorem add_bt {b : Nat} : ∀ (l : List (Int × Int)) (k : Nat) (a : Int × Int), IsF a → AllF l → Bt k a → AllB b l → Bt (k + (b + 1) * l.length) (l.foldl fadd a)
  | [], _, _, _, _, h, _ => h
  | f :: l, k, a, ha, h, hk, hb => by
    have := add_bt l (k + b + 1) (fadd a f) (fadd_f ha h.hd) h.tl (fadd_bt ha h.hd hk (hb f List.mem_cons_self)) (fun g hg => hb g (List.mem_cons_of_mem _ hg))
    refine this.mono ?_
    rw [List.length_cons, Nat.mul_succ]
    omega
theorem bt01 : Bt 1 f0 ∧ Bt 1 f1 := ⟨⟨by decide, by decide⟩, ⟨by decide, by decide⟩⟩
theorem fadd_0 {f : Int × Int} (h : IsF f) : fadd f0 f = f := by
  refine rv_inj (fadd_f f0_f h) h ?_
  rw [rv_add f0_f h, rv0]
  exact Rat.zero_add _
/-- what holds by two promises holds by either -/
theorem FnG.or {P : Program} {w : World} {K : PySem.W.Frag} {mg : Str → Option Value} {base : Heap} {CX : CXT} {k : Nat} {f : Addr} {fd : FuncData} {ps : List Str} {sp sq : Sp} (F : FnG P w K mg base CX k f fd ps sp) (G : FnG P w K mg base CX k f fd ps sq) :
    FnG P w K mg base CX k f fd ps (fun vs H Q E => sp vs H Q E ∨ sq vs H Q E) :=
  ⟨fun vs H Q E h => h.elim (F.size vs H Q E) (G.size vs H Q E), fun B out s H ar us vs Q E r hg e0 hb hv h => h.elim (F.goes B out s H ar us vs Q E r hg e0 hb hv) (G.goes B out s H ar us vs Q E r hg e0 hb hv)⟩
end Lf

set_option Elab.async false
set_option linter.all false
set_option maxRecDepth 100000
set_option maxHeartbeats 4000000
set_option exponentiation.threshold 3000
namespace Lf
open PySem PySem.Spec PyProof.Rows L2
theorem Bt.sm {k : Nat} {f : Int × Int} (h : Bt k f) (hk : k ≤ 900) : Sm f.1 ∧ Sm f.2 := ⟨(h.mono hk).1, (h.mono hk).2⟩
theorem pr_sq {K : PySem.W.Frag} {H : Hp} {p q : Addr} {f g : Int × Int} {j k : Nat} (hp : SqT K H p [.int f.1, .int f.2]) (hq : SqT K H q [.int g.1, .int g.2]) (hf : IsF f) (hg : IsF g) (bf : Bt j f) (bg : Bt k g) (hj : j ≤ 900) (hk : k ≤ 900) : Pr K H [.ref p, .ref q] f.1 f.2 g.1 g.2 :=
  ⟨⟨p, q, rfl, hp, hq⟩, hf.ne, hg.ne, (bf.sm hj).1, (bf.sm hj).2, (bg.sm hk).1, (bg.sm hk).2⟩
theorem pr_atk {K : PySem.W.Frag} {H : Hp} {v u : V} {f g : Int × Int} {j k : Nat} (hv : AtK K H v f) (hu : AtK K H u g) (hf : IsF f) (hg : IsF g) (bf : Bt j f) (bg : Bt k g) (hj : j ≤ 900) (hk : k ≤ 900) : Pr K H [v, u] f.1 f.2 g.1 g.2 := by
  obtain ⟨p, rfl, hp⟩ := hv
  obtain ⟨q, rfl, hq⟩ := hu
  exact pr_sq hp hq hf hg bf bg hj hk
section
variable {P : Program} {w : World} {K : PySem.W.Frag} {mg : Str → Option Value} {base : Heap}

/-! ### together -/
theorem sc_together : FnScope ["ones", "told", "one"] ["ones"] (defScope s_together) := ⟨rfl, rfl, rfl, by decide +kernel, rfl, by decide +kernel, by decide +kernel⟩
/-- fractions of a row, added up -/
def sp_togL (K : PySem.W.Frag) : Sp := fun vs H Q _ => ∃ (L : Addr) (xs : List V) (fs : List (Int × Int)) (b : Nat), vs = [.ref L] ∧ SqL K H L xs ∧ AtKs K H xs fs ∧ AllF fs ∧ AllB b fs ∧ b ≤ 900 ∧ 1 + (b + 1) * fs.length ≤ 900 ∧
  ∀ (H' : Hp) (v : V), Same H H' → AtK K H' v (fs.foldl fadd f0) → Q v H'
theorem ok_togL {f c0 : Addr} {fd : FuncData} (g0 : mg "NONE_OF_IT" = some (.ref c0)) (t0 : ∀ H, SqT K H c0 [.int 0, .int 1]) (F : Fun K "together" "together" s_together f fd) (C_plus : Cal P w K mg base CX0 5 "plus" ["one", "other"] (sp_plus K)) : FnG P w K mg base CX0 6 f fd ["ones"] (sp_togL K) := by
  refine Gfun F sc_together (fun vs H Q E h => ?_) (fun cdv A outer s H vs Q E hg hr h => ?_)
  · obtain ⟨L, xs, fs, b, rfl, _⟩ := h
    rfl
  · obtain ⟨L, xs, fs, b, rfl, hS, hA, hF, hB, hb8, hlen, k⟩ := h
    refine ⟨_, (pss_cons (ps_set (i := 1) sc_together.nd rfl (.inl rfl) (pe_glob (v := .ref c0) rfl g0 rfl))
      (pss_cons (ps_for PassesOwn.never rfl (pi_list (pv 0)) (pg_name (i := 2) sc_together.nd rfl (.inl rfl))
      (pss_one (ps_set (i := 1) sc_together.nd rfl (.inl rfl) (pe_g C_plus (hr.mono (by decide)) hg (pa_cons (pv 1) (pa_cons (pv 2) pa_nil))))))
      (pss_one (ps_ret (pv 1))))), ?_⟩
    refine ⟨_, rfl, L, rfl, ⟨_, hS⟩, for_list (K := K) (a := L) (xs := xs) (fun i σ H' => ∃ (v : Option V) (t : V), σ = [some (.ref L), some t, v] ∧ Same H H' ∧ AtK K H' t ((fs.take i).foldl fadd f0))
      ⟨none, .ref c0, rfl, same_rfl, ⟨c0, rfl, t0 H⟩⟩ (fun i σ H' _ ⟨_, _, _, sm, _⟩ => sm.seq hS) ?_ ?_⟩
    · rintro i x σ H' hi ⟨v, t, rfl, sm, ht⟩
      obtain ⟨g, hgi, hx0⟩ := hA.get hi
      have hx := hx0.same sm
      have hgf : IsF g := hF g (List.mem_of_getElem? hgi)
      have bg : Bt b g := hB g (List.mem_of_getElem? hgi)
      have hil : i < fs.length := (List.getElem?_eq_some_iff.mp hgi).1
      have htl : (fs.take i).length = i := by rw [List.length_take]; omega
      have hmn : (b + 1) * i ≤ (b + 1) * fs.length := Nat.mul_le_mul_left _ (Nat.le_of_lt hil)
      have fa := (sum_fold (fs.take i) f0 f0_f (take_all hF i)).1
      have ba := add_bt (b := b) (fs.take i) 1 f0 f0_f (take_all hF i) bt01.1 (fun f hf => hB f (List.mem_of_mem_take hf))
      rw [htl] at ba
      refine ⟨_, rfl, _, rfl, _, _, _, _, pr_atk ht hx fa hgf ba bg (by omega) hb8, fun H2 t' s2 e2 => ?_⟩
      refine ⟨some x, _, rfl, sm.trans s2, ?_⟩
      rw [fold_take _ _ hgi]
      exact AtK.of e2
    · rintro σ H' ⟨v, t, rfl, sm, ht⟩
      refine ⟨_, rfl, k H' t sm ?_⟩
      rw [hA.length, List.take_length] at ht
      exact ht

/-- fractions of a row, added up -/
def sp_togT (K : PySem.W.Frag) : Sp := fun vs H Q _ => ∃ (L : Addr) (xs : List V) (fs : List (Int × Int)) (b : Nat), vs = [.ref L] ∧ SqT K H L xs ∧ AtKs K H xs fs ∧ AllF fs ∧ AllB b fs ∧ b ≤ 900 ∧ 1 + (b + 1) * fs.length ≤ 900 ∧
  ∀ (H' : Hp) (v : V), Same H H' → AtK K H' v (fs.foldl fadd f0) → Q v H'
theorem ok_togT {f c0 : Addr} {fd : FuncData} (g0 : mg "NONE_OF_IT" = some (.ref c0)) (t0 : ∀ H, SqT K H c0 [.int 0, .int 1]) (F : Fun K "together" "together" s_together f fd) (C_plus : Cal P w K mg base CX0 5 "plus" ["one", "other"] (sp_plus K)) : FnG P w K mg base CX0 6 f fd ["ones"] (sp_togT K) := by
  refine Gfun F sc_together (fun vs H Q E h => ?_) (fun cdv A outer s H vs Q E hg hr h => ?_)
  · obtain ⟨L, xs, fs, b, rfl, _⟩ := h
    rfl
  · obtain ⟨L, xs, fs, b, rfl, hS, hA, hF, hB, hb8, hlen, k⟩ := h
    refine ⟨_, (pss_cons (ps_set (i := 1) sc_together.nd rfl (.inl rfl) (pe_glob (v := .ref c0) rfl g0 rfl))
      (pss_cons (ps_for PassesOwn.never rfl (pi_tup (pv 0)) (pg_name (i := 2) sc_together.nd rfl (.inl rfl))
      (pss_one (ps_set (i := 1) sc_together.nd rfl (.inl rfl) (pe_g C_plus (hr.mono (by decide)) hg (pa_cons (pv 1) (pa_cons (pv 2) pa_nil))))))
      (pss_one (ps_ret (pv 1))))), ?_⟩
    refine ⟨_, rfl, L, rfl, ⟨_, hS⟩, for_tup (K := K) (a := L) (xs := xs) (fun i σ H' => ∃ (v : Option V) (t : V), σ = [some (.ref L), some t, v] ∧ Same H H' ∧ AtK K H' t ((fs.take i).foldl fadd f0))
      ⟨none, .ref c0, rfl, same_rfl, ⟨c0, rfl, t0 H⟩⟩ (fun i σ H' _ ⟨_, _, _, sm, _⟩ => sm_t sm hS) ?_ ?_⟩
    · rintro i x σ H' hi ⟨v, t, rfl, sm, ht⟩
      obtain ⟨g, hgi, hx0⟩ := hA.get hi
      have hx := hx0.same sm
      have hgf : IsF g := hF g (List.mem_of_getElem? hgi)
      have bg : Bt b g := hB g (List.mem_of_getElem? hgi)
      have hil : i < fs.length := (List.getElem?_eq_some_iff.mp hgi).1
      have htl : (fs.take i).length = i := by rw [List.length_take]; omega
      have hmn : (b + 1) * i ≤ (b + 1) * fs.length := Nat.mul_le_mul_left _ (Nat.le_of_lt hil)
      have fa := (sum_fold (fs.take i) f0 f0_f (take_all hF i)).1
      have ba := add_bt (b := b) (fs.take i) 1 f0 f0_f (take_all hF i) bt01.1 (fun f hf => hB f (List.mem_of_mem_take hf))
      rw [htl] at ba
      refine ⟨_, rfl, _, rfl, _, _, _, _, pr_atk ht hx fa hgf ba bg (by omega) hb8, fun H2 t' s2 e2 => ?_⟩
      refine ⟨some x, _, rfl, sm.trans s2, ?_⟩
      rw [fold_take _ _ hgi]
      exact AtK.of e2
    · rintro σ H' ⟨v, t, rfl, sm, ht⟩
      refine ⟨_, rfl, k H' t sm ?_⟩
      rw [hA.length, List.take_length] at ht
      exact ht

end
end Lf

set_option Elab.async false
set_option linter.all false
set_option maxRecDepth 100000
set_option maxHeartbeats 4000000
set_option exponentiation.threshold 3000
/-! Weights, steps, how often a step goes into weights, aims. -/
namespace Lf
theorem low_b {n d : Int} (hd : 0 < d) : 0 < (low n d).2 := (low_is (n := n) (by omega)).1
theorem low_top_pos {n d : Int} (hd : 0 < d) (hn : 0 < n) : 0 < (low n d).1 := by
  have h := low_cross (n := n) (d := d) (by omega)
  have hb := low_b (n := n) hd
  have : 0 < (low n d).1 * d := by rw [h]; exact Int.mul_pos hn hb
  exact Int.pos_of_mul_pos_left this hd
theorem low_top_nn {n d : Int} (hd : 0 < d) (hn : 0 ≤ n) : 0 ≤ (low n d).1 := by
  have h := low_cross (n := n) (d := d) (by omega)
  have hb := low_b (n := n) hd
  have h2 : 0 ≤ (low n d).1 * d := by rw [h]; exact Int.mul_nonneg hn (Int.le_of_lt hb)
  exact Int.nonneg_of_mul_nonneg_left h2 hd
theorem fdiv_pos_eq {a b : Int} (h : 0 < b) : a.fdiv b = a / b := Int.fdiv_eq_ediv_of_nonneg a (Int.le_of_lt h)
theorem low_fl {n d : Int} (hd : 0 < d) : (low n d).1.fdiv (low n d).2 = n.fdiv d := by
  have h := low_cross (n := n) (d := d) (by omega)
  have hb := low_b (n := n) hd
  rw [fdiv_pos_eq hb, fdiv_pos_eq hd]
  have e1 : d * (low n d).1 / (d * (low n d).2) = (low n d).1 / (low n d).2 := Int.mul_ediv_mul_of_pos _ _ hd
  have e2 : (low n d).2 * n / ((low n d).2 * d) = n / d := Int.mul_ediv_mul_of_pos _ _ hb
  rw [← e1, ← e2, Int.mul_comm d (low n d).1, h, Int.mul_comm n, Int.mul_comm d]
/-- at most c -/
def Vb (c : Int) (f : Int × Int) : Prop := f.1 ≤ c * f.2
theorem vb_low {n d c : Int} (hd : 0 < d) (h : n ≤ c * d) : Vb c (low n d) := by
  have hc := low_cross (n := n) (d := d) (by omega)
  have hb := low_b (n := n) hd
  unfold Vb
  have h1 : (low n d).1 * d ≤ (c * (low n d).2) * d := by
    rw [hc]
    have := Int.mul_le_mul_of_nonneg_right h (Int.le_of_lt hb)
    have e : c * d * (low n d).2 = c * (low n d).2 * d := by grind
    omega
  exact Int.le_of_mul_le_mul_right h1 hd
theorem vb_add {f g : Int × Int} {c e : Int} (hf : IsF f) (hg : IsF g) (h : Vb c f) (k : Vb e g) : Vb (c + e) (fadd f g) := by
  have h2 : 0 < f.2 := hf.1
  have k2 : 0 < g.2 := hg.1
  refine vb_low (Int.mul_pos h2 k2) ?_
  have a := Int.mul_le_mul_of_nonneg_right h (Int.le_of_lt k2)
  have b := Int.mul_le_mul_of_nonneg_right k (Int.le_of_lt h2)
  have e1 : c * f.2 * g.2 + e * g.2 * f.2 = (c + e) * (f.2 * g.2) := by grind
  omega
theorem vb_fold {C : Int} : ∀ (l : List (Int × Int)) (c : Int) (a : Int × Int), IsF a → AllF l → Vb c a → (∀ f ∈ l, Vb C f) → Vb (c + C * l.length) (l.foldl fadd a)
  | [], c, a, _, _, h, _ => by simpa using h
  | f :: l, c, a, ha, h, hk, hb => by
    have := vb_fold l (c + C) (fadd a f) (fadd_f ha h.hd) h.tl (vb_add ha h.hd hk (hb f List.mem_cons_self)) (fun g hg => hb g (List.mem_cons_of_mem _ hg))
    rw [List.length_cons]
    have e : c + C + C * (l.length : Int) = c + C * ((l.length + 1 : Nat) : Int) := by
      rw [Int.natCast_add, Int.mul_add]
      omega
    rw [← e]
    exact this
/-- a weight -/
structure Wt (f : Int × Int) : Prop where
  lo : IsF f
  po : 0 < f.1
  bt : Bt 41 f
theorem Wt.vb {f : Int × Int} (h : Wt f) : Vb (2 ^ 41) f := by
  unfold Vb
  have h1 := h.bt.1
  have h2 : 0 < f.2 := h.lo.1
  have h3 : f.1 < 2 ^ 41 := by
    have := h.po
    omega
  have : (2 : Int) ^ 41 * 1 ≤ 2 ^ 41 * f.2 := Int.mul_le_mul_of_nonneg_left (by omega) (by decide)
  omega
/-- weights -/
structure Wts (fs : List (Int × Int)) : Prop where
  all : ∀ f ∈ fs, Wt f
  one : 1 ≤ fs.length
  few : fs.length ≤ 12
theorem Wts.f {fs : List (Int × Int)} (h : Wts fs) : AllF fs := fun f hf => (h.all f hf).lo
theorem Wts.b {fs : List (Int × Int)} (h : Wts fs) : AllB 41 fs := fun f hf => (h.all f hf).bt
def tot (fs : List (Int × Int)) : Int × Int := fs.foldl fadd f0
theorem tot_f {fs : List (Int × Int)} (h : AllF fs) : IsF (tot fs) := (sum_fold fs f0 f0_f h).1
theorem tot_bt {fs : List (Int × Int)} (h : Wts fs) : Bt 505 (tot fs) := by
  have := add_bt (b := 41) fs 1 f0 f0_f h.f bt01.1 h.b
  refine this.mono ?_
  have := h.few
  omega
theorem fold_pos : ∀ (l : List (Int × Int)) (a : Int × Int), IsF a → AllF l → (∀ f ∈ l, 0 < f.1) → 0 ≤ a.1 → (l ≠ [] ∨ 0 < a.1) → 0 < (l.foldl fadd a).1
  | [], a, _, _, _, _, h => h.elim (fun z => absurd rfl z) id
  | f :: l, a, ha, hF, hp, h0, _ => by
    have h2 : 0 < a.2 := ha.1
    have k2 : 0 < f.2 := hF.hd.1
    have hpos : 0 < (fadd a f).1 := by
      refine low_top_pos (Int.mul_pos h2 k2) ?_
      have a1 := Int.mul_nonneg h0 (Int.le_of_lt k2)
      have a2 := Int.mul_pos (hp f List.mem_cons_self) h2
      omega
    exact fold_pos l (fadd a f) (fadd_f ha hF.hd) hF.tl (fun g hg => hp g (List.mem_cons_of_mem _ hg)) (Int.le_of_lt hpos) (.inr hpos)
theorem tot_pos {fs : List (Int × Int)} (h : Wts fs) : 0 < (tot fs).1 := by
  refine fold_pos fs f0 f0_f h.f (fun f hf => (h.all f hf).po) (by decide) (.inl fun z => ?_)
  have := h.one
  rw [z] at this
  cases this
theorem tot_vb {fs : List (Int × Int)} (h : Wts fs) : Vb (2 ^ 45) (tot fs) := by
  have v := vb_fold (C := 2 ^ 41) fs 0 f0 f0_f h.f (by unfold Vb; decide) (fun f hf => (h.all f hf).vb)
  unfold Vb at v ⊢
  have hb : 0 < (tot fs).2 := (tot_f h.f).1
  have h12 : (0 : Int) + 2 ^ 41 * (fs.length : Int) ≤ 2 ^ 45 := by
    have := h.few
    omega
  have := Int.mul_le_mul_of_nonneg_right h12 (Int.le_of_lt hb)
  show (tot fs).1 ≤ _
  have v' : (tot fs).1 ≤ (0 + 2 ^ 41 * (fs.length : Int)) * (tot fs).2 := v
  omega
/-- how often the step goes into the weights -/
def many (fs : List (Int × Int)) (st : Int × Int) : Int := ((tot fs).1 * st.2).fdiv ((tot fs).2 * st.1)
theorem many_nn {fs : List (Int × Int)} {st : Int × Int} (h : Wts fs) (hs : Wt st) : 0 ≤ many fs st := by
  have hb : 0 < (tot fs).2 := (tot_f h.f).1
  have hd := Int.mul_pos hb hs.po
  unfold many
  rw [fdiv_pos_eq hd]
  exact Int.ediv_nonneg (Int.mul_nonneg (Int.le_of_lt (tot_pos h)) (Int.le_of_lt hs.lo.1)) (Int.le_of_lt hd)
theorem many_lt {fs : List (Int × Int)} {st : Int × Int} (h : Wts fs) (hs : Wt st) : (many fs st).natAbs < 2 ^ 90 := by
  have hb : 0 < (tot fs).2 := (tot_f h.f).1
  have hd := Int.mul_pos hb hs.po
  have h0 := many_nn h hs
  have hv : (tot fs).1 ≤ 2 ^ 45 * (tot fs).2 := tot_vb h
  have s2 : 0 < st.2 := hs.lo.1
  have s1 := hs.po
  have key : many fs st ≤ 2 ^ 45 * st.2 := by
    unfold many
    rw [fdiv_pos_eq hd]
    refine Int.ediv_le_of_le_mul hd ?_
    have a := Int.mul_le_mul_of_nonneg_right hv (Int.le_of_lt s2)
    have b : 2 ^ 45 * (tot fs).2 * st.2 * 1 ≤ 2 ^ 45 * (tot fs).2 * st.2 * st.1 := Int.mul_le_mul_of_nonneg_left (by omega) (Int.mul_nonneg (Int.mul_nonneg (by decide) (Int.le_of_lt hb)) (Int.le_of_lt s2))
    have e : 2 ^ 45 * (tot fs).2 * st.2 * st.1 = 2 ^ 45 * st.2 * ((tot fs).2 * st.1) := by grind
    omega
  have hb2 := hs.bt.2
  omega
theorem many_is {fs : List (Int × Int)} {st : Int × Int} (h : Wts fs) (hs : Wt st) : (fdiv (tot fs) st).1.fdiv (fdiv (tot fs) st).2 = many fs st := low_fl (Int.mul_pos (tot_f h.f).1 hs.po)
/-- all weights by how many steps -/
def factor (fs : List (Int × Int)) (st : Int × Int) : Int × Int := fdiv (many fs st, 1) (tot fs)
theorem m1_f (m : Int) : IsF (m, 1) := ⟨by show (0 : Int) < 1; decide, by show Nat.Coprime m.natAbs 1; exact Nat.coprime_one_right _⟩
theorem factor_f {fs : List (Int × Int)} {st : Int × Int} (h : Wts fs) : IsF (factor fs st) := fdiv_f (m1_f _) (by have := tot_pos h; omega)
theorem many_bt {fs : List (Int × Int)} {st : Int × Int} (h : Wts fs) (hs : Wt st) : Bt 90 (many fs st, 1) := ⟨many_lt h hs, by show (1 : Int).natAbs < 2 ^ 90; decide⟩
theorem factor_bt {fs : List (Int × Int)} {st : Int × Int} (h : Wts fs) (hs : Wt st) : Bt 595 (factor fs st) := fdiv_bt (m1_f _) (by have := tot_pos h; omega) (many_bt h hs) (tot_bt h)
def aim (fs : List (Int × Int)) (st f : Int × Int) : Int × Int := fmul f (factor fs st)
theorem aim_f {fs : List (Int × Int)} {st f : Int × Int} (h : Wts fs) (hf : Wt f) : IsF (aim fs st f) := fmul_f hf.lo (factor_f h)
theorem aim_bt {fs : List (Int × Int)} {st f : Int × Int} (h : Wts fs) (hs : Wt st) (hf : Wt f) : Bt 636 (aim fs st f) := fmul_bt hf.lo (factor_f h) hf.bt (factor_bt h hs)
/-- the aim as the law reckons it -/
theorem aim_low {fs : List (Int × Int)} {st f : Int × Int} (h : Wts fs) (hf : Wt f) : aim fs st f = low (f.1 * (tot fs).2 * many fs st) (f.2 * (tot fs).1) := by
  have t1 : (tot fs).1 ≠ 0 := by have := tot_pos h; omega
  have hd : f.2 * (tot fs).1 ≠ 0 := Int.mul_ne_zero hf.lo.ne t1
  refine rv_inj (aim_f h hf) (low_f hd) ?_
  have e : rv (aim fs st f) = rv f * rv (factor fs st) := rv_mul hf.lo (factor_f (st := st) h)
  have e2 : rv (factor fs st) = rv (many fs st, 1) * (rv (tot fs))⁻¹ := rv_div (m1_f _) t1
  rw [e, e2, rv_low hd]
  unfold rv
  rw [Rat.inv_divInt, Rat.divInt_mul_divInt, Rat.divInt_mul_divInt]
  congr 1 <;> grind
end Lf

set_option Elab.async false
set_option linter.all false
/-! Heaps without what stands at a place, and what is new in a heap. -/
namespace Lf
open PySem PySem.Spec PyProof.Rows L2
def wo (q : Addr) (H : Hp) : Hp := fun b => if b = q then none else H b
theorem wo_at {q p : Addr} {H : Hp} {o : HO} (n : p ≠ q) (e : H p = some o) : wo q H p = some o := by
  unfold wo
  rw [if_neg n]
  exact e
theorem wo_le {q : Addr} {H : Hp} : Same (wo q H) H := fun b o e => by
  unfold wo at e
  split at e
  · cases e
  · exact e
theorem wo_not {q p : Addr} {H : Hp} {o : HO} (e : wo q H p = some o) : p ≠ q := fun z => by
  unfold wo at e
  rw [if_pos z] at e
  cases e
theorem wo_wo {q : Addr} {H H' : Hp} (s : Same H H') : Same (wo q H) (wo q H') := fun b o e => wo_at (wo_not e) (s _ _ (wo_le _ _ e))
theorem wo_upd {q : Addr} {H : Hp} {o : HO} : Same (wo q H) (wo q (upd H q o)) := fun b o e => wo_at (wo_not e) (by rw [upd_ne (wo_not e)]; exact wo_le _ _ e)
/-- what is new -/
def nw (H H' : Hp) : Hp := fun b => match H b with | none => H' b | some _ => none
theorem nw_at {H H' : Hp} {p : Addr} {o : HO} (m : H p = none) (e : H' p = some o) : nw H H' p = some o := by
  unfold nw
  rw [m]
  exact e
theorem nw_of {H H' : Hp} {p : Addr} {o : HO} (e : nw H H' p = some o) : H p = none ∧ H' p = some o := by
  unfold nw at e
  cases h : H p with
  | none =>
    rw [h] at e
    exact ⟨rfl, e⟩
  | some u =>
    rw [h] at e
    cases e
theorem upd_twice {H : Hp} {a : Addr} {o o' : HO} : upd (upd H a o) a o' = upd H a o' := by
  funext b
  by_cases h : b = a
  · rw [h, upd_same, upd_same]
  · rw [upd_ne h, upd_ne h, upd_ne h]
theorem same_none {H H' : Hp} {a : Addr} (s : Same H H') (h : H' a = none) : H a = none := by
  cases e : H a with
  | none => rfl
  | some o =>
    rw [s _ _ e] at h
    cases h
end Lf

set_option Elab.async false
set_option linter.all false
set_option maxRecDepth 100000
set_option maxHeartbeats 4000000
set_option exponentiation.threshold 3000
namespace Lf
open PySem PySem.Spec PyProof.Rows L2
theorem bt_list : bootBuiltins "list" = some (.type "list") := by decide +kernel
/-- a statement that is never come to -/
theorem ps_dead {X : Cx} {st : Stmt} : PS X st (fun _ _ _ => False) := ⟨fun _ _ _ _ _ _ h => h.elim⟩
section
variable {P : Program} {w : World} {K : PySem.W.Frag} {mg : Str → Option Value} {base : Heap}
theorem isfr_t {f : Int × Int} (h : IsF f) : isFr (tD f) = true := by
  show (decide (0 < f.2) && decide (Nat.gcd f.1.natAbs f.2.natAbs = 1)) = true
  rw [decide_eq_true h.1, decide_eq_true h.2]
  rfl
theorem AtK.dq {H : Hp} {v : V} {f : Int × Int} (h : AtK K H v f) : Dq K H v (tD f) := by
  obtain ⟨p, rfl, hp⟩ := h
  exact .dp (dp2 hp) (by rfl)
/-- a row of fractions: a list or a tuple -/
def Sqx (T : Bool) (K : PySem.W.Frag) (H : Hp) (a : Addr) (xs : List V) : Prop := if T then SqT K H a xs else SqL K H a xs

/-! ### is_above_0 -/
theorem sc_is_above_0 : FnScope ["thing"] ["thing"] (defScope s_is_above_0) := ⟨rfl, rfl, rfl, by decide +kernel, rfl, by decide +kernel, by decide +kernel⟩
def sp_ab0 (K : PySem.W.Frag) : Sp := fun vs H Q _ => ∃ (v : V) (f : Int × Int), vs = [v] ∧ AtK K H v f ∧ IsF f ∧ Q (.bl (decide (0 < f.1))) H
theorem ok_ab0 {f : Addr} {fd : FuncData} (F : Fun K "is_above_0" "is_above_0" s_is_above_0 f fd) (C_is_fraction : Cal P w K mg base CX0 2 "is_fraction" ["thing"] (sp_isfr K)) : FnG P w K mg base CX0 3 f fd ["thing"] (sp_ab0 K) := by
  refine Gfun F sc_is_above_0 (fun vs H Q E h => ?_) (fun cdv A outer s H vs Q E hg hr h => ?_)
  · obtain ⟨v, d, rfl, _⟩ := h
    rfl
  · obtain ⟨v, d, rfl, hv, hf, k⟩ := h
    refine ⟨_, (pss_one (ps_ret (pe_and (pe_g C_is_fraction (hr.mono (by decide)) hg (pa_cons (pv 0) pa_nil)) (pe_one (pe_cmpR op_gt (pe_ix ix_tup (pv 0) pe_int (fun _ _ => rfl)) pe_int (nomark _)))))), ?_⟩
    refine ⟨_, rfl, v, tD d, rfl, hv.dq, ?_⟩
    rw [isfr_t hf]
    refine ⟨_, rfl, iteT ?_⟩
    obtain ⟨p, rfl, hp⟩ := hv
    exact ⟨_, rfl, p, _, _, _, rfl, rfl, hp, atI_nat (j := 0) rfl, _, _, rfl, rfl, k⟩

/-! ### are_weights -/
theorem sc_are_weights : FnScope ["thing", "one"] ["thing"] (defScope s_are_weights) := ⟨rfl, rfl, rfl, by decide +kernel, rfl, by decide +kernel, by decide +kernel⟩
def sp_arewL (K : PySem.W.Frag) : Sp := fun vs H Q _ => ∃ (a : Addr) (xs : List V) (fs : List (Int × Int)), vs = [.ref a] ∧ SqL K H a xs ∧ AtKs K H xs fs ∧ Wts fs ∧ ∀ H', Same H H' → Q (.bl true) H'
theorem ok_arewL {f : Addr} {fd : FuncData} {tk : Tok} (M : Blt mg) (Mx : Bltx mg) (ml : mg "list" = none) (G_MOST : mg "MOST_WEIGHTS" = some (.int 12 tk)) (F : Fun K "are_weights" "are_weights" s_are_weights f fd) (C_is_above_0 : Cal P w K mg base CX0 3 "is_above_0" ["thing"] (sp_ab0 K)) : FnG P w K mg base CX0 4 f fd ["thing"] (sp_arewL K) := by
  refine Gfun F sc_are_weights (fun vs H Q E h => ?_) (fun cdv A outer s H vs Q E hg hr h => ?_)
  · obtain ⟨a, xs, fs, rfl, _⟩ := h
    rfl
  · obtain ⟨a, xs, fs, rfl, hS, hA, hW, k⟩ := h
    refine ⟨_, (pss_cons (ps_if (PW.pt (pw_or (pt_not (pt_val (pe_callB call_isiT rfl Mx.isinstance bt_isinstance (pa_cons (pv 0) (pa_cons (pe_tup (pa_cons (pe_bltn (v := .ty "list") rfl ml bt_list rfl) (pa_cons (pe_bltn (v := .ty "tuple") rfl Mx.tuple bt_tuple rfl) pa_nil))) pa_nil))))) (pw_or1 (pt_not (pt_chain op_le op_le pe_int (pe_callB call_len_seq rfl M.len bt_len (pa_cons (pv 0) pa_nil)) (pe_glob (v := .int 12) rfl G_MOST ⟨_, rfl⟩))))))
      (pss_one (ps_ret pe_bl))
      pss_nil)
      (pss_one (ps_ret (pe_callB (cr_all rfl) rfl M.all bt_all (pa_cons (pe_lc (own := [("one", 1)]) (g := gName 1) (tt := tYes) rfl sc_are_weights.nd (pi_list (pv 0)) (blkOk_by (N := ["thing", "one"]) (sc := defScope s_are_weights) (by decide +kernel)) (fun _ _ _ _ _ => pg_name (i := 1) sc_are_weights.nd rfl (Or.inl rfl)) (fun _ _ _ _ _ => pts_nil) (fun _ _ _ _ _ => (pe_g C_is_above_0 (hr.mono (by decide)) hg (pa_cons (pv 1) pa_nil)))) pa_nil))))), ?_⟩
    refine ⟨_, rfl, len_show (Nat.le_of_ble_eq_true rfl), fun tp nt => ?_⟩
    have s1 : Same H (upd H tp (.tup [.ty "list", .ty "tuple"])) := same_new nt
    have ty : TyX K (upd H tp (.tup [.ty "list", .ty "tuple"])) (.ref a) (.type "list") := by
      rcases hS with (h | ⟨o, h⟩) | ⟨o, arr, n, hk, hc, _⟩
      · exact .base (.lst (same_new nt _ _ h))
      · exact .base (.frz (same_new nt _ _ h))
      · exact .kList hk hc
    refine ⟨_, tp, _, _, _, true, rfl, upd_same, .cons (.ty "list") (.cons (.ty "tuple") .nil), ty, kitAny_cons (kit_ty (show kitB "list" "list" = some true by decide +kernel)) (fun z => nomatch z) (fun _ => rfl), _, rfl, ?_⟩
    generalize upd H tp (.tup [.ty "list", .ty "tuple"]) = H1 at s1 ⊢
    refine iteF ?_
    have hl := hA.length
    have h1 := hW.one
    have h12 := hW.few
    refine ⟨_, rfl, a, xs, rfl, .inl (sm_l s1 hS), _, _, rfl, rfl, _, rfl, ?_⟩
    rw [decide_eq_true (show (1 : Int) ≤ (xs.length : Int) by omega)]
    refine iteT ⟨_, _, rfl, rfl, _, rfl, ?_⟩
    rw [decide_eq_true (show (xs.length : Int) ≤ 12 by omega)]
    refine iteF ?_
    refine ⟨_, rfl, a, rfl, ⟨_, sm_l s1 hS⟩, fun D hD => lc_list (xs := xs) (fun i H' => H' D = some (.lst (List.replicate i (.bl true))) ∧ Same H1 H') ⟨upd_same, same_new hD⟩ (fun i H' _ h => sm_l (s1.trans h.2) hS) ?_ ?_⟩
    · rintro i x H2 hx ⟨eD, sm⟩
      obtain ⟨g, hgi, hg0⟩ := hA.get hx
      have hw := hW.all g (List.mem_of_getElem? hgi)
      have hi : i < xs.length := (List.getElem?_eq_some_iff.mp hx).1
      refine ⟨rfl, _, rfl, x, g, rfl, hg0.same (s1.trans sm), hw.lo, ?_⟩
      rw [decide_eq_true hw.po]
      refine ⟨_, eD, ?_, ?_, fun b o e => ?_⟩
      · rw [List.length_replicate, sizeLine_eq]
        omega
      · rw [upd_same, List.replicate_succ']
      · rw [upd_ne (ne_of_none e hD)]
        exact sm _ _ e
    · rintro H2 ⟨eD, sm⟩
      refine ⟨D, List.replicate xs.length true, rfl, .inl (.inl ?_), ?_⟩
      · rw [eD, List.map_replicate]
      · have ha : (List.replicate xs.length true).all id = true := by
          rw [List.all_eq_true]
          intro b hb
          rw [(List.mem_replicate.mp hb).2]
          rfl
        rw [ha]
        exact k _ (s1.trans sm)

def sp_arewT (K : PySem.W.Frag) : Sp := fun vs H Q _ => ∃ (a : Addr) (xs : List V) (fs : List (Int × Int)), vs = [.ref a] ∧ SqT K H a xs ∧ AtKs K H xs fs ∧ Wts fs ∧ ∀ H', Same H H' → Q (.bl true) H'
theorem ok_arewT {f : Addr} {fd : FuncData} {tk : Tok} (M : Blt mg) (Mx : Bltx mg) (ml : mg "list" = none) (G_MOST : mg "MOST_WEIGHTS" = some (.int 12 tk)) (F : Fun K "are_weights" "are_weights" s_are_weights f fd) (C_is_above_0 : Cal P w K mg base CX0 3 "is_above_0" ["thing"] (sp_ab0 K)) : FnG P w K mg base CX0 4 f fd ["thing"] (sp_arewT K) := by
  refine Gfun F sc_are_weights (fun vs H Q E h => ?_) (fun cdv A outer s H vs Q E hg hr h => ?_)
  · obtain ⟨a, xs, fs, rfl, _⟩ := h
    rfl
  · obtain ⟨a, xs, fs, rfl, hS, hA, hW, k⟩ := h
    refine ⟨_, (pss_cons (ps_if (PW.pt (pw_or (pt_not (pt_val (pe_callB call_isiT rfl Mx.isinstance bt_isinstance (pa_cons (pv 0) (pa_cons (pe_tup (pa_cons (pe_bltn (v := .ty "list") rfl ml bt_list rfl) (pa_cons (pe_bltn (v := .ty "tuple") rfl Mx.tuple bt_tuple rfl) pa_nil))) pa_nil))))) (pw_or1 (pt_not (pt_chain op_le op_le pe_int (pe_callB call_len_seq rfl M.len bt_len (pa_cons (pv 0) pa_nil)) (pe_glob (v := .int 12) rfl G_MOST ⟨_, rfl⟩))))))
      (pss_one (ps_ret pe_bl))
      pss_nil)
      (pss_one (ps_ret (pe_callB (cr_all rfl) rfl M.all bt_all (pa_cons (pe_lc (own := [("one", 1)]) (g := gName 1) (tt := tYes) rfl sc_are_weights.nd (pi_tup (pv 0)) (blkOk_by (N := ["thing", "one"]) (sc := defScope s_are_weights) (by decide +kernel)) (fun _ _ _ _ _ => pg_name (i := 1) sc_are_weights.nd rfl (Or.inl rfl)) (fun _ _ _ _ _ => pts_nil) (fun _ _ _ _ _ => (pe_g C_is_above_0 (hr.mono (by decide)) hg (pa_cons (pv 1) pa_nil)))) pa_nil))))), ?_⟩
    refine ⟨_, rfl, len_show (Nat.le_of_ble_eq_true rfl), fun tp nt => ?_⟩
    have s1 : Same H (upd H tp (.tup [.ty "list", .ty "tuple"])) := same_new nt
    have ty : TyX K (upd H tp (.tup [.ty "list", .ty "tuple"])) (.ref a) (.type "tuple") := by
      rcases hS with (h | ⟨o, h⟩) | ⟨o, arr, n, hk, hc, _⟩
      · exact .base (.tup (same_new nt _ _ h))
      · exact .fTuple (same_new nt _ _ h)
      · exact .kTuple hk hc
    refine ⟨_, tp, _, _, _, true, rfl, upd_same, .cons (.ty "list") (.cons (.ty "tuple") .nil), ty, kitAny_cons (kit_ty (show kitB "tuple" "list" = some false by decide +kernel)) (fun _ => kitAny_cons (kit_ty (show kitB "tuple" "tuple" = some true by decide +kernel)) (fun z => nomatch z) (fun _ => rfl)) (fun z => nomatch z), _, rfl, ?_⟩
    generalize upd H tp (.tup [.ty "list", .ty "tuple"]) = H1 at s1 ⊢
    refine iteF ?_
    have hl := hA.length
    have h1 := hW.one
    have h12 := hW.few
    refine ⟨_, rfl, a, xs, rfl, .inr (sm_t s1 hS), _, _, rfl, rfl, _, rfl, ?_⟩
    rw [decide_eq_true (show (1 : Int) ≤ (xs.length : Int) by omega)]
    refine iteT ⟨_, _, rfl, rfl, _, rfl, ?_⟩
    rw [decide_eq_true (show (xs.length : Int) ≤ 12 by omega)]
    refine iteF ?_
    refine ⟨_, rfl, a, rfl, ⟨_, sm_t s1 hS⟩, fun D hD => lc_tup (xs := xs) (fun i H' => H' D = some (.lst (List.replicate i (.bl true))) ∧ Same H1 H') ⟨upd_same, same_new hD⟩ (fun i H' _ h => sm_t (s1.trans h.2) hS) ?_ ?_⟩
    · rintro i x H2 hx ⟨eD, sm⟩
      obtain ⟨g, hgi, hg0⟩ := hA.get hx
      have hw := hW.all g (List.mem_of_getElem? hgi)
      have hi : i < xs.length := (List.getElem?_eq_some_iff.mp hx).1
      refine ⟨rfl, _, rfl, x, g, rfl, hg0.same (s1.trans sm), hw.lo, ?_⟩
      rw [decide_eq_true hw.po]
      refine ⟨_, eD, ?_, ?_, fun b o e => ?_⟩
      · rw [List.length_replicate, sizeLine_eq]
        omega
      · rw [upd_same, List.replicate_succ']
      · rw [upd_ne (ne_of_none e hD)]
        exact sm _ _ e
    · rintro H2 ⟨eD, sm⟩
      refine ⟨D, List.replicate xs.length true, rfl, .inl (.inl ?_), ?_⟩
      · rw [eD, List.map_replicate]
      · have ha : (List.replicate xs.length true).all id = true := by
          rw [List.all_eq_true]
          intro b hb
          rw [(List.mem_replicate.mp hb).2]
          rfl
        rw [ha]
        exact k _ (s1.trans sm)

/-! ### floor_of -/
theorem sc_floor_of : FnScope ["one"] ["one"] (defScope s_floor_of) := ⟨rfl, rfl, rfl, by decide +kernel, rfl, by decide +kernel, by decide +kernel⟩
def sp_floor (K : PySem.W.Frag) : Sp := fun vs H Q _ => ∃ (v : V) (f : Int × Int), vs = [v] ∧ AtK K H v f ∧ f.2 ≠ 0 ∧ Mid f.2 ∧ Q (.int (f.1.fdiv f.2)) H
theorem ok_floor {f : Addr} {fd : FuncData} (F : Fun K "floor_of" "floor_of" s_floor_of f fd) : FnG P w K mg base CX0 1 f fd ["one"] (sp_floor K) := by
  refine Gfun F sc_floor_of (fun vs H Q E h => ?_) (fun cdv A outer s H vs Q E hg hr h => ?_)
  · obtain ⟨v, d, rfl, _⟩ := h
    rfl
  · obtain ⟨v, d, rfl, hv, h0, hm, k⟩ := h
    refine ⟨_, (pss_one (ps_ret (pe_op op_fdivN (pe_ix ix_tup (pv 0) pe_int (fun _ _ => rfl)) (pe_ix ix_tup (pv 0) pe_int (fun _ _ => rfl))))), ?_⟩
    obtain ⟨p, rfl, hp⟩ := hv
    exact ⟨_, rfl, p, _, _, _, rfl, rfl, hp, atI_nat (j := 0) rfl, _, rfl, p, _, _, _, rfl, rfl, hp, atI_nat (j := 1) rfl, _, _, rfl, rfl, ⟨h0, hm.log⟩, k⟩

/-! ### many_steps -/
theorem sc_many_steps : FnScope ["weights", "step", "many"] ["weights", "step"] (defScope s_many_steps) := ⟨rfl, rfl, rfl, by decide +kernel, rfl, by decide +kernel, by decide +kernel⟩
/-- how often the step goes in; C: the class of too little -/
def sp_manyL (K : PySem.W.Frag) (C : Addr) : Sp := fun vs H Q E => ∃ (a : Addr) (v : V) (xs : List V) (fs : List (Int × Int)) (st : Int × Int), vs = [.ref a, v] ∧ SqL K H a xs ∧ AtKs K H xs fs ∧ Wts fs ∧ AtK K H v st ∧ Wt st ∧
  ∀ H', Same H H' → (many fs st ≠ 0 → Q (.int (many fs st)) H') ∧ (many fs st = 0 → E (.ref C) none H')
theorem ok_manyL {f C : Addr} {fd : FuncData} (X : ExT K mg "TooLittle" C) (F : Fun K "many_steps" "many_steps" s_many_steps f fd) (C_are_weights : Cal P w K mg base CX0 4 "are_weights" ["thing"] (sp_arewL K)) (C_is_above_0 : Cal P w K mg base CX0 3 "is_above_0" ["thing"] (sp_ab0 K)) (C_together : Cal P w K mg base CX0 6 "together" ["ones"] (sp_togL K))
    (C_over : Cal P w K mg base CX0 5 "over" ["one", "other"] (sp_over K)) (C_floor_of : Cal P w K mg base CX0 1 "floor_of" ["one"] (sp_floor K)) : FnG P w K mg base (L2.CX P w) 7 f fd ["weights", "step"] (sp_manyL K C) := by
  refine GfunX F sc_many_steps (fun vs H Q E h => ?_) (fun cdv A outer s H vs Q E hg hr h => ?_)
  · obtain ⟨a, v, xs, fs, st, rfl, _⟩ := h
    rfl
  · obtain ⟨a, v, xs, fs, st, rfl, hS, hA, hW, hv, hs, k⟩ := h
    refine ⟨_, (pss_cons (ps_if (pt_not (pt_val (pe_g C_are_weights (hr.mono (by decide)) hg (pa_cons (pv 0) pa_nil))))
      (pss_one ps_dead)
      pss_nil)
      (pss_cons (ps_if (pt_not (pt_val (pe_g C_is_above_0 (hr.mono (by decide)) hg (pa_cons (pv 1) pa_nil))))
      (pss_one ps_dead)
      pss_nil)
      (pss_cons (ps_set (i := 2) sc_many_steps.nd rfl (.inl rfl) (pe_g C_floor_of (hr.mono (by decide)) hg (pa_cons (pe_g C_over (hr.mono (by decide)) hg (pa_cons (pe_g C_together (hr.mono (by decide)) hg (pa_cons (pv 0) pa_nil)) (pa_cons (pv 1) pa_nil))) pa_nil)))
      (pss_cons (ps_if (pt_cmpR op_eq (pv 2) pe_int (nomark _))
      (pss_one (ps_raise rfl (takes_of rfl rfl rfl rfl) (pmk_own PySem.F.excBase_ValueError X.x X.g X.k (raises_own X.b X.t) rfl)))
      pss_nil)
      (pss_one (ps_ret (pv 2))))))), ?_⟩
    refine ⟨_, rfl, a, xs, fs, rfl, hS, hA, hW, fun H1 s1 => ⟨_, rfl, iteF ?_⟩⟩
    refine ⟨_, rfl, v, st, rfl, hv.same s1, hs.lo, _, rfl, ?_⟩
    rw [decide_eq_true hs.po]
    refine iteF ?_
    refine ⟨_, rfl, a, xs, fs, 41, rfl, sm_l s1 hS, hA.same s1, hW.f, hW.b, by decide, ?_, fun H2 u s2 hu => ?_⟩
    · have := hW.few
      omega
    have hu' : AtK K H2 u (tot fs) := hu
    refine ⟨_, rfl, _, _, _, _, pr_atk hu' ((hv.same s1).same s2) (tot_f hW.f) hs.lo (tot_bt hW) hs.bt (by decide) (by decide), ?_, fun H3 p3 s3 e3 => ?_⟩
    · have := hs.po
      omega
    have hfd : IsF (fdiv (tot fs) st) := fdiv_f (tot_f hW.f) (by have := hs.po; omega)
    have hbd : Bt 546 (fdiv (tot fs) st) := fdiv_bt (tot_f hW.f) (by have := hs.po; omega) (tot_bt hW) hs.bt
    refine ⟨.ref p3, fdiv (tot fs) st, rfl, AtK.of e3, hfd.ne, Sm.mid (hbd.sm (by decide)).2, ?_⟩
    rw [many_is hW hs]
    have k3 := k H3 ((s1.trans s2).trans s3)
    refine ⟨_, rfl, rfl, _, rfl, ite2 (fun e => ?_) (fun e => ?_)⟩
    · exact k3.2 (V.int.inj (of_decide_eq_true e))
    · exact ⟨_, rfl, k3.1 fun z => e (by rw [z]; decide)⟩

/-- how often the step goes in; C: the class of too little -/
def sp_manyT (K : PySem.W.Frag) (C : Addr) : Sp := fun vs H Q E => ∃ (a : Addr) (v : V) (xs : List V) (fs : List (Int × Int)) (st : Int × Int), vs = [.ref a, v] ∧ SqT K H a xs ∧ AtKs K H xs fs ∧ Wts fs ∧ AtK K H v st ∧ Wt st ∧
  ∀ H', Same H H' → (many fs st ≠ 0 → Q (.int (many fs st)) H') ∧ (many fs st = 0 → E (.ref C) none H')
theorem ok_manyT {f C : Addr} {fd : FuncData} (X : ExT K mg "TooLittle" C) (F : Fun K "many_steps" "many_steps" s_many_steps f fd) (C_are_weights : Cal P w K mg base CX0 4 "are_weights" ["thing"] (sp_arewT K)) (C_is_above_0 : Cal P w K mg base CX0 3 "is_above_0" ["thing"] (sp_ab0 K)) (C_together : Cal P w K mg base CX0 6 "together" ["ones"] (sp_togT K))
    (C_over : Cal P w K mg base CX0 5 "over" ["one", "other"] (sp_over K)) (C_floor_of : Cal P w K mg base CX0 1 "floor_of" ["one"] (sp_floor K)) : FnG P w K mg base (L2.CX P w) 7 f fd ["weights", "step"] (sp_manyT K C) := by
  refine GfunX F sc_many_steps (fun vs H Q E h => ?_) (fun cdv A outer s H vs Q E hg hr h => ?_)
  · obtain ⟨a, v, xs, fs, st, rfl, _⟩ := h
    rfl
  · obtain ⟨a, v, xs, fs, st, rfl, hS, hA, hW, hv, hs, k⟩ := h
    refine ⟨_, (pss_cons (ps_if (pt_not (pt_val (pe_g C_are_weights (hr.mono (by decide)) hg (pa_cons (pv 0) pa_nil))))
      (pss_one ps_dead)
      pss_nil)
      (pss_cons (ps_if (pt_not (pt_val (pe_g C_is_above_0 (hr.mono (by decide)) hg (pa_cons (pv 1) pa_nil))))
      (pss_one ps_dead)
      pss_nil)
      (pss_cons (ps_set (i := 2) sc_many_steps.nd rfl (.inl rfl) (pe_g C_floor_of (hr.mono (by decide)) hg (pa_cons (pe_g C_over (hr.mono (by decide)) hg (pa_cons (pe_g C_together (hr.mono (by decide)) hg (pa_cons (pv 0) pa_nil)) (pa_cons (pv 1) pa_nil))) pa_nil)))
      (pss_cons (ps_if (pt_cmpR op_eq (pv 2) pe_int (nomark _))
      (pss_one (ps_raise rfl (takes_of rfl rfl rfl rfl) (pmk_own PySem.F.excBase_ValueError X.x X.g X.k (raises_own X.b X.t) rfl)))
      pss_nil)
      (pss_one (ps_ret (pv 2))))))), ?_⟩
    refine ⟨_, rfl, a, xs, fs, rfl, hS, hA, hW, fun H1 s1 => ⟨_, rfl, iteF ?_⟩⟩
    refine ⟨_, rfl, v, st, rfl, hv.same s1, hs.lo, _, rfl, ?_⟩
    rw [decide_eq_true hs.po]
    refine iteF ?_
    refine ⟨_, rfl, a, xs, fs, 41, rfl, sm_t s1 hS, hA.same s1, hW.f, hW.b, by decide, ?_, fun H2 u s2 hu => ?_⟩
    · have := hW.few
      omega
    have hu' : AtK K H2 u (tot fs) := hu
    refine ⟨_, rfl, _, _, _, _, pr_atk hu' ((hv.same s1).same s2) (tot_f hW.f) hs.lo (tot_bt hW) hs.bt (by decide) (by decide), ?_, fun H3 p3 s3 e3 => ?_⟩
    · have := hs.po
      omega
    have hfd : IsF (fdiv (tot fs) st) := fdiv_f (tot_f hW.f) (by have := hs.po; omega)
    have hbd : Bt 546 (fdiv (tot fs) st) := fdiv_bt (tot_f hW.f) (by have := hs.po; omega) (tot_bt hW) hs.bt
    refine ⟨.ref p3, fdiv (tot fs) st, rfl, AtK.of e3, hfd.ne, Sm.mid (hbd.sm (by decide)).2, ?_⟩
    rw [many_is hW hs]
    have k3 := k H3 ((s1.trans s2).trans s3)
    refine ⟨_, rfl, rfl, _, rfl, ite2 (fun e => ?_) (fun e => ?_)⟩
    · exact k3.2 (V.int.inj (of_decide_eq_true e))
    · exact ⟨_, rfl, k3.1 fun z => e (by rw [z]; decide)⟩

/-! ### aims -/
theorem sc_aims : FnScope ["weights", "step", "factor", "weight"] ["weights", "step"] (defScope s_aims) := ⟨rfl, rfl, rfl, by decide +kernel, rfl, by decide +kernel, by decide +kernel⟩
/-- the aims, a new list -/
def sp_aimsL (K : PySem.W.Frag) (C : Addr) : Sp := fun vs H Q E => ∃ (a : Addr) (v : V) (xs : List V) (fs : List (Int × Int)) (st : Int × Int), vs = [.ref a, v] ∧ SqL K H a xs ∧ AtKs K H xs fs ∧ Wts fs ∧ AtK K H v st ∧ Wt st ∧
  (many fs st ≠ 0 → ∀ H' D ys, Same H H' → H D = none → H' D = some (.lst ys) → AtKs K (wo D H') ys (fs.map (aim fs st)) → Q (.ref D) H') ∧ (many fs st = 0 → ∀ H', Same H H' → E (.ref C) none H')
theorem ok_aimsL {f C : Addr} {fd : FuncData} (F : Fun K "aims" "aims" s_aims f fd) (C_many_steps : Cal P w K mg base (L2.CX P w) 7 "many_steps" ["weights", "step"] (sp_manyL K C)) (C_together : Cal P w K mg base CX0 6 "together" ["ones"] (sp_togL K))
    (C_over : Cal P w K mg base CX0 5 "over" ["one", "other"] (sp_over K)) (C_times : Cal P w K mg base CX0 5 "times" ["one", "other"] (sp_times K)) : FnG P w K mg base (L2.CX P w) 8 f fd ["weights", "step"] (sp_aimsL K C) := by
  refine GfunX F sc_aims (fun vs H Q E h => ?_) (fun cdv A outer s H vs Q E hg hr h => ?_)
  · obtain ⟨a, v, xs, fs, st, rfl, _⟩ := h
    rfl
  · obtain ⟨a, v, xs, fs, st, rfl, hS, hA, hW, hv, hs, k1, k2⟩ := h
    refine ⟨_, (pss_cons (ps_set (i := 2) sc_aims.nd rfl (.inr rfl) (pe_g C_over (hr.mono (by decide)) hg (pa_cons (pe_tup (pa_cons (pe_gS C_many_steps (hr.mono (by decide)) hg (fun σ => passAt (takes_of rfl rfl rfl rfl) σ) (pa_cons (pv 0) (pa_cons (pv 1) pa_nil))) (pa_cons pe_int pa_nil))) (pa_cons (pe_g C_together (hr.mono (by decide)) hg (pa_cons (pv 0) pa_nil)) pa_nil))))
      (pss_one (ps_ret (pe_lc (own := [("weight", 3)]) (g := gName 3) (tt := tYes) rfl sc_aims.nd (pi_list (pv 0)) (blkOk_by (N := ["weights", "step", "factor", "weight"]) (sc := defScope s_aims) (by decide +kernel)) (fun _ _ _ _ _ => pg_name (i := 3) sc_aims.nd rfl (Or.inl rfl)) (fun _ _ _ _ _ => pts_nil) (fun _ _ _ _ _ => (pe_g C_times (hr.mono (by decide)) hg (pa_cons (pv 3) (pa_cons (pv 2) pa_nil)))))))), ?_⟩
    refine ⟨_, rfl, _, rfl, a, v, xs, fs, st, rfl, hS, hA, hW, hv, hs, fun H1 s1 => ⟨fun hm => ?_, fun hm => k2 hm H1 s1⟩⟩
    refine ⟨len_show (Nat.le_of_ble_eq_true rfl), fun p2 n2 => ?_⟩
    have s2 : Same H1 (upd H1 p2 (.tup [.int (many fs st), .int 1])) := same_new n2
    have e2 : AtK K (upd H1 p2 (.tup [.int (many fs st), .int 1])) (.ref p2) (many fs st, 1) := AtK.of upd_same
    generalize upd H1 p2 (.tup [.int (many fs st), .int 1]) = H2 at s2 e2 ⊢
    have s02 := s1.trans s2
    refine ⟨_, rfl, a, xs, fs, 41, rfl, sm_l s02 hS, hA.same s02, hW.f, hW.b, by decide, ?_, fun H3 u s3 hu => ?_⟩
    · have := hW.few
      omega
    have hu' : AtK K H3 u (tot fs) := hu
    have tp := tot_pos hW
    refine ⟨_, _, _, _, pr_atk (e2.same s3) hu' (m1_f _) (tot_f hW.f) (many_bt hW hs) (tot_bt hW) (by decide) (by decide), ?_, fun H4 p4 s4 e4 => ?_⟩
    · omega
    have s04 := (s02.trans s3).trans s4
    have ef : AtK K H4 (.ref p4) (factor fs st) := AtK.of e4
    refine ⟨_, rfl, a, rfl, ⟨_, sm_l s04 hS⟩, fun D hD => lc_list (xs := xs) (fun i H' => (∃ ys, H' D = some (.lst ys) ∧ AtKs K (wo D H') ys ((fs.map (aim fs st)).take i)) ∧ Same H4 H') ⟨⟨[], upd_same, .nil⟩, same_new hD⟩ (fun i H' _ h => sm_l (s04.trans h.2) hS) ?_ ?_⟩
    · rintro i x H5 hx ⟨⟨ys, eD, hy⟩, sm⟩
      obtain ⟨g, hgi, hg0⟩ := hA.get hx
      have hw := hW.all g (List.mem_of_getElem? hgi)
      have hi : i < xs.length := (List.getElem?_eq_some_iff.mp hx).1
      have hl := hA.length
      have h12 := hW.few
      refine ⟨rfl, _, rfl, _, rfl, _, _, _, _, pr_atk (hg0.same (s04.trans sm)) (ef.same sm) hw.lo (factor_f hW) hw.bt (factor_bt hW hs) (by decide) (by decide), fun H6 p6 s6 e6 => ?_⟩
      have hyl := hy.length
      rw [List.length_take, List.length_map] at hyl
      have nD : p6 ≠ D := fun z => by
        rw [z, s6 _ _ eD] at e6
        cases e6
      refine ⟨ys, s6 _ _ eD, by rw [sizeLine_eq]; omega, ⟨ys ++ [.ref p6], upd_same, ?_⟩, fun b o e => ?_⟩
      · rw [List.take_add_one, List.getElem?_map, hgi]
        have s7 : Same (wo D H5) (wo D (upd H6 D (.lst (ys ++ [.ref p6])))) := fun b o e => wo_at (wo_not e) (by rw [upd_ne (wo_not e)]; exact s6 _ _ (wo_le _ _ e))
        refine (hy.same s7).app (.cons (AtK.of (wo_at nD ?_)) .nil)
        rw [upd_ne nD]
        exact e6
      · rw [upd_ne (ne_of_none e hD)]
        exact s6 _ _ (sm _ _ e)
    · rintro H5 ⟨⟨ys, eD, hy⟩, sm⟩
      rw [hA.length, show fs.length = (fs.map (aim fs st)).length from (List.length_map _).symm, List.take_length] at hy
      refine k1 hm H5 D ys (s04.trans sm) ?_ eD hy
      cases h : H D with
      | none => rfl
      | some o =>
        rw [s04 _ _ h] at hD
        cases hD

/-- the aims, a new list -/
def sp_aimsT (K : PySem.W.Frag) (C : Addr) : Sp := fun vs H Q E => ∃ (a : Addr) (v : V) (xs : List V) (fs : List (Int × Int)) (st : Int × Int), vs = [.ref a, v] ∧ SqT K H a xs ∧ AtKs K H xs fs ∧ Wts fs ∧ AtK K H v st ∧ Wt st ∧
  (many fs st ≠ 0 → ∀ H' D ys, Same H H' → H D = none → H' D = some (.lst ys) → AtKs K (wo D H') ys (fs.map (aim fs st)) → Q (.ref D) H') ∧ (many fs st = 0 → ∀ H', Same H H' → E (.ref C) none H')
theorem ok_aimsT {f C : Addr} {fd : FuncData} (F : Fun K "aims" "aims" s_aims f fd) (C_many_steps : Cal P w K mg base (L2.CX P w) 7 "many_steps" ["weights", "step"] (sp_manyT K C)) (C_together : Cal P w K mg base CX0 6 "together" ["ones"] (sp_togT K))
    (C_over : Cal P w K mg base CX0 5 "over" ["one", "other"] (sp_over K)) (C_times : Cal P w K mg base CX0 5 "times" ["one", "other"] (sp_times K)) : FnG P w K mg base (L2.CX P w) 8 f fd ["weights", "step"] (sp_aimsT K C) := by
  refine GfunX F sc_aims (fun vs H Q E h => ?_) (fun cdv A outer s H vs Q E hg hr h => ?_)
  · obtain ⟨a, v, xs, fs, st, rfl, _⟩ := h
    rfl
  · obtain ⟨a, v, xs, fs, st, rfl, hS, hA, hW, hv, hs, k1, k2⟩ := h
    refine ⟨_, (pss_cons (ps_set (i := 2) sc_aims.nd rfl (.inr rfl) (pe_g C_over (hr.mono (by decide)) hg (pa_cons (pe_tup (pa_cons (pe_gS C_many_steps (hr.mono (by decide)) hg (fun σ => passAt (takes_of rfl rfl rfl rfl) σ) (pa_cons (pv 0) (pa_cons (pv 1) pa_nil))) (pa_cons pe_int pa_nil))) (pa_cons (pe_g C_together (hr.mono (by decide)) hg (pa_cons (pv 0) pa_nil)) pa_nil))))
      (pss_one (ps_ret (pe_lc (own := [("weight", 3)]) (g := gName 3) (tt := tYes) rfl sc_aims.nd (pi_tup (pv 0)) (blkOk_by (N := ["weights", "step", "factor", "weight"]) (sc := defScope s_aims) (by decide +kernel)) (fun _ _ _ _ _ => pg_name (i := 3) sc_aims.nd rfl (Or.inl rfl)) (fun _ _ _ _ _ => pts_nil) (fun _ _ _ _ _ => (pe_g C_times (hr.mono (by decide)) hg (pa_cons (pv 3) (pa_cons (pv 2) pa_nil)))))))), ?_⟩
    refine ⟨_, rfl, _, rfl, a, v, xs, fs, st, rfl, hS, hA, hW, hv, hs, fun H1 s1 => ⟨fun hm => ?_, fun hm => k2 hm H1 s1⟩⟩
    refine ⟨len_show (Nat.le_of_ble_eq_true rfl), fun p2 n2 => ?_⟩
    have s2 : Same H1 (upd H1 p2 (.tup [.int (many fs st), .int 1])) := same_new n2
    have e2 : AtK K (upd H1 p2 (.tup [.int (many fs st), .int 1])) (.ref p2) (many fs st, 1) := AtK.of upd_same
    generalize upd H1 p2 (.tup [.int (many fs st), .int 1]) = H2 at s2 e2 ⊢
    have s02 := s1.trans s2
    refine ⟨_, rfl, a, xs, fs, 41, rfl, sm_t s02 hS, hA.same s02, hW.f, hW.b, by decide, ?_, fun H3 u s3 hu => ?_⟩
    · have := hW.few
      omega
    have hu' : AtK K H3 u (tot fs) := hu
    have tp := tot_pos hW
    refine ⟨_, _, _, _, pr_atk (e2.same s3) hu' (m1_f _) (tot_f hW.f) (many_bt hW hs) (tot_bt hW) (by decide) (by decide), ?_, fun H4 p4 s4 e4 => ?_⟩
    · omega
    have s04 := (s02.trans s3).trans s4
    have ef : AtK K H4 (.ref p4) (factor fs st) := AtK.of e4
    refine ⟨_, rfl, a, rfl, ⟨_, sm_t s04 hS⟩, fun D hD => lc_tup (xs := xs) (fun i H' => (∃ ys, H' D = some (.lst ys) ∧ AtKs K (wo D H') ys ((fs.map (aim fs st)).take i)) ∧ Same H4 H') ⟨⟨[], upd_same, .nil⟩, same_new hD⟩ (fun i H' _ h => sm_t (s04.trans h.2) hS) ?_ ?_⟩
    · rintro i x H5 hx ⟨⟨ys, eD, hy⟩, sm⟩
      obtain ⟨g, hgi, hg0⟩ := hA.get hx
      have hw := hW.all g (List.mem_of_getElem? hgi)
      have hi : i < xs.length := (List.getElem?_eq_some_iff.mp hx).1
      have hl := hA.length
      have h12 := hW.few
      refine ⟨rfl, _, rfl, _, rfl, _, _, _, _, pr_atk (hg0.same (s04.trans sm)) (ef.same sm) hw.lo (factor_f hW) hw.bt (factor_bt hW hs) (by decide) (by decide), fun H6 p6 s6 e6 => ?_⟩
      have hyl := hy.length
      rw [List.length_take, List.length_map] at hyl
      have nD : p6 ≠ D := fun z => by
        rw [z, s6 _ _ eD] at e6
        cases e6
      refine ⟨ys, s6 _ _ eD, by rw [sizeLine_eq]; omega, ⟨ys ++ [.ref p6], upd_same, ?_⟩, fun b o e => ?_⟩
      · rw [List.take_add_one, List.getElem?_map, hgi]
        have s7 : Same (wo D H5) (wo D (upd H6 D (.lst (ys ++ [.ref p6])))) := fun b o e => wo_at (wo_not e) (by rw [upd_ne (wo_not e)]; exact s6 _ _ (wo_le _ _ e))
        refine (hy.same s7).app (.cons (AtK.of (wo_at nD ?_)) .nil)
        rw [upd_ne nD]
        exact e6
      · rw [upd_ne (ne_of_none e hD)]
        exact s6 _ _ (sm _ _ e)
    · rintro H5 ⟨⟨ys, eD, hy⟩, sm⟩
      rw [hA.length, show fs.length = (fs.map (aim fs st)).length from (List.length_map _).symm, List.take_length] at hy
      refine k1 hm H5 D ys (s04.trans sm) ?_ eD hy
      cases h : H D with
      | none => rfl
      | some o =>
        rw [s04 _ _ h] at hD
        cases hD

end
end Lf

set_option Elab.async false
set_option linter.all false
set_option maxRecDepth 100000
set_option maxHeartbeats 4000000
set_option exponentiation.threshold 3000
/-! Floors, rests beyond them, who is counted one more, how far counts are off. -/
namespace Lf
/-- the floor of a fraction -/
def fl (f : Int × Int) : Int := f.1.fdiv f.2
theorem fl_eq {f : Int × Int} (h : IsF f) : fl f = f.1 / f.2 := fdiv_pos_eq h.1
theorem fl_nn {f : Int × Int} (h : IsF f) (h0 : 0 ≤ f.1) : 0 ≤ fl f := by
  rw [fl_eq h]
  exact Int.ediv_nonneg h0 (Int.le_of_lt h.1)
theorem fl_le {f : Int × Int} (h : IsF f) (h0 : 0 ≤ f.1) : fl f ≤ f.1 := by
  rw [fl_eq h]
  exact Int.ediv_le_self _ h0
theorem fl_mod {f : Int × Int} (h : IsF f) : f.1 - fl f * f.2 = f.1 % f.2 := by
  rw [fl_eq h]
  have := Int.emod_add_mul_ediv f.1 f.2
  have e : f.1 / f.2 * f.2 = f.2 * (f.1 / f.2) := Int.mul_comm _ _
  omega
theorem fl_bt {k : Nat} {f : Int × Int} (h : IsF f) (h0 : 0 ≤ f.1) (b : Bt k f) (hk : 0 < k) : Bt k (fl f, 1) := by
  refine ⟨?_, ?_⟩
  · have h1 := fl_nn h h0
    have h2 := fl_le h h0
    have h3 := b.1
    show (fl f).natAbs < _
    omega
  · show (1 : Int).natAbs < 2 ^ k
    exact Nat.one_lt_two_pow (by omega)
/-- what a fraction has more than its floor -/
def rst (f : Int × Int) : Int × Int := fsub f (fl f, 1)
theorem rst_eq {f : Int × Int} (h : IsF f) : rst f = low (f.1 % f.2) f.2 := by
  show low (f.1 * 1 - fl f * f.2) (f.2 * 1) = _
  rw [Int.mul_one, Int.mul_one, fl_mod h]
theorem rst_f {f : Int × Int} (h : IsF f) : IsF (rst f) := fsub_f h (m1_f _)
theorem rst_nn {f : Int × Int} (h : IsF f) : 0 ≤ (rst f).1 := by
  rw [rst_eq h]
  exact low_top_nn h.1 (Int.emod_nonneg _ h.ne)
theorem rst_bt {k : Nat} {f : Int × Int} (h : IsF f) (b : Bt k f) : Bt k (rst f) := by
  rw [rst_eq h]
  have h1 := Int.emod_nonneg f.1 h.ne
  have h2 := Int.emod_lt_of_pos f.1 h.1
  have h3 := b.2
  have h4 : 0 < f.2 := h.1
  exact low_bt h.ne (by omega) h3
theorem aim_nn {fs : List (Int × Int)} {st f : Int × Int} (h : Wts fs) (hs : Wt st) (hf : Wt f) : 0 ≤ (aim fs st f).1 := by
  rw [aim_low h hf]
  refine low_top_nn (Int.mul_pos hf.lo.1 (tot_pos h)) ?_
  exact Int.mul_nonneg (Int.mul_nonneg (Int.le_of_lt hf.po) (Int.le_of_lt (tot_f h.f).1)) (many_nn h hs)
def lessB (f g : Int × Int) : Bool := decide (f.1 * g.2 < g.1 * f.2)
/-- whether the i-th is counted one more sooner than the j-th -/
def soon (rs : List (Int × Int)) (i j : Nat) : Bool := if rs.getD i f0 = rs.getD j f0 then decide (i < j) else lessB (rs.getD j f0) (rs.getD i f0)
theorem lessB_self (f : Int × Int) : lessB f f = false := decide_eq_false (by omega)
theorem soon_law (rs : List (Int × Int)) (i j : Nat) : soon rs i j = (lessB (rs.getD j f0) (rs.getD i f0) || (decide (rs.getD j f0 = rs.getD i f0) && decide (i < j))) := by
  unfold soon
  by_cases h : rs.getD i f0 = rs.getD j f0
  · rw [if_pos h, h, lessB_self]
    simp
  · rw [if_neg h, decide_eq_false (fun z => h z.symm)]
    simp
/-- how many are sooner than the j-th -/
def ahead (rs : List (Int × Int)) (j : Nat) : Nat := ((List.range rs.length).filter fun i => soon rs i j).length
theorem ahead_le (rs : List (Int × Int)) (j : Nat) : ahead rs j ≤ rs.length := by
  unfold ahead
  exact Nat.le_trans (List.length_filter_le _ _) (by rw [List.length_range]; exact Nat.le_refl _)
/-- all aims -/
def aimsF (fs : List (Int × Int)) (st : Int × Int) : List (Int × Int) := fs.map (aim fs st)
/-- how many are to be one more -/
def more (fs : List (Int × Int)) (st : Int × Int) : Int := many fs st - ((aimsF fs st).map fl).sum
/-- the count of the k-th -/
def cntAt (fs : List (Int × Int)) (st : Int × Int) (k : Nat) : Int := fl ((aimsF fs st).getD k f0) + if (ahead ((aimsF fs st).map rst) k : Int) < more fs st then 1 else 0
def cnt (fs : List (Int × Int)) (st : Int × Int) : List Int := (List.range fs.length).map (cntAt fs st)
theorem cnt_len (fs : List (Int × Int)) (st : Int × Int) : (cnt fs st).length = fs.length := by
  unfold cnt
  rw [List.length_map, List.length_range]
theorem cnt_get {fs : List (Int × Int)} {st : Int × Int} {k : Nat} (h : k < fs.length) : (cnt fs st)[k]? = some (cntAt fs st k) := by
  unfold cnt
  rw [List.getElem?_map, List.getElem?_range h]
  rfl
/-- the difference of a fraction and a count -/
def far (f : Int × Int) (c : Int) : Int × Int := low ((f.1 - c * f.2).natAbs : Int) f.2
theorem abs_low {n d : Int} (hd : 0 < d) : (((low n d).1.natAbs : Int), (low n d).2) = low (n.natAbs : Int) d := by
  have hl := low_is (n := n) (d := d) (by omega)
  have hc := low_cross (n := n) (d := d) (by omega)
  symm
  refine low_eq (by omega) ⟨hl.1, by rw [Int.natAbs_natCast]; exact hl.2⟩ ?_
  have h1 : ((low n d).1 * d).natAbs = (n * (low n d).2).natAbs := by rw [hc]
  rw [Int.natAbs_mul, Int.natAbs_mul] at h1
  have hb : 0 < (low n d).2 := hl.1
  have e1 : (d.natAbs : Int) = d := by omega
  have e2 : ((low n d).2.natAbs : Int) = (low n d).2 := by omega
  have h2 : ((low n d).1.natAbs : Int) * (d.natAbs : Int) = (n.natAbs : Int) * ((low n d).2.natAbs : Int) := by
    rw [← Int.natCast_mul, ← Int.natCast_mul, h1]
  rw [e1, e2] at h2
  exact h2
/-- as the program reckons it -/
theorem far_prog {f : Int × Int} (h : IsF f) (c : Int) : (((fsub (c, 1) f).1.natAbs : Int), (fsub (c, 1) f).2) = far f c := by
  have e : fsub (c, 1) f = low (c * f.2 - f.1) f.2 := by
    show low (c * f.2 - f.1 * 1) (1 * f.2) = _
    rw [Int.mul_one, Int.one_mul]
  rw [e, abs_low h.1]
  unfold far
  have : (c * f.2 - f.1).natAbs = (f.1 - c * f.2).natAbs := by omega
  rw [this]
theorem far_f {f : Int × Int} (h : IsF f) (c : Int) : IsF (far f c) := low_f h.ne
theorem far_nn {f : Int × Int} (h : IsF f) (c : Int) : 0 ≤ (far f c).1 := low_top_nn h.1 (by omega)
/-- the greater one -/
def wmax (w g : Int × Int) : Int × Int := if lessB w g = true then g else w
def wst (w : Int × Int) (p : (Int × Int) × Int) : Int × Int := wmax w (far p.1 p.2)
def worst (fs : List (Int × Int)) (cs : List Int) : Int × Int := (fs.zip cs).foldl wst f0
/-- counts near enough -/
def Near (k : Nat) (fs : List (Int × Int)) (cs : List Int) : Prop := ∀ p ∈ fs.zip cs, Bt k (far p.1 p.2) ∧ p.2.natAbs < 2 ^ k
theorem worst_step {fs : List (Int × Int)} {cs : List Int} {i : Nat} {f : Int × Int} {c : Int} (h1 : fs[i]? = some f) (h2 : cs[i]? = some c) : ((fs.zip cs).take (i + 1)).foldl wst f0 = wmax (((fs.zip cs).take i).foldl wst f0) (far f c) := by
  have h : (fs.zip cs)[i]? = some (f, c) := by
    rw [List.getElem?_zip_eq_some]
    exact ⟨h1, h2⟩
  rw [fold_take wst f0 h]
  simp only [wst]
theorem worst_ok {k : Nat} {fs : List (Int × Int)} {cs : List Int} (hF : AllF fs) (hk : 0 < k) (h : Near k fs cs) (i : Nat) : IsF (((fs.zip cs).take i).foldl wst f0) ∧ Bt k (((fs.zip cs).take i).foldl wst f0) ∧ 0 ≤ (((fs.zip cs).take i).foldl wst f0).1 := by
  induction i with
  | zero =>
    rw [List.take_zero, List.foldl_nil]
    exact ⟨f0_f, bt01.1.mono hk, Int.le_refl 0⟩
  | succ i ih =>
    cases e : (fs.zip cs)[i]? with
    | none =>
      rw [List.take_of_length_le (by have := List.getElem?_eq_none_iff.mp e; omega)]
      rw [List.take_of_length_le (by have := List.getElem?_eq_none_iff.mp e; omega)] at ih
      exact ih
    | some p =>
      rw [fold_take wst f0 e]
      have hm := List.mem_of_getElem? e
      have hp : p.1 ∈ fs := (List.of_mem_zip (show (p.1, p.2) ∈ fs.zip cs from hm)).1
      unfold wst wmax
      split
      · exact ⟨far_f (hF _ hp) _, (h p hm).1, far_nn (hF _ hp) _⟩
      · exact ih
/-- what the weights have more than so many steps -/
def left_ (fs : List (Int × Int)) (st : Int × Int) : Int × Int := fsub (tot fs) (fmul (many fs st, 1) st)
end Lf
namespace Lf
/-- the counts when the first i are looked at -/
def part (fs : List (Int × Int)) (st : Int × Int) (i : Nat) : List Int := (List.range fs.length).map fun k => if k < i then cntAt fs st k else fl ((aimsF fs st).getD k f0)
theorem part_0 (fs : List (Int × Int)) (st : Int × Int) : part fs st 0 = (aimsF fs st).map fl := by
  refine List.ext_getElem? fun k => ?_
  unfold part aimsF
  rw [List.getElem?_map, List.getElem?_map, List.getElem?_map]
  by_cases h : k < fs.length
  · rw [List.getElem?_range h, List.getElem?_eq_getElem h]
    simp [List.getD_eq_getElem?_getD, List.getElem?_map, h]
  · rw [List.getElem?_eq_none (by rw [List.length_range]; omega), List.getElem?_eq_none (by omega)]
    rfl
theorem part_n (fs : List (Int × Int)) (st : Int × Int) : part fs st fs.length = cnt fs st := by
  unfold part cnt
  refine List.map_congr_left fun k hk => ?_
  rw [if_pos (List.mem_range.mp hk)]
theorem part_get {fs : List (Int × Int)} {st : Int × Int} {i k : Nat} (h : k < fs.length) : (part fs st i)[k]? = some (if k < i then cntAt fs st k else fl ((aimsF fs st).getD k f0)) := by
  unfold part
  rw [List.getElem?_map, List.getElem?_range h]
  rfl
theorem part_len (fs : List (Int × Int)) (st : Int × Int) (i : Nat) : (part fs st i).length = fs.length := by
  unfold part
  rw [List.length_map, List.length_range]
theorem part_set {fs : List (Int × Int)} {st : Int × Int} {i : Nat} (h : i < fs.length) : part fs st (i + 1) = (part fs st i).set i (cntAt fs st i) := by
  refine List.ext_getElem? fun k => ?_
  rw [List.getElem?_set]
  by_cases hk : k < fs.length
  · rw [part_get hk]
    by_cases hi : i = k
    · subst hi
      rw [if_pos rfl, if_pos (Nat.lt_succ_self i), if_pos (by rw [part_len]; exact h)]
    · rw [if_neg hi, part_get hk]
      by_cases h1 : k < i
      · rw [if_pos h1, if_pos (by omega)]
      · rw [if_neg h1, if_neg (by omega)]
  · rw [List.getElem?_eq_none (by rw [part_len]; omega), if_neg (by omega), List.getElem?_eq_none (by rw [part_len]; omega)]
theorem part_stay {fs : List (Int × Int)} {st : Int × Int} {i : Nat} (h : cntAt fs st i = fl ((aimsF fs st).getD i f0)) : part fs st (i + 1) = part fs st i := by
  unfold part
  refine List.map_congr_left fun k hk => ?_
  by_cases h1 : k < i
  · rw [if_pos h1, if_pos (by omega)]
  · by_cases h2 : k = i
    · subst h2
      rw [if_neg h1, if_pos (Nat.lt_succ_self k), h]
    · rw [if_neg h1, if_neg (by omega)]
/-- a count is the floor or one more -/
theorem near_one {f : Int × Int} {c : Int} (h : IsF f) (h0 : 0 ≤ f.1) (b : Bt 636 f) (hc : c = fl f ∨ c = fl f + 1) : Bt 640 (far f c) ∧ c.natAbs < 2 ^ 640 := by
  have hm := fl_mod h
  have m0 := Int.emod_nonneg f.1 h.ne
  have m1 := Int.emod_lt_of_pos f.1 h.1
  have h2 : 0 < f.2 := h.1
  have hle : (f.1 - c * f.2).natAbs ≤ f.2.natAbs := by
    rcases hc with rfl | rfl
    · omega
    · have e : (fl f + 1) * f.2 = fl f * f.2 + f.2 := by rw [Int.add_mul, Int.one_mul]
      omega
  have p : (2 : Nat) ^ 636 + 2 ^ 636 ≤ 2 ^ 640 := by
    rw [show (640 : Nat) = 636 + 1 + 3 from rfl, Nat.pow_add, Nat.two_pow_succ]
    omega
  refine ⟨low_bt h.ne ?_ ?_, ?_⟩
  · rw [Int.natAbs_natCast]
    have := b.2
    omega
  · have := b.2
    omega
  · have a1 := fl_nn h h0
    have a2 := fl_le h h0
    have a3 := b.1
    omega
end Lf
namespace Lf
def fle (f g : Int × Int) : Prop := f.1 * g.2 ≤ g.1 * f.2
theorem fle_trans {a b c : Int × Int} (hb : 0 < b.2) (ha : 0 < a.2) (hc : 0 < c.2) (h : fle a b) (k : fle b c) : fle a c := by
  unfold fle at *
  have h1 := Int.mul_le_mul_of_nonneg_right h (Int.le_of_lt hc)
  have h2 := Int.mul_le_mul_of_nonneg_right k (Int.le_of_lt ha)
  have e1 : a.1 * b.2 * c.2 = a.1 * c.2 * b.2 := by grind
  have e2 : b.1 * a.2 * c.2 = b.1 * c.2 * a.2 := by grind
  have e3 : c.1 * b.2 * a.2 = c.1 * a.2 * b.2 := by grind
  exact Int.le_of_mul_le_mul_right (a := b.2) (by omega) hb
theorem fle_add {a g : Int × Int} (ha : IsF a) (hg : IsF g) (h0 : 0 ≤ g.1) : fle a (fadd a g) := by
  have h2 : 0 < a.2 := ha.1
  have k2 : 0 < g.2 := hg.1
  have hd := Int.mul_pos h2 k2
  have hc : (fadd a g).1 * (a.2 * g.2) = (a.1 * g.2 + g.1 * a.2) * (fadd a g).2 := low_cross (by omega)
  have hb : 0 < (fadd a g).2 := low_b hd
  unfold fle
  refine Int.le_of_mul_le_mul_right (a := g.2) ?_ k2
  have p := Int.mul_nonneg (Int.mul_nonneg h0 (Int.le_of_lt h2)) (Int.le_of_lt hb)
  have e1 : (fadd a g).1 * a.2 * g.2 = (fadd a g).1 * (a.2 * g.2) := by grind
  have e2 : (a.1 * g.2 + g.1 * a.2) * (fadd a g).2 = a.1 * (fadd a g).2 * g.2 + g.1 * a.2 * (fadd a g).2 := by grind
  rw [e1, hc, e2]
  omega
theorem fold_ge : ∀ (l : List (Int × Int)) (a : Int × Int), IsF a → AllF l → (∀ g ∈ l, 0 ≤ g.1) → fle a (l.foldl fadd a)
  | [], a, _, _, _ => by unfold fle; exact Int.le_refl _
  | g :: l, a, ha, hF, h => by
    have hf := fadd_f ha hF.hd
    have h1 := fle_add ha hF.hd (h g List.mem_cons_self)
    have h2 := fold_ge l (fadd a g) hf hF.tl (fun x hx => h x (List.mem_cons_of_mem _ hx))
    exact fle_trans hf.1 ha.1 (sum_fold l (fadd a g) hf hF.tl).1.1 h1 h2
theorem many_head {fs : List (Int × Int)} {f : Int × Int} (W : Wts fs) (h : fs[0]? = some f) : many fs f ≠ 0 := by
  match fs, h with
  | g :: l, h =>
    have e : g = f := by simpa using h
    subst e
    have wg := W.all g List.mem_cons_self
    have ht : tot (g :: l) = l.foldl fadd g := by
      show l.foldl fadd (fadd f0 g) = _
      rw [fadd_0 wg.lo]
    have hge : fle g (tot (g :: l)) := by
      rw [ht]
      exact fold_ge l g wg.lo W.f.tl fun x hx => Int.le_of_lt (W.all x (List.mem_cons_of_mem _ hx)).po
    have hd := Int.mul_pos (tot_f W.f).1 wg.po
    have : 1 ≤ many (g :: l) g := by
      unfold many
      rw [fdiv_pos_eq hd]
      refine Int.le_ediv_of_mul_le hd ?_
      unfold fle at hge
      rw [Int.one_mul, Int.mul_comm]
      exact hge
    omega
theorem lfar_rst {f : Int × Int} (h : IsF f) : low ((f.1 * 1 - fl f * f.2).natAbs : Int) (f.2 * 1) = rst f := by
  have hm := fl_mod h
  have m0 := Int.emod_nonneg f.1 h.ne
  have e : ((f.1 * 1 - fl f * f.2).natAbs : Int) = f.1 * 1 - fl f * f.2 := by omega
  rw [e]
  rfl
theorem lfar_far (f : Int × Int) (c : Int) : low ((f.1 * 1 - c * f.2).natAbs : Int) (f.2 * 1) = far f c := by
  unfold far
  rw [Int.mul_one, Int.mul_one]
theorem used_is (fs : List (Int × Int)) (st : Int × Int) : low (st.1 * many fs st) st.2 = fmul (many fs st, 1) st := by
  show _ = low (many fs st * st.1) (1 * st.2)
  rw [Int.mul_comm, Int.one_mul]
theorem lfar_left {fs : List (Int × Int)} {st : Int × Int} (W : Wts fs) (hs : Wt st) : low (((tot fs).1 * (fmul (many fs st, 1) st).2 - (fmul (many fs st, 1) st).1 * (tot fs).2).natAbs : Int) ((tot fs).2 * (fmul (many fs st, 1) st).2) = left_ fs st := by
  have t2 : 0 < (tot fs).2 := (tot_f W.f).1
  have s2 : 0 < st.2 := hs.lo.1
  have hd := Int.mul_pos t2 hs.po
  have hm : many fs st * ((tot fs).2 * st.1) ≤ (tot fs).1 * st.2 := by
    unfold many
    rw [fdiv_pos_eq hd]
    exact Int.ediv_mul_le _ (by omega)
  have hc : (fmul (many fs st, 1) st).1 * (1 * st.2) = (many fs st * st.1) * (fmul (many fs st, 1) st).2 := low_cross (by omega)
  have hb : 0 < (fmul (many fs st, 1) st).2 := low_b (by omega)
  obtain ⟨u, hu⟩ : ∃ u, u = fmul (many fs st, 1) st := ⟨_, rfl⟩
  rw [← hu] at hc hb ⊢
  have key : u.1 * (tot fs).2 ≤ (tot fs).1 * u.2 := by
    refine Int.le_of_mul_le_mul_right (a := st.2) ?_ s2
    have e1 : u.1 * (tot fs).2 * st.2 = u.1 * (1 * st.2) * (tot fs).2 := by grind
    have e2 : many fs st * st.1 * u.2 * (tot fs).2 = many fs st * ((tot fs).2 * st.1) * u.2 := by grind
    have e3 : (tot fs).1 * u.2 * st.2 = (tot fs).1 * st.2 * u.2 := by grind
    rw [e1, hc, e2, e3]
    exact Int.mul_le_mul_of_nonneg_right hm (Int.le_of_lt hb)
  have e : (((tot fs).1 * u.2 - u.1 * (tot fs).2).natAbs : Int) = (tot fs).1 * u.2 - u.1 * (tot fs).2 := by omega
  rw [e]
  unfold left_
  rw [← hu]
  rfl
end Lf

set_option Elab.async false
set_option linter.all false
set_option maxRecDepth 100000
set_option maxHeartbeats 4000000
/-! xs[i] += e of a list; promises of defs that let nothing out. -/
namespace Lf
open PySem PySem.Spec PyProof.Rows L2
def rGetN (K : PySem.W.Frag) : V → V → Hp → VK → Prop := fun x y H Q => ∃ (p : Addr) (xs : List V) (n : Nat) (v : V), x = .ref p ∧ y = .int n ∧ SqL K H p xs ∧ xs[n]? = some v ∧ n < 2 ^ 60 ∧ Q v H
theorem get_listN {X : Cx} : PGet X (rGetN X.K) := by
  intro pins s σ H o i ov iv Q I ro ri h
  obtain ⟨p, xs, n, v, rfl, rfl, hq, he, hn, q⟩ := h
  cases ro
  obtain ⟨t, rfl⟩ := ri
  obtain ⟨its, r, pl, hz⟩ := I.list hq
  obtain ⟨w, ew, rw'⟩ := r.get he
  exact getItem_listL (x := w) pl.isList (by omega) (by omega) (by simpa using ew) ⟨v, H, I, rw', q⟩
/-- a promise of more -/
theorem FnG.imp {P : Program} {w : World} {K : PySem.W.Frag} {mg : Str → Option Value} {base : Heap} {CX : CXT} {k : Nat} {f : Addr} {fd : FuncData} {ps : List Str} {sp sq : Sp} (F : FnG P w K mg base CX k f fd ps sp) (h : ∀ vs H Q E, sq vs H Q E → sp vs H Q E) : FnG P w K mg base CX k f fd ps sq :=
  ⟨fun vs H Q E q => F.size vs H Q E (h _ _ _ _ q), fun B out s H ar us vs Q E r hg e0 hb hv q => F.goes B out s H ar us vs Q E r hg e0 hb hv (h _ _ _ _ q)⟩
theorem Cal.imp {P : Program} {w : World} {K : PySem.W.Frag} {mg : Str → Option Value} {base : Heap} {CX : CXT} {k : Nat} {x : Str} {ps : List Str} {sp sq : Sp} (C : Cal P w K mg base CX k x ps sp) (h : ∀ vs H Q E, sq vs H Q E → sp vs H Q E) : Cal P w K mg base CX k x ps sq := by
  obtain ⟨f, fd, F, a, b, c, d, e⟩ := C.ex
  exact ⟨f, fd, F.imp h, a, b, c, d, e⟩
/-- where nothing is let out -/
theorem FnG.calm {P : Program} {w : World} {K : PySem.W.Frag} {mg : Str → Option Value} {base : Heap} {k : Nat} {f : Addr} {fd : FuncData} {ps : List Str} {sp : Sp} (F : FnG P w K mg base (L2.CX P w) k f fd ps sp) : FnG P w K mg base CX0 k f fd ps (fun vs H Q _ => sp vs H Q E0) := by
  refine ⟨fun vs H Q E q => F.size vs H Q E0 q, fun B out s H ar us vs Q E r hg e0 hb hv q => ?_⟩
  refine codeAny_mono (F.goes B out s H ar us vs Q E0 r hg e0 hb hv q) fun z s' hz => ?_
  cases z with
  | error e =>
    obtain ⟨_, _, _, _, _, _, _, _, _, _, _, _, z⟩ := (show L2.CX P w out H s E0 e s' from hz)
    exact z.elim
  | ok fl =>
    cases fl with
    | ret u => exact hz
    | next => exact False.elim hz
    | brk => exact False.elim hz
    | cont => exact False.elim hz
theorem Cal.calm {P : Program} {w : World} {K : PySem.W.Frag} {mg : Str → Option Value} {base : Heap} {k : Nat} {x : Str} {ps : List Str} {sp : Sp} (C : Cal P w K mg base (L2.CX P w) k x ps sp) : Cal P w K mg base CX0 k x ps (fun vs H Q _ => sp vs H Q E0) := by
  obtain ⟨f, fd, F, a, b, c, d, e⟩ := C.ex
  exact ⟨f, fd, F.calm, a, b, c, d, e⟩
theorem Cal.or {P : Program} {w : World} {K : PySem.W.Frag} {mg : Str → Option Value} {base : Heap} {CX : CXT} {k : Nat} {x : Str} {ps : List Str} {sp sq : Sp} {f : Addr} {fd : FuncData} (F : FnG P w K mg base CX k f fd ps sp) (G : FnG P w K mg base CX k f fd ps sq) :
    FnG P w K mg base CX k f fd ps (fun vs H Q E => sp vs H Q E ∨ sq vs H Q E) :=
  ⟨fun vs H Q E h => h.elim (F.size vs H Q E) (G.size vs H Q E), fun B out s H ar us vs Q E r hg e0 hb hv h => h.elim (F.goes B out s H ar us vs Q E r hg e0 hb hv) (G.goes B out s H ar us vs Q E r hg e0 hb hv)⟩
end Lf

set_option Elab.async false
set_option linter.all false
set_option maxRecDepth 100000
set_option maxHeartbeats 4000000
set_option exponentiation.threshold 3000
/-! Rows of fractions as data: shown, compared. -/
namespace Lf
open PySem PySem.Spec PyProof.Rows L2
section
variable {K : PySem.W.Frag}
theorem tD_shaped (f : Int × Int) : SeqAt.shaped (tD f) = true := by
  unfold SeqAt.shaped
  rw [Bool.and_eq_true]
  refine ⟨by simp only [tD, PyData.canLay0, PyData.canLayAll0, Bool.and_self], decide_eq_true ?_⟩
  simp only [tD, PyData.depth, PyData.depthAll]
  omega
theorem AtK.dp {H : Hp} {v : V} {f : Int × Int} (h : AtK K H v f) : Dp K H v (tD f) := by
  obtain ⟨p, rfl, hp⟩ := h
  exact dp2 hp
theorem AtKs.dpAll {H : Hp} : ∀ {vs : List V} {fs : List (Int × Int)}, AtKs K H vs fs → DpAll K H vs (fs.map tD)
  | _, _, .nil => .nil
  | _, _, .cons ⟨p, e, h⟩ r => by
    subst e
    exact .cons (dp2 h) (AtKs.dpAll r)
theorem row_lay : ∀ fs : List (Int × Int), PyData.canLayAll0 (fs.map tD) = true ∧ PyData.depthAll (fs.map tD) ≤ 1
  | [] => ⟨by simp only [List.map_nil, PyData.canLayAll0], by simp only [List.map_nil, PyData.depthAll]; omega⟩
  | f :: fs => by
    obtain ⟨i1, i2⟩ := row_lay fs
    refine ⟨?_, ?_⟩
    · simp only [List.map_cons, PyData.canLayAll0, i1, tD, PyData.canLay0, Bool.and_self]
    · simp only [List.map_cons, PyData.depthAll, tD, PyData.depth]
      omega
theorem row_shaped (fs : List (Int × Int)) : SeqAt.shaped (.list (fs.map tD)) = true := by
  obtain ⟨i1, i2⟩ := row_lay fs
  unfold SeqAt.shaped
  rw [Bool.and_eq_true]
  refine ⟨by simp only [PyData.canLay0]; exact i1, decide_eq_true ?_⟩
  simp only [PyData.depth]
  omega
theorem eqv_tD (f g : Int × Int) : PyData.eqv (tD f) (tD g) = decide (f = g) := by
  obtain ⟨a, b⟩ := f
  obtain ⟨c, d⟩ := g
  simp only [tD, PyData.eqv, PyData.eqvAll, Bool.and_true]
  by_cases h : (a, b) = (c, d)
  · rw [decide_eq_true h]
    cases h
    simp
  · rw [decide_eq_false h]
    by_cases h1 : a = c
    · by_cases h2 : b = d
      · exact absurd (by rw [h1, h2]) h
      · simp [h2]
    · simp [h1]
theorem row_eqv : ∀ fs : List (Int × Int), PyData.eqvAll (fs.map tD) (fs.map tD) = true
  | [] => by simp only [List.map_nil, PyData.eqvAll]
  | f :: fs => by simp only [List.map_cons, PyData.eqvAll, eqv_tD, row_eqv fs, decide_true, Bool.and_self]
theorem rowD_eqv (fs : List (Int × Int)) : PyData.eqv (.list (fs.map tD)) (.list (fs.map tD)) = true := by
  simp only [PyData.eqv]
  exact row_eqv fs
theorem Ft.intB {k : Nat} {n : Int} (h : n.natAbs < 2 ^ k) (hk : k ≤ 900) (h0 : 0 < k) : Ft k 0 (.int n) := by
  have f := Ft.int (n := n) (Nat.lt_of_lt_of_le h (Nat.pow_le_pow_right (by decide) hk))
  refine ⟨f.sh, f.nd, f.dp, f.lv, ?_⟩
  simp only [PyData.weight]
  have := PySem.Flt.log2_lt_of (by omega) h
  split <;> omega
theorem row_ft {k : Nat} (hk : k ≤ 900) (h0 : 0 < k) : ∀ fs : List (Int × Int), (∀ f ∈ fs, Bt k f) → FtA ((2 * k + 3) * fs.length) 1 (fs.map tD)
  | [], _ => by
    have := FtA.nil
    exact ⟨this.sh, this.nd, Nat.le_trans this.dp (by decide), this.lv, by simpa using this.wt⟩
  | f :: fs, h => by
    have hb := h f List.mem_cons_self
    have f1 : Ft _ _ (tD f) := Ft.tuple (.cons (Ft.intB hb.1 hk h0) (.cons (Ft.intB hb.2 hk h0) .nil))
    have r := FtA.cons f1 (row_ft hk h0 fs fun g hg => h g (List.mem_cons_of_mem _ hg))
    rw [List.map_cons]
    refine ⟨r.sh, r.nd, Nat.le_trans r.dp (by decide), r.lv, Nat.le_trans r.wt ?_⟩
    rw [List.length_cons, Nat.mul_succ]
    omega
theorem cut_last (ys : List V) (x : V) : cutV (ys ++ [x]) none (some (-1)) = ys := by
  unfold cutV
  have h1 : HT.sIx (ys ++ [x]).length 0 none = 0 := by simp [HT.sIx]
  have h2 : HT.sIx (ys ++ [x]).length (ys ++ [x]).length (some (-1)) = ys.length := by
    simp [HT.sIx]
    omega
  rw [h1, h2]
  simp
theorem rowD {H : Hp} {l : Addr} {xs : List V} {fs : List (Int × Int)} (h : SqL K H l xs) (a : AtKs K H xs fs) : Dp K H (.ref l) (.list (fs.map tD)) := .lst h a.dpAll
theorem pg_tupK {X : Cx} {K : PySem.W.Frag} {es : List Expr} {k : Nat} {t : TGs} {n : Nat} {pos : Pos} (hc : X.calm = true) (h : PGs X es t)
    (hn : (assignEach es X.env).length = n := by rfl) (hst : (assignEach es X.env).findIdx? (·.1) = none := by rfl) (hK : X.K = K := by rfl) : PG X (.Tuple es k pos) (gTup K n t) := hK ▸ pg_tup hc h hn hst
end
end Lf

set_option Elab.async false
set_option linter.all false
set_option maxRecDepth 100000
set_option maxHeartbeats 4000000
set_option exponentiation.threshold 3000
namespace Lf
open PySem PySem.Spec PyProof.Rows L2
theorem bt_sum : bootBuiltins "sum" = some (.builtin "sum") := by decide +kernel
section
variable {P : Program} {w : World} {K : PySem.W.Frag} {mg : Str → Option Value} {base : Heap}
/-- a row, list or tuple -/
def SqX (K : PySem.W.Frag) (H : Hp) (a : Addr) (xs : List V) : Prop := SqL K H a xs ∨ SqT K H a xs
theorem sm_x {H H' : Hp} {a : Addr} {xs : List V} (s : Same H H') (h : SqX K H a xs) : SqX K H' a xs := h.elim (fun h => .inl (sm_l s h)) fun h => .inr (sm_t s h)
/-- weights and a step that goes into them -/
structure Fit (K : PySem.W.Frag) (H : Hp) (a : Addr) (v : V) (xs : List V) (fs : List (Int × Int)) (st : Int × Int) : Prop where
  sq : SqX K H a xs
  at_ : AtKs K H xs fs
  w : Wts fs
  av : AtK K H v st
  s : Wt st
  m : many fs st ≠ 0
theorem Fit.same {H H' : Hp} {a : Addr} {v : V} {xs : List V} {fs : List (Int × Int)} {st : Int × Int} (s : Same H H') (h : Fit K H a v xs fs st) : Fit K H' a v xs fs st := ⟨sm_x s h.sq, h.at_.same s, h.w, h.av.same s, h.s, h.m⟩
def sp_manyX (K : PySem.W.Frag) : Sp := fun vs H Q _ => ∃ (a : Addr) (v : V) (xs : List V) (fs : List (Int × Int)) (st : Int × Int), vs = [.ref a, v] ∧ Fit K H a v xs fs st ∧ ∀ H', Same H H' → Q (.int (many fs st)) H'
theorem ok_manyX {f C : Addr} {fd : FuncData} {k : Nat} {ps : List Str} (F : FnG P w K mg base (L2.CX P w) k f fd ps (sp_manyL K C)) (G : FnG P w K mg base (L2.CX P w) k f fd ps (sp_manyT K C)) : FnG P w K mg base CX0 k f fd ps (sp_manyX K) := by
  refine (F.calm.or G.calm).imp fun vs H Q E h => ?_
  obtain ⟨a, v, xs, fs, st, e, T, k⟩ := h
  rcases T.sq with z | z
  · exact .inl ⟨a, v, xs, fs, st, e, z, T.at_, T.w, T.av, T.s, fun H' s => ⟨fun _ => k H' s, fun z => absurd z T.m⟩⟩
  · exact .inr ⟨a, v, xs, fs, st, e, z, T.at_, T.w, T.av, T.s, fun H' s => ⟨fun _ => k H' s, fun z => absurd z T.m⟩⟩
def sp_aimsX (K : PySem.W.Frag) : Sp := fun vs H Q _ => ∃ (a : Addr) (v : V) (xs : List V) (fs : List (Int × Int)) (st : Int × Int), vs = [.ref a, v] ∧ Fit K H a v xs fs st ∧ ∀ H' D ys, Same H H' → H D = none → H' D = some (.lst ys) → AtKs K (wo D H') ys (aimsF fs st) → Q (.ref D) H'
theorem ok_aimsX {f C : Addr} {fd : FuncData} {k : Nat} {ps : List Str} (F : FnG P w K mg base (L2.CX P w) k f fd ps (sp_aimsL K C)) (G : FnG P w K mg base (L2.CX P w) k f fd ps (sp_aimsT K C)) : FnG P w K mg base CX0 k f fd ps (sp_aimsX K) := by
  refine (F.calm.or G.calm).imp fun vs H Q E h => ?_
  obtain ⟨a, v, xs, fs, st, e, T, k⟩ := h
  rcases T.sq with z | z
  · exact .inl ⟨a, v, xs, fs, st, e, z, T.at_, T.w, T.av, T.s, fun _ => k, fun z => absurd z T.m⟩
  · exact .inr ⟨a, v, xs, fs, st, e, z, T.at_, T.w, T.av, T.s, fun _ => k, fun z => absurd z T.m⟩
def sp_togX (K : PySem.W.Frag) : Sp := fun vs H Q _ => ∃ (a : Addr) (xs : List V) (fs : List (Int × Int)), vs = [.ref a] ∧ SqX K H a xs ∧ AtKs K H xs fs ∧ Wts fs ∧ ∀ H' v, Same H H' → AtK K H' v (tot fs) → Q v H'
theorem ok_togX {f : Addr} {fd : FuncData} {k : Nat} {ps : List Str} (F : FnG P w K mg base CX0 k f fd ps (sp_togL K)) (G : FnG P w K mg base CX0 k f fd ps (sp_togT K)) : FnG P w K mg base CX0 k f fd ps (sp_togX K) := by
  refine (F.or G).imp fun vs H Q E h => ?_
  obtain ⟨a, xs, fs, e, hS, hA, W, k⟩ := h
  have h12 := W.few
  rcases hS with z | z
  · exact .inl ⟨a, xs, fs, 41, e, z, hA, W.f, W.b, by decide, by omega, k⟩
  · exact .inr ⟨a, xs, fs, 41, e, z, hA, W.f, W.b, by decide, by omega, k⟩
/-- an aim -/
structure Am (f : Int × Int) : Prop where
  lo : IsF f
  nn : 0 ≤ f.1
  bt : Bt 636 f
theorem aims_am {fs : List (Int × Int)} {st : Int × Int} (W : Wts fs) (hs : Wt st) : ∀ f ∈ aimsF fs st, Am f := by
  intro f hf
  obtain ⟨g, hg, rfl⟩ := List.mem_map.mp hf
  exact ⟨aim_f W (W.all g hg), aim_nn W hs (W.all g hg), aim_bt W hs (W.all g hg)⟩
theorem aims_len (fs : List (Int × Int)) (st : Int × Int) : (aimsF fs st).length = fs.length := List.length_map _

/-! ### above_floor -/
theorem sc_above_floor : FnScope ["one"] ["one"] (defScope s_above_floor) := ⟨rfl, rfl, rfl, by decide +kernel, rfl, by decide +kernel, by decide +kernel⟩
def sp_above (K : PySem.W.Frag) : Sp := fun vs H Q _ => ∃ (v : V) (f : Int × Int), vs = [v] ∧ AtK K H v f ∧ Am f ∧ ∀ H' p, Same H H' → H' p = some (.tup [.int (rst f).1, .int (rst f).2]) → Q (.ref p) H'
theorem ok_above {f : Addr} {fd : FuncData} (F : Fun K "above_floor" "above_floor" s_above_floor f fd) (C_floor_of : Cal P w K mg base CX0 1 "floor_of" ["one"] (sp_floor K)) (C_minus : Cal P w K mg base CX0 5 "minus" ["one", "other"] (sp_minus K)) : FnG P w K mg base CX0 6 f fd ["one"] (sp_above K) := by
  refine Gfun F sc_above_floor (fun vs H Q E h => ?_) (fun cdv A outer s H vs Q E hg hr h => ?_)
  · obtain ⟨v, g, rfl, _⟩ := h
    rfl
  · obtain ⟨v, g, rfl, hv, am, k⟩ := h
    refine ⟨_, (pss_one (ps_ret (pe_g C_minus (hr.mono (by decide)) hg (pa_cons (pv 0) (pa_cons (pe_tup (pa_cons (pe_g C_floor_of (hr.mono (by decide)) hg (pa_cons (pv 0) pa_nil)) (pa_cons pe_int pa_nil))) pa_nil))))), ?_⟩
    refine ⟨_, rfl, _, rfl, v, g, rfl, hv, am.lo.ne, Sm.mid (am.bt.sm (by decide)).2, len_show (Nat.le_of_ble_eq_true rfl), fun p1 n1 => ?_⟩
    have s1 : Same H (L2.upd H p1 (.tup [.int (g.1.fdiv g.2), .int 1])) := same_new n1
    have a1 : AtK K (L2.upd H p1 (.tup [.int (g.1.fdiv g.2), .int 1])) (.ref p1) (fl g, 1) := AtK.of upd_same
    generalize L2.upd H p1 (.tup [.int (g.1.fdiv g.2), .int 1]) = H1 at s1 a1 ⊢
    exact ⟨_, _, _, _, pr_atk (hv.same s1) a1 am.lo (m1_f _) am.bt (fl_bt am.lo am.nn am.bt (by decide)) (by decide) (by decide), fun H2 p2 s2 e2 => k H2 p2 (s1.trans s2) e2⟩

/-! ### how_many_more -/
theorem sc_how_many_more : FnScope ["weights", "step", "floors", "aim"] ["weights", "step"] (defScope s_how_many_more) := ⟨rfl, rfl, rfl, by decide +kernel, rfl, by decide +kernel, by decide +kernel⟩
def sp_more (K : PySem.W.Frag) : Sp := fun vs H Q _ => ∃ (a : Addr) (v : V) (xs : List V) (fs : List (Int × Int)) (st : Int × Int), vs = [.ref a, v] ∧ Fit K H a v xs fs st ∧ ∀ H', Same H H' → Q (.int (more fs st)) H'
theorem ok_more {f : Addr} {fd : FuncData} (msum : mg "sum" = none) (F : Fun K "how_many_more" "how_many_more" s_how_many_more f fd) (C_floor_of : Cal P w K mg base CX0 1 "floor_of" ["one"] (sp_floor K)) (C_aims : Cal P w K mg base CX0 8 "aims" ["weights", "step"] (sp_aimsX K)) (C_many_steps : Cal P w K mg base CX0 7 "many_steps" ["weights", "step"] (sp_manyX K)) : FnG P w K mg base CX0 9 f fd ["weights", "step"] (sp_more K) := by
  refine Gfun F sc_how_many_more (fun vs H Q E h => ?_) (fun cdv A outer s H vs Q E hg hr h => ?_)
  · obtain ⟨a, v, xs, fs, st, rfl, _⟩ := h
    rfl
  · obtain ⟨a, v, xs, fs, st, rfl, T, k⟩ := h
    refine ⟨_, (pss_cons (ps_setLc (i := 2) (own := [("aim", 3)]) (g := gName 3) (tt := tYes) rfl sc_how_many_more.nd rfl rfl (sw_true rfl rfl rfl (by decide +kernel)) (pi_list (pe_g C_aims (hr.mono (by decide)) hg (pa_cons (pv 0) (pa_cons (pv 1) pa_nil)))) (blkOk_by (N := ["weights", "step", "floors", "aim"]) (sc := defScope s_how_many_more) (by decide +kernel)) (fun _ _ _ _ _ => pg_name (i := 3) sc_how_many_more.nd rfl (Or.inl rfl)) (fun _ _ _ _ _ => pts_nil) (fun _ _ _ _ _ => (pe_g C_floor_of (hr.mono (by decide)) hg (pa_cons (pv 3) pa_nil))))
      (pss_one (ps_ret (pe_op op_sub (pe_g C_many_steps (hr.mono (by decide)) hg (pa_cons (pv 0) (pa_cons (pv 1) pa_nil))) (pe_callB (cr_sum rfl) rfl msum bt_sum (pa_cons (pv 2) pa_nil)))))), ?_⟩
    refine ⟨_, rfl, _, rfl, a, v, xs, fs, st, rfl, T, fun H1 D ys s1 nD eD hy => ?_⟩
    have am := aims_am T.w T.s
    have hyl := hy.length
    rw [aims_len] at hyl
    have h12 := T.w.few
    refine ⟨D, rfl, ⟨_, .inl (.inl eD)⟩, fun D2 hD2 => lc_list (xs := ys) (fun i H' => H' D2 = some (.lst ((((aimsF fs st).map fl).take i).map V.int)) ∧ Same H1 H') ⟨upd_same, same_new hD2⟩ (fun i H' _ h => sm_l h.2 (.inl (.inl eD))) ?_ ?_⟩
    · rintro i x H2 hx ⟨e2, s2⟩
      obtain ⟨g, hgi, hg0⟩ := hy.get hx
      have ag := am g (List.mem_of_getElem? hgi)
      refine ⟨rfl, _, rfl, x, g, rfl, (hg0.same wo_le).same s2, ag.lo.ne, Sm.mid (ag.bt.sm (by decide)).2, _, e2, ?_, ?_, fun b o e => ?_⟩
      · rw [List.length_map, List.length_take, List.length_map, aims_len, sizeLine_eq]
        omega
      · rw [upd_same, List.take_add_one, List.getElem?_map, hgi, List.map_append]
        rfl
      · rw [upd_ne (ne_of_none e hD2)]
        exact s2 _ _ e
    · rintro H2 ⟨e2, s2⟩
      rw [show ys.length = ((aimsF fs st).map fl).length by rw [List.length_map, aims_len, hyl], List.take_length] at e2
      have s02 := s1.trans s2
      refine ⟨_, rfl, _, rfl, a, v, xs, fs, st, rfl, T.same s02, fun H3 s3 => ⟨_, rfl, D2, _, rfl, .inl (.inl (s3 _ _ e2)), _, _, rfl, rfl, k H3 (s02.trans s3)⟩⟩

/-! ### is_sooner -/
theorem sc_is_sooner : FnScope ["aboves", "one", "other"] ["aboves", "one", "other"] (defScope s_is_sooner) := ⟨rfl, rfl, rfl, by decide +kernel, rfl, by decide +kernel, by decide +kernel⟩
def sp_sooner (K : PySem.W.Frag) : Sp := fun vs H Q _ => ∃ (L : Addr) (i j : Nat) (xs : List V) (rs : List (Int × Int)), vs = [.ref L, .int i, .int j] ∧ SqL K H L xs ∧ AtKs K H xs rs ∧ AllF rs ∧ AllB 636 rs ∧ i < rs.length ∧ j < rs.length ∧ Q (.bl (soon rs i j)) H
theorem getD_of {rs : List (Int × Int)} {i : Nat} {g : Int × Int} (h : rs[i]? = some g) : rs.getD i f0 = g := by rw [List.getD_eq_getElem?_getD, h]; rfl
theorem ok_sooner {f : Addr} {fd : FuncData} (F : Fun K "is_sooner" "is_sooner" s_is_sooner f fd) (C_is_less : Cal P w K mg base CX0 1 "is_less" ["one", "other"] (sp_is_less K)) : FnG P w K mg base CX0 2 f fd ["aboves", "one", "other"] (sp_sooner K) := by
  refine Gfun F sc_is_sooner (fun vs H Q E h => ?_) (fun cdv A outer s H vs Q E hg hr h => ?_)
  · obtain ⟨L, i, j, xs, rs, rfl, _⟩ := h
    rfl
  · obtain ⟨L, i, j, xs, rs, rfl, hS, hA, hF, hB, hi, hj, k⟩ := h
    refine ⟨_, (pss_cons (ps_if (pt_cmpR (op_eqD hr.units) (pe_ix ix_list (pv 0) (pv 1) (fun _ _ => rfl)) (pe_ix ix_list (pv 0) (pv 2) (fun _ _ => rfl)) (nomark _))
      (pss_one (ps_ret (pe_cmpR op_lt (pv 1) (pv 2) (nomark _))))
      pss_nil)
      (pss_one (ps_ret (pe_g C_is_less (hr.mono (by decide)) hg (pa_cons (pe_ix ix_list (pv 0) (pv 2) (fun _ _ => rfl)) (pa_cons (pe_ix ix_list (pv 0) (pv 1) (fun _ _ => rfl)) pa_nil)))))), ?_⟩
    obtain ⟨gi, hgi⟩ : ∃ g, rs[i]? = some g := ⟨_, List.getElem?_eq_getElem hi⟩
    obtain ⟨gj, hgj⟩ : ∃ g, rs[j]? = some g := ⟨_, List.getElem?_eq_getElem hj⟩
    obtain ⟨vi, hvi, ai⟩ := hA.getF hgi
    obtain ⟨vj, hvj, aj⟩ := hA.getF hgj
    have fi := hF gi (List.mem_of_getElem? hgi)
    have fj := hF gj (List.mem_of_getElem? hgj)
    have bi := hB gi (List.mem_of_getElem? hgi)
    have bj := hB gj (List.mem_of_getElem? hgj)
    unfold soon at k
    rw [getD_of hgi, getD_of hgj] at k
    refine ⟨_, rfl, _, rfl, L, xs, _, _, rfl, rfl, hS, atI_nat hvi, _, rfl, _, rfl, L, xs, _, _, rfl, rfl, hS, atI_nat hvj, _, _, ai.dp, aj.dp, tD_shaped _, tD_shaped _, _, rfl, ?_⟩
    rw [eqv_tD]
    refine ite2 (fun e => ?_) (fun e => ?_)
    · rw [if_pos (of_decide_eq_true e)] at k
      refine ⟨_, rfl, _, rfl, _, _, rfl, rfl, ?_⟩
      have e2 : decide ((i : Int) < (j : Int)) = decide (i < j) := by
        by_cases z : i < j
        · rw [decide_eq_true z, decide_eq_true (by omega)]
        · rw [decide_eq_false z, decide_eq_false (by omega)]
      show Q (.bl (decide ((i : Int) < (j : Int)))) H
      rw [e2]
      exact k
    · rw [if_neg (fun z => e (decide_eq_true z))] at k
      exact ⟨_, rfl, _, rfl, L, xs, _, _, rfl, rfl, hS, atI_nat hvj, _, rfl, _, rfl, L, xs, _, _, rfl, rfl, hS, atI_nat hvi, _, _, _, _, pr_atk aj ai fj fi bj bi (by decide) (by decide), k⟩

/-! ### are_sooner -/
theorem sc_are_sooner : FnScope ["aboves", "place", "other"] ["aboves", "place"] (defScope s_are_sooner) := ⟨rfl, rfl, rfl, by decide +kernel, rfl, by decide +kernel, by decide +kernel⟩
def sp_aresooner (K : PySem.W.Frag) : Sp := fun vs H Q _ => ∃ (L : Addr) (j : Nat) (xs : List V) (rs : List (Int × Int)), vs = [.ref L, .int j] ∧ SqL K H L xs ∧ AtKs K H xs rs ∧ AllF rs ∧ AllB 636 rs ∧ rs.length ≤ 12 ∧ j < rs.length ∧ ∀ H', Same H H' → Q (.int (ahead rs j : Nat)) H'
theorem filt_step {n : Nat} {p : Nat → Bool} : (List.range (n + 1)).filter p = (List.range n).filter p ++ (if p n = true then [n] else []) := by
  rw [List.range_succ, List.filter_append]
  by_cases h : p n = true
  · rw [if_pos h]
    simp [h]
  · rw [if_neg h]
    simp [h]
theorem ok_aresooner {f : Addr} {fd : FuncData} (M : Blt mg) (F : Fun K "are_sooner" "are_sooner" s_are_sooner f fd) (C_is_sooner : Cal P w K mg base CX0 2 "is_sooner" ["aboves", "one", "other"] (sp_sooner K)) : FnG P w K mg base CX0 3 f fd ["aboves", "place"] (sp_aresooner K) := by
  refine Gfun F sc_are_sooner (fun vs H Q E h => ?_) (fun cdv A outer s H vs Q E hg hr h => ?_)
  · obtain ⟨L, j, xs, rs, rfl, _⟩ := h
    rfl
  · obtain ⟨L, j, xs, rs, rfl, hS, hA, hF, hB, h12, hj, k⟩ := h
    refine ⟨_, (pss_one (ps_ret (pe_callB call_len_seq rfl M.len bt_len (pa_cons (pe_lc (own := [("other", 2)]) (g := gName 2) rfl sc_are_sooner.nd (pi_range1 rfl M.range (pa_cons (pe_callB call_len_seq rfl M.len bt_len (pa_cons (pv 0) pa_nil)) pa_nil)) (blkOk_by (N := ["aboves", "place", "other"]) (sc := defScope s_are_sooner) (by decide +kernel)) (fun _ _ _ _ _ => pg_name (i := 2) sc_are_sooner.nd rfl (Or.inl rfl)) (fun _ _ _ _ _ => (pts_one (pt_val (pe_g C_is_sooner (hr.mono (by decide)) hg (pa_cons (pv 0) (pa_cons (pv 2) (pa_cons (pv 1) pa_nil))))))) (fun _ _ _ _ _ => (pv 2))) pa_nil)))), ?_⟩
    have hl := hA.length
    refine ⟨_, rfl, L, xs, rfl, .inl hS, _, rfl, by omega, by omega, fun D hD => ?_⟩
    refine lc_range (lo := 0) (n := Int.toNat (xs.length : Int)) (fun i H' => H' D = some (.lst (((List.range i).filter fun o => soon rs o j).map fun o : Nat => V.int (o : Int))) ∧ Same H H') ⟨upd_same, same_new hD⟩ ?_ ?_
    · rintro i H1 hi ⟨eD, sm⟩
      have hi' : i < rs.length := by omega
      refine ⟨rfl, _, rfl, _, rfl, _, rfl, L, i, j, xs, rs, (by show [V.ref L, V.int (0 + (i : Int)), V.int (j : Int)] = _; rw [Int.zero_add]), sm_l sm hS, hA.same sm, hF, hB, hi', hj, _, rfl, ?_⟩
      by_cases hb : soon rs i j = true
      · rw [hb]
        refine iteT ⟨_, rfl, _, eD, ?_, ?_, fun b o e => ?_⟩
        · rw [List.length_map, sizeLine_eq]
          have := List.length_filter_le (fun o => soon rs o j) (List.range i)
          rw [List.length_range] at this
          omega
        · rw [upd_same, filt_step, if_pos hb, List.map_append, Int.zero_add]
          rfl
        · rw [upd_ne (ne_of_none e hD)]
          exact sm _ _ e
      · have hb' : soon rs i j = false := by cases h : soon rs i j <;> simp_all
        rw [hb']
        refine iteF ⟨?_, sm⟩
        rw [eD, filt_step, if_neg hb, List.append_nil]
    · rintro H1 ⟨eD, sm⟩
      refine ⟨D, _, rfl, .inl (.inl (.inl eD)), ?_⟩
      have e : Int.toNat (xs.length : Int) = rs.length := by omega
      rw [List.length_map, e]
      exact k _ sm

end
end Lf

set_option Elab.async false
set_option linter.all false
set_option maxRecDepth 100000
set_option maxHeartbeats 4000000
set_option exponentiation.threshold 3000
namespace Lf
open PySem PySem.Spec PyProof.Rows L2
section
variable {P : Program} {w : World} {K : PySem.W.Frag} {mg : Str → Option Value} {base : Heap}

/-! ### nearest -/
theorem sc_nearest : FnScope ["weights", "step", "goals", "counted", "aboves", "more", "place", "aim"] ["weights", "step"] (defScope s_nearest) := ⟨rfl, rfl, rfl, by decide +kernel, rfl, by decide +kernel, by decide +kernel⟩
def sp_nearest (K : PySem.W.Frag) : Sp := fun vs H Q _ => ∃ (a : Addr) (v : V) (xs : List V) (fs : List (Int × Int)) (st : Int × Int), vs = [.ref a, v] ∧ Fit K H a v xs fs st ∧ ∀ H' D, Same H H' → H D = none → H' D = some (.lst ((cnt fs st).map V.int)) → Q (.ref D) H'
theorem AtK.updL {H : Hp} {L : Addr} {xs ys : List V} {v : V} {f : Int × Int} (hL : H L = some (.lst xs)) (h : AtK K H v f) : AtK K (L2.upd H L (.lst ys)) v f := by
  obtain ⟨p, e, h⟩ := h
  refine ⟨p, e, ?_⟩
  rcases h with (h | ⟨ob, h⟩) | h
  · exact .inl (.inl (by rw [upd_ne (fun z => by rw [z, hL] at h; cases h)]; exact h))
  · exact .inl (.inr ⟨ob, by rw [upd_ne (fun z => by rw [z, hL] at h; cases h)]; exact h⟩)
  · exact .inr h
theorem ok_nearest {f : Addr} {fd : FuncData} (M : Blt mg) (F : Fun K "nearest" "nearest" s_nearest f fd) (C_floor_of : Cal P w K mg base CX0 1 "floor_of" ["one"] (sp_floor K)) (C_above_floor : Cal P w K mg base CX0 6 "above_floor" ["one"] (sp_above K)) (C_aims : Cal P w K mg base CX0 8 "aims" ["weights", "step"] (sp_aimsX K)) (C_how_many_more : Cal P w K mg base CX0 9 "how_many_more" ["weights", "step"] (sp_more K)) (C_are_sooner : Cal P w K mg base CX0 3 "are_sooner" ["aboves", "place"] (sp_aresooner K)) : FnG P w K mg base CX0 10 f fd ["weights", "step"] (sp_nearest K) := by
  refine Gfun F sc_nearest (fun vs H Q E h => ?_) (fun cdv A outer s H vs Q E hg hr h => ?_)
  · obtain ⟨a, v, xs, fs, st, rfl, _⟩ := h
    rfl
  · obtain ⟨a, v, xs, fs, st, rfl, T, k⟩ := h
    refine ⟨_, (pss_cons (ps_set (i := 2) sc_nearest.nd rfl (.inl rfl) (pe_g C_aims (hr.mono (by decide)) hg (pa_cons (pv 0) (pa_cons (pv 1) pa_nil))))
      (pss_cons (ps_setLc (i := 3) (own := [("aim", 7)]) (g := gName 7) (tt := tYes) rfl sc_nearest.nd rfl rfl (sw_true rfl rfl rfl (by decide +kernel)) (pi_list (pv 2)) (blkOk_by (N := ["weights", "step", "goals", "counted", "aboves", "more", "place", "aim"]) (sc := defScope s_nearest) (by decide +kernel)) (fun _ _ _ _ _ => pg_name (i := 7) sc_nearest.nd rfl (Or.inl rfl)) (fun _ _ _ _ _ => pts_nil) (fun _ _ _ _ _ => (pe_g C_floor_of (hr.mono (by decide)) hg (pa_cons (pv 7) pa_nil))))
      (pss_cons (ps_setLc (i := 4) (own := [("aim", 7)]) (g := gName 7) (tt := tYes) rfl sc_nearest.nd rfl rfl (sw_true rfl rfl rfl (by decide +kernel)) (pi_list (pv 2)) (blkOk_by (N := ["weights", "step", "goals", "counted", "aboves", "more", "place", "aim"]) (sc := defScope s_nearest) (by decide +kernel)) (fun _ _ _ _ _ => pg_name (i := 7) sc_nearest.nd rfl (Or.inl rfl)) (fun _ _ _ _ _ => pts_nil) (fun _ _ _ _ _ => (pe_g C_above_floor (hr.mono (by decide)) hg (pa_cons (pv 7) pa_nil))))
      (pss_cons (ps_set (i := 5) sc_nearest.nd rfl (.inl rfl) (pe_g C_how_many_more (hr.mono (by decide)) hg (pa_cons (pv 0) (pa_cons (pv 1) pa_nil))))
      (pss_cons (ps_for PassesOwn.never rfl (pi_range1 rfl M.range (pa_cons (pe_callB call_len_seq rfl M.len bt_len (pa_cons (pv 2) pa_nil)) pa_nil)) (pg_name (i := 6) sc_nearest.nd rfl (.inl rfl))
      (pss_one (ps_if (pt_cmpR op_lt (pe_g C_are_sooner (hr.mono (by decide)) hg (pa_cons (pv 4) (pa_cons (pv 6) pa_nil))) (pv 5) (nomark _))
      (pss_one (ps_augS (pv 3) (pv 6) get_listN pe_int ip_add set_list))
      pss_nil)))
      (pss_one (ps_ret (pv 3)))))))), ?_⟩
    have am := aims_am T.w T.s
    have h12 := T.w.few
    refine ⟨_, rfl, _, rfl, a, v, xs, fs, st, rfl, T, fun H1 D ys s1 nD eD hy => ?_⟩
    have hyl := hy.length
    rw [aims_len] at hyl
    have hyH : AtKs K H1 ys (aimsF fs st) := hy.same wo_le
    -- the floors
    refine ⟨_, rfl, D, rfl, ⟨_, .inl (.inl eD)⟩, fun D2 hD2 => lc_list (xs := ys) (fun i H' => H' D2 = some (.lst ((((aimsF fs st).map fl).take i).map V.int)) ∧ Same H1 H') ⟨upd_same, same_new hD2⟩ (fun i H' _ h => sm_l h.2 (.inl (.inl eD))) ?_ ?_⟩
    · rintro i x H2 hx ⟨e2, s2⟩
      obtain ⟨g, hgi, hg0⟩ := hyH.get hx
      have ag := am g (List.mem_of_getElem? hgi)
      refine ⟨rfl, _, rfl, x, g, rfl, hg0.same s2, ag.lo.ne, Sm.mid (ag.bt.sm (by decide)).2, _, e2, ?_, ?_, fun b o e => ?_⟩
      · rw [List.length_map, List.length_take, List.length_map, aims_len, sizeLine_eq]
        omega
      · rw [upd_same, List.take_add_one, List.getElem?_map, hgi, List.map_append]
        rfl
      · rw [upd_ne (ne_of_none e hD2)]
        exact s2 _ _ e
    · rintro H2 ⟨e2, s2⟩
      rw [show ys.length = ((aimsF fs st).map fl).length by rw [List.length_map, aims_len, hyl], List.take_length, ← part_0] at e2
      have nD2 : H D2 = none := same_none s1 hD2
      -- what is above them
      refine ⟨_, rfl, D, rfl, ⟨_, .inl (.inl (s2 _ _ eD))⟩, fun D3 hD3 => lc_list (xs := ys) (fun i H' => (∃ zs, H' D3 = some (.lst zs) ∧ AtKs K (wo D3 H') zs (((aimsF fs st).map rst).take i)) ∧ Same H2 H') ⟨⟨[], upd_same, .nil⟩, same_new hD3⟩ (fun i H' _ h => sm_l (s2.trans h.2) (.inl (.inl eD))) ?_ ?_⟩
      · rintro i x H3 hx ⟨⟨zs, e3, hz⟩, s3⟩
        obtain ⟨g, hgi, hg0⟩ := hyH.get hx
        have ag := am g (List.mem_of_getElem? hgi)
        refine ⟨rfl, _, rfl, x, g, rfl, hg0.same (s2.trans s3), ag, fun H4 p4 s4 e4 => ?_⟩
        have hzl := hz.length
        rw [List.length_take, List.length_map, aims_len] at hzl
        have n4 : p4 ≠ D3 := fun z => by
          rw [z, s4 _ _ e3] at e4
          cases e4
        refine ⟨zs, s4 _ _ e3, by rw [sizeLine_eq]; omega, ⟨zs ++ [.ref p4], upd_same, ?_⟩, fun b o e => ?_⟩
        · rw [List.take_add_one, List.getElem?_map, hgi]
          have s7 : Same (wo D3 H3) (wo D3 (L2.upd H4 D3 (.lst (zs ++ [.ref p4])))) := fun b o e => wo_at (wo_not e) (by rw [upd_ne (wo_not e)]; exact s4 _ _ (wo_le _ _ e))
          refine (hz.same s7).app (.cons (AtK.of (wo_at n4 ?_)) .nil)
          rw [upd_ne n4]
          exact e4
        · rw [upd_ne (ne_of_none e hD3)]
          exact s4 _ _ (s3 _ _ e)
      · rintro H3 ⟨⟨zs, e3, hz⟩, s3⟩
        rw [show ys.length = ((aimsF fs st).map rst).length by rw [List.length_map, aims_len, hyl], List.take_length] at hz
        have hzH : AtKs K H3 zs ((aimsF fs st).map rst) := hz.same wo_le
        have s03 := (s1.trans s2).trans s3
        refine ⟨_, rfl, _, rfl, a, v, xs, fs, st, rfl, T.same s03, fun H4 s4 => ?_⟩
        have s04 := s03.trans s4
        have e24 : H4 D2 = some (.lst ((part fs st 0).map V.int)) := s4 _ _ (s3 _ _ e2)
        have e34 := s4 _ _ e3
        have eD4 : H4 D = some (.lst ys) := s4 _ _ (s3 _ _ (s2 _ _ eD))
        have hz4 : AtKs K H4 zs ((aimsF fs st).map rst) := hzH.same s4
        have ne32 : D3 ≠ D2 := fun z => by
          rw [z, e2] at hD3
          cases hD3
        have rF : AllF ((aimsF fs st).map rst) := fun g hg => by
          obtain ⟨y, hy, rfl⟩ := List.mem_map.mp hg
          exact rst_f (am y hy).lo
        have rB : AllB 636 ((aimsF fs st).map rst) := fun g hg => by
          obtain ⟨y, hy, rfl⟩ := List.mem_map.mp hg
          exact rst_bt (am y hy).lo (am y hy).bt
        have rl : ((aimsF fs st).map rst).length = fs.length := by rw [List.length_map, aims_len]
        refine ⟨_, rfl, D, ys, rfl, .inl (.inl (.inl eD4)), _, rfl, by omega, by omega, ?_⟩
        refine for_range (lo := 0) (n := Int.toNat (ys.length : Int)) (fun i σ H' => ∃ (y5 y6 : Option V), σ = [some (.ref a), some v, some (.ref D), some (.ref D2), some (.ref D3), some (.int (more fs st)), y5, y6] ∧ H' D2 = some (.lst ((part fs st i).map V.int)) ∧ H' D3 = some (.lst zs) ∧ AtKs K H' zs ((aimsF fs st).map rst) ∧ Same H H') ⟨_, _, rfl, e24, e34, hz4, s04⟩ ?_ ?_
        · rintro i σ H5 hi ⟨y5, y6, rfl, e5, f5, hz5, s5⟩
          have hi' : i < fs.length := by omega
          refine ⟨_, rfl, _, rfl, D3, i, zs, _, (by show [V.ref D3, V.int (0 + (i : Int))] = _; rw [Int.zero_add]), .inl (.inl f5), hz5, rF, rB, by omega, by omega, fun H6 s6 => ⟨_, rfl, _, _, rfl, rfl, _, rfl, ite2 (fun e => ?_) (fun e => ?_)⟩⟩
          · have hlt : (ahead ((aimsF fs st).map rst) i : Int) < more fs st := of_decide_eq_true e
            have hc : cntAt fs st i = fl ((aimsF fs st).getD i f0) + 1 := by
              unfold cntAt
              rw [if_pos hlt]
            have hget : ((part fs st i).map V.int)[i]? = some (.int (fl ((aimsF fs st).getD i f0))) := by
              rw [List.getElem?_map, part_get hi', if_neg (Nat.lt_irrefl i)]
              rfl
            refine ⟨_, rfl, _, rfl, D2, _, i, _, rfl, (by rw [Int.zero_add]), .inl (.inl (s6 _ _ e5)), hget, by omega, ?_⟩
            refine ⟨_, _, rfl, rfl, D2, _, _, i, rfl, rfl, s6 _ _ e5, ?_, ?_⟩
            · rw [Int.zero_add]
              unfold ixN
              have h1 : ¬ (i : Int) < 0 := by omega
              simp [h1, part_len, hi']
            refine ⟨_, _, rfl, ?_, ?_, ?_, fun b o eb => ?_⟩
            · rw [upd_same, part_set hi', hc, List.map_set]
            · rw [upd_ne ne32]
              exact s6 _ _ f5
            · exact (hz5.same s6).map fun _ _ => AtK.updL (s6 _ _ e5)
            · rw [upd_ne (ne_of_none eb nD2)]
              exact s6 _ _ (s5 _ _ eb)
          · have hlt : ¬ (ahead ((aimsF fs st).map rst) i : Int) < more fs st := fun z => e (decide_eq_true z)
            have hc : cntAt fs st i = fl ((aimsF fs st).getD i f0) := by
              unfold cntAt
              rw [if_neg hlt, Int.add_zero]
            refine ⟨_, _, rfl, ?_, s6 _ _ f5, hz5.same s6, s5.trans s6⟩
            rw [part_stay hc]
            exact s6 _ _ e5
        · rintro σ H5 ⟨y5, y6, rfl, e5, f5, hz5, s5⟩
          rw [show Int.toNat (ys.length : Int) = fs.length by omega, part_n] at e5
          exact ⟨_, rfl, k H5 D2 s5 nD2 e5⟩

end
end Lf

set_option Elab.async false
set_option linter.all false
set_option maxRecDepth 100000
set_option maxHeartbeats 4000000
/-! zip of a list and a tuple, in a loop. -/
namespace Lf
open PySem PySem.Spec PyProof.Rows L2
/-- a list and a tuple side by side -/
def Its (K : PySem.W.Frag) (a b : Addr) : It where
  go := fun i H => ∃ xs ys : List V, SqL K H a xs ∧ SqT K H b ys ∧ i < xs.length ∧ i < ys.length
  yld := fun i H v H' => ∃ (T : Addr) (x y : V), v = .ref T ∧ H T = none ∧ H' = L2.upd H T (.tup [x, y]) ∧ (∀ xs, SqL K H a xs → xs[i]? = some x) ∧ ∀ ys, SqT K H b ys → ys[i]? = some y
  stop := fun i H => ∃ xs ys : List V, SqL K H a xs ∧ SqT K H b ys ∧ i ≤ xs.length ∧ i ≤ ys.length ∧ (i = xs.length ∨ i = ys.length)
/-- the five cells, and how far they have come -/
def StZ (z TI TO i1 i2 a b : Addr) (i : Nat) (h : Heap) : Prop := IsZip h z TI TO .none ∧ IsTupOf2 h TI (.ref i1) (.ref i2) ∧ (∃ x y, IsTupOf2 h TO x y) ∧ h.IsListIter i1 a i ∧ h.IsTupleIter i2 b i
theorem five {z TI TO i1 i2 c : Addr} (h : c ∈ [z, TI, TO, i1, i2]) : c = z ∨ c = TI ∨ c = TO ∨ c = i1 ∨ c = i2 := by simpa using h
theorem not5 {z TI TO i1 i2 c : Addr} (h : c ∉ [z, TI, TO, i1, i2]) : c ≠ z ∧ c ≠ TI ∧ c ≠ TO ∧ c ≠ i1 ∧ c ≠ i2 := by simpa using h
theorem its_turn {P : Program} {w : World} {K : PySem.W.Frag} {elts : List Expr} {kk : Nat} {tpos : Pos} {a b z TI TO i1 i2 : Addr} (S : ZipSep2 z TI TO i1 i2 [i1, a] [i2, b]) (na : a ≠ i1) (nb : b ≠ i2) :
    Turn P w K (.Tuple elts kk tpos) (Its K a b) [z, TI, TO, i1, i2] z (StZ z TI TO i1 i2 a b) where
  mem := List.mem_cons_self
  self := fun A i s Q E st h => wpAny_pyIter_zip st.1 h
  keep := fun i h h' ⟨e1, e2, ⟨x, y, e3⟩, e4, e5⟩ k =>
    ⟨k z (by simp) _ e1, k TI (by simp) _ e2, ⟨x, y, k TO (by simp) _ e3⟩, e4.at fun o q => k i1 (by simp) o q, e5.at fun o q => k i2 (by simp) o q⟩
  obj := fun i h ⟨e1, e2, ⟨x, y, e3⟩, ⟨o1, f1, _, g1⟩, ⟨o2, f2, _, g2⟩⟩ c hc => by
    rcases five hc with q | q | q | q | q <;> subst q
    · exact ⟨_, e1, fun v q => nomatch q⟩
    · exact ⟨_, e2, fun v q => nomatch q⟩
    · exact ⟨_, e3, fun v q => nomatch q⟩
    · exact ⟨o1, f1, fun v q => by rw [g1] at q; cases q⟩
    · exact ⟨o2, f2, fun v q => by rw [g2] at q; cases q⟩
  done := fun X hP hw hK hc i pins s σ H E I hf ⟨e1, e2, ⟨x, y, e3⟩, e4, e5⟩ ⟨xs, ys, hx, hy, l1, l2, hend⟩ => by
    subst hP hw hK
    obtain ⟨as, ra, pa, _⟩ := I.list hx
    obtain ⟨bs, rb, pb, _⟩ := I.tuple hy
    have na_ := ra.length
    have nb_ := rb.length
    have hd : X.A.in1.handled = none := I.ok.hd hc
    refine wpAny_pyNext_zipD2_end S (Draws.list hd i1 a na as.toArray) (Draws.tuple hd i2 b nb bs.toArray) e1 e2 e3 ⟨e4, pa.isList⟩ ⟨e5, pb⟩ (by rw [List.size_toArray]; omega) (by rw [List.size_toArray]; omega) (by rw [List.size_toArray, List.size_toArray]; omega) fun h' tk hk => ⟨rfl, ?_⟩
    exact I.turnedL (ch := [z, TI, TO, i1, i2]) (fun c o hb q => by
      obtain ⟨n1, _, n3, n4, n5⟩ := not5 hb
      exact hk c o n1 n3 n4 n5 q) hf
  item := fun X hP hw hK hc i pins s σ H E I hf ⟨e1, e2, ⟨x0, y0, e3⟩, e4, e5⟩ ⟨xs, ys, hx, hy, l1, l2⟩ => by
    subst hP hw hK
    obtain ⟨as, ra, pa, _⟩ := I.list hx
    obtain ⟨bs, rb, pb, _⟩ := I.tuple hy
    have na_ := ra.length
    have nb_ := rb.length
    have hd : X.A.in1.handled = none := I.ok.hd hc
    have zlt : z < s.heap.objs.size := Heap.lt_size e1
    refine wpAny_pyNext_zipD2_item S (Draws.list hd i1 a na as.toArray) (Draws.tuple hd i2 b nb bs.toArray) e1 e2 e3 ⟨e4, pa.isList⟩ ⟨e5, pb⟩ (by rw [List.size_toArray]; omega) (by rw [List.size_toArray]; omega) fun u v h' tk hu hv z' TO' s1' s2' hT hsz hk => ⟨_, rfl, ?_⟩
    refine wpAny_letOwnedTupleGo_zip (s := { s with heap := h', toks := tk }) z' fun h2 z2 sb => ?_
    have ex : xs[i]? = some xs[i] := List.getElem?_eq_getElem l1
    have ey : ys[i]? = some ys[i] := List.getElem?_eq_getElem l2
    obtain ⟨u', hu', ru⟩ := ra.get ex
    obtain ⟨v', hv', rv⟩ := rb.get ey
    obtain rfl : u' = u := Option.some.inj (hu'.symm.trans (by simpa using hu))
    obtain rfl : v' = v := Option.some.inj (hv'.symm.trans (by simpa using hv))
    have nz : s.heap.objs.size ≠ z := Nat.ne_of_gt zlt
    have hT2 := (sb.2 _ nz).trans hT
    have new : ObjOk X.prog X.w (L2.upd H s.heap.objs.size (.tup [xs[i], ys[i]])) h2 s.heap.objs.size (.tup [xs[i], ys[i]]) :=
      ⟨Nat.le_of_ble_eq_true rfl, [u', v'], .cons ru (.cons rv .nil), ⟨_, hT2, rfl, _, rfl⟩⟩
    have I2 := I.turnedNew (t' := tk) (ch := [z, TI, TO, i1, i2]) (fun c o hb q => by
      obtain ⟨n1, _, n3, n4, n5⟩ := not5 hb
      exact (sb.2 c n1).trans (hk c o n1 n3 n4 n5 q)) hf (Nat.le_refl _) new
    have n1z : i1 ≠ z := fun q => S.zi1 q.symm
    have n2z : i2 ≠ z := fun q => S.zi2 q.symm
    refine ⟨.ref s.heap.objs.size, _, I2, rfl, ⟨_, xs[i], ys[i], rfl, I.hok.fresh (Nat.le_refl _), rfl, fun ls h => by rw [I.list_inj h hx]; exact ex, fun ls h => by rw [I.tuple_inj h hy]; exact ey⟩, ⟨z2, ?_, ⟨u', v', ?_⟩, ?_, ?_⟩, fun c hcm => ?_⟩
    · exact (sb.2 _ S.TIz).trans (hk _ _ S.TIz S.TITO S.TIi1 S.TIi2 e2)
    · exact (sb.2 _ S.TOz).trans TO'
    · exact s1'.1.at fun o q => (sb.2 _ n1z).trans q
    · exact s2'.1.at fun o q => (sb.2 _ n2z).trans q
    · have lt : c < s.heap.objs.size := by
        obtain ⟨_, f1, _⟩ := e4
        obtain ⟨_, f2, _⟩ := e5
        rcases five hcm with q | q | q | q | q <;> subst q
        · exact zlt
        · exact Heap.lt_size e2
        · exact Heap.lt_size e3
        · exact Heap.lt_size f1
        · exact Heap.lt_size f2
      rw [upd_ne (Nat.ne_of_lt lt)]
      exact (hf c hcm).1
theorem nin2 {x y z : Nat} (h1 : x ≠ y) (h2 : x ≠ z) : x ∉ [y, z] := by simp [h1, h2]
theorem sep5 {N a b : Nat} (la : a < N) (lb : b < N) : ZipSep2 (N + 4) (N + 2) (N + 3) N (N + 1) [N, a] [N + 1, b] :=
  have f : ∀ {x y : Nat}, x < y ∨ y < x → x ≠ y := fun {x y} h z => by omega
  ⟨f (by omega), f (by omega), f (by omega), f (by omega), List.mem_cons_self, nin2 (f (by omega)) (f (by omega)), nin2 (f (by omega)) (f (by omega)), f (by omega), List.mem_cons_self,
    nin2 (f (by omega)) (f (by omega)), nin2 (f (by omega)) (f (by omega)), nin2 (f (by omega)) (f (by omega)), nin2 (f (by omega)) (f (by omega))⟩
def iZs (K : PySem.W.Frag) (ta : TA) : TI := fun σ H R => ta σ H fun vs H1 => ∃ (a b : Addr) (xs ys : List V), vs = [.ref a, .ref b] ∧ SqL K H1 a xs ∧ SqT K H1 b ys ∧ R (Its K a b) H1
theorem pi_zipLT {X : Cx} {e e2 : Expr} {ta : TA} {p pos tpos : Pos} {elts : List Expr} {kk : Nat} (hg : Gl X "zip") (hm : X.mg "zip" = none) (ha : PA X [e, e2] ta)
    (hs : starEach [e, e2] X.env = (false, eval e X.env) :: starEach [e2] X.env := by rfl) (hpl : (backTo pos (starEach [e2] X.env)).any (·.1) = false := by rfl) :
    PI X (.Tuple elts kk tpos) (.Call (.Name "zip" p) [e, e2] [] pos) (iZs X.K ta) := by
  refine ⟨fun pins s σ H R I h => Call_ (ld_blt I hg hm boot_zip (callWith_type1 (thn (ha.run pos pins s σ H _ I h) fun us s1 ⟨vs, H1, I1, r1, a, b, xs, ys, ex, hx, hy, q⟩ => ?_) hs hpl))⟩
  subst ex
  obtain ⟨u1, u2, rfl, ra, rb⟩ := vals2 r1
  obtain ⟨as, _, pa, _⟩ := I1.list hx
  obtain ⟨bs, _, pb, _⟩ := I1.tuple hy
  cases ra
  cases rb
  have la : a < s1.heap.objs.size := pa.lt
  have lb : b < s1.heap.objs.size := by
    obtain ⟨_, f, _⟩ := id pb
    exact Heap.lt_size f
  refine zip_begins2 (begins_list a as.toArray) (begins_tuple b bs.toArray) pa.isList pb fun h' hz hTI hTO h1 h2 hsz hk => wpAny_pyIter_zip hz ?_
  have I2 : Inv X pins σ H1 { s1 with heap := h' } := I1.kept (t' := s1.toks) hk
  generalize eN : s1.heap.objs.size = N at *
  have S := sep5 la lb
  refine ⟨N + 4, [N + 4, N + 2, N + 3, N, N + 1], _, _, H1, rfl, I2, its_turn S (Nat.ne_of_lt la) (Nat.ne_of_lt (Nat.lt_succ_of_lt lb)), ⟨hz, hTI, ⟨_, _, hTO⟩, ⟨_, h1, rfl, rfl⟩, ⟨_, h2, rfl, rfl⟩⟩, fun c hc => ?_, q⟩
  have le : N ≤ c := by
    rcases five hc with q | q | q | q | q <;> rw [q]
    · exact Nat.le_add_right _ _
    · exact Nat.le_add_right _ _
    · exact Nat.le_add_right _ _
    · exact Nat.le_refl _
    · exact Nat.le_add_right _ _
  exact I1.fpOk (by rw [eN]; exact le) (I1.hok.fresh (by rw [eN]; exact le))
/-- a loop over a list and a tuple of one length -/
theorem for_zipLT {K : PySem.W.Frag} {a b : Addr} {xs ys : List V} {g : TG} {tb : TS} {D : Ends} {σ : L2.St} {H : Hp} (hl : xs.length = ys.length) (Pv : Nat → L2.St → Hp → Prop) (h0 : Pv 0 σ H) (hq : ∀ i σ H, Pv i σ H → SqL K H a xs ∧ SqT K H b ys)
    (hs : ∀ (i : Nat) (x y : V) (T : Addr) (σ : L2.St) (H : Hp), xs[i]? = some x → ys[i]? = some y → Pv i σ H → H T = none → g (.ref T) σ (L2.upd H T (.tup [x, y])) fun σ2 H2 => tb { D with nx := Pv (i + 1), ct := Pv (i + 1), bk := D.nx } σ2 H2) (hd : ∀ σ H, Pv xs.length σ H → D.nx σ H) :
    ∃ W : Nat → Nat → L2.St → Hp → Prop, (∃ m, W 0 m σ H) ∧ ∀ i m σ H, W i m σ H →
      ((Its K a b).stop i H ∧ D.nx σ H) ∨ ((Its K a b).go i H ∧ ∃ N : L2.St → Hp → Prop, (∀ σ' H', N σ' H' → ∃ m', m' < m ∧ W (i + 1) m' σ' H') ∧ ∀ v H', (Its K a b).yld i H v H' → g v σ H' fun σ2 H2 => tb { D with nx := N, ct := N, bk := D.nx } σ2 H2) := by
  refine ⟨fun i m σ H => m + i = xs.length ∧ Pv i σ H, ⟨xs.length, rfl, h0⟩, fun i m σ H ⟨hm, p⟩ => ?_⟩
  obtain ⟨qx, qy⟩ := hq i σ H p
  cases m with
  | zero =>
    obtain rfl : i = xs.length := by omega
    exact .inl ⟨⟨xs, ys, qx, qy, Nat.le_refl _, by omega, .inl rfl⟩, hd σ H p⟩
  | succ m =>
    refine .inr ⟨⟨xs, ys, qx, qy, by omega, by omega⟩, Pv (i + 1), fun σ' H' p' => ⟨m, Nat.lt_succ_self m, by omega, p'⟩, fun v H' ⟨T, x, y, e1, e2, e3, f1, f2⟩ => ?_⟩
    subst e1 e3
    exact hs i x y T σ H (f1 xs qx) (f2 ys qy) p e2
end Lf

set_option Elab.async false
set_option linter.all false
set_option maxRecDepth 100000
set_option maxHeartbeats 4000000
set_option exponentiation.threshold 3000
namespace Lf
open PySem PySem.Spec PyProof.Rows L2
section
variable {P : Program} {w : World} {K : PySem.W.Frag} {mg : Str → Option Value} {base : Heap}

/-! ### worst_of -/
theorem sc_worst_of : FnScope ["weights", "step", "counted", "worst", "aim", "count", "top", "bottom"] ["weights", "step", "counted"] (defScope s_worst_of) := ⟨rfl, rfl, rfl, by decide +kernel, rfl, by decide +kernel, by decide +kernel⟩
def sp_worst (K : PySem.W.Frag) : Sp := fun vs H Q _ => ∃ (a Lc : Addr) (v : V) (xs : List V) (fs : List (Int × Int)) (st : Int × Int) (cs : List Int), vs = [.ref a, v, .ref Lc] ∧ Fit K H a v xs fs st ∧ SqL K H Lc (cs.map V.int) ∧ cs.length = fs.length ∧ Near 800 (aimsF fs st) cs ∧ ∀ H' u, Same H H' → AtK K H' u (worst (aimsF fs st) cs) → Q u H'
theorem ok_worst {f c0 : Addr} {fd : FuncData} (M : Blt mg) (Mz : mg "zip" = none) (g0 : mg "NONE_OF_IT" = some (.ref c0)) (t0 : ∀ H, SqT K H c0 [.int 0, .int 1]) (F : Fun K "worst_of" "worst_of" s_worst_of f fd) (C_aims : Cal P w K mg base CX0 8 "aims" ["weights", "step"] (sp_aimsX K)) (C_minus : Cal P w K mg base CX0 5 "minus" ["one", "other"] (sp_minus K)) (C_is_less : Cal P w K mg base CX0 1 "is_less" ["one", "other"] (sp_is_less K)) : FnG P w K mg base CX0 9 f fd ["weights", "step", "counted"] (sp_worst K) := by
  refine Gfun F sc_worst_of (fun vs H Q E h => ?_) (fun cdv A outer s H vs Q E hg hr h => ?_)
  · obtain ⟨a, Lc, v, xs, fs, st, cs, rfl, _⟩ := h
    rfl
  · obtain ⟨a, Lc, v, xs, fs, st, cs, rfl, T, hC, hcl, hN, k⟩ := h
    refine ⟨_, (pss_cons (ps_set (i := 3) sc_worst_of.nd rfl (.inl rfl) (pe_glob (v := .ref c0) rfl g0 rfl))
      (pss_cons (ps_for PassesOwn.never rfl (RZ.pi_zipA rfl Mz (pa_cons (pe_g C_aims (hr.mono (by decide)) hg (pa_cons (pv 0) (pa_cons (pv 1) pa_nil))) (pa_cons (pv 2) pa_nil))) (pg_tup rfl (pgs_cons (pg_name (i := 4) sc_worst_of.nd rfl (.inl rfl)) (pgs_cons (pg_name (i := 5) sc_worst_of.nd rfl (.inl rfl)) pgs_nil)))
      (pss_cons (ps_asg (pe_g C_minus (hr.mono (by decide)) hg (pa_cons (pe_tup (pa_cons (pv 5) (pa_cons pe_int pa_nil))) (pa_cons (pv 4) pa_nil))) (pg_tup rfl (pgs_cons (pg_name (i := 6) sc_worst_of.nd rfl (.inl rfl)) (pgs_cons (pg_name (i := 7) sc_worst_of.nd rfl (.inl rfl)) pgs_nil))))
      (pss_one (ps_if (pt_val (pe_g C_is_less (hr.mono (by decide)) hg (pa_cons (pv 3) (pa_cons (pe_tup (pa_cons (pe_callB call_abs rfl M.abs bt_abs (pa_cons (pv 6) pa_nil)) (pa_cons (pv 7) pa_nil))) pa_nil))))
      (pss_one (ps_set (i := 3) sc_worst_of.nd rfl (.inl rfl) (pe_tup (pa_cons (pe_callB call_abs rfl M.abs bt_abs (pa_cons (pv 6) pa_nil)) (pa_cons (pv 7) pa_nil)))))
      pss_nil))))
      (pss_one (ps_ret (pv 3))))), ?_⟩
    have am := aims_am T.w T.s
    have aF : AllF (aimsF fs st) := fun f hf => (am f hf).lo
    refine ⟨_, rfl, _, rfl, a, v, xs, fs, st, rfl, T, fun H1 D ys s1 nD eD hy => ?_⟩
    have hyl := hy.length
    rw [aims_len] at hyl
    have hyH : AtKs K H1 ys (aimsF fs st) := hy.same wo_le
    have hn : fs.length = min ys.length (cs.map V.int).length := by
      rw [List.length_map]
      omega
    refine ⟨_, rfl, D, Lc, ys, cs.map V.int, rfl, .inl ⟨.inl (.inl eD), sm_l s1 hC, for_it (walk_zip (xs := ys) (ys := cs.map V.int) hn) (fun i σ H' => ∃ (y1 y2 y3 y4 : Option V) (tv : V), σ = [some (.ref a), some v, some (.ref Lc), some tv, y1, y2, y3, y4] ∧ Same H1 H' ∧ AtK K H' tv ((((aimsF fs st).zip cs).take i).foldl wst f0))
      ⟨_, _, _, _, .ref c0, rfl, same_rfl, ⟨c0, rfl, t0 H1⟩⟩ (fun i σ H' _ ⟨_, _, _, _, _, _, sm, _⟩ => ⟨.inl (.inl (sm _ _ eD)), sm_l (s1.trans sm) hC⟩) ?_ ?_⟩⟩
    · rintro i x σ H3 H4 hi ⟨y1, y2, y3, y4, tv, rfl, s3, ht⟩ ⟨T', x1, z1, rfl, hT, rfl, hx1, hz1⟩
      have s4 : Same H3 (L2.upd H3 T' (.tup [x1, z1])) := same_new hT
      have t4 : SqT K (L2.upd H3 T' (.tup [x1, z1])) T' [x1, z1] := .inl (.inl upd_same)
      generalize L2.upd H3 T' (.tup [x1, z1]) = H4 at s4 t4 ⊢
      have s34 := s3.trans s4
      obtain ⟨g, hgi, hg0⟩ := hyH.get (show ys[i]? = some x1 from hx1)
      obtain ⟨c, hci, rfl⟩ : ∃ c, cs[i]? = some c ∧ z1 = .int c := by
        have hz : (cs.map V.int)[i]? = some z1 := hz1
        rw [List.getElem?_map] at hz
        cases e : cs[i]? with
        | none => rw [e] at hz; cases hz
        | some c => rw [e] at hz; exact ⟨c, rfl, (Option.some.inj hz).symm⟩
      have ag := am g (List.mem_of_getElem? hgi)
      have hmem : (g, c) ∈ (aimsF fs st).zip cs := List.mem_of_getElem? (show ((aimsF fs st).zip cs)[i]? = some (g, c) by rw [List.getElem?_zip_eq_some]; exact ⟨hgi, hci⟩)
      obtain ⟨nb, cb⟩ := hN _ hmem
      have cb' : c.natAbs < 2 ^ 800 := cb
      have nb' : Bt 800 (far g c) := nb
      refine ⟨T', _, rfl, t4, rfl, _, _, rfl, _, _, rfl, rfl, ?_⟩
      refine ⟨_, rfl, len_show (Nat.le_of_ble_eq_true rfl), fun p5 n5 => ?_⟩
      have s5 : Same H4 (L2.upd H4 p5 (.tup [.int c, .int 1])) := same_new n5
      have a5 : AtK K (L2.upd H4 p5 (.tup [.int c, .int 1])) (.ref p5) (c, 1) := AtK.of upd_same
      generalize L2.upd H4 p5 (.tup [.int c, .int 1]) = H5 at s5 a5 ⊢
      have hx5 := (hg0.same s34).same s5
      have c1b : Bt 800 (c, 1) := ⟨cb', Nat.one_lt_two_pow (by decide)⟩
      refine ⟨_, rfl, _, _, _, _, pr_atk a5 hx5 (m1_f _) ag.lo c1b ag.bt (by decide) (by decide), fun H6 p6 s6 e6 => ?_⟩
      have t6 : SqT K H6 p6 [.int (fsub (c, 1) g).1, .int (fsub (c, 1) g).2] := .inl (.inl e6)
      have hfp := far_prog ag.lo c
      have h1 : (if (fsub (c, 1) g).1 < 0 then -(fsub (c, 1) g).1 else (fsub (c, 1) g).1) = (far g c).1 := by rw [abs_is, ← hfp]
      have h2 : (fsub (c, 1) g).2 = (far g c).2 := by rw [← hfp]
      refine ⟨p6, _, rfl, t6, rfl, _, _, rfl, _, _, rfl, rfl, ?_⟩
      have s16 := (s34.trans s5).trans s6
      have ht6 : AtK K H6 tv ((((aimsF fs st).zip cs).take i).foldl wst f0) := ((ht.same s4).same s5).same s6
      obtain ⟨wF, wB, _⟩ := worst_ok (k := 800) aF (by decide) hN i
      refine ⟨_, rfl, _, rfl, _, rfl, _, rfl, len_show (Nat.le_of_ble_eq_true rfl), fun p7 n7 => ?_⟩
      rw [h1, h2]
      have s7 : Same H6 (L2.upd H6 p7 (.tup [.int (far g c).1, .int (far g c).2])) := same_new n7
      have a7 : AtK K (L2.upd H6 p7 (.tup [.int (far g c).1, .int (far g c).2])) (.ref p7) (far g c) := AtK.of upd_same
      generalize L2.upd H6 p7 (.tup [.int (far g c).1, .int (far g c).2]) = H7 at s7 a7 ⊢
      refine ⟨_, _, _, _, pr_atk (ht6.same s7) a7 wF (far_f ag.lo c) wB nb' (by decide) (by decide), ?_⟩
      have hst := worst_step (cs := cs) hgi hci
      have s17 := s16.trans s7
      refine ⟨_, rfl, ite2 (fun e => ?_) (fun e => ?_)⟩
      · refine ⟨_, rfl, _, rfl, _, rfl, len_show (Nat.le_of_ble_eq_true rfl), fun p8 n8 => ?_⟩
        rw [h1]
        have s8 : Same H7 (L2.upd H7 p8 (.tup [.int (far g c).1, .int (far g c).2])) := same_new n8
        have a8 : AtK K (L2.upd H7 p8 (.tup [.int (far g c).1, .int (far g c).2])) (.ref p8) (far g c) := AtK.of upd_same
        refine ⟨_, _, _, _, _, rfl, s17.trans s8, ?_⟩
        rw [hst]
        unfold wmax
        rw [if_pos (show lessB _ _ = true from e)]
        exact a8
      · refine ⟨_, _, _, _, _, rfl, s17, ?_⟩
        rw [hst]
        unfold wmax
        rw [if_neg (show ¬ lessB _ _ = true from e)]
        exact ht6.same s7
    · rintro σ H3 ⟨y1, y2, y3, y4, tv, rfl, s3, ht⟩
      refine ⟨_, rfl, k H3 tv (s1.trans s3) ?_⟩
      rw [List.take_of_length_le (by rw [List.length_zip, aims_len]; omega)] at ht
      exact ht

def sp_worstT (K : PySem.W.Frag) : Sp := fun vs H Q _ => ∃ (a Lc : Addr) (v : V) (xs : List V) (fs : List (Int × Int)) (st : Int × Int) (cs : List Int), vs = [.ref a, v, .ref Lc] ∧ Fit K H a v xs fs st ∧ SqT K H Lc (cs.map V.int) ∧ cs.length = fs.length ∧ Near 800 (aimsF fs st) cs ∧ ∀ H' u, Same H H' → AtK K H' u (worst (aimsF fs st) cs) → Q u H'
theorem ok_worstT {f c0 : Addr} {fd : FuncData} (M : Blt mg) (Mz : mg "zip" = none) (g0 : mg "NONE_OF_IT" = some (.ref c0)) (t0 : ∀ H, SqT K H c0 [.int 0, .int 1]) (F : Fun K "worst_of" "worst_of" s_worst_of f fd) (C_aims : Cal P w K mg base CX0 8 "aims" ["weights", "step"] (sp_aimsX K)) (C_minus : Cal P w K mg base CX0 5 "minus" ["one", "other"] (sp_minus K)) (C_is_less : Cal P w K mg base CX0 1 "is_less" ["one", "other"] (sp_is_less K)) : FnG P w K mg base CX0 9 f fd ["weights", "step", "counted"] (sp_worstT K) := by
  refine Gfun F sc_worst_of (fun vs H Q E h => ?_) (fun cdv A outer s H vs Q E hg hr h => ?_)
  · obtain ⟨a, Lc, v, xs, fs, st, cs, rfl, _⟩ := h
    rfl
  · obtain ⟨a, Lc, v, xs, fs, st, cs, rfl, T, hC, hcl, hN, k⟩ := h
    refine ⟨_, (pss_cons (ps_set (i := 3) sc_worst_of.nd rfl (.inl rfl) (pe_glob (v := .ref c0) rfl g0 rfl))
      (pss_cons (ps_for PassesOwn.never rfl (pi_zipLT rfl Mz (pa_cons (pe_g C_aims (hr.mono (by decide)) hg (pa_cons (pv 0) (pa_cons (pv 1) pa_nil))) (pa_cons (pv 2) pa_nil))) (pg_tup rfl (pgs_cons (pg_name (i := 4) sc_worst_of.nd rfl (.inl rfl)) (pgs_cons (pg_name (i := 5) sc_worst_of.nd rfl (.inl rfl)) pgs_nil)))
      (pss_cons (ps_asg (pe_g C_minus (hr.mono (by decide)) hg (pa_cons (pe_tup (pa_cons (pv 5) (pa_cons pe_int pa_nil))) (pa_cons (pv 4) pa_nil))) (pg_tup rfl (pgs_cons (pg_name (i := 6) sc_worst_of.nd rfl (.inl rfl)) (pgs_cons (pg_name (i := 7) sc_worst_of.nd rfl (.inl rfl)) pgs_nil))))
      (pss_one (ps_if (pt_val (pe_g C_is_less (hr.mono (by decide)) hg (pa_cons (pv 3) (pa_cons (pe_tup (pa_cons (pe_callB call_abs rfl M.abs bt_abs (pa_cons (pv 6) pa_nil)) (pa_cons (pv 7) pa_nil))) pa_nil))))
      (pss_one (ps_set (i := 3) sc_worst_of.nd rfl (.inl rfl) (pe_tup (pa_cons (pe_callB call_abs rfl M.abs bt_abs (pa_cons (pv 6) pa_nil)) (pa_cons (pv 7) pa_nil)))))
      pss_nil))))
      (pss_one (ps_ret (pv 3))))), ?_⟩
    have am := aims_am T.w T.s
    have aF : AllF (aimsF fs st) := fun f hf => (am f hf).lo
    refine ⟨_, rfl, _, rfl, a, v, xs, fs, st, rfl, T, fun H1 D ys s1 nD eD hy => ?_⟩
    have hyl := hy.length
    rw [aims_len] at hyl
    have hyH : AtKs K H1 ys (aimsF fs st) := hy.same wo_le
    have hn : fs.length = min ys.length (cs.map V.int).length := by
      rw [List.length_map]
      omega
    refine ⟨_, rfl, D, Lc, ys, cs.map V.int, rfl, .inl (.inl eD), sm_t s1 hC, for_zipLT (xs := ys) (ys := cs.map V.int) (by rw [List.length_map]; omega) (fun i σ H' => ∃ (y1 y2 y3 y4 : Option V) (tv : V), σ = [some (.ref a), some v, some (.ref Lc), some tv, y1, y2, y3, y4] ∧ Same H1 H' ∧ AtK K H' tv ((((aimsF fs st).zip cs).take i).foldl wst f0))
      ⟨_, _, _, _, .ref c0, rfl, same_rfl, ⟨c0, rfl, t0 H1⟩⟩ (fun i σ H' ⟨_, _, _, _, _, _, sm, _⟩ => ⟨.inl (.inl (sm _ _ eD)), sm_t (s1.trans sm) hC⟩) ?_ ?_⟩
    · rintro i x1 z1 T' σ H3 hx1 hz1 ⟨y1, y2, y3, y4, tv, rfl, s3, ht⟩ hT
      have s4 : Same H3 (L2.upd H3 T' (.tup [x1, z1])) := same_new hT
      have t4 : SqT K (L2.upd H3 T' (.tup [x1, z1])) T' [x1, z1] := .inl (.inl upd_same)
      generalize L2.upd H3 T' (.tup [x1, z1]) = H4 at s4 t4 ⊢
      have s34 := s3.trans s4
      obtain ⟨g, hgi, hg0⟩ := hyH.get (show ys[i]? = some x1 from hx1)
      obtain ⟨c, hci, rfl⟩ : ∃ c, cs[i]? = some c ∧ z1 = .int c := by
        have hz : (cs.map V.int)[i]? = some z1 := hz1
        rw [List.getElem?_map] at hz
        cases e : cs[i]? with
        | none => rw [e] at hz; cases hz
        | some c => rw [e] at hz; exact ⟨c, rfl, (Option.some.inj hz).symm⟩
      have ag := am g (List.mem_of_getElem? hgi)
      have hmem : (g, c) ∈ (aimsF fs st).zip cs := List.mem_of_getElem? (show ((aimsF fs st).zip cs)[i]? = some (g, c) by rw [List.getElem?_zip_eq_some]; exact ⟨hgi, hci⟩)
      obtain ⟨nb, cb⟩ := hN _ hmem
      have cb' : c.natAbs < 2 ^ 800 := cb
      have nb' : Bt 800 (far g c) := nb
      refine ⟨T', _, rfl, t4, rfl, _, _, rfl, _, _, rfl, rfl, ?_⟩
      refine ⟨_, rfl, len_show (Nat.le_of_ble_eq_true rfl), fun p5 n5 => ?_⟩
      have s5 : Same H4 (L2.upd H4 p5 (.tup [.int c, .int 1])) := same_new n5
      have a5 : AtK K (L2.upd H4 p5 (.tup [.int c, .int 1])) (.ref p5) (c, 1) := AtK.of upd_same
      generalize L2.upd H4 p5 (.tup [.int c, .int 1]) = H5 at s5 a5 ⊢
      have hx5 := (hg0.same s34).same s5
      have c1b : Bt 800 (c, 1) := ⟨cb', Nat.one_lt_two_pow (by decide)⟩
      refine ⟨_, rfl, _, _, _, _, pr_atk a5 hx5 (m1_f _) ag.lo c1b ag.bt (by decide) (by decide), fun H6 p6 s6 e6 => ?_⟩
      have t6 : SqT K H6 p6 [.int (fsub (c, 1) g).1, .int (fsub (c, 1) g).2] := .inl (.inl e6)
      have hfp := far_prog ag.lo c
      have h1 : (if (fsub (c, 1) g).1 < 0 then -(fsub (c, 1) g).1 else (fsub (c, 1) g).1) = (far g c).1 := by rw [abs_is, ← hfp]
      have h2 : (fsub (c, 1) g).2 = (far g c).2 := by rw [← hfp]
      refine ⟨p6, _, rfl, t6, rfl, _, _, rfl, _, _, rfl, rfl, ?_⟩
      have s16 := (s34.trans s5).trans s6
      have ht6 : AtK K H6 tv ((((aimsF fs st).zip cs).take i).foldl wst f0) := ((ht.same s4).same s5).same s6
      obtain ⟨wF, wB, _⟩ := worst_ok (k := 800) aF (by decide) hN i
      refine ⟨_, rfl, _, rfl, _, rfl, _, rfl, len_show (Nat.le_of_ble_eq_true rfl), fun p7 n7 => ?_⟩
      rw [h1, h2]
      have s7 : Same H6 (L2.upd H6 p7 (.tup [.int (far g c).1, .int (far g c).2])) := same_new n7
      have a7 : AtK K (L2.upd H6 p7 (.tup [.int (far g c).1, .int (far g c).2])) (.ref p7) (far g c) := AtK.of upd_same
      generalize L2.upd H6 p7 (.tup [.int (far g c).1, .int (far g c).2]) = H7 at s7 a7 ⊢
      refine ⟨_, _, _, _, pr_atk (ht6.same s7) a7 wF (far_f ag.lo c) wB nb' (by decide) (by decide), ?_⟩
      have hst := worst_step (cs := cs) hgi hci
      have s17 := s16.trans s7
      refine ⟨_, rfl, ite2 (fun e => ?_) (fun e => ?_)⟩
      · refine ⟨_, rfl, _, rfl, _, rfl, len_show (Nat.le_of_ble_eq_true rfl), fun p8 n8 => ?_⟩
        rw [h1]
        have s8 : Same H7 (L2.upd H7 p8 (.tup [.int (far g c).1, .int (far g c).2])) := same_new n8
        have a8 : AtK K (L2.upd H7 p8 (.tup [.int (far g c).1, .int (far g c).2])) (.ref p8) (far g c) := AtK.of upd_same
        refine ⟨_, _, _, _, _, rfl, s17.trans s8, ?_⟩
        rw [hst]
        unfold wmax
        rw [if_pos (show lessB _ _ = true from e)]
        exact a8
      · refine ⟨_, _, _, _, _, rfl, s17, ?_⟩
        rw [hst]
        unfold wmax
        rw [if_neg (show ¬ lessB _ _ = true from e)]
        exact ht6.same s7
    · rintro σ H3 ⟨y1, y2, y3, y4, tv, rfl, s3, ht⟩
      refine ⟨_, rfl, k H3 tv (s1.trans s3) ?_⟩
      rw [List.take_of_length_le (by rw [List.length_zip, aims_len]; omega)] at ht
      exact ht

/-- of a list or a tuple -/
def sp_worstX (K : PySem.W.Frag) : Sp := fun vs H Q E => sp_worst K vs H Q E ∨ sp_worstT K vs H Q E
/-! ### rounded -/
theorem sc_rounded : FnScope ["weights", "step", "counted", "rest"] ["weights", "step"] (defScope s_rounded) := ⟨rfl, rfl, rfl, by decide +kernel, rfl, by decide +kernel, by decide +kernel⟩
theorem near_cnt {fs : List (Int × Int)} {st : Int × Int} (W : Wts fs) (hs : Wt st) : Near 800 (aimsF fs st) (cnt fs st) := by
  intro p hp
  obtain ⟨i, hi⟩ := List.getElem?_of_mem hp
  obtain ⟨h1, h2⟩ := List.getElem?_zip_eq_some.mp hi
  have hlt : i < fs.length := by
    have := (List.getElem?_eq_some_iff.mp h1).1
    rw [aims_len] at this
    exact this
  rw [cnt_get hlt] at h2
  have am := aims_am W hs p.1 (List.mem_of_getElem? h1)
  have hd : (aimsF fs st).getD i f0 = p.1 := by rw [List.getD_eq_getElem?_getD, h1]; rfl
  refine (fun NR : Bt 640 (far p.1 p.2) ∧ p.2.natAbs < 2 ^ 640 => (show Bt 800 (far p.1 p.2) ∧ p.2.natAbs < 2 ^ 800 from ⟨NR.1.mono (by decide), Nat.lt_of_lt_of_le NR.2 (Nat.pow_le_pow_right (by decide) (by decide))⟩)) ?_
  refine near_one am.lo am.nn am.bt ?_
  rw [← Option.some.inj h2]
  unfold cntAt
  rw [hd]
  split
  · exact .inr rfl
  · exact .inl (Int.add_zero _)
theorem mstep_f {fs : List (Int × Int)} {st : Int × Int} (hs : Wt st) : IsF (fmul (many fs st, 1) st) := fmul_f (m1_f _) hs.lo
theorem mstep_bt {fs : List (Int × Int)} {st : Int × Int} (W : Wts fs) (hs : Wt st) : Bt 131 (fmul (many fs st, 1) st) := fmul_bt (m1_f _) hs.lo (many_bt W hs) hs.bt
def sp_rounded (K : PySem.W.Frag) : Sp := fun vs H Q _ => ∃ (a : Addr) (v : V) (xs : List V) (fs : List (Int × Int)) (st : Int × Int), vs = [.ref a, v] ∧ Fit K H a v xs fs st ∧ ∀ H' p D v1 v2, Same H H' → H D = none → H p = none → H' p = some (.tup [.ref D, v1, v2]) → H' D = some (.lst ((cnt fs st).map V.int)) → AtK K H' v1 (left_ fs st) → AtK K H' v2 (worst (aimsF fs st) (cnt fs st)) → Q (.ref p) H'
theorem ok_rounded {f : Addr} {fd : FuncData} (F : Fun K "rounded" "rounded" s_rounded f fd) (C_nearest : Cal P w K mg base CX0 10 "nearest" ["weights", "step"] (sp_nearest K)) (C_together : Cal P w K mg base CX0 6 "together" ["ones"] (sp_togX K)) (C_many_steps : Cal P w K mg base CX0 7 "many_steps" ["weights", "step"] (sp_manyX K)) (C_times : Cal P w K mg base CX0 5 "times" ["one", "other"] (sp_times K)) (C_minus : Cal P w K mg base CX0 5 "minus" ["one", "other"] (sp_minus K)) (C_worst_of : Cal P w K mg base CX0 9 "worst_of" ["weights", "step", "counted"] (sp_worst K)) : FnG P w K mg base CX0 11 f fd ["weights", "step"] (sp_rounded K) := by
  refine Gfun F sc_rounded (fun vs H Q E h => ?_) (fun cdv A outer s H vs Q E hg hr h => ?_)
  · obtain ⟨a, v, xs, fs, st, rfl, _⟩ := h
    rfl
  · obtain ⟨a, v, xs, fs, st, rfl, T, k⟩ := h
    refine ⟨_, (pss_cons (ps_set (i := 2) sc_rounded.nd rfl (.inl rfl) (pe_g C_nearest (hr.mono (by decide)) hg (pa_cons (pv 0) (pa_cons (pv 1) pa_nil))))
      (pss_cons (ps_set (i := 3) sc_rounded.nd rfl (.inl rfl) (pe_g C_minus (hr.mono (by decide)) hg (pa_cons (pe_g C_together (hr.mono (by decide)) hg (pa_cons (pv 0) pa_nil)) (pa_cons (pe_g C_times (hr.mono (by decide)) hg (pa_cons (pe_tup (pa_cons (pe_g C_many_steps (hr.mono (by decide)) hg (pa_cons (pv 0) (pa_cons (pv 1) pa_nil))) (pa_cons pe_int pa_nil))) (pa_cons (pv 1) pa_nil))) pa_nil))))
      (pss_one (ps_ret (pe_tup (pa_cons (pv 2) (pa_cons (pv 3) (pa_cons (pe_g C_worst_of (hr.mono (by decide)) hg (pa_cons (pv 0) (pa_cons (pv 1) (pa_cons (pv 2) pa_nil)))) pa_nil)))))))), ?_⟩
    refine ⟨_, rfl, _, rfl, a, v, xs, fs, st, rfl, T, fun H1 D s1 nD eD => ?_⟩
    have T1 := T.same s1
    refine ⟨_, rfl, a, xs, fs, rfl, T1.sq, T1.at_, T.w, fun H2 tv s2 ht => ?_⟩
    have T2 := T1.same s2
    refine ⟨_, rfl, _, rfl, a, v, xs, fs, st, rfl, T2, fun H3 s3 => ?_⟩
    refine ⟨len_show (Nat.le_of_ble_eq_true rfl), fun p4 n4 => ?_⟩
    have s4 : Same H3 (L2.upd H3 p4 (.tup [.int (many fs st), .int 1])) := same_new n4
    have a4 : AtK K (L2.upd H3 p4 (.tup [.int (many fs st), .int 1])) (.ref p4) (many fs st, 1) := AtK.of upd_same
    generalize L2.upd H3 p4 (.tup [.int (many fs st), .int 1]) = H4 at s4 a4 ⊢
    have s24 := s3.trans s4
    refine ⟨_, rfl, _, _, _, _, pr_atk a4 (T2.av.same s24) (m1_f _) T.s.lo (many_bt T.w T.s) T.s.bt (by decide) (by decide), fun H5 p5 s5 e5 => ?_⟩
    have s25 := s24.trans s5
    have a5 : AtK K H5 (.ref p5) (fmul (many fs st, 1) st) := AtK.of e5
    refine ⟨_, _, _, _, pr_atk (ht.same s25) a5 (tot_f T.w.f) (mstep_f T.s) (tot_bt T.w) (mstep_bt T.w T.s) (by decide) (by decide), fun H6 p6 s6 e6 => ?_⟩
    have s16 := (s2.trans s25).trans s6
    have s06 := s1.trans s16
    have a6 : AtK K H6 (.ref p6) (left_ fs st) := AtK.of e6
    refine ⟨_, rfl, _, rfl, _, rfl, _, rfl, _, rfl, a, D, v, xs, fs, st, cnt fs st, rfl, T.same s06, .inl (.inl (s16 _ _ eD)), cnt_len _ _, near_cnt T.w T.s, fun H7 u s7 hu => ?_⟩
    refine ⟨len_show (Nat.le_of_ble_eq_true rfl), fun p8 n8 => ?_⟩
    have s8 : Same H7 (L2.upd H7 p8 (.tup [.ref D, .ref p6, u])) := same_new n8
    have s08 := (s06.trans s7).trans s8
    exact k _ p8 D _ _ s08 nD (same_none (s06.trans s7) n8) upd_same (s8 _ _ (s7 _ _ (s16 _ _ eD))) ((a6.same s7).same s8) (hu.same s8)

end
end Lf

set_option Elab.async false
set_option linter.all false
set_option maxRecDepth 100000
set_option maxHeartbeats 4000000
/-! max of a tuple of two whole numbers; isinstance of a caught error and a tuple of classes. -/
namespace Lf
open PySem PySem.Spec PyProof.Rows L2
def rMaxT2 (K : PySem.W.Frag) : List V → Hp → VK → Prop := fun xs H Q => ∃ (p : Addr) (i j : Int), xs = [.ref p] ∧ SqT K H p [.int i, .int j] ∧ ∀ m : Int, i ≤ m → j ≤ m → Q (.int m) H
theorem call_maxT2 {X : Cx} (hc : X.calm = true) {k : Nat} (hr : Room k X.A) : CallR X (.builtin "max") (rMaxT2 X.K) := by
  intro pins s σ H xs us Q I r h
  obtain ⟨p, i, j, rfl, hS, q⟩ := h
  obtain ⟨its, rv, ht, _⟩ := I.tuple hS
  rw [Vals.ref1 r]
  have hu := hr.units
  have rd : ∃ as, ReadsAll s.heap its [PyData.int i, PyData.int j] as := by
    cases rv with
    | cons r1 rv =>
      cases rv with
      | cons r2 rv =>
        cases rv
        obtain ⟨t1, rfl⟩ := r1
        obtain ⟨t2, rfl⟩ := r2
        exact ⟨_, .cons (.int i t1) (.cons (.int j t2) .nil)⟩
  obtain ⟨as, rd⟩ := rd
  have al : PySem.W.AlikeAll [PyData.int i, PyData.int j] := by
    refine ⟨fun x hx y hy => ?_, fun x hx => ?_⟩
    · simp only [List.mem_cons, List.not_mem_nil, or_false] at hx hy
      rcases hx with rfl | rfl <;> rcases hy with rfl | rfl <;> rfl
    · simp only [List.mem_cons, List.not_mem_nil, or_false] at hx
      rcases hx with rfl | rfl <;> exact fun z => nomatch z
  refine PySem.W.max_tuple_data (x := .int i) (xs := [.int j]) (as := as) (I.ok.hd hc) ht (by simpa using rd) al (by simp only [PyData.depthAll, PyData.depth]; omega) fun n v h' tk bs hn rr hk => ?_
  have e : PySem.W.maxD (.int i) [PyData.int j] = .int (max i j) := PySem.W.maxD_ints i [j]
  rw [e] at rr
  cases rr with
  | int _ t => exact ⟨.int (max i j), H, I.kept hk, ⟨_, rfl⟩, q _ (by omega) (by omega)⟩
/-- isinstance(e, (C1, ..)), e the error that the suite holds -/
def rIsXT (K : PySem.W.Frag) (D a : Addr) (cls : Value) (d : Option Addr) : List V → Hp → VK → Prop := fun xs H Q => cls = .ref D ∧ (d = none ∨ ∃ (dd : Addr) (fs : List (Str × V)), d = some dd ∧ H dd = some (.xd fs)) ∧
  ∃ (tp : Addr) (cs : List V) (ws : List Value) (b : Bool), xs = [.ref a, .ref tp] ∧ H tp = some (.tup cs) ∧ Paired ClsV cs ws ∧ PySem.W.kitAny K (.ref D) ws = some b ∧ Q (.bl b) H
theorem call_isXT {X : Cx} {a D : Addr} {oe : Obj} {cls : Value} {d : Option Addr} {pn : List (Addr × Obj)} (C : ExcC X.K D) (hz : Zc cls d oe) (hf : ∃ vs, oe.data = .fields vs) : CallR (X.suite a ((a, oe) :: pn)) (.builtin "isinstance") (rIsXT X.K D a cls d) := by
  intro pins s σ H xs us Q I r h
  obtain ⟨ec, hd, tp, cs, ws, b, rfl, hT, hcv, e, q⟩ := h
  obtain ⟨u1, u2, rfl, r1, r2⟩ := vals2 r
  cases (show u2 = Value.ref tp from r2)
  cases (show u1 = Value.ref a from r1)
  obtain ⟨_, its, rv, o, h1, h2, n, h3⟩ := (show ObjOk X.prog X.w H s.heap tp (.tup cs) from I.hok tp _ hT)
  have e3 := ClsV.all hcv rv
  subst e3
  obtain ⟨oc, od0, dt, sl⟩ := o
  simp only at h2 h3
  subst h2 h3
  obtain ⟨hget, _⟩ := I.pin (a, oe) (List.mem_append.mpr (.inl List.mem_cons_self))
  obtain ⟨vs, hv⟩ := hf
  have J : ∃ od, PySem.W.InstAt s.heap a oe D od := by
    rcases hd with hd | ⟨dd, fs, hd, hH⟩
    · exact ⟨none, hget, by rw [hz.1, ec], by unfold PySem.W.notCls; rw [hv] <;> rfl, by rw [hz.2, hd]; trivial⟩
    · have hx : ObjOk X.prog X.w H s.heap dd (.xd fs) := I.hok dd _ hH
      obtain ⟨o, ho⟩ := objOk_get hx
      exact ⟨some o, hget, by rw [hz.1, ec], by unfold PySem.W.notCls; rw [hv] <;> rfl, by rw [hz.2, hd]; exact ho⟩
  obtain ⟨od, J⟩ := J
  exact PySem.W.kia_tup (kit_own (od := od) C) I.kIn J h1 e (fun z => nomatch z) fun tk => ⟨.bl b, H, I.kept (t' := tk) fun _ _ z => z, rfl, q⟩
end Lf

set_option Elab.async false
set_option linter.all false
set_option maxRecDepth 100000
set_option maxHeartbeats 4000000
set_option exponentiation.threshold 3000
namespace Lf
open PySem PySem.Spec PyProof.Rows L2
theorem pot_same {H H' : Hp} {q : Addr} (h : Pot H q) (s : Same H H') : Pot H' q := by
  obtain ⟨x, y, a, b, e⟩ := h
  exact ⟨x, y, a, b, s _ _ e⟩
theorem pot_ne {q p : Addr} {H : Hp} (h : Pot H q) (n : H p = none) : p ≠ q := fun z => by
  obtain ⟨x, y, _, _, e⟩ := h
  rw [← z, n] at e
  cases e
section
variable {P : Program} {w : World} {K : PySem.W.Frag} {mg : Str → Option Value} {base : Heap}
theorem AtK.but {q : Addr} {H H' : Hp} {v : V} {f : Int × Int} (b : But q H H') (hP : Pot H q) (h : AtK K H v f) : AtK K H' v f := by
  obtain ⟨p, e, h⟩ := h
  obtain ⟨x, y, _, _, eq⟩ := hP
  refine ⟨p, e, ?_⟩
  rcases h with (h | ⟨ob, h⟩) | h
  · exact .inl (.inl (b _ _ (fun z => by rw [z, eq] at h; cases h) h))
  · exact .inl (.inr ⟨ob, b _ _ (fun z => by rw [z, eq] at h; cases h) h⟩)
  · exact .inr h
theorem AtKs.but {q : Addr} {H H' : Hp} {vs : List V} {fs : List (Int × Int)} (b : But q H H') (hP : Pot H q) (h : AtKs K H vs fs) : AtKs K H' vs fs := h.map fun _ _ => AtK.but b hP
theorem sql_but {H H' : Hp} {q t : Addr} {xs : List V} (b : But q H H') (n : t ≠ q) (h : SqL K H t xs) : SqL K H' t xs := by
  rcases h with (h | ⟨ob, h⟩) | h
  · exact .inl (.inl (b _ _ n h))
  · exact .inl (.inr ⟨ob, b _ _ n h⟩)
  · exact .inr h
theorem AtK.upd {H : Hp} {L : Addr} {xs ys : List V} {v : V} {f : Int × Int} (hL : H L = some (.lst xs)) (h : AtK K H v f) : AtK K (L2.upd H L (.lst ys)) v f := by
  obtain ⟨p, e, h⟩ := h
  refine ⟨p, e, ?_⟩
  rcases h with (h | ⟨ob, h⟩) | h
  · exact .inl (.inl (by rw [upd_ne (fun z => by rw [z, hL] at h; cases h)]; exact h))
  · exact .inl (.inr ⟨ob, by rw [upd_ne (fun z => by rw [z, hL] at h; cases h)]; exact h⟩)
  · exact .inr h
theorem AtKs.drop {H : Hp} : ∀ (n : Nat) {vs : List V} {fs : List (Int × Int)}, AtKs K H vs fs → AtKs K H (vs.drop n) (fs.drop n)
  | 0, _, _, h => h
  | _ + 1, _, _, .nil => .nil
  | n + 1, _, _, .cons _ r => AtKs.drop n r
theorem AtKs.take {H : Hp} : ∀ (n : Nat) {vs : List V} {fs : List (Int × Int)}, AtKs K H vs fs → AtKs K H (vs.take n) (fs.take n)
  | 0, _, _, _ => .nil
  | _ + 1, _, _, .nil => .nil
  | n + 1, _, _, .cons a r => .cons a (AtKs.take n r)
theorem AtKs.rep {H : Hp} {v : V} {f : Int × Int} (h : AtK K H v f) : ∀ n : Nat, AtKs K H (List.replicate n [v]).flatten (List.replicate n f)
  | 0 => .nil
  | n + 1 => .cons h (AtKs.rep h n)
theorem wt_low {n d : Int} (hn : 0 < n) (hd : 0 < d) (bn : n < 2 ^ 41) (bd : d < 2 ^ 41) : Wt (low n d) := by
  refine ⟨low_f (by omega), low_top_pos hd hn, low_bt (by omega) ?_ ?_⟩ <;> omega
theorem mid41 {n : Int} (h0 : 0 ≤ n) (h1 : n < 2 ^ 41) : Mid n := Nat.lt_of_lt_of_le (show n.natAbs < 2 ^ 41 by omega) (Nat.pow_le_pow_right (by decide) (by decide))
/-- a weight is told, the pot drawn from -/
def GivesW (K : PySem.W.Frag) (H : Hp) (q : Addr) (Q : VK) : Prop := ∀ (v : V) (f : Int × Int) (H' : Hp), AtK K H' v f → Wt f → Pot H' q → But q H H' → Q v H'

/-! ### _law_sum -/
theorem sc__law_sum : FnScope ["_law_one", "_law_other"] ["_law_one", "_law_other"] (defScope s__law_sum) := ⟨rfl, rfl, rfl, by decide +kernel, rfl, by decide +kernel, by decide +kernel⟩
theorem ok_lsum {f : Addr} {fd : FuncData} (F : Fun K "_law_sum" "_law_sum" s__law_sum f fd) (C__law_low : Cal P w K mg base CX0 1 "_law_low" ["_law_top", "_law_bottom"] sp_low) : FnG P w K mg base CX0 2 f fd ["_law_one", "_law_other"] (sp_plus K) := by
  refine Gfun F sc__law_sum (fun vs H Q E h => ?_) (fun cdv A outer s H vs Q E hg hr h => ?_)
  · obtain ⟨a, b, c, d, h, _⟩ := h
    obtain ⟨p, q, rfl, _⟩ := h.ex
    rfl
  · obtain ⟨a, b, c, d, h, k⟩ := h
    obtain ⟨p, q, rfl, hp, hq⟩ := h.ex
    refine ⟨_, (pss_one (ps_ret (pe_g C__law_low (hr.mono (by decide)) hg (pa_cons (pe_op op_add (pe_op op_mulW (pe_ix ix_tup (pv 0) pe_int (fun _ _ => rfl)) (pe_ix ix_tup (pv 1) pe_int (fun _ _ => rfl))) (pe_op op_mulW (pe_ix ix_tup (pv 1) pe_int (fun _ _ => rfl)) (pe_ix ix_tup (pv 0) pe_int (fun _ _ => rfl)))) (pa_cons (pe_op op_mulW (pe_ix ix_tup (pv 0) pe_int (fun _ _ => rfl)) (pe_ix ix_tup (pv 1) pe_int (fun _ _ => rfl))) pa_nil))))), ?_⟩
    refine ⟨_, rfl, p, _, _, _, rfl, rfl, hp, rfl, _, rfl, q, _, _, _, rfl, rfl, hq, rfl, _, _, rfl, rfl, Sm.mulW h.a1 h.d1, ?_⟩
    refine ⟨_, rfl, q, _, _, _, rfl, rfl, hq, rfl, _, rfl, p, _, _, _, rfl, rfl, hp, rfl, _, _, rfl, rfl, Sm.mulW h.c1 h.b1, ?_⟩
    refine ⟨_, _, rfl, rfl, ?_⟩
    refine ⟨_, rfl, p, _, _, _, rfl, rfl, hp, rfl, _, rfl, q, _, _, _, rfl, rfl, hq, rfl, _, _, rfl, rfl, Sm.mulW h.b1 h.d1, ?_⟩
    exact ⟨_, _, rfl, mul_ne h.hb h.hd, Sm.mul h.b1 h.d1, k⟩

/-! ### _law_total -/
theorem sc__law_total : FnScope ["_law_some", "_law_found", "_law_one"] ["_law_some"] (defScope s__law_total) := ⟨rfl, rfl, rfl, by decide +kernel, rfl, by decide +kernel, by decide +kernel⟩
theorem ok_ltotal {f : Addr} {fd : FuncData} (F : Fun K "_law_total" "_law_total" s__law_total f fd) (C__law_sum : Cal P w K mg base CX0 2 "_law_sum" ["_law_one", "_law_other"] (sp_plus K)) : FnG P w K mg base CX0 3 f fd ["_law_some"] (sp_togL K) := by
  refine Gfun F sc__law_total (fun vs H Q E h => ?_) (fun cdv A outer s H vs Q E hg hr h => ?_)
  · obtain ⟨L, xs, fs, b, rfl, _⟩ := h
    rfl
  · obtain ⟨L, xs, fs, b, rfl, hS, hA, hF, hB, hb8, hlen, k⟩ := h
    refine ⟨_, (pss_cons (ps_set (i := 1) sc__law_total.nd rfl (.inl rfl) (pe_tup (pa_cons pe_int (pa_cons pe_int pa_nil))))
      (pss_cons (ps_for PassesOwn.never rfl (pi_list (pv 0)) (pg_name (i := 2) sc__law_total.nd rfl (.inl rfl))
      (pss_one (ps_set (i := 1) sc__law_total.nd rfl (.inl rfl) (pe_g C__law_sum (hr.mono (by decide)) hg (pa_cons (pv 1) (pa_cons (pv 2) pa_nil))))))
      (pss_one (ps_ret (pv 1))))), ?_⟩
    refine ⟨len_show (Nat.le_of_ble_eq_true rfl), fun p0 n0 => ?_⟩
    have s0 : Same H (L2.upd H p0 (.tup [.int 0, .int 1])) := same_new n0
    have a0 : AtK K (L2.upd H p0 (.tup [.int 0, .int 1])) (.ref p0) f0 := AtK.of upd_same
    generalize L2.upd H p0 (.tup [.int 0, .int 1]) = H0 at s0 a0 ⊢
    refine ⟨_, rfl, L, rfl, ⟨_, sm_l s0 hS⟩, for_list (K := K) (a := L) (xs := xs) (fun i σ H' => ∃ (v : Option V) (t : V), σ = [some (.ref L), some t, v] ∧ Same H H' ∧ AtK K H' t ((fs.take i).foldl fadd f0))
      ⟨none, .ref p0, rfl, s0, a0⟩ (fun i σ H' _ ⟨_, _, _, sm, _⟩ => sm.seq hS) ?_ ?_⟩
    · rintro i x σ H' hi ⟨v, t, rfl, sm, ht⟩
      obtain ⟨g, hgi, hx0⟩ := hA.get hi
      have hx := hx0.same sm
      have hgf : IsF g := hF g (List.mem_of_getElem? hgi)
      have bg : Bt b g := hB g (List.mem_of_getElem? hgi)
      have hil : i < fs.length := (List.getElem?_eq_some_iff.mp hgi).1
      have htl : (fs.take i).length = i := by rw [List.length_take]; omega
      have hmn : (b + 1) * i ≤ (b + 1) * fs.length := Nat.mul_le_mul_left _ (Nat.le_of_lt hil)
      have fa := (sum_fold (fs.take i) f0 f0_f (take_all hF i)).1
      have ba := add_bt (b := b) (fs.take i) 1 f0 f0_f (take_all hF i) bt01.1 (fun f hf => hB f (List.mem_of_mem_take hf))
      rw [htl] at ba
      refine ⟨_, rfl, _, rfl, _, _, _, _, pr_atk ht hx fa hgf ba bg (by omega) hb8, fun H2 t' s2 e2 => ?_⟩
      refine ⟨some x, _, rfl, sm.trans s2, ?_⟩
      rw [fold_take _ _ hgi]
      exact AtK.of e2
    · rintro σ H' ⟨v, t, rfl, sm, ht⟩
      refine ⟨_, rfl, k H' t sm ?_⟩
      rw [hA.length, List.take_length] at ht
      exact ht

/-! ### _law_whole_some -/
theorem sc__law_whole_some : FnScope ["_law_pot_here"] ["_law_pot_here"] (defScope s__law_whole_some) := ⟨rfl, rfl, rfl, by decide +kernel, rfl, by decide +kernel, by decide +kernel⟩
def sp_wsome (K : PySem.W.Frag) : Sp := fun vs H Q _ => ∃ q : Addr, vs = [.ref q] ∧ Pot H q ∧ GivesW K H q Q
theorem ok_wsome {f : Addr} {fd : FuncData} (F : Fun K "_law_whole_some" "_law_whole_some" s__law_whole_some f fd) (C__law_draw : Cal P w K mg base CX0 1 "_law_draw" ["_law_pot_here", "_law_many_here"] sp_draw) (C__law_low : Cal P w K mg base CX0 1 "_law_low" ["_law_top", "_law_bottom"] sp_low) : FnG P w K mg base CX0 2 f fd ["_law_pot_here"] (sp_wsome K) := by
  refine Gfun F sc__law_whole_some (fun vs H Q E h => ?_) (fun cdv A outer s H vs Q E hg hr h => ?_)
  · obtain ⟨q, rfl, _⟩ := h
    rfl
  · obtain ⟨q, rfl, hP, k⟩ := h
    refine ⟨_, (pss_one (ps_ret (pe_g C__law_low (hr.mono (by decide)) hg (pa_cons (pe_op op_add pe_int (pe_g C__law_draw (hr.mono (by decide)) hg (pa_cons (pv 0) (pa_cons (pe_op op_sub (pe_op op_pow pe_int pe_int) pe_int) pa_nil)))) (pa_cons (pe_op op_add pe_int (pe_g C__law_draw (hr.mono (by decide)) hg (pa_cons (pv 0) (pa_cons (pe_op op_sub (pe_op op_pow pe_int pe_int) pe_int) pa_nil)))) pa_nil))))), ?_⟩
    refine ⟨_, rfl, _, _, rfl, rfl, ⟨by decide, by decide, by decide⟩, _, _, rfl, rfl, q, _, rfl, by decide, by decide, hP, fun r2 H2 r20 r21 hP2 b2 => ?_⟩
    have r21' : r2 < 10 ^ 12 - 1 := r21
    refine ⟨_, _, rfl, rfl, _, rfl, _, _, rfl, rfl, ⟨by decide, by decide, by decide⟩, _, _, rfl, rfl, q, _, rfl, by decide, by decide, hP2, fun r3 H3 r30 r31 hP3 b3 => ?_⟩
    have r31' : r3 < 10 ^ 12 - 1 := r31
    refine ⟨_, _, rfl, rfl, _, _, rfl, by omega, mid41 (by omega) (by omega), fun H4 p4 s4 e4 => ?_⟩
    exact k _ _ H4 (AtK.of e4) (wt_low (by omega) (by omega) (by omega) (by omega)) (pot_same hP3 s4) ((b2.trans b3).same s4)

/-! ### _law_weights -/
theorem sc__law_weights : FnScope ["_law_pot_here", "_law_most", "_law_many_here", "_law_way", "_law_bottom", "_law_found", "_law_k"] ["_law_pot_here", "_law_most"] (defScope s__law_weights) := ⟨rfl, rfl, rfl, by decide +kernel, rfl, by decide +kernel, by decide +kernel⟩
/-- a list of weights, beside the pot -/
structure Ws (K : PySem.W.Frag) (H : Hp) (q L : Addr) (xs : List V) (fs : List (Int × Int)) : Prop where
  l : H L = some (.lst xs)
  ne : L ≠ q
  at_ : AtKs K H xs fs
  wt : ∀ f ∈ fs, Wt f
theorem Ws.but {q L : Addr} {H H' : Hp} {xs : List V} {fs : List (Int × Int)} (b : But q H H') (hP : Pot H q) (h : Ws K H q L xs fs) : Ws K H' q L xs fs := ⟨b _ _ h.ne h.l, h.ne, h.at_.but b hP, h.wt⟩
theorem Ws.add {q L : Addr} {H : Hp} {xs : List V} {fs : List (Int × Int)} {v : V} {f : Int × Int} (h : Ws K H q L xs fs) (hv : AtK K H v f) (hf : Wt f) : Ws K (L2.upd H L (.lst (xs ++ [v]))) q L (xs ++ [v]) (fs ++ [f]) := by
  refine ⟨upd_same, h.ne, (h.at_.map fun _ _ => AtK.upd h.l).app (.cons (AtK.upd h.l hv) .nil), fun g hg => ?_⟩
  rcases List.mem_append.mp hg with z | z
  · exact h.wt g z
  · rw [List.mem_singleton.mp z]
    exact hf
theorem pot_upd {q L : Addr} {H : Hp} {o : HO} (h : Pot H q) (n : L ≠ q) : Pot (L2.upd H L o) q := by
  obtain ⟨x, y, a, b, e⟩ := h
  exact ⟨x, y, a, b, by rw [upd_ne (Ne.symm n)]; exact e⟩
def sp_weights (K : PySem.W.Frag) : Sp := fun vs H Q _ => ∃ (q : Addr) (mo : Int), vs = [.ref q, .int mo] ∧ 0 < mo ∧ mo ≤ 12 ∧ Pot H q ∧ ∀ (L : Addr) (xs : List V) (fs : List (Int × Int)) (H' : Hp), Ws K H' q L xs fs → Wts fs → Pot H' q → But q H H' → Q (.ref L) H'
theorem ok_weights {f : Addr} {fd : FuncData} (M : Blt mg) (F : Fun K "_law_weights" "_law_weights" s__law_weights f fd) (C__law_draw : Cal P w K mg base CX0 1 "_law_draw" ["_law_pot_here", "_law_many_here"] sp_draw) (C__law_low : Cal P w K mg base CX0 1 "_law_low" ["_law_top", "_law_bottom"] sp_low) (C__law_whole_some : Cal P w K mg base CX0 2 "_law_whole_some" ["_law_pot_here"] (sp_wsome K)) : FnG P w K mg base CX0 3 f fd ["_law_pot_here", "_law_most"] (sp_weights K) := by
  refine Gfun F sc__law_weights (fun vs H Q E h => ?_) (fun cdv A outer s H vs Q E hg hr h => ?_)
  · obtain ⟨q, mo, rfl, _⟩ := h
    rfl
  · obtain ⟨q, mo, rfl, mo0, mo1, hP, k⟩ := h
    refine ⟨_, (pss_cons (ps_set (i := 2) sc__law_weights.nd rfl (.inl rfl) (pe_op op_add pe_int (pe_g C__law_draw (hr.mono (by decide)) hg (pa_cons (pv 0) (pa_cons (pv 1) pa_nil)))))
      (pss_cons (ps_set (i := 3) sc__law_weights.nd rfl (.inl rfl) (pe_g C__law_draw (hr.mono (by decide)) hg (pa_cons (pv 0) (pa_cons pe_int pa_nil))))
      (pss_cons (ps_set (i := 4) sc__law_weights.nd rfl (.inl rfl) (pe_op op_add pe_int (pe_g C__law_draw (hr.mono (by decide)) hg (pa_cons (pv 0) (pa_cons pe_int pa_nil)))))
      (pss_cons (ps_set (i := 5) sc__law_weights.nd rfl (.inl rfl) (pe_lst pa_nil))
      (pss_cons (ps_for PassesOwn.never rfl (pi_range1 rfl M.range (pa_cons (pv 2) pa_nil)) (pg_name (i := 6) sc__law_weights.nd rfl (.inl rfl))
      (pss_one (ps_if (pt_cmpR op_eq (pv 3) pe_int (nomark _))
      (pss_one (ps_expr (pe_bm PySem.F.plainAttrs_list PySem.F.slot_list_append PySem.F.type_list_append mt_append (pv 5) (pa_cons (pe_g C__law_whole_some (hr.mono (by decide)) hg (pa_cons (pv 0) pa_nil)) pa_nil))))
      (pss_one (ps_if (pt_cmpR op_lt (pv 3) pe_int (nomark _))
      (pss_one (ps_expr (pe_bm PySem.F.plainAttrs_list PySem.F.slot_list_append PySem.F.type_list_append mt_append (pv 5) (pa_cons (pe_g C__law_low (hr.mono (by decide)) hg (pa_cons (pe_op op_add pe_int (pe_g C__law_draw (hr.mono (by decide)) hg (pa_cons (pv 0) (pa_cons pe_int pa_nil)))) (pa_cons (pv 4) pa_nil))) pa_nil))))
      (pss_one (ps_expr (pe_bm PySem.F.plainAttrs_list PySem.F.slot_list_append PySem.F.type_list_append mt_append (pv 5) (pa_cons (pe_g C__law_low (hr.mono (by decide)) hg (pa_cons (pe_op op_add pe_int (pe_g C__law_draw (hr.mono (by decide)) hg (pa_cons (pv 0) (pa_cons pe_int pa_nil)))) (pa_cons (pe_op op_add pe_int (pe_g C__law_draw (hr.mono (by decide)) hg (pa_cons (pv 0) (pa_cons pe_int pa_nil)))) pa_nil))) pa_nil)))))))))
      (pss_cons (ps_if (pt_cmpR op_eq (pv 3) pe_int (nomark _))
      (pss_one (ps_set (i := 5) sc__law_weights.nd rfl (.inl rfl) (pe_op op_cat (pe_op op_rep (pe_lst (pa_cons (pe_ix ix_list (pv 5) pe_int (fun _ _ => rfl)) pa_nil)) (pe_op op_sub (pv 2) pe_int)) (pe_slice sl_list (pv 5) (po_some (pe_un un_neg pe_int)) po_none))))
      pss_nil)
      (pss_one (ps_ret (pv 5))))))))), ?_⟩
    refine ⟨_, rfl, _, rfl, q, mo, rfl, mo0, ?_, hP, fun n H1 n0 n1 P1 b1 => ⟨_, _, rfl, rfl, ?_⟩⟩
    · exact Nat.lt_of_lt_of_le (show mo.natAbs < 2 ^ 5 by omega) (Nat.pow_le_pow_right (by decide) (by decide))
    refine ⟨_, rfl, q, 5, rfl, by decide, by decide, P1, fun way H2 w0 w1 P2 b2 => ?_⟩
    refine ⟨_, rfl, q, 12, rfl, by decide, by decide, P2, fun bot H3 t0 t1 P3 b3 => ⟨_, _, rfl, rfl, ?_⟩⟩
    refine ⟨len_show (Nat.le_of_ble_eq_true rfl), fun L nL => ?_⟩
    have hne : L ≠ q := pot_ne P3 nL
    have b03 := (b1.trans b2).trans b3
    have nL0 : H L = none := by
      cases e : H L with
      | none => rfl
      | some o =>
        rw [b03 L o hne e] at nL
        cases nL
    have S0 : Ws K (L2.upd H3 L (.lst [])) q L [] [] := ⟨upd_same, hne, .nil, fun f hf => by cases hf⟩
    have P4 := pot_same P3 (same_new (o := .lst []) nL)
    have b04 := b03.same (same_new (o := .lst []) nL)
    generalize L2.upd H3 L (.lst []) = H4 at S0 P4 b04 ⊢
    refine ⟨_, rfl, _, rfl, by omega, by omega, for_range (lo := 0) (n := (1 + n).toNat) (fun i σ H' => ∃ (y6 : Option V) (xs : List V) (fs : List (Int × Int)), σ = [some (.ref q), some (.int mo), some (.int (1 + n)), some (.int way), some (.int (1 + bot)), some (.ref L), y6] ∧ Ws K H' q L xs fs ∧ fs.length = i ∧ Pot H' q ∧ But q H H')
      ⟨_, _, _, rfl, S0, rfl, P4, b04⟩ ?_ ?_⟩
    · rintro i σ H5 hi ⟨y6, xs, fs, rfl, S5, hl5, P5, b5⟩
      have hlen : xs.length < sizeLine := by
        have := S5.at_.length
        rw [sizeLine_eq]
        omega
      have fin : ∀ (v : V) (f : Int × Int) (H6 : Hp), AtK K H6 v f → Wt f → Pot H6 q → But q H5 H6 → Ws K (L2.upd H6 L (.lst (xs ++ [v]))) q L (xs ++ [v]) (fs ++ [f]) ∧ (fs ++ [f]).length = i + 1 ∧ Pot (L2.upd H6 L (.lst (xs ++ [v]))) q ∧ But q H (L2.upd H6 L (.lst (xs ++ [v]))) := by
        intro v f H6 hv hf P6 b6
        refine ⟨(S5.but b6 P5).add hv hf, by rw [List.length_append, hl5]; rfl, pot_upd P6 hne, fun b o nb e => ?_⟩
        rw [upd_ne (ne_of_none e nL0)]
        exact (b5.trans b6) b o nb e
      have hw0 : way = 0 ∨ way ≠ 0 := Classical.em _
      refine ⟨_, rfl, rfl, _, rfl, ite2 (fun e => ?_) (fun e => ?_)⟩
      · refine ⟨_, rfl, .inl ⟨rfl, _, .inl (.inl S5.l)⟩, _, rfl, q, rfl, P5, fun v f H6 hv hf P6 b6 => ?_⟩
        exact ⟨L, xs, v, rfl, rfl, b6 _ _ hne S5.l, hlen, _, _, _, rfl, fin v f H6 hv hf P6 b6⟩
      refine ⟨_, rfl, _, _, rfl, rfl, _, rfl, ite2 (fun e2 => ?_) (fun e2 => ?_)⟩
      · refine ⟨_, rfl, .inl ⟨rfl, _, .inl (.inl S5.l)⟩, _, rfl, q, 40, rfl, by decide, by decide, P5, fun r H6 r0 r1 P6 b6 => ⟨_, _, rfl, rfl, _, rfl, _, _, rfl, by omega, mid41 (by omega) (by omega), fun H7 p7 s7 e7 => ?_⟩⟩
        have b57 := b6.same s7
        exact ⟨L, xs, _, rfl, rfl, b57 _ _ hne S5.l, hlen, _, _, _, rfl, fin _ _ H7 (AtK.of e7) (wt_low (by omega) (by omega) (by omega) (by omega)) (pot_same P6 s7) b57⟩
      · refine ⟨_, rfl, .inl ⟨rfl, _, .inl (.inl S5.l)⟩, _, rfl, q, 30, rfl, by decide, by decide, P5, fun r H6 r0 r1 P6 b6 => ⟨_, _, rfl, rfl, _, rfl, q, 6, rfl, by decide, by decide, P6, fun u H7 u0 u1 P7 b7 => ⟨_, _, rfl, rfl, _, _, rfl, by omega, mid41 (by omega) (by omega), fun H8 p8 s8 e8 => ?_⟩⟩⟩
        have b58 := (b6.trans b7).same s8
        exact ⟨L, xs, _, rfl, rfl, b58 _ _ hne S5.l, hlen, _, _, _, rfl, fin _ _ H8 (AtK.of e8) (wt_low (by omega) (by omega) (by omega) (by omega)) (pot_same P7 s8) b58⟩
    · rintro σ H5 ⟨y6, xs, fs, rfl, S5, hl5, P5, b5⟩
      have hW : Wts fs := ⟨S5.wt, by omega, by omega⟩
      refine ⟨_, rfl, rfl, _, rfl, ite2 (fun e => ?_) (fun e => ?_)⟩
      · have hlx := S5.at_.length
        obtain ⟨x0, hx0⟩ : ∃ x0, xs[0]? = some x0 := ⟨_, List.getElem?_eq_getElem (by omega)⟩
        obtain ⟨g0, hg0, hat0⟩ := S5.at_.get hx0
        refine ⟨_, rfl, L, _, _, _, rfl, rfl, .inl (.inl S5.l), atI_nat (j := 0) hx0, len_show (Nat.le_of_ble_eq_true rfl), fun p6 n6 => ?_⟩
        have s6 : Same H5 (L2.upd H5 p6 (.lst [x0])) := same_new n6
        have e6 : L2.upd H5 p6 (.lst [x0]) p6 = some (.lst [x0]) := upd_same
        generalize L2.upd H5 p6 (.lst [x0]) = H6 at s6 e6 ⊢
        refine ⟨_, rfl, _, _, rfl, rfl, p6, _, [x0], rfl, rfl, e6, by omega, by omega, by rw [sizeLine_eq, List.length_singleton]; omega, fun p7 n7 => ?_⟩
        have s7 := same_new (o := .lst (List.replicate (1 + n - 1).toNat [x0]).flatten) n7
        have e7 := upd_same (H := H6) (a := p7) (o := .lst (List.replicate (1 + n - 1).toNat [x0]).flatten)
        generalize L2.upd H6 p7 (.lst (List.replicate (1 + n - 1).toNat [x0]).flatten) = H7 at s7 e7 ⊢
        have s57 := s6.trans s7
        refine ⟨_, rfl, _, rfl, _, rfl, L, xs, rfl, .inl (.inl (s57 _ _ S5.l)), fun p8 n8 => ?_⟩
        have s8 := same_new (o := .lst (cutV xs (some (-1)) none)) n8
        have e8 := upd_same (H := H7) (a := p8) (o := .lst (cutV xs (some (-1)) none))
        generalize L2.upd H7 p8 (.lst (cutV xs (some (-1)) none)) = H8 at s8 e8 ⊢
        have hfl : ((List.replicate (1 + n - 1).toNat [x0]).flatten).length = (1 + n - 1).toNat := by
          rw [List.length_flatten, List.map_replicate, List.sum_replicate_nat]
          simp
        have hcl : (cutV xs (some (-1)) none).length ≤ xs.length := cutV_length _ _ _
        refine ⟨p7, p8, _, _, rfl, rfl, s8 _ _ e7, e8, by rw [sizeLine_eq]; omega, fun p9 n9 => ?_⟩
        have s9 := same_new (o := .lst ((List.replicate (1 + n - 1).toNat [x0]).flatten ++ cutV xs (some (-1)) none)) n9
        have e9 := upd_same (H := H8) (a := p9) (o := .lst ((List.replicate (1 + n - 1).toNat [x0]).flatten ++ cutV xs (some (-1)) none))
        generalize L2.upd H8 p9 (.lst ((List.replicate (1 + n - 1).toNat [x0]).flatten ++ cutV xs (some (-1)) none)) = H9 at s9 e9 ⊢
        have s59 := (s57.trans s8).trans s9
        have P9 := pot_same P5 s59
        have cutk : cutV xs (some (-1)) none = xs.drop (xs.length - 1) := by
          unfold cutV
          have h1 : HT.sIx xs.length 0 (some (-1)) = xs.length - 1 := by
            simp [HT.sIx]
            omega
          rw [h1]
          exact List.take_of_length_le (by rw [List.length_drop]; simp [HT.sIx])
        rw [cutk] at e9
        refine ⟨_, rfl, k p9 _ (List.replicate (1 + n - 1).toNat g0 ++ fs.drop (xs.length - 1)) H9 ⟨e9, pot_ne (pot_same P5 (s57.trans s8)) n9, ((AtKs.rep hat0 _).app (S5.at_.drop _)).same s59, fun f hf => ?_⟩ ⟨fun f hf => ?_, ?_, ?_⟩ P9 (b5.same s59)⟩
        · rcases List.mem_append.mp hf with z | z
          · rw [(List.mem_replicate.mp z).2]
            exact S5.wt _ (List.mem_of_getElem? hg0)
          · exact S5.wt _ (List.mem_of_mem_drop z)
        · rcases List.mem_append.mp hf with z | z
          · rw [(List.mem_replicate.mp z).2]
            exact S5.wt _ (List.mem_of_getElem? hg0)
          · exact S5.wt _ (List.mem_of_mem_drop z)
        · rw [List.length_append, List.length_replicate, List.length_drop]
          omega
        · rw [List.length_append, List.length_replicate, List.length_drop]
          omega
      · exact ⟨_, rfl, k L xs fs H5 S5 hW P5 b5⟩

end
end Lf

set_option Elab.async false
set_option linter.all false
set_option maxRecDepth 100000
set_option maxHeartbeats 4000000
set_option exponentiation.threshold 3000
namespace Lf
open PySem PySem.Spec PyProof.Rows L2
theorem ix_tupK {X : Cx} {K : PySem.W.Frag} (hK : X.K = K := by rfl) : IxR X (rIxT K) := hK ▸ ix_tup
theorem ix_listK {X : Cx} {K : PySem.W.Frag} (hK : X.K = K := by rfl) : IxR X (rIxL K) := hK ▸ ix_list
section
variable {P : Program} {w : World} {K : PySem.W.Frag} {mg : Str → Option Value} {base : Heap}

/-! ### _law_step -/
theorem sc__law_step : FnScope ["_law_pot_here", "_law_weights_here", "_law_whole", "_law_way"] ["_law_pot_here", "_law_weights_here"] (defScope s__law_step) := ⟨rfl, rfl, rfl, by decide +kernel, rfl, by decide +kernel, by decide +kernel⟩
def sp_step (K : PySem.W.Frag) : Sp := fun vs H Q _ => ∃ (q L : Addr) (xs : List V) (fs : List (Int × Int)), vs = [.ref q, .ref L] ∧ Ws K H q L xs fs ∧ Wts fs ∧ Pot H q ∧ GivesW K H q Q
theorem ok_step {f : Addr} {fd : FuncData} (M : Blt mg) (F : Fun K "_law_step" "_law_step" s__law_step f fd) (C__law_draw : Cal P w K mg base CX0 1 "_law_draw" ["_law_pot_here", "_law_many_here"] sp_draw) (C__law_low : Cal P w K mg base CX0 1 "_law_low" ["_law_top", "_law_bottom"] sp_low) (C__law_whole_some : Cal P w K mg base CX0 2 "_law_whole_some" ["_law_pot_here"] (sp_wsome K))
    (C__law_total : Cal P w K mg base CX0 3 "_law_total" ["_law_some"] (sp_togL K)) : FnG P w K mg base CX0 4 f fd ["_law_pot_here", "_law_weights_here"] (sp_step K) := by
  refine Gfun F sc__law_step (fun vs H Q E h => ?_) (fun cdv A outer s H vs Q E hg hr h => ?_)
  · obtain ⟨q, L, xs, fs, rfl, _⟩ := h
    rfl
  · obtain ⟨q, L, xs, fs, rfl, S, W, hP, k⟩ := h
    refine ⟨_, (pss_cons (ps_set (i := 2) sc__law_step.nd rfl (.inl rfl) (pe_g C__law_total (hr.mono (by decide)) hg (pa_cons (pv 1) pa_nil)))
      (pss_cons (ps_set (i := 3) sc__law_step.nd rfl (.inl rfl) (pe_g C__law_draw (hr.mono (by decide)) hg (pa_cons (pv 0) (pa_cons pe_int pa_nil))))
      (pss_cons (ps_if (pt_cmpR op_eq (pv 3) pe_int (nomark _))
      (pss_one (ps_ret (pe_g C__law_whole_some (hr.mono (by decide)) hg (pa_cons (pv 0) pa_nil))))
      pss_nil)
      (pss_cons (ps_if (PW.pt (pw_and (pt_cmpR op_eq (pv 3) pe_int (nomark _)) (pw_and1 (pt_cmpR op_lt (pe_callB (call_maxT2 rfl hr) rfl M.max bt_max (pa_cons (pv 2) pa_nil)) (pe_op op_pow pe_int pe_int) (nomark _)))))
      (pss_one (ps_ret (pe_g C__law_low (hr.mono (by decide)) hg (pa_cons (pe_ix ix_tup (pv 2) pe_int (fun _ _ => rfl)) (pa_cons (pe_op op_mulW (pe_ix ix_tup (pv 2) pe_int (fun _ _ => rfl)) (pe_op op_add pe_int (pe_g C__law_draw (hr.mono (by decide)) hg (pa_cons (pv 0) (pa_cons pe_int pa_nil))))) pa_nil)))))
      pss_nil)
      (pss_one (ps_ret (pe_g C__law_low (hr.mono (by decide)) hg (pa_cons (pe_op op_add pe_int (pe_g C__law_draw (hr.mono (by decide)) hg (pa_cons (pv 0) (pa_cons pe_int pa_nil)))) (pa_cons (pe_op op_add pe_int (pe_g C__law_draw (hr.mono (by decide)) hg (pa_cons (pv 0) (pa_cons pe_int pa_nil)))) pa_nil))))))))), ?_⟩
    have h12 := W.few
    refine ⟨_, rfl, L, xs, fs, 41, rfl, .inl (.inl S.l), S.at_, W.f, W.b, by decide, by omega, fun H1 tv s1 ht => ?_⟩
    have P1 := pot_same hP s1
    refine ⟨_, rfl, q, 4, rfl, by decide, by decide, P1, fun way H2 w0 w1 P2 b2 => ?_⟩
    have b12 : But q H H2 := (But.same But.rfl s1).trans b2
    obtain ⟨pt, rfl, hpt⟩ := ht
    obtain ⟨pt', ept, hpt2⟩ := AtK.but b2 P1 ⟨pt, rfl, hpt⟩
    cases ept
    have hpt2' : SqT K H2 pt [.int (tot fs).1, .int (tot fs).2] := hpt2
    have t0 := tot_pos W
    have t2 : 0 < (tot fs).2 := (tot_f W.f).1
    refine ⟨_, rfl, rfl, _, rfl, ite2 (fun e => ?_) (fun e => ?_)⟩
    · exact ⟨_, rfl, q, rfl, P2, fun v f H3 hv hf P3 b3 => k v f H3 hv hf P3 (b12.trans b3)⟩
    refine ⟨_, rfl, rfl, _, rfl, ite2 (fun e2 => ?_) (fun e2 => ?_)⟩
    · refine ⟨_, rfl, pt, _, _, rfl, hpt2', fun m m1 m2 => ⟨_, _, rfl, rfl, ⟨by decide, by decide, by decide⟩, _, _, rfl, rfl, _, rfl, ite2 (fun e3 => ?_) (fun e3 => ?_)⟩⟩
      · have hm : m < 10 ^ 9 := of_decide_eq_true e3
        refine ⟨_, rfl, pt, _, _, _, rfl, rfl, hpt2', atI_nat (j := 0) rfl, _, rfl, pt, _, _, _, rfl, rfl, hpt2', atI_nat (j := 1) rfl, _, rfl, q, 40, rfl, by decide, by decide, P2, fun r H3 r0 r1 P3 b3 => ⟨_, _, rfl, rfl, _, _, rfl, rfl, ?_, ?_⟩⟩
        · exact Sm.mulW (Nat.lt_of_lt_of_le (show (tot fs).2.natAbs < 2 ^ 41 by omega) (Nat.pow_le_pow_right (by decide) (by decide))) (small30 (by omega) (by omega))
        have hd : 0 < (tot fs).2 * (1 + r) := Int.mul_pos t2 (by omega)
        have hd2 : (tot fs).2 * (1 + r) < 2 ^ 41 := by
          have a1 : (tot fs).2 * (1 + r) ≤ 10 ^ 9 * (1 + r) := Int.mul_le_mul_of_nonneg_right (by omega) (by omega)
          omega
        refine ⟨_, _, rfl, by omega, mid41 (by omega) hd2, fun H4 p4 s4 e4 => ?_⟩
        exact k _ _ H4 (AtK.of e4) (wt_low t0 hd (by omega) hd2) (pot_same P3 s4) ((b12.trans b3).same s4)
      · refine ⟨_, rfl, q, 12, rfl, by decide, by decide, P2, fun r H3 r0 r1 P3 b3 => ⟨_, _, rfl, rfl, _, rfl, q, 12, rfl, by decide, by decide, P3, fun u H4 u0 u1 P4 b4 => ⟨_, _, rfl, rfl, _, _, rfl, by omega, mid41 (by omega) (by omega), fun H5 p5 s5 e5 => ?_⟩⟩⟩
        exact k _ _ H5 (AtK.of e5) (wt_low (by omega) (by omega) (by omega) (by omega)) (pot_same P4 s5) (((b12.trans b3).trans b4).same s5)
    · refine ⟨_, rfl, q, 12, rfl, by decide, by decide, P2, fun r H3 r0 r1 P3 b3 => ⟨_, _, rfl, rfl, _, rfl, q, 12, rfl, by decide, by decide, P3, fun u H4 u0 u1 P4 b4 => ⟨_, _, rfl, rfl, _, _, rfl, by omega, mid41 (by omega) (by omega), fun H5 p5 s5 e5 => ?_⟩⟩⟩
      exact k _ _ H5 (AtK.of e5) (wt_low (by omega) (by omega) (by omega) (by omega)) (pot_same P4 s5) (((b12.trans b3).trans b4).same s5)

/-! ### _law_many -/
theorem sc__law_many : FnScope ["_law_weights_here", "_law_step_here", "_law_whole"] ["_law_weights_here", "_law_step_here"] (defScope s__law_many) := ⟨rfl, rfl, rfl, by decide +kernel, rfl, by decide +kernel, by decide +kernel⟩
def sp_lmany (K : PySem.W.Frag) : Sp := fun vs H Q _ => ∃ (L : Addr) (v : V) (xs : List V) (fs : List (Int × Int)) (st : Int × Int), vs = [.ref L, v] ∧ SqL K H L xs ∧ AtKs K H xs fs ∧ Wts fs ∧ AtK K H v st ∧ Wt st ∧ ∀ H', Same H H' → Q (.int (many fs st)) H'
theorem ok_lmany {f : Addr} {fd : FuncData} (F : Fun K "_law_many" "_law_many" s__law_many f fd) (C__law_total : Cal P w K mg base CX0 3 "_law_total" ["_law_some"] (sp_togL K)) : FnG P w K mg base CX0 4 f fd ["_law_weights_here", "_law_step_here"] (sp_lmany K) := by
  refine Gfun F sc__law_many (fun vs H Q E h => ?_) (fun cdv A outer s H vs Q E hg hr h => ?_)
  · obtain ⟨L, v, xs, fs, st, rfl, _⟩ := h
    rfl
  · obtain ⟨L, v, xs, fs, st, rfl, hS, hA, W, hv, hs, k⟩ := h
    refine ⟨_, (pss_cons (ps_set (i := 2) sc__law_many.nd rfl (.inl rfl) (pe_g C__law_total (hr.mono (by decide)) hg (pa_cons (pv 0) pa_nil)))
      (pss_one (ps_ret (pe_op op_fdivN (pe_op op_mulW (pe_ix ix_tup (pv 2) pe_int (fun _ _ => rfl)) (pe_ix ix_tup (pv 1) pe_int (fun _ _ => rfl))) (pe_op op_mulW (pe_ix ix_tup (pv 2) pe_int (fun _ _ => rfl)) (pe_ix ix_tup (pv 1) pe_int (fun _ _ => rfl))))))), ?_⟩
    have h12 := W.few
    refine ⟨_, rfl, L, xs, fs, 41, rfl, hS, hA, W.f, W.b, by decide, by omega, fun H1 tv s1 ht => ?_⟩
    obtain ⟨pt, rfl, hpt⟩ := ht
    obtain ⟨ps, rfl, hps⟩ := hv.same s1
    have hpt' : SqT K H1 pt [.int (tot fs).1, .int (tot fs).2] := hpt
    have tb := (tot_bt W).sm (by decide)
    have sb := hs.bt.sm (by decide)
    have t2 : 0 < (tot fs).2 := (tot_f W.f).1
    have hd := Int.mul_pos t2 hs.po
    refine ⟨_, rfl, pt, _, _, _, rfl, rfl, hpt', atI_nat (j := 0) rfl, _, rfl, ps, _, _, _, rfl, rfl, hps, atI_nat (j := 1) rfl, _, _, rfl, rfl, Sm.mulW tb.1 sb.2, ?_⟩
    refine ⟨_, rfl, pt, _, _, _, rfl, rfl, hpt', atI_nat (j := 1) rfl, _, rfl, ps, _, _, _, rfl, rfl, hps, atI_nat (j := 0) rfl, _, _, rfl, rfl, Sm.mulW tb.2 sb.1, ?_⟩
    exact ⟨_, _, rfl, rfl, ⟨by omega, (Sm.mul tb.2 sb.1).log⟩, k H1 s1⟩

/-! ### _law_aims -/
theorem sc__law_aims : FnScope ["_law_weights_here", "_law_step_here", "_law_whole", "_law_many_here", "_law_one"] ["_law_weights_here", "_law_step_here"] (defScope s__law_aims) := ⟨rfl, rfl, rfl, by decide +kernel, rfl, by decide +kernel, by decide +kernel⟩
def sp_laims (K : PySem.W.Frag) : Sp := fun vs H Q _ => ∃ (L : Addr) (v : V) (xs : List V) (fs : List (Int × Int)) (st : Int × Int), vs = [.ref L, v] ∧ SqL K H L xs ∧ AtKs K H xs fs ∧ Wts fs ∧ AtK K H v st ∧ Wt st ∧
  ∀ H' D ys, Same H H' → H D = none → H' D = some (.lst ys) → AtKs K (wo D H') ys (fs.map (aim fs st)) → Q (.ref D) H'
theorem ok_laims {f : Addr} {fd : FuncData} (F : Fun K "_law_aims" "_law_aims" s__law_aims f fd) (C__law_total : Cal P w K mg base CX0 3 "_law_total" ["_law_some"] (sp_togL K)) (C__law_many : Cal P w K mg base CX0 4 "_law_many" ["_law_weights_here", "_law_step_here"] (sp_lmany K)) (C__law_low : Cal P w K mg base CX0 1 "_law_low" ["_law_top", "_law_bottom"] sp_low) : FnG P w K mg base CX0 5 f fd ["_law_weights_here", "_law_step_here"] (sp_laims K) := by
  refine Gfun F sc__law_aims (fun vs H Q E h => ?_) (fun cdv A outer s H vs Q E hg hr h => ?_)
  · obtain ⟨L, v, xs, fs, st, rfl, _⟩ := h
    rfl
  · obtain ⟨L, v, xs, fs, st, rfl, hS, hA, W, hv, hs, k⟩ := h
    refine ⟨_, (pss_cons (ps_set (i := 2) sc__law_aims.nd rfl (.inr rfl) (pe_g C__law_total (hr.mono (by decide)) hg (pa_cons (pv 0) pa_nil)))
      (pss_cons (ps_set (i := 3) sc__law_aims.nd rfl (.inr rfl) (pe_g C__law_many (hr.mono (by decide)) hg (pa_cons (pv 0) (pa_cons (pv 1) pa_nil))))
      (pss_one (ps_ret (pe_lc (own := [("_law_one", 4)]) (g := gName 4) (tt := tYes) rfl sc__law_aims.nd (pi_list (pv 0)) (blkOk_by (N := ["_law_weights_here", "_law_step_here", "_law_whole", "_law_many_here", "_law_one"]) (sc := defScope s__law_aims) (by decide +kernel)) (fun _ _ _ _ _ => pg_name (i := 4) sc__law_aims.nd rfl (Or.inl rfl)) (fun _ _ _ _ _ => pts_nil) (fun _ _ _ _ _ => (pe_g C__law_low (hr.mono (by decide)) hg (pa_cons (pe_op op_mulW (pe_op op_mulW (pe_ix (ix_tupK (K := K)) (pv 4) pe_int (fun _ _ => rfl)) (pe_ix (ix_tupK (K := K)) (pv 2) pe_int (fun _ _ => rfl))) (pv 3)) (pa_cons (pe_op op_mulW (pe_ix (ix_tupK (K := K)) (pv 4) pe_int (fun _ _ => rfl)) (pe_ix (ix_tupK (K := K)) (pv 2) pe_int (fun _ _ => rfl))) pa_nil))))))))), ?_⟩
    have h12 := W.few
    refine ⟨_, rfl, L, xs, fs, 41, rfl, hS, hA, W.f, W.b, by decide, by omega, fun H1 tv s1 ht => ?_⟩
    have ht' : AtK K H1 tv (tot fs) := ht
    refine ⟨_, rfl, _, rfl, L, v, xs, fs, st, rfl, sm_l s1 hS, hA.same s1, W, hv.same s1, hs, fun H2 s2 => ?_⟩
    have s02 := s1.trans s2
    have tb := (tot_bt W).sm (by decide)
    have t1 := tot_pos W
    refine ⟨_, rfl, L, rfl, ⟨_, sm_l s02 hS⟩, fun D hD => lc_list (xs := xs) (fun i H' => (∃ ys, H' D = some (.lst ys) ∧ AtKs K (wo D H') ys ((fs.map (aim fs st)).take i)) ∧ Same H2 H') ⟨⟨[], upd_same, .nil⟩, same_new hD⟩ (fun i H' _ h => sm_l (s02.trans h.2) hS) ?_ ?_⟩
    · rintro i x H5 hx ⟨⟨ys, eD, hy⟩, sm⟩
      obtain ⟨g, hgi, hg0⟩ := hA.get hx
      have hw := W.all g (List.mem_of_getElem? hgi)
      have hi : i < xs.length := (List.getElem?_eq_some_iff.mp hx).1
      have hl := hA.length
      obtain ⟨pg, rfl, hpg⟩ := hg0.same (s02.trans sm)
      obtain ⟨pt, rfl, hpt⟩ := ht'.same (s2.trans sm)
      have gb := hw.bt.sm (by decide)
      have m1 : (g.1 * (tot fs).2).natAbs < 2 ^ (41 + 505) := mul_lt hw.bt.1 (tot_bt W).2
      have sm1 : Sm (g.1 * (tot fs).2) := Nat.lt_of_lt_of_le m1 (Nat.pow_le_pow_right (by decide) (by decide))
      have smm : Sm (many fs st) := Nat.lt_of_lt_of_le (many_lt W hs) (Nat.pow_le_pow_right (by decide) (by decide))
      refine ⟨rfl, _, rfl, pg, _, _, _, rfl, rfl, hpg, atI_nat (j := 0) rfl, _, rfl, pt, _, _, _, rfl, rfl, hpt, atI_nat (j := 1) rfl, _, _, rfl, rfl, Sm.mulW gb.1 tb.2, _, rfl, _, _, rfl, rfl, Sm.mulW sm1 smm, ?_⟩
      refine ⟨_, rfl, pg, _, _, _, rfl, rfl, hpg, atI_nat (j := 1) rfl, _, rfl, pt, _, _, _, rfl, rfl, hpt, atI_nat (j := 0) rfl, _, _, rfl, rfl, Sm.mulW gb.2 tb.1, ?_⟩
      refine ⟨_, _, rfl, mul_ne hw.lo.ne (by omega), Sm.mul gb.2 tb.1, fun H6 p6 s6 e6 => ?_⟩
      rw [← aim_low W hw] at e6
      have hyl := hy.length
      rw [List.length_take, List.length_map] at hyl
      have nD : p6 ≠ D := fun z => by
        rw [z, s6 _ _ eD] at e6
        cases e6
      refine ⟨ys, s6 _ _ eD, by rw [sizeLine_eq]; omega, ⟨ys ++ [.ref p6], upd_same, ?_⟩, fun b o e => ?_⟩
      · rw [List.take_add_one, List.getElem?_map, hgi]
        have s7 : Same (wo D H5) (wo D (L2.upd H6 D (.lst (ys ++ [.ref p6])))) := fun b o e => wo_at (wo_not e) (by rw [upd_ne (wo_not e)]; exact s6 _ _ (wo_le _ _ e))
        refine (hy.same s7).app (.cons (AtK.of (wo_at nD ?_)) .nil)
        rw [upd_ne nD]
        exact e6
      · rw [upd_ne (ne_of_none e hD)]
        exact s6 _ _ (sm _ _ e)
    · rintro H5 ⟨⟨ys, eD, hy⟩, sm⟩
      rw [hA.length, show fs.length = (fs.map (aim fs st)).length from (List.length_map _).symm, List.take_length] at hy
      exact k H5 D ys (s02.trans sm) (same_none s02 hD) eD hy

end
end Lf

set_option Elab.async false
set_option linter.all false
set_option maxRecDepth 100000
set_option maxHeartbeats 4000000
set_option exponentiation.threshold 3000
/-! Papers: places that cannot be counted their floors, or one more. -/
namespace Lf
theorem rst_pair {f : Int × Int} (h : IsF f) (h0 : 0 ≤ f.1) : rst f = (f.1 % f.2, f.2) := by
  rw [rst_eq h]
  have m0 := Int.emod_nonneg f.1 h.ne
  have h2 : 0 < f.2 := h.1
  refine low_self ⟨h.1, ?_⟩
  show (f.1 % f.2).natAbs.gcd f.2.natAbs = 1
  rw [Nat.gcd_comm, gcd_step f.1 f.2 h.1 h0]
  exact h.2
theorem fsub_1 {r : Int × Int} (h : IsF r) : fsub f1 r = (r.2 - r.1, r.2) := by
  have e : fsub f1 r = low (r.2 - r.1) r.2 := by
    show low (1 * r.2 - r.1 * 1) (1 * r.2) = _
    rw [Int.one_mul, Int.mul_one]
  rw [e]
  refine low_self ⟨h.1, ?_⟩
  have g := h.2
  have : Int.gcd (r.2 - r.1) r.2 = Int.gcd r.1 r.2 := by simp
  unfold Int.gcd at this
  show (r.2 - r.1).natAbs.gcd r.2.natAbs = 1
  rw [this]
  exact g
def upP (R : List (Int × Int)) (b : Int × Int) (i : Nat) : Bool := !lessB (R.getD i f0) b
def dnP (R : List (Int × Int)) (b : Int × Int) (i : Nat) : Bool := !lessB (fsub f1 (R.getD i f0)) b
def upL (R : List (Int × Int)) (b : Int × Int) : List Nat := (List.range R.length).filter (upP R b)
def dnL (R : List (Int × Int)) (b : Int × Int) : List Nat := (List.range R.length).filter (dnP R b)
/-- whether a paper shows -/
def showsB (U D : List Nat) (m : Int) (n : Nat) : Bool := U.any (fun p => D.contains p) || (decide (m < (U.length : Int)) || decide ((n : Int) - (D.length : Int) < m))
theorem up_le (R : List (Int × Int)) (b : Int × Int) : (upL R b).length ≤ R.length := Nat.le_trans (List.length_filter_le _ _) (by rw [List.length_range]; exact Nat.le_refl _)
theorem dn_le (R : List (Int × Int)) (b : Int × Int) : (dnL R b).length ≤ R.length := Nat.le_trans (List.length_filter_le _ _) (by rw [List.length_range]; exact Nat.le_refl _)
theorem up_lt {R : List (Int × Int)} {b : Int × Int} {i : Nat} (h : i ∈ upL R b) : i < R.length := List.mem_range.mp (List.mem_filter.mp h).1
theorem dn_lt {R : List (Int × Int)} {b : Int × Int} {i : Nat} (h : i ∈ dnL R b) : i < R.length := List.mem_range.mp (List.mem_filter.mp h).1
end Lf

set_option Elab.async false
set_option linter.all false
set_option maxRecDepth 100000
set_option maxHeartbeats 4000000
set_option exponentiation.threshold 3000
/-! Who is counted one more: just so many as are wanted; a paper shows just where the worst is the bound or more. -/
namespace Lf
/-! ### ranks -/
theorem nodup_len : ∀ (n : Nat) (l : List Nat), l.Nodup → (∀ x ∈ l, x < n) → l.length ≤ n
  | 0, l, _, h => by
    cases l with
    | nil => exact Nat.le_refl _
    | cons x _ => exact absurd (h x List.mem_cons_self) (Nat.not_lt_zero _)
  | n + 1, l, hd, h => by
    by_cases hm : n ∈ l
    · have h1 := nodup_len n (l.erase n) (hd.erase n) (fun x hx => by
        have h2 := h x (List.mem_of_mem_erase hx)
        have h3 : x ≠ n := (hd.mem_erase_iff.mp hx).1
        omega)
      rw [List.length_erase_of_mem hm] at h1
      omega
    · have := nodup_len n l hd (fun x hx => by
        have h2 := h x hx
        have h3 : x ≠ n := fun z => hm (z ▸ hx)
        omega)
      omega
theorem nodup_perm : ∀ (n : Nat) (l : List Nat), l.Nodup → (∀ x ∈ l, x < n) → l.length = n → l.Perm (List.range n)
  | 0, l, _, _, hl => by
    rw [List.length_eq_zero_iff.mp hl]
    exact .refl _
  | n + 1, l, hd, h, hl => by
    have hm : n ∈ l := by
      by_cases hm : n ∈ l
      · exact hm
      · have := nodup_len n l hd (fun x hx => by
          have h2 := h x hx
          have h3 : x ≠ n := fun z => hm (z ▸ hx)
          omega)
        omega
    have p := nodup_perm n (l.erase n) (hd.erase n) (fun x hx => by
      have h2 := h x (List.mem_of_mem_erase hx)
      have h3 : x ≠ n := (hd.mem_erase_iff.mp hx).1
      omega) (by rw [List.length_erase_of_mem hm]; omega)
    rw [List.range_succ]
    exact (List.perm_cons_erase hm).trans ((List.Perm.cons n p).trans (List.perm_append_comm (l₁ := [n])))
theorem filter_less {α : Type} {p q : α → Bool} : ∀ (l : List α), (∀ k ∈ l, p k = true → q k = true) → (l.filter p).length ≤ (l.filter q).length ∧ ((∃ x ∈ l, q x = true ∧ p x = false) → (l.filter p).length < (l.filter q).length)
  | [], _ => ⟨Nat.le_refl _, fun ⟨x, hx, _⟩ => by cases hx⟩
  | a :: l, h => by
    obtain ⟨i1, i2⟩ := filter_less l fun k hk => h k (List.mem_cons_of_mem _ hk)
    have ha := h a List.mem_cons_self
    rw [List.filter_cons, List.filter_cons]
    cases hp : p a <;> cases hq : q a
    · refine ⟨by simpa using i1, fun ⟨x, hx, h1, h2⟩ => ?_⟩
      rcases List.mem_cons.mp hx with rfl | hx
      · rw [hq] at h1; cases h1
      · simpa using i2 ⟨x, hx, h1, h2⟩
    · refine ⟨?_, fun _ => ?_⟩
      · simp only [Bool.false_eq_true, if_false, if_true, List.length_cons]
        omega
      · simp only [Bool.false_eq_true, if_false, if_true, List.length_cons]
        omega
    · rw [hp] at ha
      exact absurd (ha rfl) (by rw [hq]; decide)
    · refine ⟨by simpa using i1, fun ⟨x, hx, h1, h2⟩ => ?_⟩
      rcases List.mem_cons.mp hx with rfl | hx
      · rw [hp] at h2; cases h2
      · have := i2 ⟨x, hx, h1, h2⟩
        simpa using this
theorem count_lt (m : Nat) : ∀ n : Nat, ((List.range n).filter fun x => decide (x < m)).length = min m n
  | 0 => by simp
  | n + 1 => by
    rw [List.range_succ, List.filter_append, List.length_append, count_lt m n, List.filter_cons]
    by_cases h : n < m
    · rw [decide_eq_true h]
      simp
      omega
    · rw [decide_eq_false h]
      simp
      omega
/-- of a strict order that tells any two apart just m have fewer than m ahead of them -/
theorem ranks {n : Nat} {lt : Nat → Nat → Bool} (irr : ∀ i, i < n → lt i i = false) (tr : ∀ i j k, i < n → j < n → k < n → lt i j = true → lt j k = true → lt i k = true) (to : ∀ i j, i < n → j < n → i ≠ j → lt i j = true ∨ lt j i = true) (m : Nat) :
    ((List.range n).filter fun j => decide (((List.range n).filter fun i => lt i j).length < m)).length = min m n := by
  have rk : ∀ i j, i < n → j < n → lt i j = true → ((List.range n).filter fun k => lt k i).length < ((List.range n).filter fun k => lt k j).length := fun i j hi hj h =>
    (filter_less (List.range n) fun k hk hp => tr k i j (List.mem_range.mp hk) hi hj hp h).2 ⟨i, List.mem_range.mpr hi, h, irr i hi⟩
  have hnd : ((List.range n).map fun j => ((List.range n).filter fun i => lt i j).length).Nodup := by
    rw [List.nodup_iff_pairwise_ne, List.pairwise_map]
    refine List.Pairwise.imp_of_mem ?_ (List.nodup_iff_pairwise_ne.mp List.nodup_range)
    intro i j hi hj hne
    rcases to i j (List.mem_range.mp hi) (List.mem_range.mp hj) hne with h | h
    · exact Nat.ne_of_lt (rk i j (List.mem_range.mp hi) (List.mem_range.mp hj) h)
    · exact Ne.symm (Nat.ne_of_lt (rk j i (List.mem_range.mp hj) (List.mem_range.mp hi) h))
  have hlt : ∀ x ∈ (List.range n).map (fun j => ((List.range n).filter fun i => lt i j).length), x < n := by
    intro x hx
    obtain ⟨j, hj, rfl⟩ := List.mem_map.mp hx
    have hj' := List.mem_range.mp hj
    have := (filter_less (p := fun i => lt i j) (q := fun _ => true) (List.range n) fun _ _ _ => rfl).2 ⟨j, hj, rfl, irr j hj'⟩
    rw [List.filter_eq_self.mpr (fun _ _ => rfl), List.length_range] at this
    exact this
  have p := nodup_perm n _ hnd hlt (by rw [List.length_map, List.length_range])
  have e := (p.filter fun x => decide (x < m)).length_eq
  rw [count_lt, List.filter_map, List.length_map] at e
  exact e
end Lf

set_option Elab.async false
set_option linter.all false
set_option maxRecDepth 100000
set_option maxHeartbeats 4000000
set_option exponentiation.threshold 3000
namespace Lf
/-! ### the order of fractions -/
theorem lessB_iff {f g : Int × Int} : lessB f g = true ↔ f.1 * g.2 < g.1 * f.2 := decide_eq_true_iff
theorem notless_iff {f g : Int × Int} : lessB f g = false ↔ fle g f := by
  unfold fle
  rw [Bool.eq_false_iff, Ne, lessB_iff]
  omega
theorem less_trans {a b c : Int × Int} (ha : IsF a) (hb : IsF b) (hc : IsF c) (h : lessB a b = true) (k : lessB b c = true) : lessB a c = true := by
  rw [lessB_iff] at *
  have a2 : 0 < a.2 := ha.1
  have b2 : 0 < b.2 := hb.1
  have c2 : 0 < c.2 := hc.1
  have h1 := Int.mul_lt_mul_of_pos_right h c2
  have h2 := Int.mul_lt_mul_of_pos_right k a2
  have e1 : a.1 * b.2 * c.2 = a.1 * c.2 * b.2 := by grind
  have e2 : b.1 * a.2 * c.2 = b.1 * c.2 * a.2 := by grind
  have e3 : c.1 * b.2 * a.2 = c.1 * a.2 * b.2 := by grind
  exact Int.lt_of_mul_lt_mul_right (a := b.2) (by omega) (Int.le_of_lt b2)
theorem less_tri {a b : Int × Int} (ha : IsF a) (hb : IsF b) (h : a ≠ b) : lessB a b = true ∨ lessB b a = true := by
  rw [lessB_iff, lessB_iff]
  by_cases e : a.1 * b.2 = b.1 * a.2
  · obtain ⟨e1, e2⟩ := low_uniq ha hb e
    exact absurd (Prod.ext e1 e2) h
  · omega
section
variable {rs : List (Int × Int)}
theorem getD_f (h : AllF rs) (i : Nat) : IsF (rs.getD i f0) := by
  rw [List.getD_eq_getElem?_getD]
  cases e : rs[i]? with
  | none => exact f0_f
  | some g => exact h g (List.mem_of_getElem? e)
theorem soon_irr (i : Nat) : soon rs i i = false := by
  unfold soon
  rw [if_pos rfl]
  exact decide_eq_false (Nat.lt_irrefl i)
theorem soon_cases (h : AllF rs) {i j : Nat} (hs : soon rs i j = true) : lessB (rs.getD j f0) (rs.getD i f0) = true ∨ (rs.getD i f0 = rs.getD j f0 ∧ i < j) := by
  unfold soon at hs
  by_cases e : rs.getD i f0 = rs.getD j f0
  · rw [if_pos e] at hs
    exact .inr ⟨e, of_decide_eq_true hs⟩
  · rw [if_neg e] at hs
    exact .inl hs
theorem soon_of_less (h : AllF rs) {i j : Nat} (hs : lessB (rs.getD j f0) (rs.getD i f0) = true) : soon rs i j = true := by
  unfold soon
  by_cases e : rs.getD i f0 = rs.getD j f0
  · rw [e, lessB_self] at hs
    cases hs
  · rw [if_neg e]
    exact hs
theorem soon_tr (h : AllF rs) {i j k : Nat} (h1 : soon rs i j = true) (h2 : soon rs j k = true) : soon rs i k = true := by
  have fi := getD_f h i
  have fj := getD_f h j
  have fk := getD_f h k
  rcases soon_cases h h1 with a | ⟨a, a'⟩ <;> rcases soon_cases h h2 with b | ⟨b, b'⟩
  · exact soon_of_less h (less_trans fk fj fi b a)
  · exact soon_of_less h (by rw [← b]; exact a)
  · exact soon_of_less h (by rw [a]; exact b)
  · unfold soon
    rw [if_pos (a.trans b)]
    exact decide_eq_true (Nat.lt_trans a' b')
theorem soon_to (h : AllF rs) {i j : Nat} (hne : i ≠ j) : soon rs i j = true ∨ soon rs j i = true := by
  by_cases e : rs.getD i f0 = rs.getD j f0
  · unfold soon
    rw [if_pos e, if_pos e.symm]
    rcases Nat.lt_or_gt_of_ne hne with z | z
    · exact .inl (decide_eq_true z)
    · exact .inr (decide_eq_true z)
  · rcases less_tri (getD_f h i) (getD_f h j) e with z | z
    · exact .inr (soon_of_less h z)
    · exact .inl (soon_of_less h z)
theorem soon_le (h : AllF rs) {i j : Nat} (hs : soon rs i j = true) : fle (rs.getD j f0) (rs.getD i f0) := by
  rcases soon_cases h hs with a | ⟨a, _⟩
  · have := lessB_iff.mp a
    unfold fle
    omega
  · rw [a]
    exact Int.le_refl _
/-- the k-th is counted one more -/
def chosen (rs : List (Int × Int)) (m k : Nat) : Bool := decide (ahead rs k < m)
theorem chosen_count (h : AllF rs) (m : Nat) : ((List.range rs.length).filter (chosen rs m)).length = min m rs.length :=
  ranks (n := rs.length) (lt := soon rs) (fun i _ => soon_irr i) (fun i j k _ _ _ a b => soon_tr h a b) (fun i j _ _ hne => soon_to h hne) m
theorem ahead_mono (h : AllF rs) {i j : Nat} (hi : i < rs.length) (hj : j < rs.length) (hs : soon rs i j = true) : ahead rs i < ahead rs j :=
  (filter_less (List.range rs.length) fun k hk hp => soon_tr h hp hs).2 ⟨i, List.mem_range.mpr hi, hs, soon_irr i⟩
theorem chosen_soon (h : AllF rs) {m j k : Nat} (hj : j < rs.length) (hk : k < rs.length) (cj : chosen rs m j = true) (ck : chosen rs m k = false) : soon rs j k = true := by
  have a1 : ahead rs j < m := of_decide_eq_true cj
  have a2 : ¬ ahead rs k < m := of_decide_eq_false ck
  have hne : j ≠ k := fun z => by
    subst z
    exact a2 a1
  rcases soon_to h hne with z | z
  · exact z
  · have := ahead_mono h hk hj z
    omega
/-- how far the k-th is off -/
def off (rs : List (Int × Int)) (m k : Nat) : Int × Int := if chosen rs m k = true then fsub f1 (rs.getD k f0) else rs.getD k f0
theorem one_le {x y : Int × Int} (hx : IsF x) (hy : IsF y) (h : fle x y) : fle (fsub f1 y) (fsub f1 x) := by
  rw [fsub_1 hx, fsub_1 hy]
  unfold fle at *
  have e1 : (y.2 - y.1) * x.2 = y.2 * x.2 - y.1 * x.2 := by grind
  have e2 : (x.2 - x.1) * y.2 = y.2 * x.2 - x.1 * y.2 := by grind
  show (y.2 - y.1) * x.2 ≤ (x.2 - x.1) * y.2
  omega
theorem filter_not (p : Nat → Bool) : ∀ l : List Nat, (l.filter p).length + (l.filter fun x => !p x).length = l.length
  | [] => rfl
  | a :: l => by
    have := filter_not p l
    rw [List.filter_cons, List.filter_cons]
    cases h : p a
    · simp
      omega
    · simp
      omega
/-- a paper shows just where some count is the bound or more off -/
theorem shows_iff (h : AllF rs) {b : Int × Int} (hb : IsF b) {m : Nat} (hm : m ≤ rs.length) : showsB (upL rs b) (dnL rs b) m rs.length = true ↔ ∃ k, k < rs.length ∧ lessB (off rs m k) b = false := by
  have hc : ((List.range rs.length).filter (chosen rs m)).length = m := by
    rw [chosen_count h]
    omega
  have hn := filter_not (chosen rs m) (List.range rs.length)
  rw [hc, List.length_range] at hn
  have f2 : 0 < b.2 := hb.1
  have g2 : ∀ k, 0 < (rs.getD k f0).2 := fun k => (getD_f h k).1
  have o2 : ∀ k, 0 < (fsub f1 (rs.getD k f0)).2 := fun k => (fsub_f f1_f (getD_f h k)).1
  constructor
  · intro hs
    unfold showsB at hs
    rw [Bool.or_eq_true, Bool.or_eq_true] at hs
    rcases hs with hs | hs | hs
    · obtain ⟨p, hp, hd⟩ := List.any_eq_true.mp hs
      have hd' : p ∈ dnL rs b := by simpa using hd
      have up : upP rs b p = true := (List.mem_filter.mp hp).2
      have dn : dnP rs b p = true := (List.mem_filter.mp hd').2
      refine ⟨p, up_lt hp, ?_⟩
      unfold off
      unfold upP at up
      unfold dnP at dn
      split
      · simpa using dn
      · simpa using up
    · have hlt : m < (upL rs b).length := by
        have := of_decide_eq_true hs
        omega
      by_cases hex : ∃ k, k < rs.length ∧ upP rs b k = true ∧ chosen rs m k = false
      · obtain ⟨k, hk, up, ck⟩ := hex
        refine ⟨k, hk, ?_⟩
        unfold off
        rw [ck]
        unfold upP at up
        simpa using up
      · have := (filter_less (p := upP rs b) (q := chosen rs m) (List.range rs.length) fun k hk hp => by
          cases hck : chosen rs m k with
          | true => rfl
          | false => exact absurd ⟨k, List.mem_range.mp hk, hp, hck⟩ hex).1
        rw [hc] at this
        exact absurd this (Nat.not_le.mpr hlt)
    · have hlt : (rs.length : Int) - ((dnL rs b).length : Int) < (m : Int) := of_decide_eq_true hs
      by_cases hex : ∃ k, k < rs.length ∧ dnP rs b k = true ∧ chosen rs m k = true
      · obtain ⟨k, hk, dn, ck⟩ := hex
        refine ⟨k, hk, ?_⟩
        unfold off
        rw [if_pos ck]
        unfold dnP at dn
        simpa using dn
      · have := (filter_less (p := dnP rs b) (q := fun x => !chosen rs m x) (List.range rs.length) fun k hk hp => by
          cases hck : chosen rs m k with
          | false => rfl
          | true => exact absurd ⟨k, List.mem_range.mp hk, hp, hck⟩ hex).1
        have hdl : (dnL rs b).length = ((List.range rs.length).filter (dnP rs b)).length := rfl
        omega
  · rintro ⟨k, hk, ho⟩
    unfold showsB
    rw [Bool.or_eq_true, Bool.or_eq_true]
    right
    unfold off at ho
    cases ck : chosen rs m k with
    | false =>
      left
      rw [ck] at ho
      have ho' : fle b (rs.getD k f0) := notless_iff.mp (by simpa using ho)
      have up : ∀ j, fle (rs.getD k f0) (rs.getD j f0) → upP rs b j = true := fun j hj => by
        unfold upP
        rw [notless_iff.mpr (fle_trans (g2 k) f2 (g2 j) ho' hj)]
        rfl
      have := (filter_less (p := chosen rs m) (q := upP rs b) (List.range rs.length) fun j hj hp => up j (soon_le h (chosen_soon h (List.mem_range.mp hj) hk hp ck))).2 ⟨k, List.mem_range.mpr hk, up k (Int.le_refl _), ck⟩
      rw [hc] at this
      have hul : (upL rs b).length = ((List.range rs.length).filter (upP rs b)).length := rfl
      exact decide_eq_true (by omega)
    | true =>
      right
      rw [if_pos ck] at ho
      have ho' : fle b (fsub f1 (rs.getD k f0)) := notless_iff.mp ho
      have dn : ∀ j, fle (rs.getD j f0) (rs.getD k f0) → dnP rs b j = true := fun j hj => by
        unfold dnP
        rw [notless_iff.mpr (fle_trans (o2 k) f2 (o2 j) ho' (one_le (getD_f h j) (getD_f h k) hj))]
        rfl
      have := (filter_less (p := fun x => !chosen rs m x) (q := dnP rs b) (List.range rs.length) fun j hj hp => dn j (soon_le h (chosen_soon h hk (List.mem_range.mp hj) ck (by simpa using hp)))).2 ⟨k, List.mem_range.mpr hk, dn k (Int.le_refl _), by rw [ck]; rfl⟩
      have hdl : (dnL rs b).length = ((List.range rs.length).filter (dnP rs b)).length := rfl
      exact decide_eq_true (by omega)
end
end Lf

set_option Elab.async false
set_option linter.all false
set_option maxRecDepth 100000
set_option maxHeartbeats 4000000
set_option exponentiation.threshold 3000
/-! How many are to be one more; the worst by what each is off. -/
namespace Lf
theorem rsum_mul (F : Int × Int) (hF : IsF F) : ∀ l : List (Int × Int), AllF l → rsum (l.map fun f => fmul f F) = rsum l * rv F
  | [], _ => by
    show (0 : Rat) = 0 * rv F
    rw [Rat.zero_mul]
  | f :: l, h => by
    show rv (fmul f F) + rsum (l.map fun f => fmul f F) = (rv f + rsum l) * rv F
    rw [rsum_mul F hF l h.tl, rv_mul h.hd hF, Rat.add_mul]
theorem rv_int (c : Int) : rv (c, 1) = (c : Rat) := by
  unfold rv
  show Rat.divInt c 1 = (c : Rat)
  have h : Rat.divInt c 1 = mkRat c 1 := rfl
  rw [h]
  first | exact Rat.mkRat_one c | exact mkRat_one c | (unfold mkRat Rat.normalize; simp; rfl) | grind [mkRat]
theorem rsum_tot {l : List (Int × Int)} (h : AllF l) : rv (tot l) = rsum l := by
  have := (sum_fold l f0 f0_f h).2
  rw [rv0, Rat.zero_add] at this
  exact this
theorem rsum_aims {fs : List (Int × Int)} {st : Int × Int} (W : Wts fs) : rsum (aimsF fs st) = (many fs st : Rat) := by
  have t1 : (tot fs).1 ≠ 0 := by have := tot_pos W; omega
  have h : aimsF fs st = fs.map fun f => fmul f (factor fs st) := rfl
  have e2 : rv (factor fs st) = rv (many fs st, 1) * (rv (tot fs))⁻¹ := rv_div (m1_f _) t1
  have hne : rv (tot fs) ≠ 0 := fun z => t1 ((rv_zero (tot_f W.f)).mp z)
  rw [h, rsum_mul _ (factor_f W) fs W.f, ← rsum_tot W.f, e2, rv_int, ← Rat.mul_assoc, Rat.mul_comm (rv (tot fs)), Rat.mul_assoc, Rat.mul_inv_cancel _ hne, Rat.mul_one]
theorem rsum_rst : ∀ l : List (Int × Int), AllF l → rsum (l.map rst) = rsum l - (((l.map fl).sum : Int) : Rat)
  | [], _ => by
    show (0 : Rat) = 0 - ((0 : Int) : Rat)
    first | decide | rfl | grind
  | f :: l, h => by
    show rv (rst f) + rsum (l.map rst) = (rv f + rsum l) - ((fl f + (l.map fl).sum : Int) : Rat)
    have e : rv (rst f) = rv f - rv (fl f, 1) := rv_sub h.hd (m1_f _)
    rw [rsum_rst l h.tl, e, rv_int, Rat.intCast_add]
    grind
theorem rests_f {l : List (Int × Int)} (h : AllF l) : AllF (l.map rst) := fun g hg => by
  obtain ⟨f, hf, rfl⟩ := List.mem_map.mp hg
  exact rst_f (h f hf)
theorem more_ok {fs : List (Int × Int)} {st : Int × Int} (W : Wts fs) (aF : AllF (aimsF fs st)) : 0 ≤ more fs st ∧ more fs st ≤ (fs.length : Int) := by
  have e : rv (tot ((aimsF fs st).map rst)) = rv (more fs st, 1) := by
    rw [rsum_tot (rests_f aF), rsum_rst _ aF, rsum_aims W, rv_int]
    unfold more
    rw [Rat.intCast_sub]
  have et : tot ((aimsF fs st).map rst) = (more fs st, 1) := rv_inj (tot_f (rests_f aF)) (m1_f _) e
  have rn : ∀ g ∈ (aimsF fs st).map rst, 0 ≤ g.1 ∧ Vb 1 g := fun g hg => by
    obtain ⟨f, hf, rfl⟩ := List.mem_map.mp hg
    have hF := aF f hf
    refine ⟨rst_nn hF, ?_⟩
    rw [rst_eq hF]
    have m1 := Int.emod_lt_of_pos f.1 hF.1
    exact vb_low hF.1 (by omega)
  have h1 : fle f0 (tot ((aimsF fs st).map rst)) := fold_ge _ f0 f0_f (rests_f aF) fun g hg => (rn g hg).1
  have h2 := vb_fold (C := 1) ((aimsF fs st).map rst) 0 f0 f0_f (rests_f aF) (by unfold Vb; decide) (fun g hg => (rn g hg).2)
  have h2' : Vb (0 + 1 * (((aimsF fs st).map rst).length : Int)) (tot ((aimsF fs st).map rst)) := h2
  rw [et] at h1 h2'
  unfold fle f0 at h1
  unfold Vb at h2'
  rw [List.length_map] at h2'
  have hl : (aimsF fs st).length = fs.length := List.length_map _
  rw [hl] at h2'
  simp only at h1 h2'
  omega
theorem far_fl {f : Int × Int} (h : IsF f) : far f (fl f) = rst f := by
  rw [← lfar_rst h]
  exact (lfar_far f (fl f)).symm
theorem far_fl1 {f : Int × Int} (h : IsF f) (h0 : 0 ≤ f.1) : far f (fl f + 1) = fsub f1 (rst f) := by
  have hm := fl_mod h
  have m0 := Int.emod_nonneg f.1 h.ne
  have m1 := Int.emod_lt_of_pos f.1 h.1
  have e : (fl f + 1) * f.2 = fl f * f.2 + f.2 := by rw [Int.add_mul, Int.one_mul]
  have hr := rst_f h
  rw [fsub_1 hr, rst_pair h h0] at *
  unfold far
  have e2 : ((f.1 - (fl f + 1) * f.2).natAbs : Int) = f.2 - f.1 % f.2 := by omega
  rw [e2]
  refine low_self ?_
  have := fsub_f f1_f hr
  rw [fsub_1 hr] at this
  exact this
theorem wmax_b {w g b : Int × Int} (hw : IsF w) (hg : IsF g) (hb : IsF b) : lessB (wmax w g) b = false ↔ lessB w b = false ∨ lessB g b = false := by
  have w2 : 0 < w.2 := hw.1
  have g2 : 0 < g.2 := hg.1
  have b2 : 0 < b.2 := hb.1
  rw [notless_iff, notless_iff, notless_iff]
  unfold wmax
  by_cases h : lessB w g = true
  · rw [if_pos h]
    have hle : fle w g := by
      have := lessB_iff.mp h
      unfold fle
      omega
    exact ⟨.inr, fun z => z.elim (fun z => fle_trans w2 b2 g2 z hle) id⟩
  · rw [if_neg h]
    have hle : fle g w := notless_iff.mp (by cases h' : lessB w g <;> simp_all)
    exact ⟨.inl, fun z => z.elim id fun z => fle_trans g2 b2 w2 z hle⟩
theorem wst_b {b : Int × Int} (hb : IsF b) : ∀ (l : List ((Int × Int) × Int)) (w : Int × Int), IsF w → (∀ p ∈ l, IsF p.1) → (lessB (l.foldl wst w) b = false ↔ lessB w b = false ∨ ∃ p ∈ l, lessB (far p.1 p.2) b = false)
  | [], w, _, _ => ⟨.inl, fun z => z.elim id fun ⟨p, hp, _⟩ => by cases hp⟩
  | p :: l, w, hw, h => by
    have hp := h p List.mem_cons_self
    have hf := far_f hp p.2
    have hw' : IsF (wst w p) := by
      unfold wst wmax
      split
      · exact hf
      · exact hw
    rw [List.foldl_cons, wst_b hb l (wst w p) hw' fun q hq => h q (List.mem_cons_of_mem _ hq)]
    have e : lessB (wst w p) b = false ↔ lessB w b = false ∨ lessB (far p.1 p.2) b = false := by
      unfold wst
      exact wmax_b hw hf hb
    rw [e]
    constructor
    · rintro ((z | z) | ⟨q, hq, z⟩)
      · exact .inl z
      · exact .inr ⟨p, List.mem_cons_self, z⟩
      · exact .inr ⟨q, List.mem_cons_of_mem _ hq, z⟩
    · rintro (z | ⟨q, hq, z⟩)
      · exact .inl (.inl z)
      · rcases List.mem_cons.mp hq with rfl | hq
        · exact .inl (.inr z)
        · exact .inr ⟨q, hq, z⟩
/-- the paper for a bound shows just where the worst is the bound or more -/
theorem paper_shows {fs : List (Int × Int)} {st b : Int × Int} (W : Wts fs) (aF : AllF (aimsF fs st)) (an : ∀ f ∈ aimsF fs st, 0 ≤ f.1) (hb : IsF b) (b0 : 0 < b.1) :
    showsB (upL ((aimsF fs st).map rst) b) (dnL ((aimsF fs st).map rst) b) (more fs st) fs.length = !lessB (worst (aimsF fs st) (cnt fs st)) b := by
  obtain ⟨m0, m1⟩ := more_ok W aF
  have rF := rests_f aF
  have rl : ((aimsF fs st).map rst).length = fs.length := by rw [List.length_map]; exact List.length_map _
  have hm : ((more fs st).toNat : Int) = more fs st := by omega
  have key := shows_iff (m := (more fs st).toNat) rF hb (by rw [rl]; omega)
  rw [hm, rl] at key
  have hf0 : lessB f0 b = true := by
    rw [lessB_iff]
    show 0 * b.2 < b.1 * 1
    omega
  have hw := wst_b hb ((aimsF fs st).zip (cnt fs st)) f0 f0_f (fun p hp => aF p.1 (List.of_mem_zip (show (p.1, p.2) ∈ (aimsF fs st).zip (cnt fs st) from hp)).1)
  have same : (∃ k, k < fs.length ∧ lessB (off ((aimsF fs st).map rst) (more fs st).toNat k) b = false) ↔ ∃ p ∈ (aimsF fs st).zip (cnt fs st), lessB (far p.1 p.2) b = false := by
    have at_ : ∀ k g, (aimsF fs st)[k]? = some g → k < fs.length → far g (cntAt fs st k) = off ((aimsF fs st).map rst) (more fs st).toNat k := fun k g hg hk => by
      have gF := aF g (List.mem_of_getElem? hg)
      have g0 := an g (List.mem_of_getElem? hg)
      have e1 : (aimsF fs st).getD k f0 = g := by rw [List.getD_eq_getElem?_getD, hg]; rfl
      have e2 : ((aimsF fs st).map rst).getD k f0 = rst g := by rw [List.getD_eq_getElem?_getD, List.getElem?_map, hg]; rfl
      unfold off cntAt chosen
      rw [e1, e2]
      by_cases z : (ahead ((aimsF fs st).map rst) k : Int) < more fs st
      · rw [if_pos z, if_pos (decide_eq_true (by omega)), far_fl1 gF g0]
      · rw [if_neg z, if_neg (by rw [decide_eq_true_eq]; omega), Int.add_zero, far_fl gF]
    constructor
    · rintro ⟨k, hk, z⟩
      obtain ⟨g, hg⟩ : ∃ g, (aimsF fs st)[k]? = some g := ⟨_, List.getElem?_eq_getElem (by show k < (fs.map _).length; rw [List.length_map]; exact hk)⟩
      refine ⟨(g, cntAt fs st k), List.mem_of_getElem? (show ((aimsF fs st).zip (cnt fs st))[k]? = some (g, cntAt fs st k) by rw [List.getElem?_zip_eq_some]; exact ⟨hg, cnt_get hk⟩), ?_⟩
      show lessB (far g (cntAt fs st k)) b = false
      rw [at_ k g hg hk]
      exact z
    · rintro ⟨p, hp, z⟩
      obtain ⟨k, hk⟩ := List.getElem?_of_mem hp
      obtain ⟨h1, h2⟩ := List.getElem?_zip_eq_some.mp hk
      have hlt : k < fs.length := by
        have := (List.getElem?_eq_some_iff.mp h2).1
        rw [cnt_len] at this
        exact this
      rw [cnt_get hlt] at h2
      refine ⟨k, hlt, ?_⟩
      rw [← at_ k p.1 h1 hlt, Option.some.inj h2]
      exact z
  rw [hf0] at hw
  have fin : showsB (upL ((aimsF fs st).map rst) b) (dnL ((aimsF fs st).map rst) b) (more fs st) fs.length = true ↔ lessB (worst (aimsF fs st) (cnt fs st)) b = false := by
    rw [key, same]
    show _ ↔ lessB (((aimsF fs st).zip (cnt fs st)).foldl wst f0) b = false
    rw [hw]
    exact ⟨.inr, fun z => z.elim (fun z => by cases z) id⟩
  cases h1 : showsB (upL ((aimsF fs st).map rst) b) (dnL ((aimsF fs st).map rst) b) (more fs st) fs.length <;> cases h2 : lessB (worst (aimsF fs st) (cnt fs st)) b
  · have := fin.mpr h2
    rw [h1] at this
    cases this
  · rfl
  · rfl
  · have := fin.mp h1
    rw [h2] at this
    cases this
end Lf

set_option Elab.async false
set_option linter.all false
set_option maxRecDepth 100000
set_option maxHeartbeats 4000000
set_option exponentiation.threshold 3000
/-! The counts make many together, none is a whole one off, and no others with this sum are nearer. -/
namespace Lf
theorem count_sum (p : Nat → Bool) : ∀ l : List Nat, ((l.map fun k => if p k = true then (1 : Int) else 0)).sum = ((l.filter p).length : Int)
  | [] => rfl
  | a :: l => by
    have := count_sum p l
    rw [List.map_cons, List.sum_cons, List.filter_cons, this]
    cases h : p a
    · simp
    · simp
      omega
theorem sum_add (f g : Nat → Int) : ∀ l : List Nat, (l.map fun k => f k + g k).sum = (l.map f).sum + (l.map g).sum
  | [] => rfl
  | a :: l => by
    rw [List.map_cons, List.sum_cons, List.map_cons, List.sum_cons, List.map_cons, List.sum_cons, sum_add f g l]
    omega
theorem range_get {α : Type} (d : α) (l : List α) : (List.range l.length).map (fun k => l.getD k d) = l := by
  refine List.ext_getElem? fun k => ?_
  rw [List.getElem?_map]
  by_cases h : k < l.length
  · rw [List.getElem?_range h, List.getElem?_eq_getElem h]
    simp [List.getD_eq_getElem?_getD, h]
  · rw [List.getElem?_eq_none (by rw [List.length_range]; omega), List.getElem?_eq_none (by omega)]
    rfl
theorem fl_sum (fs : List (Int × Int)) (st : Int × Int) : ((List.range fs.length).map fun k => fl ((aimsF fs st).getD k f0)).sum = ((aimsF fs st).map fl).sum := by
  have hl : (aimsF fs st).length = fs.length := List.length_map _
  have e := range_get f0 (aimsF fs st)
  rw [hl] at e
  have : (List.range fs.length).map (fun k => fl ((aimsF fs st).getD k f0)) = ((List.range fs.length).map fun k => (aimsF fs st).getD k f0).map fl := by
    rw [List.map_map]
    rfl
  rw [this, e]
/-- the counts make many together -/
theorem cnt_sum {fs : List (Int × Int)} {st : Int × Int} (W : Wts fs) (aF : AllF (aimsF fs st)) : (cnt fs st).sum = many fs st := by
  obtain ⟨m0, m1⟩ := more_ok W aF
  have rF := rests_f aF
  have rl : ((aimsF fs st).map rst).length = fs.length := by rw [List.length_map]; exact List.length_map _
  have hc := chosen_count rF (more fs st).toNat
  rw [rl] at hc
  have e : cnt fs st = (List.range fs.length).map fun k => fl ((aimsF fs st).getD k f0) + if chosen ((aimsF fs st).map rst) (more fs st).toNat k = true then (1 : Int) else 0 := by
    unfold cnt
    refine List.map_congr_left fun k hk => ?_
    unfold cntAt chosen
    by_cases z : (ahead ((aimsF fs st).map rst) k : Int) < more fs st
    · rw [if_pos z, if_pos (decide_eq_true (by omega))]
    · rw [if_neg z, if_neg (by rw [decide_eq_true_eq]; omega)]
  rw [e, sum_add, fl_sum, count_sum, hc]
  unfold more at *
  omega
/-! ### none are nearer -/
theorem sum_le_of {c d : Nat → Int} : ∀ l : List Nat, (∀ k ∈ l, c k ≤ d k) → (l.map c).sum ≤ (l.map d).sum
  | [], _ => Int.le_refl _
  | a :: l, h => by
    have h1 := sum_le_of l fun k hk => h k (List.mem_cons_of_mem _ hk)
    have h2 := h a List.mem_cons_self
    rw [List.map_cons, List.sum_cons, List.map_cons, List.sum_cons]
    omega
/-- a count less than one off its aim is the floor or one more -/
theorem far_near {f : Int × Int} {c : Int} (h : IsF f) (hl : lessB (far f c) f1 = true) : c = fl f ∨ c = fl f + 1 := by
  have hm := fl_mod h
  have m0 := Int.emod_nonneg f.1 h.ne
  have m1 := Int.emod_lt_of_pos f.1 h.1
  have h2 : 0 < f.2 := h.1
  have hc : (far f c).1 * f.2 = ((f.1 - c * f.2).natAbs : Int) * (far f c).2 := low_cross h.ne
  have hb : 0 < (far f c).2 := low_b h.1
  have hlt : (far f c).1 < (far f c).2 := by
    have := lessB_iff.mp hl
    show _ < _
    have e1 : (far f c).1 * f1.2 = (far f c).1 := Int.mul_one _
    have e2 : f1.1 * (far f c).2 = (far f c).2 := Int.one_mul _
    omega
  have hlt2 : ((f.1 - c * f.2).natAbs : Int) < f.2 := by
    have h3 := Int.mul_lt_mul_of_pos_right hlt h2
    rw [hc, Int.mul_comm] at h3
    exact Int.lt_of_mul_lt_mul_left h3 (Int.le_of_lt hb)
  have e : f.1 - c * f.2 = (fl f - c) * f.2 + f.1 % f.2 := by
    rw [Int.sub_mul]
    omega
  rw [e] at hlt2
  by_cases h1 : fl f - c ≤ -2
  · have : (fl f - c) * f.2 ≤ -2 * f.2 := Int.mul_le_mul_of_nonneg_right h1 (Int.le_of_lt h2)
    omega
  · by_cases h3 : 1 ≤ fl f - c
    · have : 1 * f.2 ≤ (fl f - c) * f.2 := Int.mul_le_mul_of_nonneg_right h3 (Int.le_of_lt h2)
      omega
    · omega
theorem sum_get (cs : List Int) : ((List.range cs.length).map fun k => cs.getD k 0).sum = cs.sum := by rw [range_get 0 cs]
/-- where the paper for a bound to 1 shows, whatever counts with this sum are the bound or more off -/
theorem none_below {fs : List (Int × Int)} {st b : Int × Int} {cs : List Int} (W : Wts fs) (aF : AllF (aimsF fs st)) (an : ∀ f ∈ aimsF fs st, 0 ≤ f.1) (hb : IsF b) (b0 : 0 < b.1) (b1 : fle b f1) (hl : cs.length = fs.length) (hs : cs.sum = many fs st)
    (hS : showsB (upL ((aimsF fs st).map rst) b) (dnL ((aimsF fs st).map rst) b) (more fs st) fs.length = true) : lessB (worst (aimsF fs st) cs) b = false := by
  have al : (aimsF fs st).length = fs.length := List.length_map _
  have rF := rests_f aF
  have rl : ((aimsF fs st).map rst).length = fs.length := by rw [List.length_map]; exact al
  have b2 : 0 < b.2 := hb.1
  cases hw : lessB (worst (aimsF fs st) cs) b with
  | false => rfl
  | true =>
    exfalso
    have hwb := wst_b hb ((aimsF fs st).zip cs) f0 f0_f (fun p hp => aF p.1 (List.of_mem_zip (show (p.1, p.2) ∈ (aimsF fs st).zip cs from hp)).1)
    have each : ∀ k, k < fs.length → lessB (far ((aimsF fs st).getD k f0) (cs.getD k 0)) b = true := fun k hk => by
      obtain ⟨g, hg⟩ : ∃ g, (aimsF fs st)[k]? = some g := ⟨_, List.getElem?_eq_getElem (by omega)⟩
      obtain ⟨c, hc⟩ : ∃ c, cs[k]? = some c := ⟨_, List.getElem?_eq_getElem (by omega)⟩
      have e1 : (aimsF fs st).getD k f0 = g := by rw [List.getD_eq_getElem?_getD, hg]; rfl
      have e2 : cs.getD k 0 = c := by rw [List.getD_eq_getElem?_getD, hc]; rfl
      rw [e1, e2]
      cases z : lessB (far g c) b with
      | true => rfl
      | false =>
        have := hwb.mpr (.inr ⟨(g, c), List.mem_of_getElem? (show ((aimsF fs st).zip cs)[k]? = some (g, c) by rw [List.getElem?_zip_eq_some]; exact ⟨hg, hc⟩), z⟩)
        have hw' : lessB (((aimsF fs st).zip cs).foldl wst f0) b = true := hw
        rw [this] at hw'
        cases hw'
    have gF : ∀ k, IsF ((aimsF fs st).getD k f0) := getD_f aF
    have gn : ∀ k, k < fs.length → 0 ≤ ((aimsF fs st).getD k f0).1 := fun k hk => by
      obtain ⟨g, hg⟩ : ∃ g, (aimsF fs st)[k]? = some g := ⟨_, List.getElem?_eq_getElem (by omega)⟩
      have e1 : (aimsF fs st).getD k f0 = g := by rw [List.getD_eq_getElem?_getD, hg]; rfl
      rw [e1]
      exact an g (List.mem_of_getElem? hg)
    have rg : ∀ k, k < fs.length → ((aimsF fs st).map rst).getD k f0 = rst ((aimsF fs st).getD k f0) := fun k hk => by
      obtain ⟨g, hg⟩ : ∃ g, (aimsF fs st)[k]? = some g := ⟨_, List.getElem?_eq_getElem (by omega)⟩
      rw [List.getD_eq_getElem?_getD, List.getD_eq_getElem?_getD, List.getElem?_map, hg]
      rfl
    have two : ∀ k, k < fs.length → cs.getD k 0 = fl ((aimsF fs st).getD k f0) ∨ cs.getD k 0 = fl ((aimsF fs st).getD k f0) + 1 := fun k hk => by
      refine far_near (gF k) ?_
      have h1 := lessB_iff.mp (each k hk)
      have fF := far_f (gF k) (cs.getD k 0)
      rw [lessB_iff]
      unfold fle at b1
      have f2 : 0 < (far ((aimsF fs st).getD k f0) (cs.getD k 0)).2 := fF.1
      have b1' : b.1 ≤ b.2 := by
        have e1 : b.1 * f1.2 = b.1 := Int.mul_one _
        have e2 : f1.1 * b.2 = b.2 := Int.one_mul _
        omega
      show (far ((aimsF fs st).getD k f0) (cs.getD k 0)).1 * 1 < 1 * (far ((aimsF fs st).getD k f0) (cs.getD k 0)).2
      have h2 : b.1 * (far ((aimsF fs st).getD k f0) (cs.getD k 0)).2 ≤ b.2 * (far ((aimsF fs st).getD k f0) (cs.getD k 0)).2 := Int.mul_le_mul_of_nonneg_right b1' (Int.le_of_lt f2)
      have h3 : (far ((aimsF fs st).getD k f0) (cs.getD k 0)).1 * b.2 < (far ((aimsF fs st).getD k f0) (cs.getD k 0)).2 * b.2 := by
        rw [Int.mul_comm (far ((aimsF fs st).getD k f0) (cs.getD k 0)).2]
        omega
      have := Int.lt_of_mul_lt_mul_right h3 (Int.le_of_lt b2)
      omega
    -- one more
    obtain ⟨up, hup⟩ : ∃ up : Nat → Bool, up = fun k => decide (cs.getD k 0 = fl ((aimsF fs st).getD k f0) + 1) := ⟨_, rfl⟩
    have csum : ((List.range fs.length).filter up).length = (more fs st) := by
      have e1 : (List.range fs.length).map (fun k => cs.getD k 0) = (List.range fs.length).map (fun k => fl ((aimsF fs st).getD k f0) + if up k = true then (1 : Int) else 0) := by
        refine List.map_congr_left fun k hk => ?_
        rw [hup]
        rcases two k (List.mem_range.mp hk) with z | z
        · rw [if_neg (by rw [decide_eq_true_eq]; omega)]
          omega
        · rw [if_pos (decide_eq_true z)]
          exact z
      have e2 := sum_get cs
      rw [hl, e1, sum_add, fl_sum, count_sum, hs] at e2
      unfold more
      omega
    have hU : ∀ k, k < fs.length → upP ((aimsF fs st).map rst) b k = true → up k = true := fun k hk h => by
      rcases two k hk with z | z
      · have h1 := each k hk
        rw [z, far_fl (gF k), ← rg k hk] at h1
        unfold upP at h
        rw [h1] at h
        cases h
      · rw [hup]
        exact decide_eq_true z
    have hD : ∀ k, k < fs.length → dnP ((aimsF fs st).map rst) b k = true → up k = false := fun k hk h => by
      rcases two k hk with z | z
      · rw [hup]
        exact decide_eq_false (by omega)
      · have h1 := each k hk
        rw [z, far_fl1 (gF k) (gn k hk), ← rg k hk] at h1
        unfold dnP at h
        rw [h1] at h
        cases h
    have lU := (filter_less (p := upP ((aimsF fs st).map rst) b) (q := up) (List.range fs.length) fun k hk h => hU k (List.mem_range.mp hk) h).1
    have lD := (filter_less (p := dnP ((aimsF fs st).map rst) b) (q := fun x => !up x) (List.range fs.length) fun k hk h => by rw [hD k (List.mem_range.mp hk) h]; rfl).1
    have hn := filter_not up (List.range fs.length)
    rw [List.length_range] at hn
    have uL : (upL ((aimsF fs st).map rst) b).length = ((List.range fs.length).filter (upP ((aimsF fs st).map rst) b)).length := by unfold upL; rw [rl]
    have dL : (dnL ((aimsF fs st).map rst) b).length = ((List.range fs.length).filter (dnP ((aimsF fs st).map rst) b)).length := by unfold dnL; rw [rl]
    unfold showsB at hS
    rw [Bool.or_eq_true, Bool.or_eq_true] at hS
    rcases hS with hS | hS | hS
    · obtain ⟨p, hp, hd⟩ := List.any_eq_true.mp hS
      have hd' : p ∈ dnL ((aimsF fs st).map rst) b := by simpa using hd
      have hk := up_lt hp
      rw [rl] at hk
      have h1 := hU p hk (List.mem_filter.mp hp).2
      have h2 := hD p hk (List.mem_filter.mp hd').2
      rw [h1] at h2
      cases h2
    · have := of_decide_eq_true hS
      omega
    · have := of_decide_eq_true hS
      omega
end Lf

set_option Elab.async false
set_option linter.all false
/-! The order of fractions as that of rationals. -/
namespace Lf
theorem rv_le {f g : Int × Int} (hf : IsF f) (hg : IsF g) : rv f ≤ rv g ↔ f.1 * g.2 ≤ g.1 * f.2 := by
  have h1 : 0 < f.2 := hf.1
  have h2 : 0 < g.2 := hg.1
  rw [Rat.le_iff_sub_nonneg, ← rv_sub hg hf]
  unfold fsub
  rw [rv_low (Int.mul_ne_zero hg.ne hf.ne), Rat.divInt_nonneg_iff_of_pos_right (Int.mul_pos h2 h1)]
  omega
theorem rv_lt {f g : Int × Int} (hf : IsF f) (hg : IsF g) : rv f < rv g ↔ f.1 * g.2 < g.1 * f.2 := by
  rw [← Rat.not_le, rv_le hg hf]
  omega
theorem rv_nn {f : Int × Int} (hf : IsF f) : 0 ≤ rv f ↔ 0 ≤ f.1 := by
  have h1 : 0 < f.2 := hf.1
  unfold rv
  rw [Rat.divInt_nonneg_iff_of_pos_right h1]
theorem rv_le1 {f : Int × Int} (hf : IsF f) : rv f ≤ 1 ↔ f.1 ≤ f.2 := by
  rw [← rv1, rv_le hf f1_f]
  show f.1 * 1 ≤ 1 * f.2 ↔ _
  omega
/-- half of it -/
def half (f : Int × Int) : Int × Int := low f.1 (2 * f.2)
theorem half_f {f : Int × Int} (hf : IsF f) : IsF (half f) := low_f (by have := hf.ne; omega)
theorem half_cross {f : Int × Int} (hf : IsF f) : (half f).1 * (2 * f.2) = f.1 * (half f).2 := low_cross (by have := hf.ne; omega)
theorem half_nn {f : Int × Int} (hf : IsF f) (h : 0 ≤ f.1) : 0 ≤ (half f).1 := low_top_nn (by have := hf.1; omega) h
theorem half_le {f : Int × Int} (hf : IsF f) (h : 0 ≤ f.1) : rv (half f) ≤ rv f := by
  rw [rv_le (half_f hf) hf, ← half_cross hf]
  have h1 : 0 ≤ (half f).1 * f.2 := Int.mul_nonneg (half_nn hf h) (Int.le_of_lt hf.1)
  have e : (half f).1 * (2 * f.2) = 2 * ((half f).1 * f.2) := by rw [Int.mul_left_comm]
  omega
theorem half_ne {f : Int × Int} (hf : IsF f) (h : f.1 ≠ 0) : half f ≠ f := by
  intro e
  have c := half_cross hf
  rw [e] at c
  have e2 : f.1 * (2 * f.2) = 2 * (f.1 * f.2) := by rw [Int.mul_left_comm]
  have : f.1 * f.2 ≠ 0 := Int.mul_ne_zero h hf.ne
  omega
end Lf

set_option Elab.async false
set_option linter.all false
set_option maxRecDepth 100000
set_option maxHeartbeats 4000000
set_option exponentiation.threshold 3000
/-! How far counts are off, not in lowest terms; the told counts are none a whole one off; what is left is below the step. -/
namespace Lf
def rfar (f : Int × Int) (c : Int) : Int × Int := (((f.1 - c * f.2).natAbs : Int), f.2)
def lp (f : Int × Int) : Int × Int := low f.1 f.2
def rstp (w : Int × Int) (p : (Int × Int) × Int) : Int × Int := if lessB w (rfar p.1 p.2) = true then rfar p.1 p.2 else w
def rworst (fs : List (Int × Int)) (cs : List Int) : Int × Int := (fs.zip cs).foldl rstp f0
theorem lp_less {a b : Int × Int} (ha : 0 < a.2) (hb : 0 < b.2) : lessB (lp a) (lp b) = lessB a b := by
  have h1 : (lp a).1 * a.2 = a.1 * (lp a).2 := low_cross (by omega)
  have h2 : (lp b).1 * b.2 = b.1 * (lp b).2 := low_cross (by omega)
  have p1 : 0 < (lp a).2 := low_b ha
  have p2 : 0 < (lp b).2 := low_b hb
  generalize lp a = A at h1 p1 ⊢
  generalize lp b = B at h2 p2 ⊢
  obtain ⟨A1, A2⟩ := A
  obtain ⟨B1, B2⟩ := B
  obtain ⟨a1, a2⟩ := a
  obtain ⟨b1, b2⟩ := b
  simp only at h1 h2 p1 p2 ha hb
  unfold lessB
  simp only
  have e1 : A1 * B2 * (a2 * b2) = a1 * b2 * (A2 * B2) := by
    have : A1 * B2 * (a2 * b2) = (A1 * a2) * (B2 * b2) := by grind
    rw [this, h1]
    grind
  have e2 : B1 * A2 * (a2 * b2) = b1 * a2 * (A2 * B2) := by
    have : B1 * A2 * (a2 * b2) = (B1 * b2) * (A2 * a2) := by grind
    rw [this, h2]
    grind
  have pa : 0 < a2 * b2 := Int.mul_pos ha hb
  have pA : 0 < A2 * B2 := Int.mul_pos p1 p2
  rw [decide_eq_decide]
  constructor
  · intro h
    have := Int.mul_lt_mul_of_pos_right h pa
    rw [e1, e2] at this
    exact Int.lt_of_mul_lt_mul_right this (Int.le_of_lt pA)
  · intro h
    have := Int.mul_lt_mul_of_pos_right h pA
    rw [← e1, ← e2] at this
    exact Int.lt_of_mul_lt_mul_right this (Int.le_of_lt pa)
theorem lp_far (f : Int × Int) (c : Int) : lp (rfar f c) = far f c := rfl
theorem lp_step {w : Int × Int} {p : (Int × Int) × Int} (hw : 0 < w.2) (hp : 0 < p.1.2) : lp (rstp w p) = wst (lp w) p ∧ 0 < (rstp w p).2 := by
  have e := lp_less (a := w) (b := rfar p.1 p.2) hw hp
  rw [lp_far] at e
  unfold rstp wst wmax
  rw [e]
  by_cases h : lessB w (rfar p.1 p.2) = true
  · rw [if_pos h, if_pos h]
    exact ⟨rfl, hp⟩
  · rw [if_neg h, if_neg h]
    exact ⟨rfl, hw⟩
theorem rw_fold : ∀ (l : List ((Int × Int) × Int)) (w : Int × Int), 0 < w.2 → (∀ p ∈ l, 0 < p.1.2) → lp (l.foldl rstp w) = l.foldl wst (lp w) ∧ 0 < (l.foldl rstp w).2
  | [], _, h, _ => ⟨rfl, h⟩
  | p :: l, w, h, hl => by
    obtain ⟨e1, e2⟩ := lp_step h (hl p List.mem_cons_self)
    have r := rw_fold l (rstp w p) e2 fun q hq => hl q (List.mem_cons_of_mem _ hq)
    rw [e1] at r
    exact r
theorem lp_f0 : lp f0 = f0 := by decide
theorem lp_f1 : lp f1 = f1 := by decide
theorem zip_pos {fs : List (Int × Int)} {cs : List Int} (h : AllF fs) : ∀ p ∈ fs.zip cs, 0 < p.1.2 := fun p hp => (h p.1 (List.of_mem_zip (show (p.1, p.2) ∈ fs.zip cs from hp)).1).1
theorem raw_low {fs : List (Int × Int)} {cs : List Int} (h : AllF fs) : lp (rworst fs cs) = worst fs cs ∧ 0 < (rworst fs cs).2 := by
  have r := rw_fold (fs.zip cs) f0 (by decide) (zip_pos h)
  rw [lp_f0] at r
  exact r
theorem raw_less1 {fs : List (Int × Int)} {cs : List Int} (h : AllF fs) : lessB (rworst fs cs) f1 = lessB (worst fs cs) f1 := by
  obtain ⟨e, p⟩ := raw_low (cs := cs) h
  rw [← lp_less p (by decide : 0 < f1.2), e, lp_f1]
theorem raw_less2 {fs : List (Int × Int)} {cs ds : List Int} (h : AllF fs) : lessB (rworst fs cs) (rworst fs ds) = lessB (worst fs cs) (worst fs ds) := by
  obtain ⟨e, p⟩ := raw_low (cs := cs) h
  obtain ⟨e', p'⟩ := raw_low (cs := ds) h
  rw [← lp_less p p', e, e']
theorem rw_bt {k : Nat} : ∀ (l : List ((Int × Int) × Int)) (w : Int × Int), 0 < w.2 → Bt k w → (∀ p ∈ l, 0 < p.1.2 ∧ Bt k (rfar p.1 p.2)) → ∀ i, 0 < ((l.take i).foldl rstp w).2 ∧ Bt k ((l.take i).foldl rstp w)
  | l, w, h, b, _, 0 => ⟨h, b⟩
  | [], w, h, b, _, i + 1 => ⟨h, b⟩
  | p :: l, w, h, b, hl, i + 1 => by
    refine rw_bt l (rstp w p) ?_ ?_ (fun q hq => hl q (List.mem_cons_of_mem _ hq)) i
    · exact (lp_step h (hl p List.mem_cons_self).1).2
    · unfold rstp
      split
      · exact (hl p List.mem_cons_self).2
      · exact b
/-- counts are small -/
def CsB (cs : List Int) : Prop := ∀ c ∈ cs, c.natAbs < 2 ^ 100
theorem rfar_bt {f : Int × Int} {c : Int} (b : Bt 636 f) (hc : c.natAbs < 2 ^ 100) : Bt 740 (rfar f c) := by
  have m := mul_lt hc b.2
  have h1 := b.1
  have h2 := b.2
  have p : (2 : Nat) ^ 636 + 2 ^ (100 + 636) ≤ 2 ^ 740 := by decide
  refine ⟨?_, Nat.lt_of_lt_of_le h2 (Nat.pow_le_pow_right (by decide) (by decide))⟩
  show ((f.1 - c * f.2).natAbs : Int).natAbs < 2 ^ 740
  generalize (2 : Nat) ^ 740 = X at *
  generalize (2 : Nat) ^ 636 = Y at *
  generalize (2 : Nat) ^ (100 + 636) = Z at *
  generalize c * f.2 = z at *
  omega
theorem rw_ok {fs : List (Int × Int)} {cs : List Int} (h : AllF fs) (b : ∀ f ∈ fs, Bt 636 f) (hc : CsB cs) (i : Nat) : 0 < (((fs.zip cs).take i).foldl rstp f0).2 ∧ Bt 740 (((fs.zip cs).take i).foldl rstp f0) :=
  rw_bt _ f0 (by decide) (bt01.1.mono (by decide)) (fun p hp => ⟨zip_pos h p hp, rfar_bt (b _ (List.of_mem_zip (show (p.1, p.2) ∈ fs.zip cs from hp)).1) (hc _ (List.of_mem_zip (show (p.1, p.2) ∈ fs.zip cs from hp)).2)⟩) i
theorem rw_step {fs : List (Int × Int)} {cs : List Int} {i : Nat} {f : Int × Int} {c : Int} (h1 : fs[i]? = some f) (h2 : cs[i]? = some c) : ((fs.zip cs).take (i + 1)).foldl rstp f0 = rstp (((fs.zip cs).take i).foldl rstp f0) (f, c) :=
  fold_take rstp f0 (show (fs.zip cs)[i]? = some (f, c) by rw [List.getElem?_zip_eq_some]; exact ⟨h1, h2⟩)
theorem far_bt {f : Int × Int} {c : Int} (h : IsF f) (b : Bt 636 f) (hc : c.natAbs < 2 ^ 100) : Bt 740 (far f c) := by
  have r := rfar_bt b hc
  have n0 : (rfar f c).2 ≠ 0 := h.ne
  exact low_bt n0 r.1 r.2
theorem near_b {fs : List (Int × Int)} {cs : List Int} (h : AllF fs) (b : ∀ f ∈ fs, Bt 636 f) (hc : CsB cs) : Near 800 fs cs := fun p hp => by
  have h1 := (List.of_mem_zip (show (p.1, p.2) ∈ fs.zip cs from hp)).1
  have h2 := (List.of_mem_zip (show (p.1, p.2) ∈ fs.zip cs from hp)).2
  exact ⟨(far_bt (h _ h1) (b _ h1) (hc _ h2)).mono (by decide), Nat.lt_of_lt_of_le (hc _ h2) (Nat.pow_le_pow_right (by decide) (by decide))⟩
/-! ### no count is a whole one off -/
theorem rsum_few {g : Nat → Int × Int} {p : Nat → Bool} : ∀ l : List Nat, (∀ k ∈ l, rv (g k) ≤ 1 ∧ (p k = true → rv (g k) = 0)) → rsum (l.map g) + (((l.filter p).length : Int) : Rat) ≤ ((l.length : Int) : Rat)
  | [], _ => by show (0 : Rat) + ((0 : Int) : Rat) ≤ ((0 : Int) : Rat); rw [Rat.zero_add]; exact Rat.le_refl
  | a :: l, h => by
    have r := rsum_few (g := g) (p := p) l fun k hk => h k (List.mem_cons_of_mem _ hk)
    obtain ⟨h1, h2⟩ := h a List.mem_cons_self
    rw [List.map_cons, List.filter_cons, List.length_cons]
    show rv (g a) + rsum (l.map g) + _ ≤ _
    generalize rsum (l.map g) = S at r ⊢
    have e2 : (((l.length + 1 : Nat) : Int) : Rat) = ((l.length : Int) : Rat) + 1 := by
      rw [Int.natCast_add, Rat.intCast_add]
      rfl
    rw [e2]
    by_cases hp : p a = true
    · rw [if_pos hp, List.length_cons]
      have e3 : ((((l.filter p).length + 1 : Nat) : Int) : Rat) = (((l.filter p).length : Int) : Rat) + 1 := by
        rw [Int.natCast_add, Rat.intCast_add]
        rfl
      rw [e3, h2 hp]
      grind
    · rw [if_neg hp]
      grind
theorem no_whole_off {fs : List (Int × Int)} {st : Int × Int} (W : Wts fs) (aF : AllF (aimsF fs st)) (an : ∀ f ∈ aimsF fs st, 0 ≤ f.1) : lessB (worst (aimsF fs st) (cnt fs st)) f1 = true := by
  have ps := paper_shows W aF an f1_f (by decide)
  obtain ⟨m0, m1⟩ := more_ok W aF
  have al : (aimsF fs st).length = fs.length := List.length_map _
  have rl : ((aimsF fs st).map rst).length = fs.length := by rw [List.length_map]; exact al
  have each : ∀ r ∈ (aimsF fs st).map rst, IsF r ∧ 0 ≤ r.1 ∧ r.1 < r.2 := fun r hr => by
    obtain ⟨f, hf, rfl⟩ := List.mem_map.mp hr
    have hF := aF f hf
    rw [rst_pair hF (an f hf)]
    refine ⟨?_, Int.emod_nonneg _ hF.ne, Int.emod_lt_of_pos _ hF.1⟩
    rw [← rst_pair hF (an f hf)]
    exact rst_f hF
  have at_ : ∀ k, k < ((aimsF fs st).map rst).length → (((aimsF fs st).map rst).getD k f0) ∈ (aimsF fs st).map rst := fun k hk => by
    rw [List.getD_eq_getElem?_getD, List.getElem?_eq_getElem hk]
    exact List.getElem_mem _
  have sum : rsum ((aimsF fs st).map rst) = ((more fs st : Int) : Rat) := by
    rw [rsum_rst _ aF, rsum_aims W]
    unfold more
    rw [Rat.intCast_sub]
  have rF := rests_f aF
  generalize hR : (aimsF fs st).map rst = R at *
  have u0 : upL R f1 = [] := by
    unfold upL
    rw [List.filter_eq_nil_iff]
    intro k hk
    have hk' := List.mem_range.mp hk
    obtain ⟨_, r0, r1⟩ := each _ (at_ k hk')
    unfold upP
    have : lessB (R.getD k f0) f1 = true := by
      unfold lessB
      rw [decide_eq_true_eq]
      show (R.getD k f0).1 * 1 < 1 * (R.getD k f0).2
      omega
    rw [this]
    decide
  have few := rsum_few (g := fun k => R.getD k f0) (p := dnP R f1) (List.range R.length) fun k hk => by
    have hk' := List.mem_range.mp hk
    obtain ⟨rf, r0, r1⟩ := each _ (at_ k hk')
    refine ⟨(rv_le1 rf).mpr (Int.le_of_lt r1), fun hp => (rv_zero rf).mpr ?_⟩
    unfold dnP at hp
    rw [fsub_1 rf] at hp
    have hp' : lessB ((R.getD k f0).2 - (R.getD k f0).1, (R.getD k f0).2) f1 = false := by
      cases h : lessB ((R.getD k f0).2 - (R.getD k f0).1, (R.getD k f0).2) f1 with
      | false => rfl
      | true => rw [h] at hp; cases hp
    unfold lessB at hp'
    rw [decide_eq_false_iff_not] at hp'
    have hp2 : ¬ ((R.getD k f0).2 - (R.getD k f0).1) * 1 < 1 * (R.getD k f0).2 := hp'
    omega
  have er : (List.range R.length).map (fun k => R.getD k f0) = R := range_get f0 R
  rw [er, sum, List.length_range, ← Rat.intCast_add] at few
  have few' : more fs st + ((dnL R f1).length : Int) ≤ (R.length : Int) := Rat.intCast_le_intCast.mp few
  have s0 : showsB (upL R f1) (dnL R f1) (more fs st) fs.length = false := by
    unfold showsB
    rw [u0]
    have d1 : decide (more fs st < (([] : List Nat).length : Int)) = false := decide_eq_false (by show ¬ more fs st < 0; omega)
    have d2 : decide ((fs.length : Int) - ((dnL R f1).length : Int) < more fs st) = false := decide_eq_false (by omega)
    rw [d1, d2]
    rfl
  rw [s0] at ps
  cases h : lessB (worst (aimsF fs st) (cnt fs st)) f1 with
  | true => rfl
  | false => rw [h] at ps; cases ps
/-- no others of this sum are nearer -/
theorem none_less {fs : List (Int × Int)} {st : Int × Int} {cs : List Int} (W : Wts fs) (aF : AllF (aimsF fs st)) (an : ∀ f ∈ aimsF fs st, 0 ≤ f.1) (wF : IsF (worst (aimsF fs st) (cnt fs st))) (w0 : 0 ≤ (worst (aimsF fs st) (cnt fs st)).1) (hl : cs.length = fs.length) (hs : cs.sum = many fs st) :
    lessB (rworst (aimsF fs st) cs) (rworst (aimsF fs st) (cnt fs st)) = false := by
  rw [raw_less2 aF]
  have w1 := no_whole_off W aF an
  by_cases z : (worst (aimsF fs st) (cnt fs st)).1 = 0
  · have wb : IsF (worst (aimsF fs st) cs) ∧ 0 ≤ (worst (aimsF fs st) cs).1 := by
      have gen : ∀ (l : List ((Int × Int) × Int)) (w : Int × Int), IsF w → 0 ≤ w.1 → (∀ p ∈ l, IsF p.1) → IsF (l.foldl wst w) ∧ 0 ≤ (l.foldl wst w).1 := by
        intro l
        induction l with
        | nil => exact fun w h h0 _ => ⟨h, h0⟩
        | cons p l ih =>
          intro w h h0 hl
          refine ih (wst w p) ?_ ?_ fun q hq => hl q (List.mem_cons_of_mem _ hq)
          · unfold wst wmax
            split
            · exact far_f (hl p List.mem_cons_self) _
            · exact h
          · unfold wst wmax
            split
            · exact far_nn (hl p List.mem_cons_self) _
            · exact h0
      exact gen _ f0 f0_f (by decide) fun p hp => aF p.1 (List.of_mem_zip (show (p.1, p.2) ∈ (aimsF fs st).zip cs from hp)).1
    have p2 : 0 < (worst (aimsF fs st) (cnt fs st)).2 := wF.1
    have := Int.mul_nonneg wb.2 (Int.le_of_lt p2)
    unfold lessB
    rw [decide_eq_false_iff_not, z, Int.zero_mul]
    omega
  · refine none_below W aF an wF (by omega) ?_ hl hs ?_
    · unfold lessB at w1
      rw [decide_eq_true_eq] at w1
      exact Int.le_of_lt w1
    · rw [paper_shows W aF an wF (by omega)]
      have : lessB (worst (aimsF fs st) (cnt fs st)) (worst (aimsF fs st) (cnt fs st)) = false := lessB_self _
      rw [this]
      rfl
/-! ### what is left -/
theorem rv_m1 {fs : List (Int × Int)} {st : Int × Int} (hs : Wt st) : rv (fmul (many fs st, 1) st) = ((many fs st : Int) : Rat) * rv st := by
  rw [rv_mul (m1_f _) hs.lo, rv_int]
theorem left_less {fs : List (Int × Int)} {st : Int × Int} (W : Wts fs) (hs : Wt st) : lessB (left_ fs st) st = true := by
  have t2 : 0 < (tot fs).2 := (tot_f W.f).1
  have s1 := hs.po
  have s2 : 0 < st.2 := hs.lo.1
  have p : 0 < (tot fs).2 * st.1 := Int.mul_pos t2 s1
  have e : many fs st = ((tot fs).1 * st.2) / ((tot fs).2 * st.1) := fdiv_pos_eq p
  have h1 := Int.lt_mul_ediv_self_add (x := (tot fs).1 * st.2) p
  rw [← e] at h1
  have mF : IsF (many fs st + 1, (1 : Int)) := m1_f _
  have aF : IsF (fmul (many fs st + 1, 1) st) := fmul_f mF hs.lo
  have lt1 : rv (tot fs) < rv (fmul (many fs st + 1, 1) st) := by
    rw [rv_lt (tot_f W.f) aF]
    have c : (fmul (many fs st + 1, 1) st).1 * (1 * st.2) = (many fs st + 1) * st.1 * (fmul (many fs st + 1, 1) st).2 := low_cross (by omega)
    have b : 0 < (fmul (many fs st + 1, 1) st).2 := aF.1
    generalize fmul (many fs st + 1, 1) st = A at c b ⊢
    obtain ⟨A1, A2⟩ := A
    simp only at c b ⊢
    have h2 : (tot fs).1 * st.2 < (many fs st + 1) * st.1 * (tot fs).2 := by
      have e3 : (many fs st + 1) * st.1 * (tot fs).2 = (tot fs).2 * st.1 * many fs st + (tot fs).2 * st.1 := by grind
      omega
    have h3 := Int.mul_lt_mul_of_pos_right h2 b
    have e4 : (many fs st + 1) * st.1 * (tot fs).2 * A2 = (A1 * (tot fs).2) * st.2 := by
      have : (many fs st + 1) * st.1 * (tot fs).2 * A2 = ((many fs st + 1) * st.1 * A2) * (tot fs).2 := by grind
      rw [this, ← c]
      grind
    have e5 : (tot fs).1 * st.2 * A2 = ((tot fs).1 * A2) * st.2 := by grind
    rw [e4, e5] at h3
    exact Int.lt_of_mul_lt_mul_right h3 (Int.le_of_lt s2)
  have lF : IsF (left_ fs st) := fsub_f (tot_f W.f) (fmul_f (m1_f _) hs.lo)
  unfold lessB
  rw [decide_eq_true_eq, ← rv_lt lF hs.lo]
  unfold left_
  rw [rv_sub (tot_f W.f) (fmul_f (m1_f _) hs.lo), rv_m1 hs]
  rw [rv_mul mF hs.lo, rv_int, Rat.intCast_add] at lt1
  have one : ((1 : Int) : Rat) = 1 := rfl
  rw [one, Rat.add_mul, Rat.one_mul] at lt1
  grind
theorem used_left {fs : List (Int × Int)} {st : Int × Int} (W : Wts fs) (hs : Wt st) : fadd (fmul (many fs st, 1) st) (left_ fs st) = tot fs := by
  have mF : IsF (fmul (many fs st, 1) st) := fmul_f (m1_f _) hs.lo
  have lF : IsF (left_ fs st) := fsub_f (tot_f W.f) mF
  refine rv_inj (fadd_f mF lF) (tot_f W.f) ?_
  rw [rv_add mF lF]
  unfold left_
  rw [rv_sub (tot_f W.f) mF]
  grind
end Lf

set_option Elab.async false
set_option linter.all false
set_option maxRecDepth 100000
set_option maxHeartbeats 4000000
set_option exponentiation.threshold 3000
namespace Lf
open PySem PySem.Spec PyProof.Rows L2
theorem op_eqDK {X : Cx} {K : PySem.W.Frag} (h : X.A.units + 64 < cLine) (hK : X.K = K := by rfl) : OpR X (compareOp .Eq) (rEqD K) := hK ▸ op_eqD h
section
variable {P : Program} {w : World} {K : PySem.W.Frag} {mg : Str → Option Value} {base : Heap}

/-! ### _law_fit_step -/
theorem sc__law_fit_step : FnScope ["_law_pot_here", "_law_weights_here", "_law_step_here"] ["_law_pot_here", "_law_weights_here"] (defScope s__law_fit_step) := ⟨rfl, rfl, rfl, by decide +kernel, rfl, by decide +kernel, by decide +kernel⟩
/-- a step that goes in -/
def sp_fit (K : PySem.W.Frag) : Sp := fun vs H Q _ => ∃ (q L : Addr) (xs : List V) (fs : List (Int × Int)), vs = [.ref q, .ref L] ∧ Ws K H q L xs fs ∧ Wts fs ∧ Pot H q ∧ ∀ (v : V) (f : Int × Int) (H' : Hp), AtK K H' v f → (Wt f ∧ many fs f ≠ 0) → Pot H' q → But q H H' → Q v H'
theorem ok_fit {f : Addr} {fd : FuncData} (F : Fun K "_law_fit_step" "_law_fit_step" s__law_fit_step f fd) (C__law_step : Cal P w K mg base CX0 4 "_law_step" ["_law_pot_here", "_law_weights_here"] (sp_step K)) (C__law_many : Cal P w K mg base CX0 4 "_law_many" ["_law_weights_here", "_law_step_here"] (sp_lmany K)) : FnG P w K mg base CX0 5 f fd ["_law_pot_here", "_law_weights_here"] (sp_fit K) := by
  refine Gfun F sc__law_fit_step (fun vs H Q E h => ?_) (fun cdv A outer s H vs Q E hg hr h => ?_)
  · obtain ⟨q, L, xs, fs, rfl, _⟩ := h
    rfl
  · obtain ⟨q, L, xs, fs, rfl, S, W, hP, k⟩ := h
    refine ⟨_, (pss_cons (ps_set (i := 2) sc__law_fit_step.nd rfl (.inl rfl) (pe_g C__law_step (hr.mono (by decide)) hg (pa_cons (pv 0) (pa_cons (pv 1) pa_nil))))
      (pss_cons (ps_if (pt_cmpR op_eq (pe_g C__law_many (hr.mono (by decide)) hg (pa_cons (pv 1) (pa_cons (pv 2) pa_nil))) pe_int (nomark _))
      (pss_one (ps_set (i := 2) sc__law_fit_step.nd rfl (.inl rfl) (pe_ix ix_list (pv 1) pe_int (fun _ _ => rfl))))
      pss_nil)
      (pss_one (ps_ret (pv 2))))), ?_⟩
    refine ⟨_, rfl, _, rfl, q, L, xs, fs, rfl, S, W, hP, fun v g H1 hv hw P1 b1 => ?_⟩
    have S1 := S.but b1 hP
    refine ⟨_, rfl, _, rfl, L, v, xs, fs, g, rfl, .inl (.inl S1.l), S1.at_, W, hv, hw, fun H2 s2 => ⟨rfl, _, rfl, ite2 (fun e => ?_) (fun e => ?_)⟩⟩
    · have hl := S1.at_.length
      have h1 := W.one
      obtain ⟨x0, hx0⟩ : ∃ x0, xs[0]? = some x0 := ⟨_, List.getElem?_eq_getElem (by omega)⟩
      obtain ⟨g0, hg0, hat0⟩ := S1.at_.get hx0
      refine ⟨_, rfl, L, _, _, _, rfl, rfl, .inl (.inl (s2 _ _ S1.l)), atI_nat (j := 0) hx0, ?_⟩
      exact ⟨_, rfl, k x0 g0 H2 (hat0.same s2) ⟨W.all g0 (List.mem_of_getElem? hg0), many_head W hg0⟩ (pot_same P1 s2) (b1.same s2)⟩
    · exact ⟨_, rfl, k v g H2 (hv.same s2) ⟨hw, fun z => e (by rw [z]; decide)⟩ (pot_same P1 s2) (b1.same s2)⟩

/-! ### _law_less -/
theorem sc__law_less : FnScope ["_law_one", "_law_other"] ["_law_one", "_law_other"] (defScope s__law_less) := ⟨rfl, rfl, rfl, by decide +kernel, rfl, by decide +kernel, by decide +kernel⟩
theorem ok_lless {f : Addr} {fd : FuncData} (F : Fun K "_law_less" "_law_less" s__law_less f fd) : FnG P w K mg base CX0 1 f fd ["_law_one", "_law_other"] (sp_is_less K) := by
  refine Gfun F sc__law_less (fun vs H Q E h => ?_) (fun cdv A outer s H vs Q E hg hr h => ?_)
  · obtain ⟨a, b, c, d, h, _⟩ := h
    obtain ⟨p, q, rfl, _⟩ := h.ex
    rfl
  · obtain ⟨a, b, c, d, h, k⟩ := h
    obtain ⟨p, q, rfl, hp, hq⟩ := h.ex
    refine ⟨_, (pss_one (ps_ret (pe_cmpR op_lt (pe_op op_mulW (pe_ix ix_tup (pv 0) pe_int (fun _ _ => rfl)) (pe_ix ix_tup (pv 1) pe_int (fun _ _ => rfl))) (pe_op op_mulW (pe_ix ix_tup (pv 1) pe_int (fun _ _ => rfl)) (pe_ix ix_tup (pv 0) pe_int (fun _ _ => rfl))) (nomark _)))), ?_⟩
    refine ⟨_, rfl, p, _, _, _, rfl, rfl, hp, rfl, _, rfl, q, _, _, _, rfl, rfl, hq, rfl, _, _, rfl, rfl, Sm.mulW h.a1 h.d1, ?_⟩
    exact ⟨_, rfl, q, _, _, _, rfl, rfl, hq, rfl, _, rfl, p, _, _, _, rfl, rfl, hp, rfl, _, _, rfl, rfl, Sm.mulW h.c1 h.b1, _, _, rfl, rfl, k⟩

/-! ### _law_worst -/
theorem sc__law_worst : FnScope ["_law_some", "_law_counted", "_law_worst_here", "_law_one", "_law_count", "_law_far"] ["_law_some", "_law_counted"] (defScope s__law_worst) := ⟨rfl, rfl, rfl, by decide +kernel, rfl, by decide +kernel, by decide +kernel⟩
theorem pr_at0 {H : Hp} {v u : V} {f g : Int × Int} {j k : Nat} (hv : AtK K H v f) (hu : AtK K H u g) (hf : f.2 ≠ 0) (hg : g.2 ≠ 0) (bf : Bt j f) (bg : Bt k g) (hj : j ≤ 900) (hk : k ≤ 900) : Pr K H [v, u] f.1 f.2 g.1 g.2 := by
  obtain ⟨p, rfl, hp⟩ := hv
  obtain ⟨q, rfl, hq⟩ := hu
  exact ⟨⟨p, q, rfl, hp, hq⟩, hf, hg, (bf.sm hj).1, (bf.sm hj).2, (bg.sm hk).1, (bg.sm hk).2⟩
theorem rstp_t {w : Int × Int} {p : (Int × Int) × Int} (h : lessB w (rfar p.1 p.2) = true) : rstp w p = rfar p.1 p.2 := if_pos h
theorem rstp_f {w : Int × Int} {p : (Int × Int) × Int} (h : ¬ lessB w (rfar p.1 p.2) = true) : rstp w p = w := if_neg h
def sp_lworst (K : PySem.W.Frag) : Sp := fun vs H Q _ => ∃ (D Lc : Addr) (ys : List V) (fs : List (Int × Int)) (cs : List Int), vs = [.ref D, .ref Lc] ∧ SqL K H D ys ∧ AtKs K H ys fs ∧ AllF fs ∧ (∀ f ∈ fs, Bt 636 f) ∧ SqL K H Lc (cs.map V.int) ∧ cs.length = fs.length ∧ CsB cs ∧ ∀ H' u, Same H H' → AtK K H' u (rworst fs cs) → Q u H'
theorem ok_lworst {f : Addr} {fd : FuncData} (M : Blt mg) (Mz : mg "zip" = none) (F : Fun K "_law_worst" "_law_worst" s__law_worst f fd) (C__law_less : Cal P w K mg base CX0 1 "_law_less" ["_law_one", "_law_other"] (sp_is_less K)) : FnG P w K mg base CX0 2 f fd ["_law_some", "_law_counted"] (sp_lworst K) := by
  refine Gfun F sc__law_worst (fun vs H Q E h => ?_) (fun cdv A outer s H vs Q E hg hr h => ?_)
  · obtain ⟨D, Lc, ys, fs, cs, rfl, _⟩ := h
    rfl
  · obtain ⟨D, Lc, ys, fs, cs, rfl, hD, hy, aF, aB, hC, hl, hb, k⟩ := h
    refine ⟨_, (pss_cons (ps_set (i := 2) sc__law_worst.nd rfl (.inl rfl) (pe_tup (pa_cons pe_int (pa_cons pe_int pa_nil))))
      (pss_cons (ps_for PassesOwn.never rfl (RZ.pi_zipA rfl Mz (pa_cons (pv 0) (pa_cons (pv 1) pa_nil))) (pg_tup rfl (pgs_cons (pg_name (i := 3) sc__law_worst.nd rfl (.inl rfl)) (pgs_cons (pg_name (i := 4) sc__law_worst.nd rfl (.inl rfl)) pgs_nil)))
      (pss_cons (ps_set (i := 5) sc__law_worst.nd rfl (.inl rfl) (pe_tup (pa_cons (pe_callB call_abs rfl M.abs bt_abs (pa_cons (pe_op op_sub (pe_ix ix_tup (pv 3) pe_int (fun _ _ => rfl)) (pe_op op_mulW (pv 4) (pe_ix ix_tup (pv 3) pe_int (fun _ _ => rfl)))) pa_nil)) (pa_cons (pe_ix ix_tup (pv 3) pe_int (fun _ _ => rfl)) pa_nil))))
      (pss_one (ps_set (i := 2) sc__law_worst.nd rfl (.inl rfl) (pe_ifExp (pt_val (pe_g C__law_less (hr.mono (by decide)) hg (pa_cons (pv 2) (pa_cons (pv 5) pa_nil)))) (pv 5) (pv 2))))))
      (pss_one (ps_ret (pv 2))))), ?_⟩
    refine ⟨len_show (Nat.le_of_ble_eq_true rfl), fun p1 n1 => ?_⟩
    have s1 : Same H (L2.upd H p1 (.tup [.int 0, .int 1])) := same_new n1
    have a1 : AtK K (L2.upd H p1 (.tup [.int 0, .int 1])) (.ref p1) f0 := AtK.of upd_same
    generalize L2.upd H p1 (.tup [.int 0, .int 1]) = H1 at s1 a1 ⊢
    have hyl := hy.length
    have hn : fs.length = min ys.length (cs.map V.int).length := by
      rw [List.length_map]
      omega
    have hy1 := hy.same s1
    refine ⟨_, rfl, _, rfl, D, Lc, ys, cs.map V.int, rfl, .inl ⟨sm_l s1 hD, sm_l s1 hC, for_it (walk_zip (xs := ys) (ys := cs.map V.int) hn) (fun i σ H' => ∃ (y1 y2 y3 : Option V) (tv : V), σ = [some (.ref D), some (.ref Lc), some tv, y1, y2, y3] ∧ Same H1 H' ∧ AtK K H' tv (((fs.zip cs).take i).foldl rstp f0))
      ⟨_, _, _, .ref p1, rfl, same_rfl, a1⟩ (fun i σ H' _ ⟨_, _, _, _, _, sm, _⟩ => ⟨sm_l (s1.trans sm) hD, sm_l (s1.trans sm) hC⟩) ?_ ?_⟩⟩
    · rintro i x σ H3 H4 hi ⟨y1, y2, y3, tv, rfl, s3, ht⟩ ⟨T', x1, z1, rfl, hT, rfl, hx1, hz1⟩
      have s4 : Same H3 (L2.upd H3 T' (.tup [x1, z1])) := same_new hT
      have t4 : SqT K (L2.upd H3 T' (.tup [x1, z1])) T' [x1, z1] := .inl (.inl upd_same)
      generalize L2.upd H3 T' (.tup [x1, z1]) = H4 at s4 t4 ⊢
      have s34 := s3.trans s4
      obtain ⟨g, hgi, hg0⟩ := hy1.get (show ys[i]? = some x1 from hx1)
      obtain ⟨c, hci, rfl⟩ : ∃ c, cs[i]? = some c ∧ z1 = .int c := by
        have hz : (cs.map V.int)[i]? = some z1 := hz1
        rw [List.getElem?_map] at hz
        cases e : cs[i]? with
        | none => rw [e] at hz; cases hz
        | some c => rw [e] at hz; exact ⟨c, rfl, (Option.some.inj hz).symm⟩
      have gF := aF g (List.mem_of_getElem? hgi)
      have gB := aB g (List.mem_of_getElem? hgi)
      have cB := hb c (List.mem_of_getElem? hci)
      obtain ⟨pg, rfl, hpg⟩ := hg0.same s34
      refine ⟨T', _, rfl, t4, rfl, _, _, rfl, _, _, rfl, rfl, ?_⟩
      have rb := rfar_bt gB cB
      have c1b : Bt 740 (c, 1) := ⟨Nat.lt_of_lt_of_le cB (Nat.pow_le_pow_right (by decide) (by decide)), Nat.one_lt_two_pow (by decide)⟩
      refine ⟨_, rfl, pg, _, _, _, rfl, rfl, hpg, rfl, _, rfl, _, rfl, pg, _, _, _, rfl, rfl, hpg, rfl, _, _, rfl, rfl, Sm.mulW (c1b.sm (by decide)).1 (gB.sm (by decide)).2, _, _, rfl, rfl, _, rfl, _, rfl, pg, _, _, _, rfl, rfl, hpg, rfl, len_show (Nat.le_of_ble_eq_true rfl), fun p5 n5 => ?_⟩
      rw [abs_is]
      have s5 : Same H4 (L2.upd H4 p5 (.tup [.int ((g.1 - c * g.2).natAbs : Int), .int g.2])) := same_new n5
      have a5 : AtK K (L2.upd H4 p5 (.tup [.int ((g.1 - c * g.2).natAbs : Int), .int g.2])) (.ref p5) (rfar g c) := AtK.of upd_same
      generalize L2.upd H4 p5 (.tup [.int ((g.1 - c * g.2).natAbs : Int), .int g.2]) = H5 at s5 a5 ⊢
      obtain ⟨w2, wB⟩ := rw_ok (cs := cs) aF aB hb i
      have s35 := s34.trans s5
      have hst := rw_step (fs := fs) (cs := cs) hgi hci
      have s15 : Same H1 H5 := s3.trans (s4.trans s5)
      refine ⟨_, rfl, _, rfl, _, _, _, _, pr_at0 ((ht.same s4).same s5) a5 (by omega) gF.ne wB rb (by decide) (by decide), ⟨_, rfl, ite2 (fun e => ?_) (fun e => ?_)⟩⟩
      · refine ⟨_, rfl, _, _, _, _, rfl, s15, ?_⟩
        rw [hst, rstp_t (p := (g, c)) (show lessB _ _ = true from e)]
        exact a5
      · refine ⟨_, rfl, _, _, _, _, rfl, s15, ?_⟩
        rw [hst, rstp_f (p := (g, c)) (show ¬ lessB _ _ = true from e)]
        exact (ht.same s4).same s5
    · rintro σ H3 ⟨y1, y2, y3, tv, rfl, s3, ht⟩
      refine ⟨_, rfl, k H3 tv (s1.trans s3) ?_⟩
      rw [List.take_of_length_le (by rw [List.length_zip]; omega)] at ht
      exact ht

/-! ### _law_moved -/
theorem sc__law_moved : FnScope ["_law_counted", "_law_found", "_law_j", "_law_k", "_law_at", "_law_one"] ["_law_counted"] (defScope s__law_moved) := ⟨rfl, rfl, rfl, by decide +kernel, rfl, by decide +kernel, by decide +kernel⟩
theorem cr_sumJ {X : Cx} {K : PySem.W.Frag} (hc : X.calm = true) (hK : X.K = K := by rfl) : CallR X (.builtin "sum") (rSum K) := hK ▸ cr_sum hc
theorem cr_minJ {X : Cx} {K : PySem.W.Frag} (hc : X.calm = true) (hK : X.K = K := by rfl) : CallR X (.builtin "min") (rMin K) := hK ▸ cr_min hc
/-- lists of whole numbers, made anew -/
def NewI (H0 H : Hp) (Pc : List Int → Prop) (vs : List V) : Prop := ∀ v ∈ vs, ∃ (p : Addr) (cs : List Int), v = .ref p ∧ H0 p = none ∧ H p = some (.lst (cs.map V.int)) ∧ Pc cs
theorem NewI.nil {H0 H : Hp} {Pc : List Int → Prop} : NewI H0 H Pc [] := fun _ h => nomatch h
theorem NewI.to {H0 H H' : Hp} {Pc Pd : List Int → Prop} {vs : List V} (h : NewI H0 H Pc vs) (s : ∀ p o, H0 p = none → H p = some o → H' p = some o) (f : ∀ cs, Pc cs → Pd cs) : NewI H0 H' Pd vs := fun v hv => by
  obtain ⟨p, cs, e, n, hp, c⟩ := h v hv
  exact ⟨p, cs, e, n, s _ _ n hp, f _ c⟩
theorem NewI.app {H0 H : Hp} {Pc : List Int → Prop} {vs us : List V} (h : NewI H0 H Pc vs) (k : NewI H0 H Pc us) : NewI H0 H Pc (vs ++ us) := fun v hv => (List.mem_append.mp hv).elim (h v) (k v)
theorem NewI.one {H0 H : Hp} {Pc : List Int → Prop} {p : Addr} {cs : List Int} (n : H0 p = none) (e : H p = some (.lst (cs.map V.int))) (c : Pc cs) : NewI H0 H Pc [.ref p] := fun v hv => by
  obtain rfl := List.mem_singleton.mp hv
  exact ⟨p, cs, rfl, n, e, c⟩
theorem NewI.from {H0 H1 H : Hp} {Pc : List Int → Prop} {vs : List V} (s : Same H0 H1) (h : NewI H1 H Pc vs) : NewI H0 H Pc vs := fun v hv => by
  obtain ⟨p, cs, e, n, hp, c⟩ := h v hv
  exact ⟨p, cs, e, same_none s n, hp, c⟩
/-- as many counts of one sum, small -/
def OkC (n : Nat) (S : Int) (cs : List Int) : Prop := cs.length = n ∧ cs.sum = S ∧ ∀ c ∈ cs, c.natAbs < 2 ^ 91
def sp_moved (K : PySem.W.Frag) : Sp := fun vs H Q _ => ∃ (Lc : Addr) (cs : List Int), vs = [.ref Lc] ∧ H Lc = some (.lst (cs.map V.int)) ∧ cs.length ≤ 12 ∧ (∀ c ∈ cs, c.natAbs < 2 ^ 90) ∧ ∀ H' D us, Same H H' → H D = none → H' D = some (.lst us) → us.length ≤ 144 → NewI H H' (OkC cs.length cs.sum) us → Q (.ref D) H'
/-- one of them one less, another one one more -/
def mvd (cs : List Int) (j k : Nat) : List Int := (List.range cs.length).map fun i => cs.getD i 0 - (if i = j then 1 else 0) + (if i = k then 1 else 0)
theorem mvd_len {cs : List Int} {j k : Nat} : (mvd cs j k).length = cs.length := by
  unfold mvd
  rw [List.length_map, List.length_range]
theorem mvd_get {cs : List Int} {j k i : Nat} {c : Int} (h : cs[i]? = some c) : (mvd cs j k)[i]? = some (c - (if i = j then 1 else 0) + (if i = k then 1 else 0)) := by
  have hl := (List.getElem?_eq_some_iff.mp h).1
  unfold mvd
  rw [List.getElem?_map, List.getElem?_range hl]
  show some (cs.getD i 0 - (if i = j then 1 else 0) + (if i = k then 1 else 0)) = _
  rw [show cs.getD i 0 = c by rw [List.getD_eq_getElem?_getD, h]; rfl]
theorem ifint (i j : Nat) : (if decide (V.int (i : Int) = V.int (0 + (j : Int))) = true then (1 : Int) else 0) = if i = j then 1 else 0 := by
  by_cases h : i = j
  · rw [if_pos h, if_pos (decide_eq_true (by rw [h, Int.zero_add]))]
  · rw [if_neg h, if_neg (by
      rw [decide_eq_true_eq]
      intro z
      have := V.int.inj z
      omega)]
theorem one_at {n j : Nat} (h : j < n) : ((List.range n).map fun i => if i = j then (1 : Int) else 0).sum = 1 := by
  have gen : ∀ n : Nat, ((List.range n).map fun i => if i = j then (1 : Int) else 0).sum = if j < n then 1 else 0 := by
    intro n
    induction n with
    | zero => simp
    | succ n ih =>
      rw [List.range_succ, List.map_append, List.sum_append, ih]
      simp only [List.map_cons, List.map_nil, List.sum_cons, List.sum_nil]
      by_cases h1 : j < n
      · have h3 : j < n + 1 := by omega
        have h4 : ¬ n = j := by omega
        simp [h1, h3, h4]
      · by_cases h2 : n = j
        · have h3 : j < n + 1 := by omega
          simp [h1, h2]
        · have h3 : ¬ j < n + 1 := by omega
          simp [h1, h2, h3]
  rw [gen n, if_pos h]
theorem mvd_ok {cs : List Int} {j k : Nat} (hb : ∀ c ∈ cs, c.natAbs < 2 ^ 90) (hj : j < cs.length) (hk : k < cs.length) (hjk : j ≠ k) : OkC cs.length cs.sum (mvd cs j k) := by
  refine ⟨mvd_len, ?_, fun c hc => ?_⟩
  · have e : mvd cs j k = (List.range cs.length).map fun i => (cs.getD i 0 + (if i = k then (1 : Int) else 0)) + -(if i = j then (1 : Int) else 0) := by
      unfold mvd
      refine List.map_congr_left fun i _ => ?_
      omega
    have neg : ((List.range cs.length).map fun i => -(if i = j then (1 : Int) else 0)).sum = -1 := by
      have := one_at hj
      have n : ∀ l : List Nat, (l.map fun i => -(if i = j then (1 : Int) else 0)).sum = -((l.map fun i => if i = j then (1 : Int) else 0).sum) := by
        intro l
        induction l with
        | nil => rfl
        | cons a l ih =>
          rw [List.map_cons, List.map_cons, List.sum_cons, List.sum_cons, ih]
          omega
      rw [n, this]
    rw [e, sum_add, sum_add, one_at hk, neg, range_get 0 cs]
    omega
  · obtain ⟨i, hi⟩ := List.getElem?_of_mem hc
    have hl := (List.getElem?_eq_some_iff.mp hi).1
    rw [mvd_len] at hl
    have hci := List.getElem?_eq_getElem hl
    rw [mvd_get hci] at hi
    have := hb _ (List.getElem_mem hl)
    rw [← Option.some.inj hi]
    have p : (2 : Nat) ^ 90 + 2 ≤ 2 ^ 91 := by decide
    generalize (2 : Nat) ^ 90 = Y at *
    generalize (2 : Nat) ^ 91 = X at *
    split <;> split <;> omega
theorem ok_moved {f : Addr} {fd : FuncData} (M : Blt mg) (Me : mg "enumerate" = none) (F : Fun K "_law_moved" "_law_moved" s__law_moved f fd) : FnG P w K mg base CX0 1 f fd ["_law_counted"] (sp_moved K) := by
  refine Gfun F sc__law_moved (fun vs H Q E h => ?_) (fun cdv A outer s H vs Q E hg hr h => ?_)
  · obtain ⟨Lc, cs, rfl, _⟩ := h
    rfl
  · obtain ⟨Lc, cs, rfl, hC, h12, hb, k⟩ := h
    refine ⟨_, (pss_cons (ps_set (i := 1) sc__law_moved.nd rfl (.inl rfl) (pe_lst pa_nil))
      (pss_cons (ps_for PassesOwn.never rfl (pi_range1 rfl M.range (pa_cons (pe_callB call_len_seq rfl M.len bt_len (pa_cons (pv 0) pa_nil)) pa_nil)) (pg_name (i := 2) sc__law_moved.nd rfl (.inr rfl))
      (pss_one (ps_for PassesOwn.never rfl (pi_range1 rfl M.range (pa_cons (pe_callB call_len_seq rfl M.len bt_len (pa_cons (pv 0) pa_nil)) pa_nil)) (pg_name (i := 3) sc__law_moved.nd rfl (.inr rfl))
      (pss_one (ps_if (pt_cmpR op_ne (pv 2) (pv 3) (nomark _))
      (pss_one (ps_expr (pe_bm PySem.F.plainAttrs_list PySem.F.slot_list_append PySem.F.type_list_append mt_append (pv 1) (pa_cons (pe_lc (own := [("_law_at", 4), ("_law_one", 5)]) (g := gTup K 2 (gCons (gName 4) (gCons (gName 5) (gNil)))) (tt := tYes) rfl sc__law_moved.nd (pi_enum rfl Me (pa_cons (pv 0) pa_nil)) (blkOk_by (N := ["_law_counted", "_law_found", "_law_j", "_law_k", "_law_at", "_law_one"]) (sc := defScope s__law_moved) (by decide +kernel)) (fun _ _ _ _ _ => pg_tupK (K := K) rfl (pgs_cons (pg_name (i := 4) sc__law_moved.nd rfl (Or.inl rfl)) (pgs_cons (pg_name (i := 5) sc__law_moved.nd rfl (Or.inl rfl)) pgs_nil))) (fun _ _ _ _ _ => pts_nil) (fun _ _ _ _ _ => (pe_op op_add (pe_op op_sub (pv 5) (pe_callTy call_int1 rfl M.int bt_int (pa_cons (pe_cmpR op_eq (pv 4) (pv 2) (nomark _)) pa_nil))) (pe_callTy call_int1 rfl M.int bt_int (pa_cons (pe_cmpR op_eq (pv 4) (pv 3) (nomark _)) pa_nil))))) pa_nil))))
      pss_nil)))))
      (pss_one (ps_ret (pv 1))))), ?_⟩
    refine ⟨len_show (Nat.le_of_ble_eq_true rfl), fun D nD => ?_⟩
    have s1 : Same H (L2.upd H D (.lst [])) := same_new nD
    have f1 : L2.upd H D (.lst []) D = some (.lst []) := upd_same
    generalize L2.upd H D (.lst []) = H1 at s1 f1 ⊢
    have nLD : Lc ≠ D := ne_of_none hC nD
    have hD1 : H1 D ≠ none := by rw [f1]; exact fun z => nomatch z
    refine ⟨_, rfl, Lc, cs.map V.int, rfl, .inl (.inl (.inl (s1 _ _ hC))), _, rfl, by rw [List.length_map]; omega, by rw [List.length_map]; omega, ?_⟩
    refine for_range (lo := 0) (n := Int.toNat ((cs.map V.int).length : Int)) (fun j σ H' => ∃ (y1 y2 y3 y4 : Option V) (us : List V), σ = [some (.ref Lc), some (.ref D), y1, y2, y3, y4] ∧ But D H1 H' ∧ H' D = some (.lst us) ∧ us.length ≤ 12 * j ∧ NewI H1 H' (OkC cs.length cs.sum) us) ⟨_, _, _, _, [], rfl, But.rfl, f1, Nat.zero_le _, NewI.nil⟩ ?_ ?_
    · rintro j σ H2 hj ⟨y1, y2, y3, y4, us, rfl, b2, f2, l2, N2⟩
      have hjl : j < cs.length := by rw [List.length_map] at hj; omega
      have hC2 : H2 Lc = some (.lst (cs.map V.int)) := b2 _ _ nLD (s1 _ _ hC)
      refine ⟨_, rfl, Lc, cs.map V.int, rfl, .inl (.inl (.inl hC2)), _, rfl, by rw [List.length_map]; omega, by rw [List.length_map]; omega, ?_⟩
      refine for_range (lo := 0) (n := Int.toNat ((cs.map V.int).length : Int)) (fun k' σ H' => ∃ (y1 y2 y3 : Option V) (us : List V), σ = [some (.ref Lc), some (.ref D), some (.int (0 + (j : Int))), y1, y2, y3] ∧ But D H1 H' ∧ H' D = some (.lst us) ∧ us.length ≤ 12 * j + k' ∧ NewI H1 H' (OkC cs.length cs.sum) us) ⟨_, _, _, us, rfl, b2, f2, l2, N2⟩ ?_ ?_
      · rintro kk σ H3 hk ⟨y1, y2, y3, us3, rfl, b3, f3, l3, N3⟩
        have hkl : kk < cs.length := by rw [List.length_map] at hk; omega
        have hC3 : H3 Lc = some (.lst (cs.map V.int)) := b3 _ _ nLD (s1 _ _ hC)
        refine ⟨_, rfl, _, rfl, rfl, _, rfl, ite2 (fun e => ?_) (fun e => ?_)⟩
        · have hjk : j ≠ kk := fun z => by
            subst z
            simp at e
          refine ⟨_, rfl, .inl ⟨rfl, _, .inl (.inl f3)⟩, _, rfl, Lc, _, rfl, .inl (.inl hC3), fun D4 n4 => ?_⟩
          refine lc_it (walk_enum (K := K) (a := Lc) (xs := cs.map V.int)) (fun i H' => Same H3 H' ∧ H' D4 = some (.lst (((mvd cs j kk).take i).map V.int))) ⟨same_new n4, upd_same⟩ (fun i H' _ h => .inl (.inl (h.1 _ _ hC3))) ?_ ?_
          · rintro i x H5 H6 hi ⟨s5, e5⟩ ⟨T', x1, z1, rfl, hT, rfl, hx1, hz1⟩
            obtain rfl : V.int (i : Int) = x1 := Option.some.inj hx1
            have hi' : i < cs.length := by rw [List.length_map] at hi; exact hi
            obtain ⟨c, hci⟩ : ∃ c, cs[i]? = some c := ⟨_, List.getElem?_eq_getElem hi'⟩
            obtain rfl : V.int c = z1 := by
              have hz : (cs.map V.int)[i]? = some z1 := hz1
              rw [List.getElem?_map, hci] at hz
              exact Option.some.inj hz
            have s6 : Same H5 (L2.upd H5 T' (.tup [.int (i : Int), .int c])) := same_new hT
            have t6 : SqT K (L2.upd H5 T' (.tup [.int (i : Int), .int c])) T' [.int (i : Int), .int c] := .inl (.inl upd_same)
            generalize L2.upd H5 T' (.tup [.int (i : Int), .int c]) = H6 at s6 t6 ⊢
            refine ⟨T', _, rfl, t6, rfl, _, _, rfl, _, _, rfl, rfl, rfl, ?_⟩
            refine ⟨_, rfl, _, rfl, _, rfl, rfl, .inr ⟨_, rfl, _, _, rfl, rfl, _, rfl, _, rfl, rfl, .inr ⟨_, rfl, _, _, rfl, rfl, _, s6 _ _ e5, ?_, ?_, ?_⟩⟩⟩
            · rw [List.length_map, List.length_take, sizeLine_eq, mvd_len]
              omega
            · exact fun b o e => by
                rw [upd_ne (ne_of_none e n4)]
                exact s6 _ _ (s5 _ _ e)
            · rw [upd_same, List.take_add_one, mvd_get hci, List.map_append, ifint i j, ifint i kk]
              rfl
          · rintro H5 ⟨s5, e5⟩
            have hm : ((mvd cs j kk).take (cs.map V.int).length) = mvd cs j kk := List.take_of_length_le (by rw [mvd_len, List.length_map]; exact Nat.le_refl _)
            rw [hm] at e5
            have nDD : D4 ≠ D := fun z => by rw [z, f3] at n4; cases n4
            have n14 : H1 D4 = none := by
              cases h : H1 D4 with
              | none => rfl
              | some o => rw [b3 _ _ nDD h] at n4; cases n4
            refine ⟨D, _, _, rfl, rfl, s5 _ _ f3, ?_, _, _, _, _, rfl, ?_, upd_same, ?_, ?_⟩
            · rw [sizeLine_eq]
              omega
            · exact fun b o nb e => by
                rw [upd_ne nb]
                exact s5 _ _ (b3 _ _ nb e)
            · rw [List.length_append, List.length_singleton]
              omega
            · have keep : ∀ (p : Addr) (o : HO), H1 p = none → H5 p = some o → L2.upd H5 D (.lst (us3 ++ [.ref D4])) p = some o := fun p o np e => by
                rw [upd_ne (fun z : p = D => hD1 (by rw [← z]; exact np))]
                exact e
              refine ((N3.to (fun p o _ e => s5 _ _ e) fun _ h => h).to keep fun _ h => h).app (NewI.one n14 (keep _ _ n14 e5) (mvd_ok hb hjl hkl hjk))
        · exact ⟨_, _, _, us3, rfl, b3, f3, by omega, N3⟩
      · rintro σ H3 ⟨y1, y2, y3, us3, rfl, b3, f3, l3, N3⟩
        exact ⟨_, _, _, _, us3, rfl, b3, f3, by rw [List.length_map] at l3; omega, N3⟩
    · rintro σ H2 ⟨y1, y2, y3, y4, us, rfl, b2, f2, l2, N2⟩
      refine ⟨_, rfl, k H2 D us (fun b o e => b2 _ _ (ne_of_none e nD) (s1 _ _ e)) nD f2 ?_ (N2.from s1)⟩
      rw [List.length_map] at l2
      omega

/-! ### _law_others -/
theorem sc__law_others : FnScope ["_law_counted", "_law_found", "_law_one", "_law_more", "_law_far", "_law_other"] ["_law_counted"] (defScope s__law_others) := ⟨rfl, rfl, rfl, by decide +kernel, rfl, by decide +kernel, by decide +kernel⟩
def sp_others (K : PySem.W.Frag) : Sp := fun vs H Q _ => ∃ (Lc : Addr) (cs : List Int), vs = [.ref Lc] ∧ H Lc = some (.lst (cs.map V.int)) ∧ cs.length ≤ 12 ∧ (∀ c ∈ cs, c.natAbs < 2 ^ 90) ∧ ∀ H' D us, Same H H' → H D = none → H' D = some (.lst us) → us.length ≤ 3125 → NewI H H' (OkC cs.length cs.sum) us → Q (.ref D) H'
theorem ok_others {f : Addr} {fd : FuncData} (M : Blt mg) (msum : mg "sum" = none) (F : Fun K "_law_others" "_law_others" s__law_others f fd) (C__law_moved : Cal P w K mg base CX0 1 "_law_moved" ["_law_counted"] (sp_moved K)) : FnG P w K mg base CX0 2 f fd ["_law_counted"] (sp_others K) := by
  refine Gfun F sc__law_others (fun vs H Q E h => ?_) (fun cdv A outer s H vs Q E hg hr h => ?_)
  · obtain ⟨Lc, cs, rfl, _⟩ := h
    rfl
  · obtain ⟨Lc, cs, rfl, hC, h12, hb, k⟩ := h
    refine ⟨_, (pss_cons (ps_if (pt_cmpR op_gt (pe_callB call_len_seq rfl M.len bt_len (pa_cons (pv 0) pa_nil)) pe_int (nomark _))
      (pss_one (ps_ret (pe_g C__law_moved (hr.mono (by decide)) hg (pa_cons (pv 0) pa_nil))))
      pss_nil)
      (pss_cons (ps_set (i := 1) sc__law_others.nd rfl (.inl rfl) (pe_lst (pa_cons (pe_lst pa_nil) pa_nil)))
      (pss_cons (ps_for PassesOwn.never rfl (pi_list (pv 0)) (pg_name (i := 2) sc__law_others.nd rfl (.inr rfl))
      (pss_cons (ps_set (i := 3) sc__law_others.nd rfl (.inl rfl) (pe_lst pa_nil))
      (pss_cons (ps_for PassesOwn.never rfl (pi_range1 rfl M.range (pa_cons pe_int pa_nil)) (pg_name (i := 4) sc__law_others.nd rfl (.inr rfl))
      (pss_one (ps_expr (pe_bm PySem.F.plainAttrs_list PySem.F.slot_list_extend PySem.F.type_list_extend mt_extend (pv 3) (pa_cons (pe_lc (own := [("_law_other", 5)]) (g := gName 5) (tt := tYes) rfl sc__law_others.nd (pi_list (pv 1)) (blkOk_by (N := ["_law_counted", "_law_found", "_law_one", "_law_more", "_law_far", "_law_other"]) (sc := defScope s__law_others) (by decide +kernel)) (fun _ _ _ _ _ => pg_name (i := 5) sc__law_others.nd rfl (Or.inl rfl)) (fun _ _ _ _ _ => pts_nil) (fun _ _ _ _ _ => (pe_op op_cat (pv 5) (pe_lst (pa_cons (pe_op op_sub (pe_op op_add (pv 2) (pv 4)) pe_int) pa_nil))))) pa_nil)))))
      (pss_one (ps_set (i := 1) sc__law_others.nd rfl (.inl rfl) (pv 3))))))
      (pss_one (ps_ret (pe_lc (own := [("_law_other", 5)]) (g := gName 5) rfl sc__law_others.nd (pi_list (pv 1)) (blkOk_by (N := ["_law_counted", "_law_found", "_law_one", "_law_more", "_law_far", "_law_other"]) (sc := defScope s__law_others) (by decide +kernel)) (fun _ _ _ _ _ => pg_name (i := 5) sc__law_others.nd rfl (Or.inl rfl)) (fun _ _ _ _ _ => (pts_one (pt_cmpR op_eq (pe_callB (cr_sumJ (K := K) rfl) rfl msum bt_sum (pa_cons (pv 5) pa_nil)) (pe_callB (cr_sumJ (K := K) rfl) rfl msum bt_sum (pa_cons (pv 0) pa_nil)) (nomark _)))) (fun _ _ _ _ _ => (pv 5)))))))), ?_⟩
    refine ⟨_, rfl, Lc, cs.map V.int, rfl, .inl (.inl (.inl hC)), _, _, rfl, rfl, _, rfl, ite2 (fun e => ?_) (fun e => ?_)⟩
    · exact ⟨_, rfl, Lc, cs, rfl, hC, h12, hb, fun H' D us s1 nD f1 l1 N1 => k H' D us s1 nD f1 (by omega) N1⟩
    have h5 : cs.length ≤ 5 := by
      rw [List.length_map] at e
      simp at e
      omega
    refine ⟨len_show (Nat.le_of_ble_eq_true rfl), fun p1 n1 => ⟨len_show (Nat.le_of_ble_eq_true rfl), fun p2 n2 => ?_⟩⟩
    have s1 : Same H (L2.upd H p1 (.lst [])) := same_new n1
    have e1 : L2.upd H p1 (.lst []) p1 = some (.lst []) := upd_same
    generalize L2.upd H p1 (.lst []) = H1 at s1 e1 n2 ⊢
    have s2 : Same H1 (L2.upd H1 p2 (.lst [.ref p1])) := same_new n2
    have e2 : L2.upd H1 p2 (.lst [.ref p1]) p2 = some (.lst [.ref p1]) := upd_same
    generalize L2.upd H1 p2 (.lst [.ref p1]) = H2 at s2 e2 ⊢
    have s02 := s1.trans s2
    have p1n : p1 ≠ p2 := ne_of_none e1 n2
    have hC2 := s02 _ _ hC
    refine ⟨_, rfl, Lc, rfl, ⟨cs.map V.int, .inl (.inl hC2)⟩, ?_⟩
    refine for_list (K := K) (a := Lc) (xs := cs.map V.int) (fun i σ H' => ∃ (y1 y2 y3 y4 : Option V) (F1 : Addr) (us : List V), σ = [some (.ref Lc), some (.ref F1), y1, y2, y3, y4] ∧ Same H2 H' ∧ H F1 = none ∧ H' F1 = some (.lst us) ∧ us.length ≤ 5 ^ i ∧ NewI H H' (fun ds => ds.length = i ∧ ∀ c ∈ ds, c.natAbs < 2 ^ 91) us) ⟨_, _, _, _, p2, _, rfl, same_rfl, ?_, e2, Nat.le_refl _, NewI.one (cs := []) n1 (s2 _ _ e1) ⟨rfl, fun _ h => nomatch h⟩⟩ (fun i σ H' _ h => ?_) ?_ ?_
    · exact same_none s1 n2
    · obtain ⟨y1, y2, y3, y4, F1, us, rfl, sm, _⟩ := h
      exact .inl (.inl (sm _ _ hC2))
    · rintro i x σ H3 hx ⟨y1, y2, y3, y4, F1, us, rfl, s3, nF, f3, l3, N3⟩
      obtain ⟨c, hci, rfl⟩ : ∃ c, cs[i]? = some c ∧ x = .int c := by
        rw [List.getElem?_map] at hx
        cases e : cs[i]? with
        | none => rw [e] at hx; cases hx
        | some c => rw [e] at hx; exact ⟨c, rfl, (Option.some.inj hx).symm⟩
      have hil := (List.getElem?_eq_some_iff.mp hci).1
      have cb := hb c (List.mem_of_getElem? hci)
      have p5 : 5 ^ i ≤ 625 := Nat.le_trans (Nat.pow_le_pow_right (by decide) (show i ≤ 4 by omega)) (by decide)
      refine ⟨len_show (Nat.le_of_ble_eq_true rfl), fun M_ nM => ?_⟩
      have s4 : Same H3 (L2.upd H3 M_ (.lst [])) := same_new nM
      have e4 : L2.upd H3 M_ (.lst []) M_ = some (.lst []) := upd_same
      generalize L2.upd H3 M_ (.lst []) = H4 at s4 e4 ⊢
      have s24 := s3.trans s4
      have s04 := s02.trans s24
      have nM0 : H M_ = none := same_none (s02.trans s3) nM
      have nFM : F1 ≠ M_ := ne_of_none f3 nM
      refine ⟨_, rfl, by decide, by decide, ?_⟩
      have nM2 : H2 M_ = none := same_none s3 nM
      refine for_range (lo := 0) (n := 5) (fun kk σ H' => ∃ (y1 y2 : Option V) (ws : List V), σ = [some (.ref Lc), some (.ref F1), some (.int c), some (.ref M_), y1, y2] ∧ But M_ H4 H' ∧ H' M_ = some (.lst ws) ∧ ws.length = kk * us.length ∧ NewI H4 H' (fun ds => ds.length = i + 1 ∧ ∀ c ∈ ds, c.natAbs < 2 ^ 91) ws) ⟨_, _, [], rfl, But.rfl, e4, (Nat.zero_mul _).symm, NewI.nil⟩ ?_ ?_
      · rintro kk σ H5 hk ⟨y1, y2, ws, rfl, b5, e5, l5, N5⟩
        have f5 : H5 F1 = some (.lst us) := b5 _ _ nFM (s4 _ _ f3)
        refine ⟨_, rfl, .inl ⟨rfl, _, .inl (.inl e5)⟩, _, rfl, F1, rfl, ⟨us, .inl (.inl f5)⟩, fun D6 n6 => ?_⟩
        have nMD : M_ ≠ D6 := ne_of_none e5 n6
        refine lc_list (xs := us) (fun t H' => Same H5 H' ∧ ∃ zs, H' D6 = some (.lst zs) ∧ zs.length = t ∧ NewI (L2.upd H5 D6 (.lst [])) H' (fun ds => ds.length = i + 1 ∧ ∀ c ∈ ds, c.natAbs < 2 ^ 91) zs) ⟨same_new n6, [], upd_same, rfl, NewI.nil⟩ (fun t H' _ h => .inl (.inl (h.1 _ _ f5))) ?_ ?_
        · rintro t x H7 hx ⟨s7, zs, e7, l7, N7⟩
          obtain ⟨px, ds, rfl, npx, hpx, hdl, hdb⟩ := N3 x (List.mem_of_getElem? hx)
          have htl := (List.getElem?_eq_some_iff.mp hx).1
          have nxM : px ≠ M_ := ne_of_none hpx nM
          have hx7 : H7 px = some (.lst (ds.map V.int)) := s7 _ _ (b5 _ _ nxM (s4 _ _ hpx))
          refine ⟨rfl, _, rfl, _, rfl, _, rfl, _, _, rfl, rfl, _, _, rfl, rfl, len_show (Nat.le_of_ble_eq_true rfl), fun p8 n8 => ?_⟩
          have s8 : Same H7 (L2.upd H7 p8 (.lst [.int (c + (0 + (kk : Int)) - 2)])) := same_new n8
          have e8 : L2.upd H7 p8 (.lst [.int (c + (0 + (kk : Int)) - 2)]) p8 = some (.lst [.int (c + (0 + (kk : Int)) - 2)]) := upd_same
          generalize L2.upd H7 p8 (.lst [.int (c + (0 + (kk : Int)) - 2)]) = H8 at s8 e8 ⊢
          refine ⟨px, p8, _, _, rfl, rfl, s8 _ _ hx7, e8, ?_, fun p9 n9 => ?_⟩
          · rw [List.length_map, hdl, sizeLine_eq, List.length_singleton]
            omega
          have s9 : Same H8 (L2.upd H8 p9 (.lst (ds.map V.int ++ [.int (c + (0 + (kk : Int)) - 2)]))) := same_new n9
          have e9 : L2.upd H8 p9 (.lst (ds.map V.int ++ [.int (c + (0 + (kk : Int)) - 2)])) p9 = some (.lst ((ds ++ [c + (0 + (kk : Int)) - 2]).map V.int)) := by rw [upd_same, List.map_append]; rfl
          generalize L2.upd H8 p9 (.lst (ds.map V.int ++ [.int (c + (0 + (kk : Int)) - 2)])) = H9 at s9 e9 ⊢
          have s79 := s8.trans s9
          have n9D : p9 ≠ D6 := fun z => by
            rw [z, s8 _ _ e7] at n9
            cases n9
          have np9 : (L2.upd H5 D6 (.lst [])) p9 = none := by
            rw [upd_ne n9D]
            cases h : H5 p9 with
            | none => rfl
            | some o =>
              have := s8 _ _ (s7 _ _ h)
              rw [this] at n9
              cases n9
          refine ⟨zs, s79 _ _ e7, by rw [l7, sizeLine_eq]; omega, fun b o e => ?_, zs ++ [.ref p9], upd_same, by rw [List.length_append, l7]; rfl, ?_⟩
          · rw [upd_ne (ne_of_none e n6)]
            exact s79 _ _ (s7 _ _ e)
          · have N9 : NewI (L2.upd H5 D6 (.lst [])) H9 (fun ds => ds.length = i + 1 ∧ ∀ c ∈ ds, c.natAbs < 2 ^ 91) (zs ++ [.ref p9]) := by
              refine (N7.to (fun p o _ e => s79 _ _ e) fun _ h => h).app (NewI.one np9 e9 ⟨?_, fun d hd => ?_⟩)
              · rw [List.length_append, hdl]
                rfl
              · rcases List.mem_append.mp hd with h | h
                · exact hdb d h
                · obtain rfl := List.mem_singleton.mp h
                  have p : (2 : Nat) ^ 90 + 10 ≤ 2 ^ 91 := by decide
                  generalize (2 : Nat) ^ 90 = Y at *
                  generalize (2 : Nat) ^ 91 = X at *
                  omega
            exact N9.to (fun p o np e => by
              rw [upd_ne (fun z : p = D6 => by rw [z, upd_same] at np; cases np)]
              exact e) fun _ h => h
        · rintro H7 ⟨s7, zs, e7, l7, N7⟩
          have s67 : Same H5 (L2.upd H5 D6 (.lst [])) := same_new n6
          have hM4 : H4 M_ ≠ none := by rw [e4]; exact fun z => nomatch z
          have from4 : ∀ p : Addr, (L2.upd H5 D6 (.lst [])) p = none → H4 p = none := fun p np => by
            have np5 : H5 p = none := same_none s67 np
            cases h : H4 p with
            | none => rfl
            | some o =>
              have hne : p ≠ M_ := fun z => by rw [z, e5] at np5; cases np5
              rw [b5 _ _ hne h] at np5
              cases np5
          have keep : ∀ (p : Addr) (o : HO), H4 p = none → H7 p = some o → L2.upd H7 M_ (.lst (ws ++ zs)) p = some o := fun p o np e => by
            rw [upd_ne (fun z : p = M_ => hM4 (by rw [← z]; exact np))]
            exact e
          refine ⟨M_, D6, ws, zs, rfl, rfl, s7 _ _ e5, e7, ?_, _, _, ws ++ zs, rfl, fun b o nb e => ?_, upd_same, ?_, ?_⟩
          · rw [l5, l7, sizeLine_eq]
            have : kk * us.length ≤ 5 * 625 := Nat.mul_le_mul (by omega) (by omega)
            omega
          · rw [upd_ne nb]
            exact s7 _ _ (b5 _ _ nb e)
          · rw [List.length_append, l5, l7, Nat.succ_mul]
          · refine ((N5.to (fun p o _ e => s7 _ _ e) fun _ h => h).to keep fun _ h => h).app ?_
            intro v hv
            obtain ⟨q1, q2, q3, q4, q5, q6⟩ := N7 v hv
            exact ⟨q1, q2, q3, from4 _ q4, keep _ _ (from4 _ q4) q5, q6⟩
      · rintro σ H5 ⟨y1, y2, ws, rfl, b5, e5, l5, N5⟩
        refine ⟨_, rfl, _, _, _, _, M_, ws, rfl, fun b o e => b5 _ _ (ne_of_none e nM2) (s24 _ _ e), nM0, e5, ?_, N5.from s04⟩
        rw [l5, Nat.pow_succ]
        omega
    · rintro σ H3 ⟨y1, y2, y3, y4, F1, us, rfl, s3, nF, f3, l3, N3⟩
      have hC3 := s3 _ _ hC2
      rw [List.length_map] at l3 N3
      have l3' : us.length ≤ 3125 := Nat.le_trans l3 (Nat.le_trans (Nat.pow_le_pow_right (by decide) h5) (by decide))
      refine ⟨_, rfl, F1, rfl, ⟨us, .inl (.inl f3)⟩, fun D4 n4 => ?_⟩
      have nD0 : H D4 = none := same_none (s02.trans s3) n4
      refine lc_list (xs := us) (fun t H' => Same H3 H' ∧ ∃ zs, H' D4 = some (.lst zs) ∧ zs.length ≤ t ∧ ∀ v ∈ zs, ∃ (p : Addr) (ds : List Int), v = .ref p ∧ H p = none ∧ H3 p = some (.lst (ds.map V.int)) ∧ OkC cs.length cs.sum ds) ⟨same_new n4, [], upd_same, Nat.le_refl _, fun _ h => nomatch h⟩ (fun t H' _ h => .inl (.inl (h.1 _ _ f3))) ?_ ?_
      · rintro t x H7 hx ⟨s7, zs, e7, l7, N7⟩
        obtain ⟨px, ds, rfl, npx, hpx, hdl, hdb⟩ := N3 x (List.mem_of_getElem? hx)
        have htl := (List.getElem?_eq_some_iff.mp hx).1
        refine ⟨rfl, _, rfl, px, ds, rfl, .inl (.inl (s7 _ _ hpx)), _, rfl, Lc, cs, rfl, .inl (.inl (s7 _ _ hC3)), rfl, _, rfl, ite2 (fun e => ?_) (fun e => ?_)⟩
        · refine ⟨_, rfl, zs, e7, by rw [sizeLine_eq]; omega, fun b o e => ?_, zs ++ [.ref px], upd_same, by rw [List.length_append, List.length_singleton]; omega, ?_⟩
          · rw [upd_ne (ne_of_none e n4)]
            exact s7 _ _ e
          · intro v hv
            rcases List.mem_append.mp hv with h | h
            · exact N7 v h
            · obtain rfl := List.mem_singleton.mp h
              refine ⟨px, ds, rfl, npx, hpx, hdl, ?_, hdb⟩
              rw [decide_eq_true_eq] at e
              exact V.int.inj e
        · exact ⟨s7, zs, e7, by omega, N7⟩
      · rintro H7 ⟨s7, zs, e7, l7, N7⟩
        refine k H7 D4 zs ((s02.trans s3).trans s7) nD0 e7 (by omega) fun v hv => ?_
        obtain ⟨p, ds, q1, q2, q3, q4⟩ := N7 v hv
        exact ⟨p, ds, q1, q2, s7 _ _ q3, q4⟩

end
end Lf

set_option Elab.async false
set_option linter.all false
set_option maxRecDepth 100000
set_option maxHeartbeats 4000000
set_option exponentiation.threshold 3000
namespace Lf
open PySem PySem.Spec PyProof.Rows L2
section
variable {P : Program} {w : World} {K : PySem.W.Frag} {mg : Str → Option Value} {base : Heap}
theorem ints_dp {H : Hp} : ∀ cs : List Int, DpAll K H (cs.map V.int) (cs.map PyData.int)
  | [] => .nil
  | c :: cs => .cons (.int c) (ints_dp cs)
theorem ints_lay : ∀ cs : List Int, PyData.canLayAll0 (cs.map PyData.int) = true ∧ PyData.depthAll (cs.map PyData.int) = 0
  | [] => ⟨by simp only [List.map_nil, PyData.canLayAll0], by simp only [List.map_nil, PyData.depthAll]⟩
  | c :: cs => by
    obtain ⟨i1, i2⟩ := ints_lay cs
    exact ⟨by simp only [List.map_cons, PyData.canLayAll0, i1, PyData.canLay0, Bool.and_self], by simp only [List.map_cons, PyData.depthAll, PyData.depth, i2, Nat.max_self]⟩
theorem ints_shaped (cs : List Int) : SeqAt.shaped (.list (cs.map PyData.int)) = true := by
  obtain ⟨i1, i2⟩ := ints_lay cs
  unfold SeqAt.shaped
  rw [Bool.and_eq_true]
  refine ⟨by simp only [PyData.canLay0]; exact i1, decide_eq_true ?_⟩
  simp only [PyData.depth, i2]
  omega
theorem ints_eqvA : ∀ cs : List Int, PyData.eqvAll (cs.map PyData.int) (cs.map PyData.int) = true
  | [] => by simp only [List.map_nil, PyData.eqvAll]
  | c :: cs => by simp [List.map_cons, PyData.eqvAll, PyData.eqv, ints_eqvA cs]
theorem ints_eqv (cs : List Int) : PyData.eqv (.list (cs.map PyData.int)) (.list (cs.map PyData.int)) = true := by
  simp only [PyData.eqv]
  exact ints_eqvA cs
theorem ints_ft {k : Nat} (hk : k ≤ 900) (h0 : 0 < k) : ∀ cs : List Int, (∀ c ∈ cs, c.natAbs < 2 ^ k) → FtA ((k + 1) * cs.length) 0 (cs.map PyData.int)
  | [], _ => by
    have := FtA.nil
    exact ⟨this.sh, this.nd, this.dp, this.lv, by simpa using this.wt⟩
  | c :: cs, h => by
    have r := FtA.cons (Ft.intB (h c List.mem_cons_self) hk h0) (ints_ft hk h0 cs fun d hd => h d (List.mem_cons_of_mem _ hd))
    rw [List.map_cons]
    refine ⟨r.sh, r.nd, Nat.le_trans r.dp (by decide), r.lv, Nat.le_trans r.wt ?_⟩
    rw [List.length_cons, Nat.mul_succ]
    omega
theorem tD_ft {k : Nat} {f : Int × Int} (hk : k ≤ 900) (h0 : 0 < k) (h : Bt k f) : Ft (2 * k + 2) 1 (tD f) := by
  have f1 : Ft _ _ (tD f) := Ft.tuple (.cons (Ft.intB h.1 hk h0) (.cons (Ft.intB h.2 hk h0) .nil))
  exact ⟨f1.sh, f1.nd, Nat.le_trans f1.dp (by decide), f1.lv, Nat.le_trans f1.wt (by omega)⟩

/-! ### _law_worsts_right -/
theorem sc__law_worsts_right : FnScope ["_law_pot_here", "_law_weights_here", "_law_step_here", "_law_some", "_law_counted", "_law_at", "_law_others_moved", "_law_others_here", "_law_other", "_law_handed", "_law_due", "_law_told", "_law_k"] ["_law_pot_here", "_law_weights_here", "_law_step_here", "_law_some", "_law_counted"] (defScope s__law_worsts_right) := ⟨rfl, rfl, rfl, by decide +kernel, rfl, by decide +kernel, by decide +kernel⟩
/-- the told counts and what they are held against -/
structure WrI (K : PySem.W.Frag) (H : Hp) (q L D Lc : Addr) (v : V) (xs ys : List V) (fs : List (Int × Int)) (st : Int × Int) (cs : List Int) : Prop where
  P : Pot H q
  S : Ws K H q L xs fs
  W : Wts fs
  v : AtK K H v st
  s : Wt st
  m : many fs st ≠ 0
  d : H D = some (.lst ys)
  nd : D ≠ q
  y : AtKs K H ys (aimsF fs st)
  c : H Lc = some (.lst (cs.map V.int))
  nc : Lc ≠ q
  l : cs.length = fs.length
  b : ∀ c ∈ cs, c.natAbs < 2 ^ 90
  sb : cs.sum.natAbs < 2 ^ 91
theorem WrI.but {H H' : Hp} {q L D Lc : Addr} {v : V} {xs ys : List V} {fs : List (Int × Int)} {st : Int × Int} {cs : List Int} (h : WrI K H q L D Lc v xs ys fs st cs) (b : But q H H') (p : Pot H' q) : WrI K H' q L D Lc v xs ys fs st cs :=
  ⟨p, h.S.but b h.P, h.W, h.v.but b h.P, h.s, h.m, b _ _ h.nd h.d, h.nd, h.y.but b h.P, b _ _ h.nc h.c, h.nc, h.l, h.b, h.sb⟩
theorem WrI.same {H H' : Hp} {q L D Lc : Addr} {v : V} {xs ys : List V} {fs : List (Int × Int)} {st : Int × Int} {cs : List Int} (h : WrI K H q L D Lc v xs ys fs st cs) (s : Same H H') : WrI K H' q L D Lc v xs ys fs st cs := h.but (But.same But.rfl s) (pot_same h.P s)
/-- lists of counts, beside the pot -/
def RowsC (H : Hp) (q : Addr) (n : Nat) (vs : List V) : Prop := ∀ v ∈ vs, ∃ (p : Addr) (ds : List Int), v = .ref p ∧ p ≠ q ∧ H p = some (.lst (ds.map V.int)) ∧ ds.length = n ∧ CsB ds
theorem RowsC.app {H : Hp} {q : Addr} {n : Nat} {vs us : List V} (h : RowsC H q n vs) (k : RowsC H q n us) : RowsC H q n (vs ++ us) := fun v hv => (List.mem_append.mp hv).elim (h v) (k v)
theorem RowsC.but {H H' : Hp} {q : Addr} {n : Nat} {vs : List V} (h : RowsC H q n vs) (b : But q H H') : RowsC H' q n vs := fun v hv => by
  obtain ⟨p, ds, e, nq, hp, c⟩ := h v hv
  exact ⟨p, ds, e, nq, b _ _ nq hp, c⟩
theorem RowsC.same {H H' : Hp} {q : Addr} {n : Nat} {vs : List V} (h : RowsC H q n vs) (s : Same H H') : RowsC H' q n vs := h.but (But.same But.rfl s)
theorem RowsC.one {H : Hp} {q p : Addr} {ds : List Int} {n : Nat} (nq : p ≠ q) (e : H p = some (.lst (ds.map V.int))) (c : ds.length = n ∧ CsB ds) : RowsC H q n [.ref p] := fun v hv => by
  obtain rfl := List.mem_singleton.mp hv
  exact ⟨p, ds, rfl, nq, e, c⟩
theorem worstX_of {H0 H : Hp} {Q : VK} {E : XK} {a h : Addr} {v : V} {xs : List V} {fs : List (Int × Int)} {st : Int × Int} {ds : List Int} (hh : H0 h = some (.lst (ds.map V.int)) ∨ H0 h = some (.tup (ds.map V.int))) (s : Same H0 H) (T : Fit K H a v xs fs st) (dl : ds.length = fs.length) (nb : Near 800 (aimsF fs st) ds) (go : ∀ H' u, Same H H' → AtK K H' u (worst (aimsF fs st) ds) → Q u H') : sp_worstX K [.ref a, v, .ref h] H Q E := by
  rcases hh with hh | hh
  · exact .inl ⟨a, h, v, xs, fs, st, ds, rfl, T, .inl (.inl (s _ _ hh)), dl, nb, go⟩
  · exact .inr ⟨a, h, v, xs, fs, st, ds, rfl, T, .inl (.inl (s _ _ hh)), dl, nb, go⟩
def sp_wright (K : PySem.W.Frag) : Sp := fun vs H Q _ => ∃ (q L D Lc : Addr) (v : V) (xs ys : List V) (fs : List (Int × Int)) (st : Int × Int) (cs : List Int), vs = [.ref q, .ref L, v, .ref D, .ref Lc] ∧ WrI K H q L D Lc v xs ys fs st cs ∧ ∀ H', But q H H' → Q (.bl true) H'
theorem ok_wright {f : Addr} {fd : FuncData} (M : Blt mg) (Mx : Bltx mg) (ml : mg "list" = none) (msum : mg "sum" = none) (F : Fun K "_law_worsts_right" "_law_worsts_right" s__law_worsts_right f fd) (C__law_draw : Cal P w K mg base CX0 1 "_law_draw" ["_law_pot_here", "_law_many_here"] sp_draw) (C__law_low : Cal P w K mg base CX0 1 "_law_low" ["_law_top", "_law_bottom"] sp_low)
    (C__law_moved : Cal P w K mg base CX0 1 "_law_moved" ["_law_counted"] (sp_moved K)) (C__law_worst : Cal P w K mg base CX0 2 "_law_worst" ["_law_some", "_law_counted"] (sp_lworst K)) (C_worst_of : Cal P w K mg base CX0 9 "worst_of" ["weights", "step", "counted"] (sp_worstX K)) : FnG P w K mg base CX0 10 f fd ["_law_pot_here", "_law_weights_here", "_law_step_here", "_law_some", "_law_counted"] (sp_wright K) := by
  refine Gfun F sc__law_worsts_right (fun vs H Q E h => ?_) (fun cdv A outer s H vs Q E hg hr h => ?_)
  · obtain ⟨q, L, D, Lc, v, xs, ys, fs, st, cs, rfl, _⟩ := h
    rfl
  · obtain ⟨q, L, D, Lc, v, xs, ys, fs, st, cs, rfl, I0, k⟩ := h
    have h12 := I0.W.few
    have h1 := I0.W.one
    have hl := I0.l
    refine ⟨_, (pss_cons (ps_set (i := 5) sc__law_worsts_right.nd rfl (.inr rfl) (pe_g C__law_draw (hr.mono (by decide)) hg (pa_cons (pv 0) (pa_cons (pe_callB call_len_seq rfl M.len bt_len (pa_cons (pv 4) pa_nil)) pa_nil))))
      (pss_cons (ps_set (i := 6) sc__law_worsts_right.nd rfl (.inl rfl) (pe_op op_cat (pe_lc (own := [("_law_other", 8)]) (g := gName 8) rfl sc__law_worsts_right.nd (pi_list (pe_g C__law_moved (hr.mono (by decide)) hg (pa_cons (pv 4) pa_nil))) (blkOk_by (N := ["_law_pot_here", "_law_weights_here", "_law_step_here", "_law_some", "_law_counted", "_law_at", "_law_others_moved", "_law_others_here", "_law_other", "_law_handed", "_law_due", "_law_told", "_law_k"]) (sc := defScope s__law_worsts_right) (by decide +kernel)) (fun _ _ _ _ _ => pg_name (i := 8) sc__law_worsts_right.nd rfl (Or.inl rfl)) (fun _ _ _ _ _ => (pts_one (pt_cmpR op_ge (pe_callB (cr_minJ (K := K) rfl) rfl M.min bt_min (pa_cons (pv 8) pa_nil)) pe_int (nomark _)))) (fun _ _ _ _ _ => (pv 8))) (pe_lst (pa_cons (pv 4) pa_nil))))
      (pss_cons (ps_set (i := 7) sc__law_worsts_right.nd rfl (.inl rfl) (pe_lst (pa_cons (pe_revL (pv 4)) (pa_cons (pe_lc (own := [("_law_k", 12)]) (g := gName 12) (tt := tYes) rfl sc__law_worsts_right.nd (pi_range1 rfl M.range (pa_cons (pe_callB call_len_seq rfl M.len bt_len (pa_cons (pv 4) pa_nil)) pa_nil)) (blkOk_by (N := ["_law_pot_here", "_law_weights_here", "_law_step_here", "_law_some", "_law_counted", "_law_at", "_law_others_moved", "_law_others_here", "_law_other", "_law_handed", "_law_due", "_law_told", "_law_k"]) (sc := defScope s__law_worsts_right) (by decide +kernel)) (fun _ _ _ _ _ => pg_name (i := 12) sc__law_worsts_right.nd rfl (Or.inl rfl)) (fun _ _ _ _ _ => pts_nil) (fun _ _ _ _ _ => (pe_op op_mulW (pe_callB (cr_sumJ (K := K) rfl) rfl msum bt_sum (pa_cons (pv 4) pa_nil)) (pe_callTy call_int1 rfl M.int bt_int (pa_cons (pe_cmpR op_eq (pv 12) (pv 5) (nomark _)) pa_nil))))) pa_nil))))
      (pss_cons (ps_set (i := 7) sc__law_worsts_right.nd rfl (.inl rfl) (pe_op op_cat (pv 7) (pe_lst (pa_cons (pe_ix ix_list (pv 6) (pe_g C__law_draw (hr.mono (by decide)) hg (pa_cons (pv 0) (pa_cons (pe_callB call_len_seq rfl M.len bt_len (pa_cons (pv 6) pa_nil)) pa_nil))) (fun _ _ => rfl)) (pa_cons (pv 4) pa_nil)))))
      (pss_cons (ps_for PassesOwn.never rfl (pi_list (pv 7)) (pg_name (i := 8) sc__law_worsts_right.nd rfl (.inl rfl))
      (pss_cons (ps_set (i := 9) sc__law_worsts_right.nd rfl (.inl rfl) (pe_ix ix_list (pe_lst (pa_cons (pe_callTy call_list_of rfl ml bt_list (pa_cons (pv 8) pa_nil)) (pa_cons (pe_callTy call_tuple_of rfl Mx.tuple bt_tuple (pa_cons (pv 8) pa_nil)) pa_nil))) (pe_g C__law_draw (hr.mono (by decide)) hg (pa_cons (pv 0) (pa_cons pe_int pa_nil))) (fun _ _ => rfl)))
      (pss_cons (ps_set (i := 10) sc__law_worsts_right.nd rfl (.inl rfl) (pe_g C__law_worst (hr.mono (by decide)) hg (pa_cons (pv 3) (pa_cons (pv 8) pa_nil))))
      (pss_cons (ps_set (i := 11) sc__law_worsts_right.nd rfl (.inl rfl) (pe_g C_worst_of (hr.mono (by decide)) hg (pa_cons (pe_callTy call_list_of rfl ml bt_list (pa_cons (pv 1) pa_nil)) (pa_cons (pv 2) (pa_cons (pv 9) pa_nil)))))
      (pss_one (ps_if (PW.pt (pw_or (pt_cmpR op_ne (pe_callB (call_show hg hr) rfl M.repr bt_repr (pa_cons (pv 11) pa_nil)) (pe_callB (call_show hg hr) rfl M.repr bt_repr (pa_cons (pe_g C__law_low (hr.mono (by decide)) hg (pa_cons (pe_ix ix_tup (pv 10) pe_int (fun _ _ => rfl)) (pa_cons (pe_ix ix_tup (pv 10) pe_int (fun _ _ => rfl)) pa_nil))) pa_nil)) (nomark _)) (pw_or1 (pt_cmpR (op_neD hr.units) (pe_callTy call_list_of rfl ml bt_list (pa_cons (pv 9) pa_nil)) (pv 8) (nomark _)))))
      (pss_one (ps_ret pe_bl))
      pss_nil))))))
      (pss_one (ps_ret pe_bl))))))), ?_⟩
    refine ⟨_, rfl, _, rfl, Lc, cs.map V.int, rfl, .inl (.inl (.inl I0.c)), q, _, rfl, by rw [List.length_map]; omega, by rw [List.length_map]; exact Nat.lt_of_le_of_lt (show ((cs.length : Int)).natAbs ≤ 12 by omega) (by decide), I0.P, fun at_ H1 r0 r1 P1 b1 => ?_⟩
    have I1 := I0.but b1 P1
    refine ⟨_, rfl, Lc, cs, rfl, I1.c, by omega, I1.b, fun H2 D2 us s2 n2 f2 l2 N2 => ?_⟩
    have hq1 : ∀ p : Addr, H1 p = none → p ≠ q := fun p n z => by
      obtain ⟨x, y, y0, yl, e⟩ := P1
      rw [z, e] at n
      cases n
    have ok3 : ∀ ds, OkC cs.length cs.sum ds → ds.length = fs.length ∧ CsB ds := fun ds h => ⟨h.1.trans hl, fun c hc => Nat.lt_of_lt_of_le (h.2.2 c hc) (Nat.pow_le_pow_right (by decide) (by decide))⟩
    have okc : cs.length = fs.length ∧ CsB cs := ⟨hl, fun c hc => Nat.lt_of_lt_of_le (I0.b c hc) (Nat.pow_le_pow_right (by decide) (by decide))⟩
    have I2 := I1.same s2
    refine ⟨D2, rfl, ⟨us, .inl (.inl f2)⟩, fun D3 n3 => lc_list (xs := us) (fun t H' => Same H2 H' ∧ ∃ zs, H' D3 = some (.lst zs) ∧ zs.length ≤ t ∧ RowsC H2 q fs.length zs) ⟨same_new n3, [], upd_same, Nat.le_refl _, fun _ h => nomatch h⟩ (fun t H' _ h => .inl (.inl (h.1 _ _ f2))) ?_ ?_⟩
    · rintro t x H7 hx ⟨s7, zs, e7, l7, N7⟩
      obtain ⟨px, ds, rfl, npx, hpx, hok⟩ := N2 x (List.mem_of_getElem? hx)
      have htl := (List.getElem?_eq_some_iff.mp hx).1
      refine ⟨rfl, _, rfl, px, ds, rfl, .inl (.inl (s7 _ _ hpx)), by have := hok.1; omega, fun m hm hmin => ⟨_, _, rfl, rfl, _, rfl, ite2 (fun e => ?_) (fun e => ?_)⟩⟩
      · refine ⟨_, rfl, zs, e7, by rw [sizeLine_eq]; omega, fun b o e => ?_, zs ++ [.ref px], upd_same, by rw [List.length_append, List.length_singleton]; omega, N7.app (RowsC.one (hq1 _ npx) hpx (ok3 _ hok))⟩
        rw [upd_ne (ne_of_none e n3)]
        exact s7 _ _ e
      · exact ⟨s7, zs, e7, by omega, N7⟩
    rintro H3 ⟨s3, zs, e3, l3, N3⟩
    refine ⟨_, rfl, len_show (Nat.le_of_ble_eq_true rfl), fun p4 n4 => ?_⟩
    have s4 : Same H3 (L2.upd H3 p4 (.lst [.ref Lc])) := same_new n4
    have e4 : L2.upd H3 p4 (.lst [.ref Lc]) p4 = some (.lst [.ref Lc]) := upd_same
    generalize L2.upd H3 p4 (.lst [.ref Lc]) = H4 at s4 e4 ⊢
    refine ⟨D3, p4, zs, _, rfl, rfl, s4 _ _ e3, e4, by rw [sizeLine_eq, List.length_singleton]; omega, fun OM nOM => ?_⟩
    have s5 : Same H4 (L2.upd H4 OM (.lst (zs ++ [.ref Lc]))) := same_new nOM
    have e5 : L2.upd H4 OM (.lst (zs ++ [.ref Lc])) OM = some (.lst (zs ++ [.ref Lc])) := upd_same
    generalize L2.upd H4 OM (.lst (zs ++ [.ref Lc])) = H5 at s5 e5 ⊢
    have s25 := s3.trans (s4.trans s5)
    have I5 := I2.same s25
    have N5 : RowsC H5 q fs.length (zs ++ [.ref Lc]) := (N3.same s25).app (RowsC.one I5.nc I5.c okc)
    refine ⟨_, rfl, Lc, cs.map V.int, rfl, .inl (.inl I5.c), fun p6 n6 => ?_⟩
    rw [← List.map_reverse]
    have s6 : Same H5 (L2.upd H5 p6 (.lst (cs.reverse.map V.int))) := same_new n6
    have e6 : L2.upd H5 p6 (.lst (cs.reverse.map V.int)) p6 = some (.lst (cs.reverse.map V.int)) := upd_same
    generalize L2.upd H5 p6 (.lst (cs.reverse.map V.int)) = H6 at s6 e6 ⊢
    have I6 := I5.same s6
    refine ⟨_, rfl, Lc, cs.map V.int, rfl, .inl (.inl (.inl I6.c)), _, rfl, by rw [List.length_map]; omega, by rw [List.length_map]; omega, fun D7 n7 => ?_⟩
    refine lc_range (lo := 0) (n := Int.toNat ((cs.map V.int).length : Int)) (fun t H' => Same H6 H' ∧ ∃ ds : List Int, H' D7 = some (.lst (ds.map V.int)) ∧ ds.length = t ∧ CsB ds) ⟨same_new n7, [], upd_same, rfl, fun _ h => nomatch h⟩ ?_ ?_
    · rintro t H8 ht ⟨s8, ds, e8, l8, b8⟩
      rw [List.length_map] at ht
      have c8 := s8 _ _ I6.c
      refine ⟨rfl, _, rfl, Lc, cs, rfl, .inl (.inl c8), _, rfl, _, rfl, rfl, .inr ⟨_, rfl, _, _, rfl, rfl, ?_, _, e8, ?_, ?_, ds ++ [cs.sum * (if decide (V.int (0 + (t : Int)) = V.int at_) = true then 1 else 0)], ?_, ?_, ?_⟩⟩
      · exact Sm.mulW (Nat.lt_of_lt_of_le I0.sb (Nat.pow_le_pow_right (by decide) (by decide))) (by split <;> exact Nat.lt_of_lt_of_le (by decide : _ < 2 ^ 1) (Nat.pow_le_pow_right (by decide) (by decide : 1 ≤ 900)))
      · rw [List.length_map, sizeLine_eq]
        omega
      · exact fun b o e => by
          rw [upd_ne (ne_of_none e n7)]
          exact s8 _ _ e
      · rw [upd_same, List.map_append]
        rfl
      · rw [List.length_append, List.length_singleton, l8]
      · intro c hc
        rcases List.mem_append.mp hc with h | h
        · exact b8 c h
        · obtain rfl := List.mem_singleton.mp h
          have := I0.sb
          have p : (2 : Nat) ^ 91 ≤ 2 ^ 100 := Nat.pow_le_pow_right (by decide) (by decide)
          split
          · rw [Int.mul_one]
            omega
          · rw [Int.mul_zero]
            exact Nat.lt_of_lt_of_le (by decide : (0 : Int).natAbs < 1) Nat.one_le_two_pow
    rintro H7 ⟨s7, ds7, e7, l7, b7⟩
    rw [List.length_map] at l7
    have I7 := I6.same s7
    have n5' : ∀ {p : Addr} {H' : Hp}, Same H1 H' → H' p = none → p ≠ q := fun s n => hq1 _ (same_none s n)
    have s15 : Same H1 H5 := s2.trans s25
    have s16 := s15.trans s6
    refine ⟨len_show (Nat.le_of_ble_eq_true rfl), fun E1 nE1 => ?_⟩
    have s8 : Same H7 (L2.upd H7 E1 (.lst [.ref p6, .ref D7])) := same_new nE1
    have e8 : L2.upd H7 E1 (.lst [.ref p6, .ref D7]) E1 = some (.lst [.ref p6, .ref D7]) := upd_same
    generalize L2.upd H7 E1 (.lst [.ref p6, .ref D7]) = H8 at s8 e8 ⊢
    have I8 := I7.same s8
    have okr : cs.reverse.length = fs.length ∧ CsB cs.reverse := ⟨by rw [List.length_reverse]; exact hl, fun c hc => okc.2 c (List.mem_reverse.mp hc)⟩
    have N8 : RowsC H8 q fs.length [.ref p6, .ref D7] := (RowsC.one (n5' s15 n6) (s8 _ _ (s7 _ _ e6)) okr).app (RowsC.one (n5' s16 n7) (s8 _ _ e7) ⟨by omega, b7⟩)
    have s58 : Same H5 H8 := s6.trans (s7.trans s8)
    have e58 := s58 _ _ e5
    have lz : (zs ++ [V.ref Lc]).length ≤ 145 := by rw [List.length_append, List.length_singleton]; omega
    have lz0 : 0 < (zs ++ [V.ref Lc]).length := by rw [List.length_append, List.length_singleton]; omega
    refine ⟨_, rfl, _, rfl, _, rfl, _, rfl, OM, _, rfl, .inl (.inl (.inl e58)), q, _, rfl, by omega, Nat.lt_of_le_of_lt (show (((zs ++ [V.ref Lc]).length : Int)).natAbs ≤ 145 by omega) (by decide), I8.P, fun r H9 r0 r1 P9 b9 => ?_⟩
    have I9 := I8.but b9 P9
    have nOMq : OM ≠ q := n5' (s2.trans (s3.trans s4)) nOM
    have nE1q : E1 ≠ q := n5' (s16.trans s7) nE1
    have N59 := ((N5.same s58).but b9)
    obtain ⟨vr, hvr, hvm⟩ : ∃ vr, atI (zs ++ [V.ref Lc]) r = some vr ∧ vr ∈ zs ++ [V.ref Lc] := by
      obtain ⟨j, rfl⟩ : ∃ j : Nat, r = (j : Int) := ⟨r.toNat, by omega⟩
      have hj : j < (zs ++ [V.ref Lc]).length := by omega
      exact ⟨_, atI_nat (List.getElem?_eq_getElem hj), List.getElem_mem hj⟩
    obtain ⟨pr, dr, rfl, nprq, hpr, okr2⟩ := N59 vr hvm
    refine ⟨OM, _, _, _, rfl, rfl, .inl (.inl (b9 _ _ nOMq e58)), hvr, _, rfl, len_show (Nat.le_of_ble_eq_true rfl), fun p10 n10 => ?_⟩
    have s10 : Same H9 (L2.upd H9 p10 (.lst [.ref pr, .ref Lc])) := same_new n10
    have e10 : L2.upd H9 p10 (.lst [.ref pr, .ref Lc]) p10 = some (.lst [.ref pr, .ref Lc]) := upd_same
    generalize L2.upd H9 p10 (.lst [.ref pr, .ref Lc]) = H10 at s10 e10 ⊢
    refine ⟨E1, p10, _, _, rfl, rfl, s10 _ _ (b9 _ _ nE1q e8), e10, Nat.le_of_ble_eq_true rfl, fun E3 nE3 => ?_⟩
    have s11 : Same H10 (L2.upd H10 E3 (.lst ([.ref p6, .ref D7] ++ [.ref pr, .ref Lc]))) := same_new nE3
    have e11 : L2.upd H10 E3 (.lst ([.ref p6, .ref D7] ++ [.ref pr, .ref Lc])) E3 = some (.lst ([.ref p6, .ref D7] ++ [.ref pr, .ref Lc])) := upd_same
    have nE3q : E3 ≠ q := pot_ne (pot_same P9 s10) nE3
    generalize L2.upd H10 E3 (.lst ([.ref p6, .ref D7] ++ [.ref pr, .ref Lc])) = H11 at s11 e11 ⊢
    have s911 := s10.trans s11
    have I11 := I9.same s911
    have N11 : RowsC H11 q fs.length ([.ref p6, .ref D7] ++ [.ref pr, .ref Lc]) := ((N8.but b9).same s911).app ((RowsC.one nprq (s911 _ _ hpr) okr2).app (RowsC.one I11.nc I11.c okc))
    have b011 : But q H H11 := fun b o nb e => s911 _ _ (b9 _ _ nb (s58 _ _ (s15 _ _ (b1 _ _ nb e))))
    generalize [V.ref p6, .ref D7] ++ [.ref pr, .ref Lc] = es at e11 N11
    refine ⟨_, rfl, E3, rfl, ⟨es, .inl (.inl e11)⟩, ?_⟩
    refine for_list (K := K) (a := E3) (xs := es) (fun i σ H' => ∃ (y1 y2 y3 y4 y5 : Option V), σ = [some (.ref q), some (.ref L), some v, some (.ref D), some (.ref Lc), some (.int at_), some (.ref OM), some (.ref E3), y1, y2, y3, y4, y5] ∧ But q H11 H' ∧ Pot H' q) ⟨_, _, _, _, _, rfl, But.rfl, I11.P⟩ (fun i σ H' _ h => ?_) ?_ ?_
    · obtain ⟨y1, y2, y3, y4, y5, rfl, b, _⟩ := h
      exact .inl (.inl (b _ _ nE3q e11))
    · rintro i x σ H12 hx ⟨y1, y2, y3, y4, y5, rfl, b12, P12⟩
      obtain ⟨px, ds, rfl, npx, hpx, dl, db⟩ := N11 x (List.mem_of_getElem? hx)
      have I12 := I11.but b12 P12
      have x12 := b12 _ _ npx hpx
      have T12 : Fit K H12 L v xs fs st := ⟨.inl (.inl (.inl I12.S.l)), I12.S.at_, I12.W, I12.v, I12.s, I12.m⟩
      have am := aims_am I12.W I12.s
      have aF : AllF (aimsF fs st) := fun f hf => (am f hf).lo
      have aB : ∀ f ∈ aimsF fs st, Bt 636 f := fun f hf => (am f hf).bt
      have dl' : ds.length = (aimsF fs st).length := dl.trans (aims_len _ _).symm
      refine ⟨_, rfl, px, _, rfl, .inl (.inl (.inl x12)), fun p13 n13 => ?_⟩
      have s13 : Same H12 (L2.upd H12 p13 (.lst (ds.map V.int))) := same_new n13
      have e13 : L2.upd H12 p13 (.lst (ds.map V.int)) p13 = some (.lst (ds.map V.int)) := upd_same
      have n13q : p13 ≠ q := pot_ne P12 n13
      generalize L2.upd H12 p13 (.lst (ds.map V.int)) = H13 at s13 e13 ⊢
      refine ⟨_, rfl, px, _, rfl, .inl ⟨.inl (.inl (s13 _ _ x12)), fun p14 n14 => ?_⟩⟩
      have s14 : Same H13 (L2.upd H13 p14 (.tup (ds.map V.int))) := same_new n14
      have e14 : L2.upd H13 p14 (.tup (ds.map V.int)) p14 = some (.tup (ds.map V.int)) := upd_same
      have n14q : p14 ≠ q := pot_ne (pot_same P12 s13) n14
      generalize L2.upd H13 p14 (.tup (ds.map V.int)) = H14 at s14 e14 ⊢
      refine ⟨len_show (Nat.le_of_ble_eq_true rfl), fun p15 n15 => ?_⟩
      have s15' : Same H14 (L2.upd H14 p15 (.lst [.ref p13, .ref p14])) := same_new n15
      have e15 : L2.upd H14 p15 (.lst [.ref p13, .ref p14]) p15 = some (.lst [.ref p13, .ref p14]) := upd_same
      have P14 := pot_same (pot_same P12 s13) s14
      have n15q : p15 ≠ q := pot_ne P14 n15
      have P15 := pot_same P14 s15'
      generalize L2.upd H14 p15 (.lst [.ref p13, .ref p14]) = H15 at s15' e15 P15 ⊢
      refine ⟨_, rfl, q, 2, rfl, by decide, by decide, P15, fun r' H16 r0' r1' P16 b16 => ?_⟩
      have s1215 := s13.trans (s14.trans s15')
      have b1216 : But q H12 H16 := fun b o nb e => b16 _ _ nb (s1215 _ _ e)
      have I16 := I12.but b1216 P16
      have x16 := b1216 _ _ npx x12
      have T16 : Fit K H16 L v xs fs st := ⟨.inl (.inl (.inl I16.S.l)), I16.S.at_, I16.W, I16.v, I16.s, I16.m⟩
      have e16l : H16 p13 = some (.lst (ds.map V.int)) := b16 _ _ n13q (s15' _ _ (s14 _ _ e13))
      have e16t : H16 p14 = some (.tup (ds.map V.int)) := b16 _ _ n14q (s15' _ _ e14)
      obtain ⟨hd, hh, hat⟩ : ∃ h : Addr, (H16 h = some (.lst (ds.map V.int)) ∨ H16 h = some (.tup (ds.map V.int))) ∧ atI [V.ref p13, V.ref p14] r' = some (.ref h) := by
        by_cases hr0 : r' = 0
        · exact ⟨p13, .inl e16l, by rw [hr0]; rfl⟩
        · have hr1 : r' = 1 := by omega
          exact ⟨p14, .inr e16t, by rw [hr1]; rfl⟩
      refine ⟨p15, _, _, _, rfl, rfl, .inl (.inl (b16 _ _ n15q e15)), hat, ?_⟩
      refine ⟨_, rfl, _, rfl, D, px, ys, aimsF fs st, ds, rfl, .inl (.inl I16.d), I16.y, aF, aB, .inl (.inl x16), dl', db, fun H17 du s17 hdu => ?_⟩
      refine ⟨_, rfl, L, _, rfl, .inl (.inl (.inl (s17 _ _ I16.S.l))), fun p18 n18 => ?_⟩
      have s18 : Same H17 (L2.upd H17 p18 (.lst xs)) := same_new n18
      have e18 : L2.upd H17 p18 (.lst xs) p18 = some (.lst xs) := upd_same
      generalize L2.upd H17 p18 (.lst xs) = H18 at s18 e18 ⊢
      have s1618 := s17.trans s18
      have I18 := I16.same s1618
      have T18 : Fit K H18 p18 v xs fs st := ⟨.inl (.inl (.inl e18)), I18.S.at_, I18.W, I18.v, I18.s, I18.m⟩
      have nb := near_b aF aB db
      refine ⟨_, rfl, _, rfl, ?_⟩
      refine worstX_of hh s1618 T18 dl nb fun H19 u s19 hu => ?_
      obtain ⟨pu, rfl, hpu⟩ := hu
      have hu : AtK K H19 (.ref pu) (worst (aimsF fs st) ds) := ⟨pu, rfl, hpu⟩
      obtain ⟨pd, rfl, hpd⟩ := hdu
      have s1619 := s1618.trans s19
      have s1719 := s18.trans s19
      have wfb := worst_ok (k := 800) aF (by decide) nb ((aimsF fs st).zip ds).length
      rw [List.take_length] at wfb
      have wfb' : IsF (worst (aimsF fs st) ds) ∧ Bt 800 (worst (aimsF fs st) ds) ∧ 0 ≤ (worst (aimsF fs st) ds).1 := wfb
      have shw : Showy (tD (worst (aimsF fs st) ds)) := Ft.showy (tD_ft (k := 800) (by decide) (by decide) wfb'.2.1) (by decide) (by decide)
      obtain ⟨rl1, rl2⟩ := raw_low (cs := ds) aF
      obtain ⟨_, rwb⟩ := rw_ok (cs := ds) aF aB db ((aimsF fs st).zip ds).length
      rw [List.take_length] at rwb
      have rwb' : Bt 740 (rworst (aimsF fs st) ds) := rwb
      refine ⟨_, rfl, pu, _, rfl, hu.dp, shw.sh, shw.nd, shw.dp, shw.ln, ?_⟩
      have hd19 : SqT K H19 pd [.int (rworst (aimsF fs st) ds).1, .int (rworst (aimsF fs st) ds).2] := sm_t s1719 hpd
      refine ⟨_, rfl, pd, _, _, _, rfl, rfl, hd19, rfl, _, rfl, pd, _, _, _, rfl, rfl, hd19, rfl, ?_⟩
      refine ⟨_, _, rfl, by omega, (rwb'.sm (by decide)).2.mid, fun H20 p20 s20 e20 => ?_⟩
      have e20' : low (rworst (aimsF fs st) ds).1 (rworst (aimsF fs st) ds).2 = worst (aimsF fs st) ds := rl1
      rw [e20'] at e20
      have a20 : AtK K H20 (.ref p20) (worst (aimsF fs st) ds) := AtK.of e20
      refine ⟨p20, _, rfl, a20.dp, shw.sh, shw.nd, shw.dp, shw.ln, rfl, _, rfl, iteNS rfl ?_⟩
      have dpI : ∀ (H' : Hp) (l : Addr), H' l = some (.lst (ds.map V.int)) → Dp K H' (.ref l) (.list (ds.map PyData.int)) := fun H' l e => .lst (.inl (.inl e)) (ints_dp _)
      have s1620 := s1619.trans s20
      have hh20 : SqL K H20 hd (ds.map V.int) ∨ SqT K H20 hd (ds.map V.int) := hh.elim (fun h => .inl (.inl (.inl (s1620 _ _ h)))) (fun h => .inr (.inl (.inl (s1620 _ _ h))))
      refine ⟨_, rfl, hd, ds.map V.int, rfl, hh20, fun p21 n21 => ?_⟩
      have s21 : Same H20 (L2.upd H20 p21 (.lst (ds.map V.int))) := same_new n21
      have e21 : L2.upd H20 p21 (.lst (ds.map V.int)) p21 = some (.lst (ds.map V.int)) := upd_same
      generalize L2.upd H20 p21 (.lst (ds.map V.int)) = H21 at s21 e21 ⊢
      have s1621 := s1620.trans s21
      refine ⟨_, rfl, _, _, dpI H21 p21 e21, dpI H21 px (s1621 _ _ x16), ints_shaped _, ints_shaped _, ?_⟩
      rw [ints_eqv]
      refine ⟨_, rfl, iteF ?_⟩
      exact ⟨_, _, _, _, _, rfl, fun b o nb e => s1621 _ _ (b1216 _ _ nb (b12 _ _ nb e)), pot_same I16.P s1621⟩
    · rintro σ H12 ⟨y1, y2, y3, y4, y5, rfl, b12, P12⟩
      exact k H12 fun b o nb e => b12 _ _ nb (b011 _ _ nb e)

end
end Lf

set_option Elab.async false
set_option linter.all false
set_option maxRecDepth 100000
set_option maxHeartbeats 4000000
set_option exponentiation.threshold 3000
namespace Lf
open PySem PySem.Spec PyProof.Rows L2
theorem call_isiJ {X : Cx} {K : PySem.W.Frag} (hK : X.K = K := by rfl) : CallR X (.builtin "isinstance") (rIsi K) := hK ▸ call_isi
theorem le_sum : ∀ cs : List Int, (∀ c ∈ cs, 0 ≤ c) → 0 ≤ cs.sum ∧ ∀ c ∈ cs, c ≤ cs.sum
  | [], _ => ⟨Int.le_refl _, fun _ h => nomatch h⟩
  | a :: l, h => by
    obtain ⟨i1, i2⟩ := le_sum l fun c hc => h c (List.mem_cons_of_mem _ hc)
    have a0 := h a List.mem_cons_self
    rw [List.sum_cons]
    refine ⟨by omega, fun c hc => ?_⟩
    rcases List.mem_cons.mp hc with rfl | hc
    · omega
    · have := i2 c hc
      omega
theorem tD_eqv (f : Int × Int) : PyData.eqv (tD f) (tD f) = true := by rw [eqv_tD, decide_eq_true rfl]
section
variable {P : Program} {w : World} {K : PySem.W.Frag} {mg : Str → Option Value} {base : Heap}
theorem cnt_nn {fs : List (Int × Int)} {st : Int × Int} (aF : AllF (aimsF fs st)) (an : ∀ f ∈ aimsF fs st, 0 ≤ f.1) : ∀ c ∈ cnt fs st, 0 ≤ c := by
  intro c hc
  obtain ⟨k, hk, rfl⟩ := List.mem_map.mp hc
  have hl : k < (aimsF fs st).length := by rw [aims_len]; exact List.mem_range.mp hk
  have hm := List.getElem_mem hl
  have e : (aimsF fs st).getD k f0 = (aimsF fs st)[k] := by rw [List.getD_eq_getElem?_getD, List.getElem?_eq_getElem hl]; rfl
  have := fl_nn (aF _ hm) (an _ hm)
  unfold cntAt
  rw [e]
  split <;> omega

/-! ### _law_right -/
theorem sc__law_right : FnScope ["_law_pot_here", "_law_weights_here", "_law_step_here", "_law_many_here", "_law_used", "_law_some", "_law_own", "_law_others_here", "_law_counted", "_law_rest", "_law_worst_here", "_law_other", "_law_one"] ["_law_pot_here", "_law_weights_here", "_law_step_here"] (defScope s__law_right) := ⟨rfl, rfl, rfl, by decide +kernel, rfl, by decide +kernel, by decide +kernel⟩
def sp_right (K : PySem.W.Frag) : Sp := fun vs H Q _ => ∃ (q L : Addr) (v : V) (xs : List V) (fs : List (Int × Int)) (st : Int × Int), vs = [.ref q, .ref L, v] ∧ Pot H q ∧ Ws K H q L xs fs ∧ Wts fs ∧ AtK K H v st ∧ Wt st ∧ many fs st ≠ 0 ∧ ∀ H', But q H H' → Q (.bl true) H'
theorem ok_right {f : Addr} {fd : FuncData} (M : Blt mg) (Mx : Bltx mg) (ml : mg "list" = none) (msum : mg "sum" = none) (F : Fun K "_law_right" "_law_right" s__law_right f fd) (C_rounded : Cal P w K mg base CX0 11 "rounded" ["weights", "step"] (sp_rounded K)) (C__law_many : Cal P w K mg base CX0 4 "_law_many" ["_law_weights_here", "_law_step_here"] (sp_lmany K)) (C__law_low : Cal P w K mg base CX0 1 "_law_low" ["_law_top", "_law_bottom"] sp_low) (C__law_less : Cal P w K mg base CX0 1 "_law_less" ["_law_one", "_law_other"] (sp_is_less K))
    (C__law_sum : Cal P w K mg base CX0 2 "_law_sum" ["_law_one", "_law_other"] (sp_plus K)) (C__law_total : Cal P w K mg base CX0 3 "_law_total" ["_law_some"] (sp_togL K)) (C__law_aims : Cal P w K mg base CX0 5 "_law_aims" ["_law_weights_here", "_law_step_here"] (sp_laims K)) (C__law_worst : Cal P w K mg base CX0 2 "_law_worst" ["_law_some", "_law_counted"] (sp_lworst K)) (C__law_others : Cal P w K mg base CX0 2 "_law_others" ["_law_counted"] (sp_others K)) (C__law_worsts_right : Cal P w K mg base CX0 10 "_law_worsts_right" ["_law_pot_here", "_law_weights_here", "_law_step_here", "_law_some", "_law_counted"] (sp_wright K)) : FnG P w K mg base CX0 12 f fd ["_law_pot_here", "_law_weights_here", "_law_step_here"] (sp_right K) := by
  refine Gfun F sc__law_right (fun vs H Q E h => ?_) (fun cdv A outer s H vs Q E hg hr h => ?_)
  · obtain ⟨q, L, v, xs, fs, st, rfl, _⟩ := h
    rfl
  · obtain ⟨q, L, v, xs, fs, st, rfl, hP, S, W, hv, hs, hm, k⟩ := h
    have h12 := W.few
    have h1 := W.one
    have am := aims_am W hs
    have aF : AllF (aimsF fs st) := fun f hf => (am f hf).lo
    have an : ∀ f ∈ aimsF fs st, 0 ≤ f.1 := fun f hf => (am f hf).nn
    have aB : ∀ f ∈ aimsF fs st, Bt 636 f := fun f hf => (am f hf).bt
    have hcl := cnt_len fs st
    have hcs := cnt_sum W aF
    have c0 := cnt_nn aF an
    have hmb := many_lt W hs
    have hmn := many_nn W hs
    have cb : ∀ c ∈ cnt fs st, c.natAbs < 2 ^ 90 := fun c hc => by
      have h1 := (le_sum _ c0).2 c hc
      have h2 := c0 c hc
      rw [hcs] at h1
      omega
    have nr := near_cnt W hs
    have wfb := worst_ok (k := 800) aF (by decide) nr ((aimsF fs st).zip (cnt fs st)).length
    rw [List.take_length] at wfb
    have wfb' : IsF (worst (aimsF fs st) (cnt fs st)) ∧ Bt 800 (worst (aimsF fs st) (cnt fs st)) ∧ 0 ≤ (worst (aimsF fs st) (cnt fs st)).1 := wfb
    have less1 := no_whole_off W aF an
    refine ⟨_, (pss_cons (ps_asg (pe_g C_rounded (hr.mono (by decide)) hg (pa_cons (pe_callTy call_list_of rfl ml bt_list (pa_cons (pv 1) pa_nil)) (pa_cons (pv 2) pa_nil))) (pg_tup rfl (pgs_cons (pg_name (i := 8) sc__law_right.nd rfl (.inl rfl)) (pgs_cons (pg_name (i := 9) sc__law_right.nd rfl (.inl rfl)) (pgs_cons (pg_name (i := 10) sc__law_right.nd rfl (.inl rfl)) pgs_nil)))))
      (pss_cons (ps_if (pt_not (pt_val (pe_callB (cr_all rfl) rfl M.all bt_all (pa_cons (pe_lc (own := [("_law_one", 12)]) (g := gName 12) (tt := tYes) rfl sc__law_right.nd (pi_list (pv 8)) (blkOk_by (N := ["_law_pot_here", "_law_weights_here", "_law_step_here", "_law_many_here", "_law_used", "_law_some", "_law_own", "_law_others_here", "_law_counted", "_law_rest", "_law_worst_here", "_law_other", "_law_one"]) (sc := defScope s__law_right) (by decide +kernel)) (fun _ _ _ _ _ => pg_name (i := 12) sc__law_right.nd rfl (Or.inl rfl)) (fun _ _ _ _ _ => pts_nil) (fun _ _ _ _ _ => (pe_and (pe_callB (call_isiJ (K := K)) rfl Mx.isinstance bt_isinstance (pa_cons (pv 12) (pa_cons (pe_bltn (v := .ty "int") rfl M.int bt_int rfl) pa_nil))) (pe_and (pe_not (pe_callB (call_isiJ (K := K)) rfl Mx.isinstance bt_isinstance (pa_cons (pv 12) (pa_cons (pe_bltn (v := .ty "bool") rfl Mx.bool bt_bool rfl) pa_nil)))) (pe_one (pe_cmpR op_ge (pv 12) pe_int (nomark _))))))) pa_nil))))
      (pss_one (ps_ret pe_bl))
      pss_nil)
      (pss_cons (ps_set (i := 3) sc__law_right.nd rfl (.inl rfl) (pe_g C__law_many (hr.mono (by decide)) hg (pa_cons (pv 1) (pa_cons (pv 2) pa_nil))))
      (pss_cons (ps_if (PW.pt (pw_or (pt_cmpR op_ne (pe_callB call_len_seq rfl M.len bt_len (pa_cons (pv 8) pa_nil)) (pe_callB call_len_seq rfl M.len bt_len (pa_cons (pv 1) pa_nil)) (nomark _)) (pw_or1 (pt_cmpR op_ne (pe_callB (cr_sumJ (K := K) rfl) rfl msum bt_sum (pa_cons (pv 8) pa_nil)) (pv 3) (nomark _)))))
      (pss_one (ps_ret pe_bl))
      pss_nil)
      (pss_cons (ps_set (i := 4) sc__law_right.nd rfl (.inl rfl) (pe_g C__law_low (hr.mono (by decide)) hg (pa_cons (pe_op op_mulW (pe_ix ix_tup (pv 2) pe_int (fun _ _ => rfl)) (pv 3)) (pa_cons (pe_ix ix_tup (pv 2) pe_int (fun _ _ => rfl)) pa_nil))))
      (pss_cons (ps_if (PW.pt (pw_or (pt_not (pt_val (pe_g C__law_less (hr.mono (by decide)) hg (pa_cons (pv 9) (pa_cons (pv 2) pa_nil))))) (pw_or1 (pt_cmpR (op_neD hr.units) (pe_g C__law_sum (hr.mono (by decide)) hg (pa_cons (pv 4) (pa_cons (pv 9) pa_nil))) (pe_g C__law_total (hr.mono (by decide)) hg (pa_cons (pv 1) pa_nil)) (nomark _)))))
      (pss_one (ps_ret pe_bl))
      pss_nil)
      (pss_cons (ps_set (i := 5) sc__law_right.nd rfl (.inr rfl) (pe_g C__law_aims (hr.mono (by decide)) hg (pa_cons (pv 1) (pa_cons (pv 2) pa_nil))))
      (pss_cons (ps_set (i := 6) sc__law_right.nd rfl (.inr rfl) (pe_g C__law_worst (hr.mono (by decide)) hg (pa_cons (pv 5) (pa_cons (pv 8) pa_nil))))
      (pss_cons (ps_if (PW.pt (pw_or (pt_cmpR (op_neD hr.units) (pe_g C__law_low (hr.mono (by decide)) hg (pa_cons (pe_ix ix_tup (pv 6) pe_int (fun _ _ => rfl)) (pa_cons (pe_ix ix_tup (pv 6) pe_int (fun _ _ => rfl)) pa_nil))) (pv 10) (nomark _)) (pw_or1 (pt_not (pt_val (pe_g C__law_less (hr.mono (by decide)) hg (pa_cons (pv 6) (pa_cons (pe_tup (pa_cons pe_int (pa_cons pe_int pa_nil))) pa_nil))))))))
      (pss_one (ps_ret pe_bl))
      pss_nil)
      (pss_cons (ps_setLc (i := 7) (own := [("_law_other", 11)]) (g := gName 11) rfl sc__law_right.nd rfl rfl (sw_true rfl rfl rfl (by decide +kernel)) (pi_list (pe_g C__law_others (hr.mono (by decide)) hg (pa_cons (pv 8) pa_nil))) (blkOk_by (N := ["_law_pot_here", "_law_weights_here", "_law_step_here", "_law_many_here", "_law_used", "_law_some", "_law_own", "_law_others_here", "_law_counted", "_law_rest", "_law_worst_here", "_law_other", "_law_one"]) (sc := defScope s__law_right) (by decide +kernel)) (fun _ _ _ _ _ => pg_name (i := 11) sc__law_right.nd rfl (Or.inl rfl)) (fun _ _ _ _ _ => (pts_one (pt_cmpR op_ge (pe_callB (cr_minJ (K := K) rfl) rfl M.min bt_min (pa_cons (pv 11) pa_nil)) pe_int (nomark _)))) (fun _ _ _ _ _ => (pv 11)))
      (pss_cons (ps_if (pt_cmpR (op_neD hr.units) (pe_lc (own := [("_law_other", 11)]) (g := gName 11) rfl sc__law_right.nd (pi_list (pv 7)) (blkOk_by (N := ["_law_pot_here", "_law_weights_here", "_law_step_here", "_law_many_here", "_law_used", "_law_some", "_law_own", "_law_others_here", "_law_counted", "_law_rest", "_law_worst_here", "_law_other", "_law_one"]) (sc := defScope s__law_right) (by decide +kernel)) (fun _ _ _ _ _ => pg_name (i := 11) sc__law_right.nd rfl (Or.inl rfl)) (fun _ _ _ _ _ => (pts_one (pt_val (pe_g C__law_less (hr.mono (by decide)) hg (pa_cons (pe_g C__law_worst (hr.mono (by decide)) hg (pa_cons (pv 5) (pa_cons (pv 11) pa_nil))) (pa_cons (pv 6) pa_nil)))))) (fun _ _ _ _ _ => (pv 11))) (pe_lst pa_nil) (nomark _))
      (pss_one (ps_ret pe_bl))
      pss_nil)
      (pss_one (ps_ret (pe_g C__law_worsts_right (hr.mono (by decide)) hg (pa_cons (pv 0) (pa_cons (pv 1) (pa_cons (pv 2) (pa_cons (pv 5) (pa_cons (pv 8) pa_nil))))))))))))))))))), ?_⟩
    refine ⟨_, rfl, L, _, rfl, .inl (.inl (.inl S.l)), fun p1 n1 => ?_⟩
    have s1 : Same H (L2.upd H p1 (.lst xs)) := same_new n1
    have e1 : L2.upd H p1 (.lst xs) p1 = some (.lst xs) := upd_same
    generalize L2.upd H p1 (.lst xs) = H1 at s1 e1 ⊢
    refine ⟨_, rfl, p1, v, xs, fs, st, rfl, ⟨.inl (.inl (.inl e1)), S.at_.same s1, W, hv.same s1, hs, hm⟩, fun H2 pt D v1 v2 s2 nD np e2 f2 a2 b2 => ?_⟩
    have s02 := s1.trans s2
    have nDq : D ≠ q := pot_ne (pot_same hP s1) nD
    refine ⟨pt, _, rfl, .inl (.inl e2), rfl, _, _, rfl, _, _, rfl, _, _, rfl, rfl, ?_⟩
    refine ⟨_, rfl, D, rfl, ⟨_, .inl (.inl f2)⟩, fun D3 n3 => lc_list (xs := (cnt fs st).map V.int) (fun i H' => Same H2 H' ∧ H' D3 = some (.lst ((List.replicate i true).map V.bl))) ⟨same_new n3, upd_same⟩ (fun i H' _ h => .inl (.inl (h.1 _ _ f2))) ?_ ?_⟩
    · rintro i x H4 hx ⟨s4, e4⟩
      obtain ⟨c, hci, rfl⟩ : ∃ c, (cnt fs st)[i]? = some c ∧ x = .int c := by
        rw [List.getElem?_map] at hx
        cases e : (cnt fs st)[i]? with
        | none => rw [e] at hx; cases hx
        | some c => rw [e] at hx; exact ⟨c, rfl, (Option.some.inj hx).symm⟩
      have hil := (List.getElem?_eq_some_iff.mp hci).1
      have cn := c0 c (List.mem_of_getElem? hci)
      refine ⟨rfl, _, rfl, _, _, _, _, _, rfl, .ty "int", .base (.int _), kit_ty ki_int, _, rfl, iteT ?_⟩
      refine ⟨_, rfl, _, _, _, _, _, rfl, .ty "bool", .base (.int _), kit_ty kb_int, _, rfl, _, rfl, iteT ?_⟩
      refine ⟨_, rfl, _, _, rfl, rfl, _, e4, ?_, ?_, ?_⟩
      · rw [List.length_map, List.length_replicate, sizeLine_eq]
        omega
      · exact fun b o e => by
          rw [upd_ne (ne_of_none e n3)]
          exact s4 _ _ e
      · rw [upd_same, List.replicate_succ', List.map_append]
        show some (HO.lst (_ ++ [V.bl (decide (0 ≤ c))])) = _
        rw [decide_eq_true cn]
        rfl
    rintro H3 ⟨s3, e3⟩
    refine ⟨D3, List.replicate _ true, rfl, .inl (.inl e3), ?_⟩
    rw [show ∀ n, (List.replicate n true).all id = true from fun n => by simp]
    refine ⟨_, rfl, iteF ?_⟩
    have s03 := s02.trans s3
    have P3 := pot_same hP s03
    have S3 := S.but (But.same But.rfl s03) hP
    refine ⟨_, rfl, _, rfl, L, v, xs, fs, st, rfl, .inl (.inl S3.l), S3.at_, W, hv.same s03, hs, fun H4 s4 => ?_⟩
    have s04 := s03.trans s4
    have f4 := s4 _ _ (s3 _ _ f2)
    have S4 := S3.but (But.same But.rfl s4) P3
    refine ⟨_, rfl, D, _, rfl, .inl (.inl (.inl f4)), _, rfl, L, _, rfl, .inl (.inl (.inl S4.l)), rfl, _, rfl, ?_⟩
    rw [List.length_map, hcl, show xs.length = fs.length from S4.at_.length]
    refine iteNS rfl ?_
    refine ⟨_, rfl, D, cnt fs st, rfl, .inl (.inl f4), _, rfl, rfl, _, rfl, ?_⟩
    rw [hcs]
    refine iteNS rfl ?_
    have T4 : L2.upd H4 L (.lst xs) = L2.upd H4 L (.lst xs) := rfl
    obtain ⟨ps, rfl, hps⟩ := id hv
    have s24 := s3.trans s4
    refine ⟨_, rfl, ps, _, _, _, rfl, rfl, sm_t s04 hps, rfl, _, rfl, _, _, rfl, rfl, Sm.mulW (hs.bt.mono (by decide : 41 ≤ 900)).1 (Nat.lt_of_lt_of_le hmb (Nat.pow_le_pow_right (by decide) (by decide))), _, rfl, ps, _, _, _, rfl, rfl, sm_t s04 hps, rfl, ?_⟩
    refine ⟨_, _, rfl, hs.lo.ne, (hs.bt.sm (by decide)).2.mid, fun H5 p5 s5 e5 => ?_⟩
    rw [used_is] at e5
    have a5 : AtK K H5 (.ref p5) (fmul (many fs st, 1) st) := AtK.of e5
    have hvr : AtK K H (.ref ps) st := ⟨ps, rfl, hps⟩
    have s05 := s04.trans s5
    have s25 := s24.trans s5
    have lF : IsF (left_ fs st) := fsub_f (tot_f W.f) (mstep_f hs)
    have lB : Bt 637 (left_ fs st) := fsub_bt (tot_f W.f) (mstep_f hs) (tot_bt W) (mstep_bt W hs)
    have lless : lessB (left_ fs st) st = true := left_less W hs
    have lless' : decide ((left_ fs st).1 * st.2 < st.1 * (left_ fs st).2) = true := lless
    refine ⟨_, rfl, _, rfl, _, _, _, _, pr_atk (a2.same s25) (hvr.same s05) lF hs.lo lB hs.bt (by decide) (by decide), ⟨_, rfl, ?_⟩⟩
    rw [lless']
    refine iteF ?_
    refine ⟨_, rfl, _, rfl, _, _, _, _, pr_atk a5 (a2.same s25) (mstep_f hs) lF (mstep_bt W hs) lB (by decide) (by decide), fun H6 p6 s6 e6 => ?_⟩
    have a6 : AtK K H6 (.ref p6) (tot fs) := by
      have e6' : H6 p6 = some (.tup [.int (fadd (fmul (many fs st, 1) st) (left_ fs st)).1, .int (fadd (fmul (many fs st, 1) st) (left_ fs st)).2]) := e6
      rw [used_left W hs] at e6'
      exact AtK.of e6'
    have s06 := s05.trans s6
    have S6 := S.but (But.same But.rfl s06) hP
    refine ⟨_, rfl, L, xs, fs, 41, rfl, .inl (.inl S6.l), S6.at_, W.f, W.b, by decide, by omega, fun H7 tv s7 ht => ?_⟩
    have ht' : AtK K H7 tv (tot fs) := ht
    refine ⟨_, _, (a6.same s7).dp, ht'.dp, tD_shaped _, tD_shaped _, ?_⟩
    rw [tD_eqv]
    refine ⟨_, rfl, iteF ?_⟩
    have s07 := s06.trans s7
    have P7 := pot_same hP s07
    have S7 := S.but (But.same But.rfl s07) hP
    have v7 := hvr.same s07
    refine ⟨_, rfl, _, rfl, L, _, xs, fs, st, rfl, .inl (.inl S7.l), S7.at_, W, v7, hs, fun H8 D8 ys s8 n8 e8 hy8 => ?_⟩
    have hy8' : AtKs K H8 ys (aimsF fs st) := hy8.same wo_le
    have n8q : D8 ≠ q := pot_ne P7 n8
    have s28 : Same H2 H8 := s25.trans (s6.trans (s7.trans s8))
    have f8 := s28 _ _ f2
    refine ⟨_, rfl, _, rfl, D8, D, ys, aimsF fs st, cnt fs st, rfl, .inl (.inl e8), hy8', aF, aB, .inl (.inl f8), by rw [hcl, aims_len], fun c hc => Nat.lt_of_lt_of_le (cb c hc) (Nat.pow_le_pow_right (by decide) (by decide)), fun H9 ow s9 ho => ?_⟩
    obtain ⟨po, rfl, hpo⟩ := ho
    obtain ⟨rl1, rl2⟩ := raw_low (cs := cnt fs st) aF
    have cB : CsB (cnt fs st) := fun c hc => Nat.lt_of_lt_of_le (cb c hc) (Nat.pow_le_pow_right (by decide) (by decide))
    obtain ⟨_, rwb⟩ := rw_ok (cs := cnt fs st) aF aB cB ((aimsF fs st).zip (cnt fs st)).length
    rw [List.take_length] at rwb
    have rwb' : Bt 740 (rworst (aimsF fs st) (cnt fs st)) := rwb
    refine ⟨_, rfl, po, _, _, _, rfl, rfl, hpo, rfl, _, rfl, po, _, _, _, rfl, rfl, hpo, rfl, ?_⟩
    refine ⟨_, _, rfl, by omega, (rwb'.sm (by decide)).2.mid, fun H10 p10 s10 e10 => ?_⟩
    have e10' : low (rworst (aimsF fs st) (cnt fs st)).1 (rworst (aimsF fs st) (cnt fs st)).2 = worst (aimsF fs st) (cnt fs st) := rl1
    rw [e10'] at e10
    have a10 : AtK K H10 (.ref p10) (worst (aimsF fs st) (cnt fs st)) := AtK.of e10
    have s210 := s28.trans (s9.trans s10)
    refine ⟨_, rfl, _, _, a10.dp, (b2.same s210).dp, tD_shaped _, tD_shaped _, ?_⟩
    rw [tD_eqv]
    refine ⟨_, rfl, iteF ?_⟩
    have aw : AtK K H10 (.ref po) (rworst (aimsF fs st) (cnt fs st)) := AtK.same s10 ⟨po, rfl, hpo⟩
    refine ⟨_, rfl, len_show (Nat.le_of_ble_eq_true rfl), fun p11 n11 => ?_⟩
    have s11 : Same H10 (L2.upd H10 p11 (.tup [.int 1, .int 1])) := same_new n11
    have a11 : AtK K (L2.upd H10 p11 (.tup [.int 1, .int 1])) (.ref p11) f1 := AtK.of upd_same
    generalize L2.upd H10 p11 (.tup [.int 1, .int 1]) = H11 at s11 a11 ⊢
    have rl1' : lessB (rworst (aimsF fs st) (cnt fs st)) f1 = true := (raw_less1 aF).trans less1
    have rl1'' : decide ((rworst (aimsF fs st) (cnt fs st)).1 * f1.2 < f1.1 * (rworst (aimsF fs st) (cnt fs st)).2) = true := rl1'
    refine ⟨_, _, _, _, pr_at0 (aw.same s11) a11 (by omega) (by decide) rwb' bt01.2 (by decide) (by decide), ⟨_, rfl, ?_⟩⟩
    rw [rl1'']
    refine iteF ?_
    have s011 : Same H H11 := s02.trans (s210.trans s11)
    have P11 := pot_same hP s011
    have f11 := s11 _ _ (s10 _ _ (s9 _ _ f8))
    have hq11 : ∀ {p : Addr} {H' : Hp}, Same H11 H' → H' p = none → p ≠ q := fun s n => pot_ne P11 (same_none s n)
    refine ⟨_, rfl, D, cnt fs st, rfl, f11, by omega, cb, fun H12 Dd us s12 n12 f12 l12 N12 => ?_⟩
    refine ⟨Dd, rfl, ⟨us, .inl (.inl f12)⟩, fun D13 n13 => lc_list (xs := us) (fun t H' => Same H12 H' ∧ ∃ zs, H' D13 = some (.lst zs) ∧ zs.length ≤ t ∧ NewI H11 H12 (OkC (cnt fs st).length (cnt fs st).sum) zs) ⟨same_new n13, [], upd_same, Nat.le_refl _, NewI.nil⟩ (fun t H' _ h => .inl (.inl (h.1 _ _ f12))) ?_ ?_⟩
    · rintro t x H7 hx ⟨s7, zs, e7, l7, N7⟩
      obtain ⟨px, ds, rfl, npx, hpx, hok⟩ := N12 x (List.mem_of_getElem? hx)
      have htl := (List.getElem?_eq_some_iff.mp hx).1
      refine ⟨rfl, _, rfl, px, ds, rfl, .inl (.inl (s7 _ _ hpx)), by have := hok.1; omega, fun m hm hmin => ⟨_, _, rfl, rfl, _, rfl, ite2 (fun e => ?_) (fun e => ?_)⟩⟩
      · refine ⟨_, rfl, zs, e7, by rw [sizeLine_eq]; omega, fun b o e => ?_, zs ++ [.ref px], upd_same, by rw [List.length_append, List.length_singleton]; omega, N7.app (NewI.one npx hpx hok)⟩
        rw [upd_ne (ne_of_none e n13)]
        exact s7 _ _ e
      · exact ⟨s7, zs, e7, by omega, N7⟩
    rintro H13 ⟨s13, zs, e13, l13, N13⟩
    have s1113 := s12.trans s13
    refine ⟨_, rfl, D13, rfl, ⟨zs, .inl (.inl e13)⟩, fun D14 n14 => lc_list (xs := zs) (fun t H' => Same H13 H' ∧ H' D14 = some (.lst [])) ⟨same_new n14, upd_same⟩ (fun t H' _ h => .inl (.inl (h.1 _ _ e13))) ?_ ?_⟩
    · rintro t x H15 hx ⟨s15, e15⟩
      obtain ⟨px, ds, rfl, npx, hpx, hok⟩ := N13 x (List.mem_of_getElem? hx)
      have x15 := s15 _ _ (s13 _ _ hpx)
      have s1115 := s1113.trans s15
      have s815 : Same H8 H15 := s9.trans (s10.trans (s11.trans s1115))
      have dB : CsB ds := fun c hc => Nat.lt_of_lt_of_le (hok.2.2 c hc) (Nat.pow_le_pow_right (by decide) (by decide))
      have dl : ds.length = fs.length := hok.1.trans hcl
      refine ⟨rfl, _, rfl, _, rfl, D8, px, ys, aimsF fs st, ds, rfl, .inl (.inl (s815 _ _ e8)), hy8'.same s815, aF, aB, .inl (.inl x15), by rw [dl, aims_len], dB, fun H16 u s16 hu => ?_⟩
      obtain ⟨_, db⟩ := rw_ok (cs := ds) aF aB dB ((aimsF fs st).zip ds).length
      rw [List.take_length] at db
      have db' : Bt 740 (rworst (aimsF fs st) ds) := db
      have nl : decide ((rworst (aimsF fs st) ds).1 * (rworst (aimsF fs st) (cnt fs st)).2 < (rworst (aimsF fs st) (cnt fs st)).1 * (rworst (aimsF fs st) ds).2) = false := none_less W aF an wfb'.1 wfb'.2.2 dl (hok.2.1.trans hcs)
      have dp2 := (raw_low (cs := ds) aF).2
      refine ⟨_, rfl, _, _, _, _, pr_at0 hu (aw.same (s11.trans (s1115.trans s16))) (by omega) (by omega) db' rwb' (by decide) (by decide), ⟨_, rfl, ?_⟩⟩
      rw [nl]
      exact iteF ⟨s15.trans s16, s16 _ _ e15⟩
    rintro H14 ⟨s14, e14⟩
    refine ⟨len_show (Nat.le_of_ble_eq_true rfl), fun p15 n15 => ?_⟩
    have s15 : Same H14 (L2.upd H14 p15 (.lst [])) := same_new n15
    have e15 : L2.upd H14 p15 (.lst []) p15 = some (.lst []) := upd_same
    generalize L2.upd H14 p15 (.lst []) = H15 at s15 e15 ⊢
    refine ⟨.list ([].map PyData.int), .list ([].map PyData.int), .lst (.inl (.inl (s15 _ _ e14))) (ints_dp []), .lst (.inl (.inl e15)) (ints_dp []), ints_shaped _, ints_shaped _, ?_⟩
    rw [ints_eqv]
    refine ⟨_, rfl, iteF ?_⟩
    have s015 : Same H H15 := s011.trans (s1113.trans (s14.trans s15))
    have s815 : Same H8 H15 := s9.trans (s10.trans (s11.trans (s1113.trans (s14.trans s15))))
    have P15 := pot_same hP s015
    refine ⟨_, rfl, _, rfl, _, rfl, _, rfl, _, rfl, q, L, D8, D, _, xs, ys, fs, st, cnt fs st, rfl, ⟨P15, S.but (But.same But.rfl s015) hP, W, hvr.same s015, hs, hm, s815 _ _ e8, n8q, hy8'.same s815, s815 _ _ f8, nDq, hcl, cb, ?_⟩, fun H16 b16 => k H16 fun b o nb e => b16 _ _ nb (s015 _ _ e)⟩
    rw [hcs]
    exact Nat.lt_of_lt_of_le hmb (Nat.pow_le_pow_right (by decide) (by decide))

end
end Lf

set_option Elab.async false
set_option linter.all false
set_option maxRecDepth 100000
set_option maxHeartbeats 4000000
set_option exponentiation.threshold 3000
namespace Lf
open PySem PySem.Spec PyProof.Rows L2
section
variable {P : Program} {w : World} {K : PySem.W.Frag} {mg : Str → Option Value} {base : Heap}

/-! ### law -/
theorem sc_law : FnScope ["_law_script", "_law_k", "_law_pot_here", "_law_weights_here"] ["_law_script"] (defScope s_law) := ⟨rfl, rfl, rfl, by decide +kernel, rfl, by decide +kernel, by decide +kernel⟩
def sp_law (K : PySem.W.Frag) : Sp := fun vs H Q _ => ∃ (a : Addr) (ns : List Int), vs = [.ref a] ∧ SqL K H a (ns.map V.int) ∧ ns.length ≤ 63 ∧ ∀ H', Q (.bl true) H'
theorem ok_law {f : Addr} {fd : FuncData} (M : Blt mg) (Mx : Bltx mg) (ml : mg "list" = none) (F : Fun K "law" "law" s_law f fd) (C__law_cell : Cal P w K mg base CX0 1 "_law_cell" ["_law_script", "_law_k"] (sp_cell K)) (C__law_pot : Cal P w K mg base CX0 1 "_law_pot" ["_law_cell_here"] sp_pot) (C__law_draw : Cal P w K mg base CX0 1 "_law_draw" ["_law_pot_here", "_law_many_here"] sp_draw)
    (C__law_weights : Cal P w K mg base CX0 3 "_law_weights" ["_law_pot_here", "_law_most"] (sp_weights K)) (C__law_fit_step : Cal P w K mg base CX0 5 "_law_fit_step" ["_law_pot_here", "_law_weights_here"] (sp_fit K)) (C__law_right : Cal P w K mg base CX0 12 "_law_right" ["_law_pot_here", "_law_weights_here", "_law_step_here"] (sp_right K)) : FnG P w K mg base CX0 13 f fd ["_law_script"] (sp_law K) := by
  refine Gfun F sc_law (fun vs H Q E h => ?_) (fun cdv A outer s H vs Q E hg hr h => ?_)
  · obtain ⟨a, ns, rfl, _⟩ := h
    rfl
  · obtain ⟨a, ns, rfl, hS, hl, k⟩ := h
    refine ⟨_, (pss_cons (ps_for PassesOwn.never rfl (pi_range1 rfl M.range (pa_cons (pe_callB (call_max2 rfl) rfl M.max bt_max (pa_cons pe_int (pa_cons (pe_callB (call_min2 rfl) rfl M.min bt_min (pa_cons pe_int (pa_cons (pe_callB call_len_seq rfl M.len bt_len (pa_cons (pv 0) pa_nil)) pa_nil))) pa_nil))) pa_nil)) (pg_name (i := 1) sc_law.nd rfl (.inl rfl))
      (pss_cons (ps_set (i := 2) sc_law.nd rfl (.inl rfl) (pe_g C__law_pot (hr.mono (by decide)) hg (pa_cons (pe_g C__law_cell (hr.mono (by decide)) hg (pa_cons (pv 0) (pa_cons (pv 1) pa_nil))) pa_nil)))
      (pss_cons (ps_set (i := 3) sc_law.nd rfl (.inl rfl) (pe_g C__law_weights (hr.mono (by decide)) hg (pa_cons (pv 2) (pa_cons (pe_ix ix_list (pe_lst (pa_cons pe_int (pa_cons pe_int pa_nil))) (pe_g C__law_draw (hr.mono (by decide)) hg (pa_cons (pv 2) (pa_cons pe_int pa_nil))) (fun _ _ => rfl)) pa_nil))))
      (pss_one (ps_if (pt_not (pt_val (pe_g C__law_right (hr.mono (by decide)) hg (pa_cons (pv 2) (pa_cons (pv 3) (pa_cons (pe_g C__law_fit_step (hr.mono (by decide)) hg (pa_cons (pv 2) (pa_cons (pv 3) pa_nil))) pa_nil))))))
      (pss_one (ps_ret pe_bl))
      pss_nil)))))
      (pss_one (ps_ret pe_bl))), ?_⟩
    refine ⟨_, rfl, a, _, rfl, .inl hS, _, _, rfl, _, _, rfl, _, rfl, ?_, ?_, ?_⟩
    · split <;> split <;> omega
    · split <;> split <;> omega
    generalize hN : Int.toNat _ = N
    have hN2 : N ≤ 64 := by
      rw [← hN]
      split <;> split <;> omega
    refine for_range (lo := 0) (n := N) (fun i σ H' => ∃ (y1 y2 y3 : Option V), σ = [some (.ref a), y1, y2, y3] ∧ Same H H') ⟨_, _, _, rfl, same_rfl⟩ ?_ ?_
    · rintro i σ H1 hi ⟨y1, y2, y3, rfl, s1⟩
      refine ⟨_, rfl, _, rfl, a, ns, i, (by show [V.ref a, V.int (0 + (i : Int))] = _; rw [Int.zero_add]), sm_l s1 hS, by omega, fun c => ?_⟩
      refine ⟨c, rfl, fun x y q y0 yl nq => ?_⟩
      have P2 : Pot (L2.upd H1 q (.lst [.int x, .int y])) q := ⟨x, y, y0, yl, upd_same⟩
      have s2 : Same H1 (L2.upd H1 q (.lst [.int x, .int y])) := same_new nq
      have hq : H1 q = none := nq
      generalize L2.upd H1 q (.lst [.int x, .int y]) = H2 at P2 s2 ⊢
      refine ⟨_, rfl, len_show (Nat.le_of_ble_eq_true rfl), fun p3 n3 => ?_⟩
      have s3 : Same H2 (L2.upd H2 p3 (.lst [.int 5, .int 12])) := same_new n3
      have e3 : L2.upd H2 p3 (.lst [.int 5, .int 12]) p3 = some (.lst [.int 5, .int 12]) := upd_same
      have n3q : p3 ≠ q := pot_ne P2 n3
      have P3 := pot_same P2 s3
      generalize L2.upd H2 p3 (.lst [.int 5, .int 12]) = H3 at s3 e3 P3 ⊢
      refine ⟨_, rfl, q, 2, rfl, by decide, by decide, P3, fun r H4 r0 r1 P4 b4 => ?_⟩
      obtain ⟨m, hm, hat⟩ : ∃ m : Int, (0 < m ∧ m ≤ 12) ∧ atI [V.int 5, V.int 12] r = some (.int m) := by
        by_cases hr0 : r = 0
        · exact ⟨5, by decide, by rw [hr0]; rfl⟩
        · have hr1 : r = 1 := by omega
          exact ⟨12, by decide, by rw [hr1]; rfl⟩
      refine ⟨p3, _, _, _, rfl, rfl, .inl (.inl (b4 _ _ n3q e3)), hat, ?_⟩
      refine ⟨q, m, rfl, hm.1, hm.2, P4, fun L xs fs H5 S5 W P5 b5 => ?_⟩
      refine ⟨_, rfl, _, rfl, _, rfl, _, rfl, q, L, xs, fs, rfl, S5, W, P5, fun v f H6 hv hf P6 b6 => ?_⟩
      refine ⟨q, L, v, xs, fs, f, rfl, P6, S5.but b6 P5, W, hv, hf.1, hf.2, fun H7 b7 => ?_⟩
      refine ⟨_, rfl, iteF ⟨_, _, _, rfl, fun b o e => ?_⟩⟩
      have e1 := s1 _ _ e
      have nb : b ≠ q := ne_of_none e1 hq
      exact b7 _ _ nb (b6 _ _ nb (b5 _ _ nb (b4 _ _ nb (s3 _ _ (s2 _ _ e1)))))
    · rintro σ H1 ⟨y1, y2, y3, rfl, _⟩
      exact k _

end
end Lf

set_option Elab.async false
set_option linter.all false
set_option maxRecDepth 100000
set_option maxHeartbeats 8000000
namespace Lf
open PySem PySem.Spec PyProof.Rows L2
theorem bp_0 {x q : Str} {p0 : Pos} {body : List Stmt} {sc : Scope} {kV doc pm : Value} {an : Option Addr} {cdv ct : Value} (s : Shared) (us : List Value) (hl : us.length = 1) : BindsTo s (PySem.W.fnOf x q (plainA [{ arg := "thing", annotation := none, pos := p0 }]) body sc .none kV doc pm an cdv ct) ⟨us, []⟩ ((["thing"] : List Str).zip us) := .of_eq (match us, hl with | [_], _ => rfl)
theorem df_is_whole {K : PySem.W.Frag} {mg : Str → Option Value} {f : Addr} {fd : FuncData} (F : FunD K "is_whole" "is_whole" (defArgs s_is_whole) (defBody s_is_whole) (defScope s_is_whole) [] [] f fd) (g : mg "is_whole" = some (.ref f)) : Df K mg "is_whole" s_is_whole ["thing"] f fd := by
  obtain ⟨kV, doc, pm, an, cdv, ct, rfl, F⟩ := fun_of F
  have ⟨p0, ea⟩ : ∃ p0 : Pos, defArgs s_is_whole = plainA [{ arg := "thing", annotation := none, pos := p0 }] := ⟨_, rfl⟩
  exact ⟨F, g, by rw [ea]; exact bp_0, no_kw (by decide +kernel), no_kw (by decide +kernel)⟩
theorem bp_1 {x q : Str} {p0 p1 : Pos} {body : List Stmt} {sc : Scope} {kV doc pm : Value} {an : Option Addr} {cdv ct : Value} (s : Shared) (us : List Value) (hl : us.length = 2) : BindsTo s (PySem.W.fnOf x q (plainA [{ arg := "one", annotation := none, pos := p0 }, { arg := "other", annotation := none, pos := p1 }]) body sc .none kV doc pm an cdv ct) ⟨us, []⟩ ((["one", "other"] : List Str).zip us) := .of_eq (match us, hl with | [_, _], _ => rfl)
theorem df_common {K : PySem.W.Frag} {mg : Str → Option Value} {f : Addr} {fd : FuncData} (F : FunD K "common" "common" (defArgs sCom) (defBody sCom) (defScope sCom) [] [] f fd) (g : mg "common" = some (.ref f)) : Df K mg "common" sCom ["one", "other"] f fd := by
  obtain ⟨kV, doc, pm, an, cdv, ct, rfl, F⟩ := fun_of F
  have ⟨p0, p1, ea⟩ : ∃ p0 p1 : Pos, defArgs sCom = plainA [{ arg := "one", annotation := none, pos := p0 }, { arg := "other", annotation := none, pos := p1 }] := ⟨_, _, rfl⟩
  exact ⟨F, g, by rw [ea]; exact bp_1, no_kw (by decide +kernel), no_kw (by decide +kernel)⟩
theorem bp_2 {x q : Str} {p0 p1 : Pos} {body : List Stmt} {sc : Scope} {kV doc pm : Value} {an : Option Addr} {cdv ct : Value} (s : Shared) (us : List Value) (hl : us.length = 2) : BindsTo s (PySem.W.fnOf x q (plainA [{ arg := "top", annotation := none, pos := p0 }, { arg := "bottom", annotation := none, pos := p1 }]) body sc .none kV doc pm an cdv ct) ⟨us, []⟩ ((["top", "bottom"] : List Str).zip us) := .of_eq (match us, hl with | [_, _], _ => rfl)
theorem df_fraction {K : PySem.W.Frag} {mg : Str → Option Value} {f : Addr} {fd : FuncData} (F : FunD K "fraction" "fraction" (defArgs sFrac) (defBody sFrac) (defScope sFrac) [] [] f fd) (g : mg "fraction" = some (.ref f)) : Df K mg "fraction" sFrac ["top", "bottom"] f fd := by
  obtain ⟨kV, doc, pm, an, cdv, ct, rfl, F⟩ := fun_of F
  have ⟨p0, p1, ea⟩ : ∃ p0 p1 : Pos, defArgs sFrac = plainA [{ arg := "top", annotation := none, pos := p0 }, { arg := "bottom", annotation := none, pos := p1 }] := ⟨_, _, rfl⟩
  exact ⟨F, g, by rw [ea]; exact bp_2, fun _ s us hl => .of_eq (match us, hl with | [_, _], _ => rfl), fun _ s us hl => .of_eq (match us, hl with | [_, _], _ => rfl)⟩
theorem df_plus {K : PySem.W.Frag} {mg : Str → Option Value} {f : Addr} {fd : FuncData} (F : FunD K "plus" "plus" (defArgs s_plus) (defBody s_plus) (defScope s_plus) [] [] f fd) (g : mg "plus" = some (.ref f)) : Df K mg "plus" s_plus ["one", "other"] f fd := by
  obtain ⟨kV, doc, pm, an, cdv, ct, rfl, F⟩ := fun_of F
  have ⟨p0, p1, ea⟩ : ∃ p0 p1 : Pos, defArgs s_plus = plainA [{ arg := "one", annotation := none, pos := p0 }, { arg := "other", annotation := none, pos := p1 }] := ⟨_, _, rfl⟩
  exact ⟨F, g, by rw [ea]; exact bp_1, fun _ s us hl => .of_eq (match us, hl with | [_, _], _ => rfl), fun _ s us hl => .of_eq (match us, hl with | [_, _], _ => rfl)⟩
theorem df_minus {K : PySem.W.Frag} {mg : Str → Option Value} {f : Addr} {fd : FuncData} (F : FunD K "minus" "minus" (defArgs s_minus) (defBody s_minus) (defScope s_minus) [] [] f fd) (g : mg "minus" = some (.ref f)) : Df K mg "minus" s_minus ["one", "other"] f fd := by
  obtain ⟨kV, doc, pm, an, cdv, ct, rfl, F⟩ := fun_of F
  have ⟨p0, p1, ea⟩ : ∃ p0 p1 : Pos, defArgs s_minus = plainA [{ arg := "one", annotation := none, pos := p0 }, { arg := "other", annotation := none, pos := p1 }] := ⟨_, _, rfl⟩
  exact ⟨F, g, by rw [ea]; exact bp_1, fun _ s us hl => .of_eq (match us, hl with | [_, _], _ => rfl), fun _ s us hl => .of_eq (match us, hl with | [_, _], _ => rfl)⟩
theorem df_times {K : PySem.W.Frag} {mg : Str → Option Value} {f : Addr} {fd : FuncData} (F : FunD K "times" "times" (defArgs s_times) (defBody s_times) (defScope s_times) [] [] f fd) (g : mg "times" = some (.ref f)) : Df K mg "times" s_times ["one", "other"] f fd := by
  obtain ⟨kV, doc, pm, an, cdv, ct, rfl, F⟩ := fun_of F
  have ⟨p0, p1, ea⟩ : ∃ p0 p1 : Pos, defArgs s_times = plainA [{ arg := "one", annotation := none, pos := p0 }, { arg := "other", annotation := none, pos := p1 }] := ⟨_, _, rfl⟩
  exact ⟨F, g, by rw [ea]; exact bp_1, fun _ s us hl => .of_eq (match us, hl with | [_, _], _ => rfl), fun _ s us hl => .of_eq (match us, hl with | [_, _], _ => rfl)⟩
theorem df_over {K : PySem.W.Frag} {mg : Str → Option Value} {f : Addr} {fd : FuncData} (F : FunD K "over" "over" (defArgs s_over) (defBody s_over) (defScope s_over) [] [] f fd) (g : mg "over" = some (.ref f)) : Df K mg "over" s_over ["one", "other"] f fd := by
  obtain ⟨kV, doc, pm, an, cdv, ct, rfl, F⟩ := fun_of F
  have ⟨p0, p1, ea⟩ : ∃ p0 p1 : Pos, defArgs s_over = plainA [{ arg := "one", annotation := none, pos := p0 }, { arg := "other", annotation := none, pos := p1 }] := ⟨_, _, rfl⟩
  exact ⟨F, g, by rw [ea]; exact bp_1, fun _ s us hl => .of_eq (match us, hl with | [_, _], _ => rfl), fun _ s us hl => .of_eq (match us, hl with | [_, _], _ => rfl)⟩
theorem bp_3 {x q : Str} {p0 : Pos} {body : List Stmt} {sc : Scope} {kV doc pm : Value} {an : Option Addr} {cdv ct : Value} (s : Shared) (us : List Value) (hl : us.length = 1) : BindsTo s (PySem.W.fnOf x q (plainA [{ arg := "ones", annotation := none, pos := p0 }]) body sc .none kV doc pm an cdv ct) ⟨us, []⟩ ((["ones"] : List Str).zip us) := .of_eq (match us, hl with | [_], _ => rfl)
theorem df_together {K : PySem.W.Frag} {mg : Str → Option Value} {f : Addr} {fd : FuncData} (F : FunD K "together" "together" (defArgs s_together) (defBody s_together) (defScope s_together) [] [] f fd) (g : mg "together" = some (.ref f)) : Df K mg "together" s_together ["ones"] f fd := by
  obtain ⟨kV, doc, pm, an, cdv, ct, rfl, F⟩ := fun_of F
  have ⟨p0, ea⟩ : ∃ p0 : Pos, defArgs s_together = plainA [{ arg := "ones", annotation := none, pos := p0 }] := ⟨_, rfl⟩
  exact ⟨F, g, by rw [ea]; exact bp_3, no_kw (by decide +kernel), no_kw (by decide +kernel)⟩
theorem df_is_less {K : PySem.W.Frag} {mg : Str → Option Value} {f : Addr} {fd : FuncData} (F : FunD K "is_less" "is_less" (defArgs s_is_less) (defBody s_is_less) (defScope s_is_less) [] [] f fd) (g : mg "is_less" = some (.ref f)) : Df K mg "is_less" s_is_less ["one", "other"] f fd := by
  obtain ⟨kV, doc, pm, an, cdv, ct, rfl, F⟩ := fun_of F
  have ⟨p0, p1, ea⟩ : ∃ p0 p1 : Pos, defArgs s_is_less = plainA [{ arg := "one", annotation := none, pos := p0 }, { arg := "other", annotation := none, pos := p1 }] := ⟨_, _, rfl⟩
  exact ⟨F, g, by rw [ea]; exact bp_1, fun _ s us hl => .of_eq (match us, hl with | [_, _], _ => rfl), fun _ s us hl => .of_eq (match us, hl with | [_, _], _ => rfl)⟩
theorem bp_4 {x q : Str} {p0 : Pos} {body : List Stmt} {sc : Scope} {kV doc pm : Value} {an : Option Addr} {cdv ct : Value} (s : Shared) (us : List Value) (hl : us.length = 1) : BindsTo s (PySem.W.fnOf x q (plainA [{ arg := "one", annotation := none, pos := p0 }]) body sc .none kV doc pm an cdv ct) ⟨us, []⟩ ((["one"] : List Str).zip us) := .of_eq (match us, hl with | [_], _ => rfl)
theorem df_floor_of {K : PySem.W.Frag} {mg : Str → Option Value} {f : Addr} {fd : FuncData} (F : FunD K "floor_of" "floor_of" (defArgs s_floor_of) (defBody s_floor_of) (defScope s_floor_of) [] [] f fd) (g : mg "floor_of" = some (.ref f)) : Df K mg "floor_of" s_floor_of ["one"] f fd := by
  obtain ⟨kV, doc, pm, an, cdv, ct, rfl, F⟩ := fun_of F
  have ⟨p0, ea⟩ : ∃ p0 : Pos, defArgs s_floor_of = plainA [{ arg := "one", annotation := none, pos := p0 }] := ⟨_, rfl⟩
  exact ⟨F, g, by rw [ea]; exact bp_4, no_kw (by decide +kernel), no_kw (by decide +kernel)⟩
theorem df_is_fraction {K : PySem.W.Frag} {mg : Str → Option Value} {f : Addr} {fd : FuncData} (F : FunD K "is_fraction" "is_fraction" (defArgs s_is_fraction) (defBody s_is_fraction) (defScope s_is_fraction) [] [] f fd) (g : mg "is_fraction" = some (.ref f)) : Df K mg "is_fraction" s_is_fraction ["thing"] f fd := by
  obtain ⟨kV, doc, pm, an, cdv, ct, rfl, F⟩ := fun_of F
  have ⟨p0, ea⟩ : ∃ p0 : Pos, defArgs s_is_fraction = plainA [{ arg := "thing", annotation := none, pos := p0 }] := ⟨_, rfl⟩
  exact ⟨F, g, by rw [ea]; exact bp_0, fun _ s us hl => .of_eq (match us, hl with | [_], _ => rfl), fun _ s us hl => .of_eq (match us, hl with | [_], _ => rfl)⟩
theorem df_is_above_0 {K : PySem.W.Frag} {mg : Str → Option Value} {f : Addr} {fd : FuncData} (F : FunD K "is_above_0" "is_above_0" (defArgs s_is_above_0) (defBody s_is_above_0) (defScope s_is_above_0) [] [] f fd) (g : mg "is_above_0" = some (.ref f)) : Df K mg "is_above_0" s_is_above_0 ["thing"] f fd := by
  obtain ⟨kV, doc, pm, an, cdv, ct, rfl, F⟩ := fun_of F
  have ⟨p0, ea⟩ : ∃ p0 : Pos, defArgs s_is_above_0 = plainA [{ arg := "thing", annotation := none, pos := p0 }] := ⟨_, rfl⟩
  exact ⟨F, g, by rw [ea]; exact bp_0, no_kw (by decide +kernel), no_kw (by decide +kernel)⟩
theorem df_are_weights {K : PySem.W.Frag} {mg : Str → Option Value} {f : Addr} {fd : FuncData} (F : FunD K "are_weights" "are_weights" (defArgs s_are_weights) (defBody s_are_weights) (defScope s_are_weights) [] [] f fd) (g : mg "are_weights" = some (.ref f)) : Df K mg "are_weights" s_are_weights ["thing"] f fd := by
  obtain ⟨kV, doc, pm, an, cdv, ct, rfl, F⟩ := fun_of F
  have ⟨p0, ea⟩ : ∃ p0 : Pos, defArgs s_are_weights = plainA [{ arg := "thing", annotation := none, pos := p0 }] := ⟨_, rfl⟩
  exact ⟨F, g, by rw [ea]; exact bp_0, no_kw (by decide +kernel), no_kw (by decide +kernel)⟩
theorem df_above_floor {K : PySem.W.Frag} {mg : Str → Option Value} {f : Addr} {fd : FuncData} (F : FunD K "above_floor" "above_floor" (defArgs s_above_floor) (defBody s_above_floor) (defScope s_above_floor) [] [] f fd) (g : mg "above_floor" = some (.ref f)) : Df K mg "above_floor" s_above_floor ["one"] f fd := by
  obtain ⟨kV, doc, pm, an, cdv, ct, rfl, F⟩ := fun_of F
  have ⟨p0, ea⟩ : ∃ p0 : Pos, defArgs s_above_floor = plainA [{ arg := "one", annotation := none, pos := p0 }] := ⟨_, rfl⟩
  exact ⟨F, g, by rw [ea]; exact bp_4, no_kw (by decide +kernel), no_kw (by decide +kernel)⟩
theorem bp_5 {x q : Str} {p0 p1 : Pos} {body : List Stmt} {sc : Scope} {kV doc pm : Value} {an : Option Addr} {cdv ct : Value} (s : Shared) (us : List Value) (hl : us.length = 2) : BindsTo s (PySem.W.fnOf x q (plainA [{ arg := "weights", annotation := none, pos := p0 }, { arg := "step", annotation := none, pos := p1 }]) body sc .none kV doc pm an cdv ct) ⟨us, []⟩ ((["weights", "step"] : List Str).zip us) := .of_eq (match us, hl with | [_, _], _ => rfl)
theorem df_many_steps {K : PySem.W.Frag} {mg : Str → Option Value} {f : Addr} {fd : FuncData} (F : FunD K "many_steps" "many_steps" (defArgs s_many_steps) (defBody s_many_steps) (defScope s_many_steps) [] [] f fd) (g : mg "many_steps" = some (.ref f)) : Df K mg "many_steps" s_many_steps ["weights", "step"] f fd := by
  obtain ⟨kV, doc, pm, an, cdv, ct, rfl, F⟩ := fun_of F
  have ⟨p0, p1, ea⟩ : ∃ p0 p1 : Pos, defArgs s_many_steps = plainA [{ arg := "weights", annotation := none, pos := p0 }, { arg := "step", annotation := none, pos := p1 }] := ⟨_, _, rfl⟩
  exact ⟨F, g, by rw [ea]; exact bp_5, no_kw (by decide +kernel), no_kw (by decide +kernel)⟩
theorem df_aims {K : PySem.W.Frag} {mg : Str → Option Value} {f : Addr} {fd : FuncData} (F : FunD K "aims" "aims" (defArgs s_aims) (defBody s_aims) (defScope s_aims) [] [] f fd) (g : mg "aims" = some (.ref f)) : Df K mg "aims" s_aims ["weights", "step"] f fd := by
  obtain ⟨kV, doc, pm, an, cdv, ct, rfl, F⟩ := fun_of F
  have ⟨p0, p1, ea⟩ : ∃ p0 p1 : Pos, defArgs s_aims = plainA [{ arg := "weights", annotation := none, pos := p0 }, { arg := "step", annotation := none, pos := p1 }] := ⟨_, _, rfl⟩
  exact ⟨F, g, by rw [ea]; exact bp_5, fun _ s us hl => .of_eq (match us, hl with | [_, _], _ => rfl), fun _ s us hl => .of_eq (match us, hl with | [_, _], _ => rfl)⟩
theorem df_how_many_more {K : PySem.W.Frag} {mg : Str → Option Value} {f : Addr} {fd : FuncData} (F : FunD K "how_many_more" "how_many_more" (defArgs s_how_many_more) (defBody s_how_many_more) (defScope s_how_many_more) [] [] f fd) (g : mg "how_many_more" = some (.ref f)) : Df K mg "how_many_more" s_how_many_more ["weights", "step"] f fd := by
  obtain ⟨kV, doc, pm, an, cdv, ct, rfl, F⟩ := fun_of F
  have ⟨p0, p1, ea⟩ : ∃ p0 p1 : Pos, defArgs s_how_many_more = plainA [{ arg := "weights", annotation := none, pos := p0 }, { arg := "step", annotation := none, pos := p1 }] := ⟨_, _, rfl⟩
  exact ⟨F, g, by rw [ea]; exact bp_5, no_kw (by decide +kernel), no_kw (by decide +kernel)⟩
theorem bp_6 {x q : Str} {p0 p1 p2 : Pos} {body : List Stmt} {sc : Scope} {kV doc pm : Value} {an : Option Addr} {cdv ct : Value} (s : Shared) (us : List Value) (hl : us.length = 3) : BindsTo s (PySem.W.fnOf x q (plainA [{ arg := "aboves", annotation := none, pos := p0 }, { arg := "one", annotation := none, pos := p1 }, { arg := "other", annotation := none, pos := p2 }]) body sc .none kV doc pm an cdv ct) ⟨us, []⟩ ((["aboves", "one", "other"] : List Str).zip us) := .of_eq (match us, hl with | [_, _, _], _ => rfl)
theorem df_is_sooner {K : PySem.W.Frag} {mg : Str → Option Value} {f : Addr} {fd : FuncData} (F : FunD K "is_sooner" "is_sooner" (defArgs s_is_sooner) (defBody s_is_sooner) (defScope s_is_sooner) [] [] f fd) (g : mg "is_sooner" = some (.ref f)) : Df K mg "is_sooner" s_is_sooner ["aboves", "one", "other"] f fd := by
  obtain ⟨kV, doc, pm, an, cdv, ct, rfl, F⟩ := fun_of F
  have ⟨p0, p1, p2, ea⟩ : ∃ p0 p1 p2 : Pos, defArgs s_is_sooner = plainA [{ arg := "aboves", annotation := none, pos := p0 }, { arg := "one", annotation := none, pos := p1 }, { arg := "other", annotation := none, pos := p2 }] := ⟨_, _, _, rfl⟩
  exact ⟨F, g, by rw [ea]; exact bp_6, no_kw (by decide +kernel), no_kw (by decide +kernel)⟩
theorem bp_7 {x q : Str} {p0 p1 : Pos} {body : List Stmt} {sc : Scope} {kV doc pm : Value} {an : Option Addr} {cdv ct : Value} (s : Shared) (us : List Value) (hl : us.length = 2) : BindsTo s (PySem.W.fnOf x q (plainA [{ arg := "aboves", annotation := none, pos := p0 }, { arg := "place", annotation := none, pos := p1 }]) body sc .none kV doc pm an cdv ct) ⟨us, []⟩ ((["aboves", "place"] : List Str).zip us) := .of_eq (match us, hl with | [_, _], _ => rfl)
theorem df_are_sooner {K : PySem.W.Frag} {mg : Str → Option Value} {f : Addr} {fd : FuncData} (F : FunD K "are_sooner" "are_sooner" (defArgs s_are_sooner) (defBody s_are_sooner) (defScope s_are_sooner) [] [] f fd) (g : mg "are_sooner" = some (.ref f)) : Df K mg "are_sooner" s_are_sooner ["aboves", "place"] f fd := by
  obtain ⟨kV, doc, pm, an, cdv, ct, rfl, F⟩ := fun_of F
  have ⟨p0, p1, ea⟩ : ∃ p0 p1 : Pos, defArgs s_are_sooner = plainA [{ arg := "aboves", annotation := none, pos := p0 }, { arg := "place", annotation := none, pos := p1 }] := ⟨_, _, rfl⟩
  exact ⟨F, g, by rw [ea]; exact bp_7, no_kw (by decide +kernel), no_kw (by decide +kernel)⟩
theorem df_nearest {K : PySem.W.Frag} {mg : Str → Option Value} {f : Addr} {fd : FuncData} (F : FunD K "nearest" "nearest" (defArgs s_nearest) (defBody s_nearest) (defScope s_nearest) [] [] f fd) (g : mg "nearest" = some (.ref f)) : Df K mg "nearest" s_nearest ["weights", "step"] f fd := by
  obtain ⟨kV, doc, pm, an, cdv, ct, rfl, F⟩ := fun_of F
  have ⟨p0, p1, ea⟩ : ∃ p0 p1 : Pos, defArgs s_nearest = plainA [{ arg := "weights", annotation := none, pos := p0 }, { arg := "step", annotation := none, pos := p1 }] := ⟨_, _, rfl⟩
  exact ⟨F, g, by rw [ea]; exact bp_5, no_kw (by decide +kernel), no_kw (by decide +kernel)⟩
theorem bp_8 {x q : Str} {p0 p1 p2 : Pos} {body : List Stmt} {sc : Scope} {kV doc pm : Value} {an : Option Addr} {cdv ct : Value} (s : Shared) (us : List Value) (hl : us.length = 3) : BindsTo s (PySem.W.fnOf x q (plainA [{ arg := "weights", annotation := none, pos := p0 }, { arg := "step", annotation := none, pos := p1 }, { arg := "counted", annotation := none, pos := p2 }]) body sc .none kV doc pm an cdv ct) ⟨us, []⟩ ((["weights", "step", "counted"] : List Str).zip us) := .of_eq (match us, hl with | [_, _, _], _ => rfl)
theorem df_worst_of {K : PySem.W.Frag} {mg : Str → Option Value} {f : Addr} {fd : FuncData} (F : FunD K "worst_of" "worst_of" (defArgs s_worst_of) (defBody s_worst_of) (defScope s_worst_of) [] [] f fd) (g : mg "worst_of" = some (.ref f)) : Df K mg "worst_of" s_worst_of ["weights", "step", "counted"] f fd := by
  obtain ⟨kV, doc, pm, an, cdv, ct, rfl, F⟩ := fun_of F
  have ⟨p0, p1, p2, ea⟩ : ∃ p0 p1 p2 : Pos, defArgs s_worst_of = plainA [{ arg := "weights", annotation := none, pos := p0 }, { arg := "step", annotation := none, pos := p1 }, { arg := "counted", annotation := none, pos := p2 }] := ⟨_, _, _, rfl⟩
  exact ⟨F, g, by rw [ea]; exact bp_8, fun _ s us hl => .of_eq (match us, hl with | [_, _, _], _ => rfl), fun _ s us hl => .of_eq (match us, hl with | [_, _, _], _ => rfl)⟩
theorem df_rounded {K : PySem.W.Frag} {mg : Str → Option Value} {f : Addr} {fd : FuncData} (F : FunD K "rounded" "rounded" (defArgs s_rounded) (defBody s_rounded) (defScope s_rounded) [] [] f fd) (g : mg "rounded" = some (.ref f)) : Df K mg "rounded" s_rounded ["weights", "step"] f fd := by
  obtain ⟨kV, doc, pm, an, cdv, ct, rfl, F⟩ := fun_of F
  have ⟨p0, p1, ea⟩ : ∃ p0 p1 : Pos, defArgs s_rounded = plainA [{ arg := "weights", annotation := none, pos := p0 }, { arg := "step", annotation := none, pos := p1 }] := ⟨_, _, rfl⟩
  exact ⟨F, g, by rw [ea]; exact bp_5, fun _ s us hl => .of_eq (match us, hl with | [_, _], _ => rfl), fun _ s us hl => .of_eq (match us, hl with | [_, _], _ => rfl)⟩
theorem bp_9 {x q : Str} {p0 p1 : Pos} {body : List Stmt} {sc : Scope} {kV doc pm : Value} {an : Option Addr} {cdv ct : Value} (s : Shared) (us : List Value) (hl : us.length = 2) : BindsTo s (PySem.W.fnOf x q (plainA [{ arg := "_law_script", annotation := none, pos := p0 }, { arg := "_law_k", annotation := none, pos := p1 }]) body sc .none kV doc pm an cdv ct) ⟨us, []⟩ ((["_law_script", "_law_k"] : List Str).zip us) := .of_eq (match us, hl with | [_, _], _ => rfl)
theorem df__law_cell {K : PySem.W.Frag} {mg : Str → Option Value} {f : Addr} {fd : FuncData} (F : FunD K "_law_cell" "_law_cell" (defArgs s__law_cell) (defBody s__law_cell) (defScope s__law_cell) [] [] f fd) (g : mg "_law_cell" = some (.ref f)) : Df K mg "_law_cell" s__law_cell ["_law_script", "_law_k"] f fd := by
  obtain ⟨kV, doc, pm, an, cdv, ct, rfl, F⟩ := fun_of F
  have ⟨p0, p1, ea⟩ : ∃ p0 p1 : Pos, defArgs s__law_cell = plainA [{ arg := "_law_script", annotation := none, pos := p0 }, { arg := "_law_k", annotation := none, pos := p1 }] := ⟨_, _, rfl⟩
  exact ⟨F, g, by rw [ea]; exact bp_9, no_kw (by decide +kernel), no_kw (by decide +kernel)⟩
theorem bp_10 {x q : Str} {p0 : Pos} {body : List Stmt} {sc : Scope} {kV doc pm : Value} {an : Option Addr} {cdv ct : Value} (s : Shared) (us : List Value) (hl : us.length = 1) : BindsTo s (PySem.W.fnOf x q (plainA [{ arg := "_law_cell_here", annotation := none, pos := p0 }]) body sc .none kV doc pm an cdv ct) ⟨us, []⟩ ((["_law_cell_here"] : List Str).zip us) := .of_eq (match us, hl with | [_], _ => rfl)
theorem df__law_pot {K : PySem.W.Frag} {mg : Str → Option Value} {f : Addr} {fd : FuncData} (F : FunD K "_law_pot" "_law_pot" (defArgs s__law_pot) (defBody s__law_pot) (defScope s__law_pot) [] [] f fd) (g : mg "_law_pot" = some (.ref f)) : Df K mg "_law_pot" s__law_pot ["_law_cell_here"] f fd := by
  obtain ⟨kV, doc, pm, an, cdv, ct, rfl, F⟩ := fun_of F
  have ⟨p0, ea⟩ : ∃ p0 : Pos, defArgs s__law_pot = plainA [{ arg := "_law_cell_here", annotation := none, pos := p0 }] := ⟨_, rfl⟩
  exact ⟨F, g, by rw [ea]; exact bp_10, no_kw (by decide +kernel), no_kw (by decide +kernel)⟩
theorem bp_11 {x q : Str} {p0 p1 : Pos} {body : List Stmt} {sc : Scope} {kV doc pm : Value} {an : Option Addr} {cdv ct : Value} (s : Shared) (us : List Value) (hl : us.length = 2) : BindsTo s (PySem.W.fnOf x q (plainA [{ arg := "_law_pot_here", annotation := none, pos := p0 }, { arg := "_law_many_here", annotation := none, pos := p1 }]) body sc .none kV doc pm an cdv ct) ⟨us, []⟩ ((["_law_pot_here", "_law_many_here"] : List Str).zip us) := .of_eq (match us, hl with | [_, _], _ => rfl)
theorem df__law_draw {K : PySem.W.Frag} {mg : Str → Option Value} {f : Addr} {fd : FuncData} (F : FunD K "_law_draw" "_law_draw" (defArgs s__law_draw) (defBody s__law_draw) (defScope s__law_draw) [] [] f fd) (g : mg "_law_draw" = some (.ref f)) : Df K mg "_law_draw" s__law_draw ["_law_pot_here", "_law_many_here"] f fd := by
  obtain ⟨kV, doc, pm, an, cdv, ct, rfl, F⟩ := fun_of F
  have ⟨p0, p1, ea⟩ : ∃ p0 p1 : Pos, defArgs s__law_draw = plainA [{ arg := "_law_pot_here", annotation := none, pos := p0 }, { arg := "_law_many_here", annotation := none, pos := p1 }] := ⟨_, _, rfl⟩
  exact ⟨F, g, by rw [ea]; exact bp_11, no_kw (by decide +kernel), no_kw (by decide +kernel)⟩
theorem bp_12 {x q : Str} {p0 p1 : Pos} {body : List Stmt} {sc : Scope} {kV doc pm : Value} {an : Option Addr} {cdv ct : Value} (s : Shared) (us : List Value) (hl : us.length = 2) : BindsTo s (PySem.W.fnOf x q (plainA [{ arg := "_law_top", annotation := none, pos := p0 }, { arg := "_law_bottom", annotation := none, pos := p1 }]) body sc .none kV doc pm an cdv ct) ⟨us, []⟩ ((["_law_top", "_law_bottom"] : List Str).zip us) := .of_eq (match us, hl with | [_, _], _ => rfl)
theorem df__law_low {K : PySem.W.Frag} {mg : Str → Option Value} {f : Addr} {fd : FuncData} (F : FunD K "_law_low" "_law_low" (defArgs s__law_low) (defBody s__law_low) (defScope s__law_low) [] [] f fd) (g : mg "_law_low" = some (.ref f)) : Df K mg "_law_low" s__law_low ["_law_top", "_law_bottom"] f fd := by
  obtain ⟨kV, doc, pm, an, cdv, ct, rfl, F⟩ := fun_of F
  have ⟨p0, p1, ea⟩ : ∃ p0 p1 : Pos, defArgs s__law_low = plainA [{ arg := "_law_top", annotation := none, pos := p0 }, { arg := "_law_bottom", annotation := none, pos := p1 }] := ⟨_, _, rfl⟩
  exact ⟨F, g, by rw [ea]; exact bp_12, no_kw (by decide +kernel), no_kw (by decide +kernel)⟩
theorem bp_13 {x q : Str} {p0 p1 : Pos} {body : List Stmt} {sc : Scope} {kV doc pm : Value} {an : Option Addr} {cdv ct : Value} (s : Shared) (us : List Value) (hl : us.length = 2) : BindsTo s (PySem.W.fnOf x q (plainA [{ arg := "_law_one", annotation := none, pos := p0 }, { arg := "_law_other", annotation := none, pos := p1 }]) body sc .none kV doc pm an cdv ct) ⟨us, []⟩ ((["_law_one", "_law_other"] : List Str).zip us) := .of_eq (match us, hl with | [_, _], _ => rfl)
theorem df__law_sum {K : PySem.W.Frag} {mg : Str → Option Value} {f : Addr} {fd : FuncData} (F : FunD K "_law_sum" "_law_sum" (defArgs s__law_sum) (defBody s__law_sum) (defScope s__law_sum) [] [] f fd) (g : mg "_law_sum" = some (.ref f)) : Df K mg "_law_sum" s__law_sum ["_law_one", "_law_other"] f fd := by
  obtain ⟨kV, doc, pm, an, cdv, ct, rfl, F⟩ := fun_of F
  have ⟨p0, p1, ea⟩ : ∃ p0 p1 : Pos, defArgs s__law_sum = plainA [{ arg := "_law_one", annotation := none, pos := p0 }, { arg := "_law_other", annotation := none, pos := p1 }] := ⟨_, _, rfl⟩
  exact ⟨F, g, by rw [ea]; exact bp_13, no_kw (by decide +kernel), no_kw (by decide +kernel)⟩
theorem bp_14 {x q : Str} {p0 : Pos} {body : List Stmt} {sc : Scope} {kV doc pm : Value} {an : Option Addr} {cdv ct : Value} (s : Shared) (us : List Value) (hl : us.length = 1) : BindsTo s (PySem.W.fnOf x q (plainA [{ arg := "_law_some", annotation := none, pos := p0 }]) body sc .none kV doc pm an cdv ct) ⟨us, []⟩ ((["_law_some"] : List Str).zip us) := .of_eq (match us, hl with | [_], _ => rfl)
theorem df__law_total {K : PySem.W.Frag} {mg : Str → Option Value} {f : Addr} {fd : FuncData} (F : FunD K "_law_total" "_law_total" (defArgs s__law_total) (defBody s__law_total) (defScope s__law_total) [] [] f fd) (g : mg "_law_total" = some (.ref f)) : Df K mg "_law_total" s__law_total ["_law_some"] f fd := by
  obtain ⟨kV, doc, pm, an, cdv, ct, rfl, F⟩ := fun_of F
  have ⟨p0, ea⟩ : ∃ p0 : Pos, defArgs s__law_total = plainA [{ arg := "_law_some", annotation := none, pos := p0 }] := ⟨_, rfl⟩
  exact ⟨F, g, by rw [ea]; exact bp_14, no_kw (by decide +kernel), no_kw (by decide +kernel)⟩
theorem bp_15 {x q : Str} {p0 : Pos} {body : List Stmt} {sc : Scope} {kV doc pm : Value} {an : Option Addr} {cdv ct : Value} (s : Shared) (us : List Value) (hl : us.length = 1) : BindsTo s (PySem.W.fnOf x q (plainA [{ arg := "_law_pot_here", annotation := none, pos := p0 }]) body sc .none kV doc pm an cdv ct) ⟨us, []⟩ ((["_law_pot_here"] : List Str).zip us) := .of_eq (match us, hl with | [_], _ => rfl)
theorem df__law_whole_some {K : PySem.W.Frag} {mg : Str → Option Value} {f : Addr} {fd : FuncData} (F : FunD K "_law_whole_some" "_law_whole_some" (defArgs s__law_whole_some) (defBody s__law_whole_some) (defScope s__law_whole_some) [] [] f fd) (g : mg "_law_whole_some" = some (.ref f)) : Df K mg "_law_whole_some" s__law_whole_some ["_law_pot_here"] f fd := by
  obtain ⟨kV, doc, pm, an, cdv, ct, rfl, F⟩ := fun_of F
  have ⟨p0, ea⟩ : ∃ p0 : Pos, defArgs s__law_whole_some = plainA [{ arg := "_law_pot_here", annotation := none, pos := p0 }] := ⟨_, rfl⟩
  exact ⟨F, g, by rw [ea]; exact bp_15, no_kw (by decide +kernel), no_kw (by decide +kernel)⟩
theorem bp_16 {x q : Str} {p0 p1 : Pos} {body : List Stmt} {sc : Scope} {kV doc pm : Value} {an : Option Addr} {cdv ct : Value} (s : Shared) (us : List Value) (hl : us.length = 2) : BindsTo s (PySem.W.fnOf x q (plainA [{ arg := "_law_pot_here", annotation := none, pos := p0 }, { arg := "_law_most", annotation := none, pos := p1 }]) body sc .none kV doc pm an cdv ct) ⟨us, []⟩ ((["_law_pot_here", "_law_most"] : List Str).zip us) := .of_eq (match us, hl with | [_, _], _ => rfl)
theorem df__law_weights {K : PySem.W.Frag} {mg : Str → Option Value} {f : Addr} {fd : FuncData} (F : FunD K "_law_weights" "_law_weights" (defArgs s__law_weights) (defBody s__law_weights) (defScope s__law_weights) [] [] f fd) (g : mg "_law_weights" = some (.ref f)) : Df K mg "_law_weights" s__law_weights ["_law_pot_here", "_law_most"] f fd := by
  obtain ⟨kV, doc, pm, an, cdv, ct, rfl, F⟩ := fun_of F
  have ⟨p0, p1, ea⟩ : ∃ p0 p1 : Pos, defArgs s__law_weights = plainA [{ arg := "_law_pot_here", annotation := none, pos := p0 }, { arg := "_law_most", annotation := none, pos := p1 }] := ⟨_, _, rfl⟩
  exact ⟨F, g, by rw [ea]; exact bp_16, no_kw (by decide +kernel), no_kw (by decide +kernel)⟩
theorem bp_17 {x q : Str} {p0 p1 : Pos} {body : List Stmt} {sc : Scope} {kV doc pm : Value} {an : Option Addr} {cdv ct : Value} (s : Shared) (us : List Value) (hl : us.length = 2) : BindsTo s (PySem.W.fnOf x q (plainA [{ arg := "_law_pot_here", annotation := none, pos := p0 }, { arg := "_law_weights_here", annotation := none, pos := p1 }]) body sc .none kV doc pm an cdv ct) ⟨us, []⟩ ((["_law_pot_here", "_law_weights_here"] : List Str).zip us) := .of_eq (match us, hl with | [_, _], _ => rfl)
theorem df__law_step {K : PySem.W.Frag} {mg : Str → Option Value} {f : Addr} {fd : FuncData} (F : FunD K "_law_step" "_law_step" (defArgs s__law_step) (defBody s__law_step) (defScope s__law_step) [] [] f fd) (g : mg "_law_step" = some (.ref f)) : Df K mg "_law_step" s__law_step ["_law_pot_here", "_law_weights_here"] f fd := by
  obtain ⟨kV, doc, pm, an, cdv, ct, rfl, F⟩ := fun_of F
  have ⟨p0, p1, ea⟩ : ∃ p0 p1 : Pos, defArgs s__law_step = plainA [{ arg := "_law_pot_here", annotation := none, pos := p0 }, { arg := "_law_weights_here", annotation := none, pos := p1 }] := ⟨_, _, rfl⟩
  exact ⟨F, g, by rw [ea]; exact bp_17, no_kw (by decide +kernel), no_kw (by decide +kernel)⟩
theorem bp_18 {x q : Str} {p0 p1 : Pos} {body : List Stmt} {sc : Scope} {kV doc pm : Value} {an : Option Addr} {cdv ct : Value} (s : Shared) (us : List Value) (hl : us.length = 2) : BindsTo s (PySem.W.fnOf x q (plainA [{ arg := "_law_weights_here", annotation := none, pos := p0 }, { arg := "_law_step_here", annotation := none, pos := p1 }]) body sc .none kV doc pm an cdv ct) ⟨us, []⟩ ((["_law_weights_here", "_law_step_here"] : List Str).zip us) := .of_eq (match us, hl with | [_, _], _ => rfl)
theorem df__law_many {K : PySem.W.Frag} {mg : Str → Option Value} {f : Addr} {fd : FuncData} (F : FunD K "_law_many" "_law_many" (defArgs s__law_many) (defBody s__law_many) (defScope s__law_many) [] [] f fd) (g : mg "_law_many" = some (.ref f)) : Df K mg "_law_many" s__law_many ["_law_weights_here", "_law_step_here"] f fd := by
  obtain ⟨kV, doc, pm, an, cdv, ct, rfl, F⟩ := fun_of F
  have ⟨p0, p1, ea⟩ : ∃ p0 p1 : Pos, defArgs s__law_many = plainA [{ arg := "_law_weights_here", annotation := none, pos := p0 }, { arg := "_law_step_here", annotation := none, pos := p1 }] := ⟨_, _, rfl⟩
  exact ⟨F, g, by rw [ea]; exact bp_18, no_kw (by decide +kernel), no_kw (by decide +kernel)⟩
theorem df__law_aims {K : PySem.W.Frag} {mg : Str → Option Value} {f : Addr} {fd : FuncData} (F : FunD K "_law_aims" "_law_aims" (defArgs s__law_aims) (defBody s__law_aims) (defScope s__law_aims) [] [] f fd) (g : mg "_law_aims" = some (.ref f)) : Df K mg "_law_aims" s__law_aims ["_law_weights_here", "_law_step_here"] f fd := by
  obtain ⟨kV, doc, pm, an, cdv, ct, rfl, F⟩ := fun_of F
  have ⟨p0, p1, ea⟩ : ∃ p0 p1 : Pos, defArgs s__law_aims = plainA [{ arg := "_law_weights_here", annotation := none, pos := p0 }, { arg := "_law_step_here", annotation := none, pos := p1 }] := ⟨_, _, rfl⟩
  exact ⟨F, g, by rw [ea]; exact bp_18, no_kw (by decide +kernel), no_kw (by decide +kernel)⟩
theorem df__law_fit_step {K : PySem.W.Frag} {mg : Str → Option Value} {f : Addr} {fd : FuncData} (F : FunD K "_law_fit_step" "_law_fit_step" (defArgs s__law_fit_step) (defBody s__law_fit_step) (defScope s__law_fit_step) [] [] f fd) (g : mg "_law_fit_step" = some (.ref f)) : Df K mg "_law_fit_step" s__law_fit_step ["_law_pot_here", "_law_weights_here"] f fd := by
  obtain ⟨kV, doc, pm, an, cdv, ct, rfl, F⟩ := fun_of F
  have ⟨p0, p1, ea⟩ : ∃ p0 p1 : Pos, defArgs s__law_fit_step = plainA [{ arg := "_law_pot_here", annotation := none, pos := p0 }, { arg := "_law_weights_here", annotation := none, pos := p1 }] := ⟨_, _, rfl⟩
  exact ⟨F, g, by rw [ea]; exact bp_17, no_kw (by decide +kernel), no_kw (by decide +kernel)⟩
theorem df__law_less {K : PySem.W.Frag} {mg : Str → Option Value} {f : Addr} {fd : FuncData} (F : FunD K "_law_less" "_law_less" (defArgs s__law_less) (defBody s__law_less) (defScope s__law_less) [] [] f fd) (g : mg "_law_less" = some (.ref f)) : Df K mg "_law_less" s__law_less ["_law_one", "_law_other"] f fd := by
  obtain ⟨kV, doc, pm, an, cdv, ct, rfl, F⟩ := fun_of F
  have ⟨p0, p1, ea⟩ : ∃ p0 p1 : Pos, defArgs s__law_less = plainA [{ arg := "_law_one", annotation := none, pos := p0 }, { arg := "_law_other", annotation := none, pos := p1 }] := ⟨_, _, rfl⟩
  exact ⟨F, g, by rw [ea]; exact bp_13, no_kw (by decide +kernel), no_kw (by decide +kernel)⟩
theorem bp_19 {x q : Str} {p0 p1 : Pos} {body : List Stmt} {sc : Scope} {kV doc pm : Value} {an : Option Addr} {cdv ct : Value} (s : Shared) (us : List Value) (hl : us.length = 2) : BindsTo s (PySem.W.fnOf x q (plainA [{ arg := "_law_some", annotation := none, pos := p0 }, { arg := "_law_counted", annotation := none, pos := p1 }]) body sc .none kV doc pm an cdv ct) ⟨us, []⟩ ((["_law_some", "_law_counted"] : List Str).zip us) := .of_eq (match us, hl with | [_, _], _ => rfl)
theorem df__law_worst {K : PySem.W.Frag} {mg : Str → Option Value} {f : Addr} {fd : FuncData} (F : FunD K "_law_worst" "_law_worst" (defArgs s__law_worst) (defBody s__law_worst) (defScope s__law_worst) [] [] f fd) (g : mg "_law_worst" = some (.ref f)) : Df K mg "_law_worst" s__law_worst ["_law_some", "_law_counted"] f fd := by
  obtain ⟨kV, doc, pm, an, cdv, ct, rfl, F⟩ := fun_of F
  have ⟨p0, p1, ea⟩ : ∃ p0 p1 : Pos, defArgs s__law_worst = plainA [{ arg := "_law_some", annotation := none, pos := p0 }, { arg := "_law_counted", annotation := none, pos := p1 }] := ⟨_, _, rfl⟩
  exact ⟨F, g, by rw [ea]; exact bp_19, no_kw (by decide +kernel), no_kw (by decide +kernel)⟩
theorem bp_20 {x q : Str} {p0 : Pos} {body : List Stmt} {sc : Scope} {kV doc pm : Value} {an : Option Addr} {cdv ct : Value} (s : Shared) (us : List Value) (hl : us.length = 1) : BindsTo s (PySem.W.fnOf x q (plainA [{ arg := "_law_counted", annotation := none, pos := p0 }]) body sc .none kV doc pm an cdv ct) ⟨us, []⟩ ((["_law_counted"] : List Str).zip us) := .of_eq (match us, hl with | [_], _ => rfl)
theorem df__law_moved {K : PySem.W.Frag} {mg : Str → Option Value} {f : Addr} {fd : FuncData} (F : FunD K "_law_moved" "_law_moved" (defArgs s__law_moved) (defBody s__law_moved) (defScope s__law_moved) [] [] f fd) (g : mg "_law_moved" = some (.ref f)) : Df K mg "_law_moved" s__law_moved ["_law_counted"] f fd := by
  obtain ⟨kV, doc, pm, an, cdv, ct, rfl, F⟩ := fun_of F
  have ⟨p0, ea⟩ : ∃ p0 : Pos, defArgs s__law_moved = plainA [{ arg := "_law_counted", annotation := none, pos := p0 }] := ⟨_, rfl⟩
  exact ⟨F, g, by rw [ea]; exact bp_20, no_kw (by decide +kernel), no_kw (by decide +kernel)⟩
theorem df__law_others {K : PySem.W.Frag} {mg : Str → Option Value} {f : Addr} {fd : FuncData} (F : FunD K "_law_others" "_law_others" (defArgs s__law_others) (defBody s__law_others) (defScope s__law_others) [] [] f fd) (g : mg "_law_others" = some (.ref f)) : Df K mg "_law_others" s__law_others ["_law_counted"] f fd := by
  obtain ⟨kV, doc, pm, an, cdv, ct, rfl, F⟩ := fun_of F
  have ⟨p0, ea⟩ : ∃ p0 : Pos, defArgs s__law_others = plainA [{ arg := "_law_counted", annotation := none, pos := p0 }] := ⟨_, rfl⟩
  exact ⟨F, g, by rw [ea]; exact bp_20, no_kw (by decide +kernel), no_kw (by decide +kernel)⟩
theorem bp_21 {x q : Str} {p0 p1 p2 p3 p4 : Pos} {body : List Stmt} {sc : Scope} {kV doc pm : Value} {an : Option Addr} {cdv ct : Value} (s : Shared) (us : List Value) (hl : us.length = 5) : BindsTo s (PySem.W.fnOf x q (plainA [{ arg := "_law_pot_here", annotation := none, pos := p0 }, { arg := "_law_weights_here", annotation := none, pos := p1 }, { arg := "_law_step_here", annotation := none, pos := p2 }, { arg := "_law_some", annotation := none, pos := p3 }, { arg := "_law_counted", annotation := none, pos := p4 }]) body sc .none kV doc pm an cdv ct) ⟨us, []⟩ ((["_law_pot_here", "_law_weights_here", "_law_step_here", "_law_some", "_law_counted"] : List Str).zip us) := .of_eq (match us, hl with | [_, _, _, _, _], _ => rfl)
theorem df__law_worsts_right {K : PySem.W.Frag} {mg : Str → Option Value} {f : Addr} {fd : FuncData} (F : FunD K "_law_worsts_right" "_law_worsts_right" (defArgs s__law_worsts_right) (defBody s__law_worsts_right) (defScope s__law_worsts_right) [] [] f fd) (g : mg "_law_worsts_right" = some (.ref f)) : Df K mg "_law_worsts_right" s__law_worsts_right ["_law_pot_here", "_law_weights_here", "_law_step_here", "_law_some", "_law_counted"] f fd := by
  obtain ⟨kV, doc, pm, an, cdv, ct, rfl, F⟩ := fun_of F
  have ⟨p0, p1, p2, p3, p4, ea⟩ : ∃ p0 p1 p2 p3 p4 : Pos, defArgs s__law_worsts_right = plainA [{ arg := "_law_pot_here", annotation := none, pos := p0 }, { arg := "_law_weights_here", annotation := none, pos := p1 }, { arg := "_law_step_here", annotation := none, pos := p2 }, { arg := "_law_some", annotation := none, pos := p3 }, { arg := "_law_counted", annotation := none, pos := p4 }] := ⟨_, _, _, _, _, rfl⟩
  exact ⟨F, g, by rw [ea]; exact bp_21, no_kw (by decide +kernel), no_kw (by decide +kernel)⟩
theorem bp_22 {x q : Str} {p0 p1 p2 : Pos} {body : List Stmt} {sc : Scope} {kV doc pm : Value} {an : Option Addr} {cdv ct : Value} (s : Shared) (us : List Value) (hl : us.length = 3) : BindsTo s (PySem.W.fnOf x q (plainA [{ arg := "_law_pot_here", annotation := none, pos := p0 }, { arg := "_law_weights_here", annotation := none, pos := p1 }, { arg := "_law_step_here", annotation := none, pos := p2 }]) body sc .none kV doc pm an cdv ct) ⟨us, []⟩ ((["_law_pot_here", "_law_weights_here", "_law_step_here"] : List Str).zip us) := .of_eq (match us, hl with | [_, _, _], _ => rfl)
theorem df__law_right {K : PySem.W.Frag} {mg : Str → Option Value} {f : Addr} {fd : FuncData} (F : FunD K "_law_right" "_law_right" (defArgs s__law_right) (defBody s__law_right) (defScope s__law_right) [] [] f fd) (g : mg "_law_right" = some (.ref f)) : Df K mg "_law_right" s__law_right ["_law_pot_here", "_law_weights_here", "_law_step_here"] f fd := by
  obtain ⟨kV, doc, pm, an, cdv, ct, rfl, F⟩ := fun_of F
  have ⟨p0, p1, p2, ea⟩ : ∃ p0 p1 p2 : Pos, defArgs s__law_right = plainA [{ arg := "_law_pot_here", annotation := none, pos := p0 }, { arg := "_law_weights_here", annotation := none, pos := p1 }, { arg := "_law_step_here", annotation := none, pos := p2 }] := ⟨_, _, _, rfl⟩
  exact ⟨F, g, by rw [ea]; exact bp_22, no_kw (by decide +kernel), no_kw (by decide +kernel)⟩
theorem bp_23 {x q : Str} {p0 : Pos} {body : List Stmt} {sc : Scope} {kV doc pm : Value} {an : Option Addr} {cdv ct : Value} (s : Shared) (us : List Value) (hl : us.length = 1) : BindsTo s (PySem.W.fnOf x q (plainA [{ arg := "_law_script", annotation := none, pos := p0 }]) body sc .none kV doc pm an cdv ct) ⟨us, []⟩ ((["_law_script"] : List Str).zip us) := .of_eq (match us, hl with | [_], _ => rfl)
theorem df_law {K : PySem.W.Frag} {mg : Str → Option Value} {f : Addr} {fd : FuncData} (F : FunD K "law" "law" (defArgs s_law) (defBody s_law) (defScope s_law) [] [] f fd) (g : mg "law" = some (.ref f)) : Df K mg "law" s_law ["_law_script"] f fd := by
  obtain ⟨kV, doc, pm, an, cdv, ct, rfl, F⟩ := fun_of F
  have ⟨p0, ea⟩ : ∃ p0 : Pos, defArgs s_law = plainA [{ arg := "_law_script", annotation := none, pos := p0 }] := ⟨_, rfl⟩
  exact ⟨F, g, by rw [ea]; exact bp_23, no_kw (by decide +kernel), no_kw (by decide +kernel)⟩

theorem all_mk {l : PySem.W.OpenLaw} {w : World} {K : PySem.W.Frag} {h : Heap} {mg : Str → Option Value} {fa : Addr} (X : K.In h) (G : h.Ns mainGlobals mg) (hfa : mg "law" = some (.ref fa)) (c : SaysY hdFa hdFn K) (hfile : l.prog.main.file = FILE) (htop : (l.prog.main.scope.names.lookup ("super" : Str)).isSome = false) :
    ∃ fd : FuncData, (∀ (s : Shared) (v : Value), BindsTo s fd ⟨[v], []⟩ [("_law_script", v)]) ∧ ∀ base : Heap, K.In base → base.Ns mainGlobals mg → FnG l.prog w K mg base CX0 13 fa fd ["_law_script"] (sp_law K) := by
  have M : Blt mg := ⟨He.free_ok X G (c.fact 17), He.free_ok X G (c.fact 18), He.free_ok X G (c.fact 19), He.free_ok X G (c.fact 20), He.free_ok X G (c.fact 21), He.free_ok X G (c.fact 22), He.free_ok X G (c.fact 23), He.free_ok X G (c.fact 24), He.free_ok X G (c.fact 25), He.free_ok X G (c.fact 26)⟩
  obtain ⟨xC, kC, bC, tC⟩ := He.exc_ok (c.fact 27)
  have T : ExT K mg "NoFraction" (He.ga K "NoFraction") := ⟨He.glo_ok X G (c.fact 29), xC, kC, bC, tC, He.exm_ok (c.fact 28)⟩
  obtain ⟨t_MOST_WEIGHTS, g_MOST_WEIGHTS⟩ := He.int_ok X G (c.fact 30)
  obtain ⟨fd0, FD0⟩ := c.def_ 0
  have D0 := df_is_whole FD0 (He.glo_ok X G (c.fact 31))
  obtain ⟨fd1, FD1⟩ := c.def_ 1
  have D1 := df_common FD1 (He.glo_ok X G (c.fact 32))
  obtain ⟨fd2, FD2⟩ := c.def_ 2
  have D2 := df_fraction FD2 (He.glo_ok X G (c.fact 33))
  obtain ⟨fd3, FD3⟩ := c.def_ 3
  have D3 := df_plus FD3 (He.glo_ok X G (c.fact 34))
  obtain ⟨fd4, FD4⟩ := c.def_ 4
  have D4 := df_minus FD4 (He.glo_ok X G (c.fact 35))
  obtain ⟨fd5, FD5⟩ := c.def_ 5
  have D5 := df_times FD5 (He.glo_ok X G (c.fact 36))
  obtain ⟨fd6, FD6⟩ := c.def_ 6
  have D6 := df_over FD6 (He.glo_ok X G (c.fact 37))
  obtain ⟨fd7, FD7⟩ := c.def_ 7
  have D7 := df_together FD7 (He.glo_ok X G (c.fact 38))
  obtain ⟨fd8, FD8⟩ := c.def_ 8
  have D8 := df_is_less FD8 (He.glo_ok X G (c.fact 39))
  obtain ⟨fd9, FD9⟩ := c.def_ 9
  have D9 := df_floor_of FD9 (He.glo_ok X G (c.fact 40))
  obtain ⟨fd10, FD10⟩ := c.def_ 10
  have D10 := df_is_fraction FD10 (He.glo_ok X G (c.fact 41))
  obtain ⟨fd11, FD11⟩ := c.def_ 11
  have D11 := df_is_above_0 FD11 (He.glo_ok X G (c.fact 42))
  obtain ⟨fd12, FD12⟩ := c.def_ 12
  have D12 := df_are_weights FD12 (He.glo_ok X G (c.fact 43))
  obtain ⟨fd13, FD13⟩ := c.def_ 13
  have D13 := df_above_floor FD13 (He.glo_ok X G (c.fact 44))
  obtain ⟨fd14, FD14⟩ := c.def_ 14
  have D14 := df_many_steps FD14 (He.glo_ok X G (c.fact 45))
  obtain ⟨fd15, FD15⟩ := c.def_ 15
  have D15 := df_aims FD15 (He.glo_ok X G (c.fact 46))
  obtain ⟨fd16, FD16⟩ := c.def_ 16
  have D16 := df_how_many_more FD16 (He.glo_ok X G (c.fact 47))
  obtain ⟨fd17, FD17⟩ := c.def_ 17
  have D17 := df_is_sooner FD17 (He.glo_ok X G (c.fact 48))
  obtain ⟨fd18, FD18⟩ := c.def_ 18
  have D18 := df_are_sooner FD18 (He.glo_ok X G (c.fact 49))
  obtain ⟨fd19, FD19⟩ := c.def_ 19
  have D19 := df_nearest FD19 (He.glo_ok X G (c.fact 50))
  obtain ⟨fd20, FD20⟩ := c.def_ 20
  have D20 := df_worst_of FD20 (He.glo_ok X G (c.fact 51))
  obtain ⟨fd21, FD21⟩ := c.def_ 21
  have D21 := df_rounded FD21 (He.glo_ok X G (c.fact 52))
  obtain ⟨fd22, FD22⟩ := c.def_ 22
  have D22 := df__law_cell FD22 (He.glo_ok X G (c.fact 53))
  obtain ⟨fd23, FD23⟩ := c.def_ 23
  have D23 := df__law_pot FD23 (He.glo_ok X G (c.fact 54))
  obtain ⟨fd24, FD24⟩ := c.def_ 24
  have D24 := df__law_draw FD24 (He.glo_ok X G (c.fact 55))
  obtain ⟨fd25, FD25⟩ := c.def_ 25
  have D25 := df__law_low FD25 (He.glo_ok X G (c.fact 56))
  obtain ⟨fd26, FD26⟩ := c.def_ 26
  have D26 := df__law_sum FD26 (He.glo_ok X G (c.fact 57))
  obtain ⟨fd27, FD27⟩ := c.def_ 27
  have D27 := df__law_total FD27 (He.glo_ok X G (c.fact 58))
  obtain ⟨fd28, FD28⟩ := c.def_ 28
  have D28 := df__law_whole_some FD28 (He.glo_ok X G (c.fact 59))
  obtain ⟨fd29, FD29⟩ := c.def_ 29
  have D29 := df__law_weights FD29 (He.glo_ok X G (c.fact 60))
  obtain ⟨fd30, FD30⟩ := c.def_ 30
  have D30 := df__law_step FD30 (He.glo_ok X G (c.fact 61))
  obtain ⟨fd31, FD31⟩ := c.def_ 31
  have D31 := df__law_many FD31 (He.glo_ok X G (c.fact 62))
  obtain ⟨fd32, FD32⟩ := c.def_ 32
  have D32 := df__law_aims FD32 (He.glo_ok X G (c.fact 63))
  obtain ⟨fd33, FD33⟩ := c.def_ 33
  have D33 := df__law_fit_step FD33 (He.glo_ok X G (c.fact 64))
  obtain ⟨fd34, FD34⟩ := c.def_ 34
  have D34 := df__law_less FD34 (He.glo_ok X G (c.fact 65))
  obtain ⟨fd35, FD35⟩ := c.def_ 35
  have D35 := df__law_worst FD35 (He.glo_ok X G (c.fact 66))
  obtain ⟨fd36, FD36⟩ := c.def_ 36
  have D36 := df__law_moved FD36 (He.glo_ok X G (c.fact 67))
  obtain ⟨fd37, FD37⟩ := c.def_ 37
  have D37 := df__law_others FD37 (He.glo_ok X G (c.fact 68))
  obtain ⟨fd38, FD38⟩ := c.def_ 38
  have D38 := df__law_worsts_right FD38 (He.glo_ok X G (c.fact 69))
  obtain ⟨fd39, FD39⟩ := c.def_ 39
  have D39 := df__law_right FD39 (He.glo_ok X G (c.fact 70))
  obtain ⟨fd40, FD40⟩ := c.def_ 40
  have D40 := df_law FD40 (He.glo_ok X G (c.fact 71))
  have e := hfa.symm.trans D40.g
  cases e
  refine ⟨_, fun s v => D40.b1 s [v] rfl, fun base _ _ => ?_⟩
  have Mx : Bltx mg := ⟨He.free_ok X G (c.fact 0), He.free_ok X G (c.fact 1), He.free_ok X G (c.fact 2)⟩
  have hn : PySem.W.specialIn K (.builtin "object.__class__") "__get__" = some (some (.builtin "getset_descriptor.__get__")) := of_decide_eq_true (c.fact 3)
  have htk : PySem.W.takesIn K (.builtin "object.__class__") = some true := of_decide_eq_true (c.fact 4)
  have ml := He.free_ok X G (c.fact 5)
  have ms := He.free_ok X G (c.fact 6)
  have Gc0 := He.glo_ok X G (c.fact 7)
  have Tc0 : ∀ H, SqT K H (He.ga K "NONE_OF_IT") [.int 0, .int 1] := fun H => He.tupB_ok (c.fact 8) H
  have msum := He.free_ok X G (c.fact 9)
  have mzi := He.free_ok X G (c.fact 10)
  have many_ := He.free_ok X G (c.fact 11)
  have menu := He.free_ok X G (c.fact 12)
  obtain ⟨x_TT, k_TT, b_TT, t_TT⟩ := He.exc_ok (c.fact 13)
  have TT : ExT K mg "TooLittle" (He.ga K "TooLittle") := ⟨He.glo_ok X G (c.fact 16), x_TT, k_TT, b_TT, t_TT, He.exm_ok (c.fact 14)⟩
  have TTE : ExcC K (He.ga K "TooLittle") := (excB_ok (c.fact 15)).1
  have C1 : Cal l.prog w K mg base CX0 1 "common" ["one", "other"] (spCom) := D1.cal (ok_com D1.fn)
  have C2 : Cal l.prog w K mg base CX0 2 "fraction" ["top", "bottom"] (fun _ _ _ _ => False) := D2.cal FnG.no
  have C4 : Cal l.prog w K mg base CX0 4 "fraction" ["top", "bottom"] (spFrac true) := by
    have P1 : FnG l.prog w K mg base CX0 3 _ _ ["top", "bottom"] (spFrac false) := ok_frac (j := 1) false _ (fun n d H Q hd hs => by
      obtain ⟨n', d', e, _, hp, _⟩ := hs
      cases e
      have := hp rfl
      omega) M T D2.fn C1 C2
    have CR : Cal l.prog w K mg base CX0 3 "fraction" ["top", "bottom"] (spFrac false) := D2.cal P1
    exact D2.cal (ok_frac (j := 2) true _ (fun n d H Q hd hs => by
      obtain ⟨n', d', e, h0, _, h1, h2, q⟩ := hs
      cases e
      refine ⟨-n, -d, rfl, by omega, fun _ => by omega, ?_, ?_, ?_⟩
      · show (-n).natAbs < _
        rw [Int.natAbs_neg]
        exact h1
      · show (-d).natAbs < _
        rw [Int.natAbs_neg]
        exact h2
      · rw [low_neg]
        exact q) M T D2.fn C1 CR)
  have CPl : Cal l.prog w K mg base CX0 5 "plus" ["one", "other"] (sp_plus K) := D3.cal (ok_plus D3.fn C4)
  have CMi : Cal l.prog w K mg base CX0 5 "minus" ["one", "other"] (sp_minus K) := D4.cal (ok_minus D4.fn C4)
  have CTi : Cal l.prog w K mg base CX0 5 "times" ["one", "other"] (sp_times K) := D5.cal (ok_times D5.fn C4)
  have COv : Cal l.prog w K mg base CX0 5 "over" ["one", "other"] (sp_over K) := D6.cal (ok_over D6.fn C4)
  have CL : Cal l.prog w K mg base CX0 1 "is_less" ["one", "other"] (sp_is_less K) := D8.cal (ok_is_less D8.fn)
  have CTg : Cal l.prog w K mg base CX0 6 "together" ["ones"] (sp_togL K) := D7.cal (ok_togL Gc0 Tc0 D7.fn CPl)
  have CW : Cal l.prog w K mg base CX0 1 "is_whole" ["thing"] (sp_whole K) := D0.cal (ok_whole M Mx D0.fn)
  have CF : Cal l.prog w K mg base CX0 2 "is_fraction" ["thing"] (sp_isfr K) := D10.cal (ok_isfr M Mx D10.fn CW C1)
  have CA : Cal l.prog w K mg base CX0 3 "is_above_0" ["thing"] (sp_ab0 K) := D11.cal (ok_ab0 D11.fn CF)
  have CTgT : Cal l.prog w K mg base CX0 6 "together" ["ones"] (sp_togT K) := D7.cal (ok_togT Gc0 Tc0 D7.fn CPl)
  have AL : Cal l.prog w K mg base CX0 4 "are_weights" ["thing"] (sp_arewL K) := D12.cal (ok_arewL M Mx ml g_MOST_WEIGHTS D12.fn CA)
  have AT : Cal l.prog w K mg base CX0 4 "are_weights" ["thing"] (sp_arewT K) := D12.cal (ok_arewT M Mx ml g_MOST_WEIGHTS D12.fn CA)
  have FL : Cal l.prog w K mg base CX0 1 "floor_of" ["one"] (sp_floor K) := D9.cal (ok_floor D9.fn)
  have ML : Cal l.prog w K mg base (L2.CX l.prog w) 7 "many_steps" ["weights", "step"] (sp_manyL K (He.ga K "TooLittle")) := D14.cal (ok_manyL TT D14.fn AL CA CTg COv FL)
  have MT : Cal l.prog w K mg base (L2.CX l.prog w) 7 "many_steps" ["weights", "step"] (sp_manyT K (He.ga K "TooLittle")) := D14.cal (ok_manyT TT D14.fn AT CA CTgT COv FL)
  have IL : Cal l.prog w K mg base (L2.CX l.prog w) 8 "aims" ["weights", "step"] (sp_aimsL K (He.ga K "TooLittle")) := D15.cal (ok_aimsL D15.fn ML CTg COv CTi)
  have IT : Cal l.prog w K mg base (L2.CX l.prog w) 8 "aims" ["weights", "step"] (sp_aimsT K (He.ga K "TooLittle")) := D15.cal (ok_aimsT D15.fn MT CTgT COv CTi)
  have MX : Cal l.prog w K mg base CX0 7 "many_steps" ["weights", "step"] (sp_manyX K) := D14.cal (ok_manyX (ok_manyL TT D14.fn AL CA CTg COv FL) (ok_manyT TT D14.fn AT CA CTgT COv FL))
  have IX : Cal l.prog w K mg base CX0 8 "aims" ["weights", "step"] (sp_aimsX K) := D15.cal (ok_aimsX (ok_aimsL D15.fn ML CTg COv CTi) (ok_aimsT D15.fn MT CTgT COv CTi))
  have TgX : Cal l.prog w K mg base CX0 6 "together" ["ones"] (sp_togX K) := D7.cal (ok_togX (ok_togL Gc0 Tc0 D7.fn CPl) (ok_togT Gc0 Tc0 D7.fn CPl))
  have AB : Cal l.prog w K mg base CX0 6 "above_floor" ["one"] (sp_above K) := D13.cal (ok_above D13.fn FL CMi)
  have MO : Cal l.prog w K mg base CX0 9 "how_many_more" ["weights", "step"] (sp_more K) := D16.cal (ok_more msum D16.fn FL IX MX)
  have SO : Cal l.prog w K mg base CX0 2 "is_sooner" ["aboves", "one", "other"] (sp_sooner K) := D17.cal (ok_sooner D17.fn CL)
  have AS : Cal l.prog w K mg base CX0 3 "are_sooner" ["aboves", "place"] (sp_aresooner K) := D18.cal (ok_aresooner M D18.fn SO)
  have NE : Cal l.prog w K mg base CX0 10 "nearest" ["weights", "step"] (sp_nearest K) := D19.cal (ok_nearest M D19.fn FL AB IX MO AS)
  have WO : Cal l.prog w K mg base CX0 9 "worst_of" ["weights", "step", "counted"] (sp_worst K) := D20.cal (ok_worst M mzi Gc0 Tc0 D20.fn IX CMi CL)
  have RO : Cal l.prog w K mg base CX0 11 "rounded" ["weights", "step"] (sp_rounded K) := D21.cal (ok_rounded D21.fn NE TgX MX CTi CMi WO)
  have menu := He.free_ok X G (c.fact 12)
  have WT : Cal l.prog w K mg base CX0 9 "worst_of" ["weights", "step", "counted"] (sp_worstT K) := D20.cal (ok_worstT M mzi Gc0 Tc0 D20.fn IX CMi CL)
  have WX : Cal l.prog w K mg base CX0 9 "worst_of" ["weights", "step", "counted"] (sp_worstX K) := D20.cal ((ok_worst M mzi Gc0 Tc0 D20.fn IX CMi CL).or (ok_worstT M mzi Gc0 Tc0 D20.fn IX CMi CL))
  have B1 : Cal l.prog w K mg base CX0 1 "_law_cell" ["_law_script", "_law_k"] (sp_cell K) := D22.cal (ok_cell M D22.fn)
  have B2 : Cal l.prog w K mg base CX0 1 "_law_pot" ["_law_cell_here"] (sp_pot) := D23.cal (ok_pot M D23.fn)
  have B3 : Cal l.prog w K mg base CX0 1 "_law_draw" ["_law_pot_here", "_law_many_here"] (sp_draw) := D24.cal (ok_draw M D24.fn)
  have B4 : Cal l.prog w K mg base CX0 1 "_law_low" ["_law_top", "_law_bottom"] (sp_low) := D25.cal (ok_low M D25.fn)
  have BS : Cal l.prog w K mg base CX0 2 "_law_sum" ["_law_one", "_law_other"] (sp_plus K) := D26.cal (ok_lsum D26.fn B4)
  have BT : Cal l.prog w K mg base CX0 3 "_law_total" ["_law_some"] (sp_togL K) := D27.cal (ok_ltotal D27.fn BS)
  have B7 : Cal l.prog w K mg base CX0 2 "_law_whole_some" ["_law_pot_here"] (sp_wsome K) := D28.cal (ok_wsome D28.fn B3 B4)
  have B8 : Cal l.prog w K mg base CX0 3 "_law_weights" ["_law_pot_here", "_law_most"] (sp_weights K) := D29.cal (ok_weights M D29.fn B3 B4 B7)
  have B9 : Cal l.prog w K mg base CX0 4 "_law_step" ["_law_pot_here", "_law_weights_here"] (sp_step K) := D30.cal (ok_step M D30.fn B3 B4 B7 BT)
  have BM : Cal l.prog w K mg base CX0 4 "_law_many" ["_law_weights_here", "_law_step_here"] (sp_lmany K) := D31.cal (ok_lmany D31.fn BT)
  have BA : Cal l.prog w K mg base CX0 5 "_law_aims" ["_law_weights_here", "_law_step_here"] (sp_laims K) := D32.cal (ok_laims D32.fn BT BM B4)
  have BF : Cal l.prog w K mg base CX0 5 "_law_fit_step" ["_law_pot_here", "_law_weights_here"] (sp_fit K) := D33.cal (ok_fit D33.fn B9 BM)
  have BL : Cal l.prog w K mg base CX0 1 "_law_less" ["_law_one", "_law_other"] (sp_is_less K) := D34.cal (ok_lless D34.fn)
  have BW : Cal l.prog w K mg base CX0 2 "_law_worst" ["_law_some", "_law_counted"] (sp_lworst K) := D35.cal (ok_lworst M mzi D35.fn BL)
  have BV : Cal l.prog w K mg base CX0 1 "_law_moved" ["_law_counted"] (sp_moved K) := D36.cal (ok_moved M menu D36.fn)
  have BO : Cal l.prog w K mg base CX0 2 "_law_others" ["_law_counted"] (sp_others K) := D37.cal (ok_others M msum D37.fn BV)
  have BR : Cal l.prog w K mg base CX0 10 "_law_worsts_right" ["_law_pot_here", "_law_weights_here", "_law_step_here", "_law_some", "_law_counted"] (sp_wright K) := D38.cal (ok_wright M Mx ml msum D38.fn B3 B4 BV BW WX)
  have BZ : Cal l.prog w K mg base CX0 12 "_law_right" ["_law_pot_here", "_law_weights_here", "_law_step_here"] (sp_right K) := D39.cal (ok_right M Mx ml msum D39.fn RO BM B4 BL BS BT BA BW BO BR)
  exact ok_law M Mx ml D40.fn B1 B2 B3 B8 BF BZ
end Lf

set_option Elab.async false
set_option linter.all false
set_option maxRecDepth 100000
set_option maxHeartbeats 0
namespace Lf
open PySem PySem.Spec PyProof.Rows L2
end Lf
open PySem PySem.W PySem.Calls PyProof.Rows
theorem PySem.Challenge.cw_loafshares_k53_whole_none_nearer_holds : PySem.Challenge.rw_loafshares_k53_whole_none_nearer.Holds := by
  w_on; o_law
  refine HandSHeadRun.head_any (r := OpenLaw.row PySem.Challenge.rw_loafshares_k53_whole_none_nearer) (q := view (OpenLaw.row PySem.Challenge.rw_loafshares_k53_whole_none_nearer).prog [51]) (H := Lf.hdK) (ob := Lf.hdOb) (M := 14000) (loose := Lf.hdLoose) (d := HandSHeadRun.topDef (OpenLaw.row PySem.Challenge.rw_loafshares_k53_whole_none_nearer).prog 51) (kwd := []) Lf.hdOb_eq
    (by kernel_rfl) (fun s => by kernel_rfl) Lf.hdRun (by kernel_rfl) (by kernel_rfl) (by kernel_rfl) (by rfl) (by first | assumption | decide +kernel) (by decide +kernel) ⟨rfl, rfl, rfl, rfl, rfl, by decide +kernel⟩ ?hw ?hc
  case hw => w_witness2
  case hc =>
    refine Lf.walkX (l := PySem.Challenge.rw_loafshares_k53_whole_none_nearer) (n := 63) (k := 13) (x := "_law_script") (sp := Lf.sp_law) rfl (by decide) (by kernel_rfl) ⟨rfl, by decide, by decide⟩ ?F (fun K H a ns hl _ hS => ⟨a, ns, rfl, hS, hl, fun _ => rfl⟩)
    intro w mg fa h Y G hmg0
    obtain ⟨K, KX, c⟩ := Y
    have hmg : mg ("law" : PySem.Str) = some (.ref fa) := by
      have e : (HandSHeadRun.topDef (OpenLaw.row PySem.Challenge.rw_loafshares_k53_whole_none_nearer).prog 51).name = ("law" : PySem.Str) := by kernel_rfl
      rw [← e]
      exact hmg0
    obtain ⟨fd, hb, hF⟩ := Lf.all_mk (l := PySem.Challenge.rw_loafshares_k53_whole_none_nearer) (w := w) KX G hmg c (by kernel_rfl) (by kernel_rfl)
    exact ⟨K, KX, fd, hb, hF⟩
