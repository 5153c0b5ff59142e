import PyProof.Rows.All
import Wide.All
import OpenK.AllK
import Wide.FinOn
import HandS.ForExc
import HandS.Comp
import HandS.Wide
import HandS.FStr
import HandS.IsInst
import HandS.Dict
import KE.KIsAll
import KE.KExcIs
import KE.KTryMore
import HandS.Base
import HandS.Call
import HandS.Exc
import HandS.ExcIs
import HandS.ExcField
import HandS.ExcOwn
import KE.DataMinMax
import PyProof.Rows.AssignMoreSeq
import HandS.Walk
import HandS.Iter
import HandS.Deep
import HandS.Text
import HandS.CallLocal
import HandS.WideBits
import HandS.Steps
import HandS.Zip
import HandS.Style
import PyProof.CallFns
import PySem.Challenge.RW_loafshares_k55_whole_papers_show
set_option Elab.async false
set_option linter.all false
set_option maxRecDepth 100000
set_option maxHeartbeats 4000000
/-! Defs that show data by repr: the promise FnG holds where nothing is being shown (no guard stands), as it is behind a law's call. -/
namespace Lf
open PySem PySem.Spec PyProof.Rows L2
/-- a def's promise where no guard stands -/
structure FnG (P : Program) (w : World) (K : PySem.W.Frag) (mg : Str → Option Value) (base : Heap) (CX : CXT) (k : Nat) (f : Addr) (fd : FuncData) (ps : List Str) (sp : Sp) : Prop where
  size : ∀ vs H Q E, sp vs H Q E → vs.length = ps.length
  goes : ∀ (B : Around) (out : List Env) (s : Shared) (H : Hp) (ar : Args) (us : List Value) (vs : List V) (Q : VK) (E : XK),
    Room k B → B.guards = some [] → Env0 P w K mg base B out s H → BindsTo s fd ar (ps.zip us) → Vals vs us → sp vs H Q E →
      codeAny (model P w) B (.call (.ref f) ar) (CR CX out P w H s Q E) s
section
variable {P : Program} {w : World} {K : PySem.W.Frag} {mg : Str → Option Value} {base : Heap} {CX : CXT} {k : Nat} {f : Addr} {fd : FuncData} {ps : List Str} {sp : Sp}
theorem FnG.mono {j : Nat} (F : FnG P w K mg base CX j f fd ps sp) (h : j ≤ k) : FnG P w K mg base CX k f fd ps sp :=
  ⟨F.size, fun B out s H ar us vs Q E r => F.goes B out s H ar us vs Q E (r.mono h)⟩
theorem FnG.of (F : FnOk P w K mg base CX k f fd ps sp) : FnG P w K mg base CX k f fd ps sp :=
  ⟨F.len, fun B out s H ar us vs Q E r _ => F.run B out s H ar us vs Q E r⟩
/-- by its body: behind the entry no guard stands either -/
theorem GfunX {x qual : Str} {st : Stmt} {N : List Str} (F : Fun K x qual st f fd) (S : FnScope N ps (defScope st)) (size : ∀ vs H Q E, sp vs H Q E → vs.length = ps.length)
    (body : ∀ (cdv : Value) (B : Around) (out : List Env) (s : Shared) (H : Hp) (vs : List V) (Q : VK) (E : XK), B.guards = some [] →
      Room k (B.deeper (envOfC qual (defScope st) s.heap.objs.size f cdv)) → sp vs H Q E →
      ∃ t, PSs (cxOf CX P w K mg base N qual (defScope st) f cdv B out s H E) (defBody st) t ∧
        t { nx := fun _ H' => Q .non H', rt := Q } (start N vs) H) : FnG P w K mg base CX (k + 1) f fd ps sp := by
  obtain ⟨oc, od, kV, doc, pm, an, cdv, ct, osl, rfl, lk, hcd⟩ := F.ex
  refine ⟨size, fun B out s H ar us vs Q E hr hg e0 hb r hs => ?_⟩
  have old : ∀ b o, base.get? b = some o → s.heap.get? b = some o := fun b o e => (e0.bs b o e).1
  have kin : K.In s.heap := e0.mod.kin.keeps old
  refine codeAny_call_function hr.depth (kin _ _ lk) rfl S.co S.gen rfl (PySem.W.codeRec_of kin hcd) (hb _ _ _ _ ?_)
  refine wpAny_newFunctionEnv_cells S.kind (fun ⟨n, v⟩ hy => ?_) fun env he s1 x => ?_
  · rcases S.par n (List.of_mem_zip hy).1 with q | q
    · exact Or.inl q
    · exact Or.inr ⟨q, PySem.W.cellsFrom_some _ _ _ (Or.inl q)⟩
  · subst he
    refine ⟨(e0.mod.nolimit.keeps old).keeps x.toInCall.keep, codeAny_func ?_⟩
    obtain ⟨t, ht, hq⟩ := body cdv B out s H vs Q E hg (hr.deeper _) hs
    have I := inv_start (CX := CX) (N := N) (qual := qual) (cd := cdv) (E := E) S hr.hd e0 (size _ _ _ _ hs) r x
    refine wpAny_mono (ht.run [] s1 (start N vs) H _ I hq) (fun fl s' hs' => ?_) fun e s' z => z
    cases fl with
    | ret u =>
      obtain ⟨v, σ', H', J, rv, q⟩ := hs'
      exact ⟨v, H', J.os, J.bare, J.base, J.hok, rv, q⟩
    | next =>
      obtain ⟨σ', H', J, q⟩ := hs'
      exact ⟨V.non, H', J.os, J.bare, J.base, J.hok, rfl, q⟩
    | brk =>
      obtain ⟨_, _, _, q⟩ := hs'
      exact q.elim
    | cont =>
      obtain ⟨_, _, _, q⟩ := hs'
      exact q.elim
theorem Gfun {x qual : Str} {st : Stmt} {N : List Str} (F : Fun K x qual st f fd) (S : FnScope N ps (defScope st)) (size : ∀ vs H Q E, sp vs H Q E → vs.length = ps.length)
    (body : ∀ (cdv : Value) (B : Around) (out : List Env) (s : Shared) (H : Hp) (vs : List V) (Q : VK) (E : XK), B.guards = some [] →
      Room k (B.deeper (envOfC qual (defScope st) s.heap.objs.size f cdv)) → sp vs H Q E →
      ∃ t, PSs (cxOf CX0 P w K mg base N qual (defScope st) f cdv B out s H E).nox (defBody st) t ∧
        t { nx := fun _ H' => Q .non H', rt := Q } (start N vs) H) : FnG P w K mg base CX0 (k + 1) f fd ps sp :=
  GfunX F S size fun cdv B out s H vs Q E hg hr hs => by
    obtain ⟨t, ht, hq⟩ := body cdv B out s H vs Q E hg hr hs
    exact ⟨t, ht.nox, hq⟩
end
/-- a def of the module's name x that keeps sp, by level k -/
structure Cal (P : Program) (w : World) (K : PySem.W.Frag) (mg : Str → Option Value) (base : Heap) (CX : CXT) (k : Nat) (x : Str) (ps : List Str) (sp : Sp) : Prop where
  ex : ∃ (f : Addr) (fd : FuncData), FnG P w K mg base CX k f fd ps sp ∧ (∀ (s : Shared) (us : List Value), us.length = ps.length → BindsTo s fd ⟨us, []⟩ (ps.zip us)) ∧
    (∀ (s : Shared) (us : List Value), us.length = ps.length → BindsTo s fd ⟨[], ps.zip us⟩ (ps.zip us)) ∧
    (∀ (s : Shared) (us : List Value), us.length = ps.length → BindsTo s fd ⟨[], ps.reverse.zip us⟩ (ps.zip us.reverse)) ∧ mg x = some (.ref f) ∧ PySem.W.keepIn K (.ref f) = true
theorem paired_rev {α β : Type} {R : α → β → Prop} : ∀ {xs : List α} {ys : List β}, Paired R xs ys → Paired R xs.reverse ys.reverse := by
  have app : ∀ {xs : List α} {ys : List β} {x : α} {y : β}, Paired R xs ys → R x y → Paired R (xs ++ [x]) (ys ++ [y]) := by
    intro xs ys x y h r
    induction h with
    | nil => exact .cons r .nil
    | cons q _ ih => exact .cons q ih
  intro xs ys h
  induction h with
  | nil => exact .nil
  | cons r _ ih =>
    rw [List.reverse_cons, List.reverse_cons]
    exact app ih r
section
variable {X : Cx} {CX : CXT} {k i : Nat} {f : Addr} {fd : FuncData} {ps : List Str} {sp : Sp} {x : Str} {p pos : Pos} {e : Expr} {es : List Expr} {kws : List Keyword} {t : TA}
/-- what is raised is wished for at the caller's slots -/
theorem run_g {pins : List (Addr × Obj)} {σ : L2.St} {H : Hp} {s : Shared} {Q : VK} {us : List Value} {vs : List V} {ar : Args} {E : XK} (F : FnG X.prog X.w X.K X.mg X.base CX k f fd ps sp) (hr : Room k X.A) (hG : X.A.guards = some [])
    (hx : PassesAt CX X σ E) (I : Inv X pins σ H s) (hb : BindsTo s fd ar (ps.zip us)) (r : Vals vs us) (h : sp vs H Q E) : wpAny (model X.prog X.w) X.A (call (.ref f) ar.pos ar.kw) (EP X pins σ Q) X.xe s := by
  refine wpAny_call (codeAny_mono (F.goes X.A X.stack s H ar us vs Q E hr hG I.env0 hb r h) fun z s' hq => ?_)
  cases z with
  | error e => exact hx pins H s e s' I hq
  | ok fl =>
    cases fl with
    | ret u => exact I.after hq
    | next => exact False.elim hq
    | brk => exact False.elim hq
    | cont => exact False.elim hq
/-- f(e, ..); E: what is wished of an exception at the slots -/
def tG (sp : Sp) (E : L2.St → XK) (t : TA) : TE := fun σ H Q => t σ H fun vs H1 => sp vs H1 Q (E σ)
theorem pe_gS {E : L2.St → XK} (C : Cal X.prog X.w X.K X.mg X.base CX k x ps sp) (hr : Room k X.A) (hG : X.A.guards = some []) (hx : ∀ σ, PassesAt CX X σ (E σ)) (ha : PA X (e :: es) t) (hg : Gl X x := by rfl)
    (hdb : (x == ("__debug__" : Str)) = false := by decide) (he : starEach (e :: es) X.env = (false, eval e X.env) :: starEach es X.env := by rfl)
    (hpl : (backTo pos (starEach es X.env)).any (·.1) = false := by rfl) : PE X (.Call (.Name x p) (e :: es) [] pos) (tG sp E t) := by
  obtain ⟨f, fd, F, hb, _, _, hm, hk⟩ := C.ex
  refine ⟨fun pins s σ H Q I h => wpAny_Call_Name_kw (ld_glob I hg hm (PySem.W.callWith_K (h₀ := X.base) I.ok.mod.kin hk
    (thn (ha.run pos pins s σ H _ I h) fun us s1 ⟨vs, H1, I1, r, q⟩ => ⟨I1.kIn, ?_⟩) he hpl) hdb)⟩
  exact run_g (ar := ⟨us, []⟩) F hr hG (hx σ) I1 (hb s1 us (r.length.symm.trans (F.size _ _ _ _ q))) r q
theorem pass_no {σ : L2.St} : PassesAt CX0 X σ E0 := fun _ _ _ _ _ _ z => z.elim
theorem pe_g (C : Cal X.prog X.w X.K X.mg X.base CX0 k x ps sp) (hr : Room k X.A) (hG : X.A.guards = some []) (ha : PA X (e :: es) t) (hg : Gl X x := by rfl)
    (hdb : (x == ("__debug__" : Str)) = false := by decide) (he : starEach (e :: es) X.env = (false, eval e X.env) :: starEach es X.env := by rfl)
    (hpl : (backTo pos (starEach es X.env)).any (·.1) = false := by rfl) : PE X (.Call (.Name x p) (e :: es) [] pos) (tG sp (fun _ => E0) t) :=
  pe_gS C hr hG (fun _ => pass_no) ha hg hdb he hpl
/-- f(a = e, ..): all by names, in the parameters' order -/
theorem pe_gk (C : Cal X.prog X.w X.K X.mg X.base CX0 k x ps sp) (hr : Room k X.A) (hG : X.A.guards = some []) (ha : PK X kws t) (hks : (backToKw pos (keywordEach kws X.env)).filterMap (·.1) = ps := by rfl) (hg : Gl X x := by rfl)
    (hall : (backToKw pos (keywordEach kws X.env)).all (·.1.isSome) = true := by rfl) (hdb : (x == ("__debug__" : Str)) = false := by decide)
    (hpl : ((backTo pos (starEach [] X.env)).any (·.1) || (backToKw pos (keywordEach kws X.env)).any (·.1.isNone)) = false := by rfl) : PE X (.Call (.Name x p) [] kws pos) (tG sp (fun _ => E0) t) := by
  obtain ⟨f, fd, F, _, hb, _, hm, hk⟩ := C.ex
  refine ⟨fun pins s σ H Q I h => wpAny_Call_Name_kw (ld_glob I hg hm (PySem.W.callWith_KW0 (h₀ := X.base) I.ok.mod.kin hk hall (thn (ha.run pos pins s σ H _ I h) fun us s1 ⟨vs, H1, I1, r, q⟩ => ⟨I1.kIn, ?_⟩) hpl) hdb)⟩
  rw [hks]
  exact run_g (ar := ⟨[], ps.zip us⟩) F hr hG pass_no I1 (hb s1 us (r.length.symm.trans (F.size _ _ _ _ q))) r q
/-- f(b = e, a = ..): all by names, from the last parameter to the first -/
def tGr (sp : Sp) (t : TA) : TE := fun σ H Q => t σ H fun vs H1 => sp vs.reverse H1 Q E0
theorem pe_gr (C : Cal X.prog X.w X.K X.mg X.base CX0 k x ps sp) (hr : Room k X.A) (hG : X.A.guards = some []) (ha : PK X kws t) (hks : (backToKw pos (keywordEach kws X.env)).filterMap (·.1) = ps.reverse := by rfl) (hg : Gl X x := by rfl)
    (hall : (backToKw pos (keywordEach kws X.env)).all (·.1.isSome) = true := by rfl) (hdb : (x == ("__debug__" : Str)) = false := by decide)
    (hpl : ((backTo pos (starEach [] X.env)).any (·.1) || (backToKw pos (keywordEach kws X.env)).any (·.1.isNone)) = false := by rfl) : PE X (.Call (.Name x p) [] kws pos) (tGr sp t) := by
  obtain ⟨f, fd, F, _, _, hb, hm, hk⟩ := C.ex
  refine ⟨fun pins s σ H Q I h => wpAny_Call_Name_kw (ld_glob I hg hm (PySem.W.callWith_KW0 (h₀ := X.base) I.ok.mod.kin hk hall (thn (ha.run pos pins s σ H _ I h) fun us s1 ⟨vs, H1, I1, r, q⟩ => ⟨I1.kIn, ?_⟩) hpl) hdb)⟩
  rw [hks]
  have hl : us.length = ps.length := r.length.symm.trans ((List.length_reverse (as := vs)).symm.trans (F.size _ _ _ _ q))
  exact run_g (ar := ⟨[], ps.reverse.zip us⟩) (us := us.reverse) (vs := vs.reverse) F hr hG pass_no I1 (hb s1 us hl) (paired_rev r) q
/-- d(e, ..) where the i-th slot holds the def of the module's name y -/
def tGl (i : Nat) (mg : Str → Option Value) (y : Str) (sp : Sp) (E : L2.St → XK) (t : TA) : TE := fun σ H Q => ∃ f, mg y = some (.ref f) ∧ σ[i]? = some (some (.ref f)) ∧ t σ H fun vs H1 => sp vs H1 Q (E σ)
theorem pe_gl {E : L2.St → XK} {y : Str} (C : Cal X.prog X.w X.K X.mg X.base CX k y ps sp) (hr : Room k X.A) (hG : X.A.guards = some []) (hx : ∀ σ, PassesAt CX X σ (E σ)) (ha : PA X (e :: es) t) (hN : X.N[i]? = some x := by rfl)
    (hv : Vis X.env.scope x := by first | exact Or.inl rfl | exact Or.inr (Or.inl rfl) | exact Or.inr (Or.inr rfl))
    (hdb : (x == ("__debug__" : Str)) = false := by decide) (hcd : (x == ("__classdict__" : Str)) = false := by decide) (he : starEach (e :: es) X.env = (false, eval e X.env) :: starEach es X.env := by rfl)
    (hpl : (backTo pos (starEach es X.env)).any (·.1) = false := by rfl) : PE X (.Call (.Name x p) (e :: es) [] pos) (tGl i X.mg y sp E t) := by
  obtain ⟨f, fd, F, hb, _, _, hm, hk⟩ := C.ex
  refine ⟨fun pins s σ H Q I h => ?_⟩
  obtain ⟨f', hf', hs, ht⟩ := h
  obtain rfl : f' = f := by
    rw [hm] at hf'
    cases hf'
    rfl
  refine wpAny_Call_Name_kw (thn ((pe_var (pos := p) hN hv hdb hcd).run pins s σ H (fun v H1 => v = .ref f' ∧ H1 = H) I ⟨.ref f', hs, rfl, rfl⟩) fun u s1 ⟨v, H1, I1, r1, q1⟩ => ?_)
  obtain ⟨rfl, rfl⟩ := q1
  cases r1
  refine PySem.W.callWith_K (h₀ := X.base) I.ok.mod.kin hk (thn (ha.run pos pins s1 σ _ _ I1 ht) fun us s2 ⟨vs, H2, I2, r, q⟩ => ⟨I2.kIn, ?_⟩) he hpl
  exact run_g (ar := ⟨us, []⟩) F hr hG (hx σ) I2 (hb s2 us (r.length.symm.trans (F.size _ _ _ _ q))) r q
end
/-! ### repr of data -/
section
variable {X : Cx}
def rShow (K : PySem.W.Frag) : List V → Hp → VK → Prop := fun xs H Q => ∃ (a : Addr) (d : PyData), xs = [.ref a] ∧ Dp K H (.ref a) d ∧
  d.showable = true ∧ d.hasDict = false ∧ d.depth ≤ 30 ∧ d.shown.length ≤ sizeLine ∧ Q (.str d.shown) H
theorem call_show (hG : X.A.guards = some []) {k : Nat} (hr : Room k X.A) : CallR X (.builtin "repr") (rShow X.K) := by
  intro pins s σ H xs us Q I r h
  obtain ⟨a, d, rfl, hd, hs, hn, h30, hz, q⟩ := h
  cases r with
  | cons r1 r2 =>
    cases r2
    obtain ⟨as, rd⟩ := Dp.reads I d _ _ hd r1
    cases r1
    have hu := hr.units
    exact repr_of_reads' rd hs (PyData.noDict_hsm hn) hG (by omega) (fun _ _ z => z) (fun h' u tk hk => ⟨.str d.shown, H, I.kept hk, ⟨u, rfl⟩, q⟩) hz
/-- // by any divisor but 0 -/
def CDivN (_ j : Int) : Prop := j ≠ 0 ∧ j.natAbs.log2 < 9000
theorem op_fdivN : OpR X (binaryOp .FloorDiv) (rI CDivN fun i j => .int (i.fdiv j)) := opI fun i j _ _ _ _ _ hc q =>
  floordiv_int hc.1 q (.inl (PyProof.noPylong_of_log2 hc.2))
end
/-! ### the end of a law's row -/
theorem at_caller {P : Program} {w : World} {K : PySem.W.Frag} {mg mb : Str → Option Value} {k : Nat} {fa a : Addr} {fd : FuncData} {x : Str} {sp : Sp} {s : Shared} {us : List Value} {ns : List Int}
    (KX : K.In s.heap) (hns : s.heap.Ns mainGlobals mg) (hb : s.heap.Ns builtinsNs mb) (hbb : ∀ x : Str, x ≠ "__name__" → mb x = bootBuiltins x) (hlim : s.heap.NoLimit) (hgen : s.gens = #[])
    (ha : s.heap.get? a = some { cls := .type "list", data := .seq us.toArray }) (hi : IntsAre us ns) (hl : ns.length ≤ sizeLine) (hr : Room k callerA)
    (F : ∀ base : Heap, K.In base → base.Ns mainGlobals mg → FnG P w K mg base CX0 k fa fd [x] sp) (hbind : ∀ (s : Shared) (u : Value), BindsTo s fd ⟨[u], []⟩ [(x, u)])
    (hsp : ∀ H : Hp, Only H → SqL K H a (ns.map V.int) → sp [.ref a] H (fun v _ => v = .bl true) E0) :
    codeAny (model P w) callerA (.call (.ref fa) ⟨[.ref a], []⟩) (fun r s' => r = .ok (.ret (.bool true)) ∧ OldK s.heap s'.heap ∧ s'.os = s.os ∧ AllBare s'.gens) s := by
  -- from a heap that tracks at most the script
  have go : ∀ H : Hp, Only H → SqL K H a (ns.map V.int) → HOk P w H s.heap → (∀ b, H b ≠ none → b = a) → (H a ≠ none → K.lookup a = none) →
      codeAny (model P w) callerA (.call (.ref fa) ⟨[.ref a], []⟩) (fun r s' => r = .ok (.ret (.bool true)) ∧ OldK s.heap s'.heap ∧ s'.os = s.os ∧ AllBare s'.gens) s := by
    intro H only sq hok one key
    have keep : ∀ {b : Addr} {o : Obj}, s.heap.get? b = some o → (∀ vs n, o.data ≠ .seq vs n) → (hidT s.heap H).get? b = some o := by
      intro b o e hd
      refine hidT_get e ?_
      cases q : H b with
      | none => rfl
      | some u =>
        obtain rfl : b = a := one b (by rw [q]; exact fun z => nomatch z)
        rw [ha] at e
        cases e
        exact absurd rfl (hd _ _)
    have names : ∀ {b : Addr} {m : Str → Option Value}, s.heap.Ns b m → (hidT s.heap H).Ns b m := by
      rintro b m ⟨o, es, ep, e, d, r⟩
      exact ⟨o, es, ep, keep e (fun vs n z => by rw [d] at z; cases z), d, r⟩
    have kin : K.In (hidT s.heap H) := by
      intro b o e
      refine hidT_get (KX b o e) ?_
      cases q : H b with
      | none => rfl
      | some u =>
        have nn : H b ≠ none := by rw [q]; exact fun z => nomatch z
        obtain rfl : b = a := one b nn
        rw [key nn] at e
        cases e
    have md : Mod K mg (hidT s.heap H) := ⟨kin, names hns, ⟨mb, names hb, hbb⟩, by obtain ⟨mc, h1, h2⟩ := hlim; exact ⟨mc, names h1, h2⟩⟩
    have none_in : ∀ b : Addr, b ∉ frs [] := fun b z => absurd (show b ∈ ([] : List Addr) from z) (by simp)
    have e0 : Env0 P w K mg (hidT s.heap H) callerA [] s H := { frames := rfl, mod := md, bs := fun b o e => of_hidT e, bsz := Nat.le_of_eq (hidT_size _ _), funs := trivial, frf := fun b z => absurd z (none_in b), hok := hok, bare := .of_eq hgen }
    refine codeAny_mono ((F _ kin (names hns)).goes callerA [] s H ⟨[.ref a], []⟩ [.ref a] [.ref a] _ _ hr rfl e0 (hbind s (.ref a)) (.cons rfl .nil) (hsp H only sq)) fun r s' h => ?_
    cases r with
    | error e => exact False.elim h
    | ok fl =>
      cases fl with
      | next => exact False.elim h
      | brk => exact False.elim h
      | cont => exact False.elim h
      | ret u =>
        obtain ⟨v, H', os, bare, un, hok', rv, q⟩ := h
        obtain rfl : v = .bl true := q
        obtain rfl : u = Value.bool true := rv
        refine ⟨rfl, OldK.of_keep fun b o e => ?_, os, bare⟩
        cases q : H b with
        | none => exact un.keep b o e q (none_in b) (by simp)
        | some y =>
          rcases only b with z | ⟨ob, xs, z⟩
          · rw [q] at z
            cases z
          · obtain ⟨e1, _⟩ := hok b _ z
            obtain ⟨e2, _⟩ := hok' b _ (un.frzs b ob _ z)
            rw [e] at e1
            cases e1
            exact e2
  have rv := vals_ints hi
  cases hk : K.lookup a with
  | some o =>
    have e := KX a o hk
    rw [ha] at e
    cases e
    exact go (fun _ => none) (fun _ => Or.inl rfl) (Or.inr ⟨_, us.toArray, _, hk, rfl, rfl, rfl, by rw [List.size_toArray, hi.length]; exact hl, by simpa using rv⟩)
      (fun b u z => by cases (show (none : Option HO) = some u from z)) (fun b z => absurd rfl z) (fun z => absurd rfl z)
  | none =>
    refine go (fun b => if b = a then some (.frz { cls := .type "list", data := .seq us.toArray } (.lst (ns.map V.int))) else none) ?_ (Or.inl (Or.inr ⟨_, if_pos rfl⟩)) ?_ ?_ (fun _ => hk)
    · intro b
      by_cases h : b = a
      · exact Or.inr ⟨_, _, if_pos h⟩
      · exact Or.inl (if_neg h)
    · intro b u z
      by_cases h : b = a
      · cases (if_pos h).symm.trans z
        subst h
        exact ⟨ha, by rw [List.length_map]; exact hl, us, _, rv, ha⟩
      · cases (if_neg h).symm.trans z
    · intro b z
      by_cases h : b = a
      · exact h
      · exact absurd (if_neg h) z
theorem walkG {l : PySem.W.OpenLaw} {n k : Nat} {q : Program} {loose : List Str} {XP : (Str → Option Value) → Heap → Prop} {YP : World → Heap → Prop} {d : DefRec} {K : Params → PySem.W.Frag} {sp : PySem.W.Frag → Sp} {x : Str}
    (hn : l.most = some n) (hn2 : n ≤ sizeLine) (hdf : d.params.defaults = []) (hr : Room k callerA) (hY : ∀ (w : World) (h : Heap), YP w h → (K w.params).In h)
    (F : ∀ (w : World) (mg : Str → Option Value) (fa : Addr) (h : Heap), (K w.params).In h → h.Ns mainGlobals mg → mg d.name = some (.ref fa) →
      ∃ fd : FuncData, (∀ (s : Shared) (u : Value), BindsTo s fd ⟨[u], []⟩ [(x, u)]) ∧ ∀ base : Heap, (K w.params).In base → base.Ns mainGlobals mg → FnG l.prog w (K w.params) mg base CX0 k fa fd [x] (sp (K w.params)))
    (hsp : ∀ (K : PySem.W.Frag) (H : Hp) (a : Addr) (ns : List Int), ns.length ≤ n → Only H → SqL K H a (ns.map V.int) → sp K [.ref a] H (fun v _ => v = .bl true) E0) :
    PySem.W.WalkO q loose XP YP l.row.toRowW d [] (fun f vs => PySem.call f vs) := by
  refine Att.attach_call hn hdf fun w s0 s mg mb fa o pm cd doc a us ns G Y ho hd hcd hmg hobj hints hlen hg => ?_
  obtain ⟨fd, hb, hF⟩ := F w mg fa _ (hY w _ Y) G.T.g hmg
  exact at_caller (hY w _ Y) G.T.g G.T.b G.T.builtins G.T.nolimit hg hobj hints (Nat.le_trans hlen hn2) hr hF hb fun H hO hS => hsp _ H a ns hlen hO hS
end Lf

set_option linter.all false
/-! Lowest terms: plain arithmetic. -/
namespace Lf
/-- the fraction of two whole numbers, d not 0 -/
def low (n d : Int) : Int × Int := ((n * d.sign) / (Nat.gcd n.natAbs d.natAbs : Nat), (d.natAbs : Int) / (Nat.gcd n.natAbs d.natAbs : Nat))
def IsLow (t b : Int) : Prop := 0 < b ∧ Nat.Coprime t.natAbs b.natAbs
theorem gcd_pos {n d : Int} (h : d ≠ 0) : 0 < Nat.gcd n.natAbs d.natAbs := Nat.gcd_pos_of_pos_right _ (by omega)
theorem low_parts {n d : Int} (h : d ≠ 0) : ∃ (u : Int) (v : Nat), n * d.sign = u * (Nat.gcd n.natAbs d.natAbs : Nat) ∧ d.natAbs = v * Nat.gcd n.natAbs d.natAbs ∧ low n d = (u, (v : Int)) ∧ 0 < v ∧ Nat.Coprime u.natAbs v := by
  have hg := gcd_pos (n := n) h
  obtain ⟨v, hv⟩ := Nat.gcd_dvd_right n.natAbs d.natAbs
  obtain ⟨u, hu⟩ : ∃ u : Int, n * d.sign = (Nat.gcd n.natAbs d.natAbs : Nat) * u := by
    obtain ⟨x, hx⟩ := Nat.gcd_dvd_left n.natAbs d.natAbs
    rcases Int.natAbs_eq n with e | e
    · exact ⟨x * d.sign, by rw [← Int.mul_assoc, ← Int.natCast_mul, ← hx, ← e]⟩
    · exact ⟨-(x : Int) * d.sign, by rw [← Int.mul_assoc, Int.mul_neg, ← Int.natCast_mul, ← hx, ← e]⟩
  have hn : n.natAbs = Nat.gcd n.natAbs d.natAbs * u.natAbs := by
    have := congrArg Int.natAbs hu
    rw [Int.natAbs_mul, Int.natAbs_mul, Int.natAbs_sign_of_ne_zero h, Nat.mul_one, Int.natAbs_natCast] at this
    exact this
  have hvp : 0 < v := by
    rcases Nat.eq_zero_or_pos v with e | e
    · rw [e, Nat.mul_zero] at hv
      omega
    · exact e
  have hgi : ((Nat.gcd n.natAbs d.natAbs : Nat) : Int) ≠ 0 := by omega
  refine ⟨u, v, by rw [hu, Int.mul_comm], by rw [Nat.mul_comm]; exact hv, ?_, hvp, ?_⟩
  · unfold low
    rw [hu, Int.mul_ediv_cancel_left _ hgi]
    have : (d.natAbs : Int) = (Nat.gcd n.natAbs d.natAbs : Nat) * (v : Int) := by rw [← Int.natCast_mul, ← hv]
    rw [this, Int.mul_ediv_cancel_left _ hgi]
  · have e : Nat.gcd n.natAbs d.natAbs = Nat.gcd n.natAbs d.natAbs * Nat.gcd u.natAbs v := by
      rw [← Nat.gcd_mul_left, ← hn, ← hv]
    have e' : Nat.gcd n.natAbs d.natAbs * 1 = Nat.gcd n.natAbs d.natAbs * Nat.gcd u.natAbs v := by rw [Nat.mul_one]; exact e
    exact (Nat.eq_of_mul_eq_mul_left hg e').symm
theorem sign_mul_natAbs' (d : Int) : d.sign * (d.natAbs : Int) = d := Int.sign_mul_natAbs d
theorem low_is {n d : Int} (h : d ≠ 0) : IsLow (low n d).1 (low n d).2 := by
  obtain ⟨u, v, _, _, e, hv, hc⟩ := low_parts (n := n) h
  rw [e]
  exact ⟨by show (0 : Int) < v; omega, hc⟩
theorem low_cross {n d : Int} (h : d ≠ 0) : (low n d).1 * d = n * (low n d).2 := by
  obtain ⟨u, v, h1, h2, e, hv, hc⟩ := low_parts (n := n) h
  rw [e]
  show u * d = n * v
  have hg := gcd_pos (n := n) h
  have hgi : ((Nat.gcd n.natAbs d.natAbs : Nat) : Int) ≠ 0 := by omega
  have hs : d.sign * d.sign = 1 := by
    rcases Int.lt_or_gt_of_ne h with q | q
    · rw [Int.sign_eq_neg_one_of_neg q]
      rfl
    · rw [Int.sign_eq_one_of_pos q]
      rfl
  have ed : d = d.sign * ((v : Int) * (Nat.gcd n.natAbs d.natAbs : Nat)) := by
    rw [← Int.natCast_mul, ← h2]
    exact (sign_mul_natAbs' d).symm
  have : (u * d) * ((Nat.gcd n.natAbs d.natAbs : Nat) : Int) = (n * v) * (Nat.gcd n.natAbs d.natAbs : Nat) := by
    have e1 : (u * d) * ((Nat.gcd n.natAbs d.natAbs : Nat) : Int) = (u * (Nat.gcd n.natAbs d.natAbs : Nat)) * d := by
      rw [Int.mul_assoc, Int.mul_assoc, Int.mul_comm d]
    rw [e1, ← h1]
    generalize hG : ((Nat.gcd n.natAbs d.natAbs : Nat) : Int) = G at *
    calc n * d.sign * d = n * d.sign * (d.sign * (v * G)) := by rw [← ed]
      _ = n * (d.sign * d.sign) * (v * G) := by simp only [Int.mul_assoc]
      _ = n * v * G := by rw [hs]; simp only [Int.mul_one, Int.mul_assoc]
  exact Int.eq_of_mul_eq_mul_right hgi this
theorem low_uniq {t b t' b' : Int} (h : IsLow t b) (h' : IsLow t' b') (e : t * b' = t' * b) : t = t' ∧ b = b' := by
  obtain ⟨hb, hc⟩ := h
  obtain ⟨hb', hc'⟩ := h'
  have e1 : t.natAbs * b'.natAbs = t'.natAbs * b.natAbs := by
    have := congrArg Int.natAbs e
    rwa [Int.natAbs_mul, Int.natAbs_mul] at this
  have d1 : b.natAbs ∣ b'.natAbs := by
    have q : b.natAbs ∣ t.natAbs * b'.natAbs := by
      rw [e1]
      exact Nat.dvd_mul_left _ _
    exact Nat.Coprime.dvd_of_dvd_mul_left hc.symm q
  have d2 : b'.natAbs ∣ b.natAbs := by
    have q : b'.natAbs ∣ t'.natAbs * b.natAbs := by
      rw [← e1]
      exact Nat.dvd_mul_left _ _
    exact Nat.Coprime.dvd_of_dvd_mul_left hc'.symm q
  have eb : b.natAbs = b'.natAbs := Nat.dvd_antisymm d1 d2
  have eb' : b = b' := by omega
  subst eb'
  exact ⟨Int.eq_of_mul_eq_mul_right (by omega) e, rfl⟩
/-- the fraction is the one in lowest terms -/
theorem low_eq {n d t b : Int} (h : d ≠ 0) (hl : IsLow t b) (e : t * d = n * b) : low n d = (t, b) := by
  have hi := low_is (n := n) h
  have hx := low_cross (n := n) h
  have key : (low n d).1 * b = t * (low n d).2 := by
    have q : ((low n d).1 * b) * d = (t * (low n d).2) * d := by
      calc ((low n d).1 * b) * d = ((low n d).1 * d) * b := by rw [Int.mul_assoc, Int.mul_comm b d, Int.mul_assoc]
        _ = (n * (low n d).2) * b := by rw [hx]
        _ = (n * b) * (low n d).2 := by rw [Int.mul_assoc, Int.mul_comm _ b, Int.mul_assoc]
        _ = (t * d) * (low n d).2 := by rw [e]
        _ = (t * (low n d).2) * d := by rw [Int.mul_assoc, Int.mul_comm d, Int.mul_assoc]
    exact Int.eq_of_mul_eq_mul_right h q
  obtain ⟨e1, e2⟩ := low_uniq hi hl key
  exact Prod.ext e1 e2
theorem low_self {t b : Int} (h : IsLow t b) : low t b = (t, b) := low_eq (by have := h.1; omega) h rfl
/-- bounds -/
theorem low_top_le {n d : Int} (h : d ≠ 0) : (low n d).1.natAbs ≤ n.natAbs := by
  obtain ⟨u, v, h1, h2, e, hv, hc⟩ := low_parts (n := n) h
  rw [e]
  show u.natAbs ≤ n.natAbs
  have hg := gcd_pos (n := n) h
  have := congrArg Int.natAbs h1
  rw [Int.natAbs_mul, Int.natAbs_mul, Int.natAbs_sign_of_ne_zero h, Nat.mul_one, Int.natAbs_natCast] at this
  rw [this]
  exact Nat.le_mul_of_pos_right _ hg
theorem low_bottom_le {n d : Int} (h : d ≠ 0) : (low n d).2.natAbs ≤ d.natAbs := by
  obtain ⟨u, v, h1, h2, e, hv, hc⟩ := low_parts (n := n) h
  rw [e]
  show (v : Int).natAbs ≤ d.natAbs
  have hg := gcd_pos (n := n) h
  rw [h2, Int.natAbs_natCast]
  exact Nat.le_mul_of_pos_right _ hg
/-- the program's way: over a bottom above 0 -/
theorem low_pos {n d : Int} (h : 0 < d) : low n d = (n / (Nat.gcd n.natAbs d.natAbs : Nat), d / (Nat.gcd n.natAbs d.natAbs : Nat)) := by
  unfold low
  rw [Int.sign_eq_one_of_pos h, Int.mul_one, show (d.natAbs : Int) = d by omega]
theorem low_neg (n d : Int) : low (-n) (-d) = low n d := by
  unfold low
  rw [Int.sign_neg, Int.natAbs_neg, Int.natAbs_neg, Int.neg_mul_neg]
/-- the law's way: by the greatest common one, below 0 where the bottom is -/
theorem low_fdiv_pos {n d : Int} (h : 0 < d) : (n.fdiv (Nat.gcd n.natAbs d.natAbs : Nat), d.fdiv (Nat.gcd n.natAbs d.natAbs : Nat)) = low n d := by
  rw [low_pos h, Int.fdiv_eq_ediv_of_nonneg _ (by omega), Int.fdiv_eq_ediv_of_nonneg _ (by omega)]
theorem low_fdiv_neg {n d : Int} (h : d < 0) : (n.fdiv (-(Nat.gcd n.natAbs d.natAbs : Nat)), d.fdiv (-(Nat.gcd n.natAbs d.natAbs : Nat))) = low n d := by
  have q := low_fdiv_pos (n := -n) (d := -d) (by omega)
  rw [Int.natAbs_neg, Int.natAbs_neg, low_neg] at q
  rw [← q, ← Int.neg_fdiv_neg, ← Int.neg_fdiv_neg d, Int.neg_neg]
/-- the sum less the other one is the one -/
theorem low_back {a b c d : Int} (hl : IsLow a b) (hd : 0 < d) :
    low ((low (a * d + c * b) (b * d)).1 * d - c * (low (a * d + c * b) (b * d)).2) ((low (a * d + c * b) (b * d)).2 * d) = (a, b) := by
  have hb := hl.1
  have h0 : b * d ≠ 0 := Int.ne_of_gt (Int.mul_pos hb hd)
  have hi := low_is (n := a * d + c * b) h0
  have hx := low_cross (n := a * d + c * b) h0
  generalize (low (a * d + c * b) (b * d)).1 = x at *
  generalize (low (a * d + c * b) (b * d)).2 = y at *
  refine low_eq (Int.ne_of_gt (Int.mul_pos hi.1 hd)) hl ?_
  have : x * (b * d) = x * d * b := by rw [Int.mul_comm b d, Int.mul_assoc]
  rw [this] at hx
  rw [Int.sub_mul, hx, Int.add_mul]
  have e1 : c * y * b = c * b * y := by rw [Int.mul_assoc, Int.mul_comm y b, Int.mul_assoc]
  have e2 : a * (y * d) = a * d * y := by rw [Int.mul_comm y d, Int.mul_assoc]
  rw [e1, e2]
  omega
/-- Euclid's steps keep the greatest common one -/
theorem gcd_step (a b : Int) (hb : 0 < b) (ha : 0 ≤ a) : Nat.gcd b.natAbs (a % b).natAbs = Nat.gcd a.natAbs b.natAbs := by
  have e : (a % b).natAbs = a.natAbs % b.natAbs := by
    rw [Int.natAbs_emod_of_nonneg ha]
  rw [e, Nat.gcd_comm b.natAbs, ← Nat.gcd_rec, Nat.gcd_comm]
end Lf

set_option Elab.async false
set_option linter.all false
set_option maxRecDepth 100000
set_option maxHeartbeats 4000000
set_option exponentiation.threshold 3000
/-! What repr shows of data, and that it fits. -/
namespace Lf
open PySem PySem.Spec PyProof.Rows L2
/-- below 2 ^ 900 -/
def Sm (n : Int) : Prop := n.natAbs < 2 ^ 900
theorem Sm.log {n : Int} (h : Sm n) : n.natAbs.log2 < 900 := PySem.Flt.log2_lt_of (by decide) h
theorem Sm.text {n : Int} (h : Sm n) : (Str.ofString (toString n)).length ≤ 901 := by
  rw [PySem.ofString_length]
  exact int_text_length_le (by decide) h.log
/-- data that can be shown: its weight, its depth -/
structure Ft (w k : Nat) (d : PyData) : Prop where
  sh : d.showable = true
  nd : d.hasDict = false
  dp : d.depth ≤ k
  lv : d.leavesShort 1000 = true
  wt : d.weight ≤ w
structure FtA (w k : Nat) (ds : List PyData) : Prop where
  sh : PyData.showableAll ds = true
  nd : PyData.hasDictAll ds = false
  dp : PyData.depthAll ds ≤ k
  lv : PyData.leavesShortAll 1000 ds = true
  wt : PyData.weightAll ds ≤ w
theorem Ft.int {n : Int} (h : Sm n) : Ft 900 0 (.int n) := by
  have hl := h.log
  refine ⟨?_, ?_, ?_, ?_, ?_⟩
  · simp only [PyData.showable, decide_eq_true_eq]
    omega
  · simp only [PyData.hasDict]
  · simp only [PyData.depth, Nat.le_refl]
  · simp only [PyData.leavesShort, decide_eq_true_eq, PyData.shown]
    exact decide_eq_true (Nat.le_trans h.text (show 901 ≤ 1000 by decide))
  · simp only [PyData.weight]
    split <;> omega
theorem Ft.bool (b : Bool) : Ft 0 0 (.bool b) := ⟨by simp only [PyData.showable], by simp only [PyData.hasDict], by simp only [PyData.depth, Nat.le_refl], by simp only [PyData.leavesShort], by simp only [PyData.weight, Nat.le_refl]⟩
theorem Ft.none : Ft 0 0 .none := ⟨by simp only [PyData.showable], by simp only [PyData.hasDict], by simp only [PyData.depth, Nat.le_refl], by simp only [PyData.leavesShort], by simp only [PyData.weight, Nat.le_refl]⟩
/-- a text whose signs are signs -/
def Sg (x : Str) : Prop := ∀ c ∈ x.cps.toList, c < 16 ^ 8
theorem Sg.of (s : String) : Sg (Str.ofString s) := by
  intro c hc
  rw [Str.ofString_eq_toList] at hc
  obtain ⟨ch, _, rfl⟩ := List.mem_map.mp (show c ∈ s.toList.map Char.toNat from hc)
  exact ch.val.toNat_lt
theorem Sg.app {x y : Str} (h : Sg x) (k : Sg y) : Sg (x ++ y) := by
  intro c hc
  have e : (x ++ y).cps.toList = x.cps.toList ++ y.cps.toList := by
    rw [show (x ++ y).cps = x.cps ++ y.cps from rfl, Array.toList_append]
  rw [e] at hc
  rcases List.mem_append.mp hc with q | q
  · exact h c q
  · exact k c q
theorem Ft.str {w : Nat} {x : Str} (h : Sg x) (hw : x.length ≤ w) : Ft w 0 (.str x) := ⟨by simp only [PyData.showable], by simp only [PyData.hasDict], by simp only [PyData.depth, Nat.le_refl],
  by simp only [PyData.leavesShort, List.all_eq_true, decide_eq_true_eq]; exact h, by simp only [PyData.weight]; exact hw⟩
theorem FtA.nil : FtA 0 0 [] := ⟨by simp only [PyData.showableAll], by simp only [PyData.hasDictAll], by simp only [PyData.depthAll, Nat.le_refl], by simp only [PyData.leavesShortAll], by simp only [PyData.weightAll, Nat.le_refl]⟩
theorem FtA.cons {w k w' k' : Nat} {d : PyData} {ds : List PyData} (h : Ft w k d) (r : FtA w' k' ds) : FtA (w + 1 + w') (max k k') (d :: ds) := by
  refine ⟨?_, ?_, ?_, ?_, ?_⟩
  · simp only [PyData.showableAll, h.sh, r.sh, Bool.and_self]
  · simp only [PyData.hasDictAll, h.nd, r.nd, Bool.or_self]
  · simp only [PyData.depthAll]
    have := h.dp
    have := r.dp
    omega
  · simp only [PyData.leavesShortAll, h.lv, r.lv, Bool.and_self]
  · simp only [PyData.weightAll]
    have := h.wt
    have := r.wt
    omega
theorem Ft.list {w k : Nat} {ds : List PyData} (r : FtA w k ds) : Ft w (k + 1) (.list ds) :=
  ⟨by simp only [PyData.showable]; exact r.sh, by simp only [PyData.hasDict]; exact r.nd, by simp only [PyData.depth]; exact Nat.succ_le_succ r.dp, by simp only [PyData.leavesShort]; exact r.lv, by simp only [PyData.weight]; exact r.wt⟩
theorem Ft.tuple {w k : Nat} {ds : List PyData} (r : FtA w k ds) : Ft w (k + 1) (.tuple ds) :=
  ⟨by simp only [PyData.showable]; exact r.sh, by simp only [PyData.hasDict]; exact r.nd, by simp only [PyData.depth]; exact Nat.succ_le_succ r.dp, by simp only [PyData.leavesShort]; exact r.lv, by simp only [PyData.weight]; exact r.wt⟩
/-- what repr asks -/
structure Showy (d : PyData) : Prop where
  sh : d.showable = true
  nd : d.hasDict = false
  dp : d.depth ≤ 30
  ln : d.shown.length ≤ sizeLine
theorem Ft.showy {w k : Nat} {d : PyData} (h : Ft w k d) (hk : k ≤ 30 := by decide) (hw : w ≤ 16000 := by decide) : Showy d := by
  refine ⟨h.sh, h.nd, Nat.le_trans h.dp hk, ?_⟩
  have e := PyData.shown_le 1000 (by decide) d h.lv
  have e2 := h.wt
  have e3 : (1000 + 2) * d.weight ≤ 1002 * 16000 := Nat.mul_le_mul (Nat.le_refl _) (Nat.le_trans e2 hw)
  have e4 := sizeLine_eq
  omega
/-- a fraction -/
def tD (t : Int × Int) : PyData := .tuple [.int t.1, .int t.2]
theorem Ft.two {t : Int × Int} (h : Sm t.1) (k : Sm t.2) : Ft 1802 1 (tD t) := Ft.tuple (.cons (.int h) (.cons (.int k) .nil))
theorem dp2 {K : PySem.W.Frag} {H : Hp} {p : Addr} {x y : Int} (h : SqT K H p [.int x, .int y]) : Dp K H (.ref p) (tD (x, y)) := .tup h (.cons (.int x) (.cons (.int y) .nil))
theorem dp2' {K : PySem.W.Frag} {H : Hp} {p : Addr} {t : Int × Int} (h : H p = some (.tup [.int t.1, .int t.2])) : Dp K H (.ref p) (tD t) := .tup (.inl (.inl h)) (.cons (.int _) (.cons (.int _) .nil))
mutual
theorem Dp.same {K : PySem.W.Frag} {H H' : Hp} (s : Same H H') : ∀ (d : PyData) (v : V), Dp K H v d → Dp K H' v d
  | .none, _, h => by cases h; exact .non
  | .bool b, _, h => by cases h; exact .bl b
  | .int i, _, h => by cases h; exact .int i
  | .str x, _, h => by cases h; exact .str x
  | .list ds, _, h => by
    cases h with
    | lst h1 h2 => exact .lst (s.seq h1) (DpAll.same s ds _ h2)
  | .tuple ds, _, h => by
    cases h with
    | tup h1 h2 =>
      refine .tup ?_ (DpAll.same s ds _ h2)
      rcases h1 with (h | ⟨o, h⟩) | h
      · exact .inl (.inl (s _ _ h))
      · exact .inl (.inr ⟨o, s _ _ h⟩)
      · exact .inr h
  | .dict _, _, h => by cases h
theorem DpAll.same {K : PySem.W.Frag} {H H' : Hp} (s : Same H H') : ∀ (ds : List PyData) (vs : List V), DpAll K H vs ds → DpAll K H' vs ds
  | [], _, h => by cases h; exact .nil
  | d :: ds, _, h => by
    cases h with
    | cons h1 h2 => exact .cons (Dp.same s d _ h1) (DpAll.same s ds _ h2)
end
end Lf

set_option Elab.async false
set_option linter.all false
set_option maxRecDepth 100000
set_option maxHeartbeats 4000000
set_option exponentiation.threshold 3000
/-! Things of any kind: data without dicts, and dicts of plain things. -/
namespace Lf
open PySem PySem.Spec PyProof.Rows L2
def kD : Key → PyData
  | .inl i => .int i
  | .inr x => .str x
inductive Sc : V → PyData → Prop
  | non : Sc .non .none
  | bl (b : Bool) : Sc (.bl b) (.bool b)
  | int (i : Int) : Sc (.int i) (.int i)
  | str (x : Str) : Sc (.str x) (.str x)
/-- a thing: data, or a dict of plain things -/
inductive Dq (K : PySem.W.Frag) (H : Hp) : V → PyData → Prop
  | dp {v : V} {d : PyData} (h : Dp K H v d) (n : d.hasDict = false) : Dq K H v d
  | dic {a : Addr} {kvs : List (Key × V)} {ds : List (PyData × PyData)} (h : H a = some (.dK kvs)) (p : Paired (fun (kv : Key × V) (d : PyData × PyData) => d.1 = kD kv.1 ∧ Sc kv.2 d.2) kvs ds) : Dq K H (.ref a) (.dict ds)
theorem Dq.same {K : PySem.W.Frag} {H H' : Hp} {v : V} {d : PyData} (s : Same H H') (h : Dq K H v d) : Dq K H' v d := by
  cases h with
  | dp h n => exact .dp (Dp.same s _ _ h) n
  | dic h p => exact .dic (s _ _ h) p
section
variable {X : Cx} {pins : List (Addr × Obj)} {σ : L2.St} {H : Hp} {s : Shared}
theorem Sc.reads {v : V} {d : PyData} {u : Value} {h : Heap} (k : Sc v d) (r : RelV v u) : Reads h u d [] := by
  cases k with
  | non => cases r; exact .none
  | bl b => cases r; exact .bool b
  | int i => obtain ⟨t, rfl⟩ := r; exact .int i t
  | str x => obtain ⟨t, rfl⟩ := r; exact .str x t
theorem dic_reads {P : Program} {w : World} {h : Heap} : ∀ {es : List DictEntry} {vs : List (Key × Value)} {kvs : List (Key × V)} {ds : List (PyData × PyData)}, Pairs (mixKind P w) es vs → KV kvs vs →
    Paired (fun (kv : Key × V) (d : PyData × PyData) => d.1 = kD kv.1 ∧ Sc kv.2 d.2) kvs ds → ReadsAll h (es.map (·.key)) (ds.map (·.1)) [] ∧ ReadsAll h (es.map (·.val)) (ds.map (·.2)) []
  | _, _, _, _, .nil, kv, p => by
    cases kv
    cases p
    exact ⟨.nil, .nil⟩
  | _, _, _, _, .cons (e := e) hk hv r, kv, p => by
    cases kv with
    | cons q kv =>
      cases p with
      | cons z p =>
        obtain ⟨i1, i2⟩ := dic_reads r kv p
        obtain ⟨q1, q2⟩ := q
        obtain ⟨z1, z2⟩ := z
        refine ⟨?_, ?_⟩
        · rw [List.map_cons, List.map_cons]
          refine ReadsAll.cons (as := []) (bs := []) ?_ i1
          rw [z1, q1]
          rcases keyIs_shape (show keyIs _ e.key = true from hk) with ⟨i, t, e1, e2⟩ | ⟨x, t, e1, e2⟩
          · rw [e1, e2]
            exact .int i t
          · rw [e1, e2]
            exact .str x t
        · rw [List.map_cons, List.map_cons]
          refine ReadsAll.cons (as := []) (bs := []) ?_ i2
          rw [hv]
          exact z2.reads q2
theorem Dq.reads (I : Inv X pins σ H s) {v : V} {d : PyData} {u : Value} (h : Dq X.K H v d) (r : RelV v u) : ∃ as, Reads s.heap u d as ∧ (d.hasDict = true → sysModules ∉ as) := by
  cases h with
  | dp h n =>
    obtain ⟨as, q⟩ := Dp.reads I d v u h r
    exact ⟨as, q, fun z => by rw [n] at z; cases z⟩
  | @dic a kvs ds h p =>
    cases r
    obtain ⟨hz, hs, vs, kv, o, es, ep, h1, h2, h3, h4, h5, h6⟩ := (show ObjOk X.prog X.w H s.heap a (.dK kvs) from I.hok a _ h)
    obtain ⟨i1, i2⟩ := dic_reads (h := s.heap) h5 kv p
    refine ⟨_, Reads.dict h1 h2.1 h3 i1 i2, fun _ hm => ?_⟩
    have : sysModules = a := by simpa using hm
    rw [this] at hs
    simp at hs
/-- the built-in type of a thing -/
def tyN : PyData → String
  | .none => "NoneType"
  | .bool _ => "bool"
  | .int _ => "int"
  | .str _ => "str"
  | .list _ => "list"
  | .tuple _ => "tuple"
  | .dict _ => "dict"
theorem Dp.ty {K : PySem.W.Frag} {v : V} {d : PyData} (h : Dp K H v d) : TyX K H v (.type (tyN d)) := by
  cases h with
  | non => exact .base .non
  | bl b => exact .base (.bl b)
  | int i => exact .base (.int i)
  | str x => exact .base (.str x)
  | lst h1 _ =>
    rcases h1 with (h | ⟨o, h⟩) | ⟨o, arr, n, hk, hc, _⟩
    · exact .base (.lst h)
    · exact .base (.frz h)
    · exact .kList hk hc
  | tup h1 _ =>
    rcases h1 with (h | ⟨o, h⟩) | ⟨o, arr, n, hk, hc, _⟩
    · exact .base (.tup h)
    · exact .fTuple h
    · exact .kTuple hk hc
theorem Dq.ty {K : PySem.W.Frag} {v : V} {d : PyData} (h : Dq K H v d) : TyX K H v (.type (tyN d)) := by
  cases h with
  | dp h _ => exact Lf.Dp.ty h
  | dic h _ => exact .base (.dK h)
/-! ### repr of a list of things -/
inductive DqAll (K : PySem.W.Frag) (H : Hp) : List V → List PyData → Prop
  | nil : DqAll K H [] []
  | cons {v : V} {vs : List V} {d : PyData} {ds : List PyData} : Dq K H v d → DqAll K H vs ds → DqAll K H (v :: vs) (d :: ds)
theorem DqAll.same {K : PySem.W.Frag} {H H' : Hp} (s : Same H H') : ∀ {vs : List V} {ds : List PyData}, DqAll K H vs ds → DqAll K H' vs ds
  | _, _, .nil => .nil
  | _, _, .cons a r => .cons (a.same s) (DqAll.same s r)
theorem DqAll.get {K : PySem.W.Frag} {H : Hp} : ∀ {vs : List V} {ds : List PyData} {i : Nat} {v : V}, DqAll K H vs ds → vs[i]? = some v → ∃ d, ds[i]? = some d ∧ Dq K H v d
  | _, _, _, _, .nil, e => by simp at e
  | _, _, 0, _, .cons a _, e => by
    simp at e
    subst e
    exact ⟨_, rfl, a⟩
  | _, _, i + 1, v, .cons _ r, e => by
    obtain ⟨d, h1, h2⟩ := DqAll.get (i := i) (v := v) r (by simpa using e)
    exact ⟨d, by simpa using h1, h2⟩
theorem DqAll.app {K : PySem.W.Frag} {H : Hp} : ∀ {vs us : List V} {ds es : List PyData}, DqAll K H vs ds → DqAll K H us es → DqAll K H (vs ++ us) (ds ++ es)
  | _, _, _, _, .nil, h => h
  | _, _, _, _, .cons a r, h => .cons a (DqAll.app r h)
theorem DqAll.length {K : PySem.W.Frag} {H : Hp} : ∀ {vs : List V} {ds : List PyData}, DqAll K H vs ds → vs.length = ds.length
  | _, _, .nil => rfl
  | _, _, .cons _ r => congrArg Nat.succ (DqAll.length r)
theorem dq_repr (I : Inv X pins σ H s) : ∀ {vs : List V} {ds : List PyData} {us : List Value}, DqAll X.K H vs ds → Vals vs us → PyData.showableAll ds = true → (∀ t ∈ PyData.shownAll ds, t.length ≤ sizeLine) →
    ∃ bs as, ReadAtMost s.heap (PyData.depthAll ds) bs ∧ ReprAllK X.prog X.w bs s.heap (PyData.depthAll ds) us (PyData.shownAll ds) ∧ ReadsAll s.heap us ds as
  | _, _, _, .nil, r, _, _ => by
    cases r
    exact ⟨[], [], (fun _ h => nomatch h), by simp only [PyData.shownAll]; exact .nil, .nil⟩
  | _, _, _, .cons (d := d) (ds := ds) a q, r, hs, hz => by
    cases r with
    | cons r1 r2 =>
      have hs' : d.showable = true ∧ PyData.showableAll ds = true := by simpa [PyData.showableAll] using hs
      have hz' : d.shown.length ≤ sizeLine ∧ ∀ t ∈ PyData.shownAll ds, t.length ≤ sizeLine := by
        simp only [PyData.shownAll] at hz
        exact ⟨hz _ List.mem_cons_self, fun t ht => hz t (List.mem_cons_of_mem _ ht)⟩
      obtain ⟨as1, rd, hsm⟩ := a.reads I r1
      obtain ⟨b1, m1, k1⟩ := ReprK.of_reads (prog := X.prog) (w := X.w) rd hs'.1 hsm hz'.1
      obtain ⟨b2, as2, m2, k2, rd2⟩ := dq_repr I q r2 hs'.2 hz'.2
      have l1 : d.depth ≤ PyData.depthAll (d :: ds) := by simp only [PyData.depthAll]; omega
      have l2 : PyData.depthAll ds ≤ PyData.depthAll (d :: ds) := by simp only [PyData.depthAll]; omega
      refine ⟨b1 ++ b2, as1 ++ as2, ?_, ?_, .cons rd rd2⟩
      · intro b hb
        rcases List.mem_append.mp hb with z | z
        · obtain ⟨d', as', r', e'⟩ := m1 b z
          exact ⟨d', as', r', Nat.le_trans e' l1⟩
        · obtain ⟨d', as', r', e'⟩ := m2 b z
          exact ⟨d', as', r', Nat.le_trans e' l2⟩
      · simp only [PyData.shownAll]
        exact .cons ((k1.more (fun b hb => List.mem_append_left _ hb)).level_le l1) (k2.more_le (fun b hb => List.mem_append_right _ hb) l2)
def rShowQ (K : PySem.W.Frag) : List V → Hp → VK → Prop := fun xs H Q => ∃ (a : Addr) (v : V) (vs : List V) (ds : List PyData), xs = [.ref a] ∧ SqL K H a (v :: vs) ∧ DqAll K H (v :: vs) ds ∧
  PyData.showableAll ds = true ∧ PyData.depthAll ds ≤ 29 ∧ (PyData.shown (.list ds)).length ≤ sizeLine ∧ Q (.str (PyData.shown (.list ds))) H
theorem call_showQ (hG : X.A.guards = some []) {k : Nat} (hr : Room k X.A) : CallR X (.builtin "repr") (rShowQ X.K) := by
  intro pins s σ H xs us Q I r h
  obtain ⟨a, v, vs, ds, rfl, hS, hd, hs, h30, hz, q⟩ := h
  cases r with
  | cons r1 r2 =>
    cases r2
    cases r1
    have hu := hr.units
    obtain ⟨its, rv, ⟨o, n, ho, hc, _, hdt⟩, _⟩ := I.list hS
    have hz' : (listText (PyData.shownAll ds)).length ≤ sizeLine := by simpa only [PyData.shown] using hz
    obtain ⟨bs, as, m, k, rd⟩ := dq_repr I hd rv hs (fun t ht => Nat.le_trans (listText_mem_le ht) hz')
    have rl : Reads s.heap (.ref a) (.list ds) (a :: as) := Reads.list ho hc hdt rd
    have hna : a ∉ bs := not_mem_of_deeper rl (by simp only [PyData.depth]; omega) m
    cases its with
    | nil => cases rv
    | cons u us' =>
      refine call_repr_slot (T := "list") (by omega) ⟨o, ho, hc⟩ F.slot_list_repr.toG ?_
      refine call_list_reprK ho hc hdt hna (by simpa using k.length_eq) (fun i y e => k.item i y (by simpa using e)) hG (fun b _ => Clear.nil b) (by show X.A.units + 1 + (PyData.depthAll ds + 1) < cLine; omega) (fun _ _ z => z) (fun h' u tk hk => ?_) hz'
      refine ⟨_, _, rfl, ⟨.str (PyData.shown (.list ds)), H, I.kept hk, ⟨u, ?_⟩, q⟩⟩
      simp only [PyData.shown]
end
/-- a statement and the rest, what follows shown once from what holds between them -/
def tMid (t u : TS) : TS := fun D σ H => ∃ Md : L2.St → Hp → Prop, t { D with nx := Md } σ H ∧ ∀ σ' H', Md σ' H' → u D σ' H'
theorem pss_mid {X : Cx} {st : Stmt} {more : List Stmt} {t u : TS} (h1 : PS X st t) (h2 : PSs X more u) : PSs X (st :: more) (tMid t u) := by
  refine ⟨fun pins s σ H D I ⟨Md, hm, hu⟩ => wpAny_execs_cons (thn (h1.run pins s σ H { D with nx := Md } I hm) fun f s1 q => ?_)⟩
  cases f with
  | next =>
    obtain ⟨σ', H', I', q⟩ := q
    exact h2.run pins s1 σ' H' D I' (hu σ' H' q)
  | ret v => exact q
  | brk => exact q
  | cont => exact q
/-- what repr asks of a list of things -/
structure ShowA (ds : List PyData) : Prop where
  sh : PyData.showableAll ds = true
  dp : PyData.depthAll ds ≤ 29
  ln : (PyData.shown (.list ds)).length ≤ sizeLine
end Lf

set_option linter.all false
/-! Sums and products of fractions in any order, by rational numbers. -/
namespace Lf
def rv (f : Int × Int) : Rat := Rat.divInt f.1 f.2
def IsF (f : Int × Int) : Prop := IsLow f.1 f.2
theorem IsF.ne {f : Int × Int} (h : IsF f) : f.2 ≠ 0 := by
  have : 0 < f.2 := h.1
  omega
theorem rv_inj {f g : Int × Int} (hf : IsF f) (hg : IsF g) (e : rv f = rv g) : f = g := by
  have q := (Rat.divInt_eq_divInt_iff hf.ne hg.ne).mp e
  obtain ⟨e1, e2⟩ := low_uniq hf hg q
  exact Prod.ext e1 e2
theorem low_f {n d : Int} (h : d ≠ 0) : IsF (low n d) := low_is h
theorem rv_low {n d : Int} (h : d ≠ 0) : rv (low n d) = Rat.divInt n d :=
  (Rat.divInt_eq_divInt_iff (low_f (n := n) h).ne h).mpr (low_cross h)
def fadd (f g : Int × Int) : Int × Int := low (f.1 * g.2 + g.1 * f.2) (f.2 * g.2)
def fsub (f g : Int × Int) : Int × Int := low (f.1 * g.2 - g.1 * f.2) (f.2 * g.2)
def fmul (f g : Int × Int) : Int × Int := low (f.1 * g.1) (f.2 * g.2)
def fdiv (f g : Int × Int) : Int × Int := low (f.1 * g.2) (f.2 * g.1)
section
variable {f g : Int × Int}
theorem fadd_f (hf : IsF f) (hg : IsF g) : IsF (fadd f g) := low_f (Int.mul_ne_zero hf.ne hg.ne)
theorem fsub_f (hf : IsF f) (hg : IsF g) : IsF (fsub f g) := low_f (Int.mul_ne_zero hf.ne hg.ne)
theorem fmul_f (hf : IsF f) (hg : IsF g) : IsF (fmul f g) := low_f (Int.mul_ne_zero hf.ne hg.ne)
theorem fdiv_f (hf : IsF f) (h0 : g.1 ≠ 0) : IsF (fdiv f g) := low_f (Int.mul_ne_zero hf.ne h0)
theorem rv_add (hf : IsF f) (hg : IsF g) : rv (fadd f g) = rv f + rv g := by
  unfold fadd
  rw [rv_low (Int.mul_ne_zero hf.ne hg.ne)]
  exact (Rat.divInt_add_divInt _ _ hf.ne hg.ne).symm
theorem rv_sub (hf : IsF f) (hg : IsF g) : rv (fsub f g) = rv f - rv g := by
  unfold fsub
  rw [rv_low (Int.mul_ne_zero hf.ne hg.ne)]
  exact (Rat.divInt_sub_divInt _ _ hf.ne hg.ne).symm
theorem rv_mul (hf : IsF f) (hg : IsF g) : rv (fmul f g) = rv f * rv g := by
  unfold fmul
  rw [rv_low (Int.mul_ne_zero hf.ne hg.ne)]
  exact (Rat.divInt_mul_divInt _ _).symm
theorem rv_div (hf : IsF f) (h0 : g.1 ≠ 0) : rv (fdiv f g) = rv f * (rv g)⁻¹ := by
  unfold fdiv
  rw [rv_low (Int.mul_ne_zero hf.ne h0)]
  unfold rv
  rw [Rat.inv_divInt, Rat.divInt_mul_divInt]
end
def f0 : Int × Int := (0, 1)
def f1 : Int × Int := (1, 1)
theorem f0_f : IsF f0 := ⟨by decide, by decide⟩
theorem f1_f : IsF f1 := ⟨by decide, by decide⟩
theorem rv0 : rv f0 = 0 := Rat.zero_divInt 1
theorem rv1 : rv f1 = 1 := Rat.divInt_self' (by decide)
theorem rv_zero {f : Int × Int} (h : IsF f) : rv f = 0 ↔ f.1 = 0 := by
  constructor
  · intro e
    have := rv_inj h f0_f (e.trans rv0.symm)
    rw [this]
    rfl
  · intro e
    unfold rv
    rw [e, Rat.zero_divInt]
theorem is0 {f : Int × Int} (h : IsF f) : f.1 = 0 ↔ f = f0 := by
  constructor
  · intro e
    exact rv_inj h f0_f (((rv_zero h).mpr e).trans rv0.symm)
  · intro e
    rw [e]
    rfl
def rsum : List (Int × Int) → Rat
  | [] => 0
  | f :: r => rv f + rsum r
def rprod : List (Int × Int) → Rat
  | [] => 1
  | f :: r => rv f * rprod r
theorem rsum_perm {l m : List (Int × Int)} (p : l.Perm m) : rsum l = rsum m := by
  induction p with
  | nil => rfl
  | cons x _ ih => exact congrArg (rv x + ·) ih
  | swap x y l =>
    show rv y + (rv x + rsum l) = rv x + (rv y + rsum l)
    rw [← Rat.add_assoc, ← Rat.add_assoc, Rat.add_comm (rv y)]
  | trans _ _ h1 h2 => exact h1.trans h2
theorem rprod_perm {l m : List (Int × Int)} (p : l.Perm m) : rprod l = rprod m := by
  induction p with
  | nil => rfl
  | cons x _ ih => exact congrArg (rv x * ·) ih
  | swap x y l =>
    show rv y * (rv x * rprod l) = rv x * (rv y * rprod l)
    rw [← Rat.mul_assoc, ← Rat.mul_assoc, Rat.mul_comm (rv y)]
  | trans _ _ h1 h2 => exact h1.trans h2
def AllF (l : List (Int × Int)) : Prop := ∀ f ∈ l, IsF f
theorem AllF.tl {f : Int × Int} {l : List (Int × Int)} (h : AllF (f :: l)) : AllF l := fun g hg => h g (List.mem_cons_of_mem _ hg)
theorem AllF.hd {f : Int × Int} {l : List (Int × Int)} (h : AllF (f :: l)) : IsF f := h f List.mem_cons_self
theorem sum_fold : ∀ (l : List (Int × Int)) (a : Int × Int), IsF a → AllF l → IsF (l.foldl fadd a) ∧ rv (l.foldl fadd a) = rv a + rsum l
  | [], a, ha, _ => ⟨ha, (Rat.add_zero _).symm⟩
  | f :: l, a, ha, h => by
    obtain ⟨h1, h2⟩ := sum_fold l (fadd a f) (fadd_f ha h.hd) h.tl
    refine ⟨h1, ?_⟩
    show rv (l.foldl fadd (fadd a f)) = rv a + (rv f + rsum l)
    rw [h2, rv_add ha h.hd, Rat.add_assoc]
theorem mul_fold : ∀ (l : List (Int × Int)) (a : Int × Int), IsF a → AllF l → IsF (l.foldl fmul a) ∧ rv (l.foldl fmul a) = rv a * rprod l
  | [], a, ha, _ => ⟨ha, (Rat.mul_one _).symm⟩
  | f :: l, a, ha, h => by
    obtain ⟨h1, h2⟩ := mul_fold l (fmul a f) (fmul_f ha h.hd) h.tl
    refine ⟨h1, ?_⟩
    show rv (l.foldl fmul (fmul a f)) = rv a * (rv f * rprod l)
    rw [h2, rv_mul ha h.hd, Rat.mul_assoc]
theorem sub_fold : ∀ (l : List (Int × Int)) (a : Int × Int), IsF a → AllF l → IsF (l.foldl fsub a) ∧ rv (l.foldl fsub a) = rv a - rsum l
  | [], a, ha, _ => ⟨ha, by show rv a = rv a - 0; rw [Rat.sub_eq_add_neg, show -(0 : Rat) = 0 from rfl, Rat.add_zero]⟩
  | f :: l, a, ha, h => by
    obtain ⟨h1, h2⟩ := sub_fold l (fsub a f) (fsub_f ha h.hd) h.tl
    refine ⟨h1, ?_⟩
    show rv (l.foldl fsub (fsub a f)) = rv a - (rv f + rsum l)
    rw [h2, rv_sub ha h.hd, Rat.sub_eq_add_neg, Rat.sub_eq_add_neg, Rat.sub_eq_add_neg, Rat.neg_add, Rat.add_assoc]
/-- one division, where it is one -/
def ddiv (a f : Int × Int) : Int × Int := if f.1 ≠ 0 ∧ a.1 ≠ 0 then fdiv a f else a
theorem ddiv_f {a f : Int × Int} (ha : IsF a) (hf : IsF f) : IsF (ddiv a f) := by
  unfold ddiv
  split
  · exact fdiv_f ha (by rename_i h; exact h.1)
  · exact ha
theorem div_fold0 : ∀ (l : List (Int × Int)) (a : Int × Int), a.1 = 0 → l.foldl ddiv a = a
  | [], _, _ => rfl
  | f :: l, a, h => by
    show l.foldl ddiv (ddiv a f) = a
    have e : ddiv a f = a := if_neg fun z => z.2 h
    rw [e]
    exact div_fold0 l a h
theorem div_fold : ∀ (l : List (Int × Int)) (a : Int × Int), IsF a → AllF l → (∀ f ∈ l, f.1 ≠ 0) → a.1 ≠ 0 → IsF (l.foldl ddiv a) ∧ rv (l.foldl ddiv a) * rprod l = rv a
  | [], a, ha, _, _, _ => ⟨ha, Rat.mul_one _⟩
  | f :: l, a, ha, h, h0, ha0 => by
    have hf0 : f.1 ≠ 0 := h0 f List.mem_cons_self
    have e : ddiv a f = fdiv a f := if_pos ⟨hf0, ha0⟩
    have hq := fdiv_f (g := f) ha hf0
    have rq := rv_div (g := f) ha hf0
    have rf0 : rv f ≠ 0 := fun z => hf0 ((rv_zero h.hd).mp z)
    have hb : rv (fdiv a f) * rv f = rv a := by rw [rq, Rat.mul_assoc, Rat.inv_mul_cancel _ rf0, Rat.mul_one]
    have hq0 : (fdiv a f).1 ≠ 0 := fun z => by
      have := (rv_zero hq).mpr z
      rw [this, Rat.zero_mul] at hb
      exact ha0 ((rv_zero ha).mp hb.symm)
    obtain ⟨h1, h2⟩ := div_fold l (fdiv a f) hq h.tl (fun g hg => h0 g (List.mem_cons_of_mem _ hg)) hq0
    show IsF (l.foldl ddiv (ddiv a f)) ∧ rv (l.foldl ddiv (ddiv a f)) * (rv f * rprod l) = rv a
    rw [e]
    refine ⟨h1, ?_⟩
    rw [Rat.mul_comm (rv f), ← Rat.mul_assoc, h2, hb]
theorem rprod0 : ∀ {l : List (Int × Int)}, AllF l → (rprod l = 0 ↔ ∃ f ∈ l, f.1 = 0)
  | [], _ => ⟨fun e => absurd e (by decide), fun ⟨_, h, _⟩ => nomatch h⟩
  | f :: l, h => by
    show rv f * rprod l = 0 ↔ _
    rw [Rat.mul_eq_zero, rv_zero h.hd, rprod0 h.tl]
    constructor
    · rintro (e | ⟨g, hg, e⟩)
      · exact ⟨f, List.mem_cons_self, e⟩
      · exact ⟨g, List.mem_cons_of_mem _ hg, e⟩
    · rintro ⟨g, hg, e⟩
      rcases List.mem_cons.mp hg with z | z
      · exact Or.inl (z ▸ e)
      · exact Or.inr ⟨g, z, e⟩
/-- told in two orders the same -/
theorem sum_same {l m : List (Int × Int)} (p : l.Perm m) (h : AllF l) : l.foldl fadd f0 = m.foldl fadd f0 := by
  have hm : AllF m := fun f hf => h f (p.mem_iff.mpr hf)
  obtain ⟨a1, a2⟩ := sum_fold l f0 f0_f h
  obtain ⟨b1, b2⟩ := sum_fold m f0 f0_f hm
  exact rv_inj a1 b1 (by rw [a2, b2, rsum_perm p])
theorem mul_same {l m : List (Int × Int)} (p : l.Perm m) (h : AllF l) : l.foldl fmul f1 = m.foldl fmul f1 := by
  have hm : AllF m := fun f hf => h f (p.mem_iff.mpr hf)
  obtain ⟨a1, a2⟩ := mul_fold l f1 f1_f h
  obtain ⟨b1, b2⟩ := mul_fold m f1 f1_f hm
  exact rv_inj a1 b1 (by rw [a2, b2, rprod_perm p])
theorem sub_none {l m : List (Int × Int)} (p : l.Perm m) (h : AllF l) : m.foldl fsub (l.foldl fadd f0) = f0 := by
  have hm : AllF m := fun f hf => h f (p.mem_iff.mpr hf)
  obtain ⟨a1, a2⟩ := sum_fold l f0 f0_f h
  obtain ⟨b1, b2⟩ := sub_fold m _ a1 hm
  exact rv_inj b1 f0_f (by rw [b2, a2, rv0, Rat.zero_add, rsum_perm p, Rat.sub_self])
theorem div_none {l m : List (Int × Int)} (p : l.Perm m) (h : AllF l) : m.foldl ddiv (l.foldl fmul f1) = if f0 ∈ l then f0 else f1 := by
  have hm : AllF m := fun f hf => h f (p.mem_iff.mpr hf)
  obtain ⟨a1, a2⟩ := mul_fold l f1 f1_f h
  rw [rv1, Rat.one_mul] at a2
  by_cases hz : f0 ∈ l
  · rw [if_pos hz]
    have z : rprod l = 0 := (rprod0 h).mpr ⟨f0, hz, rfl⟩
    have z1 : (l.foldl fmul f1).1 = 0 := (rv_zero a1).mp (a2.trans z)
    rw [div_fold0 _ _ z1]
    exact (is0 a1).mp z1
  · rw [if_neg hz]
    have nz : ∀ f ∈ l, f.1 ≠ 0 := fun f hf e => hz ((is0 (h f hf)).mp e ▸ hf)
    have np : rprod l ≠ 0 := fun e => by
      obtain ⟨f, hf, e'⟩ := (rprod0 h).mp e
      exact nz f hf e'
    have n1 : (l.foldl fmul f1).1 ≠ 0 := fun e => np (a2.symm.trans ((rv_zero a1).mpr e))
    obtain ⟨b1, b2⟩ := div_fold m _ a1 hm (fun f hf => nz f (p.mem_iff.mpr hf)) n1
    refine rv_inj b1 f1_f ?_
    rw [a2, rprod_perm p] at b2
    have np' : rprod m ≠ 0 := by rw [← rprod_perm p]; exact np
    have : rv (m.foldl ddiv (l.foldl fmul f1)) * rprod m * (rprod m)⁻¹ = rprod m * (rprod m)⁻¹ := by rw [b2]
    rw [Rat.mul_assoc, Rat.mul_inv_cancel _ np', Rat.mul_one] at this
    rw [this, rv1]
/-- one fraction times a sum is the sum of its products -/
theorem spread_fold (x : Int × Int) (hx : IsF x) : ∀ (l : List (Int × Int)) (a : Int × Int), IsF a → AllF l → IsF (l.foldl (fun a f => fadd a (fmul x f)) a) ∧ rv (l.foldl (fun a f => fadd a (fmul x f)) a) = rv a + rv x * rsum l
  | [], a, ha, _ => ⟨ha, by show rv a = rv a + rv x * 0; rw [Rat.mul_zero, Rat.add_zero]⟩
  | f :: l, a, ha, h => by
    obtain ⟨h1, h2⟩ := spread_fold x hx l (fadd a (fmul x f)) (fadd_f ha (fmul_f hx h.hd)) h.tl
    refine ⟨h1, ?_⟩
    show rv (l.foldl (fun a f => fadd a (fmul x f)) (fadd a (fmul x f))) = rv a + rv x * (rv f + rsum l)
    rw [h2, rv_add ha (fmul_f hx h.hd), rv_mul hx h.hd, Rat.mul_add, Rat.add_assoc]
theorem spread_same {x : Int × Int} {l : List (Int × Int)} (hx : IsF x) (h : AllF l) : l.foldl (fun a f => fadd a (fmul x f)) f0 = fmul (fmul f1 x) (l.foldl fadd f0) := by
  obtain ⟨a1, a2⟩ := spread_fold x hx l f0 f0_f h
  obtain ⟨b1, b2⟩ := sum_fold l f0 f0_f h
  have c := fmul_f f1_f hx
  refine rv_inj a1 (fmul_f c b1) ?_
  rw [a2, rv_mul c b1, rv_mul f1_f hx, b2, rv0, rv1, Rat.one_mul, Rat.zero_add, Rat.zero_add]
/-! sizes -/
def Bt (k : Nat) (f : Int × Int) : Prop := f.1.natAbs < 2 ^ k ∧ f.2.natAbs < 2 ^ k
theorem Bt.mono {j k : Nat} {f : Int × Int} (h : Bt j f) (hk : j ≤ k) : Bt k f :=
  ⟨Nat.lt_of_lt_of_le h.1 (Nat.pow_le_pow_right (by decide) hk), Nat.lt_of_lt_of_le h.2 (Nat.pow_le_pow_right (by decide) hk)⟩
theorem mul_lt {a b : Int} {j k : Nat} (ha : a.natAbs < 2 ^ j) (hb : b.natAbs < 2 ^ k) : (a * b).natAbs < 2 ^ (j + k) := by
  rw [Int.natAbs_mul, Nat.pow_add]
  exact Nat.mul_lt_mul'' ha hb
theorem low_bt {n d : Int} {k : Nat} (h : d ≠ 0) (hn : n.natAbs < 2 ^ k) (hd : d.natAbs < 2 ^ k) : Bt k (low n d) :=
  ⟨Nat.lt_of_le_of_lt (low_top_le h) hn, Nat.lt_of_le_of_lt (low_bottom_le h) hd⟩
section
variable {f g : Int × Int} {j k : Nat}
theorem fadd_bt (hf : IsF f) (hg : IsF g) (a : Bt k f) (b : Bt j g) : Bt (k + j + 1) (fadd f g) := by
  have h1 := mul_lt a.1 b.2
  have h2 := mul_lt a.2 b.1
  have h3 := mul_lt a.2 b.2
  have h4 := Int.natAbs_add_le (f.1 * g.2) (g.1 * f.2)
  rw [Int.mul_comm g.1] at h4
  have h5 : (2 : Nat) ^ (k + j + 1) = 2 ^ (k + j) + 2 ^ (k + j) := Nat.two_pow_succ _
  refine low_bt (Int.mul_ne_zero hf.ne hg.ne) ?_ (by omega)
  rw [Int.mul_comm g.1]
  omega
theorem fsub_bt (hf : IsF f) (hg : IsF g) (a : Bt k f) (b : Bt j g) : Bt (k + j + 1) (fsub f g) := by
  have h1 := mul_lt a.1 b.2
  have h2 := mul_lt a.2 b.1
  have h3 := mul_lt a.2 b.2
  have h4 := Int.natAbs_sub_le (f.1 * g.2) (g.1 * f.2)
  rw [Int.mul_comm g.1] at h4
  have h5 : (2 : Nat) ^ (k + j + 1) = 2 ^ (k + j) + 2 ^ (k + j) := Nat.two_pow_succ _
  refine low_bt (Int.mul_ne_zero hf.ne hg.ne) ?_ (by omega)
  rw [Int.mul_comm g.1]
  omega
theorem fmul_bt (hf : IsF f) (hg : IsF g) (a : Bt k f) (b : Bt j g) : Bt (k + j) (fmul f g) :=
  low_bt (Int.mul_ne_zero hf.ne hg.ne) (mul_lt a.1 b.1) (mul_lt a.2 b.2)
theorem fdiv_bt (hf : IsF f) (h0 : g.1 ≠ 0) (a : Bt k f) (b : Bt j g) : Bt (k + j) (fdiv f g) :=
  low_bt (Int.mul_ne_zero hf.ne h0) (mul_lt a.1 b.2) (mul_lt a.2 b.1)
theorem ddiv_bt (hf : IsF f) (a : Bt k f) (b : Bt j g) : Bt (k + j) (ddiv f g) := by
  unfold ddiv
  split
  · rename_i h
    exact fdiv_bt hf h.1 a b
  · exact a.mono (Nat.le_add_right _ _)
end
end Lf

set_option Elab.async false
set_option linter.all false
set_option maxRecDepth 100000
set_option maxHeartbeats 4000000
/-! isinstance of a caught error that has fields of its own, in the suite that caught it. -/
namespace Lf
open PySem PySem.Spec PySem.Calls PyProof.Rows PySem.W
/-- the library's fact of an own error, asked of the facts that L2.ExcC holds: with or without a dict of its own -/
theorem kit_own {K : Frag} {x D : Addr} {ox : Obj} {od : Option Obj} (T : L2.ExcC K D) : KitX K (.ref x) (.ref D) (fun h => InstAt h x ox D od) :=
  kitx_exc (gt := none) (match any_some T.hd with | ⟨_, hc, _⟩ => by rw [hc]; rfl) T.hg T.hk T.hs T.ha T.hn T.ht T.hm
end Lf
namespace Lf
open PySem PySem.Spec PyProof.Rows L2
/-- isinstance(e, c), e what the suite caught: its class is D, its fields stand -/
def rIsX (K : PySem.W.Frag) (D a : Addr) (cls : Value) (d : Option Addr) : List V → Hp → VK → Prop := fun xs H Q => cls = .ref D ∧ (d = none ∨ ∃ (dd : Addr) (fs : List (Str × V)), d = some dd ∧ H dd = some (.xd fs)) ∧
  ∃ (c : V) (cv : Value) (b : Bool), xs = [.ref a, c] ∧ (∀ u, RelV c u → u = cv) ∧ PySem.W.kitOne K (.ref D) cv = some b ∧ Q (.bl b) H
theorem call_isX {X : Cx} {a D : Addr} {oe : Obj} {cls : Value} {d : Option Addr} {pn : List (Addr × Obj)} (C : ExcC X.K D) (hz : Zc cls d oe) (hf : ∃ vs, oe.data = .fields vs) : CallR (X.suite a ((a, oe) :: pn)) (.builtin "isinstance") (rIsX X.K D a cls d) := by
  intro pins s σ H xs us Q I r h
  obtain ⟨ec, hd, c, cv, b, rfl, hcv, e, q⟩ := h
  cases r with
  | cons rx rr =>
    cases rr with
    | cons rt rr =>
      cases rr
      cases rx
      have ecv := hcv _ rt
      subst ecv
      obtain ⟨hget, _⟩ := I.pin (a, oe) (List.mem_append.mpr (.inl List.mem_cons_self))
      obtain ⟨vs, hv⟩ := hf
      have J : ∃ od, PySem.W.InstAt s.heap a oe D od := by
        rcases hd with hd | ⟨dd, fs, hd, hH⟩
        · exact ⟨none, hget, by rw [hz.1, ec], by unfold PySem.W.notCls; rw [hv] <;> rfl, by rw [hz.2, hd]; trivial⟩
        · have hx : ObjOk X.prog X.w H s.heap dd (.xd fs) := I.hok dd _ hH
          obtain ⟨o, ho⟩ := objOk_get hx
          exact ⟨some o, hget, by rw [hz.1, ec], by unfold PySem.W.notCls; rw [hv] <;> rfl, by rw [hz.2, hd]; exact ho⟩
      obtain ⟨od, J⟩ := J
      exact PySem.W.kia_one (kit_own (od := od) C) I.kIn J e (fun z => nomatch z) fun tk => ⟨.bl b, H, I.kept (t' := tk) fun _ _ z => z, rfl, q⟩
end Lf

set_option Elab.async false
set_option linter.all false
set_option maxRecDepth 100000
set_option maxHeartbeats 4000000
set_option exponentiation.threshold 3000
/-! Fractions that stand in the heap or among the module's constants, and rows of them. -/
namespace Lf
open PySem PySem.Spec PyProof.Rows L2
/-- a fraction stands at v -/
def AtK (K : PySem.W.Frag) (H : Hp) (v : V) (f : Int × Int) : Prop := ∃ p, v = .ref p ∧ SqT K H p [.int f.1, .int f.2]
theorem AtK.same {K : PySem.W.Frag} {H H' : Hp} {v : V} {f : Int × Int} (s : Same H H') (h : AtK K H v f) : AtK K H' v f := by
  obtain ⟨p, e, h⟩ := h
  refine ⟨p, e, ?_⟩
  rcases h with (h | ⟨o, h⟩) | h
  · exact .inl (.inl (s _ _ h))
  · exact .inl (.inr ⟨o, s _ _ h⟩)
  · exact .inr h
theorem AtK.of {K : PySem.W.Frag} {H : Hp} {p : Addr} {f : Int × Int} (h : H p = some (.tup [.int f.1, .int f.2])) : AtK K H (.ref p) f := ⟨p, rfl, .inl (.inl h)⟩
/-- fractions stand at vs -/
def AtKs (K : PySem.W.Frag) (H : Hp) (vs : List V) (fs : List (Int × Int)) : Prop := Paired (AtK K H) vs fs
theorem AtKs.map {K : PySem.W.Frag} {H H' : Hp} (s : ∀ v f, AtK K H v f → AtK K H' v f) : ∀ {vs : List V} {fs : List (Int × Int)}, AtKs K H vs fs → AtKs K H' vs fs
  | _, _, .nil => .nil
  | _, _, .cons a r => .cons (s _ _ a) (AtKs.map s r)
theorem AtKs.same {K : PySem.W.Frag} {H H' : Hp} (s : Same H H') {vs : List V} {fs : List (Int × Int)} (h : AtKs K H vs fs) : AtKs K H' vs fs := h.map fun _ _ => AtK.same s
theorem AtKs.get {K : PySem.W.Frag} {H : Hp} : ∀ {vs : List V} {fs : List (Int × Int)} {i : Nat} {v : V}, AtKs K H vs fs → vs[i]? = some v → ∃ f, fs[i]? = some f ∧ AtK K H v f
  | _, _, _, _, .nil, e => by simp at e
  | _, _, 0, _, .cons a _, e => by
    simp at e
    subst e
    exact ⟨_, rfl, a⟩
  | _, _, i + 1, v, .cons _ r, e => by
    obtain ⟨f, h1, h2⟩ := AtKs.get (i := i) (v := v) r (by simpa using e)
    exact ⟨f, by simpa using h1, h2⟩
theorem AtKs.getF {K : PySem.W.Frag} {H : Hp} : ∀ {vs : List V} {fs : List (Int × Int)} {i : Nat} {f : Int × Int}, AtKs K H vs fs → fs[i]? = some f → ∃ v, vs[i]? = some v ∧ AtK K H v f
  | _, _, _, _, .nil, e => by simp at e
  | _, _, 0, _, .cons a _, e => by
    simp at e
    subst e
    exact ⟨_, rfl, a⟩
  | _, _, i + 1, f, .cons _ r, e => by
    obtain ⟨v, h1, h2⟩ := AtKs.getF (i := i) (f := f) r (by simpa using e)
    exact ⟨v, by simpa using h1, h2⟩
theorem AtKs.length {K : PySem.W.Frag} {H : Hp} {vs : List V} {fs : List (Int × Int)} (h : AtKs K H vs fs) : vs.length = fs.length := Paired.length h
theorem AtKs.app {K : PySem.W.Frag} {H : Hp} : ∀ {vs us : List V} {fs gs : List (Int × Int)}, AtKs K H vs fs → AtKs K H us gs → AtKs K H (vs ++ us) (fs ++ gs)
  | _, _, _, _, .nil, h => h
  | _, _, _, _, .cons a r, h => .cons a (AtKs.app r h)
theorem fold_take {α β : Type} (g : β → α → β) (a : β) {l : List α} {i : Nat} {x : α} (h : l[i]? = some x) : (l.take (i + 1)).foldl g a = g ((l.take i).foldl g a) x := by
  rw [List.take_add_one, h, List.foldl_append]
  rfl
theorem take_all {l : List (Int × Int)} (h : AllF l) (i : Nat) : AllF (l.take i) := fun f hf => h f (List.mem_of_mem_take hf)
def AllB (b : Nat) (l : List (Int × Int)) : Prop := ∀ f ∈ l, Bt b f
theorem add_bt {b : Nat} : ∀ (l : List (Int × Int)) (k : Nat) (a : Int × Int), IsF a → AllF l → Bt k a → AllB b l → Bt (k + (b + 1) * l.length) (l.foldl fadd a)
  | [], _, _, _, _, h, _ => h
  | f :: l, k, a, ha, h, hk, hb => by
    have := add_bt l (k + b + 1) (fadd a f) (fadd_f ha h.hd) h.tl (fadd_bt ha h.hd hk (hb f List.mem_cons_self)) (fun g hg => hb g (List.mem_cons_of_mem _ hg))
    refine this.mono ?_
    rw [List.length_cons, Nat.mul_succ]
    omega
theorem bt01 : Bt 1 f0 ∧ Bt 1 f1 := ⟨⟨by decide, by decide⟩, ⟨by decide, by decide⟩⟩
theorem fadd_0 {f : Int × Int} (h : IsF f) : fadd f0 f = f := by
  refine rv_inj (fadd_f f0_f h) h ?_
  rw [rv_add f0_f h, rv0]
  exact Rat.zero_add _
/-- what holds by two promises holds by either -/
theorem FnG.or {P : Program} {w : World} {K : PySem.W.Frag} {mg : Str → Option Value} {base : Heap} {CX : CXT} {k : Nat} {f : Addr} {fd : FuncData} {ps : List Str} {sp sq : Sp} (F : FnG P w K mg base CX k f fd ps sp) (G : FnG P w K mg base CX k f fd ps sq) :
    FnG P w K mg base CX k f fd ps (fun vs H Q E => sp vs H Q E ∨ sq vs H Q E) :=
  ⟨fun vs H Q E h => h.elim (F.size vs H Q E) (G.size vs H Q E), fun B out s H ar us vs Q E r hg e0 hb hv h => h.elim (F.goes B out s H ar us vs Q E r hg e0 hb hv) (G.goes B out s H ar us vs Q E r hg e0 hb hv)⟩
end Lf

set_option Elab.async false
set_option linter.all false
/-! Heaps without what stands at a place, and what is new in a heap. -/
namespace Lf
open PySem PySem.Spec PyProof.Rows L2
def wo (q : Addr) (H : Hp) : Hp := fun b => if b = q then none else H b
theorem wo_at {q p : Addr} {H : Hp} {o : HO} (n : p ≠ q) (e : H p = some o) : wo q H p = some o := by
  unfold wo
  rw [if_neg n]
  exact e
theorem wo_le {q : Addr} {H : Hp} : Same (wo q H) H := fun b o e => by
  unfold wo at e
  split at e
  · cases e
  · exact e
theorem wo_not {q p : Addr} {H : Hp} {o : HO} (e : wo q H p = some o) : p ≠ q := fun z => by
  unfold wo at e
  rw [if_pos z] at e
  cases e
theorem wo_wo {q : Addr} {H H' : Hp} (s : Same H H') : Same (wo q H) (wo q H') := fun b o e => wo_at (wo_not e) (s _ _ (wo_le _ _ e))
theorem wo_upd {q : Addr} {H : Hp} {o : HO} : Same (wo q H) (wo q (upd H q o)) := fun b o e => wo_at (wo_not e) (by rw [upd_ne (wo_not e)]; exact wo_le _ _ e)
/-- what is new -/
def nw (H H' : Hp) : Hp := fun b => match H b with | none => H' b | some _ => none
theorem nw_at {H H' : Hp} {p : Addr} {o : HO} (m : H p = none) (e : H' p = some o) : nw H H' p = some o := by
  unfold nw
  rw [m]
  exact e
theorem nw_of {H H' : Hp} {p : Addr} {o : HO} (e : nw H H' p = some o) : H p = none ∧ H' p = some o := by
  unfold nw at e
  cases h : H p with
  | none =>
    rw [h] at e
    exact ⟨rfl, e⟩
  | some u =>
    rw [h] at e
    cases e
theorem upd_twice {H : Hp} {a : Addr} {o o' : HO} : upd (upd H a o) a o' = upd H a o' := by
  funext b
  by_cases h : b = a
  · rw [h, upd_same, upd_same]
  · rw [upd_ne h, upd_ne h, upd_ne h]
theorem same_none {H H' : Hp} {a : Addr} (s : Same H H') (h : H' a = none) : H a = none := by
  cases e : H a with
  | none => rfl
  | some o =>
    rw [s _ _ e] at h
    cases h
end Lf

set_option Elab.async false
set_option linter.all false
set_option maxRecDepth 100000
set_option maxHeartbeats 4000000
set_option exponentiation.threshold 3000
/-! Weights, steps, how often a step goes into weights, aims. -/
namespace Lf
theorem low_b {n d : Int} (hd : 0 < d) : 0 < (low n d).2 := (low_is (n := n) (by omega)).1
theorem low_top_pos {n d : Int} (hd : 0 < d) (hn : 0 < n) : 0 < (low n d).1 := by
  have h := low_cross (n := n) (d := d) (by omega)
  have hb := low_b (n := n) hd
  have : 0 < (low n d).1 * d := by rw [h]; exact Int.mul_pos hn hb
  exact Int.pos_of_mul_pos_left this hd
theorem low_top_nn {n d : Int} (hd : 0 < d) (hn : 0 ≤ n) : 0 ≤ (low n d).1 := by
  have h := low_cross (n := n) (d := d) (by omega)
  have hb := low_b (n := n) hd
  have h2 : 0 ≤ (low n d).1 * d := by rw [h]; exact Int.mul_nonneg hn (Int.le_of_lt hb)
  exact Int.nonneg_of_mul_nonneg_left h2 hd
theorem fdiv_pos_eq {a b : Int} (h : 0 < b) : a.fdiv b = a / b := Int.fdiv_eq_ediv_of_nonneg a (Int.le_of_lt h)
theorem low_fl {n d : Int} (hd : 0 < d) : (low n d).1.fdiv (low n d).2 = n.fdiv d := by
  have h := low_cross (n := n) (d := d) (by omega)
  have hb := low_b (n := n) hd
  rw [fdiv_pos_eq hb, fdiv_pos_eq hd]
  have e1 : d * (low n d).1 / (d * (low n d).2) = (low n d).1 / (low n d).2 := Int.mul_ediv_mul_of_pos _ _ hd
  have e2 : (low n d).2 * n / ((low n d).2 * d) = n / d := Int.mul_ediv_mul_of_pos _ _ hb
  rw [← e1, ← e2, Int.mul_comm d (low n d).1, h, Int.mul_comm n, Int.mul_comm d]
/-- at most c -/
def Vb (c : Int) (f : Int × Int) : Prop := f.1 ≤ c * f.2
theorem vb_low {n d c : Int} (hd : 0 < d) (h : n ≤ c * d) : Vb c (low n d) := by
  have hc := low_cross (n := n) (d := d) (by omega)
  have hb := low_b (n := n) hd
  unfold Vb
  have h1 : (low n d).1 * d ≤ (c * (low n d).2) * d := by
    rw [hc]
    have := Int.mul_le_mul_of_nonneg_right h (Int.le_of_lt hb)
    have e : c * d * (low n d).2 = c * (low n d).2 * d := by grind
    omega
  exact Int.le_of_mul_le_mul_right h1 hd
theorem vb_add {f g : Int × Int} {c e : Int} (hf : IsF f) (hg : IsF g) (h : Vb c f) (k : Vb e g) : Vb (c + e) (fadd f g) := by
  have h2 : 0 < f.2 := hf.1
  have k2 : 0 < g.2 := hg.1
  refine vb_low (Int.mul_pos h2 k2) ?_
  have a := Int.mul_le_mul_of_nonneg_right h (Int.le_of_lt k2)
  have b := Int.mul_le_mul_of_nonneg_right k (Int.le_of_lt h2)
  have e1 : c * f.2 * g.2 + e * g.2 * f.2 = (c + e) * (f.2 * g.2) := by grind
  omega
theorem vb_fold {C : Int} : ∀ (l : List (Int × Int)) (c : Int) (a : Int × Int), IsF a → AllF l → Vb c a → (∀ f ∈ l, Vb C f) → Vb (c + C * l.length) (l.foldl fadd a)
  | [], c, a, _, _, h, _ => by simpa using h
  | f :: l, c, a, ha, h, hk, hb => by
    have := vb_fold l (c + C) (fadd a f) (fadd_f ha h.hd) h.tl (vb_add ha h.hd hk (hb f List.mem_cons_self)) (fun g hg => hb g (List.mem_cons_of_mem _ hg))
    rw [List.length_cons]
    have e : c + C + C * (l.length : Int) = c + C * ((l.length + 1 : Nat) : Int) := by
      rw [Int.natCast_add, Int.mul_add]
      omega
    rw [← e]
    exact this
/-- a weight -/
structure Wt (f : Int × Int) : Prop where
  lo : IsF f
  po : 0 < f.1
  bt : Bt 41 f
theorem Wt.vb {f : Int × Int} (h : Wt f) : Vb (2 ^ 41) f := by
  unfold Vb
  have h1 := h.bt.1
  have h2 : 0 < f.2 := h.lo.1
  have h3 : f.1 < 2 ^ 41 := by
    have := h.po
    omega
  have : (2 : Int) ^ 41 * 1 ≤ 2 ^ 41 * f.2 := Int.mul_le_mul_of_nonneg_left (by omega) (by decide)
  omega
/-- weights -/
structure Wts (fs : List (Int × Int)) : Prop where
  all : ∀ f ∈ fs, Wt f
  one : 1 ≤ fs.length
  few : fs.length ≤ 12
theorem Wts.f {fs : List (Int × Int)} (h : Wts fs) : AllF fs := fun f hf => (h.all f hf).lo
theorem Wts.b {fs : List (Int × Int)} (h : Wts fs) : AllB 41 fs := fun f hf => (h.all f hf).bt
def tot (fs : List (Int × Int)) : Int × Int := fs.foldl fadd f0
theorem tot_f {fs : List (Int × Int)} (h : AllF fs) : IsF (tot fs) := (sum_fold fs f0 f0_f h).1
theorem tot_bt {fs : List (Int × Int)} (h : Wts fs) : Bt 505 (tot fs) := by
  have := add_bt (b := 41) fs 1 f0 f0_f h.f bt01.1 h.b
  refine this.mono ?_
  have := h.few
  omega
theorem fold_pos : ∀ (l : List (Int × Int)) (a : Int × Int), IsF a → AllF l → (∀ f ∈ l, 0 < f.1) → 0 ≤ a.1 → (l ≠ [] ∨ 0 < a.1) → 0 < (l.foldl fadd a).1
  | [], a, _, _, _, _, h => h.elim (fun z => absurd rfl z) id
  | f :: l, a, ha, hF, hp, h0, _ => by
    have h2 : 0 < a.2 := ha.1
    have k2 : 0 < f.2 := hF.hd.1
    have hpos : 0 < (fadd a f).1 := by
      refine low_top_pos (Int.mul_pos h2 k2) ?_
      have a1 := Int.mul_nonneg h0 (Int.le_of_lt k2)
      have a2 := Int.mul_pos (hp f List.mem_cons_self) h2
      omega
    exact fold_pos l (fadd a f) (fadd_f ha hF.hd) hF.tl (fun g hg => hp g (List.mem_cons_of_mem _ hg)) (Int.le_of_lt hpos) (.inr hpos)
theorem tot_pos {fs : List (Int × Int)} (h : Wts fs) : 0 < (tot fs).1 := by
  refine fold_pos fs f0 f0_f h.f (fun f hf => (h.all f hf).po) (by decide) (.inl fun z => ?_)
  have := h.one
  rw [z] at this
  cases this
theorem tot_vb {fs : List (Int × Int)} (h : Wts fs) : Vb (2 ^ 45) (tot fs) := by
  have v := vb_fold (C := 2 ^ 41) fs 0 f0 f0_f h.f (by unfold Vb; decide) (fun f hf => (h.all f hf).vb)
  unfold Vb at v ⊢
  have hb : 0 < (tot fs).2 := (tot_f h.f).1
  have h12 : (0 : Int) + 2 ^ 41 * (fs.length : Int) ≤ 2 ^ 45 := by
    have := h.few
    omega
  have := Int.mul_le_mul_of_nonneg_right h12 (Int.le_of_lt hb)
  show (tot fs).1 ≤ _
  have v' : (tot fs).1 ≤ (0 + 2 ^ 41 * (fs.length : Int)) * (tot fs).2 := v
  omega
/-- how often the step goes into the weights -/
def many (fs : List (Int × Int)) (st : Int × Int) : Int := ((tot fs).1 * st.2).fdiv ((tot fs).2 * st.1)
theorem many_nn {fs : List (Int × Int)} {st : Int × Int} (h : Wts fs) (hs : Wt st) : 0 ≤ many fs st := by
  have hb : 0 < (tot fs).2 := (tot_f h.f).1
  have hd := Int.mul_pos hb hs.po
  unfold many
  rw [fdiv_pos_eq hd]
  exact Int.ediv_nonneg (Int.mul_nonneg (Int.le_of_lt (tot_pos h)) (Int.le_of_lt hs.lo.1)) (Int.le_of_lt hd)
theorem many_lt {fs : List (Int × Int)} {st : Int × Int} (h : Wts fs) (hs : Wt st) : (many fs st).natAbs < 2 ^ 90 := by
  have hb : 0 < (tot fs).2 := (tot_f h.f).1
  have hd := Int.mul_pos hb hs.po
  have h0 := many_nn h hs
  have hv : (tot fs).1 ≤ 2 ^ 45 * (tot fs).2 := tot_vb h
  have s2 : 0 < st.2 := hs.lo.1
  have s1 := hs.po
  have key : many fs st ≤ 2 ^ 45 * st.2 := by
    unfold many
    rw [fdiv_pos_eq hd]
    refine Int.ediv_le_of_le_mul hd ?_
    have a := Int.mul_le_mul_of_nonneg_right hv (Int.le_of_lt s2)
    have b : 2 ^ 45 * (tot fs).2 * st.2 * 1 ≤ 2 ^ 45 * (tot fs).2 * st.2 * st.1 := Int.mul_le_mul_of_nonneg_left (by omega) (Int.mul_nonneg (Int.mul_nonneg (by decide) (Int.le_of_lt hb)) (Int.le_of_lt s2))
    have e : 2 ^ 45 * (tot fs).2 * st.2 * st.1 = 2 ^ 45 * st.2 * ((tot fs).2 * st.1) := by grind
    omega
  have hb2 := hs.bt.2
  omega
theorem many_is {fs : List (Int × Int)} {st : Int × Int} (h : Wts fs) (hs : Wt st) : (fdiv (tot fs) st).1.fdiv (fdiv (tot fs) st).2 = many fs st := low_fl (Int.mul_pos (tot_f h.f).1 hs.po)
/-- all weights by how many steps -/
def factor (fs : List (Int × Int)) (st : Int × Int) : Int × Int := fdiv (many fs st, 1) (tot fs)
theorem m1_f (m : Int) : IsF (m, 1) := ⟨by show (0 : Int) < 1; decide, by show Nat.Coprime m.natAbs 1; exact Nat.coprime_one_right _⟩
theorem factor_f {fs : List (Int × Int)} {st : Int × Int} (h : Wts fs) : IsF (factor fs st) := fdiv_f (m1_f _) (by have := tot_pos h; omega)
theorem many_bt {fs : List (Int × Int)} {st : Int × Int} (h : Wts fs) (hs : Wt st) : Bt 90 (many fs st, 1) := ⟨many_lt h hs, by show (1 : Int).natAbs < 2 ^ 90; decide⟩
theorem factor_bt {fs : List (Int × Int)} {st : Int × Int} (h : Wts fs) (hs : Wt st) : Bt 595 (factor fs st) := fdiv_bt (m1_f _) (by have := tot_pos h; omega) (many_bt h hs) (tot_bt h)
def aim (fs : List (Int × Int)) (st f : Int × Int) : Int × Int := fmul f (factor fs st)
theorem aim_f {fs : List (Int × Int)} {st f : Int × Int} (h : Wts fs) (hf : Wt f) : IsF (aim fs st f) := fmul_f hf.lo (factor_f h)
theorem aim_bt {fs : List (Int × Int)} {st f : Int × Int} (h : Wts fs) (hs : Wt st) (hf : Wt f) : Bt 636 (aim fs st f) := fmul_bt hf.lo (factor_f h) hf.bt (factor_bt h hs)
/-- the aim as the law reckons it -/
theorem aim_low {fs : List (Int × Int)} {st f : Int × Int} (h : Wts fs) (hf : Wt f) : aim fs st f = low (f.1 * (tot fs).2 * many fs st) (f.2 * (tot fs).1) := by
  have t1 : (tot fs).1 ≠ 0 := by have := tot_pos h; omega
  have hd : f.2 * (tot fs).1 ≠ 0 := Int.mul_ne_zero hf.lo.ne t1
  refine rv_inj (aim_f h hf) (low_f hd) ?_
  have e : rv (aim fs st f) = rv f * rv (factor fs st) := rv_mul hf.lo (factor_f (st := st) h)
  have e2 : rv (factor fs st) = rv (many fs st, 1) * (rv (tot fs))⁻¹ := rv_div (m1_f _) t1
  rw [e, e2, rv_low hd]
  unfold rv
  rw [Rat.inv_divInt, Rat.divInt_mul_divInt, Rat.divInt_mul_divInt]
  congr 1 <;> grind
end Lf

set_option Elab.async false
set_option linter.all false
set_option maxRecDepth 100000
set_option maxHeartbeats 4000000
/-! max of a tuple of two whole numbers; isinstance of a caught error and a tuple of classes. -/
namespace Lf
open PySem PySem.Spec PyProof.Rows L2
def rMaxT2 (K : PySem.W.Frag) : List V → Hp → VK → Prop := fun xs H Q => ∃ (p : Addr) (i j : Int), xs = [.ref p] ∧ SqT K H p [.int i, .int j] ∧ ∀ m : Int, i ≤ m → j ≤ m → Q (.int m) H
theorem call_maxT2 {X : Cx} (hc : X.calm = true) {k : Nat} (hr : Room k X.A) : CallR X (.builtin "max") (rMaxT2 X.K) := by
  intro pins s σ H xs us Q I r h
  obtain ⟨p, i, j, rfl, hS, q⟩ := h
  obtain ⟨its, rv, ht, _⟩ := I.tuple hS
  rw [Vals.ref1 r]
  have hu := hr.units
  have rd : ∃ as, ReadsAll s.heap its [PyData.int i, PyData.int j] as := by
    cases rv with
    | cons r1 rv =>
      cases rv with
      | cons r2 rv =>
        cases rv
        obtain ⟨t1, rfl⟩ := r1
        obtain ⟨t2, rfl⟩ := r2
        exact ⟨_, .cons (.int i t1) (.cons (.int j t2) .nil)⟩
  obtain ⟨as, rd⟩ := rd
  have al : PySem.W.AlikeAll [PyData.int i, PyData.int j] := by
    refine ⟨fun x hx y hy => ?_, fun x hx => ?_⟩
    · simp only [List.mem_cons, List.not_mem_nil, or_false] at hx hy
      rcases hx with rfl | rfl <;> rcases hy with rfl | rfl <;> rfl
    · simp only [List.mem_cons, List.not_mem_nil, or_false] at hx
      rcases hx with rfl | rfl <;> exact fun z => nomatch z
  refine PySem.W.max_tuple_data (x := .int i) (xs := [.int j]) (as := as) (I.ok.hd hc) ht (by simpa using rd) al (by simp only [PyData.depthAll, PyData.depth]; omega) fun n v h' tk bs hn rr hk => ?_
  have e : PySem.W.maxD (.int i) [PyData.int j] = .int (max i j) := PySem.W.maxD_ints i [j]
  rw [e] at rr
  cases rr with
  | int _ t => exact ⟨.int (max i j), H, I.kept hk, ⟨_, rfl⟩, q _ (by omega) (by omega)⟩
/-- isinstance(e, (C1, ..)), e the error that the suite holds -/
def rIsXT (K : PySem.W.Frag) (D a : Addr) (cls : Value) (d : Option Addr) : List V → Hp → VK → Prop := fun xs H Q => cls = .ref D ∧ (d = none ∨ ∃ (dd : Addr) (fs : List (Str × V)), d = some dd ∧ H dd = some (.xd fs)) ∧
  ∃ (tp : Addr) (cs : List V) (ws : List Value) (b : Bool), xs = [.ref a, .ref tp] ∧ H tp = some (.tup cs) ∧ Paired ClsV cs ws ∧ PySem.W.kitAny K (.ref D) ws = some b ∧ Q (.bl b) H
theorem call_isXT {X : Cx} {a D : Addr} {oe : Obj} {cls : Value} {d : Option Addr} {pn : List (Addr × Obj)} (C : ExcC X.K D) (hz : Zc cls d oe) (hf : ∃ vs, oe.data = .fields vs) : CallR (X.suite a ((a, oe) :: pn)) (.builtin "isinstance") (rIsXT X.K D a cls d) := by
  intro pins s σ H xs us Q I r h
  obtain ⟨ec, hd, tp, cs, ws, b, rfl, hT, hcv, e, q⟩ := h
  obtain ⟨u1, u2, rfl, r1, r2⟩ := vals2 r
  cases (show u2 = Value.ref tp from r2)
  cases (show u1 = Value.ref a from r1)
  obtain ⟨_, its, rv, o, h1, h2, n, h3⟩ := (show ObjOk X.prog X.w H s.heap tp (.tup cs) from I.hok tp _ hT)
  have e3 := ClsV.all hcv rv
  subst e3
  obtain ⟨oc, od0, dt, sl⟩ := o
  simp only at h2 h3
  subst h2 h3
  obtain ⟨hget, _⟩ := I.pin (a, oe) (List.mem_append.mpr (.inl List.mem_cons_self))
  obtain ⟨vs, hv⟩ := hf
  have J : ∃ od, PySem.W.InstAt s.heap a oe D od := by
    rcases hd with hd | ⟨dd, fs, hd, hH⟩
    · exact ⟨none, hget, by rw [hz.1, ec], by unfold PySem.W.notCls; rw [hv] <;> rfl, by rw [hz.2, hd]; trivial⟩
    · have hx : ObjOk X.prog X.w H s.heap dd (.xd fs) := I.hok dd _ hH
      obtain ⟨o, ho⟩ := objOk_get hx
      exact ⟨some o, hget, by rw [hz.1, ec], by unfold PySem.W.notCls; rw [hv] <;> rfl, by rw [hz.2, hd]; exact ho⟩
  obtain ⟨od, J⟩ := J
  exact PySem.W.kia_tup (kit_own (od := od) C) I.kIn J h1 e (fun z => nomatch z) fun tk => ⟨.bl b, H, I.kept (t' := tk) fun _ _ z => z, rfl, q⟩
end Lf

set_option Elab.async false
set_option linter.all false
set_option maxRecDepth 100000
set_option maxHeartbeats 4000000
set_option exponentiation.threshold 3000
/-! Floors, rests beyond them, who is counted one more, how far counts are off. -/
namespace Lf
/-- the floor of a fraction -/
def fl (f : Int × Int) : Int := f.1.fdiv f.2
theorem fl_eq {f : Int × Int} (h : IsF f) : fl f = f.1 / f.2 := fdiv_pos_eq h.1
theorem fl_nn {f : Int × Int} (h : IsF f) (h0 : 0 ≤ f.1) : 0 ≤ fl f := by
  rw [fl_eq h]
  exact Int.ediv_nonneg h0 (Int.le_of_lt h.1)
theorem fl_le {f : Int × Int} (h : IsF f) (h0 : 0 ≤ f.1) : fl f ≤ f.1 := by
  rw [fl_eq h]
  exact Int.ediv_le_self _ h0
theorem fl_mod {f : Int × Int} (h : IsF f) : f.1 - fl f * f.2 = f.1 % f.2 := by
  rw [fl_eq h]
  have := Int.emod_add_mul_ediv f.1 f.2
  have e : f.1 / f.2 * f.2 = f.2 * (f.1 / f.2) := Int.mul_comm _ _
  omega
theorem fl_bt {k : Nat} {f : Int × Int} (h : IsF f) (h0 : 0 ≤ f.1) (b : Bt k f) (hk : 0 < k) : Bt k (fl f, 1) := by
  refine ⟨?_, ?_⟩
  · have h1 := fl_nn h h0
    have h2 := fl_le h h0
    have h3 := b.1
    show (fl f).natAbs < _
    omega
  · show (1 : Int).natAbs < 2 ^ k
    exact Nat.one_lt_two_pow (by omega)
/-- what a fraction has more than its floor -/
def rst (f : Int × Int) : Int × Int := fsub f (fl f, 1)
theorem rst_eq {f : Int × Int} (h : IsF f) : rst f = low (f.1 % f.2) f.2 := by
  show low (f.1 * 1 - fl f * f.2) (f.2 * 1) = _
  rw [Int.mul_one, Int.mul_one, fl_mod h]
theorem rst_f {f : Int × Int} (h : IsF f) : IsF (rst f) := fsub_f h (m1_f _)
theorem rst_nn {f : Int × Int} (h : IsF f) : 0 ≤ (rst f).1 := by
  rw [rst_eq h]
  exact low_top_nn h.1 (Int.emod_nonneg _ h.ne)
theorem rst_bt {k : Nat} {f : Int × Int} (h : IsF f) (b : Bt k f) : Bt k (rst f) := by
  rw [rst_eq h]
  have h1 := Int.emod_nonneg f.1 h.ne
  have h2 := Int.emod_lt_of_pos f.1 h.1
  have h3 := b.2
  have h4 : 0 < f.2 := h.1
  exact low_bt h.ne (by omega) h3
theorem aim_nn {fs : List (Int × Int)} {st f : Int × Int} (h : Wts fs) (hs : Wt st) (hf : Wt f) : 0 ≤ (aim fs st f).1 := by
  rw [aim_low h hf]
  refine low_top_nn (Int.mul_pos hf.lo.1 (tot_pos h)) ?_
  exact Int.mul_nonneg (Int.mul_nonneg (Int.le_of_lt hf.po) (Int.le_of_lt (tot_f h.f).1)) (many_nn h hs)
def lessB (f g : Int × Int) : Bool := decide (f.1 * g.2 < g.1 * f.2)
/-- whether the i-th is counted one more sooner than the j-th -/
def soon (rs : List (Int × Int)) (i j : Nat) : Bool := if rs.getD i f0 = rs.getD j f0 then decide (i < j) else lessB (rs.getD j f0) (rs.getD i f0)
theorem lessB_self (f : Int × Int) : lessB f f = false := decide_eq_false (by omega)
theorem soon_law (rs : List (Int × Int)) (i j : Nat) : soon rs i j = (lessB (rs.getD j f0) (rs.getD i f0) || (decide (rs.getD j f0 = rs.getD i f0) && decide (i < j))) := by
  unfold soon
  by_cases h : rs.getD i f0 = rs.getD j f0
  · rw [if_pos h, h, lessB_self]
    simp
  · rw [if_neg h, decide_eq_false (fun z => h z.symm)]
    simp
/-- how many are sooner than the j-th -/
def ahead (rs : List (Int × Int)) (j : Nat) : Nat := ((List.range rs.length).filter fun i => soon rs i j).length
theorem ahead_le (rs : List (Int × Int)) (j : Nat) : ahead rs j ≤ rs.length := by
  unfold ahead
  exact Nat.le_trans (List.length_filter_le _ _) (by rw [List.length_range]; exact Nat.le_refl _)
/-- all aims -/
def aimsF (fs : List (Int × Int)) (st : Int × Int) : List (Int × Int) := fs.map (aim fs st)
/-- how many are to be one more -/
def more (fs : List (Int × Int)) (st : Int × Int) : Int := many fs st - ((aimsF fs st).map fl).sum
/-- the count of the k-th -/
def cntAt (fs : List (Int × Int)) (st : Int × Int) (k : Nat) : Int := fl ((aimsF fs st).getD k f0) + if (ahead ((aimsF fs st).map rst) k : Int) < more fs st then 1 else 0
def cnt (fs : List (Int × Int)) (st : Int × Int) : List Int := (List.range fs.length).map (cntAt fs st)
theorem cnt_len (fs : List (Int × Int)) (st : Int × Int) : (cnt fs st).length = fs.length := by
  unfold cnt
  rw [List.length_map, List.length_range]
theorem cnt_get {fs : List (Int × Int)} {st : Int × Int} {k : Nat} (h : k < fs.length) : (cnt fs st)[k]? = some (cntAt fs st k) := by
  unfold cnt
  rw [List.getElem?_map, List.getElem?_range h]
  rfl
/-- the difference of a fraction and a count -/
def far (f : Int × Int) (c : Int) : Int × Int := low ((f.1 - c * f.2).natAbs : Int) f.2
theorem abs_low {n d : Int} (hd : 0 < d) : (((low n d).1.natAbs : Int), (low n d).2) = low (n.natAbs : Int) d := by
  have hl := low_is (n := n) (d := d) (by omega)
  have hc := low_cross (n := n) (d := d) (by omega)
  symm
  refine low_eq (by omega) ⟨hl.1, by rw [Int.natAbs_natCast]; exact hl.2⟩ ?_
  have h1 : ((low n d).1 * d).natAbs = (n * (low n d).2).natAbs := by rw [hc]
  rw [Int.natAbs_mul, Int.natAbs_mul] at h1
  have hb : 0 < (low n d).2 := hl.1
  have e1 : (d.natAbs : Int) = d := by omega
  have e2 : ((low n d).2.natAbs : Int) = (low n d).2 := by omega
  have h2 : ((low n d).1.natAbs : Int) * (d.natAbs : Int) = (n.natAbs : Int) * ((low n d).2.natAbs : Int) := by
    rw [← Int.natCast_mul, ← Int.natCast_mul, h1]
  rw [e1, e2] at h2
  exact h2
/-- as the program reckons it -/
theorem far_prog {f : Int × Int} (h : IsF f) (c : Int) : (((fsub (c, 1) f).1.natAbs : Int), (fsub (c, 1) f).2) = far f c := by
  have e : fsub (c, 1) f = low (c * f.2 - f.1) f.2 := by
    show low (c * f.2 - f.1 * 1) (1 * f.2) = _
    rw [Int.mul_one, Int.one_mul]
  rw [e, abs_low h.1]
  unfold far
  have : (c * f.2 - f.1).natAbs = (f.1 - c * f.2).natAbs := by omega
  rw [this]
theorem far_f {f : Int × Int} (h : IsF f) (c : Int) : IsF (far f c) := low_f h.ne
theorem far_nn {f : Int × Int} (h : IsF f) (c : Int) : 0 ≤ (far f c).1 := low_top_nn h.1 (by omega)
/-- the greater one -/
def wmax (w g : Int × Int) : Int × Int := if lessB w g = true then g else w
def wst (w : Int × Int) (p : (Int × Int) × Int) : Int × Int := wmax w (far p.1 p.2)
def worst (fs : List (Int × Int)) (cs : List Int) : Int × Int := (fs.zip cs).foldl wst f0
/-- counts near enough -/
def Near (k : Nat) (fs : List (Int × Int)) (cs : List Int) : Prop := ∀ p ∈ fs.zip cs, Bt k (far p.1 p.2) ∧ p.2.natAbs < 2 ^ k
theorem worst_step {fs : List (Int × Int)} {cs : List Int} {i : Nat} {f : Int × Int} {c : Int} (h1 : fs[i]? = some f) (h2 : cs[i]? = some c) : ((fs.zip cs).take (i + 1)).foldl wst f0 = wmax (((fs.zip cs).take i).foldl wst f0) (far f c) := by
  have h : (fs.zip cs)[i]? = some (f, c) := by
    rw [List.getElem?_zip_eq_some]
    exact ⟨h1, h2⟩
  rw [fold_take wst f0 h]
  simp only [wst]
theorem worst_ok {k : Nat} {fs : List (Int × Int)} {cs : List Int} (hF : AllF fs) (hk : 0 < k) (h : Near k fs cs) (i : Nat) : IsF (((fs.zip cs).take i).foldl wst f0) ∧ Bt k (((fs.zip cs).take i).foldl wst f0) ∧ 0 ≤ (((fs.zip cs).take i).foldl wst f0).1 := by
  induction i with
  | zero =>
    rw [List.take_zero, List.foldl_nil]
    exact ⟨f0_f, bt01.1.mono hk, Int.le_refl 0⟩
  | succ i ih =>
    cases e : (fs.zip cs)[i]? with
    | none =>
      rw [List.take_of_length_le (by have := List.getElem?_eq_none_iff.mp e; omega)]
      rw [List.take_of_length_le (by have := List.getElem?_eq_none_iff.mp e; omega)] at ih
      exact ih
    | some p =>
      rw [fold_take wst f0 e]
      have hm := List.mem_of_getElem? e
      have hp : p.1 ∈ fs := (List.of_mem_zip (show (p.1, p.2) ∈ fs.zip cs from hm)).1
      unfold wst wmax
      split
      · exact ⟨far_f (hF _ hp) _, (h p hm).1, far_nn (hF _ hp) _⟩
      · exact ih
/-- what the weights have more than so many steps -/
def left_ (fs : List (Int × Int)) (st : Int × Int) : Int × Int := fsub (tot fs) (fmul (many fs st, 1) st)
end Lf
namespace Lf
/-- the counts when the first i are looked at -/
def part (fs : List (Int × Int)) (st : Int × Int) (i : Nat) : List Int := (List.range fs.length).map fun k => if k < i then cntAt fs st k else fl ((aimsF fs st).getD k f0)
theorem part_0 (fs : List (Int × Int)) (st : Int × Int) : part fs st 0 = (aimsF fs st).map fl := by
  refine List.ext_getElem? fun k => ?_
  unfold part aimsF
  rw [List.getElem?_map, List.getElem?_map, List.getElem?_map]
  by_cases h : k < fs.length
  · rw [List.getElem?_range h, List.getElem?_eq_getElem h]
    simp [List.getD_eq_getElem?_getD, List.getElem?_map, h]
  · rw [List.getElem?_eq_none (by rw [List.length_range]; omega), List.getElem?_eq_none (by omega)]
    rfl
theorem part_n (fs : List (Int × Int)) (st : Int × Int) : part fs st fs.length = cnt fs st := by
  unfold part cnt
  refine List.map_congr_left fun k hk => ?_
  rw [if_pos (List.mem_range.mp hk)]
theorem part_get {fs : List (Int × Int)} {st : Int × Int} {i k : Nat} (h : k < fs.length) : (part fs st i)[k]? = some (if k < i then cntAt fs st k else fl ((aimsF fs st).getD k f0)) := by
  unfold part
  rw [List.getElem?_map, List.getElem?_range h]
  rfl
theorem part_len (fs : List (Int × Int)) (st : Int × Int) (i : Nat) : (part fs st i).length = fs.length := by
  unfold part
  rw [List.length_map, List.length_range]
theorem part_set {fs : List (Int × Int)} {st : Int × Int} {i : Nat} (h : i < fs.length) : part fs st (i + 1) = (part fs st i).set i (cntAt fs st i) := by
  refine List.ext_getElem? fun k => ?_
  rw [List.getElem?_set]
  by_cases hk : k < fs.length
  · rw [part_get hk]
    by_cases hi : i = k
    · subst hi
      rw [if_pos rfl, if_pos (Nat.lt_succ_self i), if_pos (by rw [part_len]; exact h)]
    · rw [if_neg hi, part_get hk]
      by_cases h1 : k < i
      · rw [if_pos h1, if_pos (by omega)]
      · rw [if_neg h1, if_neg (by omega)]
  · rw [List.getElem?_eq_none (by rw [part_len]; omega), if_neg (by omega), List.getElem?_eq_none (by rw [part_len]; omega)]
theorem part_stay {fs : List (Int × Int)} {st : Int × Int} {i : Nat} (h : cntAt fs st i = fl ((aimsF fs st).getD i f0)) : part fs st (i + 1) = part fs st i := by
  unfold part
  refine List.map_congr_left fun k hk => ?_
  by_cases h1 : k < i
  · rw [if_pos h1, if_pos (by omega)]
  · by_cases h2 : k = i
    · subst h2
      rw [if_neg h1, if_pos (Nat.lt_succ_self k), h]
    · rw [if_neg h1, if_neg (by omega)]
/-- a count is the floor or one more -/
theorem near_one {f : Int × Int} {c : Int} (h : IsF f) (h0 : 0 ≤ f.1) (b : Bt 636 f) (hc : c = fl f ∨ c = fl f + 1) : Bt 640 (far f c) ∧ c.natAbs < 2 ^ 640 := by
  have hm := fl_mod h
  have m0 := Int.emod_nonneg f.1 h.ne
  have m1 := Int.emod_lt_of_pos f.1 h.1
  have h2 : 0 < f.2 := h.1
  have hle : (f.1 - c * f.2).natAbs ≤ f.2.natAbs := by
    rcases hc with rfl | rfl
    · omega
    · have e : (fl f + 1) * f.2 = fl f * f.2 + f.2 := by rw [Int.add_mul, Int.one_mul]
      omega
  have p : (2 : Nat) ^ 636 + 2 ^ 636 ≤ 2 ^ 640 := by
    rw [show (640 : Nat) = 636 + 1 + 3 from rfl, Nat.pow_add, Nat.two_pow_succ]
    omega
  refine ⟨low_bt h.ne ?_ ?_, ?_⟩
  · rw [Int.natAbs_natCast]
    have := b.2
    omega
  · have := b.2
    omega
  · have a1 := fl_nn h h0
    have a2 := fl_le h h0
    have a3 := b.1
    omega
end Lf
namespace Lf
def fle (f g : Int × Int) : Prop := f.1 * g.2 ≤ g.1 * f.2
theorem fle_trans {a b c : Int × Int} (hb : 0 < b.2) (ha : 0 < a.2) (hc : 0 < c.2) (h : fle a b) (k : fle b c) : fle a c := by
  unfold fle at *
  have h1 := Int.mul_le_mul_of_nonneg_right h (Int.le_of_lt hc)
  have h2 := Int.mul_le_mul_of_nonneg_right k (Int.le_of_lt ha)
  have e1 : a.1 * b.2 * c.2 = a.1 * c.2 * b.2 := by grind
  have e2 : b.1 * a.2 * c.2 = b.1 * c.2 * a.2 := by grind
  have e3 : c.1 * b.2 * a.2 = c.1 * a.2 * b.2 := by grind
  exact Int.le_of_mul_le_mul_right (a := b.2) (by omega) hb
theorem fle_add {a g : Int × Int} (ha : IsF a) (hg : IsF g) (h0 : 0 ≤ g.1) : fle a (fadd a g) := by
  have h2 : 0 < a.2 := ha.1
  have k2 : 0 < g.2 := hg.1
  have hd := Int.mul_pos h2 k2
  have hc : (fadd a g).1 * (a.2 * g.2) = (a.1 * g.2 + g.1 * a.2) * (fadd a g).2 := low_cross (by omega)
  have hb : 0 < (fadd a g).2 := low_b hd
  unfold fle
  refine Int.le_of_mul_le_mul_right (a := g.2) ?_ k2
  have p := Int.mul_nonneg (Int.mul_nonneg h0 (Int.le_of_lt h2)) (Int.le_of_lt hb)
  have e1 : (fadd a g).1 * a.2 * g.2 = (fadd a g).1 * (a.2 * g.2) := by grind
  have e2 : (a.1 * g.2 + g.1 * a.2) * (fadd a g).2 = a.1 * (fadd a g).2 * g.2 + g.1 * a.2 * (fadd a g).2 := by grind
  rw [e1, hc, e2]
  omega
theorem fold_ge : ∀ (l : List (Int × Int)) (a : Int × Int), IsF a → AllF l → (∀ g ∈ l, 0 ≤ g.1) → fle a (l.foldl fadd a)
  | [], a, _, _, _ => by unfold fle; exact Int.le_refl _
  | g :: l, a, ha, hF, h => by
    have hf := fadd_f ha hF.hd
    have h1 := fle_add ha hF.hd (h g List.mem_cons_self)
    have h2 := fold_ge l (fadd a g) hf hF.tl (fun x hx => h x (List.mem_cons_of_mem _ hx))
    exact fle_trans hf.1 ha.1 (sum_fold l (fadd a g) hf hF.tl).1.1 h1 h2
theorem many_head {fs : List (Int × Int)} {f : Int × Int} (W : Wts fs) (h : fs[0]? = some f) : many fs f ≠ 0 := by
  match fs, h with
  | g :: l, h =>
    have e : g = f := by simpa using h
    subst e
    have wg := W.all g List.mem_cons_self
    have ht : tot (g :: l) = l.foldl fadd g := by
      show l.foldl fadd (fadd f0 g) = _
      rw [fadd_0 wg.lo]
    have hge : fle g (tot (g :: l)) := by
      rw [ht]
      exact fold_ge l g wg.lo W.f.tl fun x hx => Int.le_of_lt (W.all x (List.mem_cons_of_mem _ hx)).po
    have hd := Int.mul_pos (tot_f W.f).1 wg.po
    have : 1 ≤ many (g :: l) g := by
      unfold many
      rw [fdiv_pos_eq hd]
      refine Int.le_ediv_of_mul_le hd ?_
      unfold fle at hge
      rw [Int.one_mul, Int.mul_comm]
      exact hge
    omega
theorem lfar_rst {f : Int × Int} (h : IsF f) : low ((f.1 * 1 - fl f * f.2).natAbs : Int) (f.2 * 1) = rst f := by
  have hm := fl_mod h
  have m0 := Int.emod_nonneg f.1 h.ne
  have e : ((f.1 * 1 - fl f * f.2).natAbs : Int) = f.1 * 1 - fl f * f.2 := by omega
  rw [e]
  rfl
theorem lfar_far (f : Int × Int) (c : Int) : low ((f.1 * 1 - c * f.2).natAbs : Int) (f.2 * 1) = far f c := by
  unfold far
  rw [Int.mul_one, Int.mul_one]
theorem used_is (fs : List (Int × Int)) (st : Int × Int) : low (st.1 * many fs st) st.2 = fmul (many fs st, 1) st := by
  show _ = low (many fs st * st.1) (1 * st.2)
  rw [Int.mul_comm, Int.one_mul]
theorem lfar_left {fs : List (Int × Int)} {st : Int × Int} (W : Wts fs) (hs : Wt st) : low (((tot fs).1 * (fmul (many fs st, 1) st).2 - (fmul (many fs st, 1) st).1 * (tot fs).2).natAbs : Int) ((tot fs).2 * (fmul (many fs st, 1) st).2) = left_ fs st := by
  have t2 : 0 < (tot fs).2 := (tot_f W.f).1
  have s2 : 0 < st.2 := hs.lo.1
  have hd := Int.mul_pos t2 hs.po
  have hm : many fs st * ((tot fs).2 * st.1) ≤ (tot fs).1 * st.2 := by
    unfold many
    rw [fdiv_pos_eq hd]
    exact Int.ediv_mul_le _ (by omega)
  have hc : (fmul (many fs st, 1) st).1 * (1 * st.2) = (many fs st * st.1) * (fmul (many fs st, 1) st).2 := low_cross (by omega)
  have hb : 0 < (fmul (many fs st, 1) st).2 := low_b (by omega)
  obtain ⟨u, hu⟩ : ∃ u, u = fmul (many fs st, 1) st := ⟨_, rfl⟩
  rw [← hu] at hc hb ⊢
  have key : u.1 * (tot fs).2 ≤ (tot fs).1 * u.2 := by
    refine Int.le_of_mul_le_mul_right (a := st.2) ?_ s2
    have e1 : u.1 * (tot fs).2 * st.2 = u.1 * (1 * st.2) * (tot fs).2 := by grind
    have e2 : many fs st * st.1 * u.2 * (tot fs).2 = many fs st * ((tot fs).2 * st.1) * u.2 := by grind
    have e3 : (tot fs).1 * u.2 * st.2 = (tot fs).1 * st.2 * u.2 := by grind
    rw [e1, hc, e2, e3]
    exact Int.mul_le_mul_of_nonneg_right hm (Int.le_of_lt hb)
  have e : (((tot fs).1 * u.2 - u.1 * (tot fs).2).natAbs : Int) = (tot fs).1 * u.2 - u.1 * (tot fs).2 := by omega
  rw [e]
  unfold left_
  rw [← hu]
  rfl
end Lf

set_option Elab.async false
set_option linter.all false
set_option maxRecDepth 100000
set_option maxHeartbeats 4000000
/-! xs[i] += e of a list; promises of defs that let nothing out. -/
namespace Lf
open PySem PySem.Spec PyProof.Rows L2
def rGetN (K : PySem.W.Frag) : V → V → Hp → VK → Prop := fun x y H Q => ∃ (p : Addr) (xs : List V) (n : Nat) (v : V), x = .ref p ∧ y = .int n ∧ SqL K H p xs ∧ xs[n]? = some v ∧ n < 2 ^ 60 ∧ Q v H
theorem get_listN {X : Cx} : PGet X (rGetN X.K) := by
  intro pins s σ H o i ov iv Q I ro ri h
  obtain ⟨p, xs, n, v, rfl, rfl, hq, he, hn, q⟩ := h
  cases ro
  obtain ⟨t, rfl⟩ := ri
  obtain ⟨its, r, pl, hz⟩ := I.list hq
  obtain ⟨w, ew, rw'⟩ := r.get he
  exact getItem_listL (x := w) pl.isList (by omega) (by omega) (by simpa using ew) ⟨v, H, I, rw', q⟩
/-- a promise of more -/
theorem FnG.imp {P : Program} {w : World} {K : PySem.W.Frag} {mg : Str → Option Value} {base : Heap} {CX : CXT} {k : Nat} {f : Addr} {fd : FuncData} {ps : List Str} {sp sq : Sp} (F : FnG P w K mg base CX k f fd ps sp) (h : ∀ vs H Q E, sq vs H Q E → sp vs H Q E) : FnG P w K mg base CX k f fd ps sq :=
  ⟨fun vs H Q E q => F.size vs H Q E (h _ _ _ _ q), fun B out s H ar us vs Q E r hg e0 hb hv q => F.goes B out s H ar us vs Q E r hg e0 hb hv (h _ _ _ _ q)⟩
theorem Cal.imp {P : Program} {w : World} {K : PySem.W.Frag} {mg : Str → Option Value} {base : Heap} {CX : CXT} {k : Nat} {x : Str} {ps : List Str} {sp sq : Sp} (C : Cal P w K mg base CX k x ps sp) (h : ∀ vs H Q E, sq vs H Q E → sp vs H Q E) : Cal P w K mg base CX k x ps sq := by
  obtain ⟨f, fd, F, a, b, c, d, e⟩ := C.ex
  exact ⟨f, fd, F.imp h, a, b, c, d, e⟩
/-- where nothing is let out -/
theorem FnG.calm {P : Program} {w : World} {K : PySem.W.Frag} {mg : Str → Option Value} {base : Heap} {k : Nat} {f : Addr} {fd : FuncData} {ps : List Str} {sp : Sp} (F : FnG P w K mg base (L2.CX P w) k f fd ps sp) : FnG P w K mg base CX0 k f fd ps (fun vs H Q _ => sp vs H Q E0) := by
  refine ⟨fun vs H Q E q => F.size vs H Q E0 q, fun B out s H ar us vs Q E r hg e0 hb hv q => ?_⟩
  refine codeAny_mono (F.goes B out s H ar us vs Q E0 r hg e0 hb hv q) fun z s' hz => ?_
  cases z with
  | error e =>
    obtain ⟨_, _, _, _, _, _, _, _, _, _, _, _, z⟩ := (show L2.CX P w out H s E0 e s' from hz)
    exact z.elim
  | ok fl =>
    cases fl with
    | ret u => exact hz
    | next => exact False.elim hz
    | brk => exact False.elim hz
    | cont => exact False.elim hz
theorem Cal.calm {P : Program} {w : World} {K : PySem.W.Frag} {mg : Str → Option Value} {base : Heap} {k : Nat} {x : Str} {ps : List Str} {sp : Sp} (C : Cal P w K mg base (L2.CX P w) k x ps sp) : Cal P w K mg base CX0 k x ps (fun vs H Q _ => sp vs H Q E0) := by
  obtain ⟨f, fd, F, a, b, c, d, e⟩ := C.ex
  exact ⟨f, fd, F.calm, a, b, c, d, e⟩
theorem Cal.or {P : Program} {w : World} {K : PySem.W.Frag} {mg : Str → Option Value} {base : Heap} {CX : CXT} {k : Nat} {x : Str} {ps : List Str} {sp sq : Sp} {f : Addr} {fd : FuncData} (F : FnG P w K mg base CX k f fd ps sp) (G : FnG P w K mg base CX k f fd ps sq) :
    FnG P w K mg base CX k f fd ps (fun vs H Q E => sp vs H Q E ∨ sq vs H Q E) :=
  ⟨fun vs H Q E h => h.elim (F.size vs H Q E) (G.size vs H Q E), fun B out s H ar us vs Q E r hg e0 hb hv h => h.elim (F.goes B out s H ar us vs Q E r hg e0 hb hv) (G.goes B out s H ar us vs Q E r hg e0 hb hv)⟩
end Lf

set_option Elab.async false
set_option linter.all false
set_option maxRecDepth 100000
set_option maxHeartbeats 4000000
set_option exponentiation.threshold 3000
/-! Rows of fractions as data: shown, compared. -/
namespace Lf
open PySem PySem.Spec PyProof.Rows L2
section
variable {K : PySem.W.Frag}
theorem tD_shaped (f : Int × Int) : SeqAt.shaped (tD f) = true := by
  unfold SeqAt.shaped
  rw [Bool.and_eq_true]
  refine ⟨by simp only [tD, PyData.canLay0, PyData.canLayAll0, Bool.and_self], decide_eq_true ?_⟩
  simp only [tD, PyData.depth, PyData.depthAll]
  omega
theorem AtK.dp {H : Hp} {v : V} {f : Int × Int} (h : AtK K H v f) : Dp K H v (tD f) := by
  obtain ⟨p, rfl, hp⟩ := h
  exact dp2 hp
theorem AtKs.dpAll {H : Hp} : ∀ {vs : List V} {fs : List (Int × Int)}, AtKs K H vs fs → DpAll K H vs (fs.map tD)
  | _, _, .nil => .nil
  | _, _, .cons ⟨p, e, h⟩ r => by
    subst e
    exact .cons (dp2 h) (AtKs.dpAll r)
theorem row_lay : ∀ fs : List (Int × Int), PyData.canLayAll0 (fs.map tD) = true ∧ PyData.depthAll (fs.map tD) ≤ 1
  | [] => ⟨by simp only [List.map_nil, PyData.canLayAll0], by simp only [List.map_nil, PyData.depthAll]; omega⟩
  | f :: fs => by
    obtain ⟨i1, i2⟩ := row_lay fs
    refine ⟨?_, ?_⟩
    · simp only [List.map_cons, PyData.canLayAll0, i1, tD, PyData.canLay0, Bool.and_self]
    · simp only [List.map_cons, PyData.depthAll, tD, PyData.depth]
      omega
theorem row_shaped (fs : List (Int × Int)) : SeqAt.shaped (.list (fs.map tD)) = true := by
  obtain ⟨i1, i2⟩ := row_lay fs
  unfold SeqAt.shaped
  rw [Bool.and_eq_true]
  refine ⟨by simp only [PyData.canLay0]; exact i1, decide_eq_true ?_⟩
  simp only [PyData.depth]
  omega
theorem eqv_tD (f g : Int × Int) : PyData.eqv (tD f) (tD g) = decide (f = g) := by
  obtain ⟨a, b⟩ := f
  obtain ⟨c, d⟩ := g
  simp only [tD, PyData.eqv, PyData.eqvAll, Bool.and_true]
  by_cases h : (a, b) = (c, d)
  · rw [decide_eq_true h]
    cases h
    simp
  · rw [decide_eq_false h]
    by_cases h1 : a = c
    · by_cases h2 : b = d
      · exact absurd (by rw [h1, h2]) h
      · simp [h2]
    · simp [h1]
theorem row_eqv : ∀ fs : List (Int × Int), PyData.eqvAll (fs.map tD) (fs.map tD) = true
  | [] => by simp only [List.map_nil, PyData.eqvAll]
  | f :: fs => by simp only [List.map_cons, PyData.eqvAll, eqv_tD, row_eqv fs, decide_true, Bool.and_self]
theorem rowD_eqv (fs : List (Int × Int)) : PyData.eqv (.list (fs.map tD)) (.list (fs.map tD)) = true := by
  simp only [PyData.eqv]
  exact row_eqv fs
theorem Ft.intB {k : Nat} {n : Int} (h : n.natAbs < 2 ^ k) (hk : k ≤ 900) (h0 : 0 < k) : Ft k 0 (.int n) := by
  have f := Ft.int (n := n) (Nat.lt_of_lt_of_le h (Nat.pow_le_pow_right (by decide) hk))
  refine ⟨f.sh, f.nd, f.dp, f.lv, ?_⟩
  simp only [PyData.weight]
  have := PySem.Flt.log2_lt_of (by omega) h
  split <;> omega
theorem row_ft {k : Nat} (hk : k ≤ 900) (h0 : 0 < k) : ∀ fs : List (Int × Int), (∀ f ∈ fs, Bt k f) → FtA ((2 * k + 3) * fs.length) 1 (fs.map tD)
  | [], _ => by
    have := FtA.nil
    exact ⟨this.sh, this.nd, Nat.le_trans this.dp (by decide), this.lv, by simpa using this.wt⟩
  | f :: fs, h => by
    have hb := h f List.mem_cons_self
    have f1 : Ft _ _ (tD f) := Ft.tuple (.cons (Ft.intB hb.1 hk h0) (.cons (Ft.intB hb.2 hk h0) .nil))
    have r := FtA.cons f1 (row_ft hk h0 fs fun g hg => h g (List.mem_cons_of_mem _ hg))
    rw [List.map_cons]
    refine ⟨r.sh, r.nd, Nat.le_trans r.dp (by decide), r.lv, Nat.le_trans r.wt ?_⟩
    rw [List.length_cons, Nat.mul_succ]
    omega
theorem cut_last (ys : List V) (x : V) : cutV (ys ++ [x]) none (some (-1)) = ys := by
  unfold cutV
  have h1 : HT.sIx (ys ++ [x]).length 0 none = 0 := by simp [HT.sIx]
  have h2 : HT.sIx (ys ++ [x]).length (ys ++ [x]).length (some (-1)) = ys.length := by
    simp [HT.sIx]
    omega
  rw [h1, h2]
  simp
theorem rowD {H : Hp} {l : Addr} {xs : List V} {fs : List (Int × Int)} (h : SqL K H l xs) (a : AtKs K H xs fs) : Dp K H (.ref l) (.list (fs.map tD)) := .lst h a.dpAll
theorem pg_tupK {X : Cx} {K : PySem.W.Frag} {es : List Expr} {k : Nat} {t : TGs} {n : Nat} {pos : Pos} (hc : X.calm = true) (h : PGs X es t)
    (hn : (assignEach es X.env).length = n := by rfl) (hst : (assignEach es X.env).findIdx? (·.1) = none := by rfl) (hK : X.K = K := by rfl) : PG X (.Tuple es k pos) (gTup K n t) := hK ▸ pg_tup hc h hn hst
end
end Lf

set_option Elab.async false
set_option linter.all false
set_option maxRecDepth 100000
set_option maxHeartbeats 4000000
set_option exponentiation.threshold 3000
/-! Papers: places that cannot be counted their floors, or one more. -/
namespace Lf
theorem rst_pair {f : Int × Int} (h : IsF f) (h0 : 0 ≤ f.1) : rst f = (f.1 % f.2, f.2) := by
  rw [rst_eq h]
  have m0 := Int.emod_nonneg f.1 h.ne
  have h2 : 0 < f.2 := h.1
  refine low_self ⟨h.1, ?_⟩
  show (f.1 % f.2).natAbs.gcd f.2.natAbs = 1
  rw [Nat.gcd_comm, gcd_step f.1 f.2 h.1 h0]
  exact h.2
theorem fsub_1 {r : Int × Int} (h : IsF r) : fsub f1 r = (r.2 - r.1, r.2) := by
  have e : fsub f1 r = low (r.2 - r.1) r.2 := by
    show low (1 * r.2 - r.1 * 1) (1 * r.2) = _
    rw [Int.one_mul, Int.mul_one]
  rw [e]
  refine low_self ⟨h.1, ?_⟩
  have g := h.2
  have : Int.gcd (r.2 - r.1) r.2 = Int.gcd r.1 r.2 := by simp
  unfold Int.gcd at this
  show (r.2 - r.1).natAbs.gcd r.2.natAbs = 1
  rw [this]
  exact g
def upP (R : List (Int × Int)) (b : Int × Int) (i : Nat) : Bool := !lessB (R.getD i f0) b
def dnP (R : List (Int × Int)) (b : Int × Int) (i : Nat) : Bool := !lessB (fsub f1 (R.getD i f0)) b
def upL (R : List (Int × Int)) (b : Int × Int) : List Nat := (List.range R.length).filter (upP R b)
def dnL (R : List (Int × Int)) (b : Int × Int) : List Nat := (List.range R.length).filter (dnP R b)
/-- whether a paper shows -/
def showsB (U D : List Nat) (m : Int) (n : Nat) : Bool := U.any (fun p => D.contains p) || (decide (m < (U.length : Int)) || decide ((n : Int) - (D.length : Int) < m))
theorem up_le (R : List (Int × Int)) (b : Int × Int) : (upL R b).length ≤ R.length := Nat.le_trans (List.length_filter_le _ _) (by rw [List.length_range]; exact Nat.le_refl _)
theorem dn_le (R : List (Int × Int)) (b : Int × Int) : (dnL R b).length ≤ R.length := Nat.le_trans (List.length_filter_le _ _) (by rw [List.length_range]; exact Nat.le_refl _)
theorem up_lt {R : List (Int × Int)} {b : Int × Int} {i : Nat} (h : i ∈ upL R b) : i < R.length := List.mem_range.mp (List.mem_filter.mp h).1
theorem dn_lt {R : List (Int × Int)} {b : Int × Int} {i : Nat} (h : i ∈ dnL R b) : i < R.length := List.mem_range.mp (List.mem_filter.mp h).1
end Lf

set_option Elab.async false
set_option linter.all false
set_option maxRecDepth 100000
set_option maxHeartbeats 4000000
set_option exponentiation.threshold 3000
/-! Who is counted one more: just so many as are wanted; a paper shows just where the worst is the bound or more. -/
namespace Lf
/-! ### ranks -/
theorem nodup_len : ∀ (n : Nat) (l : List Nat), l.Nodup → (∀ x ∈ l, x < n) → l.length ≤ n
  | 0, l, _, h => by
    cases l with
    | nil => exact Nat.le_refl _
    | cons x _ => exact absurd (h x List.mem_cons_self) (Nat.not_lt_zero _)
  | n + 1, l, hd, h => by
    by_cases hm : n ∈ l
    · have h1 := nodup_len n (l.erase n) (hd.erase n) (fun x hx => by
        have h2 := h x (List.mem_of_mem_erase hx)
        have h3 : x ≠ n := (hd.mem_erase_iff.mp hx).1
        omega)
      rw [List.length_erase_of_mem hm] at h1
      omega
    · have := nodup_len n l hd (fun x hx => by
        have h2 := h x hx
        have h3 : x ≠ n := fun z => hm (z ▸ hx)
        omega)
      omega
theorem nodup_perm : ∀ (n : Nat) (l : List Nat), l.Nodup → (∀ x ∈ l, x < n) → l.length = n → l.Perm (List.range n)
  | 0, l, _, _, hl => by
    rw [List.length_eq_zero_iff.mp hl]
    exact .refl _
  | n + 1, l, hd, h, hl => by
    have hm : n ∈ l := by
      by_cases hm : n ∈ l
      · exact hm
      · have := nodup_len n l hd (fun x hx => by
          have h2 := h x hx
          have h3 : x ≠ n := fun z => hm (z ▸ hx)
          omega)
        omega
    have p := nodup_perm n (l.erase n) (hd.erase n) (fun x hx => by
      have h2 := h x (List.mem_of_mem_erase hx)
      have h3 : x ≠ n := (hd.mem_erase_iff.mp hx).1
      omega) (by rw [List.length_erase_of_mem hm]; omega)
    rw [List.range_succ]
    exact (List.perm_cons_erase hm).trans ((List.Perm.cons n p).trans (List.perm_append_comm (l₁ := [n])))
theorem filter_less {α : Type} {p q : α → Bool} : ∀ (l : List α), (∀ k ∈ l, p k = true → q k = true) → (l.filter p).length ≤ (l.filter q).length ∧ ((∃ x ∈ l, q x = true ∧ p x = false) → (l.filter p).length < (l.filter q).length)
  | [], _ => ⟨Nat.le_refl _, fun ⟨x, hx, _⟩ => by cases hx⟩
  | a :: l, h => by
    obtain ⟨i1, i2⟩ := filter_less l fun k hk => h k (List.mem_cons_of_mem _ hk)
    have ha := h a List.mem_cons_self
    rw [List.filter_cons, List.filter_cons]
    cases hp : p a <;> cases hq : q a
    · refine ⟨by simpa using i1, fun ⟨x, hx, h1, h2⟩ => ?_⟩
      rcases List.mem_cons.mp hx with rfl | hx
      · rw [hq] at h1; cases h1
      · simpa using i2 ⟨x, hx, h1, h2⟩
    · refine ⟨?_, fun _ => ?_⟩
      · simp only [Bool.false_eq_true, if_false, if_true, List.length_cons]
        omega
      · simp only [Bool.false_eq_true, if_false, if_true, List.length_cons]
        omega
    · rw [hp] at ha
      exact absurd (ha rfl) (by rw [hq]; decide)
    · refine ⟨by simpa using i1, fun ⟨x, hx, h1, h2⟩ => ?_⟩
      rcases List.mem_cons.mp hx with rfl | hx
      · rw [hp] at h2; cases h2
      · have := i2 ⟨x, hx, h1, h2⟩
        simpa using this
theorem count_lt (m : Nat) : ∀ n : Nat, ((List.range n).filter fun x => decide (x < m)).length = min m n
  | 0 => by simp
  | n + 1 => by
    rw [List.range_succ, List.filter_append, List.length_append, count_lt m n, List.filter_cons]
    by_cases h : n < m
    · rw [decide_eq_true h]
      simp
      omega
    · rw [decide_eq_false h]
      simp
      omega
/-- of a strict order that tells any two apart just m have fewer than m ahead of them -/
theorem ranks {n : Nat} {lt : Nat → Nat → Bool} (irr : ∀ i, i < n → lt i i = false) (tr : ∀ i j k, i < n → j < n → k < n → lt i j = true → lt j k = true → lt i k = true) (to : ∀ i j, i < n → j < n → i ≠ j → lt i j = true ∨ lt j i = true) (m : Nat) :
    ((List.range n).filter fun j => decide (((List.range n).filter fun i => lt i j).length < m)).length = min m n := by
  have rk : ∀ i j, i < n → j < n → lt i j = true → ((List.range n).filter fun k => lt k i).length < ((List.range n).filter fun k => lt k j).length := fun i j hi hj h =>
    (filter_less (List.range n) fun k hk hp => tr k i j (List.mem_range.mp hk) hi hj hp h).2 ⟨i, List.mem_range.mpr hi, h, irr i hi⟩
  have hnd : ((List.range n).map fun j => ((List.range n).filter fun i => lt i j).length).Nodup := by
    rw [List.nodup_iff_pairwise_ne, List.pairwise_map]
    refine List.Pairwise.imp_of_mem ?_ (List.nodup_iff_pairwise_ne.mp List.nodup_range)
    intro i j hi hj hne
    rcases to i j (List.mem_range.mp hi) (List.mem_range.mp hj) hne with h | h
    · exact Nat.ne_of_lt (rk i j (List.mem_range.mp hi) (List.mem_range.mp hj) h)
    · exact Ne.symm (Nat.ne_of_lt (rk j i (List.mem_range.mp hj) (List.mem_range.mp hi) h))
  have hlt : ∀ x ∈ (List.range n).map (fun j => ((List.range n).filter fun i => lt i j).length), x < n := by
    intro x hx
    obtain ⟨j, hj, rfl⟩ := List.mem_map.mp hx
    have hj' := List.mem_range.mp hj
    have := (filter_less (p := fun i => lt i j) (q := fun _ => true) (List.range n) fun _ _ _ => rfl).2 ⟨j, hj, rfl, irr j hj'⟩
    rw [List.filter_eq_self.mpr (fun _ _ => rfl), List.length_range] at this
    exact this
  have p := nodup_perm n _ hnd hlt (by rw [List.length_map, List.length_range])
  have e := (p.filter fun x => decide (x < m)).length_eq
  rw [count_lt, List.filter_map, List.length_map] at e
  exact e
end Lf

set_option Elab.async false
set_option linter.all false
set_option maxRecDepth 100000
set_option maxHeartbeats 4000000
set_option exponentiation.threshold 3000
namespace Lf
/-! ### the order of fractions -/
theorem lessB_iff {f g : Int × Int} : lessB f g = true ↔ f.1 * g.2 < g.1 * f.2 := decide_eq_true_iff
theorem notless_iff {f g : Int × Int} : lessB f g = false ↔ fle g f := by
  unfold fle
  rw [Bool.eq_false_iff, Ne, lessB_iff]
  omega
theorem less_trans {a b c : Int × Int} (ha : IsF a) (hb : IsF b) (hc : IsF c) (h : lessB a b = true) (k : lessB b c = true) : lessB a c = true := by
  rw [lessB_iff] at *
  have a2 : 0 < a.2 := ha.1
  have b2 : 0 < b.2 := hb.1
  have c2 : 0 < c.2 := hc.1
  have h1 := Int.mul_lt_mul_of_pos_right h c2
  have h2 := Int.mul_lt_mul_of_pos_right k a2
  have e1 : a.1 * b.2 * c.2 = a.1 * c.2 * b.2 := by grind
  have e2 : b.1 * a.2 * c.2 = b.1 * c.2 * a.2 := by grind
  have e3 : c.1 * b.2 * a.2 = c.1 * a.2 * b.2 := by grind
  exact Int.lt_of_mul_lt_mul_right (a := b.2) (by omega) (Int.le_of_lt b2)
theorem less_tri {a b : Int × Int} (ha : IsF a) (hb : IsF b) (h : a ≠ b) : lessB a b = true ∨ lessB b a = true := by
  rw [lessB_iff, lessB_iff]
  by_cases e : a.1 * b.2 = b.1 * a.2
  · obtain ⟨e1, e2⟩ := low_uniq ha hb e
    exact absurd (Prod.ext e1 e2) h
  · omega
section
variable {rs : List (Int × Int)}
theorem getD_f (h : AllF rs) (i : Nat) : IsF (rs.getD i f0) := by
  rw [List.getD_eq_getElem?_getD]
  cases e : rs[i]? with
  | none => exact f0_f
  | some g => exact h g (List.mem_of_getElem? e)
theorem soon_irr (i : Nat) : soon rs i i = false := by
  unfold soon
  rw [if_pos rfl]
  exact decide_eq_false (Nat.lt_irrefl i)
theorem soon_cases (h : AllF rs) {i j : Nat} (hs : soon rs i j = true) : lessB (rs.getD j f0) (rs.getD i f0) = true ∨ (rs.getD i f0 = rs.getD j f0 ∧ i < j) := by
  unfold soon at hs
  by_cases e : rs.getD i f0 = rs.getD j f0
  · rw [if_pos e] at hs
    exact .inr ⟨e, of_decide_eq_true hs⟩
  · rw [if_neg e] at hs
    exact .inl hs
theorem soon_of_less (h : AllF rs) {i j : Nat} (hs : lessB (rs.getD j f0) (rs.getD i f0) = true) : soon rs i j = true := by
  unfold soon
  by_cases e : rs.getD i f0 = rs.getD j f0
  · rw [e, lessB_self] at hs
    cases hs
  · rw [if_neg e]
    exact hs
theorem soon_tr (h : AllF rs) {i j k : Nat} (h1 : soon rs i j = true) (h2 : soon rs j k = true) : soon rs i k = true := by
  have fi := getD_f h i
  have fj := getD_f h j
  have fk := getD_f h k
  rcases soon_cases h h1 with a | ⟨a, a'⟩ <;> rcases soon_cases h h2 with b | ⟨b, b'⟩
  · exact soon_of_less h (less_trans fk fj fi b a)
  · exact soon_of_less h (by rw [← b]; exact a)
  · exact soon_of_less h (by rw [a]; exact b)
  · unfold soon
    rw [if_pos (a.trans b)]
    exact decide_eq_true (Nat.lt_trans a' b')
theorem soon_to (h : AllF rs) {i j : Nat} (hne : i ≠ j) : soon rs i j = true ∨ soon rs j i = true := by
  by_cases e : rs.getD i f0 = rs.getD j f0
  · unfold soon
    rw [if_pos e, if_pos e.symm]
    rcases Nat.lt_or_gt_of_ne hne with z | z
    · exact .inl (decide_eq_true z)
    · exact .inr (decide_eq_true z)
  · rcases less_tri (getD_f h i) (getD_f h j) e with z | z
    · exact .inr (soon_of_less h z)
    · exact .inl (soon_of_less h z)
theorem soon_le (h : AllF rs) {i j : Nat} (hs : soon rs i j = true) : fle (rs.getD j f0) (rs.getD i f0) := by
  rcases soon_cases h hs with a | ⟨a, _⟩
  · have := lessB_iff.mp a
    unfold fle
    omega
  · rw [a]
    exact Int.le_refl _
/-- the k-th is counted one more -/
def chosen (rs : List (Int × Int)) (m k : Nat) : Bool := decide (ahead rs k < m)
theorem chosen_count (h : AllF rs) (m : Nat) : ((List.range rs.length).filter (chosen rs m)).length = min m rs.length :=
  ranks (n := rs.length) (lt := soon rs) (fun i _ => soon_irr i) (fun i j k _ _ _ a b => soon_tr h a b) (fun i j _ _ hne => soon_to h hne) m
theorem ahead_mono (h : AllF rs) {i j : Nat} (hi : i < rs.length) (hj : j < rs.length) (hs : soon rs i j = true) : ahead rs i < ahead rs j :=
  (filter_less (List.range rs.length) fun k hk hp => soon_tr h hp hs).2 ⟨i, List.mem_range.mpr hi, hs, soon_irr i⟩
theorem chosen_soon (h : AllF rs) {m j k : Nat} (hj : j < rs.length) (hk : k < rs.length) (cj : chosen rs m j = true) (ck : chosen rs m k = false) : soon rs j k = true := by
  have a1 : ahead rs j < m := of_decide_eq_true cj
  have a2 : ¬ ahead rs k < m := of_decide_eq_false ck
  have hne : j ≠ k := fun z => by
    subst z
    exact a2 a1
  rcases soon_to h hne with z | z
  · exact z
  · have := ahead_mono h hk hj z
    omega
/-- how far the k-th is off -/
def off (rs : List (Int × Int)) (m k : Nat) : Int × Int := if chosen rs m k = true then fsub f1 (rs.getD k f0) else rs.getD k f0
theorem one_le {x y : Int × Int} (hx : IsF x) (hy : IsF y) (h : fle x y) : fle (fsub f1 y) (fsub f1 x) := by
  rw [fsub_1 hx, fsub_1 hy]
  unfold fle at *
  have e1 : (y.2 - y.1) * x.2 = y.2 * x.2 - y.1 * x.2 := by grind
  have e2 : (x.2 - x.1) * y.2 = y.2 * x.2 - x.1 * y.2 := by grind
  show (y.2 - y.1) * x.2 ≤ (x.2 - x.1) * y.2
  omega
theorem filter_not (p : Nat → Bool) : ∀ l : List Nat, (l.filter p).length + (l.filter fun x => !p x).length = l.length
  | [] => rfl
  | a :: l => by
    have := filter_not p l
    rw [List.filter_cons, List.filter_cons]
    cases h : p a
    · simp
      omega
    · simp
      omega
/-- a paper shows just where some count is the bound or more off -/
theorem shows_iff (h : AllF rs) {b : Int × Int} (hb : IsF b) {m : Nat} (hm : m ≤ rs.length) : showsB (upL rs b) (dnL rs b) m rs.length = true ↔ ∃ k, k < rs.length ∧ lessB (off rs m k) b = false := by
  have hc : ((List.range rs.length).filter (chosen rs m)).length = m := by
    rw [chosen_count h]
    omega
  have hn := filter_not (chosen rs m) (List.range rs.length)
  rw [hc, List.length_range] at hn
  have f2 : 0 < b.2 := hb.1
  have g2 : ∀ k, 0 < (rs.getD k f0).2 := fun k => (getD_f h k).1
  have o2 : ∀ k, 0 < (fsub f1 (rs.getD k f0)).2 := fun k => (fsub_f f1_f (getD_f h k)).1
  constructor
  · intro hs
    unfold showsB at hs
    rw [Bool.or_eq_true, Bool.or_eq_true] at hs
    rcases hs with hs | hs | hs
    · obtain ⟨p, hp, hd⟩ := List.any_eq_true.mp hs
      have hd' : p ∈ dnL rs b := by simpa using hd
      have up : upP rs b p = true := (List.mem_filter.mp hp).2
      have dn : dnP rs b p = true := (List.mem_filter.mp hd').2
      refine ⟨p, up_lt hp, ?_⟩
      unfold off
      unfold upP at up
      unfold dnP at dn
      split
      · simpa using dn
      · simpa using up
    · have hlt : m < (upL rs b).length := by
        have := of_decide_eq_true hs
        omega
      by_cases hex : ∃ k, k < rs.length ∧ upP rs b k = true ∧ chosen rs m k = false
      · obtain ⟨k, hk, up, ck⟩ := hex
        refine ⟨k, hk, ?_⟩
        unfold off
        rw [ck]
        unfold upP at up
        simpa using up
      · have := (filter_less (p := upP rs b) (q := chosen rs m) (List.range rs.length) fun k hk hp => by
          cases hck : chosen rs m k with
          | true => rfl
          | false => exact absurd ⟨k, List.mem_range.mp hk, hp, hck⟩ hex).1
        rw [hc] at this
        exact absurd this (Nat.not_le.mpr hlt)
    · have hlt : (rs.length : Int) - ((dnL rs b).length : Int) < (m : Int) := of_decide_eq_true hs
      by_cases hex : ∃ k, k < rs.length ∧ dnP rs b k = true ∧ chosen rs m k = true
      · obtain ⟨k, hk, dn, ck⟩ := hex
        refine ⟨k, hk, ?_⟩
        unfold off
        rw [if_pos ck]
        unfold dnP at dn
        simpa using dn
      · have := (filter_less (p := dnP rs b) (q := fun x => !chosen rs m x) (List.range rs.length) fun k hk hp => by
          cases hck : chosen rs m k with
          | false => rfl
          | true => exact absurd ⟨k, List.mem_range.mp hk, hp, hck⟩ hex).1
        have hdl : (dnL rs b).length = ((List.range rs.length).filter (dnP rs b)).length := rfl
        omega
  · rintro ⟨k, hk, ho⟩
    unfold showsB
    rw [Bool.or_eq_true, Bool.or_eq_true]
    right
    unfold off at ho
    cases ck : chosen rs m k with
    | false =>
      left
      rw [ck] at ho
      have ho' : fle b (rs.getD k f0) := notless_iff.mp (by simpa using ho)
      have up : ∀ j, fle (rs.getD k f0) (rs.getD j f0) → upP rs b j = true := fun j hj => by
        unfold upP
        rw [notless_iff.mpr (fle_trans (g2 k) f2 (g2 j) ho' hj)]
        rfl
      have := (filter_less (p := chosen rs m) (q := upP rs b) (List.range rs.length) fun j hj hp => up j (soon_le h (chosen_soon h (List.mem_range.mp hj) hk hp ck))).2 ⟨k, List.mem_range.mpr hk, up k (Int.le_refl _), ck⟩
      rw [hc] at this
      have hul : (upL rs b).length = ((List.range rs.length).filter (upP rs b)).length := rfl
      exact decide_eq_true (by omega)
    | true =>
      right
      rw [if_pos ck] at ho
      have ho' : fle b (fsub f1 (rs.getD k f0)) := notless_iff.mp ho
      have dn : ∀ j, fle (rs.getD j f0) (rs.getD k f0) → dnP rs b j = true := fun j hj => by
        unfold dnP
        rw [notless_iff.mpr (fle_trans (o2 k) f2 (o2 j) ho' (one_le (getD_f h j) (getD_f h k) hj))]
        rfl
      have := (filter_less (p := fun x => !chosen rs m x) (q := dnP rs b) (List.range rs.length) fun j hj hp => dn j (soon_le h (chosen_soon h hk (List.mem_range.mp hj) ck (by simpa using hp)))).2 ⟨k, List.mem_range.mpr hk, dn k (Int.le_refl _), by rw [ck]; rfl⟩
      have hdl : (dnL rs b).length = ((List.range rs.length).filter (dnP rs b)).length := rfl
      exact decide_eq_true (by omega)
end
end Lf

set_option Elab.async false
set_option linter.all false
set_option maxRecDepth 100000
set_option maxHeartbeats 4000000
set_option exponentiation.threshold 3000
/-! How many are to be one more; the worst by what each is off. -/
namespace Lf
theorem rsum_mul (F : Int × Int) (hF : IsF F) : ∀ l : List (Int × Int), AllF l → rsum (l.map fun f => fmul f F) = rsum l * rv F
  | [], _ => by
    show (0 : Rat) = 0 * rv F
    rw [Rat.zero_mul]
  | f :: l, h => by
    show rv (fmul f F) + rsum (l.map fun f => fmul f F) = (rv f + rsum l) * rv F
    rw [rsum_mul F hF l h.tl, rv_mul h.hd hF, Rat.add_mul]
theorem rv_int (c : Int) : rv (c, 1) = (c : Rat) := by
  unfold rv
  show Rat.divInt c 1 = (c : Rat)
  have h : Rat.divInt c 1 = mkRat c 1 := rfl
  rw [h]
  first | exact Rat.mkRat_one c | exact mkRat_one c | (unfold mkRat Rat.normalize; simp; rfl) | grind [mkRat]
theorem rsum_tot {l : List (Int × Int)} (h : AllF l) : rv (tot l) = rsum l := by
  have := (sum_fold l f0 f0_f h).2
  rw [rv0, Rat.zero_add] at this
  exact this
theorem rsum_aims {fs : List (Int × Int)} {st : Int × Int} (W : Wts fs) : rsum (aimsF fs st) = (many fs st : Rat) := by
  have t1 : (tot fs).1 ≠ 0 := by have := tot_pos W; omega
  have h : aimsF fs st = fs.map fun f => fmul f (factor fs st) := rfl
  have e2 : rv (factor fs st) = rv (many fs st, 1) * (rv (tot fs))⁻¹ := rv_div (m1_f _) t1
  have hne : rv (tot fs) ≠ 0 := fun z => t1 ((rv_zero (tot_f W.f)).mp z)
  rw [h, rsum_mul _ (factor_f W) fs W.f, ← rsum_tot W.f, e2, rv_int, ← Rat.mul_assoc, Rat.mul_comm (rv (tot fs)), Rat.mul_assoc, Rat.mul_inv_cancel _ hne, Rat.mul_one]
theorem rsum_rst : ∀ l : List (Int × Int), AllF l → rsum (l.map rst) = rsum l - (((l.map fl).sum : Int) : Rat)
  | [], _ => by
    show (0 : Rat) = 0 - ((0 : Int) : Rat)
    first | decide | rfl | grind
  | f :: l, h => by
    show rv (rst f) + rsum (l.map rst) = (rv f + rsum l) - ((fl f + (l.map fl).sum : Int) : Rat)
    have e : rv (rst f) = rv f - rv (fl f, 1) := rv_sub h.hd (m1_f _)
    rw [rsum_rst l h.tl, e, rv_int, Rat.intCast_add]
    grind
theorem rests_f {l : List (Int × Int)} (h : AllF l) : AllF (l.map rst) := fun g hg => by
  obtain ⟨f, hf, rfl⟩ := List.mem_map.mp hg
  exact rst_f (h f hf)
theorem more_ok {fs : List (Int × Int)} {st : Int × Int} (W : Wts fs) (aF : AllF (aimsF fs st)) : 0 ≤ more fs st ∧ more fs st ≤ (fs.length : Int) := by
  have e : rv (tot ((aimsF fs st).map rst)) = rv (more fs st, 1) := by
    rw [rsum_tot (rests_f aF), rsum_rst _ aF, rsum_aims W, rv_int]
    unfold more
    rw [Rat.intCast_sub]
  have et : tot ((aimsF fs st).map rst) = (more fs st, 1) := rv_inj (tot_f (rests_f aF)) (m1_f _) e
  have rn : ∀ g ∈ (aimsF fs st).map rst, 0 ≤ g.1 ∧ Vb 1 g := fun g hg => by
    obtain ⟨f, hf, rfl⟩ := List.mem_map.mp hg
    have hF := aF f hf
    refine ⟨rst_nn hF, ?_⟩
    rw [rst_eq hF]
    have m1 := Int.emod_lt_of_pos f.1 hF.1
    exact vb_low hF.1 (by omega)
  have h1 : fle f0 (tot ((aimsF fs st).map rst)) := fold_ge _ f0 f0_f (rests_f aF) fun g hg => (rn g hg).1
  have h2 := vb_fold (C := 1) ((aimsF fs st).map rst) 0 f0 f0_f (rests_f aF) (by unfold Vb; decide) (fun g hg => (rn g hg).2)
  have h2' : Vb (0 + 1 * (((aimsF fs st).map rst).length : Int)) (tot ((aimsF fs st).map rst)) := h2
  rw [et] at h1 h2'
  unfold fle f0 at h1
  unfold Vb at h2'
  rw [List.length_map] at h2'
  have hl : (aimsF fs st).length = fs.length := List.length_map _
  rw [hl] at h2'
  simp only at h1 h2'
  omega
theorem far_fl {f : Int × Int} (h : IsF f) : far f (fl f) = rst f := by
  rw [← lfar_rst h]
  exact (lfar_far f (fl f)).symm
theorem far_fl1 {f : Int × Int} (h : IsF f) (h0 : 0 ≤ f.1) : far f (fl f + 1) = fsub f1 (rst f) := by
  have hm := fl_mod h
  have m0 := Int.emod_nonneg f.1 h.ne
  have m1 := Int.emod_lt_of_pos f.1 h.1
  have e : (fl f + 1) * f.2 = fl f * f.2 + f.2 := by rw [Int.add_mul, Int.one_mul]
  have hr := rst_f h
  rw [fsub_1 hr, rst_pair h h0] at *
  unfold far
  have e2 : ((f.1 - (fl f + 1) * f.2).natAbs : Int) = f.2 - f.1 % f.2 := by omega
  rw [e2]
  refine low_self ?_
  have := fsub_f f1_f hr
  rw [fsub_1 hr] at this
  exact this
theorem wmax_b {w g b : Int × Int} (hw : IsF w) (hg : IsF g) (hb : IsF b) : lessB (wmax w g) b = false ↔ lessB w b = false ∨ lessB g b = false := by
  have w2 : 0 < w.2 := hw.1
  have g2 : 0 < g.2 := hg.1
  have b2 : 0 < b.2 := hb.1
  rw [notless_iff, notless_iff, notless_iff]
  unfold wmax
  by_cases h : lessB w g = true
  · rw [if_pos h]
    have hle : fle w g := by
      have := lessB_iff.mp h
      unfold fle
      omega
    exact ⟨.inr, fun z => z.elim (fun z => fle_trans w2 b2 g2 z hle) id⟩
  · rw [if_neg h]
    have hle : fle g w := notless_iff.mp (by cases h' : lessB w g <;> simp_all)
    exact ⟨.inl, fun z => z.elim id fun z => fle_trans g2 b2 w2 z hle⟩
theorem wst_b {b : Int × Int} (hb : IsF b) : ∀ (l : List ((Int × Int) × Int)) (w : Int × Int), IsF w → (∀ p ∈ l, IsF p.1) → (lessB (l.foldl wst w) b = false ↔ lessB w b = false ∨ ∃ p ∈ l, lessB (far p.1 p.2) b = false)
  | [], w, _, _ => ⟨.inl, fun z => z.elim id fun ⟨p, hp, _⟩ => by cases hp⟩
  | p :: l, w, hw, h => by
    have hp := h p List.mem_cons_self
    have hf := far_f hp p.2
    have hw' : IsF (wst w p) := by
      unfold wst wmax
      split
      · exact hf
      · exact hw
    rw [List.foldl_cons, wst_b hb l (wst w p) hw' fun q hq => h q (List.mem_cons_of_mem _ hq)]
    have e : lessB (wst w p) b = false ↔ lessB w b = false ∨ lessB (far p.1 p.2) b = false := by
      unfold wst
      exact wmax_b hw hf hb
    rw [e]
    constructor
    · rintro ((z | z) | ⟨q, hq, z⟩)
      · exact .inl z
      · exact .inr ⟨p, List.mem_cons_self, z⟩
      · exact .inr ⟨q, List.mem_cons_of_mem _ hq, z⟩
    · rintro (z | ⟨q, hq, z⟩)
      · exact .inl (.inl z)
      · rcases List.mem_cons.mp hq with rfl | hq
        · exact .inl (.inr z)
        · exact .inr ⟨q, hq, z⟩
/-- the paper for a bound shows just where the worst is the bound or more -/
theorem paper_shows {fs : List (Int × Int)} {st b : Int × Int} (W : Wts fs) (aF : AllF (aimsF fs st)) (an : ∀ f ∈ aimsF fs st, 0 ≤ f.1) (hb : IsF b) (b0 : 0 < b.1) :
    showsB (upL ((aimsF fs st).map rst) b) (dnL ((aimsF fs st).map rst) b) (more fs st) fs.length = !lessB (worst (aimsF fs st) (cnt fs st)) b := by
  obtain ⟨m0, m1⟩ := more_ok W aF
  have rF := rests_f aF
  have rl : ((aimsF fs st).map rst).length = fs.length := by rw [List.length_map]; exact List.length_map _
  have hm : ((more fs st).toNat : Int) = more fs st := by omega
  have key := shows_iff (m := (more fs st).toNat) rF hb (by rw [rl]; omega)
  rw [hm, rl] at key
  have hf0 : lessB f0 b = true := by
    rw [lessB_iff]
    show 0 * b.2 < b.1 * 1
    omega
  have hw := wst_b hb ((aimsF fs st).zip (cnt fs st)) f0 f0_f (fun p hp => aF p.1 (List.of_mem_zip (show (p.1, p.2) ∈ (aimsF fs st).zip (cnt fs st) from hp)).1)
  have same : (∃ k, k < fs.length ∧ lessB (off ((aimsF fs st).map rst) (more fs st).toNat k) b = false) ↔ ∃ p ∈ (aimsF fs st).zip (cnt fs st), lessB (far p.1 p.2) b = false := by
    have at_ : ∀ k g, (aimsF fs st)[k]? = some g → k < fs.length → far g (cntAt fs st k) = off ((aimsF fs st).map rst) (more fs st).toNat k := fun k g hg hk => by
      have gF := aF g (List.mem_of_getElem? hg)
      have g0 := an g (List.mem_of_getElem? hg)
      have e1 : (aimsF fs st).getD k f0 = g := by rw [List.getD_eq_getElem?_getD, hg]; rfl
      have e2 : ((aimsF fs st).map rst).getD k f0 = rst g := by rw [List.getD_eq_getElem?_getD, List.getElem?_map, hg]; rfl
      unfold off cntAt chosen
      rw [e1, e2]
      by_cases z : (ahead ((aimsF fs st).map rst) k : Int) < more fs st
      · rw [if_pos z, if_pos (decide_eq_true (by omega)), far_fl1 gF g0]
      · rw [if_neg z, if_neg (by rw [decide_eq_true_eq]; omega), Int.add_zero, far_fl gF]
    constructor
    · rintro ⟨k, hk, z⟩
      obtain ⟨g, hg⟩ : ∃ g, (aimsF fs st)[k]? = some g := ⟨_, List.getElem?_eq_getElem (by show k < (fs.map _).length; rw [List.length_map]; exact hk)⟩
      refine ⟨(g, cntAt fs st k), List.mem_of_getElem? (show ((aimsF fs st).zip (cnt fs st))[k]? = some (g, cntAt fs st k) by rw [List.getElem?_zip_eq_some]; exact ⟨hg, cnt_get hk⟩), ?_⟩
      show lessB (far g (cntAt fs st k)) b = false
      rw [at_ k g hg hk]
      exact z
    · rintro ⟨p, hp, z⟩
      obtain ⟨k, hk⟩ := List.getElem?_of_mem hp
      obtain ⟨h1, h2⟩ := List.getElem?_zip_eq_some.mp hk
      have hlt : k < fs.length := by
        have := (List.getElem?_eq_some_iff.mp h2).1
        rw [cnt_len] at this
        exact this
      rw [cnt_get hlt] at h2
      refine ⟨k, hlt, ?_⟩
      rw [← at_ k p.1 h1 hlt, Option.some.inj h2]
      exact z
  rw [hf0] at hw
  have fin : showsB (upL ((aimsF fs st).map rst) b) (dnL ((aimsF fs st).map rst) b) (more fs st) fs.length = true ↔ lessB (worst (aimsF fs st) (cnt fs st)) b = false := by
    rw [key, same]
    show _ ↔ lessB (((aimsF fs st).zip (cnt fs st)).foldl wst f0) b = false
    rw [hw]
    exact ⟨.inr, fun z => z.elim (fun z => by cases z) id⟩
  cases h1 : showsB (upL ((aimsF fs st).map rst) b) (dnL ((aimsF fs st).map rst) b) (more fs st) fs.length <;> cases h2 : lessB (worst (aimsF fs st) (cnt fs st)) b
  · have := fin.mpr h2
    rw [h1] at this
    cases this
  · rfl
  · rfl
  · have := fin.mp h1
    rw [h2] at this
    cases this
end Lf

set_option Elab.async false
set_option linter.all false
set_option maxRecDepth 100000
set_option maxHeartbeats 4000000
set_option exponentiation.threshold 3000
/-! Rows of whole numbers as data. -/
namespace Lf
open PySem PySem.Spec PyProof.Rows L2
section
variable {K : PySem.W.Frag}
theorem ints_dp {H : Hp} : ∀ cs : List Int, DpAll K H (cs.map V.int) (cs.map PyData.int)
  | [] => .nil
  | c :: cs => .cons (.int c) (ints_dp cs)
theorem ints_lay : ∀ cs : List Int, PyData.canLayAll0 (cs.map PyData.int) = true ∧ PyData.depthAll (cs.map PyData.int) = 0
  | [] => ⟨by simp only [List.map_nil, PyData.canLayAll0], by simp only [List.map_nil, PyData.depthAll]⟩
  | c :: cs => by
    obtain ⟨i1, i2⟩ := ints_lay cs
    exact ⟨by simp only [List.map_cons, PyData.canLayAll0, i1, PyData.canLay0, Bool.and_self], by simp only [List.map_cons, PyData.depthAll, PyData.depth, i2, Nat.max_self]⟩
theorem ints_shaped (cs : List Int) : SeqAt.shaped (.list (cs.map PyData.int)) = true := by
  obtain ⟨i1, i2⟩ := ints_lay cs
  unfold SeqAt.shaped
  rw [Bool.and_eq_true]
  refine ⟨by simp only [PyData.canLay0]; exact i1, decide_eq_true ?_⟩
  simp only [PyData.depth, i2]
  omega
theorem ints_eqvA : ∀ cs : List Int, PyData.eqvAll (cs.map PyData.int) (cs.map PyData.int) = true
  | [] => by simp only [List.map_nil, PyData.eqvAll]
  | c :: cs => by simp [List.map_cons, PyData.eqvAll, PyData.eqv, ints_eqvA cs]
theorem ints_eqv (cs : List Int) : PyData.eqv (.list (cs.map PyData.int)) (.list (cs.map PyData.int)) = true := by
  simp only [PyData.eqv]
  exact ints_eqvA cs
theorem ints_ft {k : Nat} (hk : k ≤ 900) (h0 : 0 < k) : ∀ cs : List Int, (∀ c ∈ cs, c.natAbs < 2 ^ k) → FtA ((k + 1) * cs.length) 0 (cs.map PyData.int)
  | [], _ => by
    have := FtA.nil
    exact ⟨this.sh, this.nd, this.dp, this.lv, by simpa using this.wt⟩
  | c :: cs, h => by
    have r := FtA.cons (Ft.intB (h c List.mem_cons_self) hk h0) (ints_ft hk h0 cs fun d hd => h d (List.mem_cons_of_mem _ hd))
    rw [List.map_cons]
    refine ⟨r.sh, r.nd, Nat.le_trans r.dp (by decide), r.lv, Nat.le_trans r.wt ?_⟩
    rw [List.length_cons, Nat.mul_succ]
    omega
end
end Lf

set_option Elab.async false
set_option linter.all false
set_option maxRecDepth 100000
set_option maxHeartbeats 4000000
set_option exponentiation.threshold 3000
/-! Texts of rows tell the rows apart. -/
namespace Lf
open PySem PySem.Spec PyProof.Rows L2
/-- the signs of a text -/
def sg (z : Str) : List Nat := z.cps.toList
theorem sg_inj {x y : Str} (h : sg x = sg y) : x = y := by
  cases x with
  | mk a =>
    cases y with
    | mk b =>
      have : a = b := Array.toList_inj.mp h
      rw [this]
theorem sg_app (x y : Str) : sg (x ++ y) = sg x ++ sg y := by
  unfold sg
  rw [show (x ++ y).cps = x.cps ++ y.cps from rfl, Array.toList_append]
/-- joined by a comma and a blank -/
def jn : List (List Nat) → List Nat
  | [] => []
  | [t] => t
  | t :: u :: r => t ++ 44 :: 32 :: jn (u :: r)
theorem split_inj : ∀ (t s X Y : List Nat), 44 ∉ t → 44 ∉ s → t ++ 44 :: X = s ++ 44 :: Y → t = s ∧ X = Y
  | [], [], _, _, _, _, h => ⟨rfl, by simpa using h⟩
  | [], c :: s, X, Y, _, hs, h => by
    have : c = 44 := by
      have := (List.cons.inj h).1
      exact this.symm
    exact absurd (by rw [this]; exact List.mem_cons_self) hs
  | c :: t, [], X, Y, ht, _, h => by
    have : c = 44 := (List.cons.inj h).1
    exact absurd (by rw [this]; exact List.mem_cons_self) ht
  | c :: t, d :: s, X, Y, ht, hs, h => by
    obtain ⟨e1, e2⟩ := List.cons.inj h
    obtain ⟨i1, i2⟩ := split_inj t s X Y (fun z => ht (List.mem_cons_of_mem _ z)) (fun z => hs (List.mem_cons_of_mem _ z)) e2
    exact ⟨by rw [e1, i1], i2⟩
/-- a token: some signs, no comma -/
def Tk (t : List Nat) : Prop := t ≠ [] ∧ 44 ∉ t
theorem jn_ne {t : List Nat} {r : List (List Nat)} (h : Tk t) : jn (t :: r) ≠ [] := by
  cases r with
  | nil => exact h.1
  | cons u r =>
    intro z
    have : t ++ 44 :: 32 :: jn (u :: r) = [] := z
    simp at this
theorem jn_inj : ∀ (ts ss : List (List Nat)), (∀ t ∈ ts, Tk t) → (∀ s ∈ ss, Tk s) → jn ts = jn ss → ts = ss
  | [], [], _, _, _ => rfl
  | [], s :: ss, _, hs, h => absurd h.symm (jn_ne (hs s List.mem_cons_self))
  | t :: ts, [], ht, _, h => absurd h (jn_ne (ht t List.mem_cons_self))
  | [t], [s], _, _, h => by rw [show t = s from h]
  | [t], s :: v :: q, ht, hs, h => by
    have e : t = s ++ 44 :: 32 :: jn (v :: q) := h
    exact absurd (by rw [e]; simp) (ht t List.mem_cons_self).2
  | t :: u :: r, [s], ht, hs, h => by
    have e : s = t ++ 44 :: 32 :: jn (u :: r) := h.symm
    exact absurd (by rw [e]; simp) (hs s List.mem_cons_self).2
  | t :: u :: r, s :: v :: q, ht, hs, h => by
    have e : t ++ 44 :: 32 :: jn (u :: r) = s ++ 44 :: 32 :: jn (v :: q) := h
    obtain ⟨e1, e2⟩ := split_inj t s _ _ (ht t List.mem_cons_self).2 (hs s List.mem_cons_self).2 e
    have e3 := (List.cons.inj e2).2
    rw [e1, jn_inj (u :: r) (v :: q) (fun x hx => ht x (List.mem_cons_of_mem _ hx)) (fun x hx => hs x (List.mem_cons_of_mem _ hx)) e3]
theorem join_sg : ∀ ts : List Str, sg (Str.join (Str.ofString ", ") ts) = jn (ts.map sg)
  | [] => rfl
  | [t] => rfl
  | t :: u :: r => by
    have e : Str.join (Str.ofString ", ") (t :: u :: r) = t ++ (Str.ofString ", ") ++ Str.join (Str.ofString ", ") (u :: r) := rfl
    rw [e, sg_app, sg_app, join_sg (u :: r)]
    show (sg t ++ [44, 32]) ++ jn ((u :: r).map sg) = sg t ++ 44 :: 32 :: jn ((u :: r).map sg)
    simp
end Lf
namespace Lf
open PySem PySem.Spec PyProof.Rows L2 TL
theorem tf_sg : ∀ (ts : List Str) (k : Nat) (acc : Str), 0 < k → sg (textFrom k acc ts) = sg acc ++ (ts.map fun t => 44 :: 32 :: sg t).flatten
  | [], _, _, _ => by simp [textFrom]
  | t :: ts, k, acc, hk => by
    show sg (textFrom (k + 1) (acc ++ ((if k > 0 then ", " else "" : String) : Str) ++ t) ts) = _
    rw [tf_sg ts (k + 1) _ (Nat.succ_pos _), if_pos hk, sg_app, sg_app]
    show (sg acc ++ [44, 32] ++ sg t) ++ _ = _
    simp
theorem jn_flat : ∀ (t : List Nat) (r : List (List Nat)), jn (t :: r) = t ++ (r.map fun u => 44 :: 32 :: u).flatten
  | t, [] => by simp [jn]
  | t, u :: r => by
    show t ++ 44 :: 32 :: jn (u :: r) = _
    rw [jn_flat u r]
    simp
theorem list_sg (ts : List Str) : sg (listText ts) = 91 :: (jn (ts.map sg) ++ [93]) := by
  unfold listText
  rw [sg_app]
  cases ts with
  | nil => rfl
  | cons t ts =>
    show sg (textFrom (0 + 1) ((("[" : String) : Str) ++ ((if 0 > 0 then ", " else "" : String) : Str) ++ t) ts) ++ [93] = _
    rw [tf_sg ts (0 + 1) _ (Nat.succ_pos _), sg_app, sg_app, List.map_cons, jn_flat]
    show ([91] ++ [] ++ sg t ++ _) ++ [93] = _
    simp [List.map_map]
    rfl
/-- a whole number from 0 on, or -1, or a truth -/
inductive Leaf : PyData → Prop
  | nat (n : Nat) : Leaf (.int (n : Int))
  | neg : Leaf (.int (-1))
  | tru (b : Bool) : Leaf (.bool b)
theorem nat_sg (n : Nat) : sg (PyData.shown (.int (n : Int))) = numL n := tl_num n
theorem leaf_tk {d : PyData} (h : Leaf d) : Tk (sg d.shown) ∧ 93 ∉ sg d.shown := by
  cases h with
  | nat n =>
    rw [nat_sg]
    exact ⟨⟨numL_ne n, numL_free (.inl (by decide))⟩, numL_free (.inr (by decide))⟩
  | neg => exact ⟨⟨by decide +kernel, by decide +kernel⟩, by decide +kernel⟩
  | tru b => cases b <;> exact ⟨⟨by decide +kernel, by decide +kernel⟩, by decide +kernel⟩
theorem leaf_inj {d : PyData} (h : Leaf d) {n : Nat} (e : sg d.shown = numL n) : d = .int (n : Int) := by
  cases h with
  | nat m =>
    rw [nat_sg] at e
    rw [numL_inj e]
  | neg =>
    have h1 : 45 ∈ sg (PyData.shown (.int (-1))) := by decide +kernel
    rw [e] at h1
    exact absurd h1 (numL_free (.inl (by decide)))
  | tru b =>
    cases b with
    | false =>
      have h1 : 70 ∈ sg (PyData.shown (.bool false)) := by decide +kernel
      rw [e] at h1
      exact absurd h1 (numL_free (.inr (by decide)))
    | true =>
      have h1 : 84 ∈ sg (PyData.shown (.bool true)) := by decide +kernel
      rw [e] at h1
      exact absurd h1 (numL_free (.inr (by decide)))
theorem shownAll_map : ∀ ds : List PyData, PyData.shownAll ds = ds.map PyData.shown
  | [] => by simp only [PyData.shownAll, List.map_nil]
  | d :: ds => by simp only [PyData.shownAll, List.map_cons, shownAll_map ds]
theorem lst_sg (ds : List PyData) : sg (PyData.shown (.list ds)) = 91 :: (jn (ds.map fun d => sg d.shown) ++ [93]) := by
  have e : PyData.shown (.list ds) = listText (PyData.shownAll ds) := by simp only [PyData.shown]
  rw [e, list_sg, shownAll_map, List.map_map]
  rfl
theorem toks_inj : ∀ (ds : List PyData) (U : List Nat), (∀ d ∈ ds, Leaf d) → (ds.map fun d => sg d.shown) = (U.map numL) → ds = U.map fun n : Nat => PyData.int (n : Int)
  | [], [], _, _ => rfl
  | [], _ :: _, _, h => by cases h
  | _ :: _, [], _, h => by cases h
  | d :: ds, n :: U, hd, h => by
    obtain ⟨h1, h2⟩ := List.cons.inj h
    rw [leaf_inj (hd d List.mem_cons_self) h1, toks_inj ds U (fun x hx => hd x (List.mem_cons_of_mem _ hx)) h2]
    rfl
/-- lists of leaves are told apart from lists of places by their texts -/
theorem list_inj {ds : List PyData} {U : List Nat} (hd : ∀ d ∈ ds, Leaf d) (e : PyData.shown (.list ds) = PyData.shown (.list (U.map fun n : Nat => PyData.int (n : Int)))) : ds = U.map fun n : Nat => PyData.int (n : Int) := by
  have e2 := congrArg sg e
  rw [lst_sg, lst_sg] at e2
  have e3 := List.append_cancel_right (List.cons.inj e2).2
  have hU : ((U.map fun n : Nat => PyData.int (n : Int)).map fun d => sg d.shown) = U.map numL := by
    rw [List.map_map]
    exact List.map_congr_left fun n _ => nat_sg n
  rw [hU] at e3
  refine toks_inj ds U hd (jn_inj _ _ ?_ ?_ e3)
  · intro t ht
    obtain ⟨d, hm, rfl⟩ := List.mem_map.mp ht
    exact (leaf_tk (hd d hm)).1
  · intro t ht
    obtain ⟨n, _, rfl⟩ := List.mem_map.mp ht
    exact ⟨numL_ne n, numL_free (.inl (by decide))⟩
theorem tup2_sg (x y : PyData) : sg (PyData.shown (.tuple [x, y])) = 40 :: (sg x.shown ++ 44 :: 32 :: (sg y.shown ++ [41])) := by
  have e : PyData.shown (.tuple [x, y]) = tupleText [x.shown, y.shown] := by simp only [PyData.shown, PyData.shownAll]
  rw [e]
  show sg (((("(" : String) : Str) ++ Str.join ", " [x.shown, y.shown]) ++ ((")" : String) : Str)) = _
  rw [sg_app, sg_app]
  have ej : sg (Str.join (Str.ofString ", ") [x.shown, y.shown]) = jn [sg x.shown, sg y.shown] := join_sg _
  show ([40] ++ sg (Str.join (Str.ofString ", ") [x.shown, y.shown])) ++ [41] = _
  rw [ej]
  show ([40] ++ (sg x.shown ++ 44 :: 32 :: sg y.shown)) ++ [41] = _
  simp
/-- of two pairs with the same second (first) part the texts are alike just where those of the first (second) are -/
theorem pair_fst {x x' y : PyData} (e : PyData.shown (.tuple [x, y]) = PyData.shown (.tuple [x', y])) : x.shown = x'.shown := by
  have e2 := congrArg sg e
  rw [tup2_sg, tup2_sg] at e2
  exact sg_inj (List.append_cancel_right (List.cons.inj e2).2)
theorem pair_snd {x y y' : PyData} (e : PyData.shown (.tuple [x, y]) = PyData.shown (.tuple [x, y'])) : y.shown = y'.shown := by
  have e2 := congrArg sg e
  rw [tup2_sg, tup2_sg] at e2
  have e3 := List.append_cancel_left (List.cons.inj e2).2
  have e4 := (List.cons.inj (List.cons.inj e3).2).2
  exact sg_inj (List.append_cancel_right e4)
end Lf

set_option Elab.async false
set_option linter.all false
set_option maxRecDepth 100000
set_option maxHeartbeats 4000000
namespace Lf
open PySem PySem.Spec PyProof.Rows L2
theorem same_new {H : Hp} {p : Addr} {o : HO} (h : H p = none) : Same H (upd H p o) := fun b x e => by
  rw [upd_ne (ne_of_none e h)]
  exact e
theorem same_rfl {H : Hp} : Same H H := fun _ _ e => e
theorem bt_abs : bootBuiltins "abs" = some (.builtin "abs") := by decide +kernel
theorem bt_len : bootBuiltins "len" = some (.builtin "len") := by decide +kernel
theorem bt_max : bootBuiltins "max" = some (.builtin "max") := by decide +kernel
theorem bt_min : bootBuiltins "min" = some (.builtin "min") := by decide +kernel
theorem bt_divmod : bootBuiltins "divmod" = some (.builtin "divmod") := by decide +kernel
theorem bt_repr : bootBuiltins "repr" = some (.builtin "repr") := by decide +kernel
theorem bt_all : bootBuiltins "all" = some (.builtin "all") := by decide +kernel
theorem bt_int : bootBuiltins "int" = some (.type "int") := by decide +kernel
theorem bt_str : bootBuiltins "str" = some (.type "str") := by decide +kernel
/-- the built-in names that nothing of the text hides -/
structure Blt (mg : Str → Option Value) : Prop where
  abs : mg "abs" = none
  len : mg "len" = none
  max : mg "max" = none
  min : mg "min" = none
  divmod : mg "divmod" = none
  repr : mg "repr" = none
  all : mg "all" = none
  int : mg "int" = none
  str : mg "str" = none
  range : mg "range" = none
/-- an own class under ValueError -/
structure ExT (K : PySem.W.Frag) (mg : Str → Option Value) (x : Str) (C : Addr) : Prop where
  g : mg x = some (.ref C)
  x : PySem.W.excIn K C [.type "ValueError", .type "Exception", .type "BaseException", .type "object"] "ValueError.__new__" = true
  k : PySem.W.keepIn K (.ref C) = true
  b : PySem.W.subIn K (.ref C) (.type "BaseException") = some true
  t : PySem.W.typeIn K (.ref C) = some (.type "type")
  m : PySem.W.exmOne K (.ref C) (.ref C) = some true
section
variable {K : PySem.W.Frag} {H : Hp} {p : Addr} {x y : V} {Q : VK}
theorem ixT0 (h : SqT K H p [x, y]) (q : Q x H) : rIxT K (.ref p) (.int 0) H Q := ⟨p, _, 0, _, rfl, rfl, h, rfl, q⟩
theorem ixT1 (h : SqT K H p [x, y]) (q : Q y H) : rIxT K (.ref p) (.int 1) H Q := ⟨p, _, 1, _, rfl, rfl, h, rfl, q⟩
theorem ixL0 (h : SqL K H p [x, y]) (q : Q x H) : rIxL K (.ref p) (.int 0) H Q := ⟨p, _, 0, _, rfl, rfl, h, rfl, q⟩
theorem ixL1 (h : SqL K H p [x, y]) (q : Q y H) : rIxL K (.ref p) (.int 1) H Q := ⟨p, _, 1, _, rfl, rfl, h, rfl, q⟩
theorem tup2 {a b : V} (q : ∀ p, H p = none → Q (.ref p) (upd H p (.tup [a, b]))) : [a, b].length ≤ sizeLine ∧ ∀ p, H p = none → Q (.ref p) (upd H p (.tup [a, b])) := ⟨by show 2 ≤ sizeLine; decide, q⟩
theorem lst2 {a b : V} (q : ∀ p, H p = none → Q (.ref p) (upd H p (.lst [a, b]))) : [a, b].length ≤ sizeLine ∧ ∀ p, H p = none → Q (.ref p) (upd H p (.lst [a, b])) := ⟨by show 2 ≤ sizeLine; decide, q⟩
end
theorem sm_t {K : PySem.W.Frag} {H H' : Hp} {a : Addr} {xs : List V} (s : Same H H') (h : SqT K H a xs) : SqT K H' a xs := by
  rcases h with (h | ⟨o, h⟩) | h
  · exact .inl (.inl (s _ _ h))
  · exact .inl (.inr ⟨o, s _ _ h⟩)
  · exact .inr h
def topS (i : Nat) : Stmt := PySem.Challenge.pw_loafshares_k55_whole_papers_show.main.body.getD i (.Pass ⟨0, 0, 0, 0⟩)
section
variable {P : Program} {w : World} {K : PySem.W.Frag} {mg : Str → Option Value} {base : Heap}
/-! ### common -/
abbrev sCom : Stmt := topS 10
theorem scCom : FnScope ["one", "other"] ["one", "other"] (defScope sCom) := ⟨rfl, rfl, rfl, by decide +kernel, rfl, by decide +kernel, by decide +kernel⟩
def spCom : Sp := fun vs H Q _ => ∃ (a b : Int), vs = [.int a, .int b] ∧ 0 ≤ a ∧ 0 ≤ b ∧ Q (.int (Nat.gcd a.natAbs b.natAbs : Nat)) H
theorem ok_com {f : Addr} {fd : FuncData} (F : Fun K "common" "common" sCom f fd) : FnG P w K mg base CX0 1 f fd ["one", "other"] spCom := by
  refine Gfun F scCom (fun vs H Q E h => ?_) (fun cdv A outer s H vs Q E hg hr h => ?_)
  · obtain ⟨a, b, rfl, _⟩ := h
    rfl
  · obtain ⟨a, b, rfl, ha, hb, q⟩ := h
    refine ⟨_, pss_cons (ps_while PassesOwn.never (pt_cmpR op_ne (pv 1) pe_int (nomark _))
        (pss_one (ps_par (i := 0) (j := 1) rfl scCom.nd rfl rfl (by decide) rfl rfl (pa_cons (pv 1) (pa_cons (pe_op op_mod (pv 0) (pv 1)) pa_nil)) (by rfl))))
      (pss_one (ps_ret (pv 0))), ?_⟩
    refine while_by (fun σ H' => ∃ x y : Int, σ = [some (.int x), some (.int y)] ∧ 0 ≤ x ∧ 0 ≤ y ∧ Nat.gcd x.natAbs y.natAbs = Nat.gcd a.natAbs b.natAbs ∧ H' = H)
      (fun σ _ => match σ with | [_, some (.int y)] => y.toNat | _ => 0) ⟨a, b, rfl, ha, hb, rfl, rfl⟩ ?_ ?_
    · rintro σ H1 ⟨x, y, rfl, hx, hy, hg, rfl⟩
      refine ⟨_, rfl, rfl, _, rfl, ite2 (fun e => ?_) (fun e => ?_)⟩
      · have hy0 : y ≠ 0 := fun z => by
          rw [z] at e
          exact absurd e (by decide)
        have hyp : 0 < y := by omega
        refine ⟨_, rfl, _, rfl, _, rfl, x, y, rfl, rfl, hyp, _, _, rfl, ⟨y, x % y, rfl, hy, Int.emod_nonneg _ hy0, (gcd_step x y hyp hx).trans hg, rfl⟩, ?_⟩
        show (x % y).toNat < y.toNat
        have := Int.emod_lt_of_pos x hyp
        omega
      · have hy0 : y = 0 := by
          by_cases z : y = 0
          · exact z
          · exact absurd (by rw [decide_eq_false (fun q => z (V.int.inj q))]; rfl) e
        subst hy0
        refine ⟨_, rfl, ?_⟩
        rw [← hg, Int.natAbs_zero, Nat.gcd_zero_right] at q
        rw [show (x.natAbs : Int) = x by omega] at q
        exact q
    · rintro σ H1 Q1 Q2 hq ⟨u, hu, h1, h2, h3, h4⟩
      exact ⟨u, hu, h1, h2, h3, hq _ _ h4⟩
/-! ### fraction -/
abbrev sFrac : Stmt := topS 11
theorem scFrac : FnScope ["top", "bottom", "shared"] ["top", "bottom"] (defScope sFrac) := ⟨rfl, rfl, rfl, by decide +kernel, rfl, by decide +kernel, by decide +kernel⟩
/-- below 2 ^ 2000 -/
def Mid (n : Int) : Prop := n.natAbs < 2 ^ 2000
theorem Mid.log {n : Int} (h : Mid n) : n.natAbs.log2 < 9000 := Nat.lt_of_lt_of_le (PySem.Flt.log2_lt_of (by decide) h) (by decide)
/-- a new tuple of two ints -/
def Two (H : Hp) (Q : VK) (t : Int × Int) : Prop := ∀ H' p, Same H H' → H' p = some (.tup [.int t.1, .int t.2]) → Q (.ref p) H'
def spFrac (neg : Bool) : Sp := fun vs H Q _ => ∃ (n d : Int), vs = [.int n, .int d] ∧ d ≠ 0 ∧ (neg = false → 0 < d) ∧ Mid n ∧ Mid d ∧ Two H Q (low n d)
theorem gcd_mid {n d : Int} (h : d ≠ 0) (hd : Mid d) : Mid ((Nat.gcd n.natAbs d.natAbs : Nat) : Int) := by
  unfold Mid at hd ⊢
  rw [Int.natAbs_natCast]
  exact Nat.lt_of_le_of_lt (Nat.le_of_dvd (by omega) (Nat.gcd_dvd_right _ _)) hd
theorem abs_is (n : Int) : (if n < 0 then -n else n) = (n.natAbs : Int) := by
  split <;> omega
theorem ok_frac {j : Nat} {f : Addr} {fd : FuncData} {C : Addr} (neg : Bool) (R : Sp) (hR : ∀ n d H Q, d < 0 → spFrac neg [.int n, .int d] H Q E0 → R [.int (-n), .int (-d)] H Q E0) (M : Blt mg) (X : ExT K mg "NoFraction" C) (F : Fun K "fraction" "fraction" sFrac f fd)
    (C_common : Cal P w K mg base CX0 1 "common" ["one", "other"] spCom) (C_fraction : Cal P w K mg base CX0 (j + 1) "fraction" ["top", "bottom"] R) : FnG P w K mg base CX0 (j + 2) f fd ["top", "bottom"] (spFrac neg) := by
  refine Gfun F scFrac (fun vs H Q E h => ?_) (fun cdv A outer s H vs Q E hg hr h => ?_)
  · obtain ⟨a, b, rfl, _⟩ := h
    rfl
  · obtain ⟨n, d, rfl, hd, hneg, hn2, hd2, q⟩ := h
    refine ⟨_, pss_cons (ps_if (pt_cmpR op_eq (pv 1) pe_int (nomark _)) (pss_one (ps_raise rfl takes0 (pmk_own PySem.F.excBase_ValueError X.x X.g X.k (raises_own X.b X.t) rfl))) pss_nil)
      (pss_cons (ps_if (pt_cmpR op_lt (pv 1) pe_int (nomark _)) (pss_one (ps_ret (pe_g C_fraction (hr.mono (by omega)) hg (pa_cons (pe_un un_neg (pv 0)) (pa_cons (pe_un un_neg (pv 1)) pa_nil))))) pss_nil)
      (pss_cons (ps_set (i := 2) scFrac.nd rfl (.inl rfl) (pe_g C_common (hr.mono (by omega)) hg (pa_cons (pe_callB call_abs rfl M.abs bt_abs (pa_cons (pv 0) pa_nil)) (pa_cons (pv 1) pa_nil))))
      (pss_one (ps_ret (pe_tup (pa_cons (pe_op op_fdivN (pv 0) (pv 2)) (pa_cons (pe_op op_fdivN (pv 1) (pv 2)) pa_nil))))))), ?_⟩
    refine ⟨_, rfl, rfl, _, rfl, ite2 (fun e => ?_) (fun _ => ?_)⟩
    · exact absurd (V.int.inj (of_decide_eq_true e)) hd
    refine ⟨_, rfl, _, _, rfl, rfl, _, rfl, ite2 (fun e => ?_) (fun e => ?_)⟩
    · have e' : d < 0 := of_decide_eq_true e
      refine ⟨_, rfl, _, rfl, _, rfl, _, rfl, ?_⟩
      exact hR n d H Q e' ⟨n, d, rfl, hd, hneg, hn2, hd2, q⟩
    · have e' : 0 < d := by
        have : ¬ d < 0 := fun z => e (decide_eq_true z)
        omega
      refine ⟨_, rfl, _, rfl, _, rfl, _, d, rfl, ?_, Int.le_of_lt e', ?_⟩
      · rw [abs_is]
        omega
      · rw [abs_is, Int.natAbs_natCast]
        have hgz : ((Nat.gcd n.natAbs d.natAbs : Nat) : Int) ≠ 0 := by
          have := gcd_pos (n := n) hd
          omega
        have hm : CDivN n ((Nat.gcd n.natAbs d.natAbs : Nat) : Int) := ⟨hgz, (gcd_mid hd hd2).log⟩
        refine ⟨_, rfl, _, rfl, n, _, rfl, rfl, hm, _, rfl, _, rfl, d, _, rfl, rfl, hm, tup2 fun p hp => ?_⟩
        refine q _ p (same_new hp) ?_
        have := low_fdiv_pos (n := n) (d := d) e'
        rw [← this]
        exact upd_same
end
end Lf

set_option Elab.async false
set_option linter.all false
set_option maxRecDepth 100000
set_option maxHeartbeats 4000000
set_option exponentiation.threshold 3000
namespace Lf
open PySem PySem.Spec PyProof.Rows L2
theorem Sm.mid {n : Int} (h : Sm n) : Mid n := Nat.lt_of_lt_of_le h (Nat.pow_le_pow_right (by decide) (by decide))
theorem Sm.mulW {a b : Int} (ha : Sm a) (hb : Sm b) : CMulW a b := by
  have := ha.log
  have := hb.log
  unfold CMulW
  omega
theorem Sm.prod {a b : Int} (ha : Sm a) (hb : Sm b) : (a * b).natAbs < 2 ^ 1800 := by
  rw [Int.natAbs_mul, show (2 : Nat) ^ 1800 = 2 ^ 900 * 2 ^ 900 by rw [← Nat.pow_add]]
  exact Nat.mul_lt_mul'' ha hb
theorem Sm.mul {a b : Int} (ha : Sm a) (hb : Sm b) : Mid (a * b) := Nat.lt_of_lt_of_le (Sm.prod ha hb) (Nat.pow_le_pow_right (by decide) (by decide))
theorem two_pow : (2 : Nat) ^ 1800 + 2 ^ 1800 = 2 ^ 1801 := (Nat.two_pow_succ 1800).symm
theorem Sm.add {a b c d : Int} (ha : Sm a) (hb : Sm b) (hc : Sm c) (hd : Sm d) : Mid (a * b + c * d) := by
  have h1 := Sm.prod ha hb
  have h2 := Sm.prod hc hd
  have h3 := Int.natAbs_add_le (a * b) (c * d)
  have h4 : (2 : Nat) ^ 1801 ≤ 2 ^ 2000 := Nat.pow_le_pow_right (by decide) (by decide)
  have h5 := two_pow
  unfold Mid
  omega
theorem Sm.sub {a b c d : Int} (ha : Sm a) (hb : Sm b) (hc : Sm c) (hd : Sm d) : Mid (a * b - c * d) := by
  have h1 := Sm.prod ha hb
  have h2 := Sm.prod hc hd
  have h3 := Int.natAbs_sub_le (a * b) (c * d)
  have h4 : (2 : Nat) ^ 1801 ≤ 2 ^ 2000 := Nat.pow_le_pow_right (by decide) (by decide)
  have h5 := two_pow
  unfold Mid
  omega
/-- two handed fractions -/
structure Pr (K : PySem.W.Frag) (H : Hp) (vs : List V) (a b c d : Int) : Prop where
  ex : ∃ p q, vs = [.ref p, .ref q] ∧ SqT K H p [.int a, .int b] ∧ SqT K H q [.int c, .int d]
  hb : b ≠ 0
  hd : d ≠ 0
  a1 : Sm a
  b1 : Sm b
  c1 : Sm c
  d1 : Sm d
theorem mul_ne {a b : Int} (ha : a ≠ 0) (hb : b ≠ 0) : a * b ≠ 0 := Int.mul_ne_zero ha hb
section
variable {P : Program} {w : World} {K : PySem.W.Frag} {mg : Str → Option Value} {base : Heap}
/-! ### fraction of a bottom 0 -/
def spFrac0 (C : Addr) : Sp := fun vs H Q E => ∃ n : Int, vs = [.int n, .int 0] ∧ E (.ref C) none H
theorem ok_frac0 {f : Addr} {fd : FuncData} {C : Addr} {R : Sp} (M : Blt mg) (X : ExT K mg "NoFraction" C) (F : Fun K "fraction" "fraction" sFrac f fd)
    (C_common : Cal P w K mg base CX0 1 "common" ["one", "other"] spCom) (C_fraction : Cal P w K mg base CX0 2 "fraction" ["top", "bottom"] R) : FnG P w K mg base (L2.CX P w) 3 f fd ["top", "bottom"] (spFrac0 C) := by
  refine GfunX F scFrac (fun vs H Q E h => ?_) (fun cdv A outer s H vs Q E hg hr h => ?_)
  · obtain ⟨n, rfl, _⟩ := h
    rfl
  · obtain ⟨n, rfl, q⟩ := h
    refine ⟨_, pss_cons (ps_if (pt_cmpR op_eq (pv 1) pe_int (nomark _)) (pss_one (ps_raise rfl (takes_of rfl rfl rfl rfl) (pmk_own PySem.F.excBase_ValueError X.x X.g X.k (raises_own X.b X.t) rfl))) pss_nil)
      (pss_cons (ps_if (pt_cmpR op_lt (pv 1) pe_int (nomark _)) (pss_one (ps_ret (pe_g C_fraction (hr.mono (by decide)) hg (pa_cons (pe_un un_neg (pv 0)) (pa_cons (pe_un un_neg (pv 1)) pa_nil))))) pss_nil)
      (pss_cons (ps_set (i := 2) scFrac.nd rfl (.inl rfl) (pe_g C_common (hr.mono (by decide)) hg (pa_cons (pe_callB call_abs rfl M.abs bt_abs (pa_cons (pv 0) pa_nil)) (pa_cons (pv 1) pa_nil))))
      (pss_one (ps_ret (pe_tup (pa_cons (pe_op op_fdivN (pv 0) (pv 2)) (pa_cons (pe_op op_fdivN (pv 1) (pv 2)) pa_nil))))))), ?_⟩
    exact ⟨_, rfl, rfl, _, rfl, iteT q⟩

/-! ### plus -/
abbrev s_plus : Stmt := topS 12
theorem sc_plus : FnScope ["one", "other"] ["one", "other"] (defScope s_plus) := ⟨rfl, rfl, rfl, by decide +kernel, rfl, by decide +kernel, by decide +kernel⟩
def sp_plus (K : PySem.W.Frag) : Sp := fun vs H Q _ => ∃ a b c d : Int, Pr K H vs a b c d ∧ Two H Q (low (a * d + c * b) (b * d))
theorem ok_plus {f : Addr} {fd : FuncData} (F : Fun K "plus" "plus" s_plus f fd) (C_fraction : Cal P w K mg base CX0 4 "fraction" ["top", "bottom"] (spFrac true)) : FnG P w K mg base CX0 5 f fd ["one", "other"] (sp_plus K) := by
  refine Gfun F sc_plus (fun vs H Q E h => ?_) (fun cdv A outer s H vs Q E hg hr h => ?_)
  · obtain ⟨a, b, c, d, h, _⟩ := h
    obtain ⟨p, q, rfl, _⟩ := h.ex
    rfl
  · obtain ⟨a, b, c, d, h, k⟩ := h
    obtain ⟨p, q, rfl, hp, hq⟩ := h.ex
    refine ⟨_, (pss_one (ps_ret (pe_g C_fraction (hr.mono (by decide)) hg (pa_cons (pe_op op_add (pe_op op_mulW (pe_ix ix_tup (pv 0) pe_int (fun _ _ => rfl)) (pe_ix ix_tup (pv 1) pe_int (fun _ _ => rfl))) (pe_op op_mulW (pe_ix ix_tup (pv 1) pe_int (fun _ _ => rfl)) (pe_ix ix_tup (pv 0) pe_int (fun _ _ => rfl)))) (pa_cons (pe_op op_mulW (pe_ix ix_tup (pv 0) pe_int (fun _ _ => rfl)) (pe_ix ix_tup (pv 1) pe_int (fun _ _ => rfl))) pa_nil))))), ?_⟩
    refine ⟨_, rfl, p, _, _, _, rfl, rfl, hp, rfl, _, rfl, q, _, _, _, rfl, rfl, hq, rfl, _, _, rfl, rfl, Sm.mulW h.a1 h.d1, ?_⟩
    refine ⟨_, rfl, q, _, _, _, rfl, rfl, hq, rfl, _, rfl, p, _, _, _, rfl, rfl, hp, rfl, _, _, rfl, rfl, Sm.mulW h.c1 h.b1, ?_⟩
    refine ⟨_, _, rfl, rfl, ?_⟩
    refine ⟨_, rfl, p, _, _, _, rfl, rfl, hp, rfl, _, rfl, q, _, _, _, rfl, rfl, hq, rfl, _, _, rfl, rfl, Sm.mulW h.b1 h.d1, ?_⟩
    exact ⟨_, _, rfl, mul_ne h.hb h.hd, (fun z => Bool.noConfusion z), Sm.add h.a1 h.d1 h.c1 h.b1, Sm.mul h.b1 h.d1, k⟩

/-! ### minus -/
abbrev s_minus : Stmt := topS 13
theorem sc_minus : FnScope ["one", "other"] ["one", "other"] (defScope s_minus) := ⟨rfl, rfl, rfl, by decide +kernel, rfl, by decide +kernel, by decide +kernel⟩
def sp_minus (K : PySem.W.Frag) : Sp := fun vs H Q _ => ∃ a b c d : Int, Pr K H vs a b c d ∧ Two H Q (low (a * d - c * b) (b * d))
theorem ok_minus {f : Addr} {fd : FuncData} (F : Fun K "minus" "minus" s_minus f fd) (C_fraction : Cal P w K mg base CX0 4 "fraction" ["top", "bottom"] (spFrac true)) : FnG P w K mg base CX0 5 f fd ["one", "other"] (sp_minus K) := by
  refine Gfun F sc_minus (fun vs H Q E h => ?_) (fun cdv A outer s H vs Q E hg hr h => ?_)
  · obtain ⟨a, b, c, d, h, _⟩ := h
    obtain ⟨p, q, rfl, _⟩ := h.ex
    rfl
  · obtain ⟨a, b, c, d, h, k⟩ := h
    obtain ⟨p, q, rfl, hp, hq⟩ := h.ex
    refine ⟨_, (pss_one (ps_ret (pe_g C_fraction (hr.mono (by decide)) hg (pa_cons (pe_op op_sub (pe_op op_mulW (pe_ix ix_tup (pv 0) pe_int (fun _ _ => rfl)) (pe_ix ix_tup (pv 1) pe_int (fun _ _ => rfl))) (pe_op op_mulW (pe_ix ix_tup (pv 1) pe_int (fun _ _ => rfl)) (pe_ix ix_tup (pv 0) pe_int (fun _ _ => rfl)))) (pa_cons (pe_op op_mulW (pe_ix ix_tup (pv 0) pe_int (fun _ _ => rfl)) (pe_ix ix_tup (pv 1) pe_int (fun _ _ => rfl))) pa_nil))))), ?_⟩
    refine ⟨_, rfl, p, _, _, _, rfl, rfl, hp, rfl, _, rfl, q, _, _, _, rfl, rfl, hq, rfl, _, _, rfl, rfl, Sm.mulW h.a1 h.d1, ?_⟩
    refine ⟨_, rfl, q, _, _, _, rfl, rfl, hq, rfl, _, rfl, p, _, _, _, rfl, rfl, hp, rfl, _, _, rfl, rfl, Sm.mulW h.c1 h.b1, ?_⟩
    refine ⟨_, _, rfl, rfl, ?_⟩
    refine ⟨_, rfl, p, _, _, _, rfl, rfl, hp, rfl, _, rfl, q, _, _, _, rfl, rfl, hq, rfl, _, _, rfl, rfl, Sm.mulW h.b1 h.d1, ?_⟩
    exact ⟨_, _, rfl, mul_ne h.hb h.hd, (fun z => Bool.noConfusion z), Sm.sub h.a1 h.d1 h.c1 h.b1, Sm.mul h.b1 h.d1, k⟩

/-! ### times -/
abbrev s_times : Stmt := topS 14
theorem sc_times : FnScope ["one", "other"] ["one", "other"] (defScope s_times) := ⟨rfl, rfl, rfl, by decide +kernel, rfl, by decide +kernel, by decide +kernel⟩
def sp_times (K : PySem.W.Frag) : Sp := fun vs H Q _ => ∃ a b c d : Int, Pr K H vs a b c d ∧ Two H Q (low (a * c) (b * d))
theorem ok_times {f : Addr} {fd : FuncData} (F : Fun K "times" "times" s_times f fd) (C_fraction : Cal P w K mg base CX0 4 "fraction" ["top", "bottom"] (spFrac true)) : FnG P w K mg base CX0 5 f fd ["one", "other"] (sp_times K) := by
  refine Gfun F sc_times (fun vs H Q E h => ?_) (fun cdv A outer s H vs Q E hg hr h => ?_)
  · obtain ⟨a, b, c, d, h, _⟩ := h
    obtain ⟨p, q, rfl, _⟩ := h.ex
    rfl
  · obtain ⟨a, b, c, d, h, k⟩ := h
    obtain ⟨p, q, rfl, hp, hq⟩ := h.ex
    refine ⟨_, (pss_one (ps_ret (pe_g C_fraction (hr.mono (by decide)) hg (pa_cons (pe_op op_mulW (pe_ix ix_tup (pv 0) pe_int (fun _ _ => rfl)) (pe_ix ix_tup (pv 1) pe_int (fun _ _ => rfl))) (pa_cons (pe_op op_mulW (pe_ix ix_tup (pv 0) pe_int (fun _ _ => rfl)) (pe_ix ix_tup (pv 1) pe_int (fun _ _ => rfl))) pa_nil))))), ?_⟩
    refine ⟨_, rfl, p, _, _, _, rfl, rfl, hp, rfl, _, rfl, q, _, _, _, rfl, rfl, hq, rfl, _, _, rfl, rfl, Sm.mulW h.a1 h.c1, ?_⟩
    refine ⟨_, rfl, p, _, _, _, rfl, rfl, hp, rfl, _, rfl, q, _, _, _, rfl, rfl, hq, rfl, _, _, rfl, rfl, Sm.mulW h.b1 h.d1, ?_⟩
    exact ⟨_, _, rfl, mul_ne h.hb h.hd, (fun z => Bool.noConfusion z), Sm.mul h.a1 h.c1, Sm.mul h.b1 h.d1, k⟩

/-! ### over -/
abbrev s_over : Stmt := topS 15
theorem sc_over : FnScope ["one", "other"] ["one", "other"] (defScope s_over) := ⟨rfl, rfl, rfl, by decide +kernel, rfl, by decide +kernel, by decide +kernel⟩
def sp_over (K : PySem.W.Frag) : Sp := fun vs H Q _ => ∃ a b c d : Int, Pr K H vs a b c d ∧ c ≠ 0 ∧ Two H Q (low (a * d) (b * c))
theorem ok_over {f : Addr} {fd : FuncData} (F : Fun K "over" "over" s_over f fd) (C_fraction : Cal P w K mg base CX0 4 "fraction" ["top", "bottom"] (spFrac true)) : FnG P w K mg base CX0 5 f fd ["one", "other"] (sp_over K) := by
  refine Gfun F sc_over (fun vs H Q E h => ?_) (fun cdv A outer s H vs Q E hg hr h => ?_)
  · obtain ⟨a, b, c, d, h, _⟩ := h
    obtain ⟨p, q, rfl, _⟩ := h.ex
    rfl
  · obtain ⟨a, b, c, d, h, hc, k⟩ := h
    obtain ⟨p, q, rfl, hp, hq⟩ := h.ex
    refine ⟨_, (pss_one (ps_ret (pe_g C_fraction (hr.mono (by decide)) hg (pa_cons (pe_op op_mulW (pe_ix ix_tup (pv 0) pe_int (fun _ _ => rfl)) (pe_ix ix_tup (pv 1) pe_int (fun _ _ => rfl))) (pa_cons (pe_op op_mulW (pe_ix ix_tup (pv 0) pe_int (fun _ _ => rfl)) (pe_ix ix_tup (pv 1) pe_int (fun _ _ => rfl))) pa_nil))))), ?_⟩
    refine ⟨_, rfl, p, _, _, _, rfl, rfl, hp, rfl, _, rfl, q, _, _, _, rfl, rfl, hq, rfl, _, _, rfl, rfl, Sm.mulW h.a1 h.d1, ?_⟩
    refine ⟨_, rfl, p, _, _, _, rfl, rfl, hp, rfl, _, rfl, q, _, _, _, rfl, rfl, hq, rfl, _, _, rfl, rfl, Sm.mulW h.b1 h.c1, ?_⟩
    exact ⟨_, _, rfl, mul_ne h.hb hc, (fun z => Bool.noConfusion z), Sm.mul h.a1 h.d1, Sm.mul h.b1 h.c1, k⟩

/-! ### over 0 -/
def sp_over0 (K : PySem.W.Frag) (C : Addr) : Sp := fun vs H Q E => ∃ a b d : Int, Pr K H vs a b 0 d ∧ E (.ref C) none H
theorem ok_over0 {f : Addr} {fd : FuncData} {C : Addr} (F : Fun K "over" "over" s_over f fd) (C_fraction : Cal P w K mg base (L2.CX P w) 3 "fraction" ["top", "bottom"] (spFrac0 C)) : FnG P w K mg base (L2.CX P w) 5 f fd ["one", "other"] (sp_over0 K C) := by
  refine GfunX F sc_over (fun vs H Q E h => ?_) (fun cdv A outer s H vs Q E hg hr h => ?_)
  · obtain ⟨a, b, d, h, _⟩ := h
    obtain ⟨p, q, rfl, _⟩ := h.ex
    rfl
  · obtain ⟨a, b, d, h, k⟩ := h
    obtain ⟨p, q, rfl, hp, hq⟩ := h.ex
    refine ⟨_, (pss_one (ps_ret (pe_gS C_fraction (hr.mono (by decide)) hg (fun σ => passAt (takes_of rfl rfl rfl rfl) σ) (pa_cons (pe_op op_mulW (pe_ix ix_tup (pv 0) pe_int (fun _ _ => rfl)) (pe_ix ix_tup (pv 1) pe_int (fun _ _ => rfl))) (pa_cons (pe_op op_mulW (pe_ix ix_tup (pv 0) pe_int (fun _ _ => rfl)) (pe_ix ix_tup (pv 1) pe_int (fun _ _ => rfl))) pa_nil))))), ?_⟩
    refine ⟨_, rfl, p, _, _, _, rfl, rfl, hp, rfl, _, rfl, q, _, _, _, rfl, rfl, hq, rfl, _, _, rfl, rfl, Sm.mulW h.a1 h.d1, ?_⟩
    refine ⟨_, rfl, p, _, _, _, rfl, rfl, hp, rfl, _, rfl, q, _, _, _, rfl, rfl, hq, rfl, _, _, rfl, rfl, Sm.mulW h.b1 h.c1, ?_⟩
    exact ⟨a * d, by show [V.int (a * d), V.int (b * 0)] = _; rw [Int.mul_zero], k⟩

/-! ### is_less -/
abbrev s_is_less : Stmt := topS 17
theorem sc_is_less : FnScope ["one", "other"] ["one", "other"] (defScope s_is_less) := ⟨rfl, rfl, rfl, by decide +kernel, rfl, by decide +kernel, by decide +kernel⟩
def sp_is_less (K : PySem.W.Frag) : Sp := fun vs H Q _ => ∃ a b c d : Int, Pr K H vs a b c d ∧ Q (.bl (decide (a * d < c * b))) H
theorem ok_is_less {f : Addr} {fd : FuncData} (F : Fun K "is_less" "is_less" s_is_less f fd) : FnG P w K mg base CX0 1 f fd ["one", "other"] (sp_is_less K) := by
  refine Gfun F sc_is_less (fun vs H Q E h => ?_) (fun cdv A outer s H vs Q E hg hr h => ?_)
  · obtain ⟨a, b, c, d, h, _⟩ := h
    obtain ⟨p, q, rfl, _⟩ := h.ex
    rfl
  · obtain ⟨a, b, c, d, h, k⟩ := h
    obtain ⟨p, q, rfl, hp, hq⟩ := h.ex
    refine ⟨_, (pss_one (ps_ret (pe_cmpR op_lt (pe_op op_mulW (pe_ix ix_tup (pv 0) pe_int (fun _ _ => rfl)) (pe_ix ix_tup (pv 1) pe_int (fun _ _ => rfl))) (pe_op op_mulW (pe_ix ix_tup (pv 1) pe_int (fun _ _ => rfl)) (pe_ix ix_tup (pv 0) pe_int (fun _ _ => rfl))) (nomark _)))), ?_⟩
    refine ⟨_, rfl, p, _, _, _, rfl, rfl, hp, rfl, _, rfl, q, _, _, _, rfl, rfl, hq, rfl, _, _, rfl, rfl, Sm.mulW h.a1 h.d1, ?_⟩
    refine ⟨_, rfl, q, _, _, _, rfl, rfl, hq, rfl, _, rfl, p, _, _, _, rfl, rfl, hp, rfl, _, _, rfl, rfl, Sm.mulW h.c1 h.b1, ?_⟩
    exact ⟨_, _, rfl, rfl, k⟩

end
end Lf

set_option Elab.async false
set_option linter.all false
set_option maxRecDepth 100000
set_option maxHeartbeats 4000000
set_option exponentiation.threshold 3000
namespace Lf
open PySem PySem.Spec PyProof.Rows L2
theorem bt_isinstance : bootBuiltins "isinstance" = some (.builtin "isinstance") := by decide +kernel
theorem bt_bool : bootBuiltins "bool" = some (.type "bool") := by decide +kernel
theorem bt_tuple : bootBuiltins "tuple" = some (.type "tuple") := by decide +kernel
structure Bltx (mg : Str → Option Value) : Prop where
  isinstance : mg "isinstance" = none
  bool : mg "bool" = none
  tuple : mg "tuple" = none
theorem len_show {n : Nat} (h : n ≤ 1000) : n ≤ sizeLine := by
  rw [sizeLine_eq]
  omega
theorem u65 {k : Nat} {A : Around} (r : Room k A) : A.units + 65 < cLine := by
  have := r.un
  omega
theorem iteN {c A B : Prop} [Decidable c] (hc : ¬ c) (h : A) : if (!decide c) = true then A else B := by
  rw [decide_eq_false hc]
  exact iteT h
def isI : PyData → Bool
  | .int _ => true
  | .bool _ => true
  | _ => false
def isB : PyData → Bool
  | .bool _ => true
  | _ => false
def isT : PyData → Bool
  | .tuple _ => true
  | _ => false
def isS : PyData → Bool
  | .str _ => true
  | _ => false
def isW : PyData → Bool
  | .int _ => true
  | _ => false
theorem ki_none : kitB "NoneType" "int" = some false := by decide +kernel
theorem ki_bool : kitB "bool" "int" = some true := by decide +kernel
theorem ki_int : kitB "int" "int" = some true := by decide +kernel
theorem ki_str : kitB "str" "int" = some false := by decide +kernel
theorem ki_list : kitB "list" "int" = some false := by decide +kernel
theorem ki_tuple : kitB "tuple" "int" = some false := by decide +kernel
theorem ki_dict : kitB "dict" "int" = some false := by decide +kernel
theorem ki (d : PyData) : kitB (tyN d) "int" = some (isI d) :=
  match d with
  | .none => ki_none
  | .bool _ => ki_bool
  | .int _ => ki_int
  | .str _ => ki_str
  | .list _ => ki_list
  | .tuple _ => ki_tuple
  | .dict _ => ki_dict
theorem kb_none : kitB "NoneType" "bool" = some false := by decide +kernel
theorem kb_bool : kitB "bool" "bool" = some true := by decide +kernel
theorem kb_int : kitB "int" "bool" = some false := by decide +kernel
theorem kb_str : kitB "str" "bool" = some false := by decide +kernel
theorem kb_list : kitB "list" "bool" = some false := by decide +kernel
theorem kb_tuple : kitB "tuple" "bool" = some false := by decide +kernel
theorem kb_dict : kitB "dict" "bool" = some false := by decide +kernel
theorem kb (d : PyData) : kitB (tyN d) "bool" = some (isB d) :=
  match d with
  | .none => kb_none
  | .bool _ => kb_bool
  | .int _ => kb_int
  | .str _ => kb_str
  | .list _ => kb_list
  | .tuple _ => kb_tuple
  | .dict _ => kb_dict
theorem kt_none : kitB "NoneType" "tuple" = some false := by decide +kernel
theorem kt_bool : kitB "bool" "tuple" = some false := by decide +kernel
theorem kt_int : kitB "int" "tuple" = some false := by decide +kernel
theorem kt_str : kitB "str" "tuple" = some false := by decide +kernel
theorem kt_list : kitB "list" "tuple" = some false := by decide +kernel
theorem kt_tuple : kitB "tuple" "tuple" = some true := by decide +kernel
theorem kt_dict : kitB "dict" "tuple" = some false := by decide +kernel
theorem kt (d : PyData) : kitB (tyN d) "tuple" = some (isT d) :=
  match d with
  | .none => kt_none
  | .bool _ => kt_bool
  | .int _ => kt_int
  | .str _ => kt_str
  | .list _ => kt_list
  | .tuple _ => kt_tuple
  | .dict _ => kt_dict
theorem ks_none : kitB "NoneType" "str" = some false := by decide +kernel
theorem ks_bool : kitB "bool" "str" = some false := by decide +kernel
theorem ks_int : kitB "int" "str" = some false := by decide +kernel
theorem ks_str : kitB "str" "str" = some true := by decide +kernel
theorem ks_list : kitB "list" "str" = some false := by decide +kernel
theorem ks_tuple : kitB "tuple" "str" = some false := by decide +kernel
theorem ks_dict : kitB "dict" "str" = some false := by decide +kernel
theorem ks (d : PyData) : kitB (tyN d) "str" = some (isS d) :=
  match d with
  | .none => ks_none
  | .bool _ => ks_bool
  | .int _ => ks_int
  | .str _ => ks_str
  | .list _ => ks_list
  | .tuple _ => ks_tuple
  | .dict _ => ks_dict
def fr2 : PyData → PyData → Bool
  | .int a, .int b => decide (0 < b) && decide (Nat.gcd a.natAbs b.natAbs = 1)
  | _, _ => false
def frL : List PyData → Bool
  | [x, y] => fr2 x y
  | _ => false
def isFr : PyData → Bool
  | .tuple ds => frL ds
  | _ => false
def lets : Str := Str.ofString "abcdefghijklmnopqrstuvwxyz"
def inL (c : Nat) : Bool := decide (c ∈ lets.cps.toList)
def isNm : PyData → Bool
  | .str z => decide (1 ≤ z.length) && decide (z.length ≤ 10) && z.cps.toList.all inL
  | _ => false
section
variable {P : Program} {w : World} {K : PySem.W.Frag} {mg : Str → Option Value} {base : Heap}
theorem Dq.tup {H : Hp} {v : V} {d : PyData} (h : Dq K H v d) (e : isT d = true) : ∃ (a : Addr) (xs : List V) (ds : List PyData), v = .ref a ∧ d = .tuple ds ∧ SqT K H a xs ∧ DpAll K H xs ds ∧ PyData.hasDictAll ds = false := by
  cases h with
  | dp h n =>
    cases h with
    | tup h1 h2 => exact ⟨_, _, _, rfl, rfl, h1, h2, by simpa [PyData.hasDict] using n⟩
    | non => cases e
    | bl _ => cases e
    | int _ => cases e
    | str _ => cases e
    | lst _ _ => cases e
  | dic _ _ => cases e
theorem Dq.txt {H : Hp} {v : V} {d : PyData} (h : Dq K H v d) (e : isS d = true) : ∃ z, v = .str z ∧ d = .str z := by
  cases h with
  | dp h n =>
    cases h with
    | str z => exact ⟨z, rfl, rfl⟩
    | non => cases e
    | bl _ => cases e
    | int _ => cases e
    | tup _ _ => cases e
    | lst _ _ => cases e
  | dic _ _ => cases e
theorem Dq.whole {H : Hp} {v : V} {d : PyData} (h : Dq K H v d) (e : isW d = true) : ∃ i, v = .int i ∧ d = .int i := by
  cases h with
  | dp h n =>
    cases h with
    | int i => exact ⟨i, rfl, rfl⟩
    | non => cases e
    | bl _ => cases e
    | str _ => cases e
    | tup _ _ => cases e
    | lst _ _ => cases e
  | dic _ _ => cases e

def sp_whole (K : PySem.W.Frag) : Sp := fun vs H Q _ => ∃ (v : V) (d : PyData), vs = [v] ∧ Dq K H v d ∧ Q (.bl (isW d)) H
/-! ### is_whole -/
abbrev s_is_whole : Stmt := topS 9
theorem sc_is_whole : FnScope ["thing"] ["thing"] (defScope s_is_whole) := ⟨rfl, rfl, rfl, by decide +kernel, rfl, by decide +kernel, by decide +kernel⟩
theorem ok_whole {f : Addr} {fd : FuncData} (M : Blt mg) (Mx : Bltx mg) (F : Fun K "is_whole" "is_whole" s_is_whole f fd) : FnG P w K mg base CX0 1 f fd ["thing"] (sp_whole K) := by
  refine Gfun F sc_is_whole (fun vs H Q E h => ?_) (fun cdv A outer s H vs Q E hg hr h => ?_)
  · obtain ⟨v, d, rfl, _⟩ := h
    rfl
  · obtain ⟨v, d, rfl, hq, k⟩ := h
    refine ⟨_, (pss_one (ps_ret (pe_and (pe_callB call_isi rfl Mx.isinstance bt_isinstance (pa_cons (pv 0) (pa_cons (pe_bltn (v := .ty "int") rfl M.int bt_int rfl) pa_nil))) (pe_one (pe_not (pe_callB call_isi rfl Mx.isinstance bt_isinstance (pa_cons (pv 0) (pa_cons (pe_bltn (v := .ty "bool") rfl Mx.bool bt_bool rfl) pa_nil)))))))), ?_⟩
    refine ⟨_, rfl, _, _, _, _, _, rfl, .ty "int", hq.ty, kit_ty (ki d), _, rfl, ite2 (fun e => ?_) (fun e => ?_)⟩
    · refine ⟨_, rfl, _, _, _, _, _, rfl, .ty "bool", hq.ty, kit_ty (kb d), _, rfl, ?_⟩
      have : isW d = !isB d := by cases d <;> first | rfl | (cases e)
      rw [← this]
      exact k
    · have : isW d = false := by cases d <;> first | rfl | (exact absurd rfl e)
      rw [this] at k
      exact k

/-! ### is_fraction -/
abbrev s_is_fraction : Stmt := topS 19
theorem sc_is_fraction : FnScope ["thing", "top", "bottom"] ["thing"] (defScope s_is_fraction) := ⟨rfl, rfl, rfl, by decide +kernel, rfl, by decide +kernel, by decide +kernel⟩
def sp_isfr (K : PySem.W.Frag) : Sp := fun vs H Q _ => ∃ (v : V) (d : PyData), vs = [v] ∧ Dq K H v d ∧ Q (.bl (isFr d)) H
theorem isFr_len {ds : List PyData} (h : ds.length ≠ 2) : isFr (.tuple ds) = false := by
  match ds, h with
  | [], _ => rfl
  | [_], _ => rfl
  | [_, _], h => exact absurd rfl h
  | _ :: _ :: _ :: _, _ => rfl
theorem isFr_no {d e : PyData} (h : isW d = false ∨ isW e = false) : isFr (.tuple [d, e]) = false := by
  cases d <;> cases e <;> first | rfl | (rcases h with h | h <;> cases h)
theorem isFr_two {a b : Int} : isFr (.tuple [.int a, .int b]) = (decide (0 < b) && decide (Nat.gcd a.natAbs b.natAbs = 1)) := rfl
theorem DpAll.len {H : Hp} : ∀ {vs : List V} {ds : List PyData}, DpAll K H vs ds → vs.length = ds.length
  | _, _, .nil => rfl
  | _, _, .cons _ r => congrArg Nat.succ (DpAll.len r)
theorem two_of {H : Hp} {xs : List V} {ds : List PyData} (h : DpAll K H xs ds) (hl : xs.length = 2) : ∃ x y d1 d2, xs = [x, y] ∧ ds = [d1, d2] ∧ Dp K H x d1 ∧ Dp K H y d2 := by
  match xs, ds, h, hl with
  | _, _, .cons h1 (.cons h2 .nil), _ => exact ⟨_, _, _, _, rfl, rfl, h1, h2⟩
  | _, _, .nil, e => cases e
  | _, _, .cons _ .nil, e => cases e
  | _, _, .cons _ (.cons _ (.cons _ _)), e => simp at e
theorem ok_isfr {f : Addr} {fd : FuncData} (M : Blt mg) (Mx : Bltx mg) (F : Fun K "is_fraction" "is_fraction" s_is_fraction f fd) (C_is_whole : Cal P w K mg base CX0 1 "is_whole" ["thing"] (sp_whole K)) (C_common : Cal P w K mg base CX0 1 "common" ["one", "other"] spCom) :
    FnG P w K mg base CX0 2 f fd ["thing"] (sp_isfr K) := by
  refine Gfun F sc_is_fraction (fun vs H Q E h => ?_) (fun cdv A outer s H vs Q E hg hr h => ?_)
  · obtain ⟨v, d, rfl, _⟩ := h
    rfl
  · obtain ⟨v, d, rfl, hq, k⟩ := h
    refine ⟨_, (pss_cons (ps_if (PW.pt (pw_or (pt_not (pt_val (pe_callB call_isi rfl Mx.isinstance bt_isinstance (pa_cons (pv 0) (pa_cons (pe_bltn (v := .ty "tuple") rfl Mx.tuple bt_tuple rfl) pa_nil))))) (pw_or1 (pt_cmpR op_ne (pe_callB call_len_seq rfl M.len bt_len (pa_cons (pv 0) pa_nil)) pe_int (nomark _)))))
      (pss_one (ps_ret pe_bl))
      pss_nil)
      (pss_cons (ps_asg (pv 0) (pg_tup rfl (pgs_cons (pg_name (i := 1) sc_is_fraction.nd rfl (.inl rfl)) (pgs_cons (pg_name (i := 2) sc_is_fraction.nd rfl (.inl rfl)) pgs_nil))))
      (pss_cons (ps_if (PW.pt (pw_or (pt_not (pt_val (pe_g C_is_whole (hr.mono (by decide)) hg (pa_cons (pv 1) pa_nil)))) (pw_or1 (pt_not (pt_val (pe_g C_is_whole (hr.mono (by decide)) hg (pa_cons (pv 2) pa_nil)))))))
      (pss_one (ps_ret pe_bl))
      pss_nil)
      (pss_one (ps_ret (pe_and (pe_cmpR op_gt (pv 2) pe_int (nomark _)) (pe_one (pe_cmpR op_eq (pe_g C_common (hr.mono (by decide)) hg (pa_cons (pe_callB call_abs rfl M.abs bt_abs (pa_cons (pv 1) pa_nil)) (pa_cons (pv 2) pa_nil))) pe_int (nomark _))))))))), ?_⟩
    refine ⟨_, rfl, _, _, _, _, _, rfl, .ty "tuple", hq.ty, kit_ty (kt d), _, rfl, ?_⟩
    by_cases ht : isT d = true
    · rw [ht]
      refine iteF ?_
      obtain ⟨a, xs, ds, rfl, rfl, hS, hA, hn⟩ := hq.tup ht
      refine ⟨_, rfl, a, xs, rfl, .inr hS, rfl, _, rfl, ?_⟩
      by_cases hl : xs.length = 2
      · refine iteNS (show V.int (xs.length : Int) = V.int 2 by rw [hl]; rfl) ?_
        obtain ⟨x, y, d1, d2, rfl, rfl, h1, h2⟩ := two_of hA hl
        refine ⟨_, rfl, a, _, rfl, hS, rfl, _, _, rfl, _, _, rfl, rfl, ?_⟩
        have hn' : d1.hasDict = false ∧ d2.hasDict = false := by simpa [PyData.hasDictAll] using hn
        have q1 : Dq K H x d1 := .dp h1 hn'.1
        have q2 : Dq K H y d2 := .dp h2 hn'.2
        refine ⟨_, rfl, x, d1, rfl, q1, _, rfl, ?_⟩
        by_cases w1 : isW d1 = true
        · rw [w1]
          refine iteF ?_
          refine ⟨_, rfl, y, d2, rfl, q2, _, rfl, ?_⟩
          by_cases w2 : isW d2 = true
          · rw [w2]
            refine iteF ?_
            obtain ⟨p, rfl, rfl⟩ := q1.whole w1
            obtain ⟨b, rfl, rfl⟩ := q2.whole w2
            rw [isFr_two] at k
            refine ⟨_, rfl, _, _, rfl, rfl, _, rfl, ite2 (fun e => ?_) (fun e => ?_)⟩
            · have hb : 0 < b := of_decide_eq_true e
              refine ⟨_, rfl, _, rfl, _, rfl, _, b, rfl, ?_, Int.le_of_lt hb, rfl, ?_⟩
              · rw [abs_is]
                omega
              · rw [abs_is, Int.natAbs_natCast]
                rw [decide_eq_true hb, Bool.true_and] at k
                have e2 : decide (V.int ((Nat.gcd p.natAbs b.natAbs : Nat) : Int) = V.int 1) = decide (Nat.gcd p.natAbs b.natAbs = 1) := by
                  by_cases z : Nat.gcd p.natAbs b.natAbs = 1
                  · rw [decide_eq_true z, z]
                    rfl
                  · rw [decide_eq_false z]
                    exact decide_eq_false fun q => z (by have := V.int.inj q; omega)
                rw [e2]
                exact k
            · rw [show decide (0 < b) = false from Bool.eq_false_iff.mpr e, Bool.false_and] at k
              exact k
          · have w2' : isW d2 = false := by cases h : isW d2 <;> first | rfl | exact absurd h w2
            rw [w2']
            refine iteT ?_
            rw [isFr_no (.inr w2')] at k
            exact k
        · have w1' : isW d1 = false := by cases h : isW d1 <;> first | rfl | exact absurd h w1
          rw [w1']
          refine iteT ?_
          rw [isFr_no (.inl w1')] at k
          exact k
      · refine iteN (fun z => hl (by have := V.int.inj z; omega)) ?_
        have hl2 : ds.length ≠ 2 := by rw [← DpAll.len hA]; exact hl
        rw [isFr_len hl2] at k
        exact k
    · have ht' : isT d = false := by cases h : isT d <;> first | rfl | exact absurd h ht
      rw [ht']
      refine iteT ?_
      have : isFr d = false := by
        cases d <;> first | rfl | exact absurd rfl ht
      rw [this] at k
      exact k

end
end Lf

set_option Elab.async false
set_option linter.all false
set_option maxRecDepth 100000
set_option maxHeartbeats 4000000
set_option exponentiation.threshold 3000
namespace Lf
open PySem PySem.Spec PyProof.Rows L2
theorem sm_l {K : PySem.W.Frag} {H H' : Hp} {a : Addr} {xs : List V} (s : Same H H') (h : SqL K H a xs) : SqL K H' a xs := s.seq h
theorem small30 {n : Int} (h : 0 ≤ n) (h2 : n < 2147483648) : Sm n := Nat.lt_of_lt_of_le (show n.natAbs < 2 ^ 31 by omega) (Nat.pow_le_pow_right (by decide) (by decide))
section
variable {P : Program} {w : World} {K : PySem.W.Frag} {mg : Str → Option Value} {base : Heap}

/-! ### _law_cell -/
abbrev s__law_cell : Stmt := topS 38
theorem sc__law_cell : FnScope ["_law_script", "_law_k"] ["_law_script", "_law_k"] (defScope s__law_cell) := ⟨rfl, rfl, rfl, by decide +kernel, rfl, by decide +kernel, by decide +kernel⟩
def sp_cell (K : PySem.W.Frag) : Sp := fun vs H Q _ => ∃ (a : Addr) (ns : List Int) (k : Nat), vs = [.ref a, .int k] ∧ SqL K H a (ns.map V.int) ∧ k < 2 ^ 62 ∧ ∀ n : Int, Q (.int n) H
theorem ok_cell {f : Addr} {fd : FuncData} (M : Blt mg) (F : Fun K "_law_cell" "_law_cell" s__law_cell f fd) : FnG P w K mg base CX0 1 f fd ["_law_script", "_law_k"] (sp_cell K) := by
  refine Gfun F sc__law_cell (fun vs H Q E h => ?_) (fun cdv A outer s H vs Q E hg hr h => ?_)
  · obtain ⟨a, ns, k, rfl, _⟩ := h
    rfl
  · obtain ⟨a, ns, k, rfl, hS, hk, q⟩ := h
    refine ⟨_, (pss_one (ps_ret (pe_ifExp (pt_cmpR op_lt (pv 1) (pe_callB call_len_seq rfl M.len bt_len (pa_cons (pv 0) pa_nil)) (nomark _)) (pe_ix ix_list (pv 0) (pv 1) (fun _ _ => rfl)) pe_int))), ?_⟩
    refine ⟨_, rfl, _, rfl, a, _, rfl, .inl hS, _, _, rfl, rfl, _, rfl, ite2 (fun e => ?_) (fun e => ?_)⟩
    · have e' : (k : Int) < (((ns.map V.int).length : Nat) : Int) := of_decide_eq_true e
      rw [List.length_map] at e'
      have hlt : k < ns.length := by omega
      refine ⟨_, rfl, _, rfl, a, _, _, .int ns[k], rfl, rfl, hS, atI_nat ?_, q _⟩
      rw [List.getElem?_map, List.getElem?_eq_getElem hlt]
      rfl
    · exact q 0

/-! ### _law_pot -/
abbrev s__law_pot : Stmt := topS 39
theorem sc__law_pot : FnScope ["_law_cell_here"] ["_law_cell_here"] (defScope s__law_pot) := ⟨rfl, rfl, rfl, by decide +kernel, rfl, by decide +kernel, by decide +kernel⟩
def sp_pot : Sp := fun vs H Q _ => ∃ n : Int, vs = [.int n] ∧ ∀ (x y : Int) (p : Addr), 0 ≤ y → y < 2147483648 → H p = none → Q (.ref p) (upd H p (.lst [.int x, .int y]))
theorem ok_pot {f : Addr} {fd : FuncData} (M : Blt mg) (F : Fun K "_law_pot" "_law_pot" s__law_pot f fd) : FnG P w K mg base CX0 1 f fd ["_law_cell_here"] sp_pot := by
  refine Gfun F sc__law_pot (fun vs H Q E h => ?_) (fun cdv A outer s H vs Q E hg hr h => ?_)
  · obtain ⟨n, rfl, _⟩ := h
    rfl
  · obtain ⟨n, rfl, q⟩ := h
    refine ⟨_, (pss_one (ps_ret (pe_lst (pa_cons (pe_callB (call_max2 rfl) rfl M.max bt_max (pa_cons pe_int (pa_cons (pe_op op_sub (pv 0) (pe_op op_pow pe_int pe_int)) pa_nil))) (pa_cons (pe_op op_mod (pe_op op_add (pe_op op_mulW (pe_op op_mod (pv 0) pe_int) pe_int) pe_int) pe_int) pa_nil))))), ?_⟩
    refine ⟨_, rfl, 10, 18, rfl, rfl, ⟨by decide, by decide, by decide⟩, _, _, rfl, rfl, _, _, rfl, ?_⟩
    have h1 := Int.emod_nonneg n (show (2147483629 : Int) ≠ 0 by decide)
    have h2 := Int.emod_lt_of_pos n (show (0 : Int) < 2147483629 by decide)
    refine ⟨_, rfl, _, _, rfl, rfl, (by show (0 : Int) < 2147483629; decide), _, _, rfl, rfl, Sm.mulW (small30 h1 (by omega)) (small30 (by decide) (by decide)), _, _, rfl, rfl, _, _, rfl, rfl, (by show (0 : Int) < 2147483647; decide), lst2 fun p hp => ?_⟩
    have h3 := Int.emod_nonneg (n % 2147483629 * 48271 + 7919) (show (2147483647 : Int) ≠ 0 by decide)
    have h4 := Int.emod_lt_of_pos (n % 2147483629 * 48271 + 7919) (show (0 : Int) < 2147483647 by decide)
    exact q _ _ p h3 (by omega) hp

/-! ### _law_draw -/
abbrev s__law_draw : Stmt := topS 40
theorem sc__law_draw : FnScope ["_law_pot_here", "_law_many_here", "_law_digit"] ["_law_pot_here", "_law_many_here"] (defScope s__law_draw) := ⟨rfl, rfl, rfl, by decide +kernel, rfl, by decide +kernel, by decide +kernel⟩
/-- all but the pot at q stands as before -/
def But (q : Addr) (H H' : Hp) : Prop := ∀ b o, b ≠ q → H b = some o → H' b = some o
theorem But.rfl {q : Addr} {H : Hp} : But q H H := fun _ _ _ e => e
theorem But.trans {q : Addr} {H H1 H2 : Hp} (h : But q H H1) (k : But q H1 H2) : But q H H2 := fun b o n e => k b o n (h b o n e)
theorem But.same {q : Addr} {H H1 H2 : Hp} (h : But q H H1) (k : Same H1 H2) : But q H H2 := fun b o n e => k b o (h b o n e)
/-- a pot of draws at q -/
def Pot (H : Hp) (q : Addr) : Prop := ∃ x y : Int, 0 ≤ y ∧ y < 2147483648 ∧ H q = some (.lst [.int x, .int y])
def Drawn (H : Hp) (q : Addr) (Q : VK) (m : Int) : Prop := ∀ (r : Int) (H' : Hp), 0 ≤ r → r < m → Pot H' q → But q H H' → Q (.int r) H'
def sp_draw : Sp := fun vs H Q _ => ∃ (q : Addr) (m : Int), vs = [.ref q, .int m] ∧ 0 < m ∧ m.natAbs < 2 ^ 900 ∧ Pot H q ∧ Drawn H q Q m
theorem ok_draw {f : Addr} {fd : FuncData} (M : Blt mg) (F : Fun K "_law_draw" "_law_draw" s__law_draw f fd) : FnG P w K mg base CX0 1 f fd ["_law_pot_here", "_law_many_here"] sp_draw := by
  refine Gfun F sc__law_draw (fun vs H Q E h => ?_) (fun cdv A outer s H vs Q E hg hr h => ?_)
  · obtain ⟨q, m, rfl, _⟩ := h
    rfl
  · obtain ⟨q, m, rfl, hm, hm2, ⟨x, y, hy0, hy1, hP⟩, k⟩ := h
    refine ⟨_, (pss_cons (ps_if (pt_cmpR op_gt (pe_ix ix_list (pv 0) pe_int (fun _ _ => rfl)) pe_int (nomark _))
      (pss_cons (ps_asg (pe_callB call_divmodW rfl M.divmod bt_divmod (pa_cons (pe_ix ix_list (pv 0) pe_int (fun _ _ => rfl)) (pa_cons (pv 1) pa_nil))) (pg_tup rfl (pgs_cons (pg_sub (pv 0) pe_int set_list) (pgs_cons (pg_name (i := 2) sc__law_draw.nd rfl (.inl rfl)) pgs_nil))))
      (pss_one (ps_ret (pv 2))))
      pss_nil)
      (pss_cons (ps_asg (pe_op op_mod (pe_op op_add (pe_op op_mulW (pe_ix ix_list (pv 0) pe_int (fun _ _ => rfl)) pe_int) pe_int) pe_int) (pg_sub (pv 0) pe_int set_list))
      (pss_one (ps_ret (pe_op op_mod (pe_op op_fdivN (pe_op op_mod (pe_op op_mulW (pe_ix ix_list (pv 0) pe_int (fun _ _ => rfl)) (pe_ix ix_list (pv 0) pe_int (fun _ _ => rfl))) pe_int) pe_int) (pv 1)))))), ?_⟩
    refine ⟨_, rfl, q, _, _, _, rfl, rfl, .inl (.inl hP), rfl, _, _, rfl, rfl, _, rfl, ite2 (fun e => ?_) (fun e => ?_)⟩
    · refine ⟨_, rfl, q, _, _, _, rfl, rfl, .inl (.inl hP), rfl, _, rfl, x, m, rfl, ⟨hm, PyProof.noPylong_of_log2 (Nat.lt_of_lt_of_le (PySem.Flt.log2_lt_of (by decide) hm2) (by decide))⟩, fun p hp => ?_⟩
      have nq : q ≠ p := ne_of_none hP hp
      have hP2 : upd H p (.tup [.int (x / m), .int (x % m)]) q = some (.lst [.int x, .int y]) := by
        rw [upd_ne nq]
        exact hP
      refine ⟨p, _, rfl, .inl (.inl upd_same), rfl, _, _, rfl, ?_⟩
      refine ⟨_, rfl, q, _, _, _, rfl, rfl, hP2, rfl, ?_⟩
      refine ⟨_, _, rfl, rfl, ?_⟩
      refine ⟨_, rfl, k (x % m) _ (Int.emod_nonneg _ (by omega)) (Int.emod_lt_of_pos _ hm) ⟨x / m, y, hy0, hy1, upd_same⟩ fun b o nb eb => ?_⟩
      rw [upd_ne nb, upd_ne (ne_of_none eb hp)]
      exact eb
    · refine ⟨_, rfl, q, _, _, _, rfl, rfl, .inl (.inl hP), rfl, _, _, rfl, rfl, Sm.mulW (small30 hy0 hy1) (small30 (by decide) (by decide)), _, _, rfl, rfl, _, _, rfl, rfl, (by show (0 : Int) < 2147483587; decide), ?_⟩
      refine ⟨_, rfl, q, _, _, _, rfl, rfl, hP, rfl, ?_⟩
      have h3 := Int.emod_nonneg (y * 39373 + 8191) (show (2147483587 : Int) ≠ 0 by decide)
      have h4 := Int.emod_lt_of_pos (y * 39373 + 8191) (show (0 : Int) < 2147483587 by decide)
      have sz : Sm ((y * 39373 + 8191) % 2147483587) := small30 h3 (by omega)
      refine ⟨_, rfl, q, _, _, _, rfl, rfl, .inl (.inl upd_same), rfl, _, rfl, q, _, _, _, rfl, rfl, .inl (.inl upd_same), rfl, _, _, rfl, rfl, Sm.mulW sz sz, _, _, rfl, rfl, (by show (0 : Int) < 2147483543; decide), ?_⟩
      refine ⟨_, _, rfl, rfl, ⟨by decide, by decide⟩, _, rfl, _, _, rfl, rfl, hm, ?_⟩
      refine k _ _ (Int.emod_nonneg _ (by omega)) (Int.emod_lt_of_pos _ hm) ⟨x, _, h3, by omega, upd_same⟩ fun b o nb eb => ?_
      rw [upd_ne nb]
      exact eb

/-! ### _law_low -/
abbrev s__law_low : Stmt := topS 41
theorem sc__law_low : FnScope ["_law_top", "_law_bottom", "_law_one", "_law_other"] ["_law_top", "_law_bottom"] (defScope s__law_low) := ⟨rfl, rfl, rfl, by decide +kernel, rfl, by decide +kernel, by decide +kernel⟩
def sp_low : Sp := fun vs H Q _ => ∃ (n d : Int), vs = [.int n, .int d] ∧ d ≠ 0 ∧ Mid d ∧ Two H Q (low n d)
theorem ok_low {f : Addr} {fd : FuncData} (M : Blt mg) (F : Fun K "_law_low" "_law_low" s__law_low f fd) : FnG P w K mg base CX0 1 f fd ["_law_top", "_law_bottom"] sp_low := by
  refine Gfun F sc__law_low (fun vs H Q E h => ?_) (fun cdv A outer s H vs Q E hg hr h => ?_)
  · obtain ⟨n, d, rfl, _⟩ := h
    rfl
  · obtain ⟨n, d, rfl, hd, hd2, q⟩ := h
    refine ⟨_, (pss_cons (ps_par (i := 2) (j := 3) rfl sc__law_low.nd rfl rfl (by decide) rfl rfl (pa_cons (pe_callB call_abs rfl M.abs bt_abs (pa_cons (pv 0) pa_nil)) (pa_cons (pe_callB call_abs rfl M.abs bt_abs (pa_cons (pv 1) pa_nil)) pa_nil)) (by rfl))
      (pss_cons (ps_while PassesOwn.never (pt_cmpR op_gt (pv 3) pe_int (nomark _))
      (pss_one (ps_par (i := 2) (j := 3) rfl sc__law_low.nd rfl rfl (by decide) rfl rfl (pa_cons (pv 3) (pa_cons (pe_op op_mod (pv 2) (pv 3)) pa_nil)) (by rfl))))
      (pss_cons (ps_if (pt_cmpR op_lt (pv 1) pe_int (nomark _))
      (pss_one (ps_set (i := 2) sc__law_low.nd rfl (.inl rfl) (pe_un un_neg (pv 2))))
      pss_nil)
      (pss_one (ps_ret (pe_tup (pa_cons (pe_op op_fdivN (pv 0) (pv 2)) (pa_cons (pe_op op_fdivN (pv 1) (pv 2)) pa_nil)))))))), ?_⟩
    refine ⟨_, rfl, _, rfl, _, rfl, _, rfl, _, _, rfl, ?_⟩
    refine while_by (fun σ H' => ∃ x y : Int, σ = [some (.int n), some (.int d), some (.int x), some (.int y)] ∧ 0 ≤ x ∧ 0 ≤ y ∧ Nat.gcd x.natAbs y.natAbs = Nat.gcd n.natAbs d.natAbs ∧ H' = H)
      (fun σ _ => match σ with | [_, _, _, some (.int y)] => y.toNat | _ => 0) ⟨_, _, rfl, ?_, ?_, ?_, rfl⟩ ?_ ?_
    · rw [abs_is]
      omega
    · rw [abs_is]
      omega
    · rw [abs_is, abs_is, Int.natAbs_natCast, Int.natAbs_natCast]
    · rintro σ H1 ⟨x, y, rfl, hx, hy, hgc, rfl⟩
      refine ⟨_, rfl, _, _, rfl, rfl, _, rfl, ite2 (fun e => ?_) (fun e => ?_)⟩
      · have hyp : 0 < y := of_decide_eq_true e
        refine ⟨_, rfl, _, rfl, _, rfl, x, y, rfl, rfl, hyp, _, _, rfl, ⟨y, x % y, rfl, hy, Int.emod_nonneg _ (by omega), (gcd_step x y hyp hx).trans hgc, rfl⟩, ?_⟩
        show (x % y).toNat < y.toNat
        have := Int.emod_lt_of_pos x hyp
        omega
      · have hy0 : y = 0 := by
          have : ¬ 0 < y := fun z => e (decide_eq_true z)
          omega
        subst hy0
        rw [Int.natAbs_zero, Nat.gcd_zero_right] at hgc
        have ex : x = ((Nat.gcd n.natAbs d.natAbs : Nat) : Int) := by omega
        subst ex
        have hgz : ((Nat.gcd n.natAbs d.natAbs : Nat) : Int) ≠ 0 := by
          have := gcd_pos (n := n) hd
          omega
        have hlg := (gcd_mid (n := n) hd hd2).log
        refine ⟨_, rfl, _, _, rfl, rfl, _, rfl, ite2 (fun e => ?_) (fun e => ?_)⟩
        · have e' : d < 0 := of_decide_eq_true e
          have hm : ∀ i, CDivN i (-((Nat.gcd n.natAbs d.natAbs : Nat) : Int)) := fun i => ⟨by omega, by rw [Int.natAbs_neg]; exact hlg⟩
          refine ⟨_, rfl, _, rfl, _, rfl, _, rfl, n, _, rfl, rfl, hm n, _, rfl, _, rfl, d, _, rfl, rfl, hm d, (by show 2 ≤ sizeLine; decide), fun p hp => ?_⟩
          refine q _ p (same_new hp) ?_
          rw [← low_fdiv_neg (n := n) e']
          exact upd_same
        · have e' : 0 < d := by
            have : ¬ d < 0 := fun z => e (decide_eq_true z)
            omega
          have hm : ∀ i, CDivN i ((Nat.gcd n.natAbs d.natAbs : Nat) : Int) := fun i => ⟨hgz, hlg⟩
          refine ⟨_, rfl, _, rfl, n, _, rfl, rfl, hm n, _, rfl, _, rfl, d, _, rfl, rfl, hm d, (by show 2 ≤ sizeLine; decide), fun p hp => ?_⟩
          refine q _ p (same_new hp) ?_
          rw [← low_fdiv_pos (n := n) e']
          exact upd_same
    · rintro σ H1 Q1 Q2 hq ⟨u, hu, i, j, h1, h2, k, h3, h4⟩
      exact ⟨u, hu, i, j, h1, h2, k, h3, hq _ _ h4⟩

end
end Lf

set_option Elab.async false
set_option linter.all false
set_option maxRecDepth 100000
set_option maxHeartbeats 4000000
set_option exponentiation.threshold 3000
namespace Lf
open PySem PySem.Spec PyProof.Rows L2
theorem Bt.sm {k : Nat} {f : Int × Int} (h : Bt k f) (hk : k ≤ 900) : Sm f.1 ∧ Sm f.2 := ⟨(h.mono hk).1, (h.mono hk).2⟩
theorem pr_sq {K : PySem.W.Frag} {H : Hp} {p q : Addr} {f g : Int × Int} {j k : Nat} (hp : SqT K H p [.int f.1, .int f.2]) (hq : SqT K H q [.int g.1, .int g.2]) (hf : IsF f) (hg : IsF g) (bf : Bt j f) (bg : Bt k g) (hj : j ≤ 900) (hk : k ≤ 900) : Pr K H [.ref p, .ref q] f.1 f.2 g.1 g.2 :=
  ⟨⟨p, q, rfl, hp, hq⟩, hf.ne, hg.ne, (bf.sm hj).1, (bf.sm hj).2, (bg.sm hk).1, (bg.sm hk).2⟩
theorem pr_atk {K : PySem.W.Frag} {H : Hp} {v u : V} {f g : Int × Int} {j k : Nat} (hv : AtK K H v f) (hu : AtK K H u g) (hf : IsF f) (hg : IsF g) (bf : Bt j f) (bg : Bt k g) (hj : j ≤ 900) (hk : k ≤ 900) : Pr K H [v, u] f.1 f.2 g.1 g.2 := by
  obtain ⟨p, rfl, hp⟩ := hv
  obtain ⟨q, rfl, hq⟩ := hu
  exact pr_sq hp hq hf hg bf bg hj hk
section
variable {P : Program} {w : World} {K : PySem.W.Frag} {mg : Str → Option Value} {base : Heap}

/-! ### together -/
abbrev s_together : Stmt := topS 16
theorem sc_together : FnScope ["ones", "told", "one"] ["ones"] (defScope s_together) := ⟨rfl, rfl, rfl, by decide +kernel, rfl, by decide +kernel, by decide +kernel⟩
/-- fractions of a row, added up -/
def sp_togL (K : PySem.W.Frag) : Sp := fun vs H Q _ => ∃ (L : Addr) (xs : List V) (fs : List (Int × Int)) (b : Nat), vs = [.ref L] ∧ SqL K H L xs ∧ AtKs K H xs fs ∧ AllF fs ∧ AllB b fs ∧ b ≤ 900 ∧ 1 + (b + 1) * fs.length ≤ 900 ∧
  ∀ (H' : Hp) (v : V), Same H H' → AtK K H' v (fs.foldl fadd f0) → Q v H'
theorem ok_togL {f c0 : Addr} {fd : FuncData} (g0 : mg "NONE_OF_IT" = some (.ref c0)) (t0 : ∀ H, SqT K H c0 [.int 0, .int 1]) (F : Fun K "together" "together" s_together f fd) (C_plus : Cal P w K mg base CX0 5 "plus" ["one", "other"] (sp_plus K)) : FnG P w K mg base CX0 6 f fd ["ones"] (sp_togL K) := by
  refine Gfun F sc_together (fun vs H Q E h => ?_) (fun cdv A outer s H vs Q E hg hr h => ?_)
  · obtain ⟨L, xs, fs, b, rfl, _⟩ := h
    rfl
  · obtain ⟨L, xs, fs, b, rfl, hS, hA, hF, hB, hb8, hlen, k⟩ := h
    refine ⟨_, (pss_cons (ps_set (i := 1) sc_together.nd rfl (.inl rfl) (pe_glob (v := .ref c0) rfl g0 rfl))
      (pss_cons (ps_for PassesOwn.never rfl (pi_list (pv 0)) (pg_name (i := 2) sc_together.nd rfl (.inl rfl))
      (pss_one (ps_set (i := 1) sc_together.nd rfl (.inl rfl) (pe_g C_plus (hr.mono (by decide)) hg (pa_cons (pv 1) (pa_cons (pv 2) pa_nil))))))
      (pss_one (ps_ret (pv 1))))), ?_⟩
    refine ⟨_, rfl, L, rfl, ⟨_, hS⟩, for_list (K := K) (a := L) (xs := xs) (fun i σ H' => ∃ (v : Option V) (t : V), σ = [some (.ref L), some t, v] ∧ Same H H' ∧ AtK K H' t ((fs.take i).foldl fadd f0))
      ⟨none, .ref c0, rfl, same_rfl, ⟨c0, rfl, t0 H⟩⟩ (fun i σ H' _ ⟨_, _, _, sm, _⟩ => sm.seq hS) ?_ ?_⟩
    · rintro i x σ H' hi ⟨v, t, rfl, sm, ht⟩
      obtain ⟨g, hgi, hx0⟩ := hA.get hi
      have hx := hx0.same sm
      have hgf : IsF g := hF g (List.mem_of_getElem? hgi)
      have bg : Bt b g := hB g (List.mem_of_getElem? hgi)
      have hil : i < fs.length := (List.getElem?_eq_some_iff.mp hgi).1
      have htl : (fs.take i).length = i := by rw [List.length_take]; omega
      have hmn : (b + 1) * i ≤ (b + 1) * fs.length := Nat.mul_le_mul_left _ (Nat.le_of_lt hil)
      have fa := (sum_fold (fs.take i) f0 f0_f (take_all hF i)).1
      have ba := add_bt (b := b) (fs.take i) 1 f0 f0_f (take_all hF i) bt01.1 (fun f hf => hB f (List.mem_of_mem_take hf))
      rw [htl] at ba
      refine ⟨_, rfl, _, rfl, _, _, _, _, pr_atk ht hx fa hgf ba bg (by omega) hb8, fun H2 t' s2 e2 => ?_⟩
      refine ⟨some x, _, rfl, sm.trans s2, ?_⟩
      rw [fold_take _ _ hgi]
      exact AtK.of e2
    · rintro σ H' ⟨v, t, rfl, sm, ht⟩
      refine ⟨_, rfl, k H' t sm ?_⟩
      rw [hA.length, List.take_length] at ht
      exact ht

/-- fractions of a row, added up -/
def sp_togT (K : PySem.W.Frag) : Sp := fun vs H Q _ => ∃ (L : Addr) (xs : List V) (fs : List (Int × Int)) (b : Nat), vs = [.ref L] ∧ SqT K H L xs ∧ AtKs K H xs fs ∧ AllF fs ∧ AllB b fs ∧ b ≤ 900 ∧ 1 + (b + 1) * fs.length ≤ 900 ∧
  ∀ (H' : Hp) (v : V), Same H H' → AtK K H' v (fs.foldl fadd f0) → Q v H'
theorem ok_togT {f c0 : Addr} {fd : FuncData} (g0 : mg "NONE_OF_IT" = some (.ref c0)) (t0 : ∀ H, SqT K H c0 [.int 0, .int 1]) (F : Fun K "together" "together" s_together f fd) (C_plus : Cal P w K mg base CX0 5 "plus" ["one", "other"] (sp_plus K)) : FnG P w K mg base CX0 6 f fd ["ones"] (sp_togT K) := by
  refine Gfun F sc_together (fun vs H Q E h => ?_) (fun cdv A outer s H vs Q E hg hr h => ?_)
  · obtain ⟨L, xs, fs, b, rfl, _⟩ := h
    rfl
  · obtain ⟨L, xs, fs, b, rfl, hS, hA, hF, hB, hb8, hlen, k⟩ := h
    refine ⟨_, (pss_cons (ps_set (i := 1) sc_together.nd rfl (.inl rfl) (pe_glob (v := .ref c0) rfl g0 rfl))
      (pss_cons (ps_for PassesOwn.never rfl (pi_tup (pv 0)) (pg_name (i := 2) sc_together.nd rfl (.inl rfl))
      (pss_one (ps_set (i := 1) sc_together.nd rfl (.inl rfl) (pe_g C_plus (hr.mono (by decide)) hg (pa_cons (pv 1) (pa_cons (pv 2) pa_nil))))))
      (pss_one (ps_ret (pv 1))))), ?_⟩
    refine ⟨_, rfl, L, rfl, ⟨_, hS⟩, for_tup (K := K) (a := L) (xs := xs) (fun i σ H' => ∃ (v : Option V) (t : V), σ = [some (.ref L), some t, v] ∧ Same H H' ∧ AtK K H' t ((fs.take i).foldl fadd f0))
      ⟨none, .ref c0, rfl, same_rfl, ⟨c0, rfl, t0 H⟩⟩ (fun i σ H' _ ⟨_, _, _, sm, _⟩ => sm_t sm hS) ?_ ?_⟩
    · rintro i x σ H' hi ⟨v, t, rfl, sm, ht⟩
      obtain ⟨g, hgi, hx0⟩ := hA.get hi
      have hx := hx0.same sm
      have hgf : IsF g := hF g (List.mem_of_getElem? hgi)
      have bg : Bt b g := hB g (List.mem_of_getElem? hgi)
      have hil : i < fs.length := (List.getElem?_eq_some_iff.mp hgi).1
      have htl : (fs.take i).length = i := by rw [List.length_take]; omega
      have hmn : (b + 1) * i ≤ (b + 1) * fs.length := Nat.mul_le_mul_left _ (Nat.le_of_lt hil)
      have fa := (sum_fold (fs.take i) f0 f0_f (take_all hF i)).1
      have ba := add_bt (b := b) (fs.take i) 1 f0 f0_f (take_all hF i) bt01.1 (fun f hf => hB f (List.mem_of_mem_take hf))
      rw [htl] at ba
      refine ⟨_, rfl, _, rfl, _, _, _, _, pr_atk ht hx fa hgf ba bg (by omega) hb8, fun H2 t' s2 e2 => ?_⟩
      refine ⟨some x, _, rfl, sm.trans s2, ?_⟩
      rw [fold_take _ _ hgi]
      exact AtK.of e2
    · rintro σ H' ⟨v, t, rfl, sm, ht⟩
      refine ⟨_, rfl, k H' t sm ?_⟩
      rw [hA.length, List.take_length] at ht
      exact ht

end
end Lf

set_option Elab.async false
set_option linter.all false
set_option maxRecDepth 100000
set_option maxHeartbeats 4000000
set_option exponentiation.threshold 3000
namespace Lf
open PySem PySem.Spec PyProof.Rows L2
theorem bt_list : bootBuiltins "list" = some (.type "list") := by decide +kernel
/-- a statement that is never come to -/
theorem ps_dead {X : Cx} {st : Stmt} : PS X st (fun _ _ _ => False) := ⟨fun _ _ _ _ _ _ h => h.elim⟩
section
variable {P : Program} {w : World} {K : PySem.W.Frag} {mg : Str → Option Value} {base : Heap}
theorem isfr_t {f : Int × Int} (h : IsF f) : isFr (tD f) = true := by
  show (decide (0 < f.2) && decide (Nat.gcd f.1.natAbs f.2.natAbs = 1)) = true
  rw [decide_eq_true h.1, decide_eq_true h.2]
  rfl
theorem AtK.dq {H : Hp} {v : V} {f : Int × Int} (h : AtK K H v f) : Dq K H v (tD f) := by
  obtain ⟨p, rfl, hp⟩ := h
  exact .dp (dp2 hp) (by rfl)
/-- a row of fractions: a list or a tuple -/
def Sqx (T : Bool) (K : PySem.W.Frag) (H : Hp) (a : Addr) (xs : List V) : Prop := if T then SqT K H a xs else SqL K H a xs

/-! ### is_above_0 -/
abbrev s_is_above_0 : Stmt := topS 20
theorem sc_is_above_0 : FnScope ["thing"] ["thing"] (defScope s_is_above_0) := ⟨rfl, rfl, rfl, by decide +kernel, rfl, by decide +kernel, by decide +kernel⟩
def sp_ab0 (K : PySem.W.Frag) : Sp := fun vs H Q _ => ∃ (v : V) (f : Int × Int), vs = [v] ∧ AtK K H v f ∧ IsF f ∧ Q (.bl (decide (0 < f.1))) H
theorem ok_ab0 {f : Addr} {fd : FuncData} (F : Fun K "is_above_0" "is_above_0" s_is_above_0 f fd) (C_is_fraction : Cal P w K mg base CX0 2 "is_fraction" ["thing"] (sp_isfr K)) : FnG P w K mg base CX0 3 f fd ["thing"] (sp_ab0 K) := by
  refine Gfun F sc_is_above_0 (fun vs H Q E h => ?_) (fun cdv A outer s H vs Q E hg hr h => ?_)
  · obtain ⟨v, d, rfl, _⟩ := h
    rfl
  · obtain ⟨v, d, rfl, hv, hf, k⟩ := h
    refine ⟨_, (pss_one (ps_ret (pe_and (pe_g C_is_fraction (hr.mono (by decide)) hg (pa_cons (pv 0) pa_nil)) (pe_one (pe_cmpR op_gt (pe_ix ix_tup (pv 0) pe_int (fun _ _ => rfl)) pe_int (nomark _)))))), ?_⟩
    refine ⟨_, rfl, v, tD d, rfl, hv.dq, ?_⟩
    rw [isfr_t hf]
    refine ⟨_, rfl, iteT ?_⟩
    obtain ⟨p, rfl, hp⟩ := hv
    exact ⟨_, rfl, p, _, _, _, rfl, rfl, hp, atI_nat (j := 0) rfl, _, _, rfl, rfl, k⟩

/-! ### are_weights -/
abbrev s_are_weights : Stmt := topS 23
theorem sc_are_weights : FnScope ["thing", "one"] ["thing"] (defScope s_are_weights) := ⟨rfl, rfl, rfl, by decide +kernel, rfl, by decide +kernel, by decide +kernel⟩
def sp_arewL (K : PySem.W.Frag) : Sp := fun vs H Q _ => ∃ (a : Addr) (xs : List V) (fs : List (Int × Int)), vs = [.ref a] ∧ SqL K H a xs ∧ AtKs K H xs fs ∧ Wts fs ∧ ∀ H', Same H H' → Q (.bl true) H'
theorem ok_arewL {f : Addr} {fd : FuncData} {tk : Tok} (M : Blt mg) (Mx : Bltx mg) (ml : mg "list" = none) (G_MOST : mg "MOST_WEIGHTS" = some (.int 12 tk)) (F : Fun K "are_weights" "are_weights" s_are_weights f fd) (C_is_above_0 : Cal P w K mg base CX0 3 "is_above_0" ["thing"] (sp_ab0 K)) : FnG P w K mg base CX0 4 f fd ["thing"] (sp_arewL K) := by
  refine Gfun F sc_are_weights (fun vs H Q E h => ?_) (fun cdv A outer s H vs Q E hg hr h => ?_)
  · obtain ⟨a, xs, fs, rfl, _⟩ := h
    rfl
  · obtain ⟨a, xs, fs, rfl, hS, hA, hW, k⟩ := h
    refine ⟨_, (pss_cons (ps_if (PW.pt (pw_or (pt_not (pt_val (pe_callB call_isiT rfl Mx.isinstance bt_isinstance (pa_cons (pv 0) (pa_cons (pe_tup (pa_cons (pe_bltn (v := .ty "list") rfl ml bt_list rfl) (pa_cons (pe_bltn (v := .ty "tuple") rfl Mx.tuple bt_tuple rfl) pa_nil))) pa_nil))))) (pw_or1 (pt_not (pt_chain op_le op_le pe_int (pe_callB call_len_seq rfl M.len bt_len (pa_cons (pv 0) pa_nil)) (pe_glob (v := .int 12) rfl G_MOST ⟨_, rfl⟩))))))
      (pss_one (ps_ret pe_bl))
      pss_nil)
      (pss_one (ps_ret (pe_callB (cr_all rfl) rfl M.all bt_all (pa_cons (pe_lc (own := [("one", 1)]) (g := gName 1) (tt := tYes) rfl sc_are_weights.nd (pi_list (pv 0)) (blkOk_by (N := ["thing", "one"]) (sc := defScope s_are_weights) (by decide +kernel)) (fun _ _ _ _ _ => pg_name (i := 1) sc_are_weights.nd rfl (Or.inl rfl)) (fun _ _ _ _ _ => pts_nil) (fun _ _ _ _ _ => (pe_g C_is_above_0 (hr.mono (by decide)) hg (pa_cons (pv 1) pa_nil)))) pa_nil))))), ?_⟩
    refine ⟨_, rfl, len_show (Nat.le_of_ble_eq_true rfl), fun tp nt => ?_⟩
    have s1 : Same H (upd H tp (.tup [.ty "list", .ty "tuple"])) := same_new nt
    have ty : TyX K (upd H tp (.tup [.ty "list", .ty "tuple"])) (.ref a) (.type "list") := by
      rcases hS with (h | ⟨o, h⟩) | ⟨o, arr, n, hk, hc, _⟩
      · exact .base (.lst (same_new nt _ _ h))
      · exact .base (.frz (same_new nt _ _ h))
      · exact .kList hk hc
    refine ⟨_, tp, _, _, _, true, rfl, upd_same, .cons (.ty "list") (.cons (.ty "tuple") .nil), ty, kitAny_cons (kit_ty (show kitB "list" "list" = some true by decide +kernel)) (fun z => nomatch z) (fun _ => rfl), _, rfl, ?_⟩
    generalize upd H tp (.tup [.ty "list", .ty "tuple"]) = H1 at s1 ⊢
    refine iteF ?_
    have hl := hA.length
    have h1 := hW.one
    have h12 := hW.few
    refine ⟨_, rfl, a, xs, rfl, .inl (sm_l s1 hS), _, _, rfl, rfl, _, rfl, ?_⟩
    rw [decide_eq_true (show (1 : Int) ≤ (xs.length : Int) by omega)]
    refine iteT ⟨_, _, rfl, rfl, _, rfl, ?_⟩
    rw [decide_eq_true (show (xs.length : Int) ≤ 12 by omega)]
    refine iteF ?_
    refine ⟨_, rfl, a, rfl, ⟨_, sm_l s1 hS⟩, fun D hD => lc_list (xs := xs) (fun i H' => H' D = some (.lst (List.replicate i (.bl true))) ∧ Same H1 H') ⟨upd_same, same_new hD⟩ (fun i H' _ h => sm_l (s1.trans h.2) hS) ?_ ?_⟩
    · rintro i x H2 hx ⟨eD, sm⟩
      obtain ⟨g, hgi, hg0⟩ := hA.get hx
      have hw := hW.all g (List.mem_of_getElem? hgi)
      have hi : i < xs.length := (List.getElem?_eq_some_iff.mp hx).1
      refine ⟨rfl, _, rfl, x, g, rfl, hg0.same (s1.trans sm), hw.lo, ?_⟩
      rw [decide_eq_true hw.po]
      refine ⟨_, eD, ?_, ?_, fun b o e => ?_⟩
      · rw [List.length_replicate, sizeLine_eq]
        omega
      · rw [upd_same, List.replicate_succ']
      · rw [upd_ne (ne_of_none e hD)]
        exact sm _ _ e
    · rintro H2 ⟨eD, sm⟩
      refine ⟨D, List.replicate xs.length true, rfl, .inl (.inl ?_), ?_⟩
      · rw [eD, List.map_replicate]
      · have ha : (List.replicate xs.length true).all id = true := by
          rw [List.all_eq_true]
          intro b hb
          rw [(List.mem_replicate.mp hb).2]
          rfl
        rw [ha]
        exact k _ (s1.trans sm)

def sp_arewT (K : PySem.W.Frag) : Sp := fun vs H Q _ => ∃ (a : Addr) (xs : List V) (fs : List (Int × Int)), vs = [.ref a] ∧ SqT K H a xs ∧ AtKs K H xs fs ∧ Wts fs ∧ ∀ H', Same H H' → Q (.bl true) H'
theorem ok_arewT {f : Addr} {fd : FuncData} {tk : Tok} (M : Blt mg) (Mx : Bltx mg) (ml : mg "list" = none) (G_MOST : mg "MOST_WEIGHTS" = some (.int 12 tk)) (F : Fun K "are_weights" "are_weights" s_are_weights f fd) (C_is_above_0 : Cal P w K mg base CX0 3 "is_above_0" ["thing"] (sp_ab0 K)) : FnG P w K mg base CX0 4 f fd ["thing"] (sp_arewT K) := by
  refine Gfun F sc_are_weights (fun vs H Q E h => ?_) (fun cdv A outer s H vs Q E hg hr h => ?_)
  · obtain ⟨a, xs, fs, rfl, _⟩ := h
    rfl
  · obtain ⟨a, xs, fs, rfl, hS, hA, hW, k⟩ := h
    refine ⟨_, (pss_cons (ps_if (PW.pt (pw_or (pt_not (pt_val (pe_callB call_isiT rfl Mx.isinstance bt_isinstance (pa_cons (pv 0) (pa_cons (pe_tup (pa_cons (pe_bltn (v := .ty "list") rfl ml bt_list rfl) (pa_cons (pe_bltn (v := .ty "tuple") rfl Mx.tuple bt_tuple rfl) pa_nil))) pa_nil))))) (pw_or1 (pt_not (pt_chain op_le op_le pe_int (pe_callB call_len_seq rfl M.len bt_len (pa_cons (pv 0) pa_nil)) (pe_glob (v := .int 12) rfl G_MOST ⟨_, rfl⟩))))))
      (pss_one (ps_ret pe_bl))
      pss_nil)
      (pss_one (ps_ret (pe_callB (cr_all rfl) rfl M.all bt_all (pa_cons (pe_lc (own := [("one", 1)]) (g := gName 1) (tt := tYes) rfl sc_are_weights.nd (pi_tup (pv 0)) (blkOk_by (N := ["thing", "one"]) (sc := defScope s_are_weights) (by decide +kernel)) (fun _ _ _ _ _ => pg_name (i := 1) sc_are_weights.nd rfl (Or.inl rfl)) (fun _ _ _ _ _ => pts_nil) (fun _ _ _ _ _ => (pe_g C_is_above_0 (hr.mono (by decide)) hg (pa_cons (pv 1) pa_nil)))) pa_nil))))), ?_⟩
    refine ⟨_, rfl, len_show (Nat.le_of_ble_eq_true rfl), fun tp nt => ?_⟩
    have s1 : Same H (upd H tp (.tup [.ty "list", .ty "tuple"])) := same_new nt
    have ty : TyX K (upd H tp (.tup [.ty "list", .ty "tuple"])) (.ref a) (.type "tuple") := by
      rcases hS with (h | ⟨o, h⟩) | ⟨o, arr, n, hk, hc, _⟩
      · exact .base (.tup (same_new nt _ _ h))
      · exact .fTuple (same_new nt _ _ h)
      · exact .kTuple hk hc
    refine ⟨_, tp, _, _, _, true, rfl, upd_same, .cons (.ty "list") (.cons (.ty "tuple") .nil), ty, kitAny_cons (kit_ty (show kitB "tuple" "list" = some false by decide +kernel)) (fun _ => kitAny_cons (kit_ty (show kitB "tuple" "tuple" = some true by decide +kernel)) (fun z => nomatch z) (fun _ => rfl)) (fun z => nomatch z), _, rfl, ?_⟩
    generalize upd H tp (.tup [.ty "list", .ty "tuple"]) = H1 at s1 ⊢
    refine iteF ?_
    have hl := hA.length
    have h1 := hW.one
    have h12 := hW.few
    refine ⟨_, rfl, a, xs, rfl, .inr (sm_t s1 hS), _, _, rfl, rfl, _, rfl, ?_⟩
    rw [decide_eq_true (show (1 : Int) ≤ (xs.length : Int) by omega)]
    refine iteT ⟨_, _, rfl, rfl, _, rfl, ?_⟩
    rw [decide_eq_true (show (xs.length : Int) ≤ 12 by omega)]
    refine iteF ?_
    refine ⟨_, rfl, a, rfl, ⟨_, sm_t s1 hS⟩, fun D hD => lc_tup (xs := xs) (fun i H' => H' D = some (.lst (List.replicate i (.bl true))) ∧ Same H1 H') ⟨upd_same, same_new hD⟩ (fun i H' _ h => sm_t (s1.trans h.2) hS) ?_ ?_⟩
    · rintro i x H2 hx ⟨eD, sm⟩
      obtain ⟨g, hgi, hg0⟩ := hA.get hx
      have hw := hW.all g (List.mem_of_getElem? hgi)
      have hi : i < xs.length := (List.getElem?_eq_some_iff.mp hx).1
      refine ⟨rfl, _, rfl, x, g, rfl, hg0.same (s1.trans sm), hw.lo, ?_⟩
      rw [decide_eq_true hw.po]
      refine ⟨_, eD, ?_, ?_, fun b o e => ?_⟩
      · rw [List.length_replicate, sizeLine_eq]
        omega
      · rw [upd_same, List.replicate_succ']
      · rw [upd_ne (ne_of_none e hD)]
        exact sm _ _ e
    · rintro H2 ⟨eD, sm⟩
      refine ⟨D, List.replicate xs.length true, rfl, .inl (.inl ?_), ?_⟩
      · rw [eD, List.map_replicate]
      · have ha : (List.replicate xs.length true).all id = true := by
          rw [List.all_eq_true]
          intro b hb
          rw [(List.mem_replicate.mp hb).2]
          rfl
        rw [ha]
        exact k _ (s1.trans sm)

/-! ### floor_of -/
abbrev s_floor_of : Stmt := topS 18
theorem sc_floor_of : FnScope ["one"] ["one"] (defScope s_floor_of) := ⟨rfl, rfl, rfl, by decide +kernel, rfl, by decide +kernel, by decide +kernel⟩
def sp_floor (K : PySem.W.Frag) : Sp := fun vs H Q _ => ∃ (v : V) (f : Int × Int), vs = [v] ∧ AtK K H v f ∧ f.2 ≠ 0 ∧ Mid f.2 ∧ Q (.int (f.1.fdiv f.2)) H
theorem ok_floor {f : Addr} {fd : FuncData} (F : Fun K "floor_of" "floor_of" s_floor_of f fd) : FnG P w K mg base CX0 1 f fd ["one"] (sp_floor K) := by
  refine Gfun F sc_floor_of (fun vs H Q E h => ?_) (fun cdv A outer s H vs Q E hg hr h => ?_)
  · obtain ⟨v, d, rfl, _⟩ := h
    rfl
  · obtain ⟨v, d, rfl, hv, h0, hm, k⟩ := h
    refine ⟨_, (pss_one (ps_ret (pe_op op_fdivN (pe_ix ix_tup (pv 0) pe_int (fun _ _ => rfl)) (pe_ix ix_tup (pv 0) pe_int (fun _ _ => rfl))))), ?_⟩
    obtain ⟨p, rfl, hp⟩ := hv
    exact ⟨_, rfl, p, _, _, _, rfl, rfl, hp, atI_nat (j := 0) rfl, _, rfl, p, _, _, _, rfl, rfl, hp, atI_nat (j := 1) rfl, _, _, rfl, rfl, ⟨h0, hm.log⟩, k⟩

/-! ### many_steps -/
abbrev s_many_steps : Stmt := topS 25
theorem sc_many_steps : FnScope ["weights", "step", "many"] ["weights", "step"] (defScope s_many_steps) := ⟨rfl, rfl, rfl, by decide +kernel, rfl, by decide +kernel, by decide +kernel⟩
/-- how often the step goes in; C: the class of too little -/
def sp_manyL (K : PySem.W.Frag) (C : Addr) : Sp := fun vs H Q E => ∃ (a : Addr) (v : V) (xs : List V) (fs : List (Int × Int)) (st : Int × Int), vs = [.ref a, v] ∧ SqL K H a xs ∧ AtKs K H xs fs ∧ Wts fs ∧ AtK K H v st ∧ Wt st ∧
  ∀ H', Same H H' → (many fs st ≠ 0 → Q (.int (many fs st)) H') ∧ (many fs st = 0 → E (.ref C) none H')
theorem ok_manyL {f C : Addr} {fd : FuncData} (X : ExT K mg "TooLittle" C) (F : Fun K "many_steps" "many_steps" s_many_steps f fd) (C_are_weights : Cal P w K mg base CX0 4 "are_weights" ["thing"] (sp_arewL K)) (C_is_above_0 : Cal P w K mg base CX0 3 "is_above_0" ["thing"] (sp_ab0 K)) (C_together : Cal P w K mg base CX0 6 "together" ["ones"] (sp_togL K))
    (C_over : Cal P w K mg base CX0 5 "over" ["one", "other"] (sp_over K)) (C_floor_of : Cal P w K mg base CX0 1 "floor_of" ["one"] (sp_floor K)) : FnG P w K mg base (L2.CX P w) 7 f fd ["weights", "step"] (sp_manyL K C) := by
  refine GfunX F sc_many_steps (fun vs H Q E h => ?_) (fun cdv A outer s H vs Q E hg hr h => ?_)
  · obtain ⟨a, v, xs, fs, st, rfl, _⟩ := h
    rfl
  · obtain ⟨a, v, xs, fs, st, rfl, hS, hA, hW, hv, hs, k⟩ := h
    refine ⟨_, (pss_cons (ps_if (pt_not (pt_val (pe_g C_are_weights (hr.mono (by decide)) hg (pa_cons (pv 0) pa_nil))))
      (pss_one ps_dead)
      pss_nil)
      (pss_cons (ps_if (pt_not (pt_val (pe_g C_is_above_0 (hr.mono (by decide)) hg (pa_cons (pv 1) pa_nil))))
      (pss_one ps_dead)
      pss_nil)
      (pss_cons (ps_set (i := 2) sc_many_steps.nd rfl (.inl rfl) (pe_g C_floor_of (hr.mono (by decide)) hg (pa_cons (pe_g C_over (hr.mono (by decide)) hg (pa_cons (pe_g C_together (hr.mono (by decide)) hg (pa_cons (pv 0) pa_nil)) (pa_cons (pv 1) pa_nil))) pa_nil)))
      (pss_cons (ps_if (pt_cmpR op_eq (pv 2) pe_int (nomark _))
      (pss_one (ps_raise rfl (takes_of rfl rfl rfl rfl) (pmk_own PySem.F.excBase_ValueError X.x X.g X.k (raises_own X.b X.t) rfl)))
      pss_nil)
      (pss_one (ps_ret (pv 2))))))), ?_⟩
    refine ⟨_, rfl, a, xs, fs, rfl, hS, hA, hW, fun H1 s1 => ⟨_, rfl, iteF ?_⟩⟩
    refine ⟨_, rfl, v, st, rfl, hv.same s1, hs.lo, _, rfl, ?_⟩
    rw [decide_eq_true hs.po]
    refine iteF ?_
    refine ⟨_, rfl, a, xs, fs, 41, rfl, sm_l s1 hS, hA.same s1, hW.f, hW.b, by decide, ?_, fun H2 u s2 hu => ?_⟩
    · have := hW.few
      omega
    have hu' : AtK K H2 u (tot fs) := hu
    refine ⟨_, rfl, _, _, _, _, pr_atk hu' ((hv.same s1).same s2) (tot_f hW.f) hs.lo (tot_bt hW) hs.bt (by decide) (by decide), ?_, fun H3 p3 s3 e3 => ?_⟩
    · have := hs.po
      omega
    have hfd : IsF (fdiv (tot fs) st) := fdiv_f (tot_f hW.f) (by have := hs.po; omega)
    have hbd : Bt 546 (fdiv (tot fs) st) := fdiv_bt (tot_f hW.f) (by have := hs.po; omega) (tot_bt hW) hs.bt
    refine ⟨.ref p3, fdiv (tot fs) st, rfl, AtK.of e3, hfd.ne, Sm.mid (hbd.sm (by decide)).2, ?_⟩
    rw [many_is hW hs]
    have k3 := k H3 ((s1.trans s2).trans s3)
    refine ⟨_, rfl, rfl, _, rfl, ite2 (fun e => ?_) (fun e => ?_)⟩
    · exact k3.2 (V.int.inj (of_decide_eq_true e))
    · exact ⟨_, rfl, k3.1 fun z => e (by rw [z]; decide)⟩

/-- how often the step goes in; C: the class of too little -/
def sp_manyT (K : PySem.W.Frag) (C : Addr) : Sp := fun vs H Q E => ∃ (a : Addr) (v : V) (xs : List V) (fs : List (Int × Int)) (st : Int × Int), vs = [.ref a, v] ∧ SqT K H a xs ∧ AtKs K H xs fs ∧ Wts fs ∧ AtK K H v st ∧ Wt st ∧
  ∀ H', Same H H' → (many fs st ≠ 0 → Q (.int (many fs st)) H') ∧ (many fs st = 0 → E (.ref C) none H')
theorem ok_manyT {f C : Addr} {fd : FuncData} (X : ExT K mg "TooLittle" C) (F : Fun K "many_steps" "many_steps" s_many_steps f fd) (C_are_weights : Cal P w K mg base CX0 4 "are_weights" ["thing"] (sp_arewT K)) (C_is_above_0 : Cal P w K mg base CX0 3 "is_above_0" ["thing"] (sp_ab0 K)) (C_together : Cal P w K mg base CX0 6 "together" ["ones"] (sp_togT K))
    (C_over : Cal P w K mg base CX0 5 "over" ["one", "other"] (sp_over K)) (C_floor_of : Cal P w K mg base CX0 1 "floor_of" ["one"] (sp_floor K)) : FnG P w K mg base (L2.CX P w) 7 f fd ["weights", "step"] (sp_manyT K C) := by
  refine GfunX F sc_many_steps (fun vs H Q E h => ?_) (fun cdv A outer s H vs Q E hg hr h => ?_)
  · obtain ⟨a, v, xs, fs, st, rfl, _⟩ := h
    rfl
  · obtain ⟨a, v, xs, fs, st, rfl, hS, hA, hW, hv, hs, k⟩ := h
    refine ⟨_, (pss_cons (ps_if (pt_not (pt_val (pe_g C_are_weights (hr.mono (by decide)) hg (pa_cons (pv 0) pa_nil))))
      (pss_one ps_dead)
      pss_nil)
      (pss_cons (ps_if (pt_not (pt_val (pe_g C_is_above_0 (hr.mono (by decide)) hg (pa_cons (pv 1) pa_nil))))
      (pss_one ps_dead)
      pss_nil)
      (pss_cons (ps_set (i := 2) sc_many_steps.nd rfl (.inl rfl) (pe_g C_floor_of (hr.mono (by decide)) hg (pa_cons (pe_g C_over (hr.mono (by decide)) hg (pa_cons (pe_g C_together (hr.mono (by decide)) hg (pa_cons (pv 0) pa_nil)) (pa_cons (pv 1) pa_nil))) pa_nil)))
      (pss_cons (ps_if (pt_cmpR op_eq (pv 2) pe_int (nomark _))
      (pss_one (ps_raise rfl (takes_of rfl rfl rfl rfl) (pmk_own PySem.F.excBase_ValueError X.x X.g X.k (raises_own X.b X.t) rfl)))
      pss_nil)
      (pss_one (ps_ret (pv 2))))))), ?_⟩
    refine ⟨_, rfl, a, xs, fs, rfl, hS, hA, hW, fun H1 s1 => ⟨_, rfl, iteF ?_⟩⟩
    refine ⟨_, rfl, v, st, rfl, hv.same s1, hs.lo, _, rfl, ?_⟩
    rw [decide_eq_true hs.po]
    refine iteF ?_
    refine ⟨_, rfl, a, xs, fs, 41, rfl, sm_t s1 hS, hA.same s1, hW.f, hW.b, by decide, ?_, fun H2 u s2 hu => ?_⟩
    · have := hW.few
      omega
    have hu' : AtK K H2 u (tot fs) := hu
    refine ⟨_, rfl, _, _, _, _, pr_atk hu' ((hv.same s1).same s2) (tot_f hW.f) hs.lo (tot_bt hW) hs.bt (by decide) (by decide), ?_, fun H3 p3 s3 e3 => ?_⟩
    · have := hs.po
      omega
    have hfd : IsF (fdiv (tot fs) st) := fdiv_f (tot_f hW.f) (by have := hs.po; omega)
    have hbd : Bt 546 (fdiv (tot fs) st) := fdiv_bt (tot_f hW.f) (by have := hs.po; omega) (tot_bt hW) hs.bt
    refine ⟨.ref p3, fdiv (tot fs) st, rfl, AtK.of e3, hfd.ne, Sm.mid (hbd.sm (by decide)).2, ?_⟩
    rw [many_is hW hs]
    have k3 := k H3 ((s1.trans s2).trans s3)
    refine ⟨_, rfl, rfl, _, rfl, ite2 (fun e => ?_) (fun e => ?_)⟩
    · exact k3.2 (V.int.inj (of_decide_eq_true e))
    · exact ⟨_, rfl, k3.1 fun z => e (by rw [z]; decide)⟩

/-! ### aims -/
abbrev s_aims : Stmt := topS 26
theorem sc_aims : FnScope ["weights", "step", "factor", "weight"] ["weights", "step"] (defScope s_aims) := ⟨rfl, rfl, rfl, by decide +kernel, rfl, by decide +kernel, by decide +kernel⟩
/-- the aims, a new list -/
def sp_aimsL (K : PySem.W.Frag) (C : Addr) : Sp := fun vs H Q E => ∃ (a : Addr) (v : V) (xs : List V) (fs : List (Int × Int)) (st : Int × Int), vs = [.ref a, v] ∧ SqL K H a xs ∧ AtKs K H xs fs ∧ Wts fs ∧ AtK K H v st ∧ Wt st ∧
  (many fs st ≠ 0 → ∀ H' D ys, Same H H' → H D = none → H' D = some (.lst ys) → AtKs K (wo D H') ys (fs.map (aim fs st)) → Q (.ref D) H') ∧ (many fs st = 0 → ∀ H', Same H H' → E (.ref C) none H')
theorem ok_aimsL {f C : Addr} {fd : FuncData} (F : Fun K "aims" "aims" s_aims f fd) (C_many_steps : Cal P w K mg base (L2.CX P w) 7 "many_steps" ["weights", "step"] (sp_manyL K C)) (C_together : Cal P w K mg base CX0 6 "together" ["ones"] (sp_togL K))
    (C_over : Cal P w K mg base CX0 5 "over" ["one", "other"] (sp_over K)) (C_times : Cal P w K mg base CX0 5 "times" ["one", "other"] (sp_times K)) : FnG P w K mg base (L2.CX P w) 8 f fd ["weights", "step"] (sp_aimsL K C) := by
  refine GfunX F sc_aims (fun vs H Q E h => ?_) (fun cdv A outer s H vs Q E hg hr h => ?_)
  · obtain ⟨a, v, xs, fs, st, rfl, _⟩ := h
    rfl
  · obtain ⟨a, v, xs, fs, st, rfl, hS, hA, hW, hv, hs, k1, k2⟩ := h
    refine ⟨_, (pss_cons (ps_set (i := 2) sc_aims.nd rfl (.inr rfl) (pe_g C_over (hr.mono (by decide)) hg (pa_cons (pe_tup (pa_cons (pe_gS C_many_steps (hr.mono (by decide)) hg (fun σ => passAt (takes_of rfl rfl rfl rfl) σ) (pa_cons (pv 0) (pa_cons (pv 1) pa_nil))) (pa_cons pe_int pa_nil))) (pa_cons (pe_g C_together (hr.mono (by decide)) hg (pa_cons (pv 0) pa_nil)) pa_nil))))
      (pss_one (ps_ret (pe_lc (own := [("weight", 3)]) (g := gName 3) (tt := tYes) rfl sc_aims.nd (pi_list (pv 0)) (blkOk_by (N := ["weights", "step", "factor", "weight"]) (sc := defScope s_aims) (by decide +kernel)) (fun _ _ _ _ _ => pg_name (i := 3) sc_aims.nd rfl (Or.inl rfl)) (fun _ _ _ _ _ => pts_nil) (fun _ _ _ _ _ => (pe_g C_times (hr.mono (by decide)) hg (pa_cons (pv 3) (pa_cons (pv 2) pa_nil)))))))), ?_⟩
    refine ⟨_, rfl, _, rfl, a, v, xs, fs, st, rfl, hS, hA, hW, hv, hs, fun H1 s1 => ⟨fun hm => ?_, fun hm => k2 hm H1 s1⟩⟩
    refine ⟨len_show (Nat.le_of_ble_eq_true rfl), fun p2 n2 => ?_⟩
    have s2 : Same H1 (upd H1 p2 (.tup [.int (many fs st), .int 1])) := same_new n2
    have e2 : AtK K (upd H1 p2 (.tup [.int (many fs st), .int 1])) (.ref p2) (many fs st, 1) := AtK.of upd_same
    generalize upd H1 p2 (.tup [.int (many fs st), .int 1]) = H2 at s2 e2 ⊢
    have s02 := s1.trans s2
    refine ⟨_, rfl, a, xs, fs, 41, rfl, sm_l s02 hS, hA.same s02, hW.f, hW.b, by decide, ?_, fun H3 u s3 hu => ?_⟩
    · have := hW.few
      omega
    have hu' : AtK K H3 u (tot fs) := hu
    have tp := tot_pos hW
    refine ⟨_, _, _, _, pr_atk (e2.same s3) hu' (m1_f _) (tot_f hW.f) (many_bt hW hs) (tot_bt hW) (by decide) (by decide), ?_, fun H4 p4 s4 e4 => ?_⟩
    · omega
    have s04 := (s02.trans s3).trans s4
    have ef : AtK K H4 (.ref p4) (factor fs st) := AtK.of e4
    refine ⟨_, rfl, a, rfl, ⟨_, sm_l s04 hS⟩, fun D hD => lc_list (xs := xs) (fun i H' => (∃ ys, H' D = some (.lst ys) ∧ AtKs K (wo D H') ys ((fs.map (aim fs st)).take i)) ∧ Same H4 H') ⟨⟨[], upd_same, .nil⟩, same_new hD⟩ (fun i H' _ h => sm_l (s04.trans h.2) hS) ?_ ?_⟩
    · rintro i x H5 hx ⟨⟨ys, eD, hy⟩, sm⟩
      obtain ⟨g, hgi, hg0⟩ := hA.get hx
      have hw := hW.all g (List.mem_of_getElem? hgi)
      have hi : i < xs.length := (List.getElem?_eq_some_iff.mp hx).1
      have hl := hA.length
      have h12 := hW.few
      refine ⟨rfl, _, rfl, _, rfl, _, _, _, _, pr_atk (hg0.same (s04.trans sm)) (ef.same sm) hw.lo (factor_f hW) hw.bt (factor_bt hW hs) (by decide) (by decide), fun H6 p6 s6 e6 => ?_⟩
      have hyl := hy.length
      rw [List.length_take, List.length_map] at hyl
      have nD : p6 ≠ D := fun z => by
        rw [z, s6 _ _ eD] at e6
        cases e6
      refine ⟨ys, s6 _ _ eD, by rw [sizeLine_eq]; omega, ⟨ys ++ [.ref p6], upd_same, ?_⟩, fun b o e => ?_⟩
      · rw [List.take_add_one, List.getElem?_map, hgi]
        have s7 : Same (wo D H5) (wo D (upd H6 D (.lst (ys ++ [.ref p6])))) := fun b o e => wo_at (wo_not e) (by rw [upd_ne (wo_not e)]; exact s6 _ _ (wo_le _ _ e))
        refine (hy.same s7).app (.cons (AtK.of (wo_at nD ?_)) .nil)
        rw [upd_ne nD]
        exact e6
      · rw [upd_ne (ne_of_none e hD)]
        exact s6 _ _ (sm _ _ e)
    · rintro H5 ⟨⟨ys, eD, hy⟩, sm⟩
      rw [hA.length, show fs.length = (fs.map (aim fs st)).length from (List.length_map _).symm, List.take_length] at hy
      refine k1 hm H5 D ys (s04.trans sm) ?_ eD hy
      cases h : H D with
      | none => rfl
      | some o =>
        rw [s04 _ _ h] at hD
        cases hD

/-- the aims, a new list -/
def sp_aimsT (K : PySem.W.Frag) (C : Addr) : Sp := fun vs H Q E => ∃ (a : Addr) (v : V) (xs : List V) (fs : List (Int × Int)) (st : Int × Int), vs = [.ref a, v] ∧ SqT K H a xs ∧ AtKs K H xs fs ∧ Wts fs ∧ AtK K H v st ∧ Wt st ∧
  (many fs st ≠ 0 → ∀ H' D ys, Same H H' → H D = none → H' D = some (.lst ys) → AtKs K (wo D H') ys (fs.map (aim fs st)) → Q (.ref D) H') ∧ (many fs st = 0 → ∀ H', Same H H' → E (.ref C) none H')
theorem ok_aimsT {f C : Addr} {fd : FuncData} (F : Fun K "aims" "aims" s_aims f fd) (C_many_steps : Cal P w K mg base (L2.CX P w) 7 "many_steps" ["weights", "step"] (sp_manyT K C)) (C_together : Cal P w K mg base CX0 6 "together" ["ones"] (sp_togT K))
    (C_over : Cal P w K mg base CX0 5 "over" ["one", "other"] (sp_over K)) (C_times : Cal P w K mg base CX0 5 "times" ["one", "other"] (sp_times K)) : FnG P w K mg base (L2.CX P w) 8 f fd ["weights", "step"] (sp_aimsT K C) := by
  refine GfunX F sc_aims (fun vs H Q E h => ?_) (fun cdv A outer s H vs Q E hg hr h => ?_)
  · obtain ⟨a, v, xs, fs, st, rfl, _⟩ := h
    rfl
  · obtain ⟨a, v, xs, fs, st, rfl, hS, hA, hW, hv, hs, k1, k2⟩ := h
    refine ⟨_, (pss_cons (ps_set (i := 2) sc_aims.nd rfl (.inr rfl) (pe_g C_over (hr.mono (by decide)) hg (pa_cons (pe_tup (pa_cons (pe_gS C_many_steps (hr.mono (by decide)) hg (fun σ => passAt (takes_of rfl rfl rfl rfl) σ) (pa_cons (pv 0) (pa_cons (pv 1) pa_nil))) (pa_cons pe_int pa_nil))) (pa_cons (pe_g C_together (hr.mono (by decide)) hg (pa_cons (pv 0) pa_nil)) pa_nil))))
      (pss_one (ps_ret (pe_lc (own := [("weight", 3)]) (g := gName 3) (tt := tYes) rfl sc_aims.nd (pi_tup (pv 0)) (blkOk_by (N := ["weights", "step", "factor", "weight"]) (sc := defScope s_aims) (by decide +kernel)) (fun _ _ _ _ _ => pg_name (i := 3) sc_aims.nd rfl (Or.inl rfl)) (fun _ _ _ _ _ => pts_nil) (fun _ _ _ _ _ => (pe_g C_times (hr.mono (by decide)) hg (pa_cons (pv 3) (pa_cons (pv 2) pa_nil)))))))), ?_⟩
    refine ⟨_, rfl, _, rfl, a, v, xs, fs, st, rfl, hS, hA, hW, hv, hs, fun H1 s1 => ⟨fun hm => ?_, fun hm => k2 hm H1 s1⟩⟩
    refine ⟨len_show (Nat.le_of_ble_eq_true rfl), fun p2 n2 => ?_⟩
    have s2 : Same H1 (upd H1 p2 (.tup [.int (many fs st), .int 1])) := same_new n2
    have e2 : AtK K (upd H1 p2 (.tup [.int (many fs st), .int 1])) (.ref p2) (many fs st, 1) := AtK.of upd_same
    generalize upd H1 p2 (.tup [.int (many fs st), .int 1]) = H2 at s2 e2 ⊢
    have s02 := s1.trans s2
    refine ⟨_, rfl, a, xs, fs, 41, rfl, sm_t s02 hS, hA.same s02, hW.f, hW.b, by decide, ?_, fun H3 u s3 hu => ?_⟩
    · have := hW.few
      omega
    have hu' : AtK K H3 u (tot fs) := hu
    have tp := tot_pos hW
    refine ⟨_, _, _, _, pr_atk (e2.same s3) hu' (m1_f _) (tot_f hW.f) (many_bt hW hs) (tot_bt hW) (by decide) (by decide), ?_, fun H4 p4 s4 e4 => ?_⟩
    · omega
    have s04 := (s02.trans s3).trans s4
    have ef : AtK K H4 (.ref p4) (factor fs st) := AtK.of e4
    refine ⟨_, rfl, a, rfl, ⟨_, sm_t s04 hS⟩, fun D hD => lc_tup (xs := xs) (fun i H' => (∃ ys, H' D = some (.lst ys) ∧ AtKs K (wo D H') ys ((fs.map (aim fs st)).take i)) ∧ Same H4 H') ⟨⟨[], upd_same, .nil⟩, same_new hD⟩ (fun i H' _ h => sm_t (s04.trans h.2) hS) ?_ ?_⟩
    · rintro i x H5 hx ⟨⟨ys, eD, hy⟩, sm⟩
      obtain ⟨g, hgi, hg0⟩ := hA.get hx
      have hw := hW.all g (List.mem_of_getElem? hgi)
      have hi : i < xs.length := (List.getElem?_eq_some_iff.mp hx).1
      have hl := hA.length
      have h12 := hW.few
      refine ⟨rfl, _, rfl, _, rfl, _, _, _, _, pr_atk (hg0.same (s04.trans sm)) (ef.same sm) hw.lo (factor_f hW) hw.bt (factor_bt hW hs) (by decide) (by decide), fun H6 p6 s6 e6 => ?_⟩
      have hyl := hy.length
      rw [List.length_take, List.length_map] at hyl
      have nD : p6 ≠ D := fun z => by
        rw [z, s6 _ _ eD] at e6
        cases e6
      refine ⟨ys, s6 _ _ eD, by rw [sizeLine_eq]; omega, ⟨ys ++ [.ref p6], upd_same, ?_⟩, fun b o e => ?_⟩
      · rw [List.take_add_one, List.getElem?_map, hgi]
        have s7 : Same (wo D H5) (wo D (upd H6 D (.lst (ys ++ [.ref p6])))) := fun b o e => wo_at (wo_not e) (by rw [upd_ne (wo_not e)]; exact s6 _ _ (wo_le _ _ e))
        refine (hy.same s7).app (.cons (AtK.of (wo_at nD ?_)) .nil)
        rw [upd_ne nD]
        exact e6
      · rw [upd_ne (ne_of_none e hD)]
        exact s6 _ _ (sm _ _ e)
    · rintro H5 ⟨⟨ys, eD, hy⟩, sm⟩
      rw [hA.length, show fs.length = (fs.map (aim fs st)).length from (List.length_map _).symm, List.take_length] at hy
      refine k1 hm H5 D ys (s04.trans sm) ?_ eD hy
      cases h : H D with
      | none => rfl
      | some o =>
        rw [s04 _ _ h] at hD
        cases hD

end
end Lf

set_option Elab.async false
set_option linter.all false
set_option maxRecDepth 100000
set_option maxHeartbeats 4000000
set_option exponentiation.threshold 3000
namespace Lf
open PySem PySem.Spec PyProof.Rows L2
theorem bt_sum : bootBuiltins "sum" = some (.builtin "sum") := by decide +kernel
section
variable {P : Program} {w : World} {K : PySem.W.Frag} {mg : Str → Option Value} {base : Heap}
/-- a row, list or tuple -/
def SqX (K : PySem.W.Frag) (H : Hp) (a : Addr) (xs : List V) : Prop := SqL K H a xs ∨ SqT K H a xs
theorem sm_x {H H' : Hp} {a : Addr} {xs : List V} (s : Same H H') (h : SqX K H a xs) : SqX K H' a xs := h.elim (fun h => .inl (sm_l s h)) fun h => .inr (sm_t s h)
/-- weights and a step that goes into them -/
structure Fit (K : PySem.W.Frag) (H : Hp) (a : Addr) (v : V) (xs : List V) (fs : List (Int × Int)) (st : Int × Int) : Prop where
  sq : SqX K H a xs
  at_ : AtKs K H xs fs
  w : Wts fs
  av : AtK K H v st
  s : Wt st
  m : many fs st ≠ 0
theorem Fit.same {H H' : Hp} {a : Addr} {v : V} {xs : List V} {fs : List (Int × Int)} {st : Int × Int} (s : Same H H') (h : Fit K H a v xs fs st) : Fit K H' a v xs fs st := ⟨sm_x s h.sq, h.at_.same s, h.w, h.av.same s, h.s, h.m⟩
def sp_manyX (K : PySem.W.Frag) : Sp := fun vs H Q _ => ∃ (a : Addr) (v : V) (xs : List V) (fs : List (Int × Int)) (st : Int × Int), vs = [.ref a, v] ∧ Fit K H a v xs fs st ∧ ∀ H', Same H H' → Q (.int (many fs st)) H'
theorem ok_manyX {f C : Addr} {fd : FuncData} {k : Nat} {ps : List Str} (F : FnG P w K mg base (L2.CX P w) k f fd ps (sp_manyL K C)) (G : FnG P w K mg base (L2.CX P w) k f fd ps (sp_manyT K C)) : FnG P w K mg base CX0 k f fd ps (sp_manyX K) := by
  refine (F.calm.or G.calm).imp fun vs H Q E h => ?_
  obtain ⟨a, v, xs, fs, st, e, T, k⟩ := h
  rcases T.sq with z | z
  · exact .inl ⟨a, v, xs, fs, st, e, z, T.at_, T.w, T.av, T.s, fun H' s => ⟨fun _ => k H' s, fun z => absurd z T.m⟩⟩
  · exact .inr ⟨a, v, xs, fs, st, e, z, T.at_, T.w, T.av, T.s, fun H' s => ⟨fun _ => k H' s, fun z => absurd z T.m⟩⟩
def sp_aimsX (K : PySem.W.Frag) : Sp := fun vs H Q _ => ∃ (a : Addr) (v : V) (xs : List V) (fs : List (Int × Int)) (st : Int × Int), vs = [.ref a, v] ∧ Fit K H a v xs fs st ∧ ∀ H' D ys, Same H H' → H D = none → H' D = some (.lst ys) → AtKs K (wo D H') ys (aimsF fs st) → Q (.ref D) H'
theorem ok_aimsX {f C : Addr} {fd : FuncData} {k : Nat} {ps : List Str} (F : FnG P w K mg base (L2.CX P w) k f fd ps (sp_aimsL K C)) (G : FnG P w K mg base (L2.CX P w) k f fd ps (sp_aimsT K C)) : FnG P w K mg base CX0 k f fd ps (sp_aimsX K) := by
  refine (F.calm.or G.calm).imp fun vs H Q E h => ?_
  obtain ⟨a, v, xs, fs, st, e, T, k⟩ := h
  rcases T.sq with z | z
  · exact .inl ⟨a, v, xs, fs, st, e, z, T.at_, T.w, T.av, T.s, fun _ => k, fun z => absurd z T.m⟩
  · exact .inr ⟨a, v, xs, fs, st, e, z, T.at_, T.w, T.av, T.s, fun _ => k, fun z => absurd z T.m⟩
def sp_togX (K : PySem.W.Frag) : Sp := fun vs H Q _ => ∃ (a : Addr) (xs : List V) (fs : List (Int × Int)), vs = [.ref a] ∧ SqX K H a xs ∧ AtKs K H xs fs ∧ Wts fs ∧ ∀ H' v, Same H H' → AtK K H' v (tot fs) → Q v H'
theorem ok_togX {f : Addr} {fd : FuncData} {k : Nat} {ps : List Str} (F : FnG P w K mg base CX0 k f fd ps (sp_togL K)) (G : FnG P w K mg base CX0 k f fd ps (sp_togT K)) : FnG P w K mg base CX0 k f fd ps (sp_togX K) := by
  refine (F.or G).imp fun vs H Q E h => ?_
  obtain ⟨a, xs, fs, e, hS, hA, W, k⟩ := h
  have h12 := W.few
  rcases hS with z | z
  · exact .inl ⟨a, xs, fs, 41, e, z, hA, W.f, W.b, by decide, by omega, k⟩
  · exact .inr ⟨a, xs, fs, 41, e, z, hA, W.f, W.b, by decide, by omega, k⟩
/-- an aim -/
structure Am (f : Int × Int) : Prop where
  lo : IsF f
  nn : 0 ≤ f.1
  bt : Bt 636 f
theorem aims_am {fs : List (Int × Int)} {st : Int × Int} (W : Wts fs) (hs : Wt st) : ∀ f ∈ aimsF fs st, Am f := by
  intro f hf
  obtain ⟨g, hg, rfl⟩ := List.mem_map.mp hf
  exact ⟨aim_f W (W.all g hg), aim_nn W hs (W.all g hg), aim_bt W hs (W.all g hg)⟩
theorem aims_len (fs : List (Int × Int)) (st : Int × Int) : (aimsF fs st).length = fs.length := List.length_map _

/-! ### above_floor -/
abbrev s_above_floor : Stmt := topS 24
theorem sc_above_floor : FnScope ["one"] ["one"] (defScope s_above_floor) := ⟨rfl, rfl, rfl, by decide +kernel, rfl, by decide +kernel, by decide +kernel⟩
def sp_above (K : PySem.W.Frag) : Sp := fun vs H Q _ => ∃ (v : V) (f : Int × Int), vs = [v] ∧ AtK K H v f ∧ Am f ∧ ∀ H' p, Same H H' → H' p = some (.tup [.int (rst f).1, .int (rst f).2]) → Q (.ref p) H'
theorem ok_above {f : Addr} {fd : FuncData} (F : Fun K "above_floor" "above_floor" s_above_floor f fd) (C_floor_of : Cal P w K mg base CX0 1 "floor_of" ["one"] (sp_floor K)) (C_minus : Cal P w K mg base CX0 5 "minus" ["one", "other"] (sp_minus K)) : FnG P w K mg base CX0 6 f fd ["one"] (sp_above K) := by
  refine Gfun F sc_above_floor (fun vs H Q E h => ?_) (fun cdv A outer s H vs Q E hg hr h => ?_)
  · obtain ⟨v, g, rfl, _⟩ := h
    rfl
  · obtain ⟨v, g, rfl, hv, am, k⟩ := h
    refine ⟨_, (pss_one (ps_ret (pe_g C_minus (hr.mono (by decide)) hg (pa_cons (pv 0) (pa_cons (pe_tup (pa_cons (pe_g C_floor_of (hr.mono (by decide)) hg (pa_cons (pv 0) pa_nil)) (pa_cons pe_int pa_nil))) pa_nil))))), ?_⟩
    refine ⟨_, rfl, _, rfl, v, g, rfl, hv, am.lo.ne, Sm.mid (am.bt.sm (by decide)).2, len_show (Nat.le_of_ble_eq_true rfl), fun p1 n1 => ?_⟩
    have s1 : Same H (L2.upd H p1 (.tup [.int (g.1.fdiv g.2), .int 1])) := same_new n1
    have a1 : AtK K (L2.upd H p1 (.tup [.int (g.1.fdiv g.2), .int 1])) (.ref p1) (fl g, 1) := AtK.of upd_same
    generalize L2.upd H p1 (.tup [.int (g.1.fdiv g.2), .int 1]) = H1 at s1 a1 ⊢
    exact ⟨_, _, _, _, pr_atk (hv.same s1) a1 am.lo (m1_f _) am.bt (fl_bt am.lo am.nn am.bt (by decide)) (by decide) (by decide), fun H2 p2 s2 e2 => k H2 p2 (s1.trans s2) e2⟩

/-! ### how_many_more -/
abbrev s_how_many_more : Stmt := topS 27
theorem sc_how_many_more : FnScope ["weights", "step", "floors", "aim"] ["weights", "step"] (defScope s_how_many_more) := ⟨rfl, rfl, rfl, by decide +kernel, rfl, by decide +kernel, by decide +kernel⟩
def sp_more (K : PySem.W.Frag) : Sp := fun vs H Q _ => ∃ (a : Addr) (v : V) (xs : List V) (fs : List (Int × Int)) (st : Int × Int), vs = [.ref a, v] ∧ Fit K H a v xs fs st ∧ ∀ H', Same H H' → Q (.int (more fs st)) H'
theorem ok_more {f : Addr} {fd : FuncData} (msum : mg "sum" = none) (F : Fun K "how_many_more" "how_many_more" s_how_many_more f fd) (C_floor_of : Cal P w K mg base CX0 1 "floor_of" ["one"] (sp_floor K)) (C_aims : Cal P w K mg base CX0 8 "aims" ["weights", "step"] (sp_aimsX K)) (C_many_steps : Cal P w K mg base CX0 7 "many_steps" ["weights", "step"] (sp_manyX K)) : FnG P w K mg base CX0 9 f fd ["weights", "step"] (sp_more K) := by
  refine Gfun F sc_how_many_more (fun vs H Q E h => ?_) (fun cdv A outer s H vs Q E hg hr h => ?_)
  · obtain ⟨a, v, xs, fs, st, rfl, _⟩ := h
    rfl
  · obtain ⟨a, v, xs, fs, st, rfl, T, k⟩ := h
    refine ⟨_, (pss_cons (ps_setLc (i := 2) (own := [("aim", 3)]) (g := gName 3) (tt := tYes) rfl sc_how_many_more.nd rfl rfl (sw_true rfl rfl rfl (by decide +kernel)) (pi_list (pe_g C_aims (hr.mono (by decide)) hg (pa_cons (pv 0) (pa_cons (pv 1) pa_nil)))) (blkOk_by (N := ["weights", "step", "floors", "aim"]) (sc := defScope s_how_many_more) (by decide +kernel)) (fun _ _ _ _ _ => pg_name (i := 3) sc_how_many_more.nd rfl (Or.inl rfl)) (fun _ _ _ _ _ => pts_nil) (fun _ _ _ _ _ => (pe_g C_floor_of (hr.mono (by decide)) hg (pa_cons (pv 3) pa_nil))))
      (pss_one (ps_ret (pe_op op_sub (pe_g C_many_steps (hr.mono (by decide)) hg (pa_cons (pv 0) (pa_cons (pv 1) pa_nil))) (pe_callB (cr_sum rfl) rfl msum bt_sum (pa_cons (pv 2) pa_nil)))))), ?_⟩
    refine ⟨_, rfl, _, rfl, a, v, xs, fs, st, rfl, T, fun H1 D ys s1 nD eD hy => ?_⟩
    have am := aims_am T.w T.s
    have hyl := hy.length
    rw [aims_len] at hyl
    have h12 := T.w.few
    refine ⟨D, rfl, ⟨_, .inl (.inl eD)⟩, fun D2 hD2 => lc_list (xs := ys) (fun i H' => H' D2 = some (.lst ((((aimsF fs st).map fl).take i).map V.int)) ∧ Same H1 H') ⟨upd_same, same_new hD2⟩ (fun i H' _ h => sm_l h.2 (.inl (.inl eD))) ?_ ?_⟩
    · rintro i x H2 hx ⟨e2, s2⟩
      obtain ⟨g, hgi, hg0⟩ := hy.get hx
      have ag := am g (List.mem_of_getElem? hgi)
      refine ⟨rfl, _, rfl, x, g, rfl, (hg0.same wo_le).same s2, ag.lo.ne, Sm.mid (ag.bt.sm (by decide)).2, _, e2, ?_, ?_, fun b o e => ?_⟩
      · rw [List.length_map, List.length_take, List.length_map, aims_len, sizeLine_eq]
        omega
      · rw [upd_same, List.take_add_one, List.getElem?_map, hgi, List.map_append]
        rfl
      · rw [upd_ne (ne_of_none e hD2)]
        exact s2 _ _ e
    · rintro H2 ⟨e2, s2⟩
      rw [show ys.length = ((aimsF fs st).map fl).length by rw [List.length_map, aims_len, hyl], List.take_length] at e2
      have s02 := s1.trans s2
      refine ⟨_, rfl, _, rfl, a, v, xs, fs, st, rfl, T.same s02, fun H3 s3 => ⟨_, rfl, D2, _, rfl, .inl (.inl (s3 _ _ e2)), _, _, rfl, rfl, k H3 (s02.trans s3)⟩⟩

/-! ### is_sooner -/
abbrev s_is_sooner : Stmt := topS 28
theorem sc_is_sooner : FnScope ["aboves", "one", "other"] ["aboves", "one", "other"] (defScope s_is_sooner) := ⟨rfl, rfl, rfl, by decide +kernel, rfl, by decide +kernel, by decide +kernel⟩
def sp_sooner (K : PySem.W.Frag) : Sp := fun vs H Q _ => ∃ (L : Addr) (i j : Nat) (xs : List V) (rs : List (Int × Int)), vs = [.ref L, .int i, .int j] ∧ SqL K H L xs ∧ AtKs K H xs rs ∧ AllF rs ∧ AllB 636 rs ∧ i < rs.length ∧ j < rs.length ∧ Q (.bl (soon rs i j)) H
theorem getD_of {rs : List (Int × Int)} {i : Nat} {g : Int × Int} (h : rs[i]? = some g) : rs.getD i f0 = g := by rw [List.getD_eq_getElem?_getD, h]; rfl
theorem ok_sooner {f : Addr} {fd : FuncData} (F : Fun K "is_sooner" "is_sooner" s_is_sooner f fd) (C_is_less : Cal P w K mg base CX0 1 "is_less" ["one", "other"] (sp_is_less K)) : FnG P w K mg base CX0 2 f fd ["aboves", "one", "other"] (sp_sooner K) := by
  refine Gfun F sc_is_sooner (fun vs H Q E h => ?_) (fun cdv A outer s H vs Q E hg hr h => ?_)
  · obtain ⟨L, i, j, xs, rs, rfl, _⟩ := h
    rfl
  · obtain ⟨L, i, j, xs, rs, rfl, hS, hA, hF, hB, hi, hj, k⟩ := h
    refine ⟨_, (pss_cons (ps_if (pt_cmpR (op_eqD hr.units) (pe_ix ix_list (pv 0) (pv 1) (fun _ _ => rfl)) (pe_ix ix_list (pv 0) (pv 2) (fun _ _ => rfl)) (nomark _))
      (pss_one (ps_ret (pe_cmpR op_lt (pv 1) (pv 2) (nomark _))))
      pss_nil)
      (pss_one (ps_ret (pe_g C_is_less (hr.mono (by decide)) hg (pa_cons (pe_ix ix_list (pv 0) (pv 2) (fun _ _ => rfl)) (pa_cons (pe_ix ix_list (pv 0) (pv 1) (fun _ _ => rfl)) pa_nil)))))), ?_⟩
    obtain ⟨gi, hgi⟩ : ∃ g, rs[i]? = some g := ⟨_, List.getElem?_eq_getElem hi⟩
    obtain ⟨gj, hgj⟩ : ∃ g, rs[j]? = some g := ⟨_, List.getElem?_eq_getElem hj⟩
    obtain ⟨vi, hvi, ai⟩ := hA.getF hgi
    obtain ⟨vj, hvj, aj⟩ := hA.getF hgj
    have fi := hF gi (List.mem_of_getElem? hgi)
    have fj := hF gj (List.mem_of_getElem? hgj)
    have bi := hB gi (List.mem_of_getElem? hgi)
    have bj := hB gj (List.mem_of_getElem? hgj)
    unfold soon at k
    rw [getD_of hgi, getD_of hgj] at k
    refine ⟨_, rfl, _, rfl, L, xs, _, _, rfl, rfl, hS, atI_nat hvi, _, rfl, _, rfl, L, xs, _, _, rfl, rfl, hS, atI_nat hvj, _, _, ai.dp, aj.dp, tD_shaped _, tD_shaped _, _, rfl, ?_⟩
    rw [eqv_tD]
    refine ite2 (fun e => ?_) (fun e => ?_)
    · rw [if_pos (of_decide_eq_true e)] at k
      refine ⟨_, rfl, _, rfl, _, _, rfl, rfl, ?_⟩
      have e2 : decide ((i : Int) < (j : Int)) = decide (i < j) := by
        by_cases z : i < j
        · rw [decide_eq_true z, decide_eq_true (by omega)]
        · rw [decide_eq_false z, decide_eq_false (by omega)]
      show Q (.bl (decide ((i : Int) < (j : Int)))) H
      rw [e2]
      exact k
    · rw [if_neg (fun z => e (decide_eq_true z))] at k
      exact ⟨_, rfl, _, rfl, L, xs, _, _, rfl, rfl, hS, atI_nat hvj, _, rfl, _, rfl, L, xs, _, _, rfl, rfl, hS, atI_nat hvi, _, _, _, _, pr_atk aj ai fj fi bj bi (by decide) (by decide), k⟩

/-! ### are_sooner -/
abbrev s_are_sooner : Stmt := topS 29
theorem sc_are_sooner : FnScope ["aboves", "place", "other"] ["aboves", "place"] (defScope s_are_sooner) := ⟨rfl, rfl, rfl, by decide +kernel, rfl, by decide +kernel, by decide +kernel⟩
def sp_aresooner (K : PySem.W.Frag) : Sp := fun vs H Q _ => ∃ (L : Addr) (j : Nat) (xs : List V) (rs : List (Int × Int)), vs = [.ref L, .int j] ∧ SqL K H L xs ∧ AtKs K H xs rs ∧ AllF rs ∧ AllB 636 rs ∧ rs.length ≤ 12 ∧ j < rs.length ∧ ∀ H', Same H H' → Q (.int (ahead rs j : Nat)) H'
theorem filt_step {n : Nat} {p : Nat → Bool} : (List.range (n + 1)).filter p = (List.range n).filter p ++ (if p n = true then [n] else []) := by
  rw [List.range_succ, List.filter_append]
  by_cases h : p n = true
  · rw [if_pos h]
    simp [h]
  · rw [if_neg h]
    simp [h]
theorem ok_aresooner {f : Addr} {fd : FuncData} (M : Blt mg) (F : Fun K "are_sooner" "are_sooner" s_are_sooner f fd) (C_is_sooner : Cal P w K mg base CX0 2 "is_sooner" ["aboves", "one", "other"] (sp_sooner K)) : FnG P w K mg base CX0 3 f fd ["aboves", "place"] (sp_aresooner K) := by
  refine Gfun F sc_are_sooner (fun vs H Q E h => ?_) (fun cdv A outer s H vs Q E hg hr h => ?_)
  · obtain ⟨L, j, xs, rs, rfl, _⟩ := h
    rfl
  · obtain ⟨L, j, xs, rs, rfl, hS, hA, hF, hB, h12, hj, k⟩ := h
    refine ⟨_, (pss_one (ps_ret (pe_callB call_len_seq rfl M.len bt_len (pa_cons (pe_lc (own := [("other", 2)]) (g := gName 2) rfl sc_are_sooner.nd (pi_range1 rfl M.range (pa_cons (pe_callB call_len_seq rfl M.len bt_len (pa_cons (pv 0) pa_nil)) pa_nil)) (blkOk_by (N := ["aboves", "place", "other"]) (sc := defScope s_are_sooner) (by decide +kernel)) (fun _ _ _ _ _ => pg_name (i := 2) sc_are_sooner.nd rfl (Or.inl rfl)) (fun _ _ _ _ _ => (pts_one (pt_val (pe_g C_is_sooner (hr.mono (by decide)) hg (pa_cons (pv 0) (pa_cons (pv 2) (pa_cons (pv 1) pa_nil))))))) (fun _ _ _ _ _ => (pv 2))) pa_nil)))), ?_⟩
    have hl := hA.length
    refine ⟨_, rfl, L, xs, rfl, .inl hS, _, rfl, by omega, by omega, fun D hD => ?_⟩
    refine lc_range (lo := 0) (n := Int.toNat (xs.length : Int)) (fun i H' => H' D = some (.lst (((List.range i).filter fun o => soon rs o j).map fun o : Nat => V.int (o : Int))) ∧ Same H H') ⟨upd_same, same_new hD⟩ ?_ ?_
    · rintro i H1 hi ⟨eD, sm⟩
      have hi' : i < rs.length := by omega
      refine ⟨rfl, _, rfl, _, rfl, _, rfl, L, i, j, xs, rs, (by show [V.ref L, V.int (0 + (i : Int)), V.int (j : Int)] = _; rw [Int.zero_add]), sm_l sm hS, hA.same sm, hF, hB, hi', hj, _, rfl, ?_⟩
      by_cases hb : soon rs i j = true
      · rw [hb]
        refine iteT ⟨_, rfl, _, eD, ?_, ?_, fun b o e => ?_⟩
        · rw [List.length_map, sizeLine_eq]
          have := List.length_filter_le (fun o => soon rs o j) (List.range i)
          rw [List.length_range] at this
          omega
        · rw [upd_same, filt_step, if_pos hb, List.map_append, Int.zero_add]
          rfl
        · rw [upd_ne (ne_of_none e hD)]
          exact sm _ _ e
      · have hb' : soon rs i j = false := by cases h : soon rs i j <;> simp_all
        rw [hb']
        refine iteF ⟨?_, sm⟩
        rw [eD, filt_step, if_neg hb, List.append_nil]
    · rintro H1 ⟨eD, sm⟩
      refine ⟨D, _, rfl, .inl (.inl (.inl eD)), ?_⟩
      have e : Int.toNat (xs.length : Int) = rs.length := by omega
      rw [List.length_map, e]
      exact k _ sm

end
end Lf

set_option Elab.async false
set_option linter.all false
set_option maxRecDepth 100000
set_option maxHeartbeats 4000000
set_option exponentiation.threshold 3000
namespace Lf
open PySem PySem.Spec PyProof.Rows L2
section
variable {P : Program} {w : World} {K : PySem.W.Frag} {mg : Str → Option Value} {base : Heap}

/-! ### nearest -/
abbrev s_nearest : Stmt := topS 30
theorem sc_nearest : FnScope ["weights", "step", "goals", "counted", "aboves", "more", "place", "aim"] ["weights", "step"] (defScope s_nearest) := ⟨rfl, rfl, rfl, by decide +kernel, rfl, by decide +kernel, by decide +kernel⟩
def sp_nearest (K : PySem.W.Frag) : Sp := fun vs H Q _ => ∃ (a : Addr) (v : V) (xs : List V) (fs : List (Int × Int)) (st : Int × Int), vs = [.ref a, v] ∧ Fit K H a v xs fs st ∧ ∀ H' D, Same H H' → H D = none → H' D = some (.lst ((cnt fs st).map V.int)) → Q (.ref D) H'
theorem AtK.updL {H : Hp} {L : Addr} {xs ys : List V} {v : V} {f : Int × Int} (hL : H L = some (.lst xs)) (h : AtK K H v f) : AtK K (L2.upd H L (.lst ys)) v f := by
  obtain ⟨p, e, h⟩ := h
  refine ⟨p, e, ?_⟩
  rcases h with (h | ⟨ob, h⟩) | h
  · exact .inl (.inl (by rw [upd_ne (fun z => by rw [z, hL] at h; cases h)]; exact h))
  · exact .inl (.inr ⟨ob, by rw [upd_ne (fun z => by rw [z, hL] at h; cases h)]; exact h⟩)
  · exact .inr h
theorem ok_nearest {f : Addr} {fd : FuncData} (M : Blt mg) (F : Fun K "nearest" "nearest" s_nearest f fd) (C_floor_of : Cal P w K mg base CX0 1 "floor_of" ["one"] (sp_floor K)) (C_above_floor : Cal P w K mg base CX0 6 "above_floor" ["one"] (sp_above K)) (C_aims : Cal P w K mg base CX0 8 "aims" ["weights", "step"] (sp_aimsX K)) (C_how_many_more : Cal P w K mg base CX0 9 "how_many_more" ["weights", "step"] (sp_more K)) (C_are_sooner : Cal P w K mg base CX0 3 "are_sooner" ["aboves", "place"] (sp_aresooner K)) : FnG P w K mg base CX0 10 f fd ["weights", "step"] (sp_nearest K) := by
  refine Gfun F sc_nearest (fun vs H Q E h => ?_) (fun cdv A outer s H vs Q E hg hr h => ?_)
  · obtain ⟨a, v, xs, fs, st, rfl, _⟩ := h
    rfl
  · obtain ⟨a, v, xs, fs, st, rfl, T, k⟩ := h
    refine ⟨_, (pss_cons (ps_set (i := 2) sc_nearest.nd rfl (.inl rfl) (pe_g C_aims (hr.mono (by decide)) hg (pa_cons (pv 0) (pa_cons (pv 1) pa_nil))))
      (pss_cons (ps_setLc (i := 3) (own := [("aim", 7)]) (g := gName 7) (tt := tYes) rfl sc_nearest.nd rfl rfl (sw_true rfl rfl rfl (by decide +kernel)) (pi_list (pv 2)) (blkOk_by (N := ["weights", "step", "goals", "counted", "aboves", "more", "place", "aim"]) (sc := defScope s_nearest) (by decide +kernel)) (fun _ _ _ _ _ => pg_name (i := 7) sc_nearest.nd rfl (Or.inl rfl)) (fun _ _ _ _ _ => pts_nil) (fun _ _ _ _ _ => (pe_g C_floor_of (hr.mono (by decide)) hg (pa_cons (pv 7) pa_nil))))
      (pss_cons (ps_setLc (i := 4) (own := [("aim", 7)]) (g := gName 7) (tt := tYes) rfl sc_nearest.nd rfl rfl (sw_true rfl rfl rfl (by decide +kernel)) (pi_list (pv 2)) (blkOk_by (N := ["weights", "step", "goals", "counted", "aboves", "more", "place", "aim"]) (sc := defScope s_nearest) (by decide +kernel)) (fun _ _ _ _ _ => pg_name (i := 7) sc_nearest.nd rfl (Or.inl rfl)) (fun _ _ _ _ _ => pts_nil) (fun _ _ _ _ _ => (pe_g C_above_floor (hr.mono (by decide)) hg (pa_cons (pv 7) pa_nil))))
      (pss_cons (ps_set (i := 5) sc_nearest.nd rfl (.inl rfl) (pe_g C_how_many_more (hr.mono (by decide)) hg (pa_cons (pv 0) (pa_cons (pv 1) pa_nil))))
      (pss_cons (ps_for PassesOwn.never rfl (pi_range1 rfl M.range (pa_cons (pe_callB call_len_seq rfl M.len bt_len (pa_cons (pv 2) pa_nil)) pa_nil)) (pg_name (i := 6) sc_nearest.nd rfl (.inl rfl))
      (pss_one (ps_if (pt_cmpR op_lt (pe_g C_are_sooner (hr.mono (by decide)) hg (pa_cons (pv 4) (pa_cons (pv 6) pa_nil))) (pv 5) (nomark _))
      (pss_one (ps_augS (pv 3) (pv 6) get_listN pe_int ip_add set_list))
      pss_nil)))
      (pss_one (ps_ret (pv 3)))))))), ?_⟩
    have am := aims_am T.w T.s
    have h12 := T.w.few
    refine ⟨_, rfl, _, rfl, a, v, xs, fs, st, rfl, T, fun H1 D ys s1 nD eD hy => ?_⟩
    have hyl := hy.length
    rw [aims_len] at hyl
    have hyH : AtKs K H1 ys (aimsF fs st) := hy.same wo_le
    -- the floors
    refine ⟨_, rfl, D, rfl, ⟨_, .inl (.inl eD)⟩, fun D2 hD2 => lc_list (xs := ys) (fun i H' => H' D2 = some (.lst ((((aimsF fs st).map fl).take i).map V.int)) ∧ Same H1 H') ⟨upd_same, same_new hD2⟩ (fun i H' _ h => sm_l h.2 (.inl (.inl eD))) ?_ ?_⟩
    · rintro i x H2 hx ⟨e2, s2⟩
      obtain ⟨g, hgi, hg0⟩ := hyH.get hx
      have ag := am g (List.mem_of_getElem? hgi)
      refine ⟨rfl, _, rfl, x, g, rfl, hg0.same s2, ag.lo.ne, Sm.mid (ag.bt.sm (by decide)).2, _, e2, ?_, ?_, fun b o e => ?_⟩
      · rw [List.length_map, List.length_take, List.length_map, aims_len, sizeLine_eq]
        omega
      · rw [upd_same, List.take_add_one, List.getElem?_map, hgi, List.map_append]
        rfl
      · rw [upd_ne (ne_of_none e hD2)]
        exact s2 _ _ e
    · rintro H2 ⟨e2, s2⟩
      rw [show ys.length = ((aimsF fs st).map fl).length by rw [List.length_map, aims_len, hyl], List.take_length, ← part_0] at e2
      have nD2 : H D2 = none := same_none s1 hD2
      -- what is above them
      refine ⟨_, rfl, D, rfl, ⟨_, .inl (.inl (s2 _ _ eD))⟩, fun D3 hD3 => lc_list (xs := ys) (fun i H' => (∃ zs, H' D3 = some (.lst zs) ∧ AtKs K (wo D3 H') zs (((aimsF fs st).map rst).take i)) ∧ Same H2 H') ⟨⟨[], upd_same, .nil⟩, same_new hD3⟩ (fun i H' _ h => sm_l (s2.trans h.2) (.inl (.inl eD))) ?_ ?_⟩
      · rintro i x H3 hx ⟨⟨zs, e3, hz⟩, s3⟩
        obtain ⟨g, hgi, hg0⟩ := hyH.get hx
        have ag := am g (List.mem_of_getElem? hgi)
        refine ⟨rfl, _, rfl, x, g, rfl, hg0.same (s2.trans s3), ag, fun H4 p4 s4 e4 => ?_⟩
        have hzl := hz.length
        rw [List.length_take, List.length_map, aims_len] at hzl
        have n4 : p4 ≠ D3 := fun z => by
          rw [z, s4 _ _ e3] at e4
          cases e4
        refine ⟨zs, s4 _ _ e3, by rw [sizeLine_eq]; omega, ⟨zs ++ [.ref p4], upd_same, ?_⟩, fun b o e => ?_⟩
        · rw [List.take_add_one, List.getElem?_map, hgi]
          have s7 : Same (wo D3 H3) (wo D3 (L2.upd H4 D3 (.lst (zs ++ [.ref p4])))) := fun b o e => wo_at (wo_not e) (by rw [upd_ne (wo_not e)]; exact s4 _ _ (wo_le _ _ e))
          refine (hz.same s7).app (.cons (AtK.of (wo_at n4 ?_)) .nil)
          rw [upd_ne n4]
          exact e4
        · rw [upd_ne (ne_of_none e hD3)]
          exact s4 _ _ (s3 _ _ e)
      · rintro H3 ⟨⟨zs, e3, hz⟩, s3⟩
        rw [show ys.length = ((aimsF fs st).map rst).length by rw [List.length_map, aims_len, hyl], List.take_length] at hz
        have hzH : AtKs K H3 zs ((aimsF fs st).map rst) := hz.same wo_le
        have s03 := (s1.trans s2).trans s3
        refine ⟨_, rfl, _, rfl, a, v, xs, fs, st, rfl, T.same s03, fun H4 s4 => ?_⟩
        have s04 := s03.trans s4
        have e24 : H4 D2 = some (.lst ((part fs st 0).map V.int)) := s4 _ _ (s3 _ _ e2)
        have e34 := s4 _ _ e3
        have eD4 : H4 D = some (.lst ys) := s4 _ _ (s3 _ _ (s2 _ _ eD))
        have hz4 : AtKs K H4 zs ((aimsF fs st).map rst) := hzH.same s4
        have ne32 : D3 ≠ D2 := fun z => by
          rw [z, e2] at hD3
          cases hD3
        have rF : AllF ((aimsF fs st).map rst) := fun g hg => by
          obtain ⟨y, hy, rfl⟩ := List.mem_map.mp hg
          exact rst_f (am y hy).lo
        have rB : AllB 636 ((aimsF fs st).map rst) := fun g hg => by
          obtain ⟨y, hy, rfl⟩ := List.mem_map.mp hg
          exact rst_bt (am y hy).lo (am y hy).bt
        have rl : ((aimsF fs st).map rst).length = fs.length := by rw [List.length_map, aims_len]
        refine ⟨_, rfl, D, ys, rfl, .inl (.inl (.inl eD4)), _, rfl, by omega, by omega, ?_⟩
        refine for_range (lo := 0) (n := Int.toNat (ys.length : Int)) (fun i σ H' => ∃ (y5 y6 : Option V), σ = [some (.ref a), some v, some (.ref D), some (.ref D2), some (.ref D3), some (.int (more fs st)), y5, y6] ∧ H' D2 = some (.lst ((part fs st i).map V.int)) ∧ H' D3 = some (.lst zs) ∧ AtKs K H' zs ((aimsF fs st).map rst) ∧ Same H H') ⟨_, _, rfl, e24, e34, hz4, s04⟩ ?_ ?_
        · rintro i σ H5 hi ⟨y5, y6, rfl, e5, f5, hz5, s5⟩
          have hi' : i < fs.length := by omega
          refine ⟨_, rfl, _, rfl, D3, i, zs, _, (by show [V.ref D3, V.int (0 + (i : Int))] = _; rw [Int.zero_add]), .inl (.inl f5), hz5, rF, rB, by omega, by omega, fun H6 s6 => ⟨_, rfl, _, _, rfl, rfl, _, rfl, ite2 (fun e => ?_) (fun e => ?_)⟩⟩
          · have hlt : (ahead ((aimsF fs st).map rst) i : Int) < more fs st := of_decide_eq_true e
            have hc : cntAt fs st i = fl ((aimsF fs st).getD i f0) + 1 := by
              unfold cntAt
              rw [if_pos hlt]
            have hget : ((part fs st i).map V.int)[i]? = some (.int (fl ((aimsF fs st).getD i f0))) := by
              rw [List.getElem?_map, part_get hi', if_neg (Nat.lt_irrefl i)]
              rfl
            refine ⟨_, rfl, _, rfl, D2, _, i, _, rfl, (by rw [Int.zero_add]), .inl (.inl (s6 _ _ e5)), hget, by omega, ?_⟩
            refine ⟨_, _, rfl, rfl, D2, _, _, i, rfl, rfl, s6 _ _ e5, ?_, ?_⟩
            · rw [Int.zero_add]
              unfold ixN
              have h1 : ¬ (i : Int) < 0 := by omega
              simp [h1, part_len, hi']
            refine ⟨_, _, rfl, ?_, ?_, ?_, fun b o eb => ?_⟩
            · rw [upd_same, part_set hi', hc, List.map_set]
            · rw [upd_ne ne32]
              exact s6 _ _ f5
            · exact (hz5.same s6).map fun _ _ => AtK.updL (s6 _ _ e5)
            · rw [upd_ne (ne_of_none eb nD2)]
              exact s6 _ _ (s5 _ _ eb)
          · have hlt : ¬ (ahead ((aimsF fs st).map rst) i : Int) < more fs st := fun z => e (decide_eq_true z)
            have hc : cntAt fs st i = fl ((aimsF fs st).getD i f0) := by
              unfold cntAt
              rw [if_neg hlt, Int.add_zero]
            refine ⟨_, _, rfl, ?_, s6 _ _ f5, hz5.same s6, s5.trans s6⟩
            rw [part_stay hc]
            exact s6 _ _ e5
        · rintro σ H5 ⟨y5, y6, rfl, e5, f5, hz5, s5⟩
          rw [show Int.toNat (ys.length : Int) = fs.length by omega, part_n] at e5
          exact ⟨_, rfl, k H5 D2 s5 nD2 e5⟩

end
end Lf

set_option Elab.async false
set_option linter.all false
set_option maxRecDepth 100000
set_option maxHeartbeats 4000000
set_option exponentiation.threshold 3000
namespace Lf
open PySem PySem.Spec PyProof.Rows L2
section
variable {P : Program} {w : World} {K : PySem.W.Frag} {mg : Str → Option Value} {base : Heap}

/-! ### worst_of -/
abbrev s_worst_of : Stmt := topS 31
theorem sc_worst_of : FnScope ["weights", "step", "counted", "worst", "aim", "count", "top", "bottom"] ["weights", "step", "counted"] (defScope s_worst_of) := ⟨rfl, rfl, rfl, by decide +kernel, rfl, by decide +kernel, by decide +kernel⟩
def sp_worst (K : PySem.W.Frag) : Sp := fun vs H Q _ => ∃ (a Lc : Addr) (v : V) (xs : List V) (fs : List (Int × Int)) (st : Int × Int) (cs : List Int), vs = [.ref a, v, .ref Lc] ∧ Fit K H a v xs fs st ∧ SqL K H Lc (cs.map V.int) ∧ cs.length = fs.length ∧ Near 640 (aimsF fs st) cs ∧ ∀ H' u, Same H H' → AtK K H' u (worst (aimsF fs st) cs) → Q u H'
theorem ok_worst {f c0 : Addr} {fd : FuncData} (M : Blt mg) (Mz : mg "zip" = none) (g0 : mg "NONE_OF_IT" = some (.ref c0)) (t0 : ∀ H, SqT K H c0 [.int 0, .int 1]) (F : Fun K "worst_of" "worst_of" s_worst_of f fd) (C_aims : Cal P w K mg base CX0 8 "aims" ["weights", "step"] (sp_aimsX K)) (C_minus : Cal P w K mg base CX0 5 "minus" ["one", "other"] (sp_minus K)) (C_is_less : Cal P w K mg base CX0 1 "is_less" ["one", "other"] (sp_is_less K)) : FnG P w K mg base CX0 9 f fd ["weights", "step", "counted"] (sp_worst K) := by
  refine Gfun F sc_worst_of (fun vs H Q E h => ?_) (fun cdv A outer s H vs Q E hg hr h => ?_)
  · obtain ⟨a, Lc, v, xs, fs, st, cs, rfl, _⟩ := h
    rfl
  · obtain ⟨a, Lc, v, xs, fs, st, cs, rfl, T, hC, hcl, hN, k⟩ := h
    refine ⟨_, (pss_cons (ps_set (i := 3) sc_worst_of.nd rfl (.inl rfl) (pe_glob (v := .ref c0) rfl g0 rfl))
      (pss_cons (ps_for PassesOwn.never rfl (RZ.pi_zipA rfl Mz (pa_cons (pe_g C_aims (hr.mono (by decide)) hg (pa_cons (pv 0) (pa_cons (pv 1) pa_nil))) (pa_cons (pv 2) pa_nil))) (pg_tup rfl (pgs_cons (pg_name (i := 4) sc_worst_of.nd rfl (.inl rfl)) (pgs_cons (pg_name (i := 5) sc_worst_of.nd rfl (.inl rfl)) pgs_nil)))
      (pss_cons (ps_asg (pe_g C_minus (hr.mono (by decide)) hg (pa_cons (pe_tup (pa_cons (pv 5) (pa_cons pe_int pa_nil))) (pa_cons (pv 4) pa_nil))) (pg_tup rfl (pgs_cons (pg_name (i := 6) sc_worst_of.nd rfl (.inl rfl)) (pgs_cons (pg_name (i := 7) sc_worst_of.nd rfl (.inl rfl)) pgs_nil))))
      (pss_one (ps_if (pt_val (pe_g C_is_less (hr.mono (by decide)) hg (pa_cons (pv 3) (pa_cons (pe_tup (pa_cons (pe_callB call_abs rfl M.abs bt_abs (pa_cons (pv 6) pa_nil)) (pa_cons (pv 7) pa_nil))) pa_nil))))
      (pss_one (ps_set (i := 3) sc_worst_of.nd rfl (.inl rfl) (pe_tup (pa_cons (pe_callB call_abs rfl M.abs bt_abs (pa_cons (pv 6) pa_nil)) (pa_cons (pv 7) pa_nil)))))
      pss_nil))))
      (pss_one (ps_ret (pv 3))))), ?_⟩
    have am := aims_am T.w T.s
    have aF : AllF (aimsF fs st) := fun f hf => (am f hf).lo
    refine ⟨_, rfl, _, rfl, a, v, xs, fs, st, rfl, T, fun H1 D ys s1 nD eD hy => ?_⟩
    have hyl := hy.length
    rw [aims_len] at hyl
    have hyH : AtKs K H1 ys (aimsF fs st) := hy.same wo_le
    have hn : fs.length = min ys.length (cs.map V.int).length := by
      rw [List.length_map]
      omega
    refine ⟨_, rfl, D, Lc, ys, cs.map V.int, rfl, .inl ⟨.inl (.inl eD), sm_l s1 hC, for_it (walk_zip (xs := ys) (ys := cs.map V.int) hn) (fun i σ H' => ∃ (y1 y2 y3 y4 : Option V) (tv : V), σ = [some (.ref a), some v, some (.ref Lc), some tv, y1, y2, y3, y4] ∧ Same H1 H' ∧ AtK K H' tv ((((aimsF fs st).zip cs).take i).foldl wst f0))
      ⟨_, _, _, _, .ref c0, rfl, same_rfl, ⟨c0, rfl, t0 H1⟩⟩ (fun i σ H' _ ⟨_, _, _, _, _, _, sm, _⟩ => ⟨.inl (.inl (sm _ _ eD)), sm_l (s1.trans sm) hC⟩) ?_ ?_⟩⟩
    · rintro i x σ H3 H4 hi ⟨y1, y2, y3, y4, tv, rfl, s3, ht⟩ ⟨T', x1, z1, rfl, hT, rfl, hx1, hz1⟩
      have s4 : Same H3 (L2.upd H3 T' (.tup [x1, z1])) := same_new hT
      have t4 : SqT K (L2.upd H3 T' (.tup [x1, z1])) T' [x1, z1] := .inl (.inl upd_same)
      generalize L2.upd H3 T' (.tup [x1, z1]) = H4 at s4 t4 ⊢
      have s34 := s3.trans s4
      obtain ⟨g, hgi, hg0⟩ := hyH.get (show ys[i]? = some x1 from hx1)
      obtain ⟨c, hci, rfl⟩ : ∃ c, cs[i]? = some c ∧ z1 = .int c := by
        have hz : (cs.map V.int)[i]? = some z1 := hz1
        rw [List.getElem?_map] at hz
        cases e : cs[i]? with
        | none => rw [e] at hz; cases hz
        | some c => rw [e] at hz; exact ⟨c, rfl, (Option.some.inj hz).symm⟩
      have ag := am g (List.mem_of_getElem? hgi)
      have hmem : (g, c) ∈ (aimsF fs st).zip cs := List.mem_of_getElem? (show ((aimsF fs st).zip cs)[i]? = some (g, c) by rw [List.getElem?_zip_eq_some]; exact ⟨hgi, hci⟩)
      obtain ⟨nb, cb⟩ := hN _ hmem
      have cb' : c.natAbs < 2 ^ 640 := cb
      have nb' : Bt 640 (far g c) := nb
      refine ⟨T', _, rfl, t4, rfl, _, _, rfl, _, _, rfl, rfl, ?_⟩
      refine ⟨_, rfl, len_show (Nat.le_of_ble_eq_true rfl), fun p5 n5 => ?_⟩
      have s5 : Same H4 (L2.upd H4 p5 (.tup [.int c, .int 1])) := same_new n5
      have a5 : AtK K (L2.upd H4 p5 (.tup [.int c, .int 1])) (.ref p5) (c, 1) := AtK.of upd_same
      generalize L2.upd H4 p5 (.tup [.int c, .int 1]) = H5 at s5 a5 ⊢
      have hx5 := (hg0.same s34).same s5
      have c1b : Bt 640 (c, 1) := ⟨cb', Nat.one_lt_two_pow (by decide)⟩
      refine ⟨_, rfl, _, _, _, _, pr_atk a5 hx5 (m1_f _) ag.lo c1b ag.bt (by decide) (by decide), fun H6 p6 s6 e6 => ?_⟩
      have t6 : SqT K H6 p6 [.int (fsub (c, 1) g).1, .int (fsub (c, 1) g).2] := .inl (.inl e6)
      have hfp := far_prog ag.lo c
      have h1 : (if (fsub (c, 1) g).1 < 0 then -(fsub (c, 1) g).1 else (fsub (c, 1) g).1) = (far g c).1 := by rw [abs_is, ← hfp]
      have h2 : (fsub (c, 1) g).2 = (far g c).2 := by rw [← hfp]
      refine ⟨p6, _, rfl, t6, rfl, _, _, rfl, _, _, rfl, rfl, ?_⟩
      have s16 := (s34.trans s5).trans s6
      have ht6 : AtK K H6 tv ((((aimsF fs st).zip cs).take i).foldl wst f0) := ((ht.same s4).same s5).same s6
      obtain ⟨wF, wB, _⟩ := worst_ok (k := 640) aF (by decide) hN i
      refine ⟨_, rfl, _, rfl, _, rfl, _, rfl, len_show (Nat.le_of_ble_eq_true rfl), fun p7 n7 => ?_⟩
      rw [h1, h2]
      have s7 : Same H6 (L2.upd H6 p7 (.tup [.int (far g c).1, .int (far g c).2])) := same_new n7
      have a7 : AtK K (L2.upd H6 p7 (.tup [.int (far g c).1, .int (far g c).2])) (.ref p7) (far g c) := AtK.of upd_same
      generalize L2.upd H6 p7 (.tup [.int (far g c).1, .int (far g c).2]) = H7 at s7 a7 ⊢
      refine ⟨_, _, _, _, pr_atk (ht6.same s7) a7 wF (far_f ag.lo c) wB nb' (by decide) (by decide), ?_⟩
      have hst := worst_step (cs := cs) hgi hci
      have s17 := s16.trans s7
      refine ⟨_, rfl, ite2 (fun e => ?_) (fun e => ?_)⟩
      · refine ⟨_, rfl, _, rfl, _, rfl, len_show (Nat.le_of_ble_eq_true rfl), fun p8 n8 => ?_⟩
        rw [h1]
        have s8 : Same H7 (L2.upd H7 p8 (.tup [.int (far g c).1, .int (far g c).2])) := same_new n8
        have a8 : AtK K (L2.upd H7 p8 (.tup [.int (far g c).1, .int (far g c).2])) (.ref p8) (far g c) := AtK.of upd_same
        refine ⟨_, _, _, _, _, rfl, s17.trans s8, ?_⟩
        rw [hst]
        unfold wmax
        rw [if_pos (show lessB _ _ = true from e)]
        exact a8
      · refine ⟨_, _, _, _, _, rfl, s17, ?_⟩
        rw [hst]
        unfold wmax
        rw [if_neg (show ¬ lessB _ _ = true from e)]
        exact ht6.same s7
    · rintro σ H3 ⟨y1, y2, y3, y4, tv, rfl, s3, ht⟩
      refine ⟨_, rfl, k H3 tv (s1.trans s3) ?_⟩
      rw [List.take_of_length_le (by rw [List.length_zip, aims_len]; omega)] at ht
      exact ht

/-! ### rounded -/
abbrev s_rounded : Stmt := topS 32
theorem sc_rounded : FnScope ["weights", "step", "counted", "rest"] ["weights", "step"] (defScope s_rounded) := ⟨rfl, rfl, rfl, by decide +kernel, rfl, by decide +kernel, by decide +kernel⟩
theorem near_cnt {fs : List (Int × Int)} {st : Int × Int} (W : Wts fs) (hs : Wt st) : Near 640 (aimsF fs st) (cnt fs st) := by
  intro p hp
  obtain ⟨i, hi⟩ := List.getElem?_of_mem hp
  obtain ⟨h1, h2⟩ := List.getElem?_zip_eq_some.mp hi
  have hlt : i < fs.length := by
    have := (List.getElem?_eq_some_iff.mp h1).1
    rw [aims_len] at this
    exact this
  rw [cnt_get hlt] at h2
  have am := aims_am W hs p.1 (List.mem_of_getElem? h1)
  have hd : (aimsF fs st).getD i f0 = p.1 := by rw [List.getD_eq_getElem?_getD, h1]; rfl
  refine near_one am.lo am.nn am.bt ?_
  rw [← Option.some.inj h2]
  unfold cntAt
  rw [hd]
  split
  · exact .inr rfl
  · exact .inl (Int.add_zero _)
theorem mstep_f {fs : List (Int × Int)} {st : Int × Int} (hs : Wt st) : IsF (fmul (many fs st, 1) st) := fmul_f (m1_f _) hs.lo
theorem mstep_bt {fs : List (Int × Int)} {st : Int × Int} (W : Wts fs) (hs : Wt st) : Bt 131 (fmul (many fs st, 1) st) := fmul_bt (m1_f _) hs.lo (many_bt W hs) hs.bt
def sp_rounded (K : PySem.W.Frag) : Sp := fun vs H Q _ => ∃ (a : Addr) (v : V) (xs : List V) (fs : List (Int × Int)) (st : Int × Int), vs = [.ref a, v] ∧ Fit K H a v xs fs st ∧ ∀ H' p D v1 v2, Same H H' → H D = none → H p = none → H' p = some (.tup [.ref D, v1, v2]) → H' D = some (.lst ((cnt fs st).map V.int)) → AtK K H' v1 (left_ fs st) → AtK K H' v2 (worst (aimsF fs st) (cnt fs st)) → Q (.ref p) H'
theorem ok_rounded {f : Addr} {fd : FuncData} (F : Fun K "rounded" "rounded" s_rounded f fd) (C_nearest : Cal P w K mg base CX0 10 "nearest" ["weights", "step"] (sp_nearest K)) (C_together : Cal P w K mg base CX0 6 "together" ["ones"] (sp_togX K)) (C_many_steps : Cal P w K mg base CX0 7 "many_steps" ["weights", "step"] (sp_manyX K)) (C_times : Cal P w K mg base CX0 5 "times" ["one", "other"] (sp_times K)) (C_minus : Cal P w K mg base CX0 5 "minus" ["one", "other"] (sp_minus K)) (C_worst_of : Cal P w K mg base CX0 9 "worst_of" ["weights", "step", "counted"] (sp_worst K)) : FnG P w K mg base CX0 11 f fd ["weights", "step"] (sp_rounded K) := by
  refine Gfun F sc_rounded (fun vs H Q E h => ?_) (fun cdv A outer s H vs Q E hg hr h => ?_)
  · obtain ⟨a, v, xs, fs, st, rfl, _⟩ := h
    rfl
  · obtain ⟨a, v, xs, fs, st, rfl, T, k⟩ := h
    refine ⟨_, (pss_cons (ps_set (i := 2) sc_rounded.nd rfl (.inl rfl) (pe_g C_nearest (hr.mono (by decide)) hg (pa_cons (pv 0) (pa_cons (pv 1) pa_nil))))
      (pss_cons (ps_set (i := 3) sc_rounded.nd rfl (.inl rfl) (pe_g C_minus (hr.mono (by decide)) hg (pa_cons (pe_g C_together (hr.mono (by decide)) hg (pa_cons (pv 0) pa_nil)) (pa_cons (pe_g C_times (hr.mono (by decide)) hg (pa_cons (pe_tup (pa_cons (pe_g C_many_steps (hr.mono (by decide)) hg (pa_cons (pv 0) (pa_cons (pv 1) pa_nil))) (pa_cons pe_int pa_nil))) (pa_cons (pv 1) pa_nil))) pa_nil))))
      (pss_one (ps_ret (pe_tup (pa_cons (pv 2) (pa_cons (pv 3) (pa_cons (pe_g C_worst_of (hr.mono (by decide)) hg (pa_cons (pv 0) (pa_cons (pv 1) (pa_cons (pv 2) pa_nil)))) pa_nil)))))))), ?_⟩
    refine ⟨_, rfl, _, rfl, a, v, xs, fs, st, rfl, T, fun H1 D s1 nD eD => ?_⟩
    have T1 := T.same s1
    refine ⟨_, rfl, a, xs, fs, rfl, T1.sq, T1.at_, T.w, fun H2 tv s2 ht => ?_⟩
    have T2 := T1.same s2
    refine ⟨_, rfl, _, rfl, a, v, xs, fs, st, rfl, T2, fun H3 s3 => ?_⟩
    refine ⟨len_show (Nat.le_of_ble_eq_true rfl), fun p4 n4 => ?_⟩
    have s4 : Same H3 (L2.upd H3 p4 (.tup [.int (many fs st), .int 1])) := same_new n4
    have a4 : AtK K (L2.upd H3 p4 (.tup [.int (many fs st), .int 1])) (.ref p4) (many fs st, 1) := AtK.of upd_same
    generalize L2.upd H3 p4 (.tup [.int (many fs st), .int 1]) = H4 at s4 a4 ⊢
    have s24 := s3.trans s4
    refine ⟨_, rfl, _, _, _, _, pr_atk a4 (T2.av.same s24) (m1_f _) T.s.lo (many_bt T.w T.s) T.s.bt (by decide) (by decide), fun H5 p5 s5 e5 => ?_⟩
    have s25 := s24.trans s5
    have a5 : AtK K H5 (.ref p5) (fmul (many fs st, 1) st) := AtK.of e5
    refine ⟨_, _, _, _, pr_atk (ht.same s25) a5 (tot_f T.w.f) (mstep_f T.s) (tot_bt T.w) (mstep_bt T.w T.s) (by decide) (by decide), fun H6 p6 s6 e6 => ?_⟩
    have s16 := (s2.trans s25).trans s6
    have s06 := s1.trans s16
    have a6 : AtK K H6 (.ref p6) (left_ fs st) := AtK.of e6
    refine ⟨_, rfl, _, rfl, _, rfl, _, rfl, _, rfl, a, D, v, xs, fs, st, cnt fs st, rfl, T.same s06, .inl (.inl (s16 _ _ eD)), cnt_len _ _, near_cnt T.w T.s, fun H7 u s7 hu => ?_⟩
    refine ⟨len_show (Nat.le_of_ble_eq_true rfl), fun p8 n8 => ?_⟩
    have s8 : Same H7 (L2.upd H7 p8 (.tup [.ref D, .ref p6, u])) := same_new n8
    have s08 := (s06.trans s7).trans s8
    exact k _ p8 D _ _ s08 nD (same_none (s06.trans s7) n8) upd_same (s8 _ _ (s7 _ _ (s16 _ _ eD))) ((a6.same s7).same s8) (hu.same s8)

end
end Lf

set_option Elab.async false
set_option linter.all false
set_option maxRecDepth 100000
set_option maxHeartbeats 4000000
set_option exponentiation.threshold 3000
namespace Lf
open PySem PySem.Spec PyProof.Rows L2
theorem pot_same {H H' : Hp} {q : Addr} (h : Pot H q) (s : Same H H') : Pot H' q := by
  obtain ⟨x, y, a, b, e⟩ := h
  exact ⟨x, y, a, b, s _ _ e⟩
theorem pot_ne {q p : Addr} {H : Hp} (h : Pot H q) (n : H p = none) : p ≠ q := fun z => by
  obtain ⟨x, y, _, _, e⟩ := h
  rw [← z, n] at e
  cases e
section
variable {P : Program} {w : World} {K : PySem.W.Frag} {mg : Str → Option Value} {base : Heap}
theorem AtK.but {q : Addr} {H H' : Hp} {v : V} {f : Int × Int} (b : But q H H') (hP : Pot H q) (h : AtK K H v f) : AtK K H' v f := by
  obtain ⟨p, e, h⟩ := h
  obtain ⟨x, y, _, _, eq⟩ := hP
  refine ⟨p, e, ?_⟩
  rcases h with (h | ⟨ob, h⟩) | h
  · exact .inl (.inl (b _ _ (fun z => by rw [z, eq] at h; cases h) h))
  · exact .inl (.inr ⟨ob, b _ _ (fun z => by rw [z, eq] at h; cases h) h⟩)
  · exact .inr h
theorem AtKs.but {q : Addr} {H H' : Hp} {vs : List V} {fs : List (Int × Int)} (b : But q H H') (hP : Pot H q) (h : AtKs K H vs fs) : AtKs K H' vs fs := h.map fun _ _ => AtK.but b hP
theorem sql_but {H H' : Hp} {q t : Addr} {xs : List V} (b : But q H H') (n : t ≠ q) (h : SqL K H t xs) : SqL K H' t xs := by
  rcases h with (h | ⟨ob, h⟩) | h
  · exact .inl (.inl (b _ _ n h))
  · exact .inl (.inr ⟨ob, b _ _ n h⟩)
  · exact .inr h
theorem AtK.upd {H : Hp} {L : Addr} {xs ys : List V} {v : V} {f : Int × Int} (hL : H L = some (.lst xs)) (h : AtK K H v f) : AtK K (L2.upd H L (.lst ys)) v f := by
  obtain ⟨p, e, h⟩ := h
  refine ⟨p, e, ?_⟩
  rcases h with (h | ⟨ob, h⟩) | h
  · exact .inl (.inl (by rw [upd_ne (fun z => by rw [z, hL] at h; cases h)]; exact h))
  · exact .inl (.inr ⟨ob, by rw [upd_ne (fun z => by rw [z, hL] at h; cases h)]; exact h⟩)
  · exact .inr h
theorem AtKs.drop {H : Hp} : ∀ (n : Nat) {vs : List V} {fs : List (Int × Int)}, AtKs K H vs fs → AtKs K H (vs.drop n) (fs.drop n)
  | 0, _, _, h => h
  | _ + 1, _, _, .nil => .nil
  | n + 1, _, _, .cons _ r => AtKs.drop n r
theorem AtKs.take {H : Hp} : ∀ (n : Nat) {vs : List V} {fs : List (Int × Int)}, AtKs K H vs fs → AtKs K H (vs.take n) (fs.take n)
  | 0, _, _, _ => .nil
  | _ + 1, _, _, .nil => .nil
  | n + 1, _, _, .cons a r => .cons a (AtKs.take n r)
theorem AtKs.rep {H : Hp} {v : V} {f : Int × Int} (h : AtK K H v f) : ∀ n : Nat, AtKs K H (List.replicate n [v]).flatten (List.replicate n f)
  | 0 => .nil
  | n + 1 => .cons h (AtKs.rep h n)
theorem wt_low {n d : Int} (hn : 0 < n) (hd : 0 < d) (bn : n < 2 ^ 41) (bd : d < 2 ^ 41) : Wt (low n d) := by
  refine ⟨low_f (by omega), low_top_pos hd hn, low_bt (by omega) ?_ ?_⟩ <;> omega
theorem mid41 {n : Int} (h0 : 0 ≤ n) (h1 : n < 2 ^ 41) : Mid n := Nat.lt_of_lt_of_le (show n.natAbs < 2 ^ 41 by omega) (Nat.pow_le_pow_right (by decide) (by decide))
/-- a weight is told, the pot drawn from -/
def GivesW (K : PySem.W.Frag) (H : Hp) (q : Addr) (Q : VK) : Prop := ∀ (v : V) (f : Int × Int) (H' : Hp), AtK K H' v f → Wt f → Pot H' q → But q H H' → Q v H'

/-! ### _law_sum -/
abbrev s__law_sum : Stmt := topS 42
theorem sc__law_sum : FnScope ["_law_one", "_law_other"] ["_law_one", "_law_other"] (defScope s__law_sum) := ⟨rfl, rfl, rfl, by decide +kernel, rfl, by decide +kernel, by decide +kernel⟩
theorem ok_lsum {f : Addr} {fd : FuncData} (F : Fun K "_law_sum" "_law_sum" s__law_sum f fd) (C__law_low : Cal P w K mg base CX0 1 "_law_low" ["_law_top", "_law_bottom"] sp_low) : FnG P w K mg base CX0 2 f fd ["_law_one", "_law_other"] (sp_plus K) := by
  refine Gfun F sc__law_sum (fun vs H Q E h => ?_) (fun cdv A outer s H vs Q E hg hr h => ?_)
  · obtain ⟨a, b, c, d, h, _⟩ := h
    obtain ⟨p, q, rfl, _⟩ := h.ex
    rfl
  · obtain ⟨a, b, c, d, h, k⟩ := h
    obtain ⟨p, q, rfl, hp, hq⟩ := h.ex
    refine ⟨_, (pss_one (ps_ret (pe_g C__law_low (hr.mono (by decide)) hg (pa_cons (pe_op op_add (pe_op op_mulW (pe_ix ix_tup (pv 0) pe_int (fun _ _ => rfl)) (pe_ix ix_tup (pv 1) pe_int (fun _ _ => rfl))) (pe_op op_mulW (pe_ix ix_tup (pv 1) pe_int (fun _ _ => rfl)) (pe_ix ix_tup (pv 0) pe_int (fun _ _ => rfl)))) (pa_cons (pe_op op_mulW (pe_ix ix_tup (pv 0) pe_int (fun _ _ => rfl)) (pe_ix ix_tup (pv 1) pe_int (fun _ _ => rfl))) pa_nil))))), ?_⟩
    refine ⟨_, rfl, p, _, _, _, rfl, rfl, hp, rfl, _, rfl, q, _, _, _, rfl, rfl, hq, rfl, _, _, rfl, rfl, Sm.mulW h.a1 h.d1, ?_⟩
    refine ⟨_, rfl, q, _, _, _, rfl, rfl, hq, rfl, _, rfl, p, _, _, _, rfl, rfl, hp, rfl, _, _, rfl, rfl, Sm.mulW h.c1 h.b1, ?_⟩
    refine ⟨_, _, rfl, rfl, ?_⟩
    refine ⟨_, rfl, p, _, _, _, rfl, rfl, hp, rfl, _, rfl, q, _, _, _, rfl, rfl, hq, rfl, _, _, rfl, rfl, Sm.mulW h.b1 h.d1, ?_⟩
    exact ⟨_, _, rfl, mul_ne h.hb h.hd, Sm.mul h.b1 h.d1, k⟩

/-! ### _law_total -/
abbrev s__law_total : Stmt := topS 43
theorem sc__law_total : FnScope ["_law_some", "_law_found", "_law_one"] ["_law_some"] (defScope s__law_total) := ⟨rfl, rfl, rfl, by decide +kernel, rfl, by decide +kernel, by decide +kernel⟩
theorem ok_ltotal {f : Addr} {fd : FuncData} (F : Fun K "_law_total" "_law_total" s__law_total f fd) (C__law_sum : Cal P w K mg base CX0 2 "_law_sum" ["_law_one", "_law_other"] (sp_plus K)) : FnG P w K mg base CX0 3 f fd ["_law_some"] (sp_togL K) := by
  refine Gfun F sc__law_total (fun vs H Q E h => ?_) (fun cdv A outer s H vs Q E hg hr h => ?_)
  · obtain ⟨L, xs, fs, b, rfl, _⟩ := h
    rfl
  · obtain ⟨L, xs, fs, b, rfl, hS, hA, hF, hB, hb8, hlen, k⟩ := h
    refine ⟨_, (pss_cons (ps_set (i := 1) sc__law_total.nd rfl (.inl rfl) (pe_tup (pa_cons pe_int (pa_cons pe_int pa_nil))))
      (pss_cons (ps_for PassesOwn.never rfl (pi_list (pv 0)) (pg_name (i := 2) sc__law_total.nd rfl (.inl rfl))
      (pss_one (ps_set (i := 1) sc__law_total.nd rfl (.inl rfl) (pe_g C__law_sum (hr.mono (by decide)) hg (pa_cons (pv 1) (pa_cons (pv 2) pa_nil))))))
      (pss_one (ps_ret (pv 1))))), ?_⟩
    refine ⟨len_show (Nat.le_of_ble_eq_true rfl), fun p0 n0 => ?_⟩
    have s0 : Same H (L2.upd H p0 (.tup [.int 0, .int 1])) := same_new n0
    have a0 : AtK K (L2.upd H p0 (.tup [.int 0, .int 1])) (.ref p0) f0 := AtK.of upd_same
    generalize L2.upd H p0 (.tup [.int 0, .int 1]) = H0 at s0 a0 ⊢
    refine ⟨_, rfl, L, rfl, ⟨_, sm_l s0 hS⟩, for_list (K := K) (a := L) (xs := xs) (fun i σ H' => ∃ (v : Option V) (t : V), σ = [some (.ref L), some t, v] ∧ Same H H' ∧ AtK K H' t ((fs.take i).foldl fadd f0))
      ⟨none, .ref p0, rfl, s0, a0⟩ (fun i σ H' _ ⟨_, _, _, sm, _⟩ => sm.seq hS) ?_ ?_⟩
    · rintro i x σ H' hi ⟨v, t, rfl, sm, ht⟩
      obtain ⟨g, hgi, hx0⟩ := hA.get hi
      have hx := hx0.same sm
      have hgf : IsF g := hF g (List.mem_of_getElem? hgi)
      have bg : Bt b g := hB g (List.mem_of_getElem? hgi)
      have hil : i < fs.length := (List.getElem?_eq_some_iff.mp hgi).1
      have htl : (fs.take i).length = i := by rw [List.length_take]; omega
      have hmn : (b + 1) * i ≤ (b + 1) * fs.length := Nat.mul_le_mul_left _ (Nat.le_of_lt hil)
      have fa := (sum_fold (fs.take i) f0 f0_f (take_all hF i)).1
      have ba := add_bt (b := b) (fs.take i) 1 f0 f0_f (take_all hF i) bt01.1 (fun f hf => hB f (List.mem_of_mem_take hf))
      rw [htl] at ba
      refine ⟨_, rfl, _, rfl, _, _, _, _, pr_atk ht hx fa hgf ba bg (by omega) hb8, fun H2 t' s2 e2 => ?_⟩
      refine ⟨some x, _, rfl, sm.trans s2, ?_⟩
      rw [fold_take _ _ hgi]
      exact AtK.of e2
    · rintro σ H' ⟨v, t, rfl, sm, ht⟩
      refine ⟨_, rfl, k H' t sm ?_⟩
      rw [hA.length, List.take_length] at ht
      exact ht

/-! ### _law_whole_some -/
abbrev s__law_whole_some : Stmt := topS 44
theorem sc__law_whole_some : FnScope ["_law_pot_here"] ["_law_pot_here"] (defScope s__law_whole_some) := ⟨rfl, rfl, rfl, by decide +kernel, rfl, by decide +kernel, by decide +kernel⟩
def sp_wsome (K : PySem.W.Frag) : Sp := fun vs H Q _ => ∃ q : Addr, vs = [.ref q] ∧ Pot H q ∧ GivesW K H q Q
theorem ok_wsome {f : Addr} {fd : FuncData} (F : Fun K "_law_whole_some" "_law_whole_some" s__law_whole_some f fd) (C__law_draw : Cal P w K mg base CX0 1 "_law_draw" ["_law_pot_here", "_law_many_here"] sp_draw) (C__law_low : Cal P w K mg base CX0 1 "_law_low" ["_law_top", "_law_bottom"] sp_low) : FnG P w K mg base CX0 2 f fd ["_law_pot_here"] (sp_wsome K) := by
  refine Gfun F sc__law_whole_some (fun vs H Q E h => ?_) (fun cdv A outer s H vs Q E hg hr h => ?_)
  · obtain ⟨q, rfl, _⟩ := h
    rfl
  · obtain ⟨q, rfl, hP, k⟩ := h
    refine ⟨_, (pss_one (ps_ret (pe_g C__law_low (hr.mono (by decide)) hg (pa_cons (pe_op op_add pe_int (pe_g C__law_draw (hr.mono (by decide)) hg (pa_cons (pv 0) (pa_cons (pe_op op_sub (pe_op op_pow pe_int pe_int) pe_int) pa_nil)))) (pa_cons (pe_op op_add pe_int (pe_g C__law_draw (hr.mono (by decide)) hg (pa_cons (pv 0) (pa_cons (pe_op op_sub (pe_op op_pow pe_int pe_int) pe_int) pa_nil)))) pa_nil))))), ?_⟩
    refine ⟨_, rfl, _, _, rfl, rfl, ⟨by decide, by decide, by decide⟩, _, _, rfl, rfl, q, _, rfl, by decide, by decide, hP, fun r2 H2 r20 r21 hP2 b2 => ?_⟩
    have r21' : r2 < 10 ^ 12 - 1 := r21
    refine ⟨_, _, rfl, rfl, _, rfl, _, _, rfl, rfl, ⟨by decide, by decide, by decide⟩, _, _, rfl, rfl, q, _, rfl, by decide, by decide, hP2, fun r3 H3 r30 r31 hP3 b3 => ?_⟩
    have r31' : r3 < 10 ^ 12 - 1 := r31
    refine ⟨_, _, rfl, rfl, _, _, rfl, by omega, mid41 (by omega) (by omega), fun H4 p4 s4 e4 => ?_⟩
    exact k _ _ H4 (AtK.of e4) (wt_low (by omega) (by omega) (by omega) (by omega)) (pot_same hP3 s4) ((b2.trans b3).same s4)

/-! ### _law_weights -/
abbrev s__law_weights : Stmt := topS 45
theorem sc__law_weights : FnScope ["_law_pot_here", "_law_most", "_law_many_here", "_law_way", "_law_bottom", "_law_found", "_law_k"] ["_law_pot_here", "_law_most"] (defScope s__law_weights) := ⟨rfl, rfl, rfl, by decide +kernel, rfl, by decide +kernel, by decide +kernel⟩
/-- a list of weights, beside the pot -/
structure Ws (K : PySem.W.Frag) (H : Hp) (q L : Addr) (xs : List V) (fs : List (Int × Int)) : Prop where
  l : H L = some (.lst xs)
  ne : L ≠ q
  at_ : AtKs K H xs fs
  wt : ∀ f ∈ fs, Wt f
theorem Ws.but {q L : Addr} {H H' : Hp} {xs : List V} {fs : List (Int × Int)} (b : But q H H') (hP : Pot H q) (h : Ws K H q L xs fs) : Ws K H' q L xs fs := ⟨b _ _ h.ne h.l, h.ne, h.at_.but b hP, h.wt⟩
theorem Ws.add {q L : Addr} {H : Hp} {xs : List V} {fs : List (Int × Int)} {v : V} {f : Int × Int} (h : Ws K H q L xs fs) (hv : AtK K H v f) (hf : Wt f) : Ws K (L2.upd H L (.lst (xs ++ [v]))) q L (xs ++ [v]) (fs ++ [f]) := by
  refine ⟨upd_same, h.ne, (h.at_.map fun _ _ => AtK.upd h.l).app (.cons (AtK.upd h.l hv) .nil), fun g hg => ?_⟩
  rcases List.mem_append.mp hg with z | z
  · exact h.wt g z
  · rw [List.mem_singleton.mp z]
    exact hf
theorem pot_upd {q L : Addr} {H : Hp} {o : HO} (h : Pot H q) (n : L ≠ q) : Pot (L2.upd H L o) q := by
  obtain ⟨x, y, a, b, e⟩ := h
  exact ⟨x, y, a, b, by rw [upd_ne (Ne.symm n)]; exact e⟩
def sp_weights (K : PySem.W.Frag) : Sp := fun vs H Q _ => ∃ (q : Addr) (mo : Int), vs = [.ref q, .int mo] ∧ 0 < mo ∧ mo ≤ 12 ∧ Pot H q ∧ ∀ (L : Addr) (xs : List V) (fs : List (Int × Int)) (H' : Hp), Ws K H' q L xs fs → Wts fs → Pot H' q → But q H H' → Q (.ref L) H'
theorem ok_weights {f : Addr} {fd : FuncData} (M : Blt mg) (F : Fun K "_law_weights" "_law_weights" s__law_weights f fd) (C__law_draw : Cal P w K mg base CX0 1 "_law_draw" ["_law_pot_here", "_law_many_here"] sp_draw) (C__law_low : Cal P w K mg base CX0 1 "_law_low" ["_law_top", "_law_bottom"] sp_low) (C__law_whole_some : Cal P w K mg base CX0 2 "_law_whole_some" ["_law_pot_here"] (sp_wsome K)) : FnG P w K mg base CX0 3 f fd ["_law_pot_here", "_law_most"] (sp_weights K) := by
  refine Gfun F sc__law_weights (fun vs H Q E h => ?_) (fun cdv A outer s H vs Q E hg hr h => ?_)
  · obtain ⟨q, mo, rfl, _⟩ := h
    rfl
  · obtain ⟨q, mo, rfl, mo0, mo1, hP, k⟩ := h
    refine ⟨_, (pss_cons (ps_set (i := 2) sc__law_weights.nd rfl (.inl rfl) (pe_op op_add pe_int (pe_g C__law_draw (hr.mono (by decide)) hg (pa_cons (pv 0) (pa_cons (pv 1) pa_nil)))))
      (pss_cons (ps_set (i := 3) sc__law_weights.nd rfl (.inl rfl) (pe_g C__law_draw (hr.mono (by decide)) hg (pa_cons (pv 0) (pa_cons pe_int pa_nil))))
      (pss_cons (ps_set (i := 4) sc__law_weights.nd rfl (.inl rfl) (pe_op op_add pe_int (pe_g C__law_draw (hr.mono (by decide)) hg (pa_cons (pv 0) (pa_cons pe_int pa_nil)))))
      (pss_cons (ps_set (i := 5) sc__law_weights.nd rfl (.inl rfl) (pe_lst pa_nil))
      (pss_cons (ps_for PassesOwn.never rfl (pi_range1 rfl M.range (pa_cons (pv 2) pa_nil)) (pg_name (i := 6) sc__law_weights.nd rfl (.inl rfl))
      (pss_one (ps_if (pt_cmpR op_eq (pv 3) pe_int (nomark _))
      (pss_one (ps_expr (pe_bm PySem.F.plainAttrs_list PySem.F.slot_list_append PySem.F.type_list_append mt_append (pv 5) (pa_cons (pe_g C__law_whole_some (hr.mono (by decide)) hg (pa_cons (pv 0) pa_nil)) pa_nil))))
      (pss_one (ps_if (pt_cmpR op_lt (pv 3) pe_int (nomark _))
      (pss_one (ps_expr (pe_bm PySem.F.plainAttrs_list PySem.F.slot_list_append PySem.F.type_list_append mt_append (pv 5) (pa_cons (pe_g C__law_low (hr.mono (by decide)) hg (pa_cons (pe_op op_add pe_int (pe_g C__law_draw (hr.mono (by decide)) hg (pa_cons (pv 0) (pa_cons pe_int pa_nil)))) (pa_cons (pv 4) pa_nil))) pa_nil))))
      (pss_one (ps_expr (pe_bm PySem.F.plainAttrs_list PySem.F.slot_list_append PySem.F.type_list_append mt_append (pv 5) (pa_cons (pe_g C__law_low (hr.mono (by decide)) hg (pa_cons (pe_op op_add pe_int (pe_g C__law_draw (hr.mono (by decide)) hg (pa_cons (pv 0) (pa_cons pe_int pa_nil)))) (pa_cons (pe_op op_add pe_int (pe_g C__law_draw (hr.mono (by decide)) hg (pa_cons (pv 0) (pa_cons pe_int pa_nil)))) pa_nil))) pa_nil)))))))))
      (pss_cons (ps_if (pt_cmpR op_eq (pv 3) pe_int (nomark _))
      (pss_one (ps_set (i := 5) sc__law_weights.nd rfl (.inl rfl) (pe_op op_cat (pe_op op_rep (pe_lst (pa_cons (pe_ix ix_list (pv 5) pe_int (fun _ _ => rfl)) pa_nil)) (pe_op op_sub (pv 2) pe_int)) (pe_slice sl_list (pv 5) (po_some (pe_un un_neg pe_int)) po_none))))
      pss_nil)
      (pss_one (ps_ret (pv 5))))))))), ?_⟩
    refine ⟨_, rfl, _, rfl, q, mo, rfl, mo0, ?_, hP, fun n H1 n0 n1 P1 b1 => ⟨_, _, rfl, rfl, ?_⟩⟩
    · exact Nat.lt_of_lt_of_le (show mo.natAbs < 2 ^ 5 by omega) (Nat.pow_le_pow_right (by decide) (by decide))
    refine ⟨_, rfl, q, 5, rfl, by decide, by decide, P1, fun way H2 w0 w1 P2 b2 => ?_⟩
    refine ⟨_, rfl, q, 12, rfl, by decide, by decide, P2, fun bot H3 t0 t1 P3 b3 => ⟨_, _, rfl, rfl, ?_⟩⟩
    refine ⟨len_show (Nat.le_of_ble_eq_true rfl), fun L nL => ?_⟩
    have hne : L ≠ q := pot_ne P3 nL
    have b03 := (b1.trans b2).trans b3
    have nL0 : H L = none := by
      cases e : H L with
      | none => rfl
      | some o =>
        rw [b03 L o hne e] at nL
        cases nL
    have S0 : Ws K (L2.upd H3 L (.lst [])) q L [] [] := ⟨upd_same, hne, .nil, fun f hf => by cases hf⟩
    have P4 := pot_same P3 (same_new (o := .lst []) nL)
    have b04 := b03.same (same_new (o := .lst []) nL)
    generalize L2.upd H3 L (.lst []) = H4 at S0 P4 b04 ⊢
    refine ⟨_, rfl, _, rfl, by omega, by omega, for_range (lo := 0) (n := (1 + n).toNat) (fun i σ H' => ∃ (y6 : Option V) (xs : List V) (fs : List (Int × Int)), σ = [some (.ref q), some (.int mo), some (.int (1 + n)), some (.int way), some (.int (1 + bot)), some (.ref L), y6] ∧ Ws K H' q L xs fs ∧ fs.length = i ∧ Pot H' q ∧ But q H H')
      ⟨_, _, _, rfl, S0, rfl, P4, b04⟩ ?_ ?_⟩
    · rintro i σ H5 hi ⟨y6, xs, fs, rfl, S5, hl5, P5, b5⟩
      have hlen : xs.length < sizeLine := by
        have := S5.at_.length
        rw [sizeLine_eq]
        omega
      have fin : ∀ (v : V) (f : Int × Int) (H6 : Hp), AtK K H6 v f → Wt f → Pot H6 q → But q H5 H6 → Ws K (L2.upd H6 L (.lst (xs ++ [v]))) q L (xs ++ [v]) (fs ++ [f]) ∧ (fs ++ [f]).length = i + 1 ∧ Pot (L2.upd H6 L (.lst (xs ++ [v]))) q ∧ But q H (L2.upd H6 L (.lst (xs ++ [v]))) := by
        intro v f H6 hv hf P6 b6
        refine ⟨(S5.but b6 P5).add hv hf, by rw [List.length_append, hl5]; rfl, pot_upd P6 hne, fun b o nb e => ?_⟩
        rw [upd_ne (ne_of_none e nL0)]
        exact (b5.trans b6) b o nb e
      have hw0 : way = 0 ∨ way ≠ 0 := Classical.em _
      refine ⟨_, rfl, rfl, _, rfl, ite2 (fun e => ?_) (fun e => ?_)⟩
      · refine ⟨_, rfl, .inl ⟨rfl, _, .inl (.inl S5.l)⟩, _, rfl, q, rfl, P5, fun v f H6 hv hf P6 b6 => ?_⟩
        exact ⟨L, xs, v, rfl, rfl, b6 _ _ hne S5.l, hlen, _, _, _, rfl, fin v f H6 hv hf P6 b6⟩
      refine ⟨_, rfl, _, _, rfl, rfl, _, rfl, ite2 (fun e2 => ?_) (fun e2 => ?_)⟩
      · refine ⟨_, rfl, .inl ⟨rfl, _, .inl (.inl S5.l)⟩, _, rfl, q, 40, rfl, by decide, by decide, P5, fun r H6 r0 r1 P6 b6 => ⟨_, _, rfl, rfl, _, rfl, _, _, rfl, by omega, mid41 (by omega) (by omega), fun H7 p7 s7 e7 => ?_⟩⟩
        have b57 := b6.same s7
        exact ⟨L, xs, _, rfl, rfl, b57 _ _ hne S5.l, hlen, _, _, _, rfl, fin _ _ H7 (AtK.of e7) (wt_low (by omega) (by omega) (by omega) (by omega)) (pot_same P6 s7) b57⟩
      · refine ⟨_, rfl, .inl ⟨rfl, _, .inl (.inl S5.l)⟩, _, rfl, q, 30, rfl, by decide, by decide, P5, fun r H6 r0 r1 P6 b6 => ⟨_, _, rfl, rfl, _, rfl, q, 6, rfl, by decide, by decide, P6, fun u H7 u0 u1 P7 b7 => ⟨_, _, rfl, rfl, _, _, rfl, by omega, mid41 (by omega) (by omega), fun H8 p8 s8 e8 => ?_⟩⟩⟩
        have b58 := (b6.trans b7).same s8
        exact ⟨L, xs, _, rfl, rfl, b58 _ _ hne S5.l, hlen, _, _, _, rfl, fin _ _ H8 (AtK.of e8) (wt_low (by omega) (by omega) (by omega) (by omega)) (pot_same P7 s8) b58⟩
    · rintro σ H5 ⟨y6, xs, fs, rfl, S5, hl5, P5, b5⟩
      have hW : Wts fs := ⟨S5.wt, by omega, by omega⟩
      refine ⟨_, rfl, rfl, _, rfl, ite2 (fun e => ?_) (fun e => ?_)⟩
      · have hlx := S5.at_.length
        obtain ⟨x0, hx0⟩ : ∃ x0, xs[0]? = some x0 := ⟨_, List.getElem?_eq_getElem (by omega)⟩
        obtain ⟨g0, hg0, hat0⟩ := S5.at_.get hx0
        refine ⟨_, rfl, L, _, _, _, rfl, rfl, .inl (.inl S5.l), atI_nat (j := 0) hx0, len_show (Nat.le_of_ble_eq_true rfl), fun p6 n6 => ?_⟩
        have s6 : Same H5 (L2.upd H5 p6 (.lst [x0])) := same_new n6
        have e6 : L2.upd H5 p6 (.lst [x0]) p6 = some (.lst [x0]) := upd_same
        generalize L2.upd H5 p6 (.lst [x0]) = H6 at s6 e6 ⊢
        refine ⟨_, rfl, _, _, rfl, rfl, p6, _, [x0], rfl, rfl, e6, by omega, by omega, by rw [sizeLine_eq, List.length_singleton]; omega, fun p7 n7 => ?_⟩
        have s7 := same_new (o := .lst (List.replicate (1 + n - 1).toNat [x0]).flatten) n7
        have e7 := upd_same (H := H6) (a := p7) (o := .lst (List.replicate (1 + n - 1).toNat [x0]).flatten)
        generalize L2.upd H6 p7 (.lst (List.replicate (1 + n - 1).toNat [x0]).flatten) = H7 at s7 e7 ⊢
        have s57 := s6.trans s7
        refine ⟨_, rfl, _, rfl, _, rfl, L, xs, rfl, .inl (.inl (s57 _ _ S5.l)), fun p8 n8 => ?_⟩
        have s8 := same_new (o := .lst (cutV xs (some (-1)) none)) n8
        have e8 := upd_same (H := H7) (a := p8) (o := .lst (cutV xs (some (-1)) none))
        generalize L2.upd H7 p8 (.lst (cutV xs (some (-1)) none)) = H8 at s8 e8 ⊢
        have hfl : ((List.replicate (1 + n - 1).toNat [x0]).flatten).length = (1 + n - 1).toNat := by
          rw [List.length_flatten, List.map_replicate, List.sum_replicate_nat]
          simp
        have hcl : (cutV xs (some (-1)) none).length ≤ xs.length := cutV_length _ _ _
        refine ⟨p7, p8, _, _, rfl, rfl, s8 _ _ e7, e8, by rw [sizeLine_eq]; omega, fun p9 n9 => ?_⟩
        have s9 := same_new (o := .lst ((List.replicate (1 + n - 1).toNat [x0]).flatten ++ cutV xs (some (-1)) none)) n9
        have e9 := upd_same (H := H8) (a := p9) (o := .lst ((List.replicate (1 + n - 1).toNat [x0]).flatten ++ cutV xs (some (-1)) none))
        generalize L2.upd H8 p9 (.lst ((List.replicate (1 + n - 1).toNat [x0]).flatten ++ cutV xs (some (-1)) none)) = H9 at s9 e9 ⊢
        have s59 := (s57.trans s8).trans s9
        have P9 := pot_same P5 s59
        have cutk : cutV xs (some (-1)) none = xs.drop (xs.length - 1) := by
          unfold cutV
          have h1 : HT.sIx xs.length 0 (some (-1)) = xs.length - 1 := by
            simp [HT.sIx]
            omega
          rw [h1]
          exact List.take_of_length_le (by rw [List.length_drop]; simp [HT.sIx])
        rw [cutk] at e9
        refine ⟨_, rfl, k p9 _ (List.replicate (1 + n - 1).toNat g0 ++ fs.drop (xs.length - 1)) H9 ⟨e9, pot_ne (pot_same P5 (s57.trans s8)) n9, ((AtKs.rep hat0 _).app (S5.at_.drop _)).same s59, fun f hf => ?_⟩ ⟨fun f hf => ?_, ?_, ?_⟩ P9 (b5.same s59)⟩
        · rcases List.mem_append.mp hf with z | z
          · rw [(List.mem_replicate.mp z).2]
            exact S5.wt _ (List.mem_of_getElem? hg0)
          · exact S5.wt _ (List.mem_of_mem_drop z)
        · rcases List.mem_append.mp hf with z | z
          · rw [(List.mem_replicate.mp z).2]
            exact S5.wt _ (List.mem_of_getElem? hg0)
          · exact S5.wt _ (List.mem_of_mem_drop z)
        · rw [List.length_append, List.length_replicate, List.length_drop]
          omega
        · rw [List.length_append, List.length_replicate, List.length_drop]
          omega
      · exact ⟨_, rfl, k L xs fs H5 S5 hW P5 b5⟩

end
end Lf

set_option Elab.async false
set_option linter.all false
set_option maxRecDepth 100000
set_option maxHeartbeats 4000000
set_option exponentiation.threshold 3000
namespace Lf
open PySem PySem.Spec PyProof.Rows L2
theorem ix_tupK {X : Cx} {K : PySem.W.Frag} (hK : X.K = K := by rfl) : IxR X (rIxT K) := hK ▸ ix_tup
theorem ix_listK {X : Cx} {K : PySem.W.Frag} (hK : X.K = K := by rfl) : IxR X (rIxL K) := hK ▸ ix_list
section
variable {P : Program} {w : World} {K : PySem.W.Frag} {mg : Str → Option Value} {base : Heap}

/-! ### _law_step -/
abbrev s__law_step : Stmt := topS 46
theorem sc__law_step : FnScope ["_law_pot_here", "_law_weights_here", "_law_whole", "_law_way"] ["_law_pot_here", "_law_weights_here"] (defScope s__law_step) := ⟨rfl, rfl, rfl, by decide +kernel, rfl, by decide +kernel, by decide +kernel⟩
def sp_step (K : PySem.W.Frag) : Sp := fun vs H Q _ => ∃ (q L : Addr) (xs : List V) (fs : List (Int × Int)), vs = [.ref q, .ref L] ∧ Ws K H q L xs fs ∧ Wts fs ∧ Pot H q ∧ GivesW K H q Q
theorem ok_step {f : Addr} {fd : FuncData} (M : Blt mg) (F : Fun K "_law_step" "_law_step" s__law_step f fd) (C__law_draw : Cal P w K mg base CX0 1 "_law_draw" ["_law_pot_here", "_law_many_here"] sp_draw) (C__law_low : Cal P w K mg base CX0 1 "_law_low" ["_law_top", "_law_bottom"] sp_low) (C__law_whole_some : Cal P w K mg base CX0 2 "_law_whole_some" ["_law_pot_here"] (sp_wsome K))
    (C__law_total : Cal P w K mg base CX0 3 "_law_total" ["_law_some"] (sp_togL K)) : FnG P w K mg base CX0 4 f fd ["_law_pot_here", "_law_weights_here"] (sp_step K) := by
  refine Gfun F sc__law_step (fun vs H Q E h => ?_) (fun cdv A outer s H vs Q E hg hr h => ?_)
  · obtain ⟨q, L, xs, fs, rfl, _⟩ := h
    rfl
  · obtain ⟨q, L, xs, fs, rfl, S, W, hP, k⟩ := h
    refine ⟨_, (pss_cons (ps_set (i := 2) sc__law_step.nd rfl (.inl rfl) (pe_g C__law_total (hr.mono (by decide)) hg (pa_cons (pv 1) pa_nil)))
      (pss_cons (ps_set (i := 3) sc__law_step.nd rfl (.inl rfl) (pe_g C__law_draw (hr.mono (by decide)) hg (pa_cons (pv 0) (pa_cons pe_int pa_nil))))
      (pss_cons (ps_if (pt_cmpR op_eq (pv 3) pe_int (nomark _))
      (pss_one (ps_ret (pe_g C__law_whole_some (hr.mono (by decide)) hg (pa_cons (pv 0) pa_nil))))
      pss_nil)
      (pss_cons (ps_if (PW.pt (pw_and (pt_cmpR op_eq (pv 3) pe_int (nomark _)) (pw_and1 (pt_cmpR op_lt (pe_callB (call_maxT2 rfl hr) rfl M.max bt_max (pa_cons (pv 2) pa_nil)) (pe_op op_pow pe_int pe_int) (nomark _)))))
      (pss_one (ps_ret (pe_g C__law_low (hr.mono (by decide)) hg (pa_cons (pe_ix ix_tup (pv 2) pe_int (fun _ _ => rfl)) (pa_cons (pe_op op_mulW (pe_ix ix_tup (pv 2) pe_int (fun _ _ => rfl)) (pe_op op_add pe_int (pe_g C__law_draw (hr.mono (by decide)) hg (pa_cons (pv 0) (pa_cons pe_int pa_nil))))) pa_nil)))))
      pss_nil)
      (pss_one (ps_ret (pe_g C__law_low (hr.mono (by decide)) hg (pa_cons (pe_op op_add pe_int (pe_g C__law_draw (hr.mono (by decide)) hg (pa_cons (pv 0) (pa_cons pe_int pa_nil)))) (pa_cons (pe_op op_add pe_int (pe_g C__law_draw (hr.mono (by decide)) hg (pa_cons (pv 0) (pa_cons pe_int pa_nil)))) pa_nil))))))))), ?_⟩
    have h12 := W.few
    refine ⟨_, rfl, L, xs, fs, 41, rfl, .inl (.inl S.l), S.at_, W.f, W.b, by decide, by omega, fun H1 tv s1 ht => ?_⟩
    have P1 := pot_same hP s1
    refine ⟨_, rfl, q, 4, rfl, by decide, by decide, P1, fun way H2 w0 w1 P2 b2 => ?_⟩
    have b12 : But q H H2 := (But.same But.rfl s1).trans b2
    obtain ⟨pt, rfl, hpt⟩ := ht
    obtain ⟨pt', ept, hpt2⟩ := AtK.but b2 P1 ⟨pt, rfl, hpt⟩
    cases ept
    have hpt2' : SqT K H2 pt [.int (tot fs).1, .int (tot fs).2] := hpt2
    have t0 := tot_pos W
    have t2 : 0 < (tot fs).2 := (tot_f W.f).1
    refine ⟨_, rfl, rfl, _, rfl, ite2 (fun e => ?_) (fun e => ?_)⟩
    · exact ⟨_, rfl, q, rfl, P2, fun v f H3 hv hf P3 b3 => k v f H3 hv hf P3 (b12.trans b3)⟩
    refine ⟨_, rfl, rfl, _, rfl, ite2 (fun e2 => ?_) (fun e2 => ?_)⟩
    · refine ⟨_, rfl, pt, _, _, rfl, hpt2', fun m m1 m2 => ⟨_, _, rfl, rfl, ⟨by decide, by decide, by decide⟩, _, _, rfl, rfl, _, rfl, ite2 (fun e3 => ?_) (fun e3 => ?_)⟩⟩
      · have hm : m < 10 ^ 9 := of_decide_eq_true e3
        refine ⟨_, rfl, pt, _, _, _, rfl, rfl, hpt2', atI_nat (j := 0) rfl, _, rfl, pt, _, _, _, rfl, rfl, hpt2', atI_nat (j := 1) rfl, _, rfl, q, 40, rfl, by decide, by decide, P2, fun r H3 r0 r1 P3 b3 => ⟨_, _, rfl, rfl, _, _, rfl, rfl, ?_, ?_⟩⟩
        · exact Sm.mulW (Nat.lt_of_lt_of_le (show (tot fs).2.natAbs < 2 ^ 41 by omega) (Nat.pow_le_pow_right (by decide) (by decide))) (small30 (by omega) (by omega))
        have hd : 0 < (tot fs).2 * (1 + r) := Int.mul_pos t2 (by omega)
        have hd2 : (tot fs).2 * (1 + r) < 2 ^ 41 := by
          have a1 : (tot fs).2 * (1 + r) ≤ 10 ^ 9 * (1 + r) := Int.mul_le_mul_of_nonneg_right (by omega) (by omega)
          omega
        refine ⟨_, _, rfl, by omega, mid41 (by omega) hd2, fun H4 p4 s4 e4 => ?_⟩
        exact k _ _ H4 (AtK.of e4) (wt_low t0 hd (by omega) hd2) (pot_same P3 s4) ((b12.trans b3).same s4)
      · refine ⟨_, rfl, q, 12, rfl, by decide, by decide, P2, fun r H3 r0 r1 P3 b3 => ⟨_, _, rfl, rfl, _, rfl, q, 12, rfl, by decide, by decide, P3, fun u H4 u0 u1 P4 b4 => ⟨_, _, rfl, rfl, _, _, rfl, by omega, mid41 (by omega) (by omega), fun H5 p5 s5 e5 => ?_⟩⟩⟩
        exact k _ _ H5 (AtK.of e5) (wt_low (by omega) (by omega) (by omega) (by omega)) (pot_same P4 s5) (((b12.trans b3).trans b4).same s5)
    · refine ⟨_, rfl, q, 12, rfl, by decide, by decide, P2, fun r H3 r0 r1 P3 b3 => ⟨_, _, rfl, rfl, _, rfl, q, 12, rfl, by decide, by decide, P3, fun u H4 u0 u1 P4 b4 => ⟨_, _, rfl, rfl, _, _, rfl, by omega, mid41 (by omega) (by omega), fun H5 p5 s5 e5 => ?_⟩⟩⟩
      exact k _ _ H5 (AtK.of e5) (wt_low (by omega) (by omega) (by omega) (by omega)) (pot_same P4 s5) (((b12.trans b3).trans b4).same s5)

/-! ### _law_many -/
abbrev s__law_many : Stmt := topS 47
theorem sc__law_many : FnScope ["_law_weights_here", "_law_step_here", "_law_whole"] ["_law_weights_here", "_law_step_here"] (defScope s__law_many) := ⟨rfl, rfl, rfl, by decide +kernel, rfl, by decide +kernel, by decide +kernel⟩
def sp_lmany (K : PySem.W.Frag) : Sp := fun vs H Q _ => ∃ (L : Addr) (v : V) (xs : List V) (fs : List (Int × Int)) (st : Int × Int), vs = [.ref L, v] ∧ SqL K H L xs ∧ AtKs K H xs fs ∧ Wts fs ∧ AtK K H v st ∧ Wt st ∧ ∀ H', Same H H' → Q (.int (many fs st)) H'
theorem ok_lmany {f : Addr} {fd : FuncData} (F : Fun K "_law_many" "_law_many" s__law_many f fd) (C__law_total : Cal P w K mg base CX0 3 "_law_total" ["_law_some"] (sp_togL K)) : FnG P w K mg base CX0 4 f fd ["_law_weights_here", "_law_step_here"] (sp_lmany K) := by
  refine Gfun F sc__law_many (fun vs H Q E h => ?_) (fun cdv A outer s H vs Q E hg hr h => ?_)
  · obtain ⟨L, v, xs, fs, st, rfl, _⟩ := h
    rfl
  · obtain ⟨L, v, xs, fs, st, rfl, hS, hA, W, hv, hs, k⟩ := h
    refine ⟨_, (pss_cons (ps_set (i := 2) sc__law_many.nd rfl (.inl rfl) (pe_g C__law_total (hr.mono (by decide)) hg (pa_cons (pv 0) pa_nil)))
      (pss_one (ps_ret (pe_op op_fdivN (pe_op op_mulW (pe_ix ix_tup (pv 2) pe_int (fun _ _ => rfl)) (pe_ix ix_tup (pv 1) pe_int (fun _ _ => rfl))) (pe_op op_mulW (pe_ix ix_tup (pv 2) pe_int (fun _ _ => rfl)) (pe_ix ix_tup (pv 1) pe_int (fun _ _ => rfl))))))), ?_⟩
    have h12 := W.few
    refine ⟨_, rfl, L, xs, fs, 41, rfl, hS, hA, W.f, W.b, by decide, by omega, fun H1 tv s1 ht => ?_⟩
    obtain ⟨pt, rfl, hpt⟩ := ht
    obtain ⟨ps, rfl, hps⟩ := hv.same s1
    have hpt' : SqT K H1 pt [.int (tot fs).1, .int (tot fs).2] := hpt
    have tb := (tot_bt W).sm (by decide)
    have sb := hs.bt.sm (by decide)
    have t2 : 0 < (tot fs).2 := (tot_f W.f).1
    have hd := Int.mul_pos t2 hs.po
    refine ⟨_, rfl, pt, _, _, _, rfl, rfl, hpt', atI_nat (j := 0) rfl, _, rfl, ps, _, _, _, rfl, rfl, hps, atI_nat (j := 1) rfl, _, _, rfl, rfl, Sm.mulW tb.1 sb.2, ?_⟩
    refine ⟨_, rfl, pt, _, _, _, rfl, rfl, hpt', atI_nat (j := 1) rfl, _, rfl, ps, _, _, _, rfl, rfl, hps, atI_nat (j := 0) rfl, _, _, rfl, rfl, Sm.mulW tb.2 sb.1, ?_⟩
    exact ⟨_, _, rfl, rfl, ⟨by omega, (Sm.mul tb.2 sb.1).log⟩, k H1 s1⟩

end
end Lf

set_option Elab.async false
set_option linter.all false
set_option maxRecDepth 100000
set_option maxHeartbeats 4000000
set_option exponentiation.threshold 3000
namespace Lf
open PySem PySem.Spec PyProof.Rows L2
theorem bt_any : bootBuiltins "any" = some (.builtin "any") := by decide +kernel
theorem op_inK {X : Cx} {K : PySem.W.Frag} (hK : X.K = K := by rfl) : OpR X (compareOp .In) (rIn K false) := hK ▸ op_in_seq
section
variable {P : Program} {w : World} {K : PySem.W.Frag} {mg : Str → Option Value} {base : Heap}
/-- places as values -/
def nV (l : List Nat) : List V := l.map fun o : Nat => V.int (o : Int)
theorem nV_len (l : List Nat) : (nV l).length = l.length := List.length_map _
theorem nV_flat (l : List Nat) : (nV l).all flatV = true := by
  rw [List.all_eq_true]
  intro v hv
  obtain ⟨n, _, rfl⟩ := List.mem_map.mp hv
  rfl
theorem inV_nat (p : Nat) (l : List Nat) : inV (.int (p : Int)) (nV l) = l.contains p := by
  induction l with
  | nil => rfl
  | cons x l ih =>
    have e : inV (.int (p : Int)) (nV (x :: l)) = (eqV (.int (x : Int)) (.int (p : Int)) || inV (.int (p : Int)) (nV l)) := rfl
    rw [e, ih, List.contains_cons]
    congr 1
    by_cases h : x = p
    · subst h
      simp [eqV]
    · have h1 : ¬ (x : Int) = (p : Int) := by omega
      have h2 : ¬ p = x := fun z => h z.symm
      show ((x : Int) == (p : Int)) = (p == x)
      rw [show ((x : Int) == (p : Int)) = false from beq_eq_false_iff_ne.mpr h1, show (p == x) = false from beq_eq_false_iff_ne.mpr h2]
/-- a bound -/
structure Bd (b : Int × Int) : Prop where
  lo : IsF b
  bt : Bt 640 b
theorem one_less {r : Int × Int} (h : IsF r) (b : Bt 636 r) : IsF (fsub f1 r) ∧ Bt 640 (fsub f1 r) := ⟨fsub_f f1_f h, (fsub_bt f1_f h bt01.2 b).mono (by decide)⟩

/-! ### paper -/
abbrev s_paper : Stmt := topS 33
theorem sc_paper : FnScope ["weights", "step", "bound", "aboves", "up", "down", "aim", "place", "above"] ["weights", "step", "bound"] (defScope s_paper) := ⟨rfl, rfl, rfl, by decide +kernel, rfl, by decide +kernel, by decide +kernel⟩
def sp_paper (K : PySem.W.Frag) : Sp := fun vs H Q _ => ∃ (a : Addr) (v u : V) (xs : List V) (fs : List (Int × Int)) (st b : Int × Int), vs = [.ref a, v, u] ∧ Fit K H a v xs fs st ∧ AtK K H u b ∧ Bd b ∧ ∀ H' p D E, Same H H' → H D = none → H E = none → H p = none → D ≠ E → H' p = some (.tup [.ref D, .ref E]) → H' D = some (.lst (nV (upL ((aimsF fs st).map rst) b))) → H' E = some (.lst (nV (dnL ((aimsF fs st).map rst) b))) → Q (.ref p) H'
set_option maxHeartbeats 8000000 in
theorem ok_paper {f c1 : Addr} {fd : FuncData} (M : Blt mg) (Me : mg "enumerate" = none) (g1 : mg "ALL_OF_IT" = some (.ref c1)) (t1 : ∀ H, SqT K H c1 [.int 1, .int 1]) (F : Fun K "paper" "paper" s_paper f fd) (C_above_floor : Cal P w K mg base CX0 6 "above_floor" ["one"] (sp_above K)) (C_aims : Cal P w K mg base CX0 8 "aims" ["weights", "step"] (sp_aimsX K)) (C_minus : Cal P w K mg base CX0 5 "minus" ["one", "other"] (sp_minus K)) (C_is_less : Cal P w K mg base CX0 1 "is_less" ["one", "other"] (sp_is_less K)) : FnG P w K mg base CX0 9 f fd ["weights", "step", "bound"] (sp_paper K) := by
  refine Gfun F sc_paper (fun vs H Q E h => ?_) (fun cdv A outer s H vs Q E hg hr h => ?_)
  · obtain ⟨a, v, u, xs, fs, st, b, rfl, _⟩ := h
    rfl
  · obtain ⟨a, v, u, xs, fs, st, b, rfl, T, hu, hb, k⟩ := h
    refine ⟨_, (pss_cons (ps_setLc (i := 3) (own := [("aim", 6)]) (g := gName 6) (tt := tYes) rfl sc_paper.nd rfl rfl (sw_true rfl rfl rfl (by decide +kernel)) (pi_list (pe_g C_aims (hr.mono (by decide)) hg (pa_cons (pv 0) (pa_cons (pv 1) pa_nil)))) (blkOk_by (N := ["weights", "step", "bound", "aboves", "up", "down", "aim", "place", "above"]) (sc := defScope s_paper) (by decide +kernel)) (fun _ _ _ _ _ => pg_name (i := 6) sc_paper.nd rfl (Or.inl rfl)) (fun _ _ _ _ _ => pts_nil) (fun _ _ _ _ _ => (pe_g C_above_floor (hr.mono (by decide)) hg (pa_cons (pv 6) pa_nil))))
      (pss_cons (ps_setLc (i := 4) (own := [("place", 7), ("above", 8)]) (g := gTup K 2 (gCons (gName 7) (gCons (gName 8) (gNil)))) rfl sc_paper.nd rfl rfl (sw_true rfl rfl rfl (by decide +kernel)) (pi_enum rfl Me (pa_cons (pv 3) pa_nil)) (blkOk_by (N := ["weights", "step", "bound", "aboves", "up", "down", "aim", "place", "above"]) (sc := defScope s_paper) (by decide +kernel)) (fun _ _ _ _ _ => pg_tupK (K := K) rfl (pgs_cons (pg_name (i := 7) sc_paper.nd rfl (Or.inl rfl)) (pgs_cons (pg_name (i := 8) sc_paper.nd rfl (Or.inl rfl)) pgs_nil))) (fun _ _ _ _ _ => (pts_one (pt_not (pt_val (pe_g C_is_less (hr.mono (by decide)) hg (pa_cons (pv 8) (pa_cons (pv 2) pa_nil))))))) (fun _ _ _ _ _ => (pv 7)))
      (pss_cons (ps_setLc (i := 5) (own := [("place", 7), ("above", 8)]) (g := gTup K 2 (gCons (gName 7) (gCons (gName 8) (gNil)))) rfl sc_paper.nd rfl rfl (sw_true rfl rfl rfl (by decide +kernel)) (pi_enum rfl Me (pa_cons (pv 3) pa_nil)) (blkOk_by (N := ["weights", "step", "bound", "aboves", "up", "down", "aim", "place", "above"]) (sc := defScope s_paper) (by decide +kernel)) (fun _ _ _ _ _ => pg_tupK (K := K) rfl (pgs_cons (pg_name (i := 7) sc_paper.nd rfl (Or.inl rfl)) (pgs_cons (pg_name (i := 8) sc_paper.nd rfl (Or.inl rfl)) pgs_nil))) (fun _ _ _ _ _ => (pts_one (pt_not (pt_val (pe_g C_is_less (hr.mono (by decide)) hg (pa_cons (pe_g C_minus (hr.mono (by decide)) hg (pa_cons (pe_glob (v := .ref c1) rfl g1 rfl) (pa_cons (pv 8) pa_nil))) (pa_cons (pv 2) pa_nil))))))) (fun _ _ _ _ _ => (pv 7)))
      (pss_one (ps_ret (pe_tup (pa_cons (pv 4) (pa_cons (pv 5) pa_nil)))))))), ?_⟩
    have am := aims_am T.w T.s
    have h12 := T.w.few
    have rF : AllF ((aimsF fs st).map rst) := fun g hg => by
      obtain ⟨y, hy, rfl⟩ := List.mem_map.mp hg
      exact rst_f (am y hy).lo
    have rB : AllB 636 ((aimsF fs st).map rst) := fun g hg => by
      obtain ⟨y, hy, rfl⟩ := List.mem_map.mp hg
      exact rst_bt (am y hy).lo (am y hy).bt
    have rl : ((aimsF fs st).map rst).length = fs.length := by rw [List.length_map, aims_len]
    refine ⟨_, rfl, _, rfl, a, v, xs, fs, st, rfl, T, fun H1 D0 ys s1 n0 e0 hy => ?_⟩
    have hyl := hy.length
    rw [aims_len] at hyl
    have hyH : AtKs K H1 ys (aimsF fs st) := hy.same wo_le
    refine ⟨D0, rfl, ⟨_, .inl (.inl e0)⟩, fun D3 hD3 => lc_list (xs := ys) (fun i H' => (∃ zs, H' D3 = some (.lst zs) ∧ AtKs K (wo D3 H') zs (((aimsF fs st).map rst).take i)) ∧ Same H1 H') ⟨⟨[], upd_same, .nil⟩, same_new hD3⟩ (fun i H' _ h => sm_l h.2 (.inl (.inl e0))) ?_ ?_⟩
    · rintro i x H3 hx ⟨⟨zs, e3, hz⟩, s3⟩
      obtain ⟨g, hgi, hg0⟩ := hyH.get hx
      have ag := am g (List.mem_of_getElem? hgi)
      refine ⟨rfl, _, rfl, x, g, rfl, hg0.same s3, ag, fun H4 p4 s4 e4 => ?_⟩
      have hzl := hz.length
      rw [List.length_take, List.length_map, aims_len] at hzl
      have n4 : p4 ≠ D3 := fun z => by
        rw [z, s4 _ _ e3] at e4
        cases e4
      refine ⟨zs, s4 _ _ e3, by rw [sizeLine_eq]; omega, ⟨zs ++ [.ref p4], upd_same, ?_⟩, fun c o e => ?_⟩
      · rw [List.take_add_one, List.getElem?_map, hgi]
        have s7 : Same (wo D3 H3) (wo D3 (L2.upd H4 D3 (.lst (zs ++ [.ref p4])))) := fun c o e => wo_at (wo_not e) (by rw [upd_ne (wo_not e)]; exact s4 _ _ (wo_le _ _ e))
        refine (hz.same s7).app (.cons (AtK.of (wo_at n4 ?_)) .nil)
        rw [upd_ne n4]
        exact e4
      · rw [upd_ne (ne_of_none e hD3)]
        exact s4 _ _ (s3 _ _ e)
    rintro H3 ⟨⟨zs, eH3, hz'⟩, s3⟩
    rw [show ys.length = ((aimsF fs st).map rst).length by rw [List.length_map, aims_len, hyl], List.take_length] at hz'
    have hzH3 : AtKs K H3 zs ((aimsF fs st).map rst) := hz'.same wo_le
    have hzl := hzH3.length
    have s03 := s1.trans s3
    refine ⟨_, rfl, D3, zs, rfl, .inl (.inl eH3), fun DU hDU => lc_it (walk_enum (xs := zs)) (fun i H' => H' DU = some (.lst (nV ((List.range i).filter (upP ((aimsF fs st).map rst) b)))) ∧ Same H3 H') ⟨upd_same, same_new hDU⟩ (fun i H' _ h => .inl (.inl (h.2 _ _ eH3))) ?_ ?_⟩
    · rintro i x H6 H7 hi ⟨e6, s6⟩ ⟨T', x1, z1, rfl, hT, rfl, hx1, hz1⟩
      cases hx1
      have hi' : i < fs.length := by omega
      have s7 : Same H6 (L2.upd H6 T' (.tup [.int (i : Nat), z1])) := same_new hT
      have t7 : SqT K (L2.upd H6 T' (.tup [.int (i : Nat), z1])) T' [.int (i : Nat), z1] := .inl (.inl upd_same)
      generalize L2.upd H6 T' (.tup [.int (i : Nat), z1]) = H7 at s7 t7 ⊢
      obtain ⟨g, hgi, hg0⟩ := hzH3.get (show zs[i]? = some z1 from hz1)
      have hgd : ((aimsF fs st).map rst).getD i f0 = g := getD_of hgi
      have gF := rF g (List.mem_of_getElem? hgi)
      have gB := rB g (List.mem_of_getElem? hgi)
      have s67 := s6.trans s7
      have keep : ∀ H8, Same H7 H8 → upP ((aimsF fs st).map rst) b i = true → ∃ acc, H8 DU = some (.lst acc) ∧ acc.length < sizeLine ∧ (L2.upd H8 DU (.lst (acc ++ [.int (i : Nat)])) DU = some (.lst (nV ((List.range (i + 1)).filter (upP ((aimsF fs st).map rst) b)))) ∧ Same H3 (L2.upd H8 DU (.lst (acc ++ [.int (i : Nat)])))) := by
        intro H8 s8 hb
        refine ⟨_, s8 _ _ (s7 _ _ e6), ?_, ?_, fun c o e => ?_⟩
        · rw [nV_len, sizeLine_eq]
          have := List.length_filter_le (upP ((aimsF fs st).map rst) b) (List.range i)
          rw [List.length_range] at this
          omega
        · rw [upd_same, filt_step, if_pos hb]
          show _ = some (HO.lst (List.map _ _))
          rw [List.map_append]
          rfl
        · rw [upd_ne (ne_of_none e hDU)]
          exact s8 _ _ (s67 _ _ e)
      have skip : ∀ H8, Same H7 H8 → upP ((aimsF fs st).map rst) b i = false → H8 DU = some (.lst (nV ((List.range (i + 1)).filter (upP ((aimsF fs st).map rst) b)))) ∧ Same H3 H8 := by
        intro H8 s8 hb
        refine ⟨?_, s67.trans s8⟩
        rw [s8 _ _ (s7 _ _ e6), filt_step, if_neg (by rw [hb]; decide), List.append_nil]
      refine ⟨T', _, rfl, t7, rfl, _, _, rfl, _, _, rfl, rfl, rfl, ?_⟩
      have hP : upP ((aimsF fs st).map rst) b i = !lessB g b := by unfold upP; rw [hgd]
      refine ⟨_, rfl, _, rfl, _, _, _, _, pr_atk (hg0.same s67) (((hu.same s03).same s67)) gF hb.lo gB hb.bt (by decide) (by decide), _, rfl, ?_⟩
      refine ite2 (fun e => ?_) (fun e => ?_)
      · refine ⟨_, rfl, keep H7 same_rfl ?_⟩
        rw [hP]
        exact e
      · refine skip H7 same_rfl ?_
        rw [hP]
        exact Bool.eq_false_iff.mpr e
    rintro H4 ⟨eU4, s4⟩
    rw [hzl] at eU4
    have eH4 := s4 _ _ eH3
    have hzH4 := hzH3.same s4
    have s04 := s03.trans s4
    refine ⟨_, rfl, D3, zs, rfl, .inl (.inl eH4), fun DV hDV => lc_it (walk_enum (xs := zs)) (fun i H' => H' DV = some (.lst (nV ((List.range i).filter (dnP ((aimsF fs st).map rst) b)))) ∧ Same H4 H') ⟨upd_same, same_new hDV⟩ (fun i H' _ h => .inl (.inl (h.2 _ _ eH4))) ?_ ?_⟩
    · rintro i x H6 H7 hi ⟨e6, s6⟩ ⟨T', x1, z1, rfl, hT, rfl, hx1, hz1⟩
      cases hx1
      have hi' : i < fs.length := by omega
      have s7 : Same H6 (L2.upd H6 T' (.tup [.int (i : Nat), z1])) := same_new hT
      have t7 : SqT K (L2.upd H6 T' (.tup [.int (i : Nat), z1])) T' [.int (i : Nat), z1] := .inl (.inl upd_same)
      generalize L2.upd H6 T' (.tup [.int (i : Nat), z1]) = H7 at s7 t7 ⊢
      obtain ⟨g, hgi, hg0⟩ := hzH4.get (show zs[i]? = some z1 from hz1)
      have hgd : ((aimsF fs st).map rst).getD i f0 = g := getD_of hgi
      have gF := rF g (List.mem_of_getElem? hgi)
      have gB := rB g (List.mem_of_getElem? hgi)
      have s67 := s6.trans s7
      have keep : ∀ H8, Same H7 H8 → dnP ((aimsF fs st).map rst) b i = true → ∃ acc, H8 DV = some (.lst acc) ∧ acc.length < sizeLine ∧ (L2.upd H8 DV (.lst (acc ++ [.int (i : Nat)])) DV = some (.lst (nV ((List.range (i + 1)).filter (dnP ((aimsF fs st).map rst) b)))) ∧ Same H4 (L2.upd H8 DV (.lst (acc ++ [.int (i : Nat)])))) := by
        intro H8 s8 hb
        refine ⟨_, s8 _ _ (s7 _ _ e6), ?_, ?_, fun c o e => ?_⟩
        · rw [nV_len, sizeLine_eq]
          have := List.length_filter_le (dnP ((aimsF fs st).map rst) b) (List.range i)
          rw [List.length_range] at this
          omega
        · rw [upd_same, filt_step, if_pos hb]
          show _ = some (HO.lst (List.map _ _))
          rw [List.map_append]
          rfl
        · rw [upd_ne (ne_of_none e hDV)]
          exact s8 _ _ (s67 _ _ e)
      have skip : ∀ H8, Same H7 H8 → dnP ((aimsF fs st).map rst) b i = false → H8 DV = some (.lst (nV ((List.range (i + 1)).filter (dnP ((aimsF fs st).map rst) b)))) ∧ Same H4 H8 := by
        intro H8 s8 hb
        refine ⟨?_, s67.trans s8⟩
        rw [s8 _ _ (s7 _ _ e6), filt_step, if_neg (by rw [hb]; decide), List.append_nil]
      refine ⟨T', _, rfl, t7, rfl, _, _, rfl, _, _, rfl, rfl, rfl, ?_⟩
      have hP : dnP ((aimsF fs st).map rst) b i = !lessB (fsub f1 g) b := by unfold dnP; rw [hgd]
      refine ⟨_, rfl, _, _, _, _, pr_atk (f := f1) ⟨c1, rfl, t1 H7⟩ (hg0.same s67) f1_f gF bt01.2 gB (by decide) (by decide), fun H8 p8 s8 e8 => ?_⟩
      obtain ⟨oF, oB⟩ := one_less gF gB
      have a8 : AtK K H8 (.ref p8) (fsub f1 g) := AtK.of e8
      refine ⟨_, rfl, _, _, _, _, pr_atk a8 (((hu.same s04).same s67).same s8) oF hb.lo oB hb.bt (by decide) (by decide), _, rfl, ?_⟩
      refine ite2 (fun e => ?_) (fun e => ?_)
      · refine ⟨_, rfl, keep H8 s8 ?_⟩
        rw [hP]
        exact e
      · refine skip H8 s8 ?_
        rw [hP]
        exact Bool.eq_false_iff.mpr e
    rintro H5 ⟨eV5, s5⟩
    rw [hzl] at eV5
    refine ⟨_, rfl, _, rfl, len_show (Nat.le_of_ble_eq_true rfl), fun p9 n9 => ?_⟩
    have s9 : Same H5 (L2.upd H5 p9 (.tup [.ref DU, .ref DV])) := same_new n9
    have s05 := s04.trans s5
    refine k _ p9 DU DV (s05.trans s9) (same_none s03 hDU) (same_none s04 hDV) (same_none s05 n9) (fun z => ?_) upd_same (s9 _ _ (s5 _ _ eU4)) (s9 _ _ eV5)
    rw [z, hDV] at eU4
    cases eU4

end
end Lf

set_option Elab.async false
set_option linter.all false
set_option maxRecDepth 100000
set_option maxHeartbeats 4000000
set_option exponentiation.threshold 3000
namespace Lf
open PySem PySem.Spec PyProof.Rows L2
section
variable {P : Program} {w : World} {K : PySem.W.Frag} {mg : Str → Option Value} {base : Heap}
def nC (l : List Nat) : List Int := l.map fun n : Nat => (n : Int)
theorem nV_eq (l : List Nat) : nV l = (nC l).map V.int := by
  unfold nV nC
  rw [List.map_map]
  rfl
theorem nV_dp {H : Hp} {D : Addr} {l : List Nat} (e : H D = some (.lst (nV l))) : Dp K H (.ref D) (.list ((nC l).map PyData.int)) := by
  rw [nV_eq] at e
  exact .lst (.inl (.inl e)) (ints_dp _)
/-- a paper as data -/
def papD (U V' : List Nat) : PyData := .tuple [.list ((nC U).map PyData.int), .list ((nC V').map PyData.int)]
theorem pap_dp {H : Hp} {p D E : Addr} {U V' : List Nat} (e : H p = some (.tup [.ref D, .ref E])) (f : H D = some (.lst (nV U))) (g : H E = some (.lst (nV V'))) : Dp K H (.ref p) (papD U V') := .tup (.inl (.inl e)) (.cons (nV_dp f) (.cons (nV_dp g) .nil))
theorem pap_shaped (U V' : List Nat) : SeqAt.shaped (papD U V') = true := by
  obtain ⟨i1, i2⟩ := ints_lay (nC U)
  obtain ⟨j1, j2⟩ := ints_lay (nC V')
  unfold SeqAt.shaped
  rw [Bool.and_eq_true]
  refine ⟨by simp only [papD, PyData.canLay0, PyData.canLayAll0, i1, j1, Bool.and_self], decide_eq_true ?_⟩
  simp only [papD, PyData.depth, PyData.depthAll, i2, j2]
  omega
theorem pap_eqv (U V' : List Nat) : PyData.eqv (papD U V') (papD U V') = true := by
  simp only [papD, PyData.eqv, PyData.eqvAll, ints_eqvA, Bool.and_self]
theorem nC_sm {l : List Nat} {n : Nat} (h : ∀ i ∈ l, i < n) (hn : n ≤ 60) : ∀ c ∈ nC l, c.natAbs < 2 ^ 10 := by
  intro c hc
  obtain ⟨i, hi, rfl⟩ := List.mem_map.mp hc
  have := h i hi
  show (i : Int).natAbs < 1024
  omega
theorem pap_showy {U V' : List Nat} (hU : ∀ i ∈ U, i < 60) (hV : ∀ i ∈ V', i < 60) (lU : U.length ≤ 60) (lV : V'.length ≤ 60) : Showy (papD U V') := by
  have a := Ft.list (ints_ft (k := 10) (by decide) (by decide) (nC U) (nC_sm hU (Nat.le_refl _)))
  have b := Ft.list (ints_ft (k := 10) (by decide) (by decide) (nC V') (nC_sm hV (Nat.le_refl _)))
  have r := Ft.tuple (.cons a (.cons b .nil))
  have l1 : (nC U).length = U.length := List.length_map _
  have l2 : (nC V').length = V'.length := List.length_map _
  exact Ft.showy r (by omega) (by omega)
/-- data, or a dict of data -/
inductive Dz (K : PySem.W.Frag) (H : Hp) : V → PyData → Prop
  | dp {v : V} {d : PyData} (h : Dp K H v d) (n : d.hasDict = false) : Dz K H v d
  | dic {a : Addr} {kvs : List (Key × V)} {ds : List (PyData × PyData)} (h : H a = some (.dK kvs)) (p : Paired (fun (kv : Key × V) (d : PyData × PyData) => d.1 = kD kv.1 ∧ Dp K H kv.2 d.2 ∧ d.2.hasDict = false) kvs ds) : Dz K H (.ref a) (.dict ds)
theorem Dz.same {H H' : Hp} {v : V} {d : PyData} (s : Same H H') (h : Dz K H v d) : Dz K H' v d := by
  cases h with
  | dp h n => exact .dp (Dp.same s _ _ h) n
  | dic h p =>
    refine .dic (s _ _ h) ?_
    clear h
    induction p with
    | nil => exact .nil
    | cons q _ ih => exact .cons ⟨q.1, Dp.same s _ _ q.2.1, q.2.2⟩ ih
theorem Dz.ty {H : Hp} {v : V} {d : PyData} (h : Dz K H v d) : TyX K H v (.type (tyN d)) := by
  cases h with
  | dp h _ => exact Lf.Dp.ty h
  | dic h _ => exact .base (.dK h)
def isLs : PyData → Bool
  | .list _ => true
  | _ => false
theorem kl (d : PyData) : kitB (tyN d) "list" = some (isLs d) :=
  match d with
  | .none => (by decide +kernel : kitB "NoneType" "list" = some false)
  | .bool _ => (by decide +kernel : kitB "bool" "list" = some false)
  | .int _ => (by decide +kernel : kitB "int" "list" = some false)
  | .str _ => (by decide +kernel : kitB "str" "list" = some false)
  | .list _ => (by decide +kernel : kitB "list" "list" = some true)
  | .tuple _ => (by decide +kernel : kitB "tuple" "list" = some false)
  | .dict _ => (by decide +kernel : kitB "dict" "list" = some false)
def isPl : PyData → Bool
  | .list ds => ds.all isW
  | _ => false
def papL : List PyData → Bool
  | [a, b] => isPl a && isPl b
  | _ => false
def isPap : PyData → Bool
  | .tuple ds => papL ds
  | _ => false
/-- no part is too long -/
def Shrt (d : PyData) : Prop := ∀ ds, d = .list ds → ds.length ≤ 1000
theorem hd_all {ds : List PyData} {d : PyData} (h : PyData.hasDictAll ds = false) (m : d ∈ ds) : d.hasDict = false := by
  induction ds with
  | nil => cases m
  | cons a ds ih =>
    have h' : a.hasDict = false ∧ PyData.hasDictAll ds = false := by simpa [PyData.hasDictAll] using h
    rcases List.mem_cons.mp m with rfl | m
    · exact h'.1
    · exact ih h'.2 m
theorem DpAll.get {H : Hp} : ∀ {vs : List V} {ds : List PyData} {i : Nat} {v : V}, DpAll K H vs ds → vs[i]? = some v → ∃ d, ds[i]? = some d ∧ Dp K H v d
  | _, _, _, _, .nil, e => by simp at e
  | _, _, 0, _, .cons a _, e => by
    simp at e
    subst e
    exact ⟨_, rfl, a⟩
  | _, _, i + 1, v, .cons _ r, e => by
    obtain ⟨d, h1, h2⟩ := DpAll.get (i := i) (v := v) r (by simpa using e)
    exact ⟨d, by simpa using h1, h2⟩

/-! ### are_places -/
abbrev s_are_places : Stmt := topS 34
theorem sc_are_places : FnScope ["thing", "place"] ["thing"] (defScope s_are_places) := ⟨rfl, rfl, rfl, by decide +kernel, rfl, by decide +kernel, by decide +kernel⟩
def sp_places (K : PySem.W.Frag) : Sp := fun vs H Q _ => ∃ (v : V) (d : PyData), vs = [v] ∧ Dp K H v d ∧ d.hasDict = false ∧ Shrt d ∧ ∀ H', Same H H' → Q (.bl (isPl d)) H'
theorem ok_places {f : Addr} {fd : FuncData} (M : Blt mg) (Mx : Bltx mg) (ml : mg "list" = none) (F : Fun K "are_places" "are_places" s_are_places f fd) (C_is_whole : Cal P w K mg base CX0 1 "is_whole" ["thing"] (sp_whole K)) : FnG P w K mg base CX0 2 f fd ["thing"] (sp_places K) := by
  refine Gfun F sc_are_places (fun vs H Q E h => ?_) (fun cdv A outer s H vs Q E hg hr h => ?_)
  · obtain ⟨v, d, rfl, _⟩ := h
    rfl
  · obtain ⟨v, d, rfl, hd, hn, hsh, k⟩ := h
    refine ⟨_, (pss_one (ps_ret (pe_and (pe_callB call_isi rfl Mx.isinstance bt_isinstance (pa_cons (pv 0) (pa_cons (pe_bltn (v := .ty "list") rfl ml bt_list rfl) pa_nil))) (pe_one (pe_callB (cr_all rfl) rfl M.all bt_all (pa_cons (pe_lc (own := [("place", 1)]) (g := gName 1) (tt := tYes) rfl sc_are_places.nd (pi_list (pv 0)) (blkOk_by (N := ["thing", "place"]) (sc := defScope s_are_places) (by decide +kernel)) (fun _ _ _ _ _ => pg_name (i := 1) sc_are_places.nd rfl (Or.inl rfl)) (fun _ _ _ _ _ => pts_nil) (fun _ _ _ _ _ => (pe_g C_is_whole (hr.mono (by decide)) hg (pa_cons (pv 1) pa_nil)))) pa_nil)))))), ?_⟩
    refine ⟨_, rfl, _, _, _, _, _, rfl, .ty "list", Lf.Dp.ty hd, kit_ty (kl d), _, rfl, ?_⟩
    cases hd with
    | lst hS hA =>
      rename_i a xs ds
      have hl := DpAll.len hA
      have h1000 := hsh ds rfl
      refine iteT ?_
      refine ⟨_, rfl, a, rfl, ⟨_, hS⟩, fun D2 hD2 => lc_list (xs := xs) (fun i H' => H' D2 = some (.lst (((ds.take i).map isW).map V.bl)) ∧ Same H H') ⟨upd_same, same_new hD2⟩ (fun i H' _ h => sm_l h.2 hS) ?_ ?_⟩
      · rintro i x H1 hx ⟨e1, s1⟩
        obtain ⟨dx, hdx, hx1⟩ := Lf.DpAll.get hA hx
        have hnx : dx.hasDict = false := hd_all (by simpa [PyData.hasDict] using hn) (List.mem_of_getElem? hdx)
        refine ⟨rfl, _, rfl, x, dx, rfl, .dp (Dp.same s1 _ _ hx1) hnx, _, e1, ?_, ?_, fun b o eb => ?_⟩
        · rw [List.length_map, List.length_map, List.length_take, sizeLine_eq]
          omega
        · rw [upd_same, List.take_add_one, hdx, List.map_append, List.map_append]
          rfl
        · rw [upd_ne (ne_of_none eb hD2)]
          exact s1 _ _ eb
      · rintro H1 ⟨e1, s1⟩
        rw [hl, List.take_length] at e1
        refine ⟨D2, _, rfl, .inl (.inl e1), ?_⟩
        have ha : (ds.map isW).all id = isPl (.list ds) := by
          rw [List.all_map]
          rfl
        rw [ha]
        exact k _ s1
    | non => exact iteF (k H same_rfl)
    | bl _ => exact iteF (k H same_rfl)
    | int _ => exact iteF (k H same_rfl)
    | str _ => exact iteF (k H same_rfl)
    | tup _ _ => exact iteF (k H same_rfl)

/-! ### is_like_a_paper -/
abbrev s_is_like_a_paper : Stmt := topS 35
theorem sc_is_like_a_paper : FnScope ["thing"] ["thing"] (defScope s_is_like_a_paper) := ⟨rfl, rfl, rfl, by decide +kernel, rfl, by decide +kernel, by decide +kernel⟩
/-- a tuple's parts are short -/
def Shrt2 (d : PyData) : Prop := ∀ ds, d = .tuple ds → ∀ x ∈ ds, Shrt x
def sp_like (K : PySem.W.Frag) : Sp := fun vs H Q _ => ∃ (v : V) (d : PyData), vs = [v] ∧ Dz K H v d ∧ Shrt2 d ∧ ∀ H', Same H H' → Q (.bl (isPap d)) H'
theorem pap_len {ds : List PyData} (h : ds.length ≠ 2) : papL ds = false := by
  match ds, h with
  | [], _ => rfl
  | [_], _ => rfl
  | [_, _], h => exact absurd rfl h
  | _ :: _ :: _ :: _, _ => rfl
theorem ok_like {f : Addr} {fd : FuncData} (M : Blt mg) (Mx : Bltx mg) (F : Fun K "is_like_a_paper" "is_like_a_paper" s_is_like_a_paper f fd) (C_are_places : Cal P w K mg base CX0 2 "are_places" ["thing"] (sp_places K)) : FnG P w K mg base CX0 3 f fd ["thing"] (sp_like K) := by
  refine Gfun F sc_is_like_a_paper (fun vs H Q E h => ?_) (fun cdv A outer s H vs Q E hg hr h => ?_)
  · obtain ⟨v, d, rfl, _⟩ := h
    rfl
  · obtain ⟨v, d, rfl, hd, hsh, k⟩ := h
    refine ⟨_, (pss_one (ps_ret (pe_and (pe_callB call_isi rfl Mx.isinstance bt_isinstance (pa_cons (pv 0) (pa_cons (pe_bltn (v := .ty "tuple") rfl Mx.tuple bt_tuple rfl) pa_nil))) (pe_and (pe_cmpR op_eq (pe_callB call_len_seq rfl M.len bt_len (pa_cons (pv 0) pa_nil)) pe_int (nomark _)) (pe_and (pe_g C_are_places (hr.mono (by decide)) hg (pa_cons (pe_ix ix_tup (pv 0) pe_int (fun _ _ => rfl)) pa_nil)) (pe_one (pe_g C_are_places (hr.mono (by decide)) hg (pa_cons (pe_ix ix_tup (pv 0) pe_int (fun _ _ => rfl)) pa_nil)))))))), ?_⟩
    refine ⟨_, rfl, _, _, _, _, _, rfl, .ty "tuple", hd.ty, kit_ty (kt d), _, rfl, ?_⟩
    by_cases ht : isT d = true
    · rw [ht]
      refine iteT ?_
      cases hd with
      | dic h p => cases ht
      | dp h n =>
        cases h with
        | tup hS hA =>
          rename_i a xs ds
          have hl := DpAll.len hA
          refine ⟨_, rfl, a, xs, rfl, .inr hS, rfl, _, rfl, ite2 (fun e => ?_) (fun e => ?_)⟩
          · have hl2 : xs.length = 2 := by
              have := V.int.inj (of_decide_eq_true e)
              omega
            obtain ⟨x, y, d1, d2, rfl, rfl, h1, h2⟩ := two_of hA hl2
            have hn' : d1.hasDict = false ∧ d2.hasDict = false := by simpa [PyData.hasDict, PyData.hasDictAll] using n
            refine ⟨_, rfl, a, _, _, _, rfl, rfl, hS, atI_nat (j := 0) rfl, x, d1, rfl, h1, hn'.1, hsh _ rfl d1 (by simp), fun H1 s1 => ⟨_, rfl, ite2 (fun e1 => ?_) (fun e1 => ?_)⟩⟩
            · refine ⟨_, rfl, a, _, _, _, rfl, rfl, sm_t s1 hS, atI_nat (j := 1) rfl, y, d2, rfl, Dp.same s1 _ _ h2, hn'.2, hsh _ rfl d2 (by simp), fun H2 s2 => ?_⟩
              have k2 := k H2 (s1.trans s2)
              have e2 : isPap (.tuple [d1, d2]) = (isPl d1 && isPl d2) := rfl
              rw [e2, e1, Bool.true_and] at k2
              exact k2
            · have k1 := k H1 s1
              have e2 : isPap (.tuple [d1, d2]) = (isPl d1 && isPl d2) := rfl
              rw [e2, Bool.eq_false_iff.mpr e1, Bool.false_and] at k1
              exact k1
          · have hl2 : ds.length ≠ 2 := fun z => e (decide_eq_true (by rw [hl, z]; rfl))
            have k1 := k H same_rfl
            have e2 : isPap (.tuple ds) = papL ds := rfl
            rw [e2, pap_len hl2] at k1
            exact k1
        | non => cases ht
        | bl _ => cases ht
        | int _ => cases ht
        | str _ => cases ht
        | lst _ _ => cases ht
    · have ht' : isT d = false := by cases h : isT d <;> first | rfl | exact absurd h ht
      rw [ht']
      refine iteF ?_
      have k1 := k H same_rfl
      have : isPap d = false := by cases d <;> first | rfl | cases ht'; done
      rw [this] at k1
      exact k1

end
end Lf

set_option Elab.async false
set_option linter.all false
set_option maxRecDepth 100000
set_option maxHeartbeats 4000000
set_option exponentiation.threshold 3000
namespace Lf
open PySem PySem.Spec PyProof.Rows L2
section
variable {P : Program} {w : World} {K : PySem.W.Frag} {mg : Str → Option Value} {base : Heap}
theorem isPl_ints {d : PyData} (h : isPl d = true) : ∃ cs : List Int, d = .list (cs.map PyData.int) := by
  cases d with
  | list ds =>
    have h' : ds.all isW = true := h
    have key : ∀ ds : List PyData, ds.all isW = true → ∃ cs : List Int, ds = cs.map PyData.int := by
      intro ds
      induction ds with
      | nil => exact fun _ => ⟨[], rfl⟩
      | cons a ds ih =>
        intro h
        rw [List.all_cons, Bool.and_eq_true] at h
        obtain ⟨cs, rfl⟩ := ih h.2
        cases a with
        | int n => exact ⟨n :: cs, rfl⟩
        | none => cases h.1
        | bool _ => cases h.1
        | str _ => cases h.1
        | list _ => cases h.1
        | tuple _ => cases h.1
        | dict _ => cases h.1
    obtain ⟨cs, rfl⟩ := key ds h'
    exact ⟨cs, rfl⟩
  | none => cases h
  | bool _ => cases h
  | int _ => cases h
  | str _ => cases h
  | tuple _ => cases h
  | dict _ => cases h
theorem isPap_ints {d : PyData} (h : isPap d = true) : ∃ cs es : List Int, d = .tuple [.list (cs.map PyData.int), .list (es.map PyData.int)] := by
  cases d with
  | tuple ds =>
    match ds, h with
    | [a, b], h =>
      have h' : (isPl a && isPl b) = true := h
      rw [Bool.and_eq_true] at h'
      obtain ⟨cs, rfl⟩ := isPl_ints h'.1
      obtain ⟨es, rfl⟩ := isPl_ints h'.2
      exact ⟨cs, es, rfl⟩
    | [], h => cases h
    | [_], h => cases h
    | _ :: _ :: _ :: _, h => cases h
  | none => cases h
  | bool _ => cases h
  | int _ => cases h
  | str _ => cases h
  | list _ => cases h
  | dict _ => cases h
theorem ints_eqvD : ∀ cs es : List Int, PyData.eqvAll (cs.map PyData.int) (es.map PyData.int) = decide (cs = es)
  | [], [] => by simp [PyData.eqvAll]
  | [], _ :: _ => by simp [PyData.eqvAll]
  | _ :: _, [] => by simp [PyData.eqvAll]
  | c :: cs, e :: es => by
    simp only [List.map_cons, PyData.eqvAll, PyData.eqv, ints_eqvD cs es]
    by_cases h : c = e
    · subst h
      simp
    · simp [h]
theorem pap_shaped2 (cs es : List Int) : SeqAt.shaped (.tuple [.list (cs.map PyData.int), .list (es.map PyData.int)]) = true := by
  obtain ⟨i1, i2⟩ := ints_lay cs
  obtain ⟨j1, j2⟩ := ints_lay es
  unfold SeqAt.shaped
  rw [Bool.and_eq_true]
  refine ⟨by simp only [PyData.canLay0, PyData.canLayAll0, i1, j1, Bool.and_self], decide_eq_true ?_⟩
  simp only [PyData.depth, PyData.depthAll, i2, j2]
  omega
theorem pap_eqv2 (cs es : List Int) (U V' : List Nat) : PyData.eqv (.tuple [.list (cs.map PyData.int), .list (es.map PyData.int)]) (papD U V') = decide (cs = nC U ∧ es = nC V') := by
  simp only [papD, PyData.eqv, PyData.eqvAll, ints_eqvD, Bool.and_true]
  by_cases h1 : cs = nC U
  · by_cases h2 : es = nC V'
    · simp [h1, h2]
    · simp [h1, h2]
  · simp [h1]

/-! ### shows -/
abbrev s_shows : Stmt := topS 36
theorem sc_shows : FnScope ["weights", "step", "bound", "thing", "told", "more", "up", "down", "place"] ["weights", "step", "bound", "thing"] (defScope s_shows) := ⟨rfl, rfl, rfl, by decide +kernel, rfl, by decide +kernel, by decide +kernel⟩
/-- what shows tells of a thing -/
def isThe (d : PyData) (U V' : List Nat) : Bool := isPap d && PyData.eqv d (papD U V')
def sp_shows (K : PySem.W.Frag) : Sp := fun vs H Q _ => ∃ (a : Addr) (v u x : V) (d : PyData) (xs : List V) (fs : List (Int × Int)) (st b : Int × Int), vs = [.ref a, v, u, x] ∧ Fit K H a v xs fs st ∧ AtK K H u b ∧ Bd b ∧ Dz K H x d ∧ Shrt2 d ∧
  ∀ H', Same H H' → Q (.bl (isThe d (upL ((aimsF fs st).map rst) b) (dnL ((aimsF fs st).map rst) b) && showsB (upL ((aimsF fs st).map rst) b) (dnL ((aimsF fs st).map rst) b) (more fs st) fs.length)) H'
theorem ok_shows {f : Addr} {fd : FuncData} (M : Blt mg) (many_ : mg "any" = none) (F : Fun K "shows" "shows" s_shows f fd) (C_paper : Cal P w K mg base CX0 9 "paper" ["weights", "step", "bound"] (sp_paper K)) (C_is_like_a_paper : Cal P w K mg base CX0 3 "is_like_a_paper" ["thing"] (sp_like K)) (C_how_many_more : Cal P w K mg base CX0 9 "how_many_more" ["weights", "step"] (sp_more K)) : FnG P w K mg base CX0 10 f fd ["weights", "step", "bound", "thing"] (sp_shows K) := by
  refine Gfun F sc_shows (fun vs H Q E h => ?_) (fun cdv A outer s H vs Q E hg hr h => ?_)
  · obtain ⟨a, v, u, x, d, xs, fs, st, b, rfl, _⟩ := h
    rfl
  · obtain ⟨a, v, u, x, d, xs, fs, st, b, rfl, T, hu, hb, hz, hsh, k⟩ := h
    refine ⟨_, (pss_cons (ps_set (i := 4) sc_shows.nd rfl (.inl rfl) (pe_g C_paper (hr.mono (by decide)) hg (pa_cons (pv 0) (pa_cons (pv 1) (pa_cons (pv 2) pa_nil)))))
      (pss_cons (ps_if (PW.pt (pw_or (pt_not (pt_val (pe_g C_is_like_a_paper (hr.mono (by decide)) hg (pa_cons (pv 3) pa_nil)))) (pw_or1 (pt_cmpR (op_neD hr.units) (pv 3) (pv 4) (nomark _)))))
      (pss_one (ps_ret pe_bl))
      pss_nil)
      (pss_cons (ps_asg (pv 4) (pg_tup rfl (pgs_cons (pg_name (i := 6) sc_shows.nd rfl (.inl rfl)) (pgs_cons (pg_name (i := 7) sc_shows.nd rfl (.inr rfl)) pgs_nil))))
      (pss_cons (ps_set (i := 5) sc_shows.nd rfl (.inl rfl) (pe_g C_how_many_more (hr.mono (by decide)) hg (pa_cons (pv 0) (pa_cons (pv 1) pa_nil))))
      (pss_cons (ps_if (pt_val (pe_callB (cr_any rfl) rfl many_ bt_any (pa_cons (pe_lc (own := [("place", 8)]) (g := gName 8) (tt := tYes) rfl sc_shows.nd (pi_list (pv 6)) (blkOk_by (N := ["weights", "step", "bound", "thing", "told", "more", "up", "down", "place"]) (sc := defScope s_shows) (by decide +kernel)) (fun _ _ _ _ _ => pg_name (i := 8) sc_shows.nd rfl (Or.inl rfl)) (fun _ _ _ _ _ => pts_nil) (fun _ _ _ _ _ => (pe_cmpR (op_inK (K := K)) (pv 8) (pv 7) rfl))) pa_nil)))
      (pss_one (ps_ret pe_bl))
      pss_nil)
      (pss_one (ps_ret (pe_or (pe_cmpR op_gt (pe_callB call_len_seq rfl M.len bt_len (pa_cons (pv 6) pa_nil)) (pv 5) (nomark _)) (pe_one (pe_cmpR op_lt (pe_op op_sub (pe_callB call_len_seq rfl M.len bt_len (pa_cons (pv 0) pa_nil)) (pe_callB call_len_seq rfl M.len bt_len (pa_cons (pv 7) pa_nil))) (pv 5) (nomark _))))))))))), ?_⟩
    have h12 := T.w.few
    have rl : ((aimsF fs st).map rst).length = fs.length := by rw [List.length_map, aims_len]
    have lU := up_le ((aimsF fs st).map rst) b
    have lV := dn_le ((aimsF fs st).map rst) b
    obtain ⟨U, hU⟩ : ∃ U, U = upL ((aimsF fs st).map rst) b := ⟨_, rfl⟩
    obtain ⟨V', hV⟩ : ∃ V', V' = dnL ((aimsF fs st).map rst) b := ⟨_, rfl⟩
    rw [← hU] at lU k
    rw [← hV] at lV k
    refine ⟨_, rfl, _, rfl, _, rfl, a, v, u, xs, fs, st, b, rfl, T, hu, hb, fun H1 p1 D1 E1 s1 nD nE np ne e1 f1 g1 => ?_⟩
    rw [← hU] at f1
    rw [← hV] at g1
    refine ⟨_, rfl, x, d, rfl, hz.same s1, hsh, fun H2 s2 => ⟨_, rfl, ?_⟩⟩
    have s02 := s1.trans s2
    have no : isThe d U V' = false → Q (.bl false) H2 := fun e => by
      have k2 := k H2 s02
      rw [e, Bool.false_and] at k2
      exact k2
    by_cases hp : isPap d = true
    · rw [hp]
      refine iteF ?_
      obtain ⟨cs, es, rfl⟩ := isPap_ints hp
      have hdz : Dp K H2 x (.tuple [.list (cs.map PyData.int), .list (es.map PyData.int)]) := by
        have := hz.same s02
        cases this with
        | dp h _ => exact h
      refine ⟨_, rfl, _, rfl, _, _, hdz, pap_dp (s2 _ _ e1) (s2 _ _ f1) (s2 _ _ g1), pap_shaped2 _ _, pap_shaped _ _, _, rfl, ?_⟩
      by_cases he : PyData.eqv (.tuple [.list (cs.map PyData.int), .list (es.map PyData.int)]) (papD U V') = true
      · rw [he]
        refine iteF ?_
        have hthe : isThe (.tuple [.list (cs.map PyData.int), .list (es.map PyData.int)]) U V' = true := by
          unfold isThe
          rw [hp, he]
          rfl
        rw [hthe] at k
        simp only [Bool.true_and] at k
        refine ⟨_, rfl, p1, _, rfl, .inl (.inl (s2 _ _ e1)), rfl, _, _, rfl, _, _, rfl, rfl, ?_⟩
        refine ⟨_, rfl, _, rfl, a, v, xs, fs, st, rfl, T.same s02, fun H3 s3 => ?_⟩
        have s13 := s2.trans s3
        have f3 := s13 _ _ f1
        have g3 := s13 _ _ g1
        have s03 := s1.trans s13
        refine ⟨_, rfl, D1, rfl, ⟨_, .inl (.inl f3)⟩, fun D4 hD4 => lc_list (xs := nV U) (fun i H' => H' D4 = some (.lst (((U.take i).map fun q => V'.contains q).map V.bl)) ∧ Same H3 H') ⟨upd_same, same_new hD4⟩ (fun i H' _ h => .inl (.inl (h.2 _ _ f3))) ?_ ?_⟩
        · rintro i x H4 hx ⟨e4, s4⟩
          obtain ⟨n, hn, rfl⟩ : ∃ n : Nat, U[i]? = some n ∧ x = .int (n : Int) := by
            have hx' : (U.map fun o : Nat => V.int (o : Int))[i]? = some x := hx
            rw [List.getElem?_map] at hx'
            cases e : U[i]? with
            | none => rw [e] at hx'; cases hx'
            | some n => rw [e] at hx'; exact ⟨n, rfl, (Option.some.inj hx').symm⟩
          refine ⟨rfl, _, rfl, _, rfl, E1, _, rfl, .inl (.inl (.inl (s4 _ _ g3))), rfl, nV_flat _, _, e4, ?_, ?_, fun c o eb => ?_⟩
          · rw [List.length_map, List.length_map, List.length_take, sizeLine_eq]
            omega
          · rw [upd_same, List.take_add_one, hn, List.map_append, List.map_append]
            show some (HO.lst (_ ++ [V.bl (inV (.int (n : Int)) (nV V'))])) = _
            rw [inV_nat]
            rfl
          · rw [upd_ne (ne_of_none eb hD4)]
            exact s4 _ _ eb
        · rintro H4 ⟨e4, s4⟩
          rw [nV_len, List.take_length] at e4
          have hany : (U.map fun q => V'.contains q).any id = U.any fun q => V'.contains q := by
            rw [List.any_map]
            rfl
          have s04 := s03.trans s4
          have k4 := k H4 s04
          unfold showsB at k4
          refine ⟨D4, _, rfl, .inl (.inl e4), _, rfl, ?_⟩
          rw [hany]
          refine ite2 (fun e => ?_) (fun e => ?_)
          · rw [e] at k4
            exact k4
          · rw [Bool.eq_false_iff.mpr e, Bool.false_or] at k4
            have f4 := s4 _ _ f3
            have g4 := s4 _ _ g3
            refine ⟨_, rfl, D1, _, rfl, .inl (.inl (.inl f4)), _, rfl, _, _, rfl, rfl, _, rfl, ?_⟩
            rw [nV_len]
            refine ite2 (fun e2 => ?_) (fun e2 => ?_)
            · have e2' : decide (more fs st < (U.length : Int)) = true := e2
              rw [e2'] at k4
              exact k4
            · have e2' : decide (more fs st < (U.length : Int)) = false := Bool.eq_false_iff.mpr e2
              rw [e2', Bool.false_or] at k4
              refine ⟨_, rfl, a, xs, rfl, sm_x s04 T.sq, _, rfl, E1, _, rfl, .inl (.inl (.inl g4)), _, _, rfl, rfl, _, rfl, _, _, rfl, rfl, ?_⟩
              rw [nV_len, T.at_.length]
              exact k4
      · have he' : PyData.eqv (.tuple [.list (cs.map PyData.int), .list (es.map PyData.int)]) (papD U V') = false := Bool.eq_false_iff.mpr he
        rw [he']
        refine iteT ?_
        exact no (by unfold isThe; rw [he', Bool.and_false])
    · have hp' : isPap d = false := Bool.eq_false_iff.mpr hp
      rw [hp']
      refine iteT ?_
      exact no (by unfold isThe; rw [hp', Bool.false_and])

end
end Lf

set_option Elab.async false
set_option linter.all false
set_option maxRecDepth 100000
set_option maxHeartbeats 4000000
set_option exponentiation.threshold 3000
namespace Lf
open PySem PySem.Spec PyProof.Rows L2
theorem op_eqDK {X : Cx} {K : PySem.W.Frag} (h : X.A.units + 64 < cLine) (hK : X.K = K := by rfl) : OpR X (compareOp .Eq) (rEqD K) := hK ▸ op_eqD h
section
variable {P : Program} {w : World} {K : PySem.W.Frag} {mg : Str → Option Value} {base : Heap}

/-! ### _law_fit_step -/
abbrev s__law_fit_step : Stmt := topS 48
theorem sc__law_fit_step : FnScope ["_law_pot_here", "_law_weights_here", "_law_step_here"] ["_law_pot_here", "_law_weights_here"] (defScope s__law_fit_step) := ⟨rfl, rfl, rfl, by decide +kernel, rfl, by decide +kernel, by decide +kernel⟩
/-- a step that goes in -/
def sp_fit (K : PySem.W.Frag) : Sp := fun vs H Q _ => ∃ (q L : Addr) (xs : List V) (fs : List (Int × Int)), vs = [.ref q, .ref L] ∧ Ws K H q L xs fs ∧ Wts fs ∧ Pot H q ∧ ∀ (v : V) (f : Int × Int) (H' : Hp), AtK K H' v f → (Wt f ∧ many fs f ≠ 0) → Pot H' q → But q H H' → Q v H'
theorem ok_fit {f : Addr} {fd : FuncData} (F : Fun K "_law_fit_step" "_law_fit_step" s__law_fit_step f fd) (C__law_step : Cal P w K mg base CX0 4 "_law_step" ["_law_pot_here", "_law_weights_here"] (sp_step K)) (C__law_many : Cal P w K mg base CX0 4 "_law_many" ["_law_weights_here", "_law_step_here"] (sp_lmany K)) : FnG P w K mg base CX0 5 f fd ["_law_pot_here", "_law_weights_here"] (sp_fit K) := by
  refine Gfun F sc__law_fit_step (fun vs H Q E h => ?_) (fun cdv A outer s H vs Q E hg hr h => ?_)
  · obtain ⟨q, L, xs, fs, rfl, _⟩ := h
    rfl
  · obtain ⟨q, L, xs, fs, rfl, S, W, hP, k⟩ := h
    refine ⟨_, (pss_cons (ps_set (i := 2) sc__law_fit_step.nd rfl (.inl rfl) (pe_g C__law_step (hr.mono (by decide)) hg (pa_cons (pv 0) (pa_cons (pv 1) pa_nil))))
      (pss_cons (ps_if (pt_cmpR op_eq (pe_g C__law_many (hr.mono (by decide)) hg (pa_cons (pv 1) (pa_cons (pv 2) pa_nil))) pe_int (nomark _))
      (pss_one (ps_set (i := 2) sc__law_fit_step.nd rfl (.inl rfl) (pe_ix ix_list (pv 1) pe_int (fun _ _ => rfl))))
      pss_nil)
      (pss_one (ps_ret (pv 2))))), ?_⟩
    refine ⟨_, rfl, _, rfl, q, L, xs, fs, rfl, S, W, hP, fun v g H1 hv hw P1 b1 => ?_⟩
    have S1 := S.but b1 hP
    refine ⟨_, rfl, _, rfl, L, v, xs, fs, g, rfl, .inl (.inl S1.l), S1.at_, W, hv, hw, fun H2 s2 => ⟨rfl, _, rfl, ite2 (fun e => ?_) (fun e => ?_)⟩⟩
    · have hl := S1.at_.length
      have h1 := W.one
      obtain ⟨x0, hx0⟩ : ∃ x0, xs[0]? = some x0 := ⟨_, List.getElem?_eq_getElem (by omega)⟩
      obtain ⟨g0, hg0, hat0⟩ := S1.at_.get hx0
      refine ⟨_, rfl, L, _, _, _, rfl, rfl, .inl (.inl (s2 _ _ S1.l)), atI_nat (j := 0) hx0, ?_⟩
      exact ⟨_, rfl, k x0 g0 H2 (hat0.same s2) ⟨W.all g0 (List.mem_of_getElem? hg0), many_head W hg0⟩ (pot_same P1 s2) (b1.same s2)⟩
    · exact ⟨_, rfl, k v g H2 (hv.same s2) ⟨hw, fun z => e (by rw [z]; decide)⟩ (pot_same P1 s2) (b1.same s2)⟩

/-! ### _law_less -/
abbrev s__law_less : Stmt := topS 49
theorem sc__law_less : FnScope ["_law_one", "_law_other"] ["_law_one", "_law_other"] (defScope s__law_less) := ⟨rfl, rfl, rfl, by decide +kernel, rfl, by decide +kernel, by decide +kernel⟩
theorem ok_lless {f : Addr} {fd : FuncData} (F : Fun K "_law_less" "_law_less" s__law_less f fd) : FnG P w K mg base CX0 1 f fd ["_law_one", "_law_other"] (sp_is_less K) := by
  refine Gfun F sc__law_less (fun vs H Q E h => ?_) (fun cdv A outer s H vs Q E hg hr h => ?_)
  · obtain ⟨a, b, c, d, h, _⟩ := h
    obtain ⟨p, q, rfl, _⟩ := h.ex
    rfl
  · obtain ⟨a, b, c, d, h, k⟩ := h
    obtain ⟨p, q, rfl, hp, hq⟩ := h.ex
    refine ⟨_, (pss_one (ps_ret (pe_cmpR op_lt (pe_op op_mulW (pe_ix ix_tup (pv 0) pe_int (fun _ _ => rfl)) (pe_ix ix_tup (pv 1) pe_int (fun _ _ => rfl))) (pe_op op_mulW (pe_ix ix_tup (pv 1) pe_int (fun _ _ => rfl)) (pe_ix ix_tup (pv 0) pe_int (fun _ _ => rfl))) (nomark _)))), ?_⟩
    refine ⟨_, rfl, p, _, _, _, rfl, rfl, hp, rfl, _, rfl, q, _, _, _, rfl, rfl, hq, rfl, _, _, rfl, rfl, Sm.mulW h.a1 h.d1, ?_⟩
    exact ⟨_, rfl, q, _, _, _, rfl, rfl, hq, rfl, _, rfl, p, _, _, _, rfl, rfl, hp, rfl, _, _, rfl, rfl, Sm.mulW h.c1 h.b1, _, _, rfl, rfl, k⟩

/-! ### _law_bound -/
abbrev s__law_bound : Stmt := topS 50
theorem sc__law_bound : FnScope ["_law_pot_here", "_law_bottom"] ["_law_pot_here"] (defScope s__law_bound) := ⟨rfl, rfl, rfl, by decide +kernel, rfl, by decide +kernel, by decide +kernel⟩
theorem Wt.bd {b : Int × Int} (h : Wt b) : Bd b := ⟨h.lo, h.bt.mono (by decide)⟩
def sp_bound (K : PySem.W.Frag) : Sp := fun vs H Q _ => ∃ q : Addr, vs = [.ref q] ∧ Pot H q ∧ GivesW K H q Q
theorem ok_bound {f : Addr} {fd : FuncData} (M : Blt mg) (F : Fun K "_law_bound" "_law_bound" s__law_bound f fd) (C__law_draw : Cal P w K mg base CX0 1 "_law_draw" ["_law_pot_here", "_law_many_here"] sp_draw) (C__law_low : Cal P w K mg base CX0 1 "_law_low" ["_law_top", "_law_bottom"] sp_low) : FnG P w K mg base CX0 2 f fd ["_law_pot_here"] (sp_bound K) := by
  refine Gfun F sc__law_bound (fun vs H Q E h => ?_) (fun cdv A outer s H vs Q E hg hr h => ?_)
  · obtain ⟨q, rfl, _⟩ := h
    rfl
  · obtain ⟨q, rfl, hP, k⟩ := h
    refine ⟨_, (pss_cons (ps_set (i := 1) sc__law_bound.nd rfl (.inl rfl) (pe_op op_add pe_int (pe_g C__law_draw (hr.mono (by decide)) hg (pa_cons (pv 0) (pa_cons (pe_ix ix_list (pe_lst (pa_cons pe_int (pa_cons (pe_op op_sub (pe_op op_pow pe_int pe_int) pe_int) pa_nil))) (pe_callTy call_int1 rfl M.int bt_int (pa_cons (pe_cmpR op_eq (pe_g C__law_draw (hr.mono (by decide)) hg (pa_cons (pv 0) (pa_cons pe_int pa_nil))) pe_int (nomark _)) pa_nil)) (fun _ _ => rfl)) pa_nil)))))
      (pss_one (ps_ret (pe_g C__law_low (hr.mono (by decide)) hg (pa_cons (pe_op op_add pe_int (pe_g C__law_draw (hr.mono (by decide)) hg (pa_cons (pv 0) (pa_cons (pv 1) pa_nil)))) (pa_cons (pv 1) pa_nil)))))), ?_⟩
    have big : ∀ m : Int, 0 < m → m < 2 ^ 41 → m.natAbs < 2 ^ 900 := fun m h0 h1 => Nat.lt_of_lt_of_le (show m.natAbs < 2 ^ 41 by omega) (Nat.pow_le_pow_right (by decide) (by decide))
    refine ⟨_, rfl, _, _, rfl, rfl, ⟨by decide, by decide, by decide⟩, _, _, rfl, rfl, len_show (Nat.le_of_ble_eq_true rfl), fun p1 n1 => ?_⟩
    have s1 := same_new (o := .lst [.int 24, .int (10 ^ 12 - 1)]) n1
    have e1 : L2.upd H p1 (.lst [.int 24, .int (10 ^ 12 - 1)]) p1 = some (.lst [.int 24, .int (10 ^ 12 - 1)]) := upd_same
    have np1 := pot_ne hP n1
    have P1 := pot_same hP s1
    have b1 : But q H (L2.upd H p1 (.lst [.int 24, .int (10 ^ 12 - 1)])) := But.same But.rfl s1
    refine ⟨_, rfl, q, 3, rfl, by decide, by decide, P1, fun r H2 r0 r1 P2 b2 => ⟨rfl, .inr ⟨_, rfl, ?_⟩⟩⟩
    have e2 := b2 _ _ np1 e1
    obtain ⟨m, hm0, hm1, hat⟩ : ∃ m : Int, 0 < m ∧ m < 2 ^ 40 ∧ atI [V.int 24, V.int (10 ^ 12 - 1)] (if decide (V.int r = V.int 0) = true then 1 else 0) = some (.int m) := by
      by_cases z : r = 0
      · exact ⟨10 ^ 12 - 1, by decide, by decide, by rw [z]; rfl⟩
      · refine ⟨24, by decide, by decide, ?_⟩
        rw [if_neg (by rw [decide_eq_true_eq]; exact fun y => z (V.int.inj y))]
        rfl
    refine ⟨p1, _, _, _, rfl, rfl, .inl (.inl e2), hat, q, m, rfl, hm0, big m hm0 (by omega), P2, fun r2 H3 r20 r21 P3 b3 => ?_⟩
    refine ⟨_, _, rfl, rfl, _, rfl, _, rfl, q, _, rfl, by omega, big _ (by omega) (by omega), P3, fun r3 H4 r30 r31 P4 b4 => ?_⟩
    refine ⟨_, _, rfl, rfl, _, rfl, _, _, rfl, by omega, mid41 (by omega) (by omega), fun H5 p5 s5 e5 => ?_⟩
    exact k _ _ H5 (AtK.of e5) (wt_low (by omega) (by omega) (by omega) (by omega)) (pot_same P4 s5) ((((b1.trans b2).trans b3).trans b4).same s5)

/-! ### _law_odd_list -/
abbrev s__law_odd_list : Stmt := topS 51
theorem sc__law_odd_list : FnScope ["_law_pot_here", "_law_some", "_law_way", "_law_at", "_law_one"] ["_law_pot_here", "_law_some"] (defScope s__law_odd_list) := ⟨rfl, rfl, rfl, by decide +kernel, rfl, by decide +kernel, by decide +kernel⟩
/-- a list that is put otherwise -/
def OddL (U : List Nat) (d : PyData) : Prop := (∃ ds : List PyData, d = .list ds ∧ (∀ x ∈ ds, Leaf x ∧ Ft 10 0 x) ∧ ds.length ≤ 70) ∨ d = .tuple (U.map fun n : Nat => PyData.int (n : Int)) ∨ d = .none ∨ d = .str (Str.ofString "0")
/-- leaves in a list -/
def LfL (vs : List V) (ds : List PyData) : Prop := ds = vs.map (fun v => match v with | .int i => PyData.int i | .bl b => PyData.bool b | _ => .none) ∧ ∀ v ∈ vs, (∃ n : Nat, v = .int (n : Int) ∧ n < 60) ∨ v = .int (-1) ∨ ∃ b, v = .bl b
theorem ft_b (b : Bool) : Ft 10 0 (.bool b) := by
  have := Ft.bool b
  exact ⟨this.sh, this.nd, this.dp, this.lv, Nat.le_trans this.wt (by decide)⟩
theorem lf_dp {H : Hp} {D : Addr} {vs : List V} (h : ∀ v ∈ vs, (∃ n : Nat, v = .int (n : Int) ∧ n < 60) ∨ v = .int (-1) ∨ ∃ b, v = .bl b) (e : H D = some (.lst vs)) (hl : vs.length ≤ 70) : ∃ d, Dp K H (.ref D) d ∧ (∃ ds : List PyData, d = .list ds ∧ (∀ x ∈ ds, Leaf x ∧ Ft 10 0 x) ∧ ds.length ≤ 70) := by
  have key : ∀ vs : List V, (∀ v ∈ vs, (∃ n : Nat, v = .int (n : Int) ∧ n < 60) ∨ v = .int (-1) ∨ ∃ b, v = .bl b) → ∃ ds, DpAll K H vs ds ∧ (∀ x ∈ ds, Leaf x ∧ Ft 10 0 x) ∧ ds.length = vs.length := by
    intro vs
    induction vs with
    | nil => exact fun _ => ⟨[], .nil, (fun x hx => by cases hx), rfl⟩
    | cons v vs ih =>
      intro h
      obtain ⟨ds, h1, h2, h3⟩ := ih fun x hx => h x (List.mem_cons_of_mem _ hx)
      obtain ⟨d, hd, hlf⟩ : ∃ d, Dp K H v d ∧ Leaf d ∧ Ft 10 0 d := by
        rcases h v List.mem_cons_self with ⟨n, rfl, hn60⟩ | rfl | ⟨b, rfl⟩
        · exact ⟨_, .int _, .nat n, Ft.intB (k := 10) (show ((n : Int)).natAbs < 1024 by omega) (by decide) (by decide)⟩
        · exact ⟨_, .int _, .neg, Ft.intB (k := 10) (show ((-1 : Int)).natAbs < 1024 by decide) (by decide) (by decide)⟩
        · exact ⟨_, .bl b, .tru b, ft_b b⟩
      refine ⟨d :: ds, .cons hd h1, fun x hx => ?_, by simp [h3]⟩
      rcases List.mem_cons.mp hx with rfl | hx
      · exact hlf
      · exact h2 x hx
  obtain ⟨ds, h1, h2, h3⟩ := key vs h
  exact ⟨.list ds, .lst (.inl (.inl e)) h1, ds, rfl, h2, by omega⟩
theorem nV_lf {U : List Nat} (hU : ∀ i ∈ U, i < 60) {v : V} (h : v ∈ nV U) : (∃ n : Nat, v = .int (n : Int) ∧ n < 60) ∨ v = .int (-1) ∨ ∃ b, v = .bl b := by
  obtain ⟨n, hn, rfl⟩ := List.mem_map.mp h
  exact .inl ⟨n, rfl, hU n hn⟩
theorem cut_mem {xs : List V} {lo hi : Option Int} {v : V} (h : v ∈ cutV xs lo hi) : v ∈ xs := List.mem_of_mem_drop (List.mem_of_mem_take h)
def sp_oddl (K : PySem.W.Frag) : Sp := fun vs H Q _ => ∃ (q D : Addr) (U : List Nat), vs = [.ref q, .ref D] ∧ Pot H q ∧ D ≠ q ∧ H D = some (.lst (nV U)) ∧ U.length ≤ 12 ∧ (∀ i ∈ U, i < 60) ∧ ∀ (v : V) (d : PyData) (H' : Hp), Dp K H' v d → OddL U d → Pot H' q → But q H H' → Q v H'
theorem ok_oddl {f : Addr} {fd : FuncData} (M : Blt mg) (Mx : Bltx mg) (F : Fun K "_law_odd_list" "_law_odd_list" s__law_odd_list f fd) (C__law_draw : Cal P w K mg base CX0 1 "_law_draw" ["_law_pot_here", "_law_many_here"] sp_draw) : FnG P w K mg base CX0 2 f fd ["_law_pot_here", "_law_some"] (sp_oddl K) := by
  refine Gfun F sc__law_odd_list (fun vs H Q E h => ?_) (fun cdv A outer s H vs Q E hg hr h => ?_)
  · obtain ⟨q, D, U, rfl, _⟩ := h
    rfl
  · obtain ⟨q, D, U, rfl, hP, hne, eD, lU, hU, k⟩ := h
    refine ⟨_, (pss_cons (ps_set (i := 2) sc__law_odd_list.nd rfl (.inl rfl) (pe_g C__law_draw (hr.mono (by decide)) hg (pa_cons (pv 0) (pa_cons pe_int pa_nil))))
      (pss_cons (ps_set (i := 3) sc__law_odd_list.nd rfl (.inl rfl) (pe_g C__law_draw (hr.mono (by decide)) hg (pa_cons (pv 0) (pa_cons (pe_op op_add (pe_callB call_len_seq rfl M.len bt_len (pa_cons (pv 1) pa_nil)) pe_int) pa_nil))))
      (pss_cons (ps_if (pt_cmpR op_lt (pv 2) pe_int (nomark _))
      (pss_one (ps_ret (pe_op op_cat (pe_op op_cat (pe_slice sl_list (pv 1) po_none (po_some (pv 3))) (pe_lst (pa_cons (pe_ix ix_list (pe_lst (pa_cons pe_int (pa_cons (pe_un un_neg pe_int) (pa_cons (pe_g C__law_draw (hr.mono (by decide)) hg (pa_cons (pv 0) (pa_cons pe_int pa_nil))) pa_nil)))) (pv 2) (fun _ _ => rfl)) pa_nil))) (pe_slice sl_list (pv 1) (po_some (pv 3)) po_none))))
      pss_nil)
      (pss_cons (ps_if (pt_cmpR op_eq (pv 2) pe_int (nomark _))
      (pss_one (ps_ret (pe_op op_cat (pe_slice sl_list (pv 1) po_none (po_some (pv 3))) (pe_slice sl_list (pv 1) (po_some (pe_op op_add (pv 3) pe_int)) po_none))))
      pss_nil)
      (pss_cons (ps_if (pt_cmpR op_eq (pv 2) pe_int (nomark _))
      (pss_one (ps_ret (pe_revL (pv 1))))
      pss_nil)
      (pss_cons (ps_if (pt_cmpR op_eq (pv 2) pe_int (nomark _))
      (pss_one (ps_ret (pe_lc (own := [("_law_one", 4)]) (g := gName 4) (tt := tYes) rfl sc__law_odd_list.nd (pi_list (pv 1)) (blkOk_by (N := ["_law_pot_here", "_law_some", "_law_way", "_law_at", "_law_one"]) (sc := defScope s__law_odd_list) (by decide +kernel)) (fun _ _ _ _ _ => pg_name (i := 4) sc__law_odd_list.nd rfl (Or.inl rfl)) (fun _ _ _ _ _ => pts_nil) (fun _ _ _ _ _ => (pe_ifExp (pt_cmpR op_lt (pv 4) pe_int (nomark _)) (pe_cmpR op_eq (pv 4) pe_int (nomark _)) (pv 4))))))
      pss_nil)
      (pss_one (ps_ret (pe_ix ix_list (pe_lst (pa_cons (pe_callTy call_tuple_of rfl Mx.tuple bt_tuple (pa_cons (pv 1) pa_nil)) (pa_cons pe_non (pa_cons pe_str pa_nil)))) (pe_op op_sub (pv 2) pe_int) (fun _ _ => rfl)))))))))), ?_⟩
    refine ⟨_, rfl, q, 9, rfl, by decide, by decide, hP, fun way H1 w0 w1 P1 b1 => ?_⟩
    have e1 := b1 _ _ hne eD
    refine ⟨_, rfl, _, rfl, D, _, rfl, .inl (.inl (.inl e1)), _, _, rfl, rfl, q, _, rfl, ?_, ?_, P1, fun at_ H2 a0 a1 P2 b2 => ?_⟩
    · rw [nV_len]
      omega
    · rw [nV_len]
      exact Nat.lt_of_lt_of_le (show ((U.length : Int) + 1).natAbs < 2 ^ 5 by omega) (Nat.pow_le_pow_right (by decide) (by decide))
    have e2 := b2 _ _ hne e1
    have b02 := b1.trans b2
    have fin : ∀ (p : Addr) (vs : List V) (H' : Hp), H' p = some (.lst vs) → (∀ v ∈ vs, (∃ n : Nat, v = .int (n : Int) ∧ n < 60) ∨ v = .int (-1) ∨ ∃ b, v = .bl b) → vs.length ≤ 70 → Pot H' q → But q H H' → Q (.ref p) H' := fun p vs H' e h hl hp hb => by
      obtain ⟨d, hd, hx⟩ := lf_dp (K := K) h e hl
      exact k _ d H' hd (.inl hx) hp hb
    have nl := nV_len U
    have cl := cutV_length (nV U)
    have zl := sizeLine_eq
    have lfc : ∀ lo hi, ∀ v ∈ cutV (nV U) lo hi, (∃ n : Nat, v = .int (n : Int) ∧ n < 60) ∨ v = .int (-1) ∨ ∃ b, v = .bl b := fun lo hi v hv => nV_lf hU (cut_mem hv)
    refine ⟨_, rfl, _, _, rfl, rfl, _, rfl, ite2 (fun c => ?_) (fun c => ?_)⟩
    · have hw3 : way < 3 := of_decide_eq_true c
      refine ⟨_, rfl, _, rfl, _, rfl, D, _, rfl, .inl (.inl e2), fun p3 n3 => ?_⟩
      have s3 := same_new (o := .lst (cutV (nV U) none (some at_))) n3
      have e3 := upd_same (H := H2) (a := p3) (o := .lst (cutV (nV U) none (some at_)))
      have np3 := pot_ne P2 n3
      generalize L2.upd H2 p3 (.lst (cutV (nV U) none (some at_))) = H3 at s3 e3 ⊢
      have P3 := pot_same P2 s3
      refine ⟨_, rfl, _, rfl, q, 12, rfl, by decide, by decide, P3, fun r H4 r0 r1 P4 b4 => ?_⟩
      refine ⟨len_show (Nat.le_of_ble_eq_true rfl), fun p5 n5 => ?_⟩
      have s5 := same_new (o := .lst [.int 12, .int (-1), .int r]) n5
      have e5 := upd_same (H := H4) (a := p5) (o := .lst [.int 12, .int (-1), .int r])
      generalize L2.upd H4 p5 (.lst [.int 12, .int (-1), .int r]) = H5 at s5 e5 ⊢
      obtain ⟨w, hw, hat⟩ : ∃ w : V, ((∃ n : Nat, w = .int (n : Int) ∧ n < 60) ∨ w = .int (-1) ∨ ∃ b, w = .bl b) ∧ atI [V.int 12, V.int (-1), V.int r] way = some w := by
        by_cases h0 : way = 0
        · exact ⟨.int 12, .inl ⟨12, rfl, by decide⟩, by rw [h0]; rfl⟩
        · by_cases h1 : way = 1
          · exact ⟨.int (-1), .inr (.inl rfl), by rw [h1]; rfl⟩
          · have h2 : way = 2 := by omega
            exact ⟨.int r, .inl ⟨r.toNat, by rw [Int.toNat_of_nonneg r0], by omega⟩, by rw [h2]; rfl⟩
      refine ⟨_, rfl, p5, _, _, _, rfl, rfl, .inl (.inl e5), hat, len_show (Nat.le_of_ble_eq_true rfl), fun p6 n6 => ?_⟩
      have s6 := same_new (o := .lst [w]) n6
      have e6 := upd_same (H := H5) (a := p6) (o := .lst [w])
      generalize L2.upd H5 p6 (.lst [w]) = H6 at s6 e6 ⊢
      have e36 := s6 _ _ (s5 _ _ (b4 _ _ np3 e3))
      have c1 := cl none (some at_)
      refine ⟨p3, p6, _, _, rfl, rfl, e36, e6, by rw [List.length_singleton]; omega, fun p7 n7 => ?_⟩
      have s7 := same_new (o := .lst (cutV (nV U) none (some at_) ++ [w])) n7
      have e7 := upd_same (H := H6) (a := p7) (o := .lst (cutV (nV U) none (some at_) ++ [w]))
      generalize L2.upd H6 p7 (.lst (cutV (nV U) none (some at_) ++ [w])) = H7 at s7 e7 ⊢
      have s47 := (s5.trans s6).trans s7
      have eD7 := s47 _ _ (b4 _ _ hne (s3 _ _ e2))
      refine ⟨_, rfl, _, rfl, _, rfl, D, _, rfl, .inl (.inl eD7), fun p8 n8 => ?_⟩
      have s8 := same_new (o := .lst (cutV (nV U) (some at_) none)) n8
      have e8 := upd_same (H := H7) (a := p8) (o := .lst (cutV (nV U) (some at_) none))
      generalize L2.upd H7 p8 (.lst (cutV (nV U) (some at_) none)) = H8 at s8 e8 ⊢
      have c2 := cl (some at_) none
      refine ⟨p7, p8, _, _, rfl, rfl, s8 _ _ e7, e8, by rw [List.length_append, List.length_singleton]; omega, fun p9 n9 => ?_⟩
      have s9 := same_new (o := .lst (cutV (nV U) none (some at_) ++ [w] ++ cutV (nV U) (some at_) none)) n9
      have s49 := (s47.trans s8).trans s9
      refine fin p9 _ _ upd_same (fun v hv => ?_) ?_ (pot_same P4 s49) (((b02.same s3).trans b4).same s49)
      · rcases List.mem_append.mp hv with z | z
        · rcases List.mem_append.mp z with z | z
          · exact lfc _ _ v z
          · rw [List.mem_singleton.mp z]
            exact hw
        · exact lfc _ _ v z
      · rw [List.length_append, List.length_append, List.length_singleton]
        omega
    refine ⟨_, rfl, rfl, _, rfl, ite2 (fun c2 => ?_) (fun c2 => ?_)⟩
    · refine ⟨_, rfl, _, rfl, _, rfl, D, _, rfl, .inl (.inl e2), fun p3 n3 => ?_⟩
      have s3 := same_new (o := .lst (cutV (nV U) none (some at_))) n3
      have e3 := upd_same (H := H2) (a := p3) (o := .lst (cutV (nV U) none (some at_)))
      generalize L2.upd H2 p3 (.lst (cutV (nV U) none (some at_))) = H3 at s3 e3 ⊢
      refine ⟨_, rfl, _, rfl, _, _, rfl, rfl, _, rfl, D, _, rfl, .inl (.inl (s3 _ _ e2)), fun p4 n4 => ?_⟩
      have s4 := same_new (o := .lst (cutV (nV U) (some (at_ + 1)) none)) n4
      have e4 := upd_same (H := H3) (a := p4) (o := .lst (cutV (nV U) (some (at_ + 1)) none))
      generalize L2.upd H3 p4 (.lst (cutV (nV U) (some (at_ + 1)) none)) = H4 at s4 e4 ⊢
      have d1 := cl none (some at_)
      have d2 := cl (some (at_ + 1)) none
      refine ⟨p3, p4, _, _, rfl, rfl, s4 _ _ e3, e4, by omega, fun p5 n5 => ?_⟩
      have s5 := same_new (o := .lst (cutV (nV U) none (some at_) ++ cutV (nV U) (some (at_ + 1)) none)) n5
      have s25 := (s3.trans s4).trans s5
      refine fin p5 _ _ upd_same (fun v hv => ?_) ?_ (pot_same P2 s25) (b02.same s25)
      · rcases List.mem_append.mp hv with z | z
        · exact lfc _ _ v z
        · exact lfc _ _ v z
      · rw [List.length_append]
        omega
    refine ⟨_, rfl, rfl, _, rfl, ite2 (fun c3 => ?_) (fun c3 => ?_)⟩
    · refine ⟨_, rfl, D, _, rfl, .inl (.inl e2), fun p3 n3 => ?_⟩
      have s3 := same_new (o := .lst (nV U).reverse) n3
      exact fin p3 _ _ upd_same (fun v hv => nV_lf hU (List.mem_reverse.mp hv)) (by rw [List.length_reverse]; omega) (pot_same P2 s3) (b02.same s3)
    refine ⟨_, rfl, rfl, _, rfl, ite2 (fun c4 => ?_) (fun c4 => ?_)⟩
    · refine ⟨_, rfl, D, rfl, ⟨_, .inl (.inl e2)⟩, fun D3 hD3 => lc_list (xs := nV U) (fun i H' => (∃ vs, H' D3 = some (.lst vs) ∧ vs.length = i ∧ ∀ v ∈ vs, (∃ n : Nat, v = .int (n : Int) ∧ n < 60) ∨ v = .int (-1) ∨ ∃ b, v = .bl b) ∧ Same H2 H') ⟨⟨[], upd_same, rfl, fun v hv => by cases hv⟩, same_new hD3⟩ (fun i H' _ h => .inl (.inl (h.2 _ _ e2))) ?_ ?_⟩
      · rintro i x H3 hx ⟨⟨vs, e3, l3, h3⟩, s3⟩
        have hi := (List.getElem?_eq_some_iff.mp hx).1
        obtain ⟨n, hn, rfl⟩ := List.mem_map.mp (List.mem_of_getElem? hx)
        have step : ∀ w : V, ((∃ n : Nat, w = .int (n : Int) ∧ n < 60) ∨ w = .int (-1) ∨ ∃ b, w = .bl b) → ∃ acc, H3 D3 = some (.lst acc) ∧ acc.length < sizeLine ∧ ((∃ vs, L2.upd H3 D3 (.lst (acc ++ [w])) D3 = some (.lst vs) ∧ vs.length = i + 1 ∧ ∀ v ∈ vs, (∃ n : Nat, v = .int (n : Int) ∧ n < 60) ∨ v = .int (-1) ∨ ∃ b, v = .bl b) ∧ Same H2 (L2.upd H3 D3 (.lst (acc ++ [w])))) := by
          intro w hw
          refine ⟨vs, e3, by omega, ⟨vs ++ [w], upd_same, by rw [List.length_append, l3]; rfl, fun v hv => ?_⟩, fun b o eb => ?_⟩
          · rcases List.mem_append.mp hv with z | z
            · exact h3 v z
            · rw [List.mem_singleton.mp z]
              exact hw
          · rw [upd_ne (ne_of_none eb hD3)]
            exact s3 _ _ eb
        refine ⟨rfl, _, rfl, _, _, rfl, rfl, _, rfl, ite2 (fun z => ?_) (fun z => ?_)⟩
        · exact ⟨_, rfl, rfl, step _ (.inr (.inr ⟨_, rfl⟩))⟩
        · exact ⟨_, rfl, step _ (.inl ⟨n, rfl, hU n hn⟩)⟩
      · rintro H3 ⟨⟨vs, e3, l3, h3⟩, s3⟩
        exact fin D3 vs H3 e3 h3 (by omega) (pot_same P2 s3) (b02.same s3)
    · have hw6 : 6 ≤ way := by
        have h3 : ¬ way < 3 := fun z => c (decide_eq_true z)
        have h4 : way ≠ 3 := fun z => c2 (decide_eq_true (by rw [z]))
        have h5 : way ≠ 4 := fun z => c3 (decide_eq_true (by rw [z]))
        have h6 : way ≠ 5 := fun z => c4 (decide_eq_true (by rw [z]))
        omega
      refine ⟨_, rfl, D, _, rfl, .inl ⟨.inl (.inl e2), fun p3 n3 => ?_⟩⟩
      have s3 := same_new (o := .tup (nV U)) n3
      have e3 := upd_same (H := H2) (a := p3) (o := .tup (nV U))
      generalize L2.upd H2 p3 (.tup (nV U)) = H3 at s3 e3 ⊢
      refine ⟨len_show (Nat.le_of_ble_eq_true rfl), fun l4 n4 => ?_⟩
      have s4 := same_new (o := .lst [.ref p3, .non, .str (Str.ofString "0")]) n4
      have e4 := upd_same (H := H3) (a := l4) (o := .lst [.ref p3, .non, .str (Str.ofString "0")])
      generalize L2.upd H3 l4 (.lst [.ref p3, .non, .str (Str.ofString "0")]) = H4 at s4 e4 ⊢
      have s24 := s3.trans s4
      obtain ⟨w, d, hwd, hod, hat⟩ : ∃ (w : V) (d : PyData), Dp K H4 w d ∧ OddL U d ∧ atI [V.ref p3, V.non, V.str (Str.ofString "0")] (way - 6) = some w := by
        by_cases h0 : way = 6
        · refine ⟨.ref p3, .tuple (U.map fun n : Nat => PyData.int (n : Int)), .tup (.inl (.inl (s4 _ _ e3))) ?_, .inr (.inl rfl), by rw [h0]; rfl⟩
          have := ints_dp (K := K) (H := H4) (nC U)
          rw [← nV_eq] at this
          have e : (nC U).map PyData.int = U.map fun n : Nat => PyData.int (n : Int) := by
            unfold nC
            rw [List.map_map]
            rfl
          rw [e] at this
          exact this
        · by_cases h1 : way = 7
          · exact ⟨.non, .none, .non, .inr (.inr (.inl rfl)), by rw [h1]; rfl⟩
          · have h2 : way = 8 := by omega
            exact ⟨.str _, .str _, .str _, .inr (.inr (.inr rfl)), by rw [h2]; rfl⟩
      refine ⟨_, rfl, _, _, rfl, rfl, l4, _, _, _, rfl, rfl, .inl (.inl e4), hat, ?_⟩
      exact k w d H4 hwd hod (pot_same P2 s24) (b02.same s24)

end
end Lf

set_option Elab.async false
set_option linter.all false
set_option maxRecDepth 100000
set_option maxHeartbeats 4000000
set_option exponentiation.threshold 3000
namespace Lf
open PySem PySem.Spec PyProof.Rows L2
def lD (U : List Nat) : PyData := .list (U.map fun n : Nat => PyData.int (n : Int))
theorem nC_lD (U : List Nat) : PyData.list ((nC U).map PyData.int) = lD U := by
  unfold nC lD
  rw [List.map_map]
  rfl
theorem papD_eq (U V' : List Nat) : papD U V' = .tuple [lD U, lD V'] := by
  unfold papD
  rw [nC_lD, nC_lD]
/-- what else a paper may be put as -/
def menu (U V' : List Nat) : List PyData := [.none, .int 0, .bool true, .str (Str.ofString ""), .list [], .tuple [], .dict [], .list [lD U, lD V'], .tuple [lD U], .tuple [lD U, lD V', .list []], lD U, .dict [(.str (Str.ofString "up"), lD U)]]
inductive Odd (U V' : List Nat) : PyData → Prop
  | fst {x : PyData} (h : OddL U x) : Odd U V' (.tuple [x, lD V'])
  | snd {x : PyData} (h : OddL V' x) : Odd U V' (.tuple [lD U, x])
  | swap : Odd U V' (.tuple [lD V', lD U])
  | any {d : PyData} (h : d ∈ menu U V') : Odd U V' d
theorem lD_hd (U : List Nat) : ∃ r, sg (lD U).shown = 91 :: r := by
  unfold lD
  rw [lst_sg]
  exact ⟨_, rfl⟩
theorem lD_inj {U V' : List Nat} (h : lD U = lD V') : U = V' := by
  have e := PyData.list.inj h
  have key : ∀ U V' : List Nat, (U.map fun n : Nat => PyData.int (n : Int)) = (V'.map fun n : Nat => PyData.int (n : Int)) → U = V'
    := by
    intro U
    induction U with
    | nil =>
      intro V' h
      cases V' with
      | nil => rfl
      | cons _ _ => cases h
    | cons n U ih =>
      intro V' h
      cases V' with
      | nil => cases h
      | cons m V' =>
        obtain ⟨h1, h2⟩ := List.cons.inj h
        have h3 : (n : Int) = (m : Int) := PyData.int.inj h1
        rw [ih V' h2, show n = m by omega]
  exact key U V' e
theorem oddl_text {U : List Nat} {x : PyData} (h : OddL U x) (e : x.shown = (lD U).shown) : x = lD U := by
  rcases h with ⟨ds, rfl, hl, _⟩ | rfl | rfl | rfl
  · unfold lD at e ⊢
    rw [list_inj (fun x hx => (hl x hx).1) e]
  · exfalso
    obtain ⟨r, hr⟩ := lD_hd U
    rw [← e] at hr
    have : PyData.shown (.tuple (U.map fun n : Nat => PyData.int (n : Int))) = tupleText (PyData.shownAll (U.map fun n : Nat => PyData.int (n : Int))) := by simp only [PyData.shown]
    rw [this] at hr
    unfold tupleText at hr
    rw [sg_app, sg_app] at hr
    have h0 : sg (("(" : String) : Str) = [40] := by decide +kernel
    rw [h0] at hr
    cases hr
  · exfalso
    obtain ⟨r, hr⟩ := lD_hd U
    rw [← e] at hr
    have h0 : sg (PyData.shown .none) = [78, 111, 110, 101] := by decide +kernel
    rw [h0] at hr
    cases hr
  · exfalso
    obtain ⟨r, hr⟩ := lD_hd U
    rw [← e] at hr
    have h0 : sg (PyData.shown (.str (Str.ofString "0"))) = [39, 48, 39] := by decide +kernel
    rw [h0] at hr
    cases hr
theorem pap_hd (U V' : List Nat) : ∃ r, sg (papD U V').shown = 40 :: 91 :: r := by
  rw [papD_eq, tup2_sg]
  obtain ⟨r, hr⟩ := lD_hd U
  rw [hr]
  exact ⟨_, rfl⟩
theorem pap_len_text (U V' : List Nat) : (sg (papD U V').shown).length = (sg (lD U).shown).length + (sg (lD V').shown).length + 4 := by
  rw [papD_eq, tup2_sg]
  simp
  omega
/-- signs up to the first closing bracket -/
theorem upto_inj : ∀ (t s X Y : List Nat), 93 ∉ t → 93 ∉ s → t ++ 93 :: X = s ++ 93 :: Y → t = s
  | [], [], _, _, _, _, _ => rfl
  | [], c :: s, X, Y, _, hs, h => by
    have : c = 93 := ((List.cons.inj h).1).symm
    exact absurd (by rw [this]; exact List.mem_cons_self) hs
  | c :: t, [], X, Y, ht, _, h => by
    have : c = 93 := (List.cons.inj h).1
    exact absurd (by rw [this]; exact List.mem_cons_self) ht
  | c :: t, d :: s, X, Y, ht, hs, h => by
    obtain ⟨e1, e2⟩ := List.cons.inj h
    rw [e1, upto_inj t s X Y (fun z => ht (List.mem_cons_of_mem _ z)) (fun z => hs (List.mem_cons_of_mem _ z)) e2]
theorem jn_free {s : Nat} (h44 : s ≠ 44) (h32 : s ≠ 32) : ∀ ts : List (List Nat), (∀ t ∈ ts, s ∉ t) → s ∉ jn ts
  | [], _ => by simp [jn]
  | [t], h => h t List.mem_cons_self
  | t :: u :: r, h => by
    have i := jn_free h44 h32 (u :: r) fun x hx => h x (List.mem_cons_of_mem _ hx)
    show s ∉ t ++ 44 :: 32 :: jn (u :: r)
    intro z
    rcases List.mem_append.mp z with z | z
    · exact h t List.mem_cons_self z
    · rcases List.mem_cons.mp z with z | z
      · exact h44 z
      · rcases List.mem_cons.mp z with z | z
        · exact h32 z
        · exact i z
theorem swap_text {U V' : List Nat} (e : PyData.shown (.tuple [lD V', lD U]) = (papD U V').shown) : U = V' := by
  have e2 := congrArg sg e
  rw [papD_eq, tup2_sg, tup2_sg] at e2
  have e3 := (List.cons.inj e2).2
  unfold lD at e3
  rw [lst_sg, lst_sg] at e3
  have e4 : jn ((V'.map fun n : Nat => PyData.int (n : Int)).map fun d => sg d.shown) = jn ((U.map fun n : Nat => PyData.int (n : Int)).map fun d => sg d.shown) := by
    have free : ∀ W : List Nat, 93 ∉ jn ((W.map fun n : Nat => PyData.int (n : Int)).map fun d => sg d.shown) := fun W => jn_free (by decide) (by decide) _ fun t ht => by
      obtain ⟨d, hd, rfl⟩ := List.mem_map.mp ht
      obtain ⟨n, _, rfl⟩ := List.mem_map.mp hd
      exact (leaf_tk (.nat n)).2
    refine upto_inj _ _ (44 :: 32 :: (91 :: (jn ((U.map fun n : Nat => PyData.int (n : Int)).map fun d => sg d.shown) ++ [93]) ++ [41])) (44 :: 32 :: (91 :: (jn ((V'.map fun n : Nat => PyData.int (n : Int)).map fun d => sg d.shown) ++ [93]) ++ [41])) (free V') (free U) ?_
    have e5 := (List.cons.inj e3).2
    simpa using e5
  have e6 : lD V' = lD U := by
    have : (lD V').shown = (lD U).shown := by
      refine sg_inj ?_
      unfold lD
      rw [lst_sg, lst_sg, e4]
    unfold lD at this ⊢
    rw [list_inj (fun d hd => by obtain ⟨n, _, rfl⟩ := List.mem_map.mp hd; exact .nat n) this]
  exact (lD_inj e6).symm
theorem isPap_lD (U V' : List Nat) : isThe (papD U V') U V' = true := by
  have h : isPap (papD U V') = true := by
    have all : ∀ W : List Nat, ((nC W).map PyData.int).all isW = true := fun W => by
      rw [List.all_eq_true]
      intro d hd
      obtain ⟨c, _, rfl⟩ := List.mem_map.mp hd
      rfl
    show (((nC U).map PyData.int).all isW && ((nC V').map PyData.int).all isW) = true
    rw [all U, all V']
    rfl
  unfold isThe
  rw [h, pap_eqv]
  rfl
theorem isThe_eq {d : PyData} {U V' : List Nat} (h : isThe d U V' = true) : d = papD U V' := by
  unfold isThe at h
  rw [Bool.and_eq_true] at h
  obtain ⟨cs, es, rfl⟩ := isPap_ints h.1
  rw [pap_eqv2] at h
  obtain ⟨rfl, rfl⟩ := of_decide_eq_true h.2
  rfl
theorem odd_text {U V' : List Nat} {d : PyData} (h : Odd U V' d) (e : d.shown = (papD U V').shown) : d = papD U V' := by
  cases h with
  | fst h =>
    rw [papD_eq] at e ⊢
    rw [oddl_text h (pair_fst e)]
  | snd h =>
    rw [papD_eq] at e ⊢
    rw [oddl_text h (pair_snd e)]
  | swap =>
    have := swap_text e
    subst this
    rw [papD_eq]
  | any h =>
    exfalso
    obtain ⟨r, hr⟩ := pap_hd U V'
    have hl := pap_len_text U V'
    rw [← e] at hr hl
    obtain ⟨ru, hu⟩ := lD_hd U
    obtain ⟨rv, hv⟩ := lD_hd V'
    have two : ∀ {a b c : Nat} {x y : List Nat}, a :: x = b :: c :: y → a = b := fun h => (List.cons.inj h).1
    unfold menu at h
    simp only [List.mem_cons, List.not_mem_nil, or_false] at h
    rcases h with rfl | rfl | rfl | rfl | rfl | rfl | rfl | rfl | rfl | rfl | rfl | rfl
    · rw [show sg (PyData.shown .none) = [78, 111, 110, 101] by decide +kernel] at hr; cases hr
    · rw [show sg (PyData.shown (.int 0)) = [48] by decide +kernel] at hr; cases hr
    · rw [show sg (PyData.shown (.bool true)) = [84, 114, 117, 101] by decide +kernel] at hr; cases hr
    · rw [show sg (PyData.shown (.str (Str.ofString ""))) = [39, 39] by decide +kernel] at hr; cases hr
    · rw [show sg (PyData.shown (.list [])) = [91, 93] by decide +kernel] at hr; cases hr
    · rw [show sg (PyData.shown (.tuple [])) = [40, 41] by decide +kernel] at hr; cases hr
    · rw [show sg (PyData.shown (.dict [])) = [123, 125] by decide +kernel] at hr; cases hr
    · rw [lst_sg] at hr; cases hr
    · have e1 : sg (PyData.shown (.tuple [lD U])) = 40 :: (sg (lD U).shown ++ [44, 41]) := by
        have : PyData.shown (.tuple [lD U]) = tupleText [(lD U).shown] := by simp only [PyData.shown, PyData.shownAll]
        rw [this]
        show sg (((("(" : String) : Str) ++ (lD U).shown) ++ ((",)" : String) : Str)) = _
        rw [sg_app, sg_app]
        show ([40] ++ sg (lD U).shown) ++ [44, 41] = _
        simp
      rw [e1, hv] at hl
      simp at hl
      omega
    · have e1 : (sg (PyData.shown (.tuple [lD U, lD V', .list []]))).length = (sg (lD U).shown).length + (sg (lD V').shown).length + 8 := by
        have : PyData.shown (.tuple [lD U, lD V', .list []]) = tupleText [(lD U).shown, (lD V').shown, PyData.shown (.list [])] := by simp only [PyData.shown, PyData.shownAll]
        rw [this]
        show (sg (((("(" : String) : Str) ++ Str.join (Str.ofString ", ") [(lD U).shown, (lD V').shown, PyData.shown (.list [])]) ++ ((")" : String) : Str))).length = _
        rw [sg_app, sg_app, join_sg]
        have h0 : sg (PyData.shown (.list [])) = [91, 93] := by decide +kernel
        show (([40] ++ (sg (lD U).shown ++ 44 :: 32 :: (sg (lD V').shown ++ 44 :: 32 :: sg (PyData.shown (.list []))))) ++ [41]).length = _
        rw [h0]
        simp
        omega
      omega
    · rw [hu] at hr; cases hr
    · have e1 : ∃ r, sg (PyData.shown (.dict [(.str (Str.ofString "up"), lD U)])) = 123 :: r := by
        have : PyData.shown (.dict [(.str (Str.ofString "up"), lD U)]) = dictText (PyData.shownKv [(.str (Str.ofString "up"), lD U)]) := by simp only [PyData.shown]
        rw [this]
        unfold dictText
        first
          | exact ⟨_, rfl⟩
          | (rw [sg_app, sg_app]; exact ⟨_, rfl⟩)
          | (rw [sg_app]; exact ⟨_, rfl⟩)
      obtain ⟨r', hr'⟩ := e1
      rw [hr'] at hr
      cases hr
/-- a thing is the paper just where its text is the paper's -/
theorem the_text {U V' : List Nat} {d : PyData} (h : Odd U V' d) : isThe d U V' = decide (d.shown = (papD U V').shown) := by
  by_cases e : d.shown = (papD U V').shown
  · rw [decide_eq_true e, odd_text h e]
    exact isPap_lD U V'
  · rw [decide_eq_false e]
    cases z : isThe d U V' with
    | false => rfl
    | true => exact absurd (by rw [isThe_eq z]) e
end Lf

set_option Elab.async false
set_option linter.all false
set_option maxRecDepth 100000
set_option maxHeartbeats 4000000
set_option exponentiation.threshold 3000
namespace Lf
open PySem PySem.Spec PyProof.Rows L2
section
variable {P : Program} {w : World} {K : PySem.W.Frag} {mg : Str → Option Value} {base : Heap}
theorem wo_but {q : Addr} {H H' : Hp} (h : But q H H') : Same (wo q H) (wo q H') := fun b o e => wo_at (wo_not e) (h b o (wo_not e) (wo_le _ _ e))
theorem lD_dp {H : Hp} {D : Addr} {U : List Nat} (e : H D = some (.lst (nV U))) : Dp K H (.ref D) (lD U) := by
  rw [← nC_lD]
  exact nV_dp e
theorem lD_nd (U : List Nat) : (lD U).hasDict = false := by
  have key : ∀ U : List Nat, PyData.hasDictAll (U.map fun n : Nat => PyData.int (n : Int)) = false := by
    intro U
    induction U with
    | nil => simp only [List.map_nil, PyData.hasDictAll]
    | cons n U ih => simp only [List.map_cons, PyData.hasDictAll, PyData.hasDict, ih, Bool.or_self]
  unfold lD
  simp only [PyData.hasDict]
  exact key U
theorem oddl_nd {U : List Nat} {d : PyData} (h : OddL U d) : d.hasDict = false := by
  rcases h with ⟨ds, rfl, hl, _⟩ | rfl | rfl | rfl
  · simp only [PyData.hasDict]
    have key : ∀ ds : List PyData, (∀ x ∈ ds, Leaf x ∧ Ft 10 0 x) → PyData.hasDictAll ds = false := by
      intro ds
      induction ds with
      | nil => intro _; simp only [PyData.hasDictAll]
      | cons d ds ih =>
        intro hl
        have h1 : d.hasDict = false := (hl d List.mem_cons_self).2.nd
        simp only [PyData.hasDictAll, h1, ih fun x hx => hl x (List.mem_cons_of_mem _ hx), Bool.or_self]
    exact key ds hl
  · have := lD_nd U
    unfold lD at this
    simpa only [PyData.hasDict] using this
  · simp only [PyData.hasDict]
  · simp only [PyData.hasDict]
inductive DzAll (K : PySem.W.Frag) (H : Hp) : List V → List PyData → Prop
  | nil : DzAll K H [] []
  | cons {v : V} {vs : List V} {d : PyData} {ds : List PyData} : Dz K H v d → DzAll K H vs ds → DzAll K H (v :: vs) (d :: ds)
theorem DzAll.get {H : Hp} : ∀ {vs : List V} {ds : List PyData} {i : Nat} {v : V}, DzAll K H vs ds → vs[i]? = some v → ∃ d, d ∈ ds ∧ Dz K H v d
  | _, _, _, _, .nil, e => by simp at e
  | _, _, 0, _, .cons a _, e => by
    simp at e
    subst e
    exact ⟨_, List.mem_cons_self, a⟩
  | _, _, i + 1, v, .cons _ r, e => by
    obtain ⟨d, h1, h2⟩ := DzAll.get (i := i) (v := v) r (by simpa using e)
    exact ⟨d, List.mem_cons_of_mem _ h1, h2⟩

/-! ### _law_odd -/
abbrev s__law_odd : Stmt := topS 52
theorem sc__law_odd : FnScope ["_law_pot_here", "_law_told", "_law_way", "_law_some"] ["_law_pot_here", "_law_told"] (defScope s__law_odd) := ⟨rfl, rfl, rfl, by decide +kernel, rfl, by decide +kernel, by decide +kernel⟩
def sp_odd (K : PySem.W.Frag) : Sp := fun vs H Q _ => ∃ (q p D E : Addr) (U V' : List Nat), vs = [.ref q, .ref p] ∧ Pot H q ∧ H p = some (.tup [.ref D, .ref E]) ∧ H D = some (.lst (nV U)) ∧ H E = some (.lst (nV V')) ∧ D ≠ q ∧ E ≠ q ∧ U.length ≤ 12 ∧ V'.length ≤ 12 ∧ (∀ i ∈ U, i < 60) ∧ (∀ i ∈ V', i < 60) ∧ ∀ (v : V) (d : PyData) (H' : Hp), Dz K H' v d → Odd U V' d → Pot H' q → But q H H' → Q v H'
set_option maxHeartbeats 8000000 in
theorem ok_odd {f : Addr} {fd : FuncData} (M : Blt mg) (ml : mg "list" = none) (F : Fun K "_law_odd" "_law_odd" s__law_odd f fd) (C__law_draw : Cal P w K mg base CX0 1 "_law_draw" ["_law_pot_here", "_law_many_here"] sp_draw) (C__law_odd_list : Cal P w K mg base CX0 2 "_law_odd_list" ["_law_pot_here", "_law_some"] (sp_oddl K)) : FnG P w K mg base CX0 3 f fd ["_law_pot_here", "_law_told"] (sp_odd K) := by
  refine Gfun F sc__law_odd (fun vs H Q E h => ?_) (fun cdv A outer s H vs Q E0' hg hr h => ?_)
  · obtain ⟨q, p, D, E, U, V', rfl, _⟩ := h
    rfl
  · obtain ⟨q, p, D, E, U, V', rfl, hP, ep, eD, eE, hD, hE, lU, lV, hU, hV, k⟩ := h
    refine ⟨_, (pss_cons (ps_set (i := 2) sc__law_odd.nd rfl (.inl rfl) (pe_g C__law_draw (hr.mono (by decide)) hg (pa_cons (pv 0) (pa_cons pe_int pa_nil))))
      (pss_cons (ps_if (pt_cmpR op_lt (pv 2) pe_int (nomark _))
      (pss_one (ps_ret (pe_tup (pa_cons (pe_g C__law_odd_list (hr.mono (by decide)) hg (pa_cons (pv 0) (pa_cons (pe_ix ix_tup (pv 1) pe_int (fun _ _ => rfl)) pa_nil))) (pa_cons (pe_callTy call_list_of rfl ml bt_list (pa_cons (pe_ix ix_tup (pv 1) pe_int (fun _ _ => rfl)) pa_nil)) pa_nil)))))
      pss_nil)
      (pss_cons (ps_if (pt_cmpR op_lt (pv 2) pe_int (nomark _))
      (pss_one (ps_ret (pe_tup (pa_cons (pe_callTy call_list_of rfl ml bt_list (pa_cons (pe_ix ix_tup (pv 1) pe_int (fun _ _ => rfl)) pa_nil)) (pa_cons (pe_g C__law_odd_list (hr.mono (by decide)) hg (pa_cons (pv 0) (pa_cons (pe_ix ix_tup (pv 1) pe_int (fun _ _ => rfl)) pa_nil))) pa_nil)))))
      pss_nil)
      (pss_cons (ps_if (pt_cmpR op_eq (pv 2) pe_int (nomark _))
      (pss_one (ps_ret (pe_tup (pa_cons (pe_callTy call_list_of rfl ml bt_list (pa_cons (pe_ix ix_tup (pv 1) pe_int (fun _ _ => rfl)) pa_nil)) (pa_cons (pe_callTy call_list_of rfl ml bt_list (pa_cons (pe_ix ix_tup (pv 1) pe_int (fun _ _ => rfl)) pa_nil)) pa_nil)))))
      pss_nil)
      (pss_cons (ps_set (i := 3) sc__law_odd.nd rfl (.inl rfl) (pe_lst (pa_cons pe_non (pa_cons pe_int (pa_cons pe_bl (pa_cons pe_str (pa_cons (pe_lst pa_nil) (pa_cons (pe_tup pa_nil) (pa_cons pe_dnewK (pa_cons (pe_callTy call_list_of rfl ml bt_list (pa_cons (pv 1) pa_nil)) (pa_cons (pe_tup (pa_cons (pe_ix ix_tup (pv 1) pe_int (fun _ _ => rfl)) pa_nil)) (pa_cons (pe_tup (pa_cons (pe_ix ix_tup (pv 1) pe_int (fun _ _ => rfl)) (pa_cons (pe_ix ix_tup (pv 1) pe_int (fun _ _ => rfl)) (pa_cons (pe_lst pa_nil) pa_nil)))) (pa_cons (pe_ix ix_tup (pv 1) pe_int (fun _ _ => rfl)) (pa_cons (pe_disp (pps_cons pe_str (pe_ix ix_tup (pv 1) pe_int (fun _ _ => rfl)) pps_nil) rfl rfl (by decide) (by decide)) pa_nil))))))))))))))
      (pss_one (ps_ret (pe_ix ix_list (pv 3) (pe_g C__law_draw (hr.mono (by decide)) hg (pa_cons (pv 0) (pa_cons pe_int pa_nil))) (fun _ _ => rfl))))))))), ?_⟩
    have hp : p ≠ q := fun z => by
      obtain ⟨x, y, _, _, eq⟩ := hP
      rw [z, eq] at ep
      cases ep
    refine ⟨_, rfl, q, 8, rfl, by decide, by decide, hP, fun way H1 w0 w1 P1 b1 => ?_⟩
    have ep1 := b1 _ _ hp ep
    have eD1 := b1 _ _ hD eD
    have eE1 := b1 _ _ hE eE
    refine ⟨_, rfl, _, _, rfl, rfl, _, rfl, ite2 (fun c => ?_) (fun c => ?_)⟩
    · refine ⟨_, rfl, _, rfl, p, _, _, _, rfl, rfl, .inl (.inl ep1), atI_nat (j := 0) rfl, q, D, U, rfl, P1, hD, eD1, lU, hU, fun x dx H2 hx ox P2 b2 => ?_⟩
      have ep2 := b2 _ _ hp ep1
      refine ⟨_, rfl, p, _, _, _, rfl, rfl, .inl (.inl ep2), atI_nat (j := 1) rfl, E, _, rfl, .inl (.inl (.inl (b2 _ _ hE eE1))), fun l3 n3 => ?_⟩
      have s3 := same_new (o := .lst (nV V')) n3
      have e3 := upd_same (H := H2) (a := l3) (o := .lst (nV V'))
      generalize L2.upd H2 l3 (.lst (nV V')) = H3 at s3 e3 ⊢
      refine ⟨len_show (Nat.le_of_ble_eq_true rfl), fun p4 n4 => ?_⟩
      have s4 := same_new (o := .tup [x, .ref l3]) n4
      have s24 := s3.trans s4
      refine k _ (.tuple [dx, lD V']) _ (.dp (.tup (.inl (.inl upd_same)) (.cons (Dp.same s24 _ _ hx) (.cons (lD_dp (s4 _ _ e3)) .nil))) ?_) (.fst ox) (pot_same P2 s24) ((b1.trans b2).same s24)
      simp only [PyData.hasDict, PyData.hasDictAll, oddl_nd ox, lD_nd, Bool.or_self]
    refine ⟨_, rfl, _, _, rfl, rfl, _, rfl, ite2 (fun c2 => ?_) (fun c2 => ?_)⟩
    · refine ⟨_, rfl, p, _, _, _, rfl, rfl, .inl (.inl ep1), atI_nat (j := 0) rfl, D, _, rfl, .inl (.inl (.inl eD1)), fun l3 n3 => ?_⟩
      have s3 := same_new (o := .lst (nV U)) n3
      have e3 := upd_same (H := H1) (a := l3) (o := .lst (nV U))
      have q3 := pot_ne P1 n3
      have P3 := pot_same P1 s3
      generalize L2.upd H1 l3 (.lst (nV U)) = H3 at s3 e3 P3 ⊢
      refine ⟨_, rfl, _, rfl, p, _, _, _, rfl, rfl, .inl (.inl (s3 _ _ ep1)), atI_nat (j := 1) rfl, q, E, V', rfl, P3, hE, s3 _ _ eE1, lV, hV, fun x dx H4 hx ox P4 b4 => ?_⟩
      refine ⟨len_show (Nat.le_of_ble_eq_true rfl), fun p5 n5 => ?_⟩
      have s5 := same_new (o := .tup [.ref l3, x]) n5
      refine k _ (.tuple [lD U, dx]) _ (.dp (.tup (.inl (.inl upd_same)) (.cons (lD_dp (s5 _ _ (b4 _ _ q3 e3))) (.cons (Dp.same s5 _ _ hx) .nil))) ?_) (.snd ox) (pot_same P4 s5) (((b1.same s3).trans b4).same s5)
      simp only [PyData.hasDict, PyData.hasDictAll, oddl_nd ox, lD_nd, Bool.or_self]
    refine ⟨_, rfl, rfl, _, rfl, ite2 (fun c3 => ?_) (fun c3 => ?_)⟩
    · refine ⟨_, rfl, p, _, _, _, rfl, rfl, .inl (.inl ep1), atI_nat (j := 1) rfl, E, _, rfl, .inl (.inl (.inl eE1)), fun l3 n3 => ?_⟩
      have s3 := same_new (o := .lst (nV V')) n3
      have e3 := upd_same (H := H1) (a := l3) (o := .lst (nV V'))
      generalize L2.upd H1 l3 (.lst (nV V')) = H3 at s3 e3 ⊢
      refine ⟨_, rfl, p, _, _, _, rfl, rfl, .inl (.inl (s3 _ _ ep1)), atI_nat (j := 0) rfl, D, _, rfl, .inl (.inl (.inl (s3 _ _ eD1))), fun l4 n4 => ?_⟩
      have s4 := same_new (o := .lst (nV U)) n4
      have e4 := upd_same (H := H3) (a := l4) (o := .lst (nV U))
      generalize L2.upd H3 l4 (.lst (nV U)) = H4 at s4 e4 ⊢
      refine ⟨len_show (Nat.le_of_ble_eq_true rfl), fun p5 n5 => ?_⟩
      have s5 := same_new (o := .tup [.ref l3, .ref l4]) n5
      have s15 := (s3.trans s4).trans s5
      refine k _ (.tuple [lD V', lD U]) _ (.dp (.tup (.inl (.inl upd_same)) (.cons (lD_dp (s5 _ _ (s4 _ _ e3))) (.cons (lD_dp (s5 _ _ e4)) .nil))) ?_) .swap (pot_same P1 s15) (b1.same s15)
      simp only [PyData.hasDict, PyData.hasDictAll, lD_nd, Bool.or_self]
    have nd1 : PyData.hasDict (.tuple [lD U]) = false := by simp only [PyData.hasDict, PyData.hasDictAll, lD_nd, Bool.or_self]
    have nd2 : PyData.hasDict (.list [lD U, lD V']) = false := by simp only [PyData.hasDict, PyData.hasDictAll, lD_nd, Bool.or_self]
    have nd3 : PyData.hasDict (.tuple [lD U, lD V', .list []]) = false := by simp only [PyData.hasDict, PyData.hasDictAll, lD_nd, Bool.or_self]
    refine ⟨len_show (Nat.le_of_ble_eq_true rfl), fun a1 m1 => ?_⟩
    have s1 := same_new (o := .lst []) m1
    have e1 := upd_same (H := H1) (a := a1) (o := .lst [])
    have q1 := pot_ne P1 m1
    have R1 := pot_same P1 s1
    generalize L2.upd H1 a1 (.lst []) = J1 at s1 e1 R1 ⊢
    refine ⟨len_show (Nat.le_of_ble_eq_true rfl), fun a2 m2 => ?_⟩
    have s2 := same_new (o := .tup []) m2
    have e2 := upd_same (H := J1) (a := a2) (o := .tup [])
    have q2 := pot_ne R1 m2
    have R2 := pot_same R1 s2
    generalize L2.upd J1 a2 (.tup []) = J2 at s2 e2 R2 ⊢
    refine fun a3 m3 => ?_
    have s3 := same_new (o := .dK []) m3
    have e3 := upd_same (H := J2) (a := a3) (o := .dK [])
    have q3 := pot_ne R2 m3
    have R3 := pot_same R2 s3
    generalize L2.upd J2 a3 (.dK []) = J3 at s3 e3 R3 ⊢
    refine ⟨_, rfl, p, _, rfl, .inr (.inl (.inl (s3 _ _ (s2 _ _ (s1 _ _ ep1))))), fun a4 m4 => ?_⟩
    have s4 := same_new (o := .lst [.ref D, .ref E]) m4
    have e4 := upd_same (H := J3) (a := a4) (o := .lst [.ref D, .ref E])
    have q4 := pot_ne R3 m4
    have R4 := pot_same R3 s4
    generalize L2.upd J3 a4 (.lst [.ref D, .ref E]) = J4 at s4 e4 R4 ⊢
    refine ⟨_, rfl, p, _, _, _, rfl, rfl, .inl (.inl (s4 _ _ (s3 _ _ (s2 _ _ (s1 _ _ ep1))))), atI_nat (j := 0) rfl, len_show (Nat.le_of_ble_eq_true rfl), fun a5 m5 => ?_⟩
    have s5 := same_new (o := .tup [.ref D]) m5
    have e5 := upd_same (H := J4) (a := a5) (o := .tup [.ref D])
    have q5 := pot_ne R4 m5
    have R5 := pot_same R4 s5
    generalize L2.upd J4 a5 (.tup [.ref D]) = J5 at s5 e5 R5 ⊢
    refine ⟨_, rfl, p, _, _, _, rfl, rfl, .inl (.inl (s5 _ _ (s4 _ _ (s3 _ _ (s2 _ _ (s1 _ _ ep1)))))), atI_nat (j := 0) rfl, _, rfl, p, _, _, _, rfl, rfl, .inl (.inl (s5 _ _ (s4 _ _ (s3 _ _ (s2 _ _ (s1 _ _ ep1)))))), atI_nat (j := 1) rfl, len_show (Nat.le_of_ble_eq_true rfl), fun a6 m6 => ?_⟩
    have s6 := same_new (o := .lst []) m6
    have e6 := upd_same (H := J5) (a := a6) (o := .lst [])
    have q6 := pot_ne R5 m6
    have R6 := pot_same R5 s6
    generalize L2.upd J5 a6 (.lst []) = J6 at s6 e6 R6 ⊢
    refine ⟨len_show (Nat.le_of_ble_eq_true rfl), fun a7 m7 => ?_⟩
    have s7 := same_new (o := .tup [.ref D, .ref E, .ref a6]) m7
    have e7 := upd_same (H := J6) (a := a7) (o := .tup [.ref D, .ref E, .ref a6])
    have q7 := pot_ne R6 m7
    have R7 := pot_same R6 s7
    generalize L2.upd J6 a7 (.tup [.ref D, .ref E, .ref a6]) = J7 at s7 e7 R7 ⊢
    refine ⟨_, rfl, p, _, _, _, rfl, rfl, .inl (.inl (s7 _ _ (s6 _ _ (s5 _ _ (s4 _ _ (s3 _ _ (s2 _ _ (s1 _ _ ep1)))))))), atI_nat (j := 0) rfl, fun a8 m8 => ?_⟩
    have s8' := same_new (o := .dK []) m8
    refine ⟨_, rfl, p, _, _, _, rfl, rfl, .inl (.inl (s8' _ _ (s7 _ _ (s6 _ _ (s5 _ _ (s4 _ _ (s3 _ _ (s2 _ _ (s1 _ _ ep1))))))))), atI_nat (j := 0) rfl, upd_same, [(.inr (Str.ofString "up"), .ref D)], rfl, Nat.le_of_ble_eq_true rfl, ?_⟩
    rw [upd_twice]
    rw [show mergeK [] [((.inr (Str.ofString "up") : Key), V.ref D)] = [(.inr (Str.ofString "up"), .ref D)] from rfl]
    have s8 := same_new (o := .dK [(.inr (Str.ofString "up"), .ref D)]) m8
    have e8 := upd_same (H := J7) (a := a8) (o := .dK [(.inr (Str.ofString "up"), .ref D)])
    have q8 := pot_ne R7 m8
    have R8 := pot_same R7 s8
    generalize L2.upd J7 a8 (.dK [(.inr (Str.ofString "up"), .ref D)]) = J8 at s8 e8 R8 ⊢
    refine ⟨len_show (Nat.le_of_ble_eq_true rfl), fun a9 m9 => ?_⟩
    have s9 := same_new (o := .lst [.non, .int 0, .bl true, .str (Str.ofString ""), .ref a1, .ref a2, .ref a3, .ref a4, .ref a5, .ref a7, .ref D, .ref a8]) m9
    have e9 := upd_same (H := J8) (a := a9) (o := .lst [.non, .int 0, .bl true, .str (Str.ofString ""), .ref a1, .ref a2, .ref a3, .ref a4, .ref a5, .ref a7, .ref D, .ref a8])
    have q9 := pot_ne R8 m9
    have R9 := pot_same R8 s9
    generalize L2.upd J8 a9 (.lst [.non, .int 0, .bl true, .str (Str.ofString ""), .ref a1, .ref a2, .ref a3, .ref a4, .ref a5, .ref a7, .ref D, .ref a8]) = J9 at s9 e9 R9 ⊢
    have all9 : DzAll K (wo q J9) [.non, .int 0, .bl true, .str (Str.ofString ""), .ref a1, .ref a2, .ref a3, .ref a4, .ref a5, .ref a7, .ref D, .ref a8] (menu U V') := (.cons (.dp .non (by rfl)) (.cons (.dp (.int 0) (by rfl)) (.cons (.dp (.bl true) (by rfl)) (.cons (.dp (.str _) (by rfl)) (.cons (.dp (.lst (.inl (.inl (wo_at q1 (s9 _ _ (s8 _ _ (s7 _ _ (s6 _ _ (s5 _ _ (s4 _ _ (s3 _ _ (s2 _ _ e1))))))))))) .nil) (by rfl)) (.cons (.dp (.tup (.inl (.inl (wo_at q2 (s9 _ _ (s8 _ _ (s7 _ _ (s6 _ _ (s5 _ _ (s4 _ _ (s3 _ _ e2)))))))))) .nil) (by rfl)) (.cons (.dic (wo_at q3 (s9 _ _ (s8 _ _ (s7 _ _ (s6 _ _ (s5 _ _ (s4 _ _ e3))))))) .nil) (.cons (.dp (.lst (.inl (.inl (wo_at q4 (s9 _ _ (s8 _ _ (s7 _ _ (s6 _ _ (s5 _ _ e4)))))))) (.cons (lD_dp (wo_at hD (s9 _ _ (s8 _ _ (s7 _ _ (s6 _ _ (s5 _ _ (s4 _ _ (s3 _ _ (s2 _ _ (s1 _ _ eD1))))))))))) (.cons (lD_dp (wo_at hE (s9 _ _ (s8 _ _ (s7 _ _ (s6 _ _ (s5 _ _ (s4 _ _ (s3 _ _ (s2 _ _ (s1 _ _ eE1))))))))))) .nil))) (nd2)) (.cons (.dp (.tup (.inl (.inl (wo_at q5 (s9 _ _ (s8 _ _ (s7 _ _ (s6 _ _ e5))))))) (.cons (lD_dp (wo_at hD (s9 _ _ (s8 _ _ (s7 _ _ (s6 _ _ (s5 _ _ (s4 _ _ (s3 _ _ (s2 _ _ (s1 _ _ eD1))))))))))) .nil)) (nd1)) (.cons (.dp (.tup (.inl (.inl (wo_at q7 (s9 _ _ (s8 _ _ e7))))) (.cons (lD_dp (wo_at hD (s9 _ _ (s8 _ _ (s7 _ _ (s6 _ _ (s5 _ _ (s4 _ _ (s3 _ _ (s2 _ _ (s1 _ _ eD1))))))))))) (.cons (lD_dp (wo_at hE (s9 _ _ (s8 _ _ (s7 _ _ (s6 _ _ (s5 _ _ (s4 _ _ (s3 _ _ (s2 _ _ (s1 _ _ eE1))))))))))) (.cons (.lst (.inl (.inl (wo_at q6 (s9 _ _ (s8 _ _ (s7 _ _ e6)))))) .nil) .nil)))) (nd3)) (.cons (.dp (lD_dp (wo_at hD (s9 _ _ (s8 _ _ (s7 _ _ (s6 _ _ (s5 _ _ (s4 _ _ (s3 _ _ (s2 _ _ (s1 _ _ eD1))))))))))) (lD_nd U)) (.cons (.dic (wo_at q8 (s9 _ _ e8)) (.cons ⟨rfl, (lD_dp (wo_at hD (s9 _ _ (s8 _ _ (s7 _ _ (s6 _ _ (s5 _ _ (s4 _ _ (s3 _ _ (s2 _ _ (s1 _ _ eD1))))))))))), lD_nd U⟩ .nil)) .nil))))))))))))
    have s19 : Same H1 J9 := s1.trans (s2.trans (s3.trans (s4.trans (s5.trans (s6.trans (s7.trans (s8.trans (s9))))))))
    refine ⟨_, rfl, _, rfl, q, 12, rfl, by decide, by decide, R9, fun r H10 r0 r1 P10 b10 => ?_⟩
    obtain ⟨i, rfl⟩ : ∃ i : Nat, r = (i : Int) := ⟨r.toNat, by omega⟩
    obtain ⟨v, hv⟩ : ∃ v, ([.non, .int 0, .bl true, .str (Str.ofString ""), .ref a1, .ref a2, .ref a3, .ref a4, .ref a5, .ref a7, .ref D, .ref a8] : List V)[i]? = some v := ⟨_, List.getElem?_eq_getElem (show i < 12 by omega)⟩
    obtain ⟨d, hd, hz⟩ := all9.get hv
    refine ⟨a9, _, _, _, rfl, rfl, .inl (.inl (b10 _ _ q9 e9)), atI_nat hv, ?_⟩
    exact k v d H10 ((hz.same (wo_but b10)).same wo_le) (.any hd) P10 ((b1.same s19).trans b10)

end
end Lf

set_option Elab.async false
set_option linter.all false
set_option maxRecDepth 100000
set_option maxHeartbeats 4000000
set_option exponentiation.threshold 3000
/-! repr of data with dicts at any depth: of what stands for d in a heap, and what repr tells of it. -/
namespace Lf
open PySem PySem.Spec PyProof.Rows L2
section
variable {P : Program} {w : World} {h : Heap}
/-- a row's texts can be told, none of them within one of the row's own objects -/
def RowSays (P : Program) (w : World) (h : Heap) (us : List Value) (ds : List PyData) : Prop :=
  PyData.showableAll ds = true → (∀ t ∈ PyData.shownAll ds, t.length ≤ sizeLine) → ∃ bs, ReadAtMost h (PyData.depthAll ds) bs ∧ ReprAllK P w bs h (PyData.depthAll ds) us (PyData.shownAll ds)
structure Row (P : Program) (w : World) (h : Heap) (us : List Value) (ds : List PyData) : Prop where
  rd : ∃ as, ReadsAll h us ds as
  say : RowSays P w h us ds
/-- u stands for d: it is read so, told so within another one, and, where it is an object, by its type's own repr -/
structure One (P : Program) (w : World) (h : Heap) (u : Value) (d : PyData) : Prop where
  rd : ∃ as, Reads h u d as
  say : d.showable = true → d.shown.length ≤ sizeLine → ∃ bs, ReadAtMost h d.depth bs ∧ ReprK P w bs h d.depth u d.shown
  top : d.showable = true → d.shown.length ≤ sizeLine → ∀ a, u = .ref a → ∃ T idr, ShowsBy P w h a d T idr
theorem One.plain {u : Value} {d : PyData} {as : List Addr} (r : Reads h u d as) (n : d.hasDict = false) : One P w h u d :=
  ⟨⟨as, r⟩, fun a b => ReprK.of_reads r a (PyData.noDict_hsm n) b, fun a b c e => showsBy_of_reads (e ▸ r) a (PyData.noDict_hsm n) b⟩
theorem Row.nil : Row P w h [] [] := ⟨⟨[], .nil⟩, fun _ _ => ⟨[], fun b hb => absurd hb List.not_mem_nil, by unfold PyData.shownAll; exact .nil⟩⟩
theorem Row.cons {u : Value} {us : List Value} {d : PyData} {ds : List PyData} (a : One P w h u d) (r : Row P w h us ds) : Row P w h (u :: us) (d :: ds) where
  rd := a.rd.elim fun _ ra => r.rd.elim fun _ rr => ⟨_, .cons ra rr⟩
  say := fun hs hz => by
    unfold PyData.showableAll at hs
    unfold PyData.shownAll at hz
    have both := Bool.and_eq_true_iff.mp hs
    obtain ⟨b1, m1, k1⟩ := a.say both.1 (hz d.shown (List.Mem.head _))
    obtain ⟨b2, m2, k2⟩ := r.say both.2 fun t ht => hz t (List.Mem.tail _ ht)
    have e : PyData.depthAll (d :: ds) = max d.depth (PyData.depthAll ds) := by rw [PyData.depthAll]
    refine ⟨b1 ++ b2, ?_, ?_⟩
    · rw [e]
      exact (m1.mono (Nat.le_max_left ..)).append (m2.mono (Nat.le_max_right ..))
    · rw [e]
      unfold PyData.shownAll
      refine .cons (ReprK.level_le (k1.more fun b hb => List.mem_append.mpr (.inl hb)) (Nat.le_max_left ..)) ?_
      exact ReprAllK.more_le (fun b hb => List.mem_append.mpr (.inr hb)) (Nat.le_max_right ..) k2
section
variable {a : Addr} {o : Obj} {n : Nat} {us : List Value} {ds : List PyData} {kvs : List (PyData × PyData)} {es : Array DictEntry}
/-- what a list's and a tuple's parts have to be -/
theorem parts_fit {f : List Str → Str} (hf : ∀ ts t, t ∈ ts → t.length ≤ (f ts).length) (hz : (f (PyData.shownAll ds)).length ≤ sizeLine) : ∀ t ∈ PyData.shownAll ds, t.length ≤ sizeLine := fun t ht => Nat.le_trans (hf _ _ ht) hz
theorem One.lst (ho : h.get? a = some o) (hc : o.cls = .type "list") (hd : o.data = .seq us.toArray n) (r : Row P w h us ds) : One P w h (.ref a) (.list ds) := by
  obtain ⟨as, ra⟩ := r.rd
  have ro : Reads h (.ref a) (.list ds) (a :: as) := .list ho hc hd ra
  have e1 : PyData.depth (.list ds) = PyData.depthAll ds + 1 := by unfold PyData.depth; rfl
  have e2 : PyData.shown (.list ds) = listText (PyData.shownAll ds) := by unfold PyData.shown; rfl
  have e3 : PyData.showable (.list ds) = PyData.showableAll ds := by unfold PyData.showable; rfl
  have in_ : PyData.showable (.list ds) = true → (PyData.shown (.list ds)).length ≤ sizeLine → ∃ bs, ReadAtMost h (PyData.depthAll ds) bs ∧ ReprAllK P w bs h (PyData.depthAll ds) us (PyData.shownAll ds) := fun hs hz => by
    rw [e3] at hs
    rw [e2] at hz
    exact r.say hs (parts_fit (fun _ _ => listText_mem_le) hz)
  have out : ∀ bs, ReadAtMost h (PyData.depthAll ds) bs → a ∉ bs := fun bs hb => not_mem_of_deeper ro (by rw [e1]; exact Nat.lt_succ_self _) hb
  cases us with
  | nil =>
    have e4 : ds = [] := by cases ra; rfl
    subst e4
    have e5 : PyData.hasDict (.list []) = false := by unfold PyData.hasDict PyData.hasDictAll; rfl
    exact One.plain ro e5
  | cons u us =>
    refine ⟨⟨_, ro⟩, fun hs hz => ?_, fun hs hz c ec => ?_⟩
    · obtain ⟨bs, hb, hk⟩ := in_ hs hz
      refine ⟨a :: bs, ReadAtMost.cons ro (by rw [e1]; exact Nat.le_succ _) hb, ?_⟩
      rw [e1, e2]
      exact ReprK.list ho hc hd (out bs hb) (by rw [List.size_toArray]; exact hk.length_eq) fun i y q => hk.item i y (by rw [List.getElem?_toArray] at q; exact q)
    · cases ec
      obtain ⟨bs, hb, hk⟩ := in_ hs hz
      rw [e2] at hz
      refine ⟨"list", "list.__repr__", ⟨F.slot_list_repr.toG, F.slot_list_str, F.slot_list_format, fun s k0 => ⟨o, k0 _ _ ho, hc⟩, fun A E s Q hg hu k0 q => ?_⟩⟩
      rw [e1] at hu
      rw [e2] at q
      exact call_list_reprK ho hc hd (out bs hb) (by rw [List.size_toArray]; exact hk.length_eq) (fun i y q => hk.item i y (by rw [List.getElem?_toArray] at q; exact q)) hg (fun b _ => Clear.nil b) hu k0 q hz
theorem One.tup (ho : h.get? a = some o) (hc : o.cls = .type "tuple") (hd : o.data = .seq us.toArray n) (r : Row P w h us ds) : One P w h (.ref a) (.tuple ds) := by
  obtain ⟨as, ra⟩ := r.rd
  have ro : Reads h (.ref a) (.tuple ds) as := .tuple ho hc hd ra
  have e1 : PyData.depth (.tuple ds) = PyData.depthAll ds + 1 := by unfold PyData.depth; rfl
  have e2 : PyData.shown (.tuple ds) = tupleText (PyData.shownAll ds) := by unfold PyData.shown; rfl
  have e3 : PyData.showable (.tuple ds) = PyData.showableAll ds := by unfold PyData.showable; rfl
  have in_ : PyData.showable (.tuple ds) = true → (PyData.shown (.tuple ds)).length ≤ sizeLine → ∃ bs, a ∉ bs ∧ ReadAtMost h (PyData.depthAll ds) bs ∧ ReprAllK P w bs h (PyData.depthAll ds) us (PyData.shownAll ds) := fun hs hz => by
    rw [e3] at hs
    rw [e2] at hz
    obtain ⟨bs, hb, hk⟩ := r.say hs (parts_fit (fun _ _ => tupleText_mem_le) hz)
    exact ⟨bs, not_mem_of_deeper ro (by rw [e1]; exact Nat.lt_succ_self _) hb, hb, hk⟩
  refine ⟨⟨_, ro⟩, fun hs hz => ?_, fun hs hz c ec => ?_⟩
  · obtain ⟨bs, na, hb, hk⟩ := in_ hs hz
    refine ⟨a :: bs, ReadAtMost.cons ro (by rw [e1]; exact Nat.le_succ _) hb, ?_⟩
    rw [e1, e2]
    exact ReprK.tuple ho hc hd na hk
  · cases ec
    obtain ⟨bs, na, hb, hk⟩ := in_ hs hz
    rw [e2] at hz
    refine ⟨"tuple", "tuple.__repr__", ⟨F.slot_tuple_repr, F.slot_tuple_str, F.slot_tuple_format, fun s k0 => ⟨o, k0 _ _ ho, hc⟩, fun A E s Q hg hu k0 q => ?_⟩⟩
    rw [e1] at hu
    rw [e2] at q
    exact call_tuple_reprK ho hc hd na hk hg (fun b _ => Clear.nil b) hu k0 q hz
theorem One.dic (ho : h.get? a = some o) (hc : o.cls = .type "dict") (hd : o.data = .dict es n) (sys : (a == sysModules) = false) (rk : Row P w h (es.toList.map (·.key)) (kvs.map (·.1))) (rv : Row P w h (es.toList.map (·.val)) (kvs.map (·.2))) : One P w h (.ref a) (.dict kvs) := by
  obtain ⟨as, ra⟩ := rk.rd
  obtain ⟨cs, rc⟩ := rv.rd
  have ro : Reads h (.ref a) (.dict kvs) (a :: as ++ cs) := .dict ho hc hd ra rc
  have e1 : PyData.depth (.dict kvs) = PyData.depthKv kvs + 1 := by unfold PyData.depth; rfl
  have e2 : PyData.shown (.dict kvs) = dictText (PyData.shownKv kvs) := by unfold PyData.shown; rfl
  have e3 : PyData.showable (.dict kvs) = PyData.showableKv kvs := by unfold PyData.showable; rfl
  have in_ : PyData.showable (.dict kvs) = true → (PyData.shown (.dict kvs)).length ≤ sizeLine → ∃ bs, a ∉ bs ∧ ReadAtMost h (PyData.depthKv kvs) bs ∧ ReprEntriesK P w bs h (PyData.depthKv kvs) es.toList (PyData.shownKv kvs) := fun hs hz => by
    rw [e3] at hs
    rw [e2] at hz
    have two := PyData.showableKv_split kvs hs
    have fits : ∀ t p : Str, p ∈ PyData.shownKv kvs → t.length ≤ p.length → t.length ≤ sizeLine := fun t p hp hl => Nat.le_trans hl (Nat.le_trans (dictText_mem_le hp) hz)
    obtain ⟨b1, m1, k1⟩ := rk.say two.1 fun t ht => by
      obtain ⟨p, hp, hl⟩ := PyData.shownKv_key_le kvs t ht
      exact fits t p hp hl
    obtain ⟨b2, m2, k2⟩ := rv.say two.2 fun t ht => by
      obtain ⟨p, hp, hl⟩ := PyData.shownKv_val_le kvs t ht
      exact fits t p hp hl
    have hb := (m1.mono (PyData.depthAll_keys_le kvs)).append (m2.mono (PyData.depthAll_vals_le kvs))
    refine ⟨b1 ++ b2, not_mem_of_deeper ro (by rw [e1]; exact Nat.lt_succ_self _) hb, hb, ?_⟩
    rw [PyData.shownKv_eq]
    refine ReprEntriesK.of_two _ _ _ (ReprAllK.more_le ?_ (PyData.depthAll_keys_le kvs) k1) (ReprAllK.more_le ?_ (PyData.depthAll_vals_le kvs) k2)
    · exact fun b hb => List.mem_append.mpr (.inl hb)
    · exact fun b hb => List.mem_append.mpr (.inr hb)
  refine ⟨⟨_, ro⟩, fun hs hz => ?_, fun hs hz c ec => ?_⟩
  · obtain ⟨bs, na, hb, hk⟩ := in_ hs hz
    refine ⟨a :: bs, ReadAtMost.cons ro (by rw [e1]; exact Nat.le_succ _) hb, ?_⟩
    rw [e1, e2]
    exact ReprK.dict ho hc hd sys na hk
  · cases ec
    obtain ⟨bs, na, hb, hk⟩ := in_ hs hz
    rw [e2] at hz
    refine ⟨"dict", "dict.__repr__", ⟨F.slot_dict_repr, F.slot_dict_str, F.slot_dict_format, fun s k0 => ⟨o, k0 _ _ ho, hc⟩, fun A E s Q hg hu k0 q => ?_⟩⟩
    rw [e1] at hu
    rw [e2] at q
    exact call_dict_reprK ho hc hd sys na hk hg (fun b _ => Clear.nil b) hu k0 q hz
end
end
/-! ### data of the abstract heap, dicts among them -/
mutual
inductive Dg (K : PySem.W.Frag) (H : Hp) : V → PyData → Prop
  | non : Dg K H .non .none
  | bl (b : Bool) : Dg K H (.bl b) (.bool b)
  | int (i : Int) : Dg K H (.int i) (.int i)
  | str (x : Str) : Dg K H (.str x) (.str x)
  | lst {a : Addr} {xs : List V} {ds : List PyData} : SqL K H a xs → DgAll K H xs ds → Dg K H (.ref a) (.list ds)
  | tup {a : Addr} {xs : List V} {ds : List PyData} : SqT K H a xs → DgAll K H xs ds → Dg K H (.ref a) (.tuple ds)
  | dk {a : Addr} {kvs : List (Key × V)} {ds : List (PyData × PyData)} : H a = some (.dK kvs) → DgKv K H kvs ds → Dg K H (.ref a) (.dict ds)
  | dt {a : Addr} {kvs : List (List Key × V)} {ds : List (PyData × PyData)} : H a = some (.dT kvs) → DgKt K H kvs ds → Dg K H (.ref a) (.dict ds)
inductive DgAll (K : PySem.W.Frag) (H : Hp) : List V → List PyData → Prop
  | nil : DgAll K H [] []
  | cons {v : V} {vs : List V} {d : PyData} {ds : List PyData} : Dg K H v d → DgAll K H vs ds → DgAll K H (v :: vs) (d :: ds)
inductive DgKv (K : PySem.W.Frag) (H : Hp) : List (Key × V) → List (PyData × PyData) → Prop
  | nil : DgKv K H [] []
  | cons {k : Key} {v : V} {vs : List (Key × V)} {d : PyData} {ds : List (PyData × PyData)} : Dg K H v d → DgKv K H vs ds → DgKv K H ((k, v) :: vs) ((kD k, d) :: ds)
inductive DgKt (K : PySem.W.Frag) (H : Hp) : List (List Key × V) → List (PyData × PyData) → Prop
  | nil : DgKt K H [] []
  | cons {k : List Key} {v : V} {vs : List (List Key × V)} {d : PyData} {ds : List (PyData × PyData)} : Dg K H v d → DgKt K H vs ds → DgKt K H ((k, v) :: vs) ((.tuple (k.map kD), d) :: ds)
end
mutual
theorem Dg.of {K : PySem.W.Frag} {H : Hp} : ∀ {d : PyData} {v : V}, Dp K H v d → Dg K H v d
  | _, _, .non => .non
  | _, _, .bl b => .bl b
  | _, _, .int i => .int i
  | _, _, .str x => .str x
  | _, _, .lst h r => .lst h (DgAll.of r)
  | _, _, .tup h r => .tup h (DgAll.of r)
theorem DgAll.of {K : PySem.W.Frag} {H : Hp} : ∀ {ds : List PyData} {vs : List V}, DpAll K H vs ds → DgAll K H vs ds
  | _, _, .nil => .nil
  | _, _, .cons a r => .cons (Dg.of a) (DgAll.of r)
end
theorem sqT_same {K : PySem.W.Frag} {H H' : Hp} (s : Same H H') {a : Addr} {xs : List V} (h : SqT K H a xs) : SqT K H' a xs := by
  rcases h with (h | ⟨o, h⟩) | h
  · exact .inl (.inl (s _ _ h))
  · exact .inl (.inr ⟨o, s _ _ h⟩)
  · exact .inr h
mutual
theorem Dg.same {K : PySem.W.Frag} {H H' : Hp} (s : Same H H') : ∀ {d : PyData} {v : V}, Dg K H v d → Dg K H' v d
  | _, _, .non => .non
  | _, _, .bl b => .bl b
  | _, _, .int i => .int i
  | _, _, .str x => .str x
  | _, _, .lst h r => .lst (s.seq h) (DgAll.same s r)
  | _, _, .tup h r => .tup (sqT_same s h) (DgAll.same s r)
  | _, _, .dk h r => .dk (s _ _ h) (DgKv.same s r)
  | _, _, .dt h r => .dt (s _ _ h) (DgKt.same s r)
theorem DgAll.same {K : PySem.W.Frag} {H H' : Hp} (s : Same H H') : ∀ {ds : List PyData} {vs : List V}, DgAll K H vs ds → DgAll K H' vs ds
  | _, _, .nil => .nil
  | _, _, .cons a r => .cons (Dg.same s a) (DgAll.same s r)
theorem DgKv.same {K : PySem.W.Frag} {H H' : Hp} (s : Same H H') : ∀ {ds : List (PyData × PyData)} {vs : List (Key × V)}, DgKv K H vs ds → DgKv K H' vs ds
  | _, _, .nil => .nil
  | _, _, .cons a r => .cons (Dg.same s a) (DgKv.same s r)
theorem DgKt.same {K : PySem.W.Frag} {H H' : Hp} (s : Same H H') : ∀ {ds : List (PyData × PyData)} {vs : List (List Key × V)}, DgKt K H vs ds → DgKt K H' vs ds
  | _, _, .nil => .nil
  | _, _, .cons a r => .cons (Dg.same s a) (DgKt.same s r)
end
section
variable {X : Cx} {pins : List (Addr × Obj)} {σ : L2.St} {H : Hp} {s : Shared}
theorem key_one {P : Program} {w : World} {h : Heap} {k : Key} {u : Value} (hk : keyIs k u = true) : One P w h u (kD k) := by
  rcases keyIs_shape hk with ⟨i, t, e1, e2⟩ | ⟨x, t, e1, e2⟩
  · rw [e1, e2]
    exact .plain (.int i t) (by unfold kD PyData.hasDict; rfl)
  · rw [e1, e2]
    exact .plain (.str x t) (by unfold kD PyData.hasDict; rfl)
theorem key_row {P : Program} {w : World} {h : Heap} : ∀ (ks : List Key) (us : List Value), Vals (ks.map kV) us → Row P w h us (ks.map kD)
  | [], _, r => by
    cases r
    exact .nil
  | .inl i :: ks, _, r => by
    cases r with
    | cons r1 r2 =>
      obtain ⟨t, rfl⟩ := r1
      exact .cons (.plain (.int i t) (by unfold kD PyData.hasDict; rfl)) (key_row ks _ r2)
  | .inr x :: ks, _, r => by
    cases r with
    | cons r1 r2 =>
      obtain ⟨t, rfl⟩ := r1
      exact .cons (.plain (.str x t) (by unfold kD PyData.hasDict; rfl)) (key_row ks _ r2)
mutual
theorem Dg.one (I : Inv X pins σ H s) : ∀ {d : PyData} {v : V} {u : Value}, Dg X.K H v d → RelV v u → One X.prog X.w s.heap u d
  | _, _, _, .non, r => by cases r; exact .plain .none (by unfold PyData.hasDict; rfl)
  | _, _, _, .bl b, r => by cases r; exact .plain (.bool b) (by unfold PyData.hasDict; rfl)
  | _, _, _, .int i, r => by obtain ⟨t, rfl⟩ := r; exact .plain (.int i t) (by unfold PyData.hasDict; rfl)
  | _, _, _, .str x, r => by obtain ⟨t, rfl⟩ := r; exact .plain (.str x t) (by unfold PyData.hasDict; rfl)
  | _, _, _, .lst h q, r => by
    cases r
    obtain ⟨its, rv, ⟨o, n, ho, hc, _, hd⟩, _⟩ := I.list h
    exact .lst ho hc hd (DgAll.row I q rv)
  | _, _, _, .tup h q, r => by
    cases r
    obtain ⟨its, rv, ⟨o, ho, hc, n, hd⟩, _⟩ := I.tuple h
    exact .tup ho hc hd (DgAll.row I q rv)
  | _, _, _, .dk (a := a) (kvs := kvs) h q, r => by
    cases r
    obtain ⟨_, sys, vs, kv, o, es, ep, h1, h2, h3, h4, h5, h6⟩ := (show ObjOk X.prog X.w H s.heap a (.dK kvs) from I.hok a _ h)
    obtain ⟨i1, i2⟩ := DgKv.rows I h5 kv q
    exact .dic h1 h2.1 h3 sys i1 i2
  | _, _, _, .dt (a := a) (kvs := kvs) h q, r => by
    cases r
    obtain ⟨_, sys, xs, hp, o, es, ep, h1, h2, h3, h4, h5⟩ := (show ObjOk X.prog X.w H s.heap a (.dT kvs) from I.hok a _ h)
    obtain ⟨i1, i2⟩ := DgKt.rows I q hp
    refine .dic h1 h2.1 h3 sys ?_ ?_
    · rw [h4, List.map_map]
      exact i1
    · rw [h4, List.map_map]
      exact i2
theorem DgAll.row (I : Inv X pins σ H s) : ∀ {ds : List PyData} {vs : List V} {us : List Value}, DgAll X.K H vs ds → Vals vs us → Row X.prog X.w s.heap us ds
  | _, _, _, .nil, r => by cases r; exact .nil
  | _, _, _, .cons a q, r => by
    cases r with
    | cons r1 r2 => exact .cons (Dg.one I a r1) (DgAll.row I q r2)
theorem DgKv.rows (I : Inv X pins σ H s) : ∀ {ds : List (PyData × PyData)} {kvs : List (Key × V)} {es : List DictEntry} {vs : List (Key × Value)}, Pairs (mixKind X.prog X.w) es vs → KV kvs vs → DgKv X.K H kvs ds →
    Row X.prog X.w s.heap (es.map (·.key)) (ds.map (·.1)) ∧ Row X.prog X.w s.heap (es.map (·.val)) (ds.map (·.2))
  | _, _, _, _, p, kv, .nil => by
    cases kv
    cases p
    exact ⟨.nil, .nil⟩
  | _, _, _, _, p, kv, .cons a q => by
    cases kv with
    | cons z kv =>
      cases p with
      | cons hk hv p =>
        obtain ⟨i1, i2⟩ := DgKv.rows I p kv q
        obtain ⟨z1, z2⟩ := z
        refine ⟨.cons ?_ i1, .cons ?_ i2⟩
        · simp only at z1
          rw [z1]
          exact key_one hk
        · show One _ _ _ (DictEntry.val _) _
          rw [hv]
          exact Dg.one I a z2
theorem DgKt.rows (I : Inv X pins σ H s) : ∀ {ds : List (PyData × PyData)} {kvs : List (List Key × V)} {xs : List (List Key × Addr × Value)}, DgKt X.K H kvs ds → Paired (fun (p : List Key × V) (q : List Key × Addr × Value) => p.1 = q.1 ∧ H q.2.1 = some (.tup (p.1.map kV)) ∧ RelV p.2 q.2.2) kvs xs →
    Row X.prog X.w s.heap (xs.map ((·.key) ∘ entryOfKey (tupleKind (mixKind X.prog X.w)))) (ds.map (·.1)) ∧ Row X.prog X.w s.heap (xs.map ((·.val) ∘ entryOfKey (tupleKind (mixKind X.prog X.w)))) (ds.map (·.2))
  | _, _, _, .nil, p => by
    cases p
    exact ⟨.nil, .nil⟩
  | _, _, _, .cons (k := k) a q, p => by
    cases p with
    | cons z p =>
      obtain ⟨i1, i2⟩ := DgKt.rows I q p
      obtain ⟨z1, z2, z3⟩ := z
      refine ⟨.cons ?_ i1, .cons (Dg.one I a z3) i2⟩
      have hk : ∀ {c : Addr}, H c = some (.tup (k.map kV)) → One X.prog X.w s.heap (.ref c) (.tuple (k.map kD)) := fun {c} e => by
        obtain ⟨its, rv, ⟨o, ho, hc, n, hd⟩, _⟩ := I.tuple (.inl (.inl e))
        exact .tup ho hc hd (key_row k its rv)
      exact hk z2
end
def rShowG (K : PySem.W.Frag) : List V → Hp → VK → Prop := fun xs H Q => ∃ (v : V) (d : PyData), xs = [v] ∧ Dg K H v d ∧
  d.showable = true ∧ d.depth ≤ 30 ∧ d.shown.length ≤ sizeLine ∧ Q (.str d.shown) H
/-- repr of data, dicts let -/
theorem call_showG (hG : X.A.guards = some []) {k : Nat} (hr : Room k X.A) : CallR X (.builtin "repr") (rShowG X.K) := by
  intro pins s σ H xs us Q I r h
  obtain ⟨v, d, rfl, hd, hs, h30, hz, q⟩ := h
  obtain ⟨u, rfl, r1⟩ := vals1 r
  have on := hd.one I r1
  have hu := hr.units
  have obj : ∀ a, u = .ref a → wpAny (model X.prog X.w) X.A (call (.builtin "repr") [u]) (EP X pins σ Q) X.xe s := fun a e => by
    subst e
    obtain ⟨T, idr, S⟩ := on.top hs hz a rfl
    refine call_repr_slot (by omega) (S.typeIs s fun _ _ z => z) S.slotRepr (S.call X.A.in1 _ s _ hG ?_ (fun _ _ z => z) fun h' u tk hk => ⟨_, _, rfl, ⟨.str _, H, I.kept hk, ⟨u, rfl⟩, q⟩⟩)
    show X.A.units + 1 + _ < cLine
    omega
  cases hd with
  | non =>
    cases r1
    unfold PyData.shown at q
    exact PySem.P.repr_of_none ⟨.str _, H, I.tok _, ⟨_, rfl⟩, q⟩
  | bl b =>
    cases r1
    unfold PyData.shown at q
    exact PySem.P.repr_of_bool ⟨.str _, H, I.tok _, ⟨_, rfl⟩, q⟩
  | int i =>
    obtain ⟨t, rfl⟩ := r1
    unfold PyData.shown at q
    unfold PyData.showable at hs
    exact PySem.P.repr_of_int (of_decide_eq_true hs) ⟨.str _, H, I.tok _, ⟨_, rfl⟩, q⟩
  | str x =>
    obtain ⟨t, rfl⟩ := r1
    unfold PyData.shown at q hz
    exact PySem.P.repr_of_str ⟨.str _, H, I.tok _, ⟨_, rfl⟩, q⟩ hz
  | lst _ _ => exact obj _ r1
  | tup _ _ => exact obj _ r1
  | dk _ _ => exact obj _ r1
  | dt _ _ => exact obj _ r1
end
/-- what repr asks of a thing, dicts let -/
structure ShowG (d : PyData) : Prop where
  sh : d.showable = true
  dp : d.depth ≤ 30
  ln : d.shown.length ≤ sizeLine
theorem Ft.g {w k : Nat} {d : PyData} (h : Ft w k d) (hk : k ≤ 30 := by decide) (hw : w ≤ 16000 := by decide) : ShowG d := by
  have := h.showy hk hw
  exact ⟨this.sh, this.dp, this.ln⟩
/-- data that fits, dicts let -/
structure Fg (w k : Nat) (d : PyData) : Prop where
  sh : d.showable = true
  dp : d.depth ≤ k
  lv : d.leavesShort 1000 = true
  wt : d.weight ≤ w
structure FgA (w k : Nat) (ds : List PyData) : Prop where
  sh : PyData.showableAll ds = true
  dp : PyData.depthAll ds ≤ k
  lv : PyData.leavesShortAll 1000 ds = true
  wt : PyData.weightAll ds ≤ w
structure FgK (w k : Nat) (ds : List (PyData × PyData)) : Prop where
  sh : PyData.showableKv ds = true
  dp : PyData.depthKv ds ≤ k
  lv : PyData.leavesShortKv 1000 ds = true
  wt : PyData.weightKv ds ≤ w
theorem Ft.fg {w k : Nat} {d : PyData} (h : Ft w k d) : Fg w k d := ⟨h.sh, h.dp, h.lv, h.wt⟩
theorem FtA.fg {w k : Nat} {ds : List PyData} (h : FtA w k ds) : FgA w k ds := ⟨h.sh, h.dp, h.lv, h.wt⟩
theorem Fg.le {w k w' k' : Nat} {d : PyData} (h : Fg w k d) (hw : w ≤ w') (hk : k ≤ k') : Fg w' k' d := ⟨h.sh, Nat.le_trans h.dp hk, h.lv, Nat.le_trans h.wt hw⟩
theorem FgA.le {w k w' k' : Nat} {ds : List PyData} (h : FgA w k ds) (hw : w ≤ w') (hk : k ≤ k') : FgA w' k' ds := ⟨h.sh, Nat.le_trans h.dp hk, h.lv, Nat.le_trans h.wt hw⟩
theorem FgA.nil : FgA 0 0 [] := FtA.nil.fg
theorem FgA.cons {w k w' k' : Nat} {d : PyData} {ds : List PyData} (h : Fg w k d) (r : FgA w' k' ds) : FgA (w + 1 + w') (max k k') (d :: ds) := by
  refine ⟨?_, ?_, ?_, ?_⟩
  · simp only [PyData.showableAll, h.sh, r.sh, Bool.and_self]
  · simp only [PyData.depthAll]
    have := h.dp
    have := r.dp
    omega
  · simp only [PyData.leavesShortAll, h.lv, r.lv, Bool.and_self]
  · simp only [PyData.weightAll]
    have := h.wt
    have := r.wt
    omega
theorem FgA.all {w k : Nat} : ∀ {ds : List PyData}, (∀ d ∈ ds, Fg w k d) → FgA ((w + 1) * ds.length) k ds
  | [], _ => FgA.nil.le (Nat.zero_le _) (Nat.zero_le _)
  | d :: ds, h => by
    have r := FgA.cons (h d List.mem_cons_self) (FgA.all fun x hx => h x (List.mem_cons_of_mem _ hx))
    refine r.le ?_ (by omega)
    rw [List.length_cons, Nat.mul_succ]
    omega
theorem Fg.list {w k : Nat} {ds : List PyData} (r : FgA w k ds) : Fg w (k + 1) (.list ds) :=
  ⟨by simp only [PyData.showable]; exact r.sh, by simp only [PyData.depth]; exact Nat.succ_le_succ r.dp, by simp only [PyData.leavesShort]; exact r.lv, by simp only [PyData.weight]; exact r.wt⟩
theorem Fg.tuple {w k : Nat} {ds : List PyData} (r : FgA w k ds) : Fg w (k + 1) (.tuple ds) :=
  ⟨by simp only [PyData.showable]; exact r.sh, by simp only [PyData.depth]; exact Nat.succ_le_succ r.dp, by simp only [PyData.leavesShort]; exact r.lv, by simp only [PyData.weight]; exact r.wt⟩
theorem FgK.nil : FgK 0 0 [] := ⟨by simp only [PyData.showableKv], by simp only [PyData.depthKv, Nat.le_refl], by simp only [PyData.leavesShortKv], by simp only [PyData.weightKv, Nat.le_refl]⟩
theorem FgK.cons {w k w1 k1 w' k' : Nat} {d e : PyData} {ds : List (PyData × PyData)} (h : Fg w k d) (h1 : Fg w1 k1 e) (r : FgK w' k' ds) : FgK (w + w1 + 2 + w') (max (max k k1) k') ((d, e) :: ds) := by
  refine ⟨?_, ?_, ?_, ?_⟩
  · simp only [PyData.showableKv, h.sh, h1.sh, r.sh, Bool.and_self]
  · simp only [PyData.depthKv]
    have := h.dp
    have := h1.dp
    have := r.dp
    omega
  · simp only [PyData.leavesShortKv, h.lv, h1.lv, r.lv, Bool.and_self]
  · simp only [PyData.weightKv]
    have := h.wt
    have := h1.wt
    have := r.wt
    omega
theorem Fg.dict {w k : Nat} {ds : List (PyData × PyData)} (r : FgK w k ds) : Fg w (k + 1) (.dict ds) :=
  ⟨by simp only [PyData.showable]; exact r.sh, by simp only [PyData.depth]; exact Nat.succ_le_succ r.dp, by simp only [PyData.leavesShort]; exact r.lv, by simp only [PyData.weight]; exact r.wt⟩
theorem Fg.g {w k : Nat} {d : PyData} (h : Fg w k d) (hk : k ≤ 30 := by decide) (hw : w ≤ 16000 := by decide) : ShowG d := by
  refine ⟨h.sh, Nat.le_trans h.dp hk, ?_⟩
  have e := PyData.shown_le 1000 (by decide) d h.lv
  have e2 := h.wt
  have e3 : (1000 + 2) * d.weight ≤ 1002 * 16000 := Nat.mul_le_mul (Nat.le_refl _) (Nat.le_trans e2 hw)
  have e4 := sizeLine_eq
  omega
end Lf

set_option Elab.async false
set_option linter.all false
set_option maxRecDepth 100000
set_option maxHeartbeats 4000000
set_option exponentiation.threshold 3000
namespace Lf
open PySem PySem.Spec PyProof.Rows L2
theorem Dz.dg {K : PySem.W.Frag} {H : Hp} {v : V} {d : PyData} (h : Dz K H v d) : Dg K H v d := by
  cases h with
  | dp h _ => exact .of h
  | dic h p =>
    refine .dk h ?_
    clear h
    induction p with
    | nil => exact .nil
    | cons q _ ih =>
      rename_i kv d' _ _ _
      obtain ⟨k, v⟩ := kv
      obtain ⟨d1, d2⟩ := d'
      obtain ⟨q1, q2, _⟩ := q
      simp only at q1
      subst q1
      exact .cons (.of q2) ih
/-! ### each odd thing can be shown -/
theorem ftA_of {w : Nat} : ∀ ds : List PyData, (∀ x ∈ ds, Ft w 0 x) → FtA ((w + 1) * ds.length) 0 ds
  | [], _ => by
    have := FtA.nil
    exact ⟨this.sh, this.nd, this.dp, this.lv, by simpa using this.wt⟩
  | d :: ds, h => by
    have r := FtA.cons (h d List.mem_cons_self) (ftA_of ds fun x hx => h x (List.mem_cons_of_mem _ hx))
    refine ⟨r.sh, r.nd, Nat.le_trans r.dp (by decide), r.lv, Nat.le_trans r.wt ?_⟩
    rw [List.length_cons, Nat.mul_succ]
    omega
theorem Ft.le {w k w' k' : Nat} {d : PyData} (h : Ft w k d) (hw : w ≤ w') (hk : k ≤ k') : Ft w' k' d := ⟨h.sh, h.nd, Nat.le_trans h.dp hk, h.lv, Nat.le_trans h.wt hw⟩
theorem nat_ft {U : List Nat} (hU : ∀ i ∈ U, i < 60) (lU : U.length ≤ 12) : FtA 132 0 (U.map fun n : Nat => PyData.int (n : Int)) := by
  have h := ftA_of (w := 10) (U.map fun n : Nat => PyData.int (n : Int)) fun x hx => by
    obtain ⟨n, hn, rfl⟩ := List.mem_map.mp hx
    have := hU n hn
    exact Ft.intB (k := 10) (show ((n : Int)).natAbs < 1024 by omega) (by decide) (by decide)
  rw [List.length_map] at h
  exact ⟨h.sh, h.nd, h.dp, h.lv, Nat.le_trans h.wt (by omega)⟩
theorem lD_ft {U : List Nat} (hU : ∀ i ∈ U, i < 60) (lU : U.length ≤ 12) : Ft 132 1 (lD U) := Ft.list (nat_ft hU lU)
theorem oddl_ft {U : List Nat} (hU : ∀ i ∈ U, i < 60) (lU : U.length ≤ 12) {d : PyData} (h : OddL U d) : Ft 770 1 d := by
  rcases h with ⟨ds, rfl, hl, hn⟩ | rfl | rfl | rfl
  · have r := Ft.list (ftA_of (w := 10) ds fun x hx => (hl x hx).2)
    exact r.le (by omega) (by decide)
  · exact (Ft.tuple (nat_ft hU lU)).le (by decide) (by decide)
  · exact Ft.none.le (by decide) (by decide)
  · exact (Ft.str (w := 1) (Sg.of "0") (by decide +kernel)).le (by decide) (by decide)
theorem lD_text {U : List Nat} (hU : ∀ i ∈ U, i < 60) (lU : U.length ≤ 12) : (lD U).shown.length ≤ 200000 := by
  have h := lD_ft hU lU
  have e := PyData.shown_le 1000 (by decide) _ h.lv
  have e2 := h.wt
  omega
theorem odd_show {U V' : List Nat} (hU : ∀ i ∈ U, i < 60) (hV : ∀ i ∈ V', i < 60) (lU : U.length ≤ 12) (lV : V'.length ≤ 12) {d : PyData} (h : Odd U V' d) : ShowG d := by
  have fU := lD_ft hU lU
  have fV := lD_ft hV lV
  cases h with
  | fst h => exact (Ft.tuple (.cons (oddl_ft hU lU h) (.cons fV .nil))).g
  | snd h => exact (Ft.tuple (.cons fU (.cons (oddl_ft hV lV h) .nil))).g
  | swap => exact (Ft.tuple (.cons fV (.cons fU .nil))).g
  | any h =>
    unfold menu at h
    simp only [List.mem_cons, List.not_mem_nil, or_false] at h
    rcases h with rfl | rfl | rfl | rfl | rfl | rfl | rfl | rfl | rfl | rfl | rfl | rfl
    · exact Ft.none.g
    · exact (Ft.intB (k := 10) (show ((0 : Int)).natAbs < 1024 by decide) (by decide) (by decide)).g
    · exact (Ft.bool true).g
    · exact (Ft.str (w := 1) (Sg.of "") (by decide +kernel)).g
    · exact (Ft.list .nil).g
    · exact (Ft.tuple .nil).g
    · exact ⟨by decide +kernel, by decide +kernel, by decide +kernel⟩
    · exact (Ft.list (.cons fU (.cons fV .nil))).g
    · exact (Ft.tuple (.cons fU .nil)).g
    · exact (Ft.tuple (.cons fU (.cons fV (.cons (Ft.list .nil) .nil)))).g
    · exact fU.g
    · refine ⟨?_, ?_, ?_⟩
      · simp only [PyData.showable, PyData.showableKv, fU.sh, Bool.and_self, Bool.and_true]
      · have := fU.dp
        simp only [PyData.depth, PyData.depthKv]
        omega
      · have lv : PyData.leavesShort 1000 (.dict [(.str (Str.ofString "up"), lD U)]) = true := by
          have f := Ft.str (w := 2) (Sg.of "up") (by decide +kernel)
          simp only [PyData.leavesShort, PyData.leavesShortKv, Bool.and_true, Bool.and_eq_true]
          exact ⟨by simpa only [PyData.leavesShort] using f.lv, fU.lv⟩
        have e := PyData.shown_le 1000 (by decide) _ lv
        have w1 : (PyData.str (Str.ofString "up")).weight ≤ 2 := (Ft.str (w := 2) (Sg.of "up") (by decide +kernel)).wt
        have w2 := fU.wt
        have w3 : PyData.weight (.dict [(.str (Str.ofString "up"), lD U)]) ≤ 136 := by
          simp only [PyData.weight, PyData.weightKv] at w1 ⊢
          omega
        have e3 : (1000 + 2) * PyData.weight (.dict [(.str (Str.ofString "up"), lD U)]) ≤ 1002 * 136 := Nat.mul_le_mul (Nat.le_refl _) w3
        have e4 := sizeLine_eq
        omega
theorem odd_shrt {U V' : List Nat} (lU : U.length ≤ 12) (lV : V'.length ≤ 12) {d : PyData} (h : Odd U V' d) : Shrt2 d := by
  have sU : ∀ W : List Nat, W.length ≤ 12 → Shrt (lD W) := fun W hW ds e => by
    have := PyData.list.inj e
    rw [← this, List.length_map]
    omega
  have sO : ∀ (W : List Nat) (x : PyData), OddL W x → Shrt x := fun W x hx ds e => by
    rcases hx with ⟨ds', rfl, _, hn⟩ | rfl | rfl | rfl
    · have := PyData.list.inj e
      rw [← this]
      omega
    · cases e
    · cases e
    · cases e
  intro ds e x hx
  cases h with
  | fst h =>
    have := PyData.tuple.inj e
    subst this
    simp only [List.mem_cons, List.not_mem_nil, or_false] at hx
    rcases hx with rfl | rfl
    · exact sO _ _ h
    · exact sU _ lV
  | snd h =>
    have := PyData.tuple.inj e
    subst this
    simp only [List.mem_cons, List.not_mem_nil, or_false] at hx
    rcases hx with rfl | rfl
    · exact sU _ lU
    · exact sO _ _ h
  | swap =>
    have := PyData.tuple.inj e
    subst this
    simp only [List.mem_cons, List.not_mem_nil, or_false] at hx
    rcases hx with rfl | rfl
    · exact sU _ lV
    · exact sU _ lU
  | any h =>
    unfold menu at h
    simp only [List.mem_cons, List.not_mem_nil, or_false] at h
    rcases h with rfl | rfl | rfl | rfl | rfl | rfl | rfl | rfl | rfl | rfl | rfl | rfl
    · cases e
    · cases e
    · cases e
    · cases e
    · cases e
    · have := PyData.tuple.inj e
      subst this
      cases hx
    · cases e
    · cases e
    · have := PyData.tuple.inj e
      subst this
      simp only [List.mem_cons, List.not_mem_nil, or_false] at hx
      subst hx
      exact sU _ lU
    · have := PyData.tuple.inj e
      subst this
      simp only [List.mem_cons, List.not_mem_nil, or_false] at hx
      rcases hx with rfl | rfl | rfl
      · exact sU _ lU
      · exact sU _ lV
      · intro ds' e'
        have := PyData.list.inj e'
        subst this
        exact Nat.zero_le _
    · cases e
    · cases e
end Lf

set_option Elab.async false
set_option linter.all false
set_option maxRecDepth 100000
set_option maxHeartbeats 4000000
set_option exponentiation.threshold 3000
namespace Lf
open PySem PySem.Spec PyProof.Rows L2
section
variable {P : Program} {w : World} {K : PySem.W.Frag} {mg : Str → Option Value} {base : Heap}
theorem worst_bd {fs : List (Int × Int)} {st : Int × Int} (W : Wts fs) (hs : Wt st) : Bd (worst (aimsF fs st) (cnt fs st)) := by
  have am := aims_am W hs
  have h := worst_ok (k := 640) (fun f hf => (am f hf).lo) (by decide) (near_cnt W hs) ((aimsF fs st).zip (cnt fs st)).length
  rw [List.take_length] at h
  exact ⟨h.1, h.2.1⟩
/-- what is due of the paper -/
def dueB (fs : List (Int × Int)) (st b : Int × Int) : Bool := !lessB (worst (aimsF fs st) (cnt fs st)) b
theorem due_0 {w b : Int × Int} (b0 : 0 < b.1) (w2 : 0 < w.2) (b2 : 0 < b.2) (h : ¬ w.1 > 0) : lessB w b = true := by
  rw [lessB_iff]
  have : 0 < b.1 * w.2 := Int.mul_pos b0 w2
  rcases Int.lt_or_eq_of_le (Int.not_lt.mp h) with z | z
  · have e : w.1 * b.2 ≤ 0 := Int.mul_nonpos_of_nonpos_of_nonneg (by omega) (by omega)
    omega
  · rw [z, Int.zero_mul]
    exact this

/-! ### _law_right -/
abbrev s__law_right : Stmt := topS 53
theorem sc__law_right : FnScope ["_law_pot_here", "_law_weights_here", "_law_step_here", "_law_bound_here", "_law_worst", "_law_told", "_law_due", "_law_turn", "_law_thing", "_law_before", "_law_handed"] ["_law_pot_here", "_law_weights_here", "_law_step_here", "_law_bound_here", "_law_worst"] (defScope s__law_right) := ⟨rfl, rfl, rfl, by decide +kernel, rfl, by decide +kernel, by decide +kernel⟩
def sp_right (K : PySem.W.Frag) : Sp := fun vs H Q _ => ∃ (q L : Addr) (v u wv : V) (xs : List V) (fs : List (Int × Int)) (st b : Int × Int), vs = [.ref q, .ref L, v, u, wv] ∧ Pot H q ∧ Ws K H q L xs fs ∧ Wts fs ∧ AtK K H v st ∧ Wt st ∧ many fs st ≠ 0 ∧ AtK K H u b ∧ Bd b ∧ 0 < b.1 ∧ AtK K H wv (worst (aimsF fs st) (cnt fs st)) ∧ ∀ H', Pot H' q → But q H H' → Q (.bl true) H'
set_option maxHeartbeats 8000000 in
theorem ok_right {f : Addr} {fd : FuncData} (M : Blt mg) (ml : mg "list" = none) (F : Fun K "_law_right" "_law_right" s__law_right f fd) (C__law_less : Cal P w K mg base CX0 1 "_law_less" ["_law_one", "_law_other"] (sp_is_less K)) (C__law_odd : Cal P w K mg base CX0 3 "_law_odd" ["_law_pot_here", "_law_told"] (sp_odd K))
    (C_paper : Cal P w K mg base CX0 9 "paper" ["weights", "step", "bound"] (sp_paper K)) (C_shows : Cal P w K mg base CX0 10 "shows" ["weights", "step", "bound", "thing"] (sp_shows K)) : FnG P w K mg base CX0 12 f fd ["_law_pot_here", "_law_weights_here", "_law_step_here", "_law_bound_here", "_law_worst"] (sp_right K) := by
  refine Gfun F sc__law_right (fun vs H Q E h => ?_) (fun cdv A outer s H vs Q E hg hr h => ?_)
  · obtain ⟨q, L, v, u, wv, xs, fs, st, b, rfl, _⟩ := h
    rfl
  · obtain ⟨q, L, v, u, wv, xs, fs, st, b, rfl, hP, S, W, hv, hst, hm, hu, hb, b0, hw, k⟩ := h
    refine ⟨_, (pss_cons (ps_set (i := 5) sc__law_right.nd rfl (.inl rfl) (pe_g C_paper (hr.mono (by decide)) hg (pa_cons (pe_callTy call_list_of rfl ml bt_list (pa_cons (pv 1) pa_nil)) (pa_cons (pv 2) (pa_cons (pv 3) pa_nil)))))
      (pss_mid (ps_set (i := 6) sc__law_right.nd rfl (.inl rfl) (pe_and (pe_cmpR op_gt (pe_ix ix_tup (pv 4) pe_int (fun _ _ => rfl)) pe_int (nomark _)) (pe_one (pe_not (pe_g C__law_less (hr.mono (by decide)) hg (pa_cons (pv 4) (pa_cons (pv 3) pa_nil)))))))
      (pss_cons (ps_if (pt_cmpR op_ne (pe_callB (call_showG hg hr) rfl M.repr bt_repr (pa_cons (pe_g C_shows (hr.mono (by decide)) hg (pa_cons (pe_callTy call_list_of rfl ml bt_list (pa_cons (pv 1) pa_nil)) (pa_cons (pv 2) (pa_cons (pv 3) (pa_cons (pv 5) pa_nil))))) pa_nil)) (pe_callB (call_showG hg hr) rfl M.repr bt_repr (pa_cons (pv 6) pa_nil)) (nomark _))
      (pss_one (ps_ret pe_bl))
      pss_nil)
      (pss_cons (ps_for PassesOwn.never rfl (pi_range1 rfl M.range (pa_cons pe_int pa_nil)) (pg_name (i := 7) sc__law_right.nd rfl (.inl rfl))
      (pss_cons (ps_set (i := 8) sc__law_right.nd rfl (.inl rfl) (pe_g C__law_odd (hr.mono (by decide)) hg (pa_cons (pv 0) (pa_cons (pv 5) pa_nil))))
      (pss_cons (ps_set (i := 9) sc__law_right.nd rfl (.inl rfl) (pe_callB (call_showG hg hr) rfl M.repr bt_repr (pa_cons (pv 8) pa_nil)))
      (pss_cons (ps_set (i := 10) sc__law_right.nd rfl (.inl rfl) (pe_callTy call_list_of rfl ml bt_list (pa_cons (pv 1) pa_nil)))
      (pss_mid (ps_if (pt_cmpR op_ne (pe_callB (call_showG hg hr) rfl M.repr bt_repr (pa_cons (pe_g C_shows (hr.mono (by decide)) hg (pa_cons (pv 10) (pa_cons (pv 2) (pa_cons (pv 3) (pa_cons (pv 8) pa_nil))))) pa_nil)) (pe_callB (call_showG hg hr) rfl M.repr bt_repr (pa_cons (pe_and (pv 6) (pe_one (pe_cmpR op_eq (pe_callB (call_showG hg hr) rfl M.repr bt_repr (pa_cons (pv 8) pa_nil)) (pe_callB (call_showG hg hr) rfl M.repr bt_repr (pa_cons (pv 5) pa_nil)) (nomark _)))) pa_nil)) (nomark _))
      (pss_one (ps_ret pe_bl))
      pss_nil)
      (pss_one (ps_if (PW.pt (pw_or (pt_cmpR op_ne (pe_callB (call_showG hg hr) rfl M.repr bt_repr (pa_cons (pv 8) pa_nil)) (pv 9) (nomark _)) (pw_or1 (pt_cmpR (op_neD hr.units) (pv 10) (pv 1) (nomark _)))))
      (pss_one (ps_ret pe_bl))
      pss_nil)))))))
      (pss_one (ps_ret pe_bl)))))), ?_⟩
    have h12 := W.few
    have am := aims_am W hst
    have rl : ((aimsF fs st).map rst).length = fs.length := by rw [List.length_map, aims_len]
    have lU := up_le ((aimsF fs st).map rst) b
    have lV := dn_le ((aimsF fs st).map rst) b
    have iU : ∀ i ∈ upL ((aimsF fs st).map rst) b, i < 60 := fun i hi => by have := up_lt hi; omega
    have iV : ∀ i ∈ dnL ((aimsF fs st).map rst) b, i < 60 := fun i hi => by have := dn_lt hi; omega
    have hsh := paper_shows (b := b) W (fun f hf => (am f hf).lo) (fun f hf => (am f hf).nn) hb.1 b0
    obtain ⟨U, hU⟩ : ∃ U, U = upL ((aimsF fs st).map rst) b := ⟨_, rfl⟩
    obtain ⟨V', hV⟩ : ∃ V', V' = dnL ((aimsF fs st).map rst) b := ⟨_, rfl⟩
    rw [← hU] at lU iU hsh
    rw [← hV] at lV iV hsh
    have fit : ∀ (H' : Hp) (p : Addr), But q H H' → H' p = some (.lst xs) → Fit K H' p v xs fs st := fun H' p bb e => ⟨.inl (.inl (.inl e)), S.at_.but bb hP, W, hv.but bb hP, hst, hm⟩
    refine ⟨_, rfl, L, xs, rfl, .inl (.inl (.inl S.l)), fun p1 n1 => ?_⟩
    have s1 : Same H (L2.upd H p1 (.lst xs)) := same_new n1
    have e1 : L2.upd H p1 (.lst xs) p1 = some (.lst xs) := upd_same
    generalize L2.upd H p1 (.lst xs) = H1 at s1 e1 ⊢
    have b1 : But q H H1 := But.same But.rfl s1
    refine ⟨_, rfl, _, rfl, p1, v, u, xs, fs, st, b, rfl, fit H1 p1 b1 e1, hu.same s1, hb, fun H2 pt Dt Et s2 nD nE np ne e2 f2 g2 => ?_⟩
    rw [← hU] at f2
    rw [← hV] at g2
    have P1 := pot_same hP s1
    have P2 := pot_same P1 s2
    have npt := pot_ne P1 np
    have nDt := pot_ne P1 nD
    have nEt := pot_ne P1 nE
    have b2 : But q H H2 := b1.same s2
    have wb := worst_bd W hst
    obtain ⟨wo, hwo⟩ : ∃ wo, wo = worst (aimsF fs st) (cnt fs st) := ⟨_, rfl⟩
    rw [← hwo] at hw hsh wb
    obtain ⟨due, hdue⟩ : ∃ due : Bool, due = !lessB wo b := ⟨_, rfl⟩
    rw [← hdue] at hsh
    refine ⟨fun σ H' => σ = [some (.ref q), some (.ref L), some v, some u, some wv, some (.ref pt), some (.bl due), none, none, none, none] ∧ H' = H2, ?_, ?_⟩
    · have hw2 := hw.but b2 hP
      have hu2 := hu.but b2 hP
      obtain ⟨pw, rfl, hpw⟩ := hw2
      obtain ⟨pu, rfl, hpu⟩ := hu2
      refine ⟨_, rfl, pw, _, _, _, rfl, rfl, hpw, atI_nat (j := 0) rfl, _, _, rfl, rfl, _, rfl, ite2 (fun c => ?_) (fun c => ?_)⟩
      · refine ⟨_, rfl, _, rfl, _, _, _, _, pr_sq hpw hpu wb.1 hb.1 wb.2 hb.2 (by decide) (by decide), ?_⟩
        refine ⟨_, rfl, ?_⟩
        refine ⟨?_, rfl⟩
        rw [hdue]
        rfl
      · refine ⟨?_, rfl⟩
        have : due = false := by
          rw [hdue, due_0 b0 wb.1.1 hb.1.1 (fun z => c (decide_eq_true z))]
          rfl
        rw [this]
        rfl
    rintro σ H' ⟨rfl, hH⟩
    subst hH
    have fb : ∀ x : Bool, ShowG (.bool x) := fun x => (Ft.bool x).g
    have told : ∀ H'', But q H' H'' → Dp K H'' (.ref pt) (papD U V') := fun H'' bb => pap_dp (bb _ _ npt e2) (bb _ _ nDt f2) (bb _ _ nEt g2)
    have pnd : (papD U V').hasDict = false := by
      rw [papD_eq]
      simp only [PyData.hasDict, PyData.hasDictAll, lD_nd, Bool.or_self]
    have psh : Shrt2 (papD U V') := by
      rw [papD_eq]
      intro ds e x hx
      have := PyData.tuple.inj e
      subst this
      have sU : ∀ W : List Nat, W.length ≤ 12 → Shrt (lD W) := fun W hW ds e => by
        have := PyData.list.inj e
        rw [← this, List.length_map]
        omega
      simp only [List.mem_cons, List.not_mem_nil, or_false] at hx
      rcases hx with rfl | rfl
      · exact sU _ (by omega)
      · exact sU _ (by omega)
    have pz : ShowG (papD U V') := by
      have := pap_showy iU iV (by omega) (by omega)
      exact ⟨this.sh, this.dp, this.ln⟩
    have same_b : Same H' H' := same_rfl
    refine ⟨_, rfl, L, xs, rfl, .inl (.inl (.inl (b2 _ _ S.ne S.l))), fun p3 n3 => ?_⟩
    have s3 : Same H' (L2.upd H' p3 (.lst xs)) := same_new n3
    have e3 : L2.upd H' p3 (.lst xs) p3 = some (.lst xs) := upd_same
    generalize L2.upd H' p3 (.lst xs) = H3 at s3 e3 ⊢
    have b3 : But q H H3 := b2.same s3
    refine ⟨_, rfl, _, rfl, _, rfl, p3, v, u, .ref pt, papD U V', xs, fs, st, b, rfl, fit H3 p3 b3 e3, hu.but b3 hP, hb, .dp (told H3 (But.same But.rfl s3)) pnd, psh, fun H4 s4 => ?_⟩
    rw [← hU, ← hV, hsh, isPap_lD, Bool.true_and]
    refine ⟨.bl due, .bool due, rfl, .bl due, (fb due).sh, (fb due).dp, (fb due).ln, ?_⟩
    refine ⟨_, rfl, .bl due, .bool due, rfl, .bl due, (fb due).sh, (fb due).dp, (fb due).ln, ?_⟩
    refine ⟨rfl, _, rfl, iteNS rfl ?_⟩
    have b24 : But q H' H4 := (But.same But.rfl s3).same s4
    have P4 := pot_same (pot_same P2 s3) s4
    refine ⟨_, rfl, by decide, by decide, for_range (lo := 0) (n := 4) (fun i σ H5 => ∃ (y7 y8 y9 y10 : Option V), σ = [some (.ref q), some (.ref L), some v, some u, some wv, some (.ref pt), some (.bl due), y7, y8, y9, y10] ∧ Pot H5 q ∧ But q H' H5) ⟨_, _, _, _, rfl, P4, b24⟩ ?_ ?_⟩
    · rintro i σ H5 hi ⟨y7, y8, y9, y10, rfl, P5, b5⟩
      refine ⟨_, rfl, _, rfl, q, pt, Dt, Et, U, V', rfl, P5, b5 _ _ npt e2, b5 _ _ nDt f2, b5 _ _ nEt g2, nDt, nEt, by omega, by omega, iU, iV, fun x d H6 hx ho P6 b6 => ?_⟩
      have sz := odd_show iU iV (by omega) (by omega) ho
      have ss := odd_shrt (by omega) (by omega) ho
      have b26 := b5.trans b6
      have b06 : But q H H6 := b2.trans b26
      refine ⟨_, rfl, x, d, rfl, hx.dg, sz.sh, sz.dp, sz.ln, ?_⟩
      refine ⟨_, rfl, L, xs, rfl, .inl (.inl (.inl (b06 _ _ S.ne S.l))), fun p7 n7 => ?_⟩
      have s7 : Same H6 (L2.upd H6 p7 (.lst xs)) := same_new n7
      have e7 : L2.upd H6 p7 (.lst xs) p7 = some (.lst xs) := upd_same
      generalize L2.upd H6 p7 (.lst xs) = H7 at s7 e7 ⊢
      have b07 : But q H H7 := b06.same s7
      have P7 := pot_same P6 s7
      refine ⟨fun σ H8 => σ = [some (.ref q), some (.ref L), some v, some u, some wv, some (.ref pt), some (.bl due), some (.int (0 + (i : Int))), some x, some (.str d.shown), some (.ref p7)] ∧ Same H7 H8, ?_, ?_⟩
      · refine ⟨_, rfl, _, rfl, _, rfl, _, rfl, p7, v, u, x, d, xs, fs, st, b, rfl, fit H7 p7 b07 e7, hu.but b07 hP, hb, hx.same s7, ss, fun H8 s8 => ?_⟩
        rw [← hU, ← hV, hsh, the_text ho]
        have s68 := s7.trans s8
        have b28 : But q H' H8 := b26.same s68
        refine ⟨_, _, rfl, .bl _, (fb _).sh, (fb _).dp, (fb _).ln, ?_⟩
        refine ⟨_, rfl, _, rfl, ite2 (fun c => ?_) (fun c => ?_)⟩
        · have c' : due = true := c
          refine ⟨_, rfl, x, d, rfl, (hx.same s68).dg, sz.sh, sz.dp, sz.ln, ?_⟩
          refine ⟨_, rfl, .ref pt, papD U V', rfl, .of (told H8 b28), pz.sh, pz.dp, pz.ln, ?_⟩
          refine ⟨rfl, _, _, rfl, .bl _, (fb _).sh, (fb _).dp, (fb _).ln, ?_⟩
          refine ⟨rfl, _, rfl, iteNS ?_ ⟨rfl, s8⟩⟩
          rw [c', Bool.and_true]
          have e : decide (V.str d.shown = V.str (papD U V').shown) = decide (d.shown = (papD U V').shown) := by
            by_cases z : d.shown = (papD U V').shown
            · rw [decide_eq_true z, decide_eq_true (by rw [z])]
            · rw [decide_eq_false z, decide_eq_false (fun y => z (V.str.inj y))]
          rw [e]
        · have c' : due = false := Bool.eq_false_iff.mpr c
          refine ⟨_, _, rfl, .bl _, (fb _).sh, (fb _).dp, (fb _).ln, ?_⟩
          refine ⟨rfl, _, rfl, iteNS ?_ ⟨rfl, s8⟩⟩
          rw [c', Bool.and_false]
      · rintro σ H8 ⟨rfl, s8⟩
        have s68 := s7.trans s8
        have b08 : But q H H8 := b06.same s68
        refine ⟨_, rfl, x, d, rfl, (hx.same s68).dg, sz.sh, sz.dp, sz.ln, ?_⟩
        refine ⟨_, rfl, rfl, _, rfl, iteNS rfl ?_⟩
        refine ⟨_, rfl, _, rfl, _, _, rowD (.inl (.inl (s8 _ _ e7))) (S.at_.but b08 hP), rowD (.inl (.inl (b08 _ _ S.ne S.l))) (S.at_.but b08 hP), row_shaped _, row_shaped _, ?_⟩
        rw [rowD_eqv]
        exact ⟨_, rfl, iteF ⟨_, _, _, _, rfl, pot_same P6 s68, b26.same s68⟩⟩
    · rintro σ H5 ⟨y7, y8, y9, y10, rfl, P5, b5⟩
      exact k _ P5 (b2.trans b5)

end
end Lf

set_option Elab.async false
set_option linter.all false
set_option maxRecDepth 100000
set_option maxHeartbeats 4000000
set_option exponentiation.threshold 3000
namespace Lf
open PySem PySem.Spec PyProof.Rows L2
section
variable {P : Program} {w : World} {K : PySem.W.Frag} {mg : Str → Option Value} {base : Heap}

/-! ### law -/
abbrev s_law : Stmt := topS 54
theorem sc_law : FnScope ["_law_script", "_law_k", "_law_pot_here", "_law_weights_here", "_law_step_here", "_law_worst", "_law_bounds", "_law_bound_here", "_law_turn"] ["_law_script"] (defScope s_law) := ⟨rfl, rfl, rfl, by decide +kernel, rfl, by decide +kernel, by decide +kernel⟩
def sp_law (K : PySem.W.Frag) : Sp := fun vs H Q _ => ∃ (a : Addr) (ns : List Int), vs = [.ref a] ∧ SqL K H a (ns.map V.int) ∧ ns.length ≤ 63 ∧ ∀ H', Q (.bl true) H'
theorem ok_law {f : Addr} {fd : FuncData} (M : Blt mg) (ml : mg "list" = none) (F : Fun K "law" "law" s_law f fd) (C__law_cell : Cal P w K mg base CX0 1 "_law_cell" ["_law_script", "_law_k"] (sp_cell K)) (C__law_pot : Cal P w K mg base CX0 1 "_law_pot" ["_law_cell_here"] sp_pot)
    (C__law_weights : Cal P w K mg base CX0 3 "_law_weights" ["_law_pot_here", "_law_most"] (sp_weights K)) (C__law_fit_step : Cal P w K mg base CX0 5 "_law_fit_step" ["_law_pot_here", "_law_weights_here"] (sp_fit K)) (C_rounded : Cal P w K mg base CX0 11 "rounded" ["weights", "step"] (sp_rounded K)) (C__law_bound : Cal P w K mg base CX0 2 "_law_bound" ["_law_pot_here"] (sp_bound K)) (C__law_right : Cal P w K mg base CX0 12 "_law_right" ["_law_pot_here", "_law_weights_here", "_law_step_here", "_law_bound_here", "_law_worst"] (sp_right K)) : FnG P w K mg base CX0 13 f fd ["_law_script"] (sp_law K) := by
  refine Gfun F sc_law (fun vs H Q E h => ?_) (fun cdv A outer s H vs Q E hg hr h => ?_)
  · obtain ⟨a, ns, rfl, _⟩ := h
    rfl
  · obtain ⟨a, ns, rfl, hS, hl, k⟩ := h
    refine ⟨_, (pss_cons (ps_for PassesOwn.never rfl (pi_range1 rfl M.range (pa_cons (pe_callB (call_max2 rfl) rfl M.max bt_max (pa_cons pe_int (pa_cons (pe_callB (call_min2 rfl) rfl M.min bt_min (pa_cons pe_int (pa_cons (pe_callB call_len_seq rfl M.len bt_len (pa_cons (pv 0) pa_nil)) pa_nil))) pa_nil))) pa_nil)) (pg_name (i := 1) sc_law.nd rfl (.inl rfl))
      (pss_cons (ps_set (i := 2) sc_law.nd rfl (.inr rfl) (pe_g C__law_pot (hr.mono (by decide)) hg (pa_cons (pe_g C__law_cell (hr.mono (by decide)) hg (pa_cons (pv 0) (pa_cons (pv 1) pa_nil))) pa_nil)))
      (pss_cons (ps_set (i := 3) sc_law.nd rfl (.inl rfl) (pe_g C__law_weights (hr.mono (by decide)) hg (pa_cons (pv 2) (pa_cons pe_int pa_nil))))
      (pss_cons (ps_set (i := 4) sc_law.nd rfl (.inl rfl) (pe_g C__law_fit_step (hr.mono (by decide)) hg (pa_cons (pv 2) (pa_cons (pv 3) pa_nil))))
      (pss_cons (ps_set (i := 5) sc_law.nd rfl (.inl rfl) (pe_ix ix_tup (pe_g C_rounded (hr.mono (by decide)) hg (pa_cons (pe_callTy call_list_of rfl ml bt_list (pa_cons (pv 3) pa_nil)) (pa_cons (pv 4) pa_nil))) pe_int (fun _ _ => rfl)))
      (pss_cons (ps_set (i := 6) sc_law.nd rfl (.inl rfl) (pe_op op_cat (pe_lc (own := [("_law_turn", 8)]) (g := gName 8) (tt := tYes) rfl sc_law.nd (pi_range1 rfl M.range (pa_cons pe_int pa_nil)) (blkOk_by (N := ["_law_script", "_law_k", "_law_pot_here", "_law_weights_here", "_law_step_here", "_law_worst", "_law_bounds", "_law_bound_here", "_law_turn"]) (sc := defScope s_law) (by decide +kernel)) (fun _ _ _ _ _ => pg_name (i := 8) sc_law.nd rfl (Or.inl rfl)) (fun _ _ _ _ _ => pts_nil) (fun _ _ _ _ _ => (pe_g C__law_bound (hr.mono (by decide)) hg (pa_cons (pv 2) pa_nil)))) (pe_op op_rep (pe_lst (pa_cons (pv 5) pa_nil)) (pe_callTy call_int1 rfl M.int bt_int (pa_cons (pe_cmpR op_gt (pe_ix ix_tup (pv 5) pe_int (fun _ _ => rfl)) pe_int (nomark _)) pa_nil)))))
      (pss_one (ps_for PassesOwn.never rfl (pi_list (pv 6)) (pg_name (i := 7) sc_law.nd rfl (.inl rfl))
      (pss_one (ps_if (pt_not (pt_val (pe_g C__law_right (hr.mono (by decide)) hg (pa_cons (pv 2) (pa_cons (pv 3) (pa_cons (pv 4) (pa_cons (pv 7) (pa_cons (pv 5) pa_nil))))))))
      (pss_one (ps_ret pe_bl))
      pss_nil))))))))))
      (pss_one (ps_ret pe_bl))), ?_⟩
    refine ⟨_, rfl, a, _, rfl, .inl hS, _, _, rfl, _, _, rfl, _, rfl, ?_, ?_, ?_⟩
    · split <;> split <;> omega
    · split <;> split <;> omega
    generalize hN : Int.toNat _ = N
    have hN2 : N ≤ 64 := by
      rw [← hN]
      split <;> split <;> omega
    refine for_range (lo := 0) (n := N) (fun i σ H' => ∃ (y1 y2 y3 y4 y5 y6 y7 y8 : Option V), σ = [some (.ref a), y1, y2, y3, y4, y5, y6, y7, y8] ∧ Same H H') ⟨_, _, _, _, _, _, _, _, rfl, same_rfl⟩ ?_ ?_
    · rintro i σ H1 hi ⟨y1, y2, y3, y4, y5, y6, y7, y8, rfl, s1⟩
      refine ⟨_, rfl, _, rfl, a, ns, i, (by show [V.ref a, V.int (0 + (i : Int))] = _; rw [Int.zero_add]), sm_l s1 hS, by omega, fun c => ?_⟩
      refine ⟨c, rfl, fun x y q y0 yl nq => ?_⟩
      have P2 : Pot (L2.upd H1 q (.lst [.int x, .int y])) q := ⟨x, y, y0, yl, upd_same⟩
      have s2 : Same H1 (L2.upd H1 q (.lst [.int x, .int y])) := same_new nq
      have hq : H1 q = none := nq
      generalize L2.upd H1 q (.lst [.int x, .int y]) = H2 at P2 s2 ⊢
      refine ⟨_, rfl, q, 12, rfl, by decide, by decide, P2, fun L xs fs H3 S3 W P3 b3 => ?_⟩
      refine ⟨_, rfl, _, rfl, q, L, xs, fs, rfl, S3, W, P3, fun sv sf H6 hsv hsf P6 b4 => ?_⟩
      have S6 : Ws K H6 q L xs fs := S3.but b4 P3
      -- the worst
      refine ⟨_, rfl, L, xs, rfl, .inl (.inl (.inl S6.l)), fun p11 n11 => ?_⟩
      have s11 : Same H6 (L2.upd H6 p11 (.lst xs)) := same_new n11
      have e11 : L2.upd H6 p11 (.lst xs) p11 = some (.lst xs) := upd_same
      generalize L2.upd H6 p11 (.lst xs) = H11 at s11 e11 ⊢
      refine ⟨_, rfl, p11, sv, xs, fs, sf, rfl, ⟨.inl (.inl (.inl e11)), S6.at_.same s11, W, hsv.same s11, hsf.1, hsf.2⟩, fun H12 p12 D12 v1 v2 s12 nD12 np12 e12 f12 a12 b12 => ?_⟩
      refine ⟨p12, _, _, _, rfl, rfl, .inl (.inl e12), atI_nat (j := 2) rfl, ?_⟩
      have s612 := s11.trans s12
      have P12 := pot_same P6 s612
      have b612 : But q H6 H12 := But.same But.rfl s612
      have wbd := worst_bd W hsf.1
      -- the bounds
      refine ⟨_, rfl, by decide, by decide, fun D14 hD14 => ?_⟩
      have nD := pot_ne P12 hD14
      refine lc_range (lo := 0) (n := 5) (fun j H' => ∃ (us : List V) (gs : List (Int × Int)), H' D14 = some (.lst us) ∧ us.length = j ∧ AtKs K H' us gs ∧ (∀ g ∈ gs, Wt g) ∧ Pot H' q ∧ But q H12 H') ⟨[], [], upd_same, rfl, .nil, (fun g hg => by cases hg), pot_same P12 (same_new hD14), But.same But.rfl (same_new hD14)⟩ ?_ ?_
      · rintro j H' hj ⟨us, gs, e, lu, ha, hgs, hP, hB⟩
        refine ⟨rfl, _, rfl, q, rfl, hP, fun u g H'' hu hgw hP' hB' => ?_⟩
        have e2' : H'' D14 = some (.lst us) := hB' _ _ nD e
        refine ⟨us, e2', by rw [sizeLine_eq]; omega, us ++ [u], gs ++ [g], upd_same, by rw [List.length_append, lu]; rfl, AtKs.app (AtKs.map (fun v f h => AtK.upd e2' (h.but hB' hP)) ha) (.cons (AtK.upd e2' hu) .nil), fun f hf => ?_, pot_upd hP' nD, fun c o nc ec => ?_⟩
        · rcases List.mem_append.mp hf with z | z
          · exact hgs f z
          · rw [List.mem_singleton.mp z]
            exact hgw
        · rw [upd_ne (ne_of_none ec hD14)]
          exact hB' _ _ nc (hB _ _ nc ec)
      · rintro H14 ⟨us, gs, e14, lu, ha14, hgs, P14, b1214⟩
        have b614 : But q H6 H14 := b612.trans b1214
        have aw14 : AtK K H14 v2 (worst (aimsF fs sf) (cnt fs sf)) := b12.but b1214 P12
        refine ⟨_, rfl, len_show (Nat.le_of_ble_eq_true rfl), fun p17 n17 => ?_⟩
        have s17 : Same H14 (L2.upd H14 p17 (.lst [v2])) := same_new n17
        have e17 : L2.upd H14 p17 (.lst [v2]) p17 = some (.lst [v2]) := upd_same
        generalize L2.upd H14 p17 (.lst [v2]) = H17 at s17 e17 ⊢
        obtain ⟨pw, rfl, hpw⟩ := aw14.same s17
        refine ⟨_, rfl, pw, _, _, _, rfl, rfl, hpw, atI_nat (j := 0) rfl, _, _, rfl, rfl, .inr ⟨_, rfl, ?_⟩⟩
        obtain ⟨m, hm⟩ : ∃ m : Int, m = (if decide ((worst (aimsF fs sf) (cnt fs sf)).1 > 0) = true then (1 : Int) else 0) := ⟨_, rfl⟩
        rw [← hm]
        have hm1 : 0 ≤ m ∧ m ≤ 1 := by
          rw [hm]
          split <;> omega
        have hm2 : m.toNat = 0 ∨ 0 < (worst (aimsF fs sf) (cnt fs sf)).1 := by
          by_cases z : (worst (aimsF fs sf) (cnt fs sf)).1 > 0
          · exact .inr z
          · left
            rw [hm, if_neg (by rw [decide_eq_true_eq]; exact z)]
            rfl
        refine ⟨p17, m, [.ref pw], rfl, rfl, e17, by omega, by omega, by rw [sizeLine_eq, List.length_singleton]; omega, fun p18 n18 => ?_⟩
        have s18 : Same H17 (L2.upd H17 p18 (.lst (List.replicate m.toNat [V.ref pw]).flatten)) := same_new n18
        have e18 : L2.upd H17 p18 (.lst (List.replicate m.toNat [V.ref pw]).flatten) p18 = some (.lst (List.replicate m.toNat [V.ref pw]).flatten) := upd_same
        generalize L2.upd H17 p18 (.lst (List.replicate m.toNat [V.ref pw]).flatten) = H18 at s18 e18 ⊢
        have hfl : ((List.replicate m.toNat [V.ref pw]).flatten).length = m.toNat := by
          rw [List.length_flatten, List.map_replicate, List.sum_replicate_nat]
          simp
        have s1418 := s17.trans s18
        refine ⟨D14, p18, _, _, rfl, rfl, s1418 _ _ e14, e18, by rw [sizeLine_eq, hfl, lu]; omega, fun p19 n19 => ?_⟩
        have s19 : Same H18 (L2.upd H18 p19 (.lst (us ++ (List.replicate m.toNat [V.ref pw]).flatten))) := same_new n19
        have e19 : L2.upd H18 p19 (.lst (us ++ (List.replicate m.toNat [V.ref pw]).flatten)) p19 = some (.lst (us ++ (List.replicate m.toNat [V.ref pw]).flatten)) := upd_same
        have q19 : p19 ≠ q := pot_ne (pot_same P14 s1418) n19
        generalize L2.upd H18 p19 (.lst (us ++ (List.replicate m.toNat [V.ref pw]).flatten)) = H19 at s19 e19 ⊢
        have s1419 := s1418.trans s19
        have P19 := pot_same P14 s1419
        have b619 : But q H6 H19 := b614.same s1419
        have bds : AtKs K H19 (us ++ (List.replicate m.toNat [V.ref pw]).flatten) (gs ++ List.replicate m.toNat (worst (aimsF fs sf) (cnt fs sf))) := by
          refine AtKs.app (ha14.same s1419) (AtKs.rep ?_ _)
          exact AtK.same (s18.trans s19) ⟨pw, rfl, hpw⟩
        have bdg : ∀ g ∈ gs ++ List.replicate m.toNat (worst (aimsF fs sf) (cnt fs sf)), Bd g ∧ 0 < g.1 := by
          intro g hgm
          rcases List.mem_append.mp hgm with z | z
          · exact ⟨(hgs g z).bd, (hgs g z).po⟩
          · rw [(List.mem_replicate.mp z).2]
            rcases hm2 with y | y
            · exact absurd y (List.mem_replicate.mp z).1
            · exact ⟨wbd, y⟩
        have S19 := S6.but b619 P6
        have hw19 : AtK K H19 sv sf := hsv.but b619 P6
        have aw19 : AtK K H19 (.ref pw) (worst (aimsF fs sf) (cnt fs sf)) := AtK.same (s18.trans s19) ⟨pw, rfl, hpw⟩
        refine ⟨_, rfl, p19, rfl, ⟨_, .inl (.inl e19)⟩, for_list (K := K) (a := p19) (xs := us ++ (List.replicate m.toNat [V.ref pw]).flatten) (fun j σ H' => ∃ y7 y8 : Option V, σ = [some (.ref a), some (.int (0 + (i : Int))), some (.ref q), some (.ref L), some sv, some (.ref pw), some (.ref p19), y7, y8] ∧ Pot H' q ∧ But q H19 H') ⟨_, _, rfl, P19, But.rfl⟩ (fun j σ H' _ ⟨_, _, _, _, bb⟩ => .inl (.inl (bb _ _ q19 e19))) ?_ ?_⟩
        · rintro j z σ H20 hz ⟨y7', y8', rfl, P20, b20⟩
          obtain ⟨g, hgj, hga⟩ := bds.get hz
          have gb := bdg g (List.mem_of_getElem? hgj)
          exact ⟨_, rfl, _, rfl, _, rfl, _, rfl, _, rfl, q, L, sv, z, .ref pw, xs, fs, sf, g, rfl, P20, S19.but b20 P19, W, hw19.but b20 P19, hsf.1, hsf.2, hga.but b20 P19, gb.1, gb.2, aw19.but b20 P19, fun H21 P21 b21 => ⟨_, rfl, iteF ⟨_, _, rfl, P21, b20.trans b21⟩⟩⟩
        · rintro σ H20 ⟨y7', y8', rfl, P20, b20⟩
          refine ⟨_, _, _, _, _, _, _, _, rfl, s1.trans fun c o e => ?_⟩
          have nb : c ≠ q := ne_of_none e hq
          exact b20 _ _ nb (b619 _ _ nb (b4 _ _ nb (b3 _ _ nb (s2 _ _ e))))
    · rintro σ H1 ⟨y1, y2, y3, y4, y5, y6, y7, y8, rfl, _⟩
      exact k _

end
end Lf

set_option Elab.async false
set_option linter.all false
set_option maxRecDepth 100000
set_option maxHeartbeats 8000000
namespace Lf
open PySem PySem.Spec PyProof.Rows L2
/-- a def as the top left it, and how its arguments come to it -/
structure Df (K : PySem.W.Frag) (mg : Str → Option Value) (x : Str) (st : Stmt) (ps : List Str) (f : Addr) (fd : FuncData) : Prop where
  fn : Fun K x x st f fd
  g : mg x = some (.ref f)
  b1 : ∀ (s : Shared) (us : List Value), us.length = ps.length → BindsTo s fd ⟨us, []⟩ (ps.zip us)
  b2 : ∀ (s : Shared) (us : List Value), us.length = ps.length → BindsTo s fd ⟨[], ps.zip us⟩ (ps.zip us)
  b3 : ∀ (s : Shared) (us : List Value), us.length = ps.length → BindsTo s fd ⟨[], ps.reverse.zip us⟩ (ps.zip us.reverse)
theorem Df.cal {P : Program} {w : World} {K : PySem.W.Frag} {mg : Str → Option Value} {base : Heap} {CX : CXT} {k : Nat} {x : Str} {st : Stmt} {ps : List Str} {f : Addr} {fd : FuncData} {sp : Sp} (D : Df K mg x st ps f fd) (F : FnG P w K mg base CX k f fd ps sp) : Cal P w K mg base CX k x ps sp :=
  ⟨f, fd, F, D.b1, D.b2, D.b3, D.g, D.fn.kp⟩
/-- nothing keeps the promise of nothing -/
theorem FnG.no {P : Program} {w : World} {K : PySem.W.Frag} {mg : Str → Option Value} {base : Heap} {CX : CXT} {k : Nat} {f : Addr} {fd : FuncData} {ps : List Str} : FnG P w K mg base CX k f fd ps (fun _ _ _ _ => False) :=
  ⟨fun _ _ _ _ h => h.elim, fun _ _ _ _ _ _ _ _ _ _ _ _ _ _ h => h.elim⟩
/-- an error of the class at S is what a clause of S names -/
theorem exm_self {K : PySem.W.Frag} {S : Addr} (h1 : PySem.W.subIn K (.ref S) (.type "BaseException") = some true) (h2 : PySem.W.isClsIn K S = true) (h3 : PySem.W.typeIn K (.ref S) = some (.type "type")) (h4 : PySem.W.subIn K (.ref S) (.ref S) = some true) :
    PySem.W.exmOne K (.ref S) (.ref S) = some true := by
  have e1 : (PySem.W.subIn K (.ref S) (.type "BaseException") == some true) = true := by rw [h1] <;> rfl
  have e2 : ((PySem.W.clsIn K S).isSome && PySem.W.typeIn K (.ref S) == some (.type "type")) = true := by
    have h2' : (PySem.W.clsIn K S).isSome = true := h2
    rw [h2', h3] <;> rfl
  show (if (PySem.W.subIn K (.ref S) (.type "BaseException") == some true) = true then (if ((PySem.W.clsIn K S).isSome && PySem.W.typeIn K (.ref S) == some (.type "type")) = true then PySem.W.subIn K (.ref S) (.ref S) else none) else none) = some true
  rw [if_pos e1, if_pos e2]
  exact h4

theorem df_is_whole {K : PySem.W.Frag} {h : Heap} {mg : Str → Option Value} {f : Addr} {od an : Option Addr} {sl : Array (Option Value)} {oc kV dc pm cd ct : Value} (X : K.In h) (G : h.Ns mainGlobals mg) (a : PySem.W.nsIn K mainGlobals "is_whole" = some (some (.ref f)))
    (l : K.lookup f = some ⟨oc, od, .func (PySem.W.fnOf "is_whole" "is_whole" (defArgs s_is_whole) (defBody s_is_whole) (defScope s_is_whole) .none kV dc pm an cd ct), sl⟩) (c : PySem.W.codeIn K cd "is_whole" = true) (k : PySem.W.keepIn K (.ref f) = true) :
    Df K mg "is_whole" s_is_whole ["thing"] f (PySem.W.fnOf "is_whole" "is_whole" (defArgs s_is_whole) (defBody s_is_whole) (defScope s_is_whole) .none kV dc pm an cd ct) :=
  ⟨fun_mk l c k, PySem.W.mg_of X G a, fun s us hl => .of_eq (match us, hl with | [_], _ => rfl), fun s us hl => .of_eq (match us, hl with | [_], _ => rfl), fun s us hl => .of_eq (match us, hl with | [_], _ => rfl)⟩

theorem df_common {K : PySem.W.Frag} {h : Heap} {mg : Str → Option Value} {f : Addr} {od an : Option Addr} {sl : Array (Option Value)} {oc kV dc pm cd ct : Value} (X : K.In h) (G : h.Ns mainGlobals mg) (a : PySem.W.nsIn K mainGlobals "common" = some (some (.ref f)))
    (l : K.lookup f = some ⟨oc, od, .func (PySem.W.fnOf "common" "common" (defArgs sCom) (defBody sCom) (defScope sCom) .none kV dc pm an cd ct), sl⟩) (c : PySem.W.codeIn K cd "common" = true) (k : PySem.W.keepIn K (.ref f) = true) :
    Df K mg "common" sCom ["one", "other"] f (PySem.W.fnOf "common" "common" (defArgs sCom) (defBody sCom) (defScope sCom) .none kV dc pm an cd ct) :=
  ⟨fun_mk l c k, PySem.W.mg_of X G a, fun s us hl => .of_eq (match us, hl with | [_, _], _ => rfl), fun s us hl => .of_eq (match us, hl with | [_, _], _ => rfl), fun s us hl => .of_eq (match us, hl with | [_, _], _ => rfl)⟩

theorem df_fraction {K : PySem.W.Frag} {h : Heap} {mg : Str → Option Value} {f : Addr} {od an : Option Addr} {sl : Array (Option Value)} {oc kV dc pm cd ct : Value} (X : K.In h) (G : h.Ns mainGlobals mg) (a : PySem.W.nsIn K mainGlobals "fraction" = some (some (.ref f)))
    (l : K.lookup f = some ⟨oc, od, .func (PySem.W.fnOf "fraction" "fraction" (defArgs sFrac) (defBody sFrac) (defScope sFrac) .none kV dc pm an cd ct), sl⟩) (c : PySem.W.codeIn K cd "fraction" = true) (k : PySem.W.keepIn K (.ref f) = true) :
    Df K mg "fraction" sFrac ["top", "bottom"] f (PySem.W.fnOf "fraction" "fraction" (defArgs sFrac) (defBody sFrac) (defScope sFrac) .none kV dc pm an cd ct) :=
  ⟨fun_mk l c k, PySem.W.mg_of X G a, fun s us hl => .of_eq (match us, hl with | [_, _], _ => rfl), fun s us hl => .of_eq (match us, hl with | [_, _], _ => rfl), fun s us hl => .of_eq (match us, hl with | [_, _], _ => rfl)⟩

theorem df_plus {K : PySem.W.Frag} {h : Heap} {mg : Str → Option Value} {f : Addr} {od an : Option Addr} {sl : Array (Option Value)} {oc kV dc pm cd ct : Value} (X : K.In h) (G : h.Ns mainGlobals mg) (a : PySem.W.nsIn K mainGlobals "plus" = some (some (.ref f)))
    (l : K.lookup f = some ⟨oc, od, .func (PySem.W.fnOf "plus" "plus" (defArgs s_plus) (defBody s_plus) (defScope s_plus) .none kV dc pm an cd ct), sl⟩) (c : PySem.W.codeIn K cd "plus" = true) (k : PySem.W.keepIn K (.ref f) = true) :
    Df K mg "plus" s_plus ["one", "other"] f (PySem.W.fnOf "plus" "plus" (defArgs s_plus) (defBody s_plus) (defScope s_plus) .none kV dc pm an cd ct) :=
  ⟨fun_mk l c k, PySem.W.mg_of X G a, fun s us hl => .of_eq (match us, hl with | [_, _], _ => rfl), fun s us hl => .of_eq (match us, hl with | [_, _], _ => rfl), fun s us hl => .of_eq (match us, hl with | [_, _], _ => rfl)⟩

theorem df_minus {K : PySem.W.Frag} {h : Heap} {mg : Str → Option Value} {f : Addr} {od an : Option Addr} {sl : Array (Option Value)} {oc kV dc pm cd ct : Value} (X : K.In h) (G : h.Ns mainGlobals mg) (a : PySem.W.nsIn K mainGlobals "minus" = some (some (.ref f)))
    (l : K.lookup f = some ⟨oc, od, .func (PySem.W.fnOf "minus" "minus" (defArgs s_minus) (defBody s_minus) (defScope s_minus) .none kV dc pm an cd ct), sl⟩) (c : PySem.W.codeIn K cd "minus" = true) (k : PySem.W.keepIn K (.ref f) = true) :
    Df K mg "minus" s_minus ["one", "other"] f (PySem.W.fnOf "minus" "minus" (defArgs s_minus) (defBody s_minus) (defScope s_minus) .none kV dc pm an cd ct) :=
  ⟨fun_mk l c k, PySem.W.mg_of X G a, fun s us hl => .of_eq (match us, hl with | [_, _], _ => rfl), fun s us hl => .of_eq (match us, hl with | [_, _], _ => rfl), fun s us hl => .of_eq (match us, hl with | [_, _], _ => rfl)⟩

theorem df_times {K : PySem.W.Frag} {h : Heap} {mg : Str → Option Value} {f : Addr} {od an : Option Addr} {sl : Array (Option Value)} {oc kV dc pm cd ct : Value} (X : K.In h) (G : h.Ns mainGlobals mg) (a : PySem.W.nsIn K mainGlobals "times" = some (some (.ref f)))
    (l : K.lookup f = some ⟨oc, od, .func (PySem.W.fnOf "times" "times" (defArgs s_times) (defBody s_times) (defScope s_times) .none kV dc pm an cd ct), sl⟩) (c : PySem.W.codeIn K cd "times" = true) (k : PySem.W.keepIn K (.ref f) = true) :
    Df K mg "times" s_times ["one", "other"] f (PySem.W.fnOf "times" "times" (defArgs s_times) (defBody s_times) (defScope s_times) .none kV dc pm an cd ct) :=
  ⟨fun_mk l c k, PySem.W.mg_of X G a, fun s us hl => .of_eq (match us, hl with | [_, _], _ => rfl), fun s us hl => .of_eq (match us, hl with | [_, _], _ => rfl), fun s us hl => .of_eq (match us, hl with | [_, _], _ => rfl)⟩

theorem df_over {K : PySem.W.Frag} {h : Heap} {mg : Str → Option Value} {f : Addr} {od an : Option Addr} {sl : Array (Option Value)} {oc kV dc pm cd ct : Value} (X : K.In h) (G : h.Ns mainGlobals mg) (a : PySem.W.nsIn K mainGlobals "over" = some (some (.ref f)))
    (l : K.lookup f = some ⟨oc, od, .func (PySem.W.fnOf "over" "over" (defArgs s_over) (defBody s_over) (defScope s_over) .none kV dc pm an cd ct), sl⟩) (c : PySem.W.codeIn K cd "over" = true) (k : PySem.W.keepIn K (.ref f) = true) :
    Df K mg "over" s_over ["one", "other"] f (PySem.W.fnOf "over" "over" (defArgs s_over) (defBody s_over) (defScope s_over) .none kV dc pm an cd ct) :=
  ⟨fun_mk l c k, PySem.W.mg_of X G a, fun s us hl => .of_eq (match us, hl with | [_, _], _ => rfl), fun s us hl => .of_eq (match us, hl with | [_, _], _ => rfl), fun s us hl => .of_eq (match us, hl with | [_, _], _ => rfl)⟩

theorem df_together {K : PySem.W.Frag} {h : Heap} {mg : Str → Option Value} {f : Addr} {od an : Option Addr} {sl : Array (Option Value)} {oc kV dc pm cd ct : Value} (X : K.In h) (G : h.Ns mainGlobals mg) (a : PySem.W.nsIn K mainGlobals "together" = some (some (.ref f)))
    (l : K.lookup f = some ⟨oc, od, .func (PySem.W.fnOf "together" "together" (defArgs s_together) (defBody s_together) (defScope s_together) .none kV dc pm an cd ct), sl⟩) (c : PySem.W.codeIn K cd "together" = true) (k : PySem.W.keepIn K (.ref f) = true) :
    Df K mg "together" s_together ["ones"] f (PySem.W.fnOf "together" "together" (defArgs s_together) (defBody s_together) (defScope s_together) .none kV dc pm an cd ct) :=
  ⟨fun_mk l c k, PySem.W.mg_of X G a, fun s us hl => .of_eq (match us, hl with | [_], _ => rfl), fun s us hl => .of_eq (match us, hl with | [_], _ => rfl), fun s us hl => .of_eq (match us, hl with | [_], _ => rfl)⟩

theorem df_is_less {K : PySem.W.Frag} {h : Heap} {mg : Str → Option Value} {f : Addr} {od an : Option Addr} {sl : Array (Option Value)} {oc kV dc pm cd ct : Value} (X : K.In h) (G : h.Ns mainGlobals mg) (a : PySem.W.nsIn K mainGlobals "is_less" = some (some (.ref f)))
    (l : K.lookup f = some ⟨oc, od, .func (PySem.W.fnOf "is_less" "is_less" (defArgs s_is_less) (defBody s_is_less) (defScope s_is_less) .none kV dc pm an cd ct), sl⟩) (c : PySem.W.codeIn K cd "is_less" = true) (k : PySem.W.keepIn K (.ref f) = true) :
    Df K mg "is_less" s_is_less ["one", "other"] f (PySem.W.fnOf "is_less" "is_less" (defArgs s_is_less) (defBody s_is_less) (defScope s_is_less) .none kV dc pm an cd ct) :=
  ⟨fun_mk l c k, PySem.W.mg_of X G a, fun s us hl => .of_eq (match us, hl with | [_, _], _ => rfl), fun s us hl => .of_eq (match us, hl with | [_, _], _ => rfl), fun s us hl => .of_eq (match us, hl with | [_, _], _ => rfl)⟩

theorem df_floor_of {K : PySem.W.Frag} {h : Heap} {mg : Str → Option Value} {f : Addr} {od an : Option Addr} {sl : Array (Option Value)} {oc kV dc pm cd ct : Value} (X : K.In h) (G : h.Ns mainGlobals mg) (a : PySem.W.nsIn K mainGlobals "floor_of" = some (some (.ref f)))
    (l : K.lookup f = some ⟨oc, od, .func (PySem.W.fnOf "floor_of" "floor_of" (defArgs s_floor_of) (defBody s_floor_of) (defScope s_floor_of) .none kV dc pm an cd ct), sl⟩) (c : PySem.W.codeIn K cd "floor_of" = true) (k : PySem.W.keepIn K (.ref f) = true) :
    Df K mg "floor_of" s_floor_of ["one"] f (PySem.W.fnOf "floor_of" "floor_of" (defArgs s_floor_of) (defBody s_floor_of) (defScope s_floor_of) .none kV dc pm an cd ct) :=
  ⟨fun_mk l c k, PySem.W.mg_of X G a, fun s us hl => .of_eq (match us, hl with | [_], _ => rfl), fun s us hl => .of_eq (match us, hl with | [_], _ => rfl), fun s us hl => .of_eq (match us, hl with | [_], _ => rfl)⟩

theorem df_is_fraction {K : PySem.W.Frag} {h : Heap} {mg : Str → Option Value} {f : Addr} {od an : Option Addr} {sl : Array (Option Value)} {oc kV dc pm cd ct : Value} (X : K.In h) (G : h.Ns mainGlobals mg) (a : PySem.W.nsIn K mainGlobals "is_fraction" = some (some (.ref f)))
    (l : K.lookup f = some ⟨oc, od, .func (PySem.W.fnOf "is_fraction" "is_fraction" (defArgs s_is_fraction) (defBody s_is_fraction) (defScope s_is_fraction) .none kV dc pm an cd ct), sl⟩) (c : PySem.W.codeIn K cd "is_fraction" = true) (k : PySem.W.keepIn K (.ref f) = true) :
    Df K mg "is_fraction" s_is_fraction ["thing"] f (PySem.W.fnOf "is_fraction" "is_fraction" (defArgs s_is_fraction) (defBody s_is_fraction) (defScope s_is_fraction) .none kV dc pm an cd ct) :=
  ⟨fun_mk l c k, PySem.W.mg_of X G a, fun s us hl => .of_eq (match us, hl with | [_], _ => rfl), fun s us hl => .of_eq (match us, hl with | [_], _ => rfl), fun s us hl => .of_eq (match us, hl with | [_], _ => rfl)⟩

theorem df_is_above_0 {K : PySem.W.Frag} {h : Heap} {mg : Str → Option Value} {f : Addr} {od an : Option Addr} {sl : Array (Option Value)} {oc kV dc pm cd ct : Value} (X : K.In h) (G : h.Ns mainGlobals mg) (a : PySem.W.nsIn K mainGlobals "is_above_0" = some (some (.ref f)))
    (l : K.lookup f = some ⟨oc, od, .func (PySem.W.fnOf "is_above_0" "is_above_0" (defArgs s_is_above_0) (defBody s_is_above_0) (defScope s_is_above_0) .none kV dc pm an cd ct), sl⟩) (c : PySem.W.codeIn K cd "is_above_0" = true) (k : PySem.W.keepIn K (.ref f) = true) :
    Df K mg "is_above_0" s_is_above_0 ["thing"] f (PySem.W.fnOf "is_above_0" "is_above_0" (defArgs s_is_above_0) (defBody s_is_above_0) (defScope s_is_above_0) .none kV dc pm an cd ct) :=
  ⟨fun_mk l c k, PySem.W.mg_of X G a, fun s us hl => .of_eq (match us, hl with | [_], _ => rfl), fun s us hl => .of_eq (match us, hl with | [_], _ => rfl), fun s us hl => .of_eq (match us, hl with | [_], _ => rfl)⟩

theorem df_are_weights {K : PySem.W.Frag} {h : Heap} {mg : Str → Option Value} {f : Addr} {od an : Option Addr} {sl : Array (Option Value)} {oc kV dc pm cd ct : Value} (X : K.In h) (G : h.Ns mainGlobals mg) (a : PySem.W.nsIn K mainGlobals "are_weights" = some (some (.ref f)))
    (l : K.lookup f = some ⟨oc, od, .func (PySem.W.fnOf "are_weights" "are_weights" (defArgs s_are_weights) (defBody s_are_weights) (defScope s_are_weights) .none kV dc pm an cd ct), sl⟩) (c : PySem.W.codeIn K cd "are_weights" = true) (k : PySem.W.keepIn K (.ref f) = true) :
    Df K mg "are_weights" s_are_weights ["thing"] f (PySem.W.fnOf "are_weights" "are_weights" (defArgs s_are_weights) (defBody s_are_weights) (defScope s_are_weights) .none kV dc pm an cd ct) :=
  ⟨fun_mk l c k, PySem.W.mg_of X G a, fun s us hl => .of_eq (match us, hl with | [_], _ => rfl), fun s us hl => .of_eq (match us, hl with | [_], _ => rfl), fun s us hl => .of_eq (match us, hl with | [_], _ => rfl)⟩

theorem df_above_floor {K : PySem.W.Frag} {h : Heap} {mg : Str → Option Value} {f : Addr} {od an : Option Addr} {sl : Array (Option Value)} {oc kV dc pm cd ct : Value} (X : K.In h) (G : h.Ns mainGlobals mg) (a : PySem.W.nsIn K mainGlobals "above_floor" = some (some (.ref f)))
    (l : K.lookup f = some ⟨oc, od, .func (PySem.W.fnOf "above_floor" "above_floor" (defArgs s_above_floor) (defBody s_above_floor) (defScope s_above_floor) .none kV dc pm an cd ct), sl⟩) (c : PySem.W.codeIn K cd "above_floor" = true) (k : PySem.W.keepIn K (.ref f) = true) :
    Df K mg "above_floor" s_above_floor ["one"] f (PySem.W.fnOf "above_floor" "above_floor" (defArgs s_above_floor) (defBody s_above_floor) (defScope s_above_floor) .none kV dc pm an cd ct) :=
  ⟨fun_mk l c k, PySem.W.mg_of X G a, fun s us hl => .of_eq (match us, hl with | [_], _ => rfl), fun s us hl => .of_eq (match us, hl with | [_], _ => rfl), fun s us hl => .of_eq (match us, hl with | [_], _ => rfl)⟩

theorem df_many_steps {K : PySem.W.Frag} {h : Heap} {mg : Str → Option Value} {f : Addr} {od an : Option Addr} {sl : Array (Option Value)} {oc kV dc pm cd ct : Value} (X : K.In h) (G : h.Ns mainGlobals mg) (a : PySem.W.nsIn K mainGlobals "many_steps" = some (some (.ref f)))
    (l : K.lookup f = some ⟨oc, od, .func (PySem.W.fnOf "many_steps" "many_steps" (defArgs s_many_steps) (defBody s_many_steps) (defScope s_many_steps) .none kV dc pm an cd ct), sl⟩) (c : PySem.W.codeIn K cd "many_steps" = true) (k : PySem.W.keepIn K (.ref f) = true) :
    Df K mg "many_steps" s_many_steps ["weights", "step"] f (PySem.W.fnOf "many_steps" "many_steps" (defArgs s_many_steps) (defBody s_many_steps) (defScope s_many_steps) .none kV dc pm an cd ct) :=
  ⟨fun_mk l c k, PySem.W.mg_of X G a, fun s us hl => .of_eq (match us, hl with | [_, _], _ => rfl), fun s us hl => .of_eq (match us, hl with | [_, _], _ => rfl), fun s us hl => .of_eq (match us, hl with | [_, _], _ => rfl)⟩

theorem df_aims {K : PySem.W.Frag} {h : Heap} {mg : Str → Option Value} {f : Addr} {od an : Option Addr} {sl : Array (Option Value)} {oc kV dc pm cd ct : Value} (X : K.In h) (G : h.Ns mainGlobals mg) (a : PySem.W.nsIn K mainGlobals "aims" = some (some (.ref f)))
    (l : K.lookup f = some ⟨oc, od, .func (PySem.W.fnOf "aims" "aims" (defArgs s_aims) (defBody s_aims) (defScope s_aims) .none kV dc pm an cd ct), sl⟩) (c : PySem.W.codeIn K cd "aims" = true) (k : PySem.W.keepIn K (.ref f) = true) :
    Df K mg "aims" s_aims ["weights", "step"] f (PySem.W.fnOf "aims" "aims" (defArgs s_aims) (defBody s_aims) (defScope s_aims) .none kV dc pm an cd ct) :=
  ⟨fun_mk l c k, PySem.W.mg_of X G a, fun s us hl => .of_eq (match us, hl with | [_, _], _ => rfl), fun s us hl => .of_eq (match us, hl with | [_, _], _ => rfl), fun s us hl => .of_eq (match us, hl with | [_, _], _ => rfl)⟩

theorem df_how_many_more {K : PySem.W.Frag} {h : Heap} {mg : Str → Option Value} {f : Addr} {od an : Option Addr} {sl : Array (Option Value)} {oc kV dc pm cd ct : Value} (X : K.In h) (G : h.Ns mainGlobals mg) (a : PySem.W.nsIn K mainGlobals "how_many_more" = some (some (.ref f)))
    (l : K.lookup f = some ⟨oc, od, .func (PySem.W.fnOf "how_many_more" "how_many_more" (defArgs s_how_many_more) (defBody s_how_many_more) (defScope s_how_many_more) .none kV dc pm an cd ct), sl⟩) (c : PySem.W.codeIn K cd "how_many_more" = true) (k : PySem.W.keepIn K (.ref f) = true) :
    Df K mg "how_many_more" s_how_many_more ["weights", "step"] f (PySem.W.fnOf "how_many_more" "how_many_more" (defArgs s_how_many_more) (defBody s_how_many_more) (defScope s_how_many_more) .none kV dc pm an cd ct) :=
  ⟨fun_mk l c k, PySem.W.mg_of X G a, fun s us hl => .of_eq (match us, hl with | [_, _], _ => rfl), fun s us hl => .of_eq (match us, hl with | [_, _], _ => rfl), fun s us hl => .of_eq (match us, hl with | [_, _], _ => rfl)⟩

theorem df_is_sooner {K : PySem.W.Frag} {h : Heap} {mg : Str → Option Value} {f : Addr} {od an : Option Addr} {sl : Array (Option Value)} {oc kV dc pm cd ct : Value} (X : K.In h) (G : h.Ns mainGlobals mg) (a : PySem.W.nsIn K mainGlobals "is_sooner" = some (some (.ref f)))
    (l : K.lookup f = some ⟨oc, od, .func (PySem.W.fnOf "is_sooner" "is_sooner" (defArgs s_is_sooner) (defBody s_is_sooner) (defScope s_is_sooner) .none kV dc pm an cd ct), sl⟩) (c : PySem.W.codeIn K cd "is_sooner" = true) (k : PySem.W.keepIn K (.ref f) = true) :
    Df K mg "is_sooner" s_is_sooner ["aboves", "one", "other"] f (PySem.W.fnOf "is_sooner" "is_sooner" (defArgs s_is_sooner) (defBody s_is_sooner) (defScope s_is_sooner) .none kV dc pm an cd ct) :=
  ⟨fun_mk l c k, PySem.W.mg_of X G a, fun s us hl => .of_eq (match us, hl with | [_, _, _], _ => rfl), fun s us hl => .of_eq (match us, hl with | [_, _, _], _ => rfl), fun s us hl => .of_eq (match us, hl with | [_, _, _], _ => rfl)⟩

theorem df_are_sooner {K : PySem.W.Frag} {h : Heap} {mg : Str → Option Value} {f : Addr} {od an : Option Addr} {sl : Array (Option Value)} {oc kV dc pm cd ct : Value} (X : K.In h) (G : h.Ns mainGlobals mg) (a : PySem.W.nsIn K mainGlobals "are_sooner" = some (some (.ref f)))
    (l : K.lookup f = some ⟨oc, od, .func (PySem.W.fnOf "are_sooner" "are_sooner" (defArgs s_are_sooner) (defBody s_are_sooner) (defScope s_are_sooner) .none kV dc pm an cd ct), sl⟩) (c : PySem.W.codeIn K cd "are_sooner" = true) (k : PySem.W.keepIn K (.ref f) = true) :
    Df K mg "are_sooner" s_are_sooner ["aboves", "place"] f (PySem.W.fnOf "are_sooner" "are_sooner" (defArgs s_are_sooner) (defBody s_are_sooner) (defScope s_are_sooner) .none kV dc pm an cd ct) :=
  ⟨fun_mk l c k, PySem.W.mg_of X G a, fun s us hl => .of_eq (match us, hl with | [_, _], _ => rfl), fun s us hl => .of_eq (match us, hl with | [_, _], _ => rfl), fun s us hl => .of_eq (match us, hl with | [_, _], _ => rfl)⟩

theorem df_nearest {K : PySem.W.Frag} {h : Heap} {mg : Str → Option Value} {f : Addr} {od an : Option Addr} {sl : Array (Option Value)} {oc kV dc pm cd ct : Value} (X : K.In h) (G : h.Ns mainGlobals mg) (a : PySem.W.nsIn K mainGlobals "nearest" = some (some (.ref f)))
    (l : K.lookup f = some ⟨oc, od, .func (PySem.W.fnOf "nearest" "nearest" (defArgs s_nearest) (defBody s_nearest) (defScope s_nearest) .none kV dc pm an cd ct), sl⟩) (c : PySem.W.codeIn K cd "nearest" = true) (k : PySem.W.keepIn K (.ref f) = true) :
    Df K mg "nearest" s_nearest ["weights", "step"] f (PySem.W.fnOf "nearest" "nearest" (defArgs s_nearest) (defBody s_nearest) (defScope s_nearest) .none kV dc pm an cd ct) :=
  ⟨fun_mk l c k, PySem.W.mg_of X G a, fun s us hl => .of_eq (match us, hl with | [_, _], _ => rfl), fun s us hl => .of_eq (match us, hl with | [_, _], _ => rfl), fun s us hl => .of_eq (match us, hl with | [_, _], _ => rfl)⟩

theorem df_worst_of {K : PySem.W.Frag} {h : Heap} {mg : Str → Option Value} {f : Addr} {od an : Option Addr} {sl : Array (Option Value)} {oc kV dc pm cd ct : Value} (X : K.In h) (G : h.Ns mainGlobals mg) (a : PySem.W.nsIn K mainGlobals "worst_of" = some (some (.ref f)))
    (l : K.lookup f = some ⟨oc, od, .func (PySem.W.fnOf "worst_of" "worst_of" (defArgs s_worst_of) (defBody s_worst_of) (defScope s_worst_of) .none kV dc pm an cd ct), sl⟩) (c : PySem.W.codeIn K cd "worst_of" = true) (k : PySem.W.keepIn K (.ref f) = true) :
    Df K mg "worst_of" s_worst_of ["weights", "step", "counted"] f (PySem.W.fnOf "worst_of" "worst_of" (defArgs s_worst_of) (defBody s_worst_of) (defScope s_worst_of) .none kV dc pm an cd ct) :=
  ⟨fun_mk l c k, PySem.W.mg_of X G a, fun s us hl => .of_eq (match us, hl with | [_, _, _], _ => rfl), fun s us hl => .of_eq (match us, hl with | [_, _, _], _ => rfl), fun s us hl => .of_eq (match us, hl with | [_, _, _], _ => rfl)⟩

theorem df_rounded {K : PySem.W.Frag} {h : Heap} {mg : Str → Option Value} {f : Addr} {od an : Option Addr} {sl : Array (Option Value)} {oc kV dc pm cd ct : Value} (X : K.In h) (G : h.Ns mainGlobals mg) (a : PySem.W.nsIn K mainGlobals "rounded" = some (some (.ref f)))
    (l : K.lookup f = some ⟨oc, od, .func (PySem.W.fnOf "rounded" "rounded" (defArgs s_rounded) (defBody s_rounded) (defScope s_rounded) .none kV dc pm an cd ct), sl⟩) (c : PySem.W.codeIn K cd "rounded" = true) (k : PySem.W.keepIn K (.ref f) = true) :
    Df K mg "rounded" s_rounded ["weights", "step"] f (PySem.W.fnOf "rounded" "rounded" (defArgs s_rounded) (defBody s_rounded) (defScope s_rounded) .none kV dc pm an cd ct) :=
  ⟨fun_mk l c k, PySem.W.mg_of X G a, fun s us hl => .of_eq (match us, hl with | [_, _], _ => rfl), fun s us hl => .of_eq (match us, hl with | [_, _], _ => rfl), fun s us hl => .of_eq (match us, hl with | [_, _], _ => rfl)⟩

theorem df_paper {K : PySem.W.Frag} {h : Heap} {mg : Str → Option Value} {f : Addr} {od an : Option Addr} {sl : Array (Option Value)} {oc kV dc pm cd ct : Value} (X : K.In h) (G : h.Ns mainGlobals mg) (a : PySem.W.nsIn K mainGlobals "paper" = some (some (.ref f)))
    (l : K.lookup f = some ⟨oc, od, .func (PySem.W.fnOf "paper" "paper" (defArgs s_paper) (defBody s_paper) (defScope s_paper) .none kV dc pm an cd ct), sl⟩) (c : PySem.W.codeIn K cd "paper" = true) (k : PySem.W.keepIn K (.ref f) = true) :
    Df K mg "paper" s_paper ["weights", "step", "bound"] f (PySem.W.fnOf "paper" "paper" (defArgs s_paper) (defBody s_paper) (defScope s_paper) .none kV dc pm an cd ct) :=
  ⟨fun_mk l c k, PySem.W.mg_of X G a, fun s us hl => .of_eq (match us, hl with | [_, _, _], _ => rfl), fun s us hl => .of_eq (match us, hl with | [_, _, _], _ => rfl), fun s us hl => .of_eq (match us, hl with | [_, _, _], _ => rfl)⟩

theorem df_are_places {K : PySem.W.Frag} {h : Heap} {mg : Str → Option Value} {f : Addr} {od an : Option Addr} {sl : Array (Option Value)} {oc kV dc pm cd ct : Value} (X : K.In h) (G : h.Ns mainGlobals mg) (a : PySem.W.nsIn K mainGlobals "are_places" = some (some (.ref f)))
    (l : K.lookup f = some ⟨oc, od, .func (PySem.W.fnOf "are_places" "are_places" (defArgs s_are_places) (defBody s_are_places) (defScope s_are_places) .none kV dc pm an cd ct), sl⟩) (c : PySem.W.codeIn K cd "are_places" = true) (k : PySem.W.keepIn K (.ref f) = true) :
    Df K mg "are_places" s_are_places ["thing"] f (PySem.W.fnOf "are_places" "are_places" (defArgs s_are_places) (defBody s_are_places) (defScope s_are_places) .none kV dc pm an cd ct) :=
  ⟨fun_mk l c k, PySem.W.mg_of X G a, fun s us hl => .of_eq (match us, hl with | [_], _ => rfl), fun s us hl => .of_eq (match us, hl with | [_], _ => rfl), fun s us hl => .of_eq (match us, hl with | [_], _ => rfl)⟩

theorem df_is_like_a_paper {K : PySem.W.Frag} {h : Heap} {mg : Str → Option Value} {f : Addr} {od an : Option Addr} {sl : Array (Option Value)} {oc kV dc pm cd ct : Value} (X : K.In h) (G : h.Ns mainGlobals mg) (a : PySem.W.nsIn K mainGlobals "is_like_a_paper" = some (some (.ref f)))
    (l : K.lookup f = some ⟨oc, od, .func (PySem.W.fnOf "is_like_a_paper" "is_like_a_paper" (defArgs s_is_like_a_paper) (defBody s_is_like_a_paper) (defScope s_is_like_a_paper) .none kV dc pm an cd ct), sl⟩) (c : PySem.W.codeIn K cd "is_like_a_paper" = true) (k : PySem.W.keepIn K (.ref f) = true) :
    Df K mg "is_like_a_paper" s_is_like_a_paper ["thing"] f (PySem.W.fnOf "is_like_a_paper" "is_like_a_paper" (defArgs s_is_like_a_paper) (defBody s_is_like_a_paper) (defScope s_is_like_a_paper) .none kV dc pm an cd ct) :=
  ⟨fun_mk l c k, PySem.W.mg_of X G a, fun s us hl => .of_eq (match us, hl with | [_], _ => rfl), fun s us hl => .of_eq (match us, hl with | [_], _ => rfl), fun s us hl => .of_eq (match us, hl with | [_], _ => rfl)⟩

theorem df_shows {K : PySem.W.Frag} {h : Heap} {mg : Str → Option Value} {f : Addr} {od an : Option Addr} {sl : Array (Option Value)} {oc kV dc pm cd ct : Value} (X : K.In h) (G : h.Ns mainGlobals mg) (a : PySem.W.nsIn K mainGlobals "shows" = some (some (.ref f)))
    (l : K.lookup f = some ⟨oc, od, .func (PySem.W.fnOf "shows" "shows" (defArgs s_shows) (defBody s_shows) (defScope s_shows) .none kV dc pm an cd ct), sl⟩) (c : PySem.W.codeIn K cd "shows" = true) (k : PySem.W.keepIn K (.ref f) = true) :
    Df K mg "shows" s_shows ["weights", "step", "bound", "thing"] f (PySem.W.fnOf "shows" "shows" (defArgs s_shows) (defBody s_shows) (defScope s_shows) .none kV dc pm an cd ct) :=
  ⟨fun_mk l c k, PySem.W.mg_of X G a, fun s us hl => .of_eq (match us, hl with | [_, _, _, _], _ => rfl), fun s us hl => .of_eq (match us, hl with | [_, _, _, _], _ => rfl), fun s us hl => .of_eq (match us, hl with | [_, _, _, _], _ => rfl)⟩

theorem df__law_cell {K : PySem.W.Frag} {h : Heap} {mg : Str → Option Value} {f : Addr} {od an : Option Addr} {sl : Array (Option Value)} {oc kV dc pm cd ct : Value} (X : K.In h) (G : h.Ns mainGlobals mg) (a : PySem.W.nsIn K mainGlobals "_law_cell" = some (some (.ref f)))
    (l : K.lookup f = some ⟨oc, od, .func (PySem.W.fnOf "_law_cell" "_law_cell" (defArgs s__law_cell) (defBody s__law_cell) (defScope s__law_cell) .none kV dc pm an cd ct), sl⟩) (c : PySem.W.codeIn K cd "_law_cell" = true) (k : PySem.W.keepIn K (.ref f) = true) :
    Df K mg "_law_cell" s__law_cell ["_law_script", "_law_k"] f (PySem.W.fnOf "_law_cell" "_law_cell" (defArgs s__law_cell) (defBody s__law_cell) (defScope s__law_cell) .none kV dc pm an cd ct) :=
  ⟨fun_mk l c k, PySem.W.mg_of X G a, fun s us hl => .of_eq (match us, hl with | [_, _], _ => rfl), fun s us hl => .of_eq (match us, hl with | [_, _], _ => rfl), fun s us hl => .of_eq (match us, hl with | [_, _], _ => rfl)⟩

theorem df__law_pot {K : PySem.W.Frag} {h : Heap} {mg : Str → Option Value} {f : Addr} {od an : Option Addr} {sl : Array (Option Value)} {oc kV dc pm cd ct : Value} (X : K.In h) (G : h.Ns mainGlobals mg) (a : PySem.W.nsIn K mainGlobals "_law_pot" = some (some (.ref f)))
    (l : K.lookup f = some ⟨oc, od, .func (PySem.W.fnOf "_law_pot" "_law_pot" (defArgs s__law_pot) (defBody s__law_pot) (defScope s__law_pot) .none kV dc pm an cd ct), sl⟩) (c : PySem.W.codeIn K cd "_law_pot" = true) (k : PySem.W.keepIn K (.ref f) = true) :
    Df K mg "_law_pot" s__law_pot ["_law_cell_here"] f (PySem.W.fnOf "_law_pot" "_law_pot" (defArgs s__law_pot) (defBody s__law_pot) (defScope s__law_pot) .none kV dc pm an cd ct) :=
  ⟨fun_mk l c k, PySem.W.mg_of X G a, fun s us hl => .of_eq (match us, hl with | [_], _ => rfl), fun s us hl => .of_eq (match us, hl with | [_], _ => rfl), fun s us hl => .of_eq (match us, hl with | [_], _ => rfl)⟩

theorem df__law_draw {K : PySem.W.Frag} {h : Heap} {mg : Str → Option Value} {f : Addr} {od an : Option Addr} {sl : Array (Option Value)} {oc kV dc pm cd ct : Value} (X : K.In h) (G : h.Ns mainGlobals mg) (a : PySem.W.nsIn K mainGlobals "_law_draw" = some (some (.ref f)))
    (l : K.lookup f = some ⟨oc, od, .func (PySem.W.fnOf "_law_draw" "_law_draw" (defArgs s__law_draw) (defBody s__law_draw) (defScope s__law_draw) .none kV dc pm an cd ct), sl⟩) (c : PySem.W.codeIn K cd "_law_draw" = true) (k : PySem.W.keepIn K (.ref f) = true) :
    Df K mg "_law_draw" s__law_draw ["_law_pot_here", "_law_many_here"] f (PySem.W.fnOf "_law_draw" "_law_draw" (defArgs s__law_draw) (defBody s__law_draw) (defScope s__law_draw) .none kV dc pm an cd ct) :=
  ⟨fun_mk l c k, PySem.W.mg_of X G a, fun s us hl => .of_eq (match us, hl with | [_, _], _ => rfl), fun s us hl => .of_eq (match us, hl with | [_, _], _ => rfl), fun s us hl => .of_eq (match us, hl with | [_, _], _ => rfl)⟩

theorem df__law_low {K : PySem.W.Frag} {h : Heap} {mg : Str → Option Value} {f : Addr} {od an : Option Addr} {sl : Array (Option Value)} {oc kV dc pm cd ct : Value} (X : K.In h) (G : h.Ns mainGlobals mg) (a : PySem.W.nsIn K mainGlobals "_law_low" = some (some (.ref f)))
    (l : K.lookup f = some ⟨oc, od, .func (PySem.W.fnOf "_law_low" "_law_low" (defArgs s__law_low) (defBody s__law_low) (defScope s__law_low) .none kV dc pm an cd ct), sl⟩) (c : PySem.W.codeIn K cd "_law_low" = true) (k : PySem.W.keepIn K (.ref f) = true) :
    Df K mg "_law_low" s__law_low ["_law_top", "_law_bottom"] f (PySem.W.fnOf "_law_low" "_law_low" (defArgs s__law_low) (defBody s__law_low) (defScope s__law_low) .none kV dc pm an cd ct) :=
  ⟨fun_mk l c k, PySem.W.mg_of X G a, fun s us hl => .of_eq (match us, hl with | [_, _], _ => rfl), fun s us hl => .of_eq (match us, hl with | [_, _], _ => rfl), fun s us hl => .of_eq (match us, hl with | [_, _], _ => rfl)⟩

theorem df__law_sum {K : PySem.W.Frag} {h : Heap} {mg : Str → Option Value} {f : Addr} {od an : Option Addr} {sl : Array (Option Value)} {oc kV dc pm cd ct : Value} (X : K.In h) (G : h.Ns mainGlobals mg) (a : PySem.W.nsIn K mainGlobals "_law_sum" = some (some (.ref f)))
    (l : K.lookup f = some ⟨oc, od, .func (PySem.W.fnOf "_law_sum" "_law_sum" (defArgs s__law_sum) (defBody s__law_sum) (defScope s__law_sum) .none kV dc pm an cd ct), sl⟩) (c : PySem.W.codeIn K cd "_law_sum" = true) (k : PySem.W.keepIn K (.ref f) = true) :
    Df K mg "_law_sum" s__law_sum ["_law_one", "_law_other"] f (PySem.W.fnOf "_law_sum" "_law_sum" (defArgs s__law_sum) (defBody s__law_sum) (defScope s__law_sum) .none kV dc pm an cd ct) :=
  ⟨fun_mk l c k, PySem.W.mg_of X G a, fun s us hl => .of_eq (match us, hl with | [_, _], _ => rfl), fun s us hl => .of_eq (match us, hl with | [_, _], _ => rfl), fun s us hl => .of_eq (match us, hl with | [_, _], _ => rfl)⟩

theorem df__law_total {K : PySem.W.Frag} {h : Heap} {mg : Str → Option Value} {f : Addr} {od an : Option Addr} {sl : Array (Option Value)} {oc kV dc pm cd ct : Value} (X : K.In h) (G : h.Ns mainGlobals mg) (a : PySem.W.nsIn K mainGlobals "_law_total" = some (some (.ref f)))
    (l : K.lookup f = some ⟨oc, od, .func (PySem.W.fnOf "_law_total" "_law_total" (defArgs s__law_total) (defBody s__law_total) (defScope s__law_total) .none kV dc pm an cd ct), sl⟩) (c : PySem.W.codeIn K cd "_law_total" = true) (k : PySem.W.keepIn K (.ref f) = true) :
    Df K mg "_law_total" s__law_total ["_law_some"] f (PySem.W.fnOf "_law_total" "_law_total" (defArgs s__law_total) (defBody s__law_total) (defScope s__law_total) .none kV dc pm an cd ct) :=
  ⟨fun_mk l c k, PySem.W.mg_of X G a, fun s us hl => .of_eq (match us, hl with | [_], _ => rfl), fun s us hl => .of_eq (match us, hl with | [_], _ => rfl), fun s us hl => .of_eq (match us, hl with | [_], _ => rfl)⟩

theorem df__law_whole_some {K : PySem.W.Frag} {h : Heap} {mg : Str → Option Value} {f : Addr} {od an : Option Addr} {sl : Array (Option Value)} {oc kV dc pm cd ct : Value} (X : K.In h) (G : h.Ns mainGlobals mg) (a : PySem.W.nsIn K mainGlobals "_law_whole_some" = some (some (.ref f)))
    (l : K.lookup f = some ⟨oc, od, .func (PySem.W.fnOf "_law_whole_some" "_law_whole_some" (defArgs s__law_whole_some) (defBody s__law_whole_some) (defScope s__law_whole_some) .none kV dc pm an cd ct), sl⟩) (c : PySem.W.codeIn K cd "_law_whole_some" = true) (k : PySem.W.keepIn K (.ref f) = true) :
    Df K mg "_law_whole_some" s__law_whole_some ["_law_pot_here"] f (PySem.W.fnOf "_law_whole_some" "_law_whole_some" (defArgs s__law_whole_some) (defBody s__law_whole_some) (defScope s__law_whole_some) .none kV dc pm an cd ct) :=
  ⟨fun_mk l c k, PySem.W.mg_of X G a, fun s us hl => .of_eq (match us, hl with | [_], _ => rfl), fun s us hl => .of_eq (match us, hl with | [_], _ => rfl), fun s us hl => .of_eq (match us, hl with | [_], _ => rfl)⟩

theorem df__law_weights {K : PySem.W.Frag} {h : Heap} {mg : Str → Option Value} {f : Addr} {od an : Option Addr} {sl : Array (Option Value)} {oc kV dc pm cd ct : Value} (X : K.In h) (G : h.Ns mainGlobals mg) (a : PySem.W.nsIn K mainGlobals "_law_weights" = some (some (.ref f)))
    (l : K.lookup f = some ⟨oc, od, .func (PySem.W.fnOf "_law_weights" "_law_weights" (defArgs s__law_weights) (defBody s__law_weights) (defScope s__law_weights) .none kV dc pm an cd ct), sl⟩) (c : PySem.W.codeIn K cd "_law_weights" = true) (k : PySem.W.keepIn K (.ref f) = true) :
    Df K mg "_law_weights" s__law_weights ["_law_pot_here", "_law_most"] f (PySem.W.fnOf "_law_weights" "_law_weights" (defArgs s__law_weights) (defBody s__law_weights) (defScope s__law_weights) .none kV dc pm an cd ct) :=
  ⟨fun_mk l c k, PySem.W.mg_of X G a, fun s us hl => .of_eq (match us, hl with | [_, _], _ => rfl), fun s us hl => .of_eq (match us, hl with | [_, _], _ => rfl), fun s us hl => .of_eq (match us, hl with | [_, _], _ => rfl)⟩

theorem df__law_step {K : PySem.W.Frag} {h : Heap} {mg : Str → Option Value} {f : Addr} {od an : Option Addr} {sl : Array (Option Value)} {oc kV dc pm cd ct : Value} (X : K.In h) (G : h.Ns mainGlobals mg) (a : PySem.W.nsIn K mainGlobals "_law_step" = some (some (.ref f)))
    (l : K.lookup f = some ⟨oc, od, .func (PySem.W.fnOf "_law_step" "_law_step" (defArgs s__law_step) (defBody s__law_step) (defScope s__law_step) .none kV dc pm an cd ct), sl⟩) (c : PySem.W.codeIn K cd "_law_step" = true) (k : PySem.W.keepIn K (.ref f) = true) :
    Df K mg "_law_step" s__law_step ["_law_pot_here", "_law_weights_here"] f (PySem.W.fnOf "_law_step" "_law_step" (defArgs s__law_step) (defBody s__law_step) (defScope s__law_step) .none kV dc pm an cd ct) :=
  ⟨fun_mk l c k, PySem.W.mg_of X G a, fun s us hl => .of_eq (match us, hl with | [_, _], _ => rfl), fun s us hl => .of_eq (match us, hl with | [_, _], _ => rfl), fun s us hl => .of_eq (match us, hl with | [_, _], _ => rfl)⟩

theorem df__law_many {K : PySem.W.Frag} {h : Heap} {mg : Str → Option Value} {f : Addr} {od an : Option Addr} {sl : Array (Option Value)} {oc kV dc pm cd ct : Value} (X : K.In h) (G : h.Ns mainGlobals mg) (a : PySem.W.nsIn K mainGlobals "_law_many" = some (some (.ref f)))
    (l : K.lookup f = some ⟨oc, od, .func (PySem.W.fnOf "_law_many" "_law_many" (defArgs s__law_many) (defBody s__law_many) (defScope s__law_many) .none kV dc pm an cd ct), sl⟩) (c : PySem.W.codeIn K cd "_law_many" = true) (k : PySem.W.keepIn K (.ref f) = true) :
    Df K mg "_law_many" s__law_many ["_law_weights_here", "_law_step_here"] f (PySem.W.fnOf "_law_many" "_law_many" (defArgs s__law_many) (defBody s__law_many) (defScope s__law_many) .none kV dc pm an cd ct) :=
  ⟨fun_mk l c k, PySem.W.mg_of X G a, fun s us hl => .of_eq (match us, hl with | [_, _], _ => rfl), fun s us hl => .of_eq (match us, hl with | [_, _], _ => rfl), fun s us hl => .of_eq (match us, hl with | [_, _], _ => rfl)⟩

theorem df__law_fit_step {K : PySem.W.Frag} {h : Heap} {mg : Str → Option Value} {f : Addr} {od an : Option Addr} {sl : Array (Option Value)} {oc kV dc pm cd ct : Value} (X : K.In h) (G : h.Ns mainGlobals mg) (a : PySem.W.nsIn K mainGlobals "_law_fit_step" = some (some (.ref f)))
    (l : K.lookup f = some ⟨oc, od, .func (PySem.W.fnOf "_law_fit_step" "_law_fit_step" (defArgs s__law_fit_step) (defBody s__law_fit_step) (defScope s__law_fit_step) .none kV dc pm an cd ct), sl⟩) (c : PySem.W.codeIn K cd "_law_fit_step" = true) (k : PySem.W.keepIn K (.ref f) = true) :
    Df K mg "_law_fit_step" s__law_fit_step ["_law_pot_here", "_law_weights_here"] f (PySem.W.fnOf "_law_fit_step" "_law_fit_step" (defArgs s__law_fit_step) (defBody s__law_fit_step) (defScope s__law_fit_step) .none kV dc pm an cd ct) :=
  ⟨fun_mk l c k, PySem.W.mg_of X G a, fun s us hl => .of_eq (match us, hl with | [_, _], _ => rfl), fun s us hl => .of_eq (match us, hl with | [_, _], _ => rfl), fun s us hl => .of_eq (match us, hl with | [_, _], _ => rfl)⟩

theorem df__law_less {K : PySem.W.Frag} {h : Heap} {mg : Str → Option Value} {f : Addr} {od an : Option Addr} {sl : Array (Option Value)} {oc kV dc pm cd ct : Value} (X : K.In h) (G : h.Ns mainGlobals mg) (a : PySem.W.nsIn K mainGlobals "_law_less" = some (some (.ref f)))
    (l : K.lookup f = some ⟨oc, od, .func (PySem.W.fnOf "_law_less" "_law_less" (defArgs s__law_less) (defBody s__law_less) (defScope s__law_less) .none kV dc pm an cd ct), sl⟩) (c : PySem.W.codeIn K cd "_law_less" = true) (k : PySem.W.keepIn K (.ref f) = true) :
    Df K mg "_law_less" s__law_less ["_law_one", "_law_other"] f (PySem.W.fnOf "_law_less" "_law_less" (defArgs s__law_less) (defBody s__law_less) (defScope s__law_less) .none kV dc pm an cd ct) :=
  ⟨fun_mk l c k, PySem.W.mg_of X G a, fun s us hl => .of_eq (match us, hl with | [_, _], _ => rfl), fun s us hl => .of_eq (match us, hl with | [_, _], _ => rfl), fun s us hl => .of_eq (match us, hl with | [_, _], _ => rfl)⟩

theorem df__law_bound {K : PySem.W.Frag} {h : Heap} {mg : Str → Option Value} {f : Addr} {od an : Option Addr} {sl : Array (Option Value)} {oc kV dc pm cd ct : Value} (X : K.In h) (G : h.Ns mainGlobals mg) (a : PySem.W.nsIn K mainGlobals "_law_bound" = some (some (.ref f)))
    (l : K.lookup f = some ⟨oc, od, .func (PySem.W.fnOf "_law_bound" "_law_bound" (defArgs s__law_bound) (defBody s__law_bound) (defScope s__law_bound) .none kV dc pm an cd ct), sl⟩) (c : PySem.W.codeIn K cd "_law_bound" = true) (k : PySem.W.keepIn K (.ref f) = true) :
    Df K mg "_law_bound" s__law_bound ["_law_pot_here"] f (PySem.W.fnOf "_law_bound" "_law_bound" (defArgs s__law_bound) (defBody s__law_bound) (defScope s__law_bound) .none kV dc pm an cd ct) :=
  ⟨fun_mk l c k, PySem.W.mg_of X G a, fun s us hl => .of_eq (match us, hl with | [_], _ => rfl), fun s us hl => .of_eq (match us, hl with | [_], _ => rfl), fun s us hl => .of_eq (match us, hl with | [_], _ => rfl)⟩

theorem df__law_odd_list {K : PySem.W.Frag} {h : Heap} {mg : Str → Option Value} {f : Addr} {od an : Option Addr} {sl : Array (Option Value)} {oc kV dc pm cd ct : Value} (X : K.In h) (G : h.Ns mainGlobals mg) (a : PySem.W.nsIn K mainGlobals "_law_odd_list" = some (some (.ref f)))
    (l : K.lookup f = some ⟨oc, od, .func (PySem.W.fnOf "_law_odd_list" "_law_odd_list" (defArgs s__law_odd_list) (defBody s__law_odd_list) (defScope s__law_odd_list) .none kV dc pm an cd ct), sl⟩) (c : PySem.W.codeIn K cd "_law_odd_list" = true) (k : PySem.W.keepIn K (.ref f) = true) :
    Df K mg "_law_odd_list" s__law_odd_list ["_law_pot_here", "_law_some"] f (PySem.W.fnOf "_law_odd_list" "_law_odd_list" (defArgs s__law_odd_list) (defBody s__law_odd_list) (defScope s__law_odd_list) .none kV dc pm an cd ct) :=
  ⟨fun_mk l c k, PySem.W.mg_of X G a, fun s us hl => .of_eq (match us, hl with | [_, _], _ => rfl), fun s us hl => .of_eq (match us, hl with | [_, _], _ => rfl), fun s us hl => .of_eq (match us, hl with | [_, _], _ => rfl)⟩

theorem df__law_odd {K : PySem.W.Frag} {h : Heap} {mg : Str → Option Value} {f : Addr} {od an : Option Addr} {sl : Array (Option Value)} {oc kV dc pm cd ct : Value} (X : K.In h) (G : h.Ns mainGlobals mg) (a : PySem.W.nsIn K mainGlobals "_law_odd" = some (some (.ref f)))
    (l : K.lookup f = some ⟨oc, od, .func (PySem.W.fnOf "_law_odd" "_law_odd" (defArgs s__law_odd) (defBody s__law_odd) (defScope s__law_odd) .none kV dc pm an cd ct), sl⟩) (c : PySem.W.codeIn K cd "_law_odd" = true) (k : PySem.W.keepIn K (.ref f) = true) :
    Df K mg "_law_odd" s__law_odd ["_law_pot_here", "_law_told"] f (PySem.W.fnOf "_law_odd" "_law_odd" (defArgs s__law_odd) (defBody s__law_odd) (defScope s__law_odd) .none kV dc pm an cd ct) :=
  ⟨fun_mk l c k, PySem.W.mg_of X G a, fun s us hl => .of_eq (match us, hl with | [_, _], _ => rfl), fun s us hl => .of_eq (match us, hl with | [_, _], _ => rfl), fun s us hl => .of_eq (match us, hl with | [_, _], _ => rfl)⟩

theorem df__law_right {K : PySem.W.Frag} {h : Heap} {mg : Str → Option Value} {f : Addr} {od an : Option Addr} {sl : Array (Option Value)} {oc kV dc pm cd ct : Value} (X : K.In h) (G : h.Ns mainGlobals mg) (a : PySem.W.nsIn K mainGlobals "_law_right" = some (some (.ref f)))
    (l : K.lookup f = some ⟨oc, od, .func (PySem.W.fnOf "_law_right" "_law_right" (defArgs s__law_right) (defBody s__law_right) (defScope s__law_right) .none kV dc pm an cd ct), sl⟩) (c : PySem.W.codeIn K cd "_law_right" = true) (k : PySem.W.keepIn K (.ref f) = true) :
    Df K mg "_law_right" s__law_right ["_law_pot_here", "_law_weights_here", "_law_step_here", "_law_bound_here", "_law_worst"] f (PySem.W.fnOf "_law_right" "_law_right" (defArgs s__law_right) (defBody s__law_right) (defScope s__law_right) .none kV dc pm an cd ct) :=
  ⟨fun_mk l c k, PySem.W.mg_of X G a, fun s us hl => .of_eq (match us, hl with | [_, _, _, _, _], _ => rfl), fun s us hl => .of_eq (match us, hl with | [_, _, _, _, _], _ => rfl), fun s us hl => .of_eq (match us, hl with | [_, _, _, _, _], _ => rfl)⟩

theorem df_law {K : PySem.W.Frag} {h : Heap} {mg : Str → Option Value} {f : Addr} {od an : Option Addr} {sl : Array (Option Value)} {oc kV dc pm cd ct : Value} (X : K.In h) (G : h.Ns mainGlobals mg) (a : PySem.W.nsIn K mainGlobals "law" = some (some (.ref f)))
    (l : K.lookup f = some ⟨oc, od, .func (PySem.W.fnOf "law" "law" (defArgs s_law) (defBody s_law) (defScope s_law) .none kV dc pm an cd ct), sl⟩) (c : PySem.W.codeIn K cd "law" = true) (k : PySem.W.keepIn K (.ref f) = true) :
    Df K mg "law" s_law ["_law_script"] f (PySem.W.fnOf "law" "law" (defArgs s_law) (defBody s_law) (defScope s_law) .none kV dc pm an cd ct) :=
  ⟨fun_mk l c k, PySem.W.mg_of X G a, fun s us hl => .of_eq (match us, hl with | [_], _ => rfl), fun s us hl => .of_eq (match us, hl with | [_], _ => rfl), fun s us hl => .of_eq (match us, hl with | [_], _ => rfl)⟩

theorem all_mk {l : PySem.W.OpenLaw} {w : World} {K : PySem.W.Frag} {h : Heap} {mg : Str → Option Value} {fa C f0 f1 f2 f3 f4 f5 f6 f7 f8 f9 f10 f11 f12 f13 f14 f15 f16 f17 f18 f19 f20 f21 f22 f23 f24 f25 f26 f27 f28 f29 f30 f31 f32 f33 f34 f35 f36 f37 f38 f39 f40 f41 f42 : Addr} {t_MOST_WEIGHTS : Tok}  (X : K.In h) (G : h.Ns mainGlobals mg) (hfa : mg "law" = some (.ref fa)) {CT kc0 kc1 : Addr} {d0 d1 : Option Addr} {s0 s1 : Array (Option Value)} {t00 t01 t10 t11 : Tok} {n0 n1 : Nat}
    {od0 an0 od1 an1 od2 an2 od3 an3 od4 an4 od5 an5 od6 an6 od7 an7 od8 an8 od9 an9 od10 an10 od11 an11 od12 an12 od13 an13 od14 an14 od15 an15 od16 an16 od17 an17 od18 an18 od19 an19 od20 an20 od21 an21 od22 an22 od23 an23 od24 an24 od25 an25 od26 an26 od27 an27 od28 an28 od29 an29 od30 an30 od31 an31 od32 an32 od33 an33 od34 an34 od35 an35 od36 an36 od37 an37 od38 an38 od39 an39 od40 an40 od41 an41 od42 an42 : Option Addr} {sl0 sl1 sl2 sl3 sl4 sl5 sl6 sl7 sl8 sl9 sl10 sl11 sl12 sl13 sl14 sl15 sl16 sl17 sl18 sl19 sl20 sl21 sl22 sl23 sl24 sl25 sl26 sl27 sl28 sl29 sl30 sl31 sl32 sl33 sl34 sl35 sl36 sl37 sl38 sl39 sl40 sl41 sl42 : Array (Option Value)} {oc0 kV0 dc0 pm0 cd0 ct0 oc1 kV1 dc1 pm1 cd1 ct1 oc2 kV2 dc2 pm2 cd2 ct2 oc3 kV3 dc3 pm3 cd3 ct3 oc4 kV4 dc4 pm4 cd4 ct4 oc5 kV5 dc5 pm5 cd5 ct5 oc6 kV6 dc6 pm6 cd6 ct6 oc7 kV7 dc7 pm7 cd7 ct7 oc8 kV8 dc8 pm8 cd8 ct8 oc9 kV9 dc9 pm9 cd9 ct9 oc10 kV10 dc10 pm10 cd10 ct10 oc11 kV11 dc11 pm11 cd11 ct11 oc12 kV12 dc12 pm12 cd12 ct12 oc13 kV13 dc13 pm13 cd13 ct13 oc14 kV14 dc14 pm14 cd14 ct14 oc15 kV15 dc15 pm15 cd15 ct15 oc16 kV16 dc16 pm16 cd16 ct16 oc17 kV17 dc17 pm17 cd17 ct17 oc18 kV18 dc18 pm18 cd18 ct18 oc19 kV19 dc19 pm19 cd19 ct19 oc20 kV20 dc20 pm20 cd20 ct20 oc21 kV21 dc21 pm21 cd21 ct21 oc22 kV22 dc22 pm22 cd22 ct22 oc23 kV23 dc23 pm23 cd23 ct23 oc24 kV24 dc24 pm24 cd24 ct24 oc25 kV25 dc25 pm25 cd25 ct25 oc26 kV26 dc26 pm26 cd26 ct26 oc27 kV27 dc27 pm27 cd27 ct27 oc28 kV28 dc28 pm28 cd28 ct28 oc29 kV29 dc29 pm29 cd29 ct29 oc30 kV30 dc30 pm30 cd30 ct30 oc31 kV31 dc31 pm31 cd31 ct31 oc32 kV32 dc32 pm32 cd32 ct32 oc33 kV33 dc33 pm33 cd33 ct33 oc34 kV34 dc34 pm34 cd34 ct34 oc35 kV35 dc35 pm35 cd35 ct35 oc36 kV36 dc36 pm36 cd36 ct36 oc37 kV37 dc37 pm37 cd37 ct37 oc38 kV38 dc38 pm38 cd38 ct38 oc39 kV39 dc39 pm39 cd39 ct39 oc40 kV40 dc40 pm40 cd40 ct40 oc41 kV41 dc41 pm41 cd41 ct41 oc42 kV42 dc42 pm42 cd42 ct42 : Value}
    (aC : PySem.W.nsIn K mainGlobals "NoFraction" = some (some (.ref C))) (xC : PySem.W.excIn K C [.type "ValueError", .type "Exception", .type "BaseException", .type "object"] "ValueError.__new__" = true) (kC : PySem.W.keepIn K (.ref C) = true)
    (bC : PySem.W.subIn K (.ref C) (.type "BaseException") = some true) (tC : PySem.W.typeIn K (.ref C) = some (.type "type")) (iC : PySem.W.isClsIn K C = true) (sC : PySem.W.subIn K (.ref C) (.ref C) = some true)
    (a0 : PySem.W.nsIn K mainGlobals "is_whole" = some (some (.ref f0))) (l0 : K.lookup f0 = some ⟨oc0, od0, .func (PySem.W.fnOf "is_whole" "is_whole" (defArgs s_is_whole) (defBody s_is_whole) (defScope s_is_whole) .none kV0 dc0 pm0 an0 cd0 ct0), sl0⟩) (c0 : PySem.W.codeIn K cd0 "is_whole" = true) (k0 : PySem.W.keepIn K (.ref f0) = true)
    (a1 : PySem.W.nsIn K mainGlobals "common" = some (some (.ref f1))) (l1 : K.lookup f1 = some ⟨oc1, od1, .func (PySem.W.fnOf "common" "common" (defArgs sCom) (defBody sCom) (defScope sCom) .none kV1 dc1 pm1 an1 cd1 ct1), sl1⟩) (c1 : PySem.W.codeIn K cd1 "common" = true) (k1 : PySem.W.keepIn K (.ref f1) = true)
    (a2 : PySem.W.nsIn K mainGlobals "fraction" = some (some (.ref f2))) (l2 : K.lookup f2 = some ⟨oc2, od2, .func (PySem.W.fnOf "fraction" "fraction" (defArgs sFrac) (defBody sFrac) (defScope sFrac) .none kV2 dc2 pm2 an2 cd2 ct2), sl2⟩) (c2 : PySem.W.codeIn K cd2 "fraction" = true) (k2 : PySem.W.keepIn K (.ref f2) = true)
    (a3 : PySem.W.nsIn K mainGlobals "plus" = some (some (.ref f3))) (l3 : K.lookup f3 = some ⟨oc3, od3, .func (PySem.W.fnOf "plus" "plus" (defArgs s_plus) (defBody s_plus) (defScope s_plus) .none kV3 dc3 pm3 an3 cd3 ct3), sl3⟩) (c3 : PySem.W.codeIn K cd3 "plus" = true) (k3 : PySem.W.keepIn K (.ref f3) = true)
    (a4 : PySem.W.nsIn K mainGlobals "minus" = some (some (.ref f4))) (l4 : K.lookup f4 = some ⟨oc4, od4, .func (PySem.W.fnOf "minus" "minus" (defArgs s_minus) (defBody s_minus) (defScope s_minus) .none kV4 dc4 pm4 an4 cd4 ct4), sl4⟩) (c4 : PySem.W.codeIn K cd4 "minus" = true) (k4 : PySem.W.keepIn K (.ref f4) = true)
    (a5 : PySem.W.nsIn K mainGlobals "times" = some (some (.ref f5))) (l5 : K.lookup f5 = some ⟨oc5, od5, .func (PySem.W.fnOf "times" "times" (defArgs s_times) (defBody s_times) (defScope s_times) .none kV5 dc5 pm5 an5 cd5 ct5), sl5⟩) (c5 : PySem.W.codeIn K cd5 "times" = true) (k5 : PySem.W.keepIn K (.ref f5) = true)
    (a6 : PySem.W.nsIn K mainGlobals "over" = some (some (.ref f6))) (l6 : K.lookup f6 = some ⟨oc6, od6, .func (PySem.W.fnOf "over" "over" (defArgs s_over) (defBody s_over) (defScope s_over) .none kV6 dc6 pm6 an6 cd6 ct6), sl6⟩) (c6 : PySem.W.codeIn K cd6 "over" = true) (k6 : PySem.W.keepIn K (.ref f6) = true)
    (a7 : PySem.W.nsIn K mainGlobals "together" = some (some (.ref f7))) (l7 : K.lookup f7 = some ⟨oc7, od7, .func (PySem.W.fnOf "together" "together" (defArgs s_together) (defBody s_together) (defScope s_together) .none kV7 dc7 pm7 an7 cd7 ct7), sl7⟩) (c7 : PySem.W.codeIn K cd7 "together" = true) (k7 : PySem.W.keepIn K (.ref f7) = true)
    (a8 : PySem.W.nsIn K mainGlobals "is_less" = some (some (.ref f8))) (l8 : K.lookup f8 = some ⟨oc8, od8, .func (PySem.W.fnOf "is_less" "is_less" (defArgs s_is_less) (defBody s_is_less) (defScope s_is_less) .none kV8 dc8 pm8 an8 cd8 ct8), sl8⟩) (c8 : PySem.W.codeIn K cd8 "is_less" = true) (k8 : PySem.W.keepIn K (.ref f8) = true)
    (a9 : PySem.W.nsIn K mainGlobals "floor_of" = some (some (.ref f9))) (l9 : K.lookup f9 = some ⟨oc9, od9, .func (PySem.W.fnOf "floor_of" "floor_of" (defArgs s_floor_of) (defBody s_floor_of) (defScope s_floor_of) .none kV9 dc9 pm9 an9 cd9 ct9), sl9⟩) (c9 : PySem.W.codeIn K cd9 "floor_of" = true) (k9 : PySem.W.keepIn K (.ref f9) = true)
    (a10 : PySem.W.nsIn K mainGlobals "is_fraction" = some (some (.ref f10))) (l10 : K.lookup f10 = some ⟨oc10, od10, .func (PySem.W.fnOf "is_fraction" "is_fraction" (defArgs s_is_fraction) (defBody s_is_fraction) (defScope s_is_fraction) .none kV10 dc10 pm10 an10 cd10 ct10), sl10⟩) (c10 : PySem.W.codeIn K cd10 "is_fraction" = true) (k10 : PySem.W.keepIn K (.ref f10) = true)
    (a11 : PySem.W.nsIn K mainGlobals "is_above_0" = some (some (.ref f11))) (l11 : K.lookup f11 = some ⟨oc11, od11, .func (PySem.W.fnOf "is_above_0" "is_above_0" (defArgs s_is_above_0) (defBody s_is_above_0) (defScope s_is_above_0) .none kV11 dc11 pm11 an11 cd11 ct11), sl11⟩) (c11 : PySem.W.codeIn K cd11 "is_above_0" = true) (k11 : PySem.W.keepIn K (.ref f11) = true)
    (a12 : PySem.W.nsIn K mainGlobals "are_weights" = some (some (.ref f12))) (l12 : K.lookup f12 = some ⟨oc12, od12, .func (PySem.W.fnOf "are_weights" "are_weights" (defArgs s_are_weights) (defBody s_are_weights) (defScope s_are_weights) .none kV12 dc12 pm12 an12 cd12 ct12), sl12⟩) (c12 : PySem.W.codeIn K cd12 "are_weights" = true) (k12 : PySem.W.keepIn K (.ref f12) = true)
    (a13 : PySem.W.nsIn K mainGlobals "above_floor" = some (some (.ref f13))) (l13 : K.lookup f13 = some ⟨oc13, od13, .func (PySem.W.fnOf "above_floor" "above_floor" (defArgs s_above_floor) (defBody s_above_floor) (defScope s_above_floor) .none kV13 dc13 pm13 an13 cd13 ct13), sl13⟩) (c13 : PySem.W.codeIn K cd13 "above_floor" = true) (k13 : PySem.W.keepIn K (.ref f13) = true)
    (a14 : PySem.W.nsIn K mainGlobals "many_steps" = some (some (.ref f14))) (l14 : K.lookup f14 = some ⟨oc14, od14, .func (PySem.W.fnOf "many_steps" "many_steps" (defArgs s_many_steps) (defBody s_many_steps) (defScope s_many_steps) .none kV14 dc14 pm14 an14 cd14 ct14), sl14⟩) (c14 : PySem.W.codeIn K cd14 "many_steps" = true) (k14 : PySem.W.keepIn K (.ref f14) = true)
    (a15 : PySem.W.nsIn K mainGlobals "aims" = some (some (.ref f15))) (l15 : K.lookup f15 = some ⟨oc15, od15, .func (PySem.W.fnOf "aims" "aims" (defArgs s_aims) (defBody s_aims) (defScope s_aims) .none kV15 dc15 pm15 an15 cd15 ct15), sl15⟩) (c15 : PySem.W.codeIn K cd15 "aims" = true) (k15 : PySem.W.keepIn K (.ref f15) = true)
    (a16 : PySem.W.nsIn K mainGlobals "how_many_more" = some (some (.ref f16))) (l16 : K.lookup f16 = some ⟨oc16, od16, .func (PySem.W.fnOf "how_many_more" "how_many_more" (defArgs s_how_many_more) (defBody s_how_many_more) (defScope s_how_many_more) .none kV16 dc16 pm16 an16 cd16 ct16), sl16⟩) (c16 : PySem.W.codeIn K cd16 "how_many_more" = true) (k16 : PySem.W.keepIn K (.ref f16) = true)
    (a17 : PySem.W.nsIn K mainGlobals "is_sooner" = some (some (.ref f17))) (l17 : K.lookup f17 = some ⟨oc17, od17, .func (PySem.W.fnOf "is_sooner" "is_sooner" (defArgs s_is_sooner) (defBody s_is_sooner) (defScope s_is_sooner) .none kV17 dc17 pm17 an17 cd17 ct17), sl17⟩) (c17 : PySem.W.codeIn K cd17 "is_sooner" = true) (k17 : PySem.W.keepIn K (.ref f17) = true)
    (a18 : PySem.W.nsIn K mainGlobals "are_sooner" = some (some (.ref f18))) (l18 : K.lookup f18 = some ⟨oc18, od18, .func (PySem.W.fnOf "are_sooner" "are_sooner" (defArgs s_are_sooner) (defBody s_are_sooner) (defScope s_are_sooner) .none kV18 dc18 pm18 an18 cd18 ct18), sl18⟩) (c18 : PySem.W.codeIn K cd18 "are_sooner" = true) (k18 : PySem.W.keepIn K (.ref f18) = true)
    (a19 : PySem.W.nsIn K mainGlobals "nearest" = some (some (.ref f19))) (l19 : K.lookup f19 = some ⟨oc19, od19, .func (PySem.W.fnOf "nearest" "nearest" (defArgs s_nearest) (defBody s_nearest) (defScope s_nearest) .none kV19 dc19 pm19 an19 cd19 ct19), sl19⟩) (c19 : PySem.W.codeIn K cd19 "nearest" = true) (k19 : PySem.W.keepIn K (.ref f19) = true)
    (a20 : PySem.W.nsIn K mainGlobals "worst_of" = some (some (.ref f20))) (l20 : K.lookup f20 = some ⟨oc20, od20, .func (PySem.W.fnOf "worst_of" "worst_of" (defArgs s_worst_of) (defBody s_worst_of) (defScope s_worst_of) .none kV20 dc20 pm20 an20 cd20 ct20), sl20⟩) (c20 : PySem.W.codeIn K cd20 "worst_of" = true) (k20 : PySem.W.keepIn K (.ref f20) = true)
    (a21 : PySem.W.nsIn K mainGlobals "rounded" = some (some (.ref f21))) (l21 : K.lookup f21 = some ⟨oc21, od21, .func (PySem.W.fnOf "rounded" "rounded" (defArgs s_rounded) (defBody s_rounded) (defScope s_rounded) .none kV21 dc21 pm21 an21 cd21 ct21), sl21⟩) (c21 : PySem.W.codeIn K cd21 "rounded" = true) (k21 : PySem.W.keepIn K (.ref f21) = true)
    (a22 : PySem.W.nsIn K mainGlobals "paper" = some (some (.ref f22))) (l22 : K.lookup f22 = some ⟨oc22, od22, .func (PySem.W.fnOf "paper" "paper" (defArgs s_paper) (defBody s_paper) (defScope s_paper) .none kV22 dc22 pm22 an22 cd22 ct22), sl22⟩) (c22 : PySem.W.codeIn K cd22 "paper" = true) (k22 : PySem.W.keepIn K (.ref f22) = true)
    (a23 : PySem.W.nsIn K mainGlobals "are_places" = some (some (.ref f23))) (l23 : K.lookup f23 = some ⟨oc23, od23, .func (PySem.W.fnOf "are_places" "are_places" (defArgs s_are_places) (defBody s_are_places) (defScope s_are_places) .none kV23 dc23 pm23 an23 cd23 ct23), sl23⟩) (c23 : PySem.W.codeIn K cd23 "are_places" = true) (k23 : PySem.W.keepIn K (.ref f23) = true)
    (a24 : PySem.W.nsIn K mainGlobals "is_like_a_paper" = some (some (.ref f24))) (l24 : K.lookup f24 = some ⟨oc24, od24, .func (PySem.W.fnOf "is_like_a_paper" "is_like_a_paper" (defArgs s_is_like_a_paper) (defBody s_is_like_a_paper) (defScope s_is_like_a_paper) .none kV24 dc24 pm24 an24 cd24 ct24), sl24⟩) (c24 : PySem.W.codeIn K cd24 "is_like_a_paper" = true) (k24 : PySem.W.keepIn K (.ref f24) = true)
    (a25 : PySem.W.nsIn K mainGlobals "shows" = some (some (.ref f25))) (l25 : K.lookup f25 = some ⟨oc25, od25, .func (PySem.W.fnOf "shows" "shows" (defArgs s_shows) (defBody s_shows) (defScope s_shows) .none kV25 dc25 pm25 an25 cd25 ct25), sl25⟩) (c25 : PySem.W.codeIn K cd25 "shows" = true) (k25 : PySem.W.keepIn K (.ref f25) = true)
    (a26 : PySem.W.nsIn K mainGlobals "_law_cell" = some (some (.ref f26))) (l26 : K.lookup f26 = some ⟨oc26, od26, .func (PySem.W.fnOf "_law_cell" "_law_cell" (defArgs s__law_cell) (defBody s__law_cell) (defScope s__law_cell) .none kV26 dc26 pm26 an26 cd26 ct26), sl26⟩) (c26 : PySem.W.codeIn K cd26 "_law_cell" = true) (k26 : PySem.W.keepIn K (.ref f26) = true)
    (a27 : PySem.W.nsIn K mainGlobals "_law_pot" = some (some (.ref f27))) (l27 : K.lookup f27 = some ⟨oc27, od27, .func (PySem.W.fnOf "_law_pot" "_law_pot" (defArgs s__law_pot) (defBody s__law_pot) (defScope s__law_pot) .none kV27 dc27 pm27 an27 cd27 ct27), sl27⟩) (c27 : PySem.W.codeIn K cd27 "_law_pot" = true) (k27 : PySem.W.keepIn K (.ref f27) = true)
    (a28 : PySem.W.nsIn K mainGlobals "_law_draw" = some (some (.ref f28))) (l28 : K.lookup f28 = some ⟨oc28, od28, .func (PySem.W.fnOf "_law_draw" "_law_draw" (defArgs s__law_draw) (defBody s__law_draw) (defScope s__law_draw) .none kV28 dc28 pm28 an28 cd28 ct28), sl28⟩) (c28 : PySem.W.codeIn K cd28 "_law_draw" = true) (k28 : PySem.W.keepIn K (.ref f28) = true)
    (a29 : PySem.W.nsIn K mainGlobals "_law_low" = some (some (.ref f29))) (l29 : K.lookup f29 = some ⟨oc29, od29, .func (PySem.W.fnOf "_law_low" "_law_low" (defArgs s__law_low) (defBody s__law_low) (defScope s__law_low) .none kV29 dc29 pm29 an29 cd29 ct29), sl29⟩) (c29 : PySem.W.codeIn K cd29 "_law_low" = true) (k29 : PySem.W.keepIn K (.ref f29) = true)
    (a30 : PySem.W.nsIn K mainGlobals "_law_sum" = some (some (.ref f30))) (l30 : K.lookup f30 = some ⟨oc30, od30, .func (PySem.W.fnOf "_law_sum" "_law_sum" (defArgs s__law_sum) (defBody s__law_sum) (defScope s__law_sum) .none kV30 dc30 pm30 an30 cd30 ct30), sl30⟩) (c30 : PySem.W.codeIn K cd30 "_law_sum" = true) (k30 : PySem.W.keepIn K (.ref f30) = true)
    (a31 : PySem.W.nsIn K mainGlobals "_law_total" = some (some (.ref f31))) (l31 : K.lookup f31 = some ⟨oc31, od31, .func (PySem.W.fnOf "_law_total" "_law_total" (defArgs s__law_total) (defBody s__law_total) (defScope s__law_total) .none kV31 dc31 pm31 an31 cd31 ct31), sl31⟩) (c31 : PySem.W.codeIn K cd31 "_law_total" = true) (k31 : PySem.W.keepIn K (.ref f31) = true)
    (a32 : PySem.W.nsIn K mainGlobals "_law_whole_some" = some (some (.ref f32))) (l32 : K.lookup f32 = some ⟨oc32, od32, .func (PySem.W.fnOf "_law_whole_some" "_law_whole_some" (defArgs s__law_whole_some) (defBody s__law_whole_some) (defScope s__law_whole_some) .none kV32 dc32 pm32 an32 cd32 ct32), sl32⟩) (c32 : PySem.W.codeIn K cd32 "_law_whole_some" = true) (k32 : PySem.W.keepIn K (.ref f32) = true)
    (a33 : PySem.W.nsIn K mainGlobals "_law_weights" = some (some (.ref f33))) (l33 : K.lookup f33 = some ⟨oc33, od33, .func (PySem.W.fnOf "_law_weights" "_law_weights" (defArgs s__law_weights) (defBody s__law_weights) (defScope s__law_weights) .none kV33 dc33 pm33 an33 cd33 ct33), sl33⟩) (c33 : PySem.W.codeIn K cd33 "_law_weights" = true) (k33 : PySem.W.keepIn K (.ref f33) = true)
    (a34 : PySem.W.nsIn K mainGlobals "_law_step" = some (some (.ref f34))) (l34 : K.lookup f34 = some ⟨oc34, od34, .func (PySem.W.fnOf "_law_step" "_law_step" (defArgs s__law_step) (defBody s__law_step) (defScope s__law_step) .none kV34 dc34 pm34 an34 cd34 ct34), sl34⟩) (c34 : PySem.W.codeIn K cd34 "_law_step" = true) (k34 : PySem.W.keepIn K (.ref f34) = true)
    (a35 : PySem.W.nsIn K mainGlobals "_law_many" = some (some (.ref f35))) (l35 : K.lookup f35 = some ⟨oc35, od35, .func (PySem.W.fnOf "_law_many" "_law_many" (defArgs s__law_many) (defBody s__law_many) (defScope s__law_many) .none kV35 dc35 pm35 an35 cd35 ct35), sl35⟩) (c35 : PySem.W.codeIn K cd35 "_law_many" = true) (k35 : PySem.W.keepIn K (.ref f35) = true)
    (a36 : PySem.W.nsIn K mainGlobals "_law_fit_step" = some (some (.ref f36))) (l36 : K.lookup f36 = some ⟨oc36, od36, .func (PySem.W.fnOf "_law_fit_step" "_law_fit_step" (defArgs s__law_fit_step) (defBody s__law_fit_step) (defScope s__law_fit_step) .none kV36 dc36 pm36 an36 cd36 ct36), sl36⟩) (c36 : PySem.W.codeIn K cd36 "_law_fit_step" = true) (k36 : PySem.W.keepIn K (.ref f36) = true)
    (a37 : PySem.W.nsIn K mainGlobals "_law_less" = some (some (.ref f37))) (l37 : K.lookup f37 = some ⟨oc37, od37, .func (PySem.W.fnOf "_law_less" "_law_less" (defArgs s__law_less) (defBody s__law_less) (defScope s__law_less) .none kV37 dc37 pm37 an37 cd37 ct37), sl37⟩) (c37 : PySem.W.codeIn K cd37 "_law_less" = true) (k37 : PySem.W.keepIn K (.ref f37) = true)
    (a38 : PySem.W.nsIn K mainGlobals "_law_bound" = some (some (.ref f38))) (l38 : K.lookup f38 = some ⟨oc38, od38, .func (PySem.W.fnOf "_law_bound" "_law_bound" (defArgs s__law_bound) (defBody s__law_bound) (defScope s__law_bound) .none kV38 dc38 pm38 an38 cd38 ct38), sl38⟩) (c38 : PySem.W.codeIn K cd38 "_law_bound" = true) (k38 : PySem.W.keepIn K (.ref f38) = true)
    (a39 : PySem.W.nsIn K mainGlobals "_law_odd_list" = some (some (.ref f39))) (l39 : K.lookup f39 = some ⟨oc39, od39, .func (PySem.W.fnOf "_law_odd_list" "_law_odd_list" (defArgs s__law_odd_list) (defBody s__law_odd_list) (defScope s__law_odd_list) .none kV39 dc39 pm39 an39 cd39 ct39), sl39⟩) (c39 : PySem.W.codeIn K cd39 "_law_odd_list" = true) (k39 : PySem.W.keepIn K (.ref f39) = true)
    (a40 : PySem.W.nsIn K mainGlobals "_law_odd" = some (some (.ref f40))) (l40 : K.lookup f40 = some ⟨oc40, od40, .func (PySem.W.fnOf "_law_odd" "_law_odd" (defArgs s__law_odd) (defBody s__law_odd) (defScope s__law_odd) .none kV40 dc40 pm40 an40 cd40 ct40), sl40⟩) (c40 : PySem.W.codeIn K cd40 "_law_odd" = true) (k40 : PySem.W.keepIn K (.ref f40) = true)
    (a41 : PySem.W.nsIn K mainGlobals "_law_right" = some (some (.ref f41))) (l41 : K.lookup f41 = some ⟨oc41, od41, .func (PySem.W.fnOf "_law_right" "_law_right" (defArgs s__law_right) (defBody s__law_right) (defScope s__law_right) .none kV41 dc41 pm41 an41 cd41 ct41), sl41⟩) (c41 : PySem.W.codeIn K cd41 "_law_right" = true) (k41 : PySem.W.keepIn K (.ref f41) = true)
    (a42 : PySem.W.nsIn K mainGlobals "law" = some (some (.ref f42))) (l42 : K.lookup f42 = some ⟨oc42, od42, .func (PySem.W.fnOf "law" "law" (defArgs s_law) (defBody s_law) (defScope s_law) .none kV42 dc42 pm42 an42 cd42 ct42), sl42⟩) (c42 : PySem.W.codeIn K cd42 "law" = true) (k42 : PySem.W.keepIn K (.ref f42) = true)
    (z_abs : PySem.W.nsIn K mainGlobals "abs" = some none)
    (z_len : PySem.W.nsIn K mainGlobals "len" = some none)
    (z_max : PySem.W.nsIn K mainGlobals "max" = some none)
    (z_min : PySem.W.nsIn K mainGlobals "min" = some none)
    (z_divmod : PySem.W.nsIn K mainGlobals "divmod" = some none)
    (z_repr : PySem.W.nsIn K mainGlobals "repr" = some none)
    (z_all : PySem.W.nsIn K mainGlobals "all" = some none)
    (z_int : PySem.W.nsIn K mainGlobals "int" = some none)
    (z_str : PySem.W.nsIn K mainGlobals "str" = some none)
    (z_range : PySem.W.nsIn K mainGlobals "range" = some none)
    (z_isinstance : PySem.W.nsIn K mainGlobals "isinstance" = some none)
    (z_bool : PySem.W.nsIn K mainGlobals "bool" = some none)
    (z_tuple : PySem.W.nsIn K mainGlobals "tuple" = some none)
    (z_list : PySem.W.nsIn K mainGlobals "list" = some none)
    (z_sum : PySem.W.nsIn K mainGlobals "sum" = some none)
    (z_zip : PySem.W.nsIn K mainGlobals "zip" = some none)
    (z_enumerate : PySem.W.nsIn K mainGlobals "enumerate" = some none)
    (z_any : PySem.W.nsIn K mainGlobals "any" = some none)
    (g_MOST_WEIGHTS : PySem.W.nsIn K mainGlobals "MOST_WEIGHTS" = some (some (.int 12 t_MOST_WEIGHTS)))
    (gT : PySem.W.nsIn K mainGlobals "TooLittle" = some (some (.ref CT)))
    (xT : PySem.W.excIn K CT [.type "ValueError", .type "Exception", .type "BaseException", .type "object"] "ValueError.__new__" = true)
    (kT : PySem.W.keepIn K (.ref CT) = true)
    (bT : PySem.W.subIn K (.ref CT) (.type "BaseException") = some true)
    (tT : PySem.W.typeIn K (.ref CT) = some (.type "type"))
    (iT : PySem.W.isClsIn K CT = true)
    (sT : PySem.W.subIn K (.ref CT) (.ref CT) = some true)
    (gc0 : PySem.W.nsIn K mainGlobals "NONE_OF_IT" = some (some (.ref kc0)))
    (lc0 : K.lookup kc0 = some ⟨.type "tuple", d0, .seq #[.int 0 t00, .int 1 t01] n0, s0⟩)
    (gc1 : PySem.W.nsIn K mainGlobals "ALL_OF_IT" = some (some (.ref kc1)))
    (lc1 : K.lookup kc1 = some ⟨.type "tuple", d1, .seq #[.int 1 t10, .int 1 t11] n1, s1⟩) :
    ∃ fd : FuncData, (∀ (s : Shared) (v : Value), BindsTo s fd ⟨[v], []⟩ [("_law_script", v)]) ∧ ∀ base : Heap, K.In base → base.Ns mainGlobals mg → FnG l.prog w K mg base CX0 13 fa fd ["_law_script"] (sp_law K) := by
  have e := hfa.symm.trans (PySem.W.mg_of X G a42)
  cases e
  have T : ExT K mg "NoFraction" C := ⟨PySem.W.mg_of X G aC, xC, kC, bC, tC, exm_self bC iC tC sC⟩
  have M : Blt mg := ⟨PySem.W.mg_none_of X G z_abs, PySem.W.mg_none_of X G z_len, PySem.W.mg_none_of X G z_max, PySem.W.mg_none_of X G z_min, PySem.W.mg_none_of X G z_divmod, PySem.W.mg_none_of X G z_repr, PySem.W.mg_none_of X G z_all, PySem.W.mg_none_of X G z_int, PySem.W.mg_none_of X G z_str, PySem.W.mg_none_of X G z_range⟩
  have D0 := df_is_whole X G a0 l0 c0 k0
  have D1 := df_common X G a1 l1 c1 k1
  have D2 := df_fraction X G a2 l2 c2 k2
  have D3 := df_plus X G a3 l3 c3 k3
  have D4 := df_minus X G a4 l4 c4 k4
  have D5 := df_times X G a5 l5 c5 k5
  have D6 := df_over X G a6 l6 c6 k6
  have D7 := df_together X G a7 l7 c7 k7
  have D8 := df_is_less X G a8 l8 c8 k8
  have D9 := df_floor_of X G a9 l9 c9 k9
  have D10 := df_is_fraction X G a10 l10 c10 k10
  have D11 := df_is_above_0 X G a11 l11 c11 k11
  have D12 := df_are_weights X G a12 l12 c12 k12
  have D13 := df_above_floor X G a13 l13 c13 k13
  have D14 := df_many_steps X G a14 l14 c14 k14
  have D15 := df_aims X G a15 l15 c15 k15
  have D16 := df_how_many_more X G a16 l16 c16 k16
  have D17 := df_is_sooner X G a17 l17 c17 k17
  have D18 := df_are_sooner X G a18 l18 c18 k18
  have D19 := df_nearest X G a19 l19 c19 k19
  have D20 := df_worst_of X G a20 l20 c20 k20
  have D21 := df_rounded X G a21 l21 c21 k21
  have D22 := df_paper X G a22 l22 c22 k22
  have D23 := df_are_places X G a23 l23 c23 k23
  have D24 := df_is_like_a_paper X G a24 l24 c24 k24
  have D25 := df_shows X G a25 l25 c25 k25
  have D26 := df__law_cell X G a26 l26 c26 k26
  have D27 := df__law_pot X G a27 l27 c27 k27
  have D28 := df__law_draw X G a28 l28 c28 k28
  have D29 := df__law_low X G a29 l29 c29 k29
  have D30 := df__law_sum X G a30 l30 c30 k30
  have D31 := df__law_total X G a31 l31 c31 k31
  have D32 := df__law_whole_some X G a32 l32 c32 k32
  have D33 := df__law_weights X G a33 l33 c33 k33
  have D34 := df__law_step X G a34 l34 c34 k34
  have D35 := df__law_many X G a35 l35 c35 k35
  have D36 := df__law_fit_step X G a36 l36 c36 k36
  have D37 := df__law_less X G a37 l37 c37 k37
  have D38 := df__law_bound X G a38 l38 c38 k38
  have D39 := df__law_odd_list X G a39 l39 c39 k39
  have D40 := df__law_odd X G a40 l40 c40 k40
  have D41 := df__law_right X G a41 l41 c41 k41
  have D42 := df_law X G a42 l42 c42 k42
  refine ⟨_, fun s v => D42.b1 s [v] rfl, fun base _ _ => ?_⟩
  have Mx : Bltx mg := ⟨PySem.W.mg_none_of X G z_isinstance, PySem.W.mg_none_of X G z_bool, PySem.W.mg_none_of X G z_tuple⟩
  have ml := PySem.W.mg_none_of X G z_list
  have TT : ExT K mg "TooLittle" CT := ⟨PySem.W.mg_of X G gT, xT, kT, bT, tT, exm_self bT iT tT sT⟩
  have t0 : ∀ H, SqT K H kc0 [.int 0, .int 1] := fun H => .inr ⟨_, _, _, lc0, rfl, rfl, (by show 2 ≤ sizeLine; decide), .cons ⟨_, rfl⟩ (.cons ⟨_, rfl⟩ .nil)⟩
  have C1 : Cal l.prog w K mg base CX0 1 "common" ["one", "other"] spCom := D1.cal (ok_com D1.fn)
  have C2 : Cal l.prog w K mg base CX0 2 "fraction" ["top", "bottom"] (fun _ _ _ _ => False) := D2.cal FnG.no
  have C4 : Cal l.prog w K mg base CX0 4 "fraction" ["top", "bottom"] (spFrac true) := by
    have P1 : FnG l.prog w K mg base CX0 3 _ _ ["top", "bottom"] (spFrac false) := ok_frac (j := 1) false _ (fun n d H Q hd hs => by
      obtain ⟨n', d', e, _, hp, _⟩ := hs
      cases e
      have := hp rfl
      omega) M T D2.fn C1 C2
    have CR : Cal l.prog w K mg base CX0 3 "fraction" ["top", "bottom"] (spFrac false) := D2.cal P1
    exact D2.cal (ok_frac (j := 2) true _ (fun n d H Q hd hs => by
      obtain ⟨n', d', e, h0, _, h1, h2, q⟩ := hs
      cases e
      refine ⟨-n, -d, rfl, by omega, fun _ => by omega, ?_, ?_, ?_⟩
      · show (-n).natAbs < _
        rw [Int.natAbs_neg]
        exact h1
      · show (-d).natAbs < _
        rw [Int.natAbs_neg]
        exact h2
      · rw [low_neg]
        exact q) M T D2.fn C1 CR)
  have CP : Cal l.prog w K mg base CX0 5 "plus" ["one", "other"] (sp_plus K) := D3.cal (ok_plus D3.fn C4)
  have CTm : Cal l.prog w K mg base CX0 5 "times" ["one", "other"] (sp_times K) := D5.cal (ok_times D5.fn C4)
  have CO : Cal l.prog w K mg base CX0 5 "over" ["one", "other"] (sp_over K) := D6.cal (ok_over D6.fn C4)
  have TgL : Cal l.prog w K mg base CX0 6 "together" ["ones"] (sp_togL K) := D7.cal (ok_togL (PySem.W.mg_of X G gc0) t0 D7.fn CP)
  have TgT : Cal l.prog w K mg base CX0 6 "together" ["ones"] (sp_togT K) := D7.cal (ok_togT (PySem.W.mg_of X G gc0) t0 D7.fn CP)
  have CW : Cal l.prog w K mg base CX0 1 "is_whole" ["thing"] (sp_whole K) := D0.cal (ok_whole M Mx D0.fn)
  have CF : Cal l.prog w K mg base CX0 2 "is_fraction" ["thing"] (sp_isfr K) := D10.cal (ok_isfr M Mx D10.fn CW C1)
  have CA : Cal l.prog w K mg base CX0 3 "is_above_0" ["thing"] (sp_ab0 K) := D11.cal (ok_ab0 D11.fn CF)
  have AL : Cal l.prog w K mg base CX0 4 "are_weights" ["thing"] (sp_arewL K) := D12.cal (ok_arewL M Mx ml (PySem.W.mg_of X G g_MOST_WEIGHTS) D12.fn CA)
  have AT : Cal l.prog w K mg base CX0 4 "are_weights" ["thing"] (sp_arewT K) := D12.cal (ok_arewT M Mx ml (PySem.W.mg_of X G g_MOST_WEIGHTS) D12.fn CA)
  have FL : Cal l.prog w K mg base CX0 1 "floor_of" ["one"] (sp_floor K) := D9.cal (ok_floor D9.fn)
  have ML : Cal l.prog w K mg base (L2.CX l.prog w) 7 "many_steps" ["weights", "step"] (sp_manyL K CT) := D14.cal (ok_manyL TT D14.fn AL CA TgL CO FL)
  have MT : Cal l.prog w K mg base (L2.CX l.prog w) 7 "many_steps" ["weights", "step"] (sp_manyT K CT) := D14.cal (ok_manyT TT D14.fn AT CA TgT CO FL)
  have IL : Cal l.prog w K mg base (L2.CX l.prog w) 8 "aims" ["weights", "step"] (sp_aimsL K CT) := D15.cal (ok_aimsL D15.fn ML TgL CO CTm)
  have IT : Cal l.prog w K mg base (L2.CX l.prog w) 8 "aims" ["weights", "step"] (sp_aimsT K CT) := D15.cal (ok_aimsT D15.fn MT TgT CO CTm)
  have CMi : Cal l.prog w K mg base CX0 5 "minus" ["one", "other"] (sp_minus K) := D4.cal (ok_minus D4.fn C4)
  have CL : Cal l.prog w K mg base CX0 1 "is_less" ["one", "other"] (sp_is_less K) := D8.cal (ok_is_less D8.fn)
  have msum := PySem.W.mg_none_of X G z_sum
  have mz := PySem.W.mg_none_of X G z_zip
  have MX : Cal l.prog w K mg base CX0 7 "many_steps" ["weights", "step"] (sp_manyX K) := D14.cal (ok_manyX (ok_manyL TT D14.fn AL CA TgL CO FL) (ok_manyT TT D14.fn AT CA TgT CO FL))
  have IX : Cal l.prog w K mg base CX0 8 "aims" ["weights", "step"] (sp_aimsX K) := D15.cal (ok_aimsX (ok_aimsL D15.fn ML TgL CO CTm) (ok_aimsT D15.fn MT TgT CO CTm))
  have TgX : Cal l.prog w K mg base CX0 6 "together" ["ones"] (sp_togX K) := D7.cal (ok_togX (ok_togL (PySem.W.mg_of X G gc0) t0 D7.fn CP) (ok_togT (PySem.W.mg_of X G gc0) t0 D7.fn CP))
  have AB : Cal l.prog w K mg base CX0 6 "above_floor" ["one"] (sp_above K) := D13.cal (ok_above D13.fn FL CMi)
  have MO : Cal l.prog w K mg base CX0 9 "how_many_more" ["weights", "step"] (sp_more K) := D16.cal (ok_more msum D16.fn FL IX MX)
  have SO : Cal l.prog w K mg base CX0 2 "is_sooner" ["aboves", "one", "other"] (sp_sooner K) := D17.cal (ok_sooner D17.fn CL)
  have AS : Cal l.prog w K mg base CX0 3 "are_sooner" ["aboves", "place"] (sp_aresooner K) := D18.cal (ok_aresooner M D18.fn SO)
  have NE : Cal l.prog w K mg base CX0 10 "nearest" ["weights", "step"] (sp_nearest K) := D19.cal (ok_nearest M D19.fn FL AB IX MO AS)
  have WO : Cal l.prog w K mg base CX0 9 "worst_of" ["weights", "step", "counted"] (sp_worst K) := D20.cal (ok_worst M mz (PySem.W.mg_of X G gc0) t0 D20.fn IX CMi CL)
  have RO : Cal l.prog w K mg base CX0 11 "rounded" ["weights", "step"] (sp_rounded K) := D21.cal (ok_rounded D21.fn NE TgX MX CTm CMi WO)
  have t1 : ∀ H, SqT K H kc1 [.int 1, .int 1] := fun H => .inr ⟨_, _, _, lc1, rfl, rfl, (by show 2 ≤ sizeLine; decide), .cons ⟨_, rfl⟩ (.cons ⟨_, rfl⟩ .nil)⟩
  have PA_ : Cal l.prog w K mg base CX0 9 "paper" ["weights", "step", "bound"] (sp_paper K) := D22.cal (ok_paper M (PySem.W.mg_none_of X G z_enumerate) (PySem.W.mg_of X G gc1) t1 D22.fn AB IX CMi CL)
  have PL : Cal l.prog w K mg base CX0 2 "are_places" ["thing"] (sp_places K) := D23.cal (ok_places M Mx ml D23.fn CW)
  have LI : Cal l.prog w K mg base CX0 3 "is_like_a_paper" ["thing"] (sp_like K) := D24.cal (ok_like M Mx D24.fn PL)
  have SH : Cal l.prog w K mg base CX0 10 "shows" ["weights", "step", "bound", "thing"] (sp_shows K) := D25.cal (ok_shows M (PySem.W.mg_none_of X G z_any) D25.fn PA_ LI MO)
  have B1 : Cal l.prog w K mg base CX0 1 "_law_cell" ["_law_script", "_law_k"] (sp_cell K) := D26.cal (ok_cell M D26.fn)
  have B2 : Cal l.prog w K mg base CX0 1 "_law_pot" ["_law_cell_here"] sp_pot := D27.cal (ok_pot M D27.fn)
  have B3 : Cal l.prog w K mg base CX0 1 "_law_draw" ["_law_pot_here", "_law_many_here"] sp_draw := D28.cal (ok_draw M D28.fn)
  have B4 : Cal l.prog w K mg base CX0 1 "_law_low" ["_law_top", "_law_bottom"] sp_low := D29.cal (ok_low M D29.fn)
  have B5 : Cal l.prog w K mg base CX0 2 "_law_sum" ["_law_one", "_law_other"] (sp_plus K) := D30.cal (ok_lsum D30.fn B4)
  have B6 : Cal l.prog w K mg base CX0 3 "_law_total" ["_law_some"] (sp_togL K) := D31.cal (ok_ltotal D31.fn B5)
  have B7 : Cal l.prog w K mg base CX0 2 "_law_whole_some" ["_law_pot_here"] (sp_wsome K) := D32.cal (ok_wsome D32.fn B3 B4)
  have B8 : Cal l.prog w K mg base CX0 3 "_law_weights" ["_law_pot_here", "_law_most"] (sp_weights K) := D33.cal (ok_weights M D33.fn B3 B4 B7)
  have B9 : Cal l.prog w K mg base CX0 4 "_law_step" ["_law_pot_here", "_law_weights_here"] (sp_step K) := D34.cal (ok_step M D34.fn B3 B4 B7 B6)
  have B10 : Cal l.prog w K mg base CX0 4 "_law_many" ["_law_weights_here", "_law_step_here"] (sp_lmany K) := D35.cal (ok_lmany D35.fn B6)
  have B12 : Cal l.prog w K mg base CX0 5 "_law_fit_step" ["_law_pot_here", "_law_weights_here"] (sp_fit K) := D36.cal (ok_fit D36.fn B9 B10)
  have B13 : Cal l.prog w K mg base CX0 1 "_law_less" ["_law_one", "_law_other"] (sp_is_less K) := D37.cal (ok_lless D37.fn)
  have B14 : Cal l.prog w K mg base CX0 2 "_law_bound" ["_law_pot_here"] (sp_bound K) := D38.cal (ok_bound M D38.fn B3 B4)
  have B15 : Cal l.prog w K mg base CX0 2 "_law_odd_list" ["_law_pot_here", "_law_some"] (sp_oddl K) := D39.cal (ok_oddl M Mx D39.fn B3)
  have B16 : Cal l.prog w K mg base CX0 3 "_law_odd" ["_law_pot_here", "_law_told"] (sp_odd K) := D40.cal (ok_odd M ml D40.fn B3 B15)
  have B17 : Cal l.prog w K mg base CX0 12 "_law_right" ["_law_pot_here", "_law_weights_here", "_law_step_here", "_law_bound_here", "_law_worst"] (sp_right K) := D41.cal (ok_right M ml D41.fn B13 B16 PA_ SH)
  exact ok_law M ml D42.fn B1 B2 B8 B12 RO B14 B17
end Lf

set_option Elab.async false
set_option linter.all false
set_option maxRecDepth 100000
open PySem PySem.W PyProof.Rows
set_option maxHeartbeats 0 in
theorem PySem.Challenge.cw_loafshares_k55_whole_papers_show_holds : PySem.Challenge.rw_loafshares_k55_whole_papers_show.Holds := by
  w_on; o_law; k_head; (case hw => w_witness2)
  k_fill
  refine Lf.walkG (l := PySem.Challenge.rw_loafshares_k55_whole_papers_show) (n := 63) (k := 13) (x := "_law_script") (sp := Lf.sp_law) rfl (by decide) rfl ⟨rfl, by decide, by decide⟩ (fun w h Y => PySem.W.kIn_of Y) ?F (fun K H a ns hl _ hS => ⟨a, ns, rfl, hS, hl, fun _ => rfl⟩)
  case F =>
    intro w mg fa h KX G hmg
    refine' Lf.all_mk KX G hmg ?aC ?xC ?kC ?bC ?tC ?iC ?sC ?a0 ?l0 ?c0 ?k0 ?a1 ?l1 ?c1 ?k1 ?a2 ?l2 ?c2 ?k2 ?a3 ?l3 ?c3 ?k3 ?a4 ?l4 ?c4 ?k4 ?a5 ?l5 ?c5 ?k5 ?a6 ?l6 ?c6 ?k6 ?a7 ?l7 ?c7 ?k7 ?a8 ?l8 ?c8 ?k8 ?a9 ?l9 ?c9 ?k9 ?a10 ?l10 ?c10 ?k10 ?a11 ?l11 ?c11 ?k11 ?a12 ?l12 ?c12 ?k12 ?a13 ?l13 ?c13 ?k13 ?a14 ?l14 ?c14 ?k14 ?a15 ?l15 ?c15 ?k15 ?a16 ?l16 ?c16 ?k16 ?a17 ?l17 ?c17 ?k17 ?a18 ?l18 ?c18 ?k18 ?a19 ?l19 ?c19 ?k19 ?a20 ?l20 ?c20 ?k20 ?a21 ?l21 ?c21 ?k21 ?a22 ?l22 ?c22 ?k22 ?a23 ?l23 ?c23 ?k23 ?a24 ?l24 ?c24 ?k24 ?a25 ?l25 ?c25 ?k25 ?a26 ?l26 ?c26 ?k26 ?a27 ?l27 ?c27 ?k27 ?a28 ?l28 ?c28 ?k28 ?a29 ?l29 ?c29 ?k29 ?a30 ?l30 ?c30 ?k30 ?a31 ?l31 ?c31 ?k31 ?a32 ?l32 ?c32 ?k32 ?a33 ?l33 ?c33 ?k33 ?a34 ?l34 ?c34 ?k34 ?a35 ?l35 ?c35 ?k35 ?a36 ?l36 ?c36 ?k36 ?a37 ?l37 ?c37 ?k37 ?a38 ?l38 ?c38 ?k38 ?a39 ?l39 ?c39 ?k39 ?a40 ?l40 ?c40 ?k40 ?a41 ?l41 ?c41 ?k41 ?a42 ?l42 ?c42 ?k42 ?z_abs ?z_len ?z_max ?z_min ?z_divmod ?z_repr ?z_all ?z_int ?z_str ?z_range ?z_isinstance ?z_bool ?z_tuple ?z_list ?z_sum ?z_zip ?z_enumerate ?z_any ?g_MOST_WEIGHTS ?gT ?xT ?kT ?bT ?tT ?iT ?sT ?gc0 ?lc0 ?gc1 ?lc1
    (case aC => k_is); (case xC => k_exc); (case kC => k_is); (case bC => k_is); (case tC => k_is); (case iC => k_is); (case sC => first | rfl | k_is)
    (case a0 => k_is); (case l0 => k_is); (case c0 => k_is); (case k0 => k_is)
    (case a1 => k_is); (case l1 => k_is); (case c1 => k_is); (case k1 => k_is)
    (case a2 => k_is); (case l2 => k_is); (case c2 => k_is); (case k2 => k_is)
    (case a3 => k_is); (case l3 => k_is); (case c3 => k_is); (case k3 => k_is)
    (case a4 => k_is); (case l4 => k_is); (case c4 => k_is); (case k4 => k_is)
    (case a5 => k_is); (case l5 => k_is); (case c5 => k_is); (case k5 => k_is)
    (case a6 => k_is); (case l6 => k_is); (case c6 => k_is); (case k6 => k_is)
    (case a7 => k_is); (case l7 => k_is); (case c7 => k_is); (case k7 => k_is)
    (case a8 => k_is); (case l8 => k_is); (case c8 => k_is); (case k8 => k_is)
    (case a9 => k_is); (case l9 => k_is); (case c9 => k_is); (case k9 => k_is)
    (case a10 => k_is); (case l10 => k_is); (case c10 => k_is); (case k10 => k_is)
    (case a11 => k_is); (case l11 => k_is); (case c11 => k_is); (case k11 => k_is)
    (case a12 => k_is); (case l12 => k_is); (case c12 => k_is); (case k12 => k_is)
    (case a13 => k_is); (case l13 => k_is); (case c13 => k_is); (case k13 => k_is)
    (case a14 => k_is); (case l14 => k_is); (case c14 => k_is); (case k14 => k_is)
    (case a15 => k_is); (case l15 => k_is); (case c15 => k_is); (case k15 => k_is)
    (case a16 => k_is); (case l16 => k_is); (case c16 => k_is); (case k16 => k_is)
    (case a17 => k_is); (case l17 => k_is); (case c17 => k_is); (case k17 => k_is)
    (case a18 => k_is); (case l18 => k_is); (case c18 => k_is); (case k18 => k_is)
    (case a19 => k_is); (case l19 => k_is); (case c19 => k_is); (case k19 => k_is)
    (case a20 => k_is); (case l20 => k_is); (case c20 => k_is); (case k20 => k_is)
    (case a21 => k_is); (case l21 => k_is); (case c21 => k_is); (case k21 => k_is)
    (case a22 => k_is); (case l22 => k_is); (case c22 => k_is); (case k22 => k_is)
    (case a23 => k_is); (case l23 => k_is); (case c23 => k_is); (case k23 => k_is)
    (case a24 => k_is); (case l24 => k_is); (case c24 => k_is); (case k24 => k_is)
    (case a25 => k_is); (case l25 => k_is); (case c25 => k_is); (case k25 => k_is)
    (case a26 => k_is); (case l26 => k_is); (case c26 => k_is); (case k26 => k_is)
    (case a27 => k_is); (case l27 => k_is); (case c27 => k_is); (case k27 => k_is)
    (case a28 => k_is); (case l28 => k_is); (case c28 => k_is); (case k28 => k_is)
    (case a29 => k_is); (case l29 => k_is); (case c29 => k_is); (case k29 => k_is)
    (case a30 => k_is); (case l30 => k_is); (case c30 => k_is); (case k30 => k_is)
    (case a31 => k_is); (case l31 => k_is); (case c31 => k_is); (case k31 => k_is)
    (case a32 => k_is); (case l32 => k_is); (case c32 => k_is); (case k32 => k_is)
    (case a33 => k_is); (case l33 => k_is); (case c33 => k_is); (case k33 => k_is)
    (case a34 => k_is); (case l34 => k_is); (case c34 => k_is); (case k34 => k_is)
    (case a35 => k_is); (case l35 => k_is); (case c35 => k_is); (case k35 => k_is)
    (case a36 => k_is); (case l36 => k_is); (case c36 => k_is); (case k36 => k_is)
    (case a37 => k_is); (case l37 => k_is); (case c37 => k_is); (case k37 => k_is)
    (case a38 => k_is); (case l38 => k_is); (case c38 => k_is); (case k38 => k_is)
    (case a39 => k_is); (case l39 => k_is); (case c39 => k_is); (case k39 => k_is)
    (case a40 => k_is); (case l40 => k_is); (case c40 => k_is); (case k40 => k_is)
    (case a41 => k_is); (case l41 => k_is); (case c41 => k_is); (case k41 => k_is)
    (case a42 => k_is); (case l42 => k_is); (case c42 => k_is); (case k42 => k_is)
    (case z_abs => k_is); (case z_len => k_is); (case z_max => k_is); (case z_min => k_is); (case z_divmod => k_is); (case z_repr => k_is); (case z_all => k_is); (case z_int => k_is); (case z_str => k_is); (case z_range => k_is); (case z_isinstance => k_is); (case z_bool => k_is); (case z_tuple => k_is); (case z_list => k_is); (case z_sum => k_is); (case z_zip => k_is); (case z_enumerate => k_is); (case z_any => k_is); (case g_MOST_WEIGHTS => k_is)
    (case gT => k_is)
    (case xT => k_exc)
    (case kT => k_is)
    (case bT => k_is)
    (case tT => k_is)
    (case iT => k_is)
    (case sT => first | rfl | k_is)
    (case gc0 => k_is)
    (case lc0 => k_is)
    (case gc1 => k_is)
    (case lc1 => k_is)
