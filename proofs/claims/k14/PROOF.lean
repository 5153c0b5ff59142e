import PyProof.Rows.All
import Wide.All
import OpenK.AllK
import Wide.FinOn
import HandS.ForExc
import HandS.Comp
import HandS.Wide
import HandS.FStr
import HandS.IsInst
import HandS.Dict
import KE.KExcSuper
import HandS.Nested
import HandS.ExcInit
import HandS.Defaults
import HandS.MakeKw
import KE.KIsAll
import KE.KExcIs
import KE.KTryMore
import HandS.Base
import HandS.Call
import HandS.Exc
import HandS.ExcIs
import HandS.ExcField
import HandS.ExcOwn
import HandS.CallLocal
import HandS.WideBits
import HandS.Text
import HandS.Steps
import HandS.Walk
import HandS.Deep
import HandS.Zip
import PyProof.StrOps2
import PySem.Challenge.RW_loafshares_k14_whole_no_stuffs
set_option Elab.async false
set_option linter.all false
set_option maxRecDepth 100000
set_option maxHeartbeats 4000000
/-! Defs that show data by repr: the promise FnG holds where nothing is being shown (no guard stands), as it is behind a law's call. -/
namespace Lf
open PySem PySem.Spec PyProof.Rows L2
/-- a def's promise where no guard stands -/
structure FnG (P : Program) (w : World) (K : PySem.W.Frag) (mg : Str → Option Value) (base : Heap) (CX : CXT) (k : Nat) (f : Addr) (fd : FuncData) (ps : List Str) (sp : Sp) : Prop where
  size : ∀ vs H Q E, sp vs H Q E → vs.length = ps.length
  goes : ∀ (B : Around) (out : List Env) (s : Shared) (H : Hp) (ar : Args) (us : List Value) (vs : List V) (Q : VK) (E : XK),
    Room k B → B.guards = some [] → Env0 P w K mg base B out s H → BindsTo s fd ar (ps.zip us) → Vals vs us → sp vs H Q E →
      codeAny (model P w) B (.call (.ref f) ar) (CR CX out P w H s Q E) s
section
variable {P : Program} {w : World} {K : PySem.W.Frag} {mg : Str → Option Value} {base : Heap} {CX : CXT} {k : Nat} {f : Addr} {fd : FuncData} {ps : List Str} {sp : Sp}
theorem FnG.mono {j : Nat} (F : FnG P w K mg base CX j f fd ps sp) (h : j ≤ k) : FnG P w K mg base CX k f fd ps sp :=
  ⟨F.size, fun B out s H ar us vs Q E r => F.goes B out s H ar us vs Q E (r.mono h)⟩
theorem FnG.of (F : FnOk P w K mg base CX k f fd ps sp) : FnG P w K mg base CX k f fd ps sp :=
  ⟨F.len, fun B out s H ar us vs Q E r _ => F.run B out s H ar us vs Q E r⟩
/-- by its body: behind the entry no guard stands either -/
theorem GfunX {x qual : Str} {st : Stmt} {N : List Str} (F : Fun K x qual st f fd) (S : FnScope N ps (defScope st)) (size : ∀ vs H Q E, sp vs H Q E → vs.length = ps.length)
    (body : ∀ (cdv : Value) (B : Around) (out : List Env) (s : Shared) (H : Hp) (vs : List V) (Q : VK) (E : XK), B.guards = some [] →
      Room k (B.deeper (envOfC qual (defScope st) s.heap.objs.size f cdv)) → sp vs H Q E →
      ∃ t, PSs (cxOf CX P w K mg base N qual (defScope st) f cdv B out s H E) (defBody st) t ∧
        t { nx := fun _ H' => Q .non H', rt := Q } (start N vs) H) : FnG P w K mg base CX (k + 1) f fd ps sp := by
  obtain ⟨oc, od, kV, doc, pm, an, cdv, ct, osl, rfl, lk, hcd⟩ := F.ex
  refine ⟨size, fun B out s H ar us vs Q E hr hg e0 hb r hs => ?_⟩
  have old : ∀ b o, base.get? b = some o → s.heap.get? b = some o := fun b o e => (e0.bs b o e).1
  have kin : K.In s.heap := e0.mod.kin.keeps old
  refine codeAny_call_function hr.depth (kin _ _ lk) rfl S.co S.gen rfl (PySem.W.codeRec_of kin hcd) (hb _ _ _ _ ?_)
  refine wpAny_newFunctionEnv_cells S.kind (fun ⟨n, v⟩ hy => ?_) fun env he s1 x => ?_
  · rcases S.par n (List.of_mem_zip hy).1 with q | q
    · exact Or.inl q
    · exact Or.inr ⟨q, PySem.W.cellsFrom_some _ _ _ (Or.inl q)⟩
  · subst he
    refine ⟨(e0.mod.nolimit.keeps old).keeps x.toInCall.keep, codeAny_func ?_⟩
    obtain ⟨t, ht, hq⟩ := body cdv B out s H vs Q E hg (hr.deeper _) hs
    have I := inv_start (CX := CX) (N := N) (qual := qual) (cd := cdv) (E := E) S hr.hd e0 (size _ _ _ _ hs) r x
    refine wpAny_mono (ht.run [] s1 (start N vs) H _ I hq) (fun fl s' hs' => ?_) fun e s' z => z
    cases fl with
    | ret u =>
      obtain ⟨v, σ', H', J, rv, q⟩ := hs'
      exact ⟨v, H', J.os, J.bare, J.base, J.hok, rv, q⟩
    | next =>
      obtain ⟨σ', H', J, q⟩ := hs'
      exact ⟨V.non, H', J.os, J.bare, J.base, J.hok, rfl, q⟩
    | brk =>
      obtain ⟨_, _, _, q⟩ := hs'
      exact q.elim
    | cont =>
      obtain ⟨_, _, _, q⟩ := hs'
      exact q.elim
theorem Gfun {x qual : Str} {st : Stmt} {N : List Str} (F : Fun K x qual st f fd) (S : FnScope N ps (defScope st)) (size : ∀ vs H Q E, sp vs H Q E → vs.length = ps.length)
    (body : ∀ (cdv : Value) (B : Around) (out : List Env) (s : Shared) (H : Hp) (vs : List V) (Q : VK) (E : XK), B.guards = some [] →
      Room k (B.deeper (envOfC qual (defScope st) s.heap.objs.size f cdv)) → sp vs H Q E →
      ∃ t, PSs (cxOf CX0 P w K mg base N qual (defScope st) f cdv B out s H E).nox (defBody st) t ∧
        t { nx := fun _ H' => Q .non H', rt := Q } (start N vs) H) : FnG P w K mg base CX0 (k + 1) f fd ps sp :=
  GfunX F S size fun cdv B out s H vs Q E hg hr hs => by
    obtain ⟨t, ht, hq⟩ := body cdv B out s H vs Q E hg hr hs
    exact ⟨t, ht.nox, hq⟩
end
/-- a def of the module's name x that keeps sp, by level k -/
structure Cal (P : Program) (w : World) (K : PySem.W.Frag) (mg : Str → Option Value) (base : Heap) (CX : CXT) (k : Nat) (x : Str) (ps : List Str) (sp : Sp) : Prop where
  ex : ∃ (f : Addr) (fd : FuncData), FnG P w K mg base CX k f fd ps sp ∧ (∀ (s : Shared) (us : List Value), us.length = ps.length → BindsTo s fd ⟨us, []⟩ (ps.zip us)) ∧
    (∀ (s : Shared) (us : List Value), us.length = ps.length → BindsTo s fd ⟨[], ps.zip us⟩ (ps.zip us)) ∧
    (∀ (s : Shared) (us : List Value), us.length = ps.length → BindsTo s fd ⟨[], ps.reverse.zip us⟩ (ps.zip us.reverse)) ∧ mg x = some (.ref f) ∧ PySem.W.keepIn K (.ref f) = true
theorem paired_rev {α β : Type} {R : α → β → Prop} : ∀ {xs : List α} {ys : List β}, Paired R xs ys → Paired R xs.reverse ys.reverse := by
  have app : ∀ {xs : List α} {ys : List β} {x : α} {y : β}, Paired R xs ys → R x y → Paired R (xs ++ [x]) (ys ++ [y]) := by
    intro xs ys x y h r
    induction h with
    | nil => exact .cons r .nil
    | cons q _ ih => exact .cons q ih
  intro xs ys h
  induction h with
  | nil => exact .nil
  | cons r _ ih =>
    rw [List.reverse_cons, List.reverse_cons]
    exact app ih r
section
variable {X : Cx} {CX : CXT} {k i : Nat} {f : Addr} {fd : FuncData} {ps : List Str} {sp : Sp} {x : Str} {p pos : Pos} {e : Expr} {es : List Expr} {kws : List Keyword} {t : TA}
/-- what is raised is wished for at the caller's slots -/
theorem run_g {pins : List (Addr × Obj)} {σ : L2.St} {H : Hp} {s : Shared} {Q : VK} {us : List Value} {vs : List V} {ar : Args} {E : XK} (F : FnG X.prog X.w X.K X.mg X.base CX k f fd ps sp) (hr : Room k X.A) (hG : X.A.guards = some [])
    (hx : PassesAt CX X σ E) (I : Inv X pins σ H s) (hb : BindsTo s fd ar (ps.zip us)) (r : Vals vs us) (h : sp vs H Q E) : wpAny (model X.prog X.w) X.A (call (.ref f) ar.pos ar.kw) (EP X pins σ Q) X.xe s := by
  refine wpAny_call (codeAny_mono (F.goes X.A X.stack s H ar us vs Q E hr hG I.env0 hb r h) fun z s' hq => ?_)
  cases z with
  | error e => exact hx pins H s e s' I hq
  | ok fl =>
    cases fl with
    | ret u => exact I.after hq
    | next => exact False.elim hq
    | brk => exact False.elim hq
    | cont => exact False.elim hq
/-- f(e, ..); E: what is wished of an exception at the slots -/
def tG (sp : Sp) (E : L2.St → XK) (t : TA) : TE := fun σ H Q => t σ H fun vs H1 => sp vs H1 Q (E σ)
theorem pe_gS {E : L2.St → XK} (C : Cal X.prog X.w X.K X.mg X.base CX k x ps sp) (hr : Room k X.A) (hG : X.A.guards = some []) (hx : ∀ σ, PassesAt CX X σ (E σ)) (ha : PA X (e :: es) t) (hg : Gl X x := by rfl)
    (hdb : (x == ("__debug__" : Str)) = false := by decide) (he : starEach (e :: es) X.env = (false, eval e X.env) :: starEach es X.env := by rfl)
    (hpl : (backTo pos (starEach es X.env)).any (·.1) = false := by rfl) : PE X (.Call (.Name x p) (e :: es) [] pos) (tG sp E t) := by
  obtain ⟨f, fd, F, hb, _, _, hm, hk⟩ := C.ex
  refine ⟨fun pins s σ H Q I h => wpAny_Call_Name_kw (ld_glob I hg hm (PySem.W.callWith_K (h₀ := X.base) I.ok.mod.kin hk
    (thn (ha.run pos pins s σ H _ I h) fun us s1 ⟨vs, H1, I1, r, q⟩ => ⟨I1.kIn, ?_⟩) he hpl) hdb)⟩
  exact run_g (ar := ⟨us, []⟩) F hr hG (hx σ) I1 (hb s1 us (r.length.symm.trans (F.size _ _ _ _ q))) r q
theorem pass_no {σ : L2.St} : PassesAt CX0 X σ E0 := fun _ _ _ _ _ _ z => z.elim
theorem pe_g (C : Cal X.prog X.w X.K X.mg X.base CX0 k x ps sp) (hr : Room k X.A) (hG : X.A.guards = some []) (ha : PA X (e :: es) t) (hg : Gl X x := by rfl)
    (hdb : (x == ("__debug__" : Str)) = false := by decide) (he : starEach (e :: es) X.env = (false, eval e X.env) :: starEach es X.env := by rfl)
    (hpl : (backTo pos (starEach es X.env)).any (·.1) = false := by rfl) : PE X (.Call (.Name x p) (e :: es) [] pos) (tG sp (fun _ => E0) t) :=
  pe_gS C hr hG (fun _ => pass_no) ha hg hdb he hpl
/-- f(a = e, ..): all by names, in the parameters' order -/
theorem pe_gk (C : Cal X.prog X.w X.K X.mg X.base CX0 k x ps sp) (hr : Room k X.A) (hG : X.A.guards = some []) (ha : PK X kws t) (hks : (backToKw pos (keywordEach kws X.env)).filterMap (·.1) = ps := by rfl) (hg : Gl X x := by rfl)
    (hall : (backToKw pos (keywordEach kws X.env)).all (·.1.isSome) = true := by rfl) (hdb : (x == ("__debug__" : Str)) = false := by decide)
    (hpl : ((backTo pos (starEach [] X.env)).any (·.1) || (backToKw pos (keywordEach kws X.env)).any (·.1.isNone)) = false := by rfl) : PE X (.Call (.Name x p) [] kws pos) (tG sp (fun _ => E0) t) := by
  obtain ⟨f, fd, F, _, hb, _, hm, hk⟩ := C.ex
  refine ⟨fun pins s σ H Q I h => wpAny_Call_Name_kw (ld_glob I hg hm (PySem.W.callWith_KW0 (h₀ := X.base) I.ok.mod.kin hk hall (thn (ha.run pos pins s σ H _ I h) fun us s1 ⟨vs, H1, I1, r, q⟩ => ⟨I1.kIn, ?_⟩) hpl) hdb)⟩
  rw [hks]
  exact run_g (ar := ⟨[], ps.zip us⟩) F hr hG pass_no I1 (hb s1 us (r.length.symm.trans (F.size _ _ _ _ q))) r q
/-- f(b = e, a = ..): all by names, from the last parameter to the first -/
def tGr (sp : Sp) (t : TA) : TE := fun σ H Q => t σ H fun vs H1 => sp vs.reverse H1 Q E0
theorem pe_gr (C : Cal X.prog X.w X.K X.mg X.base CX0 k x ps sp) (hr : Room k X.A) (hG : X.A.guards = some []) (ha : PK X kws t) (hks : (backToKw pos (keywordEach kws X.env)).filterMap (·.1) = ps.reverse := by rfl) (hg : Gl X x := by rfl)
    (hall : (backToKw pos (keywordEach kws X.env)).all (·.1.isSome) = true := by rfl) (hdb : (x == ("__debug__" : Str)) = false := by decide)
    (hpl : ((backTo pos (starEach [] X.env)).any (·.1) || (backToKw pos (keywordEach kws X.env)).any (·.1.isNone)) = false := by rfl) : PE X (.Call (.Name x p) [] kws pos) (tGr sp t) := by
  obtain ⟨f, fd, F, _, _, hb, hm, hk⟩ := C.ex
  refine ⟨fun pins s σ H Q I h => wpAny_Call_Name_kw (ld_glob I hg hm (PySem.W.callWith_KW0 (h₀ := X.base) I.ok.mod.kin hk hall (thn (ha.run pos pins s σ H _ I h) fun us s1 ⟨vs, H1, I1, r, q⟩ => ⟨I1.kIn, ?_⟩) hpl) hdb)⟩
  rw [hks]
  have hl : us.length = ps.length := r.length.symm.trans ((List.length_reverse (as := vs)).symm.trans (F.size _ _ _ _ q))
  exact run_g (ar := ⟨[], ps.reverse.zip us⟩) (us := us.reverse) (vs := vs.reverse) F hr hG pass_no I1 (hb s1 us hl) (paired_rev r) q
/-- d(e, ..) where the i-th slot holds the def of the module's name y -/
def tGl (i : Nat) (mg : Str → Option Value) (y : Str) (sp : Sp) (E : L2.St → XK) (t : TA) : TE := fun σ H Q => ∃ f, mg y = some (.ref f) ∧ σ[i]? = some (some (.ref f)) ∧ t σ H fun vs H1 => sp vs H1 Q (E σ)
theorem pe_gl {E : L2.St → XK} {y : Str} (C : Cal X.prog X.w X.K X.mg X.base CX k y ps sp) (hr : Room k X.A) (hG : X.A.guards = some []) (hx : ∀ σ, PassesAt CX X σ (E σ)) (ha : PA X (e :: es) t) (hN : X.N[i]? = some x := by rfl)
    (hv : Vis X.env.scope x := by first | exact Or.inl rfl | exact Or.inr (Or.inl rfl) | exact Or.inr (Or.inr rfl))
    (hdb : (x == ("__debug__" : Str)) = false := by decide) (hcd : (x == ("__classdict__" : Str)) = false := by decide) (he : starEach (e :: es) X.env = (false, eval e X.env) :: starEach es X.env := by rfl)
    (hpl : (backTo pos (starEach es X.env)).any (·.1) = false := by rfl) : PE X (.Call (.Name x p) (e :: es) [] pos) (tGl i X.mg y sp E t) := by
  obtain ⟨f, fd, F, hb, _, _, hm, hk⟩ := C.ex
  refine ⟨fun pins s σ H Q I h => ?_⟩
  obtain ⟨f', hf', hs, ht⟩ := h
  obtain rfl : f' = f := by
    rw [hm] at hf'
    cases hf'
    rfl
  refine wpAny_Call_Name_kw (thn ((pe_var (pos := p) hN hv hdb hcd).run pins s σ H (fun v H1 => v = .ref f' ∧ H1 = H) I ⟨.ref f', hs, rfl, rfl⟩) fun u s1 ⟨v, H1, I1, r1, q1⟩ => ?_)
  obtain ⟨rfl, rfl⟩ := q1
  cases r1
  refine PySem.W.callWith_K (h₀ := X.base) I.ok.mod.kin hk (thn (ha.run pos pins s1 σ _ _ I1 ht) fun us s2 ⟨vs, H2, I2, r, q⟩ => ⟨I2.kIn, ?_⟩) he hpl
  exact run_g (ar := ⟨us, []⟩) F hr hG (hx σ) I2 (hb s2 us (r.length.symm.trans (F.size _ _ _ _ q))) r q
end
/-! ### repr of data -/
section
variable {X : Cx}
def rShow (K : PySem.W.Frag) : List V → Hp → VK → Prop := fun xs H Q => ∃ (a : Addr) (d : PyData), xs = [.ref a] ∧ Dp K H (.ref a) d ∧
  d.showable = true ∧ d.hasDict = false ∧ d.depth ≤ 30 ∧ d.shown.length ≤ sizeLine ∧ Q (.str d.shown) H
theorem call_show (hG : X.A.guards = some []) {k : Nat} (hr : Room k X.A) : CallR X (.builtin "repr") (rShow X.K) := by
  intro pins s σ H xs us Q I r h
  obtain ⟨a, d, rfl, hd, hs, hn, h30, hz, q⟩ := h
  cases r with
  | cons r1 r2 =>
    cases r2
    obtain ⟨as, rd⟩ := Dp.reads I d _ _ hd r1
    cases r1
    have hu := hr.units
    exact repr_of_reads' rd hs (PyData.noDict_hsm hn) hG (by omega) (fun _ _ z => z) (fun h' u tk hk => ⟨.str d.shown, H, I.kept hk, ⟨u, rfl⟩, q⟩) hz
/-- // by any divisor but 0 -/
def CDivN (_ j : Int) : Prop := j ≠ 0 ∧ j.natAbs.log2 < 9000
theorem op_fdivN : OpR X (binaryOp .FloorDiv) (rI CDivN fun i j => .int (i.fdiv j)) := opI fun i j _ _ _ _ _ hc q =>
  floordiv_int hc.1 q (.inl (PyProof.noPylong_of_log2 hc.2))
end
/-! ### the end of a law's row -/
theorem at_caller {P : Program} {w : World} {K : PySem.W.Frag} {mg mb : Str → Option Value} {k : Nat} {fa a : Addr} {fd : FuncData} {x : Str} {sp : Sp} {s : Shared} {us : List Value} {ns : List Int}
    (KX : K.In s.heap) (hns : s.heap.Ns mainGlobals mg) (hb : s.heap.Ns builtinsNs mb) (hbb : ∀ x : Str, x ≠ "__name__" → mb x = bootBuiltins x) (hlim : s.heap.NoLimit) (hgen : s.gens = #[])
    (ha : s.heap.get? a = some { cls := .type "list", data := .seq us.toArray }) (hi : IntsAre us ns) (hl : ns.length ≤ sizeLine) (hr : Room k callerA)
    (F : ∀ base : Heap, K.In base → base.Ns mainGlobals mg → FnG P w K mg base CX0 k fa fd [x] sp) (hbind : ∀ (s : Shared) (u : Value), BindsTo s fd ⟨[u], []⟩ [(x, u)])
    (hsp : ∀ H : Hp, Only H → SqL K H a (ns.map V.int) → sp [.ref a] H (fun v _ => v = .bl true) E0) :
    codeAny (model P w) callerA (.call (.ref fa) ⟨[.ref a], []⟩) (fun r s' => r = .ok (.ret (.bool true)) ∧ OldK s.heap s'.heap ∧ s'.os = s.os ∧ AllBare s'.gens) s := by
  -- from a heap that tracks at most the script
  have go : ∀ H : Hp, Only H → SqL K H a (ns.map V.int) → HOk P w H s.heap → (∀ b, H b ≠ none → b = a) → (H a ≠ none → K.lookup a = none) →
      codeAny (model P w) callerA (.call (.ref fa) ⟨[.ref a], []⟩) (fun r s' => r = .ok (.ret (.bool true)) ∧ OldK s.heap s'.heap ∧ s'.os = s.os ∧ AllBare s'.gens) s := by
    intro H only sq hok one key
    have keep : ∀ {b : Addr} {o : Obj}, s.heap.get? b = some o → (∀ vs n, o.data ≠ .seq vs n) → (hidT s.heap H).get? b = some o := by
      intro b o e hd
      refine hidT_get e ?_
      cases q : H b with
      | none => rfl
      | some u =>
        obtain rfl : b = a := one b (by rw [q]; exact fun z => nomatch z)
        rw [ha] at e
        cases e
        exact absurd rfl (hd _ _)
    have names : ∀ {b : Addr} {m : Str → Option Value}, s.heap.Ns b m → (hidT s.heap H).Ns b m := by
      rintro b m ⟨o, es, ep, e, d, r⟩
      exact ⟨o, es, ep, keep e (fun vs n z => by rw [d] at z; cases z), d, r⟩
    have kin : K.In (hidT s.heap H) := by
      intro b o e
      refine hidT_get (KX b o e) ?_
      cases q : H b with
      | none => rfl
      | some u =>
        have nn : H b ≠ none := by rw [q]; exact fun z => nomatch z
        obtain rfl : b = a := one b nn
        rw [key nn] at e
        cases e
    have md : Mod K mg (hidT s.heap H) := ⟨kin, names hns, ⟨mb, names hb, hbb⟩, by obtain ⟨mc, h1, h2⟩ := hlim; exact ⟨mc, names h1, h2⟩⟩
    have none_in : ∀ b : Addr, b ∉ frs [] := fun b z => absurd (show b ∈ ([] : List Addr) from z) (by simp)
    have e0 : Env0 P w K mg (hidT s.heap H) callerA [] s H := { frames := rfl, mod := md, bs := fun b o e => of_hidT e, bsz := Nat.le_of_eq (hidT_size _ _), funs := trivial, frf := fun b z => absurd z (none_in b), hok := hok, bare := .of_eq hgen }
    refine codeAny_mono ((F _ kin (names hns)).goes callerA [] s H ⟨[.ref a], []⟩ [.ref a] [.ref a] _ _ hr rfl e0 (hbind s (.ref a)) (.cons rfl .nil) (hsp H only sq)) fun r s' h => ?_
    cases r with
    | error e => exact False.elim h
    | ok fl =>
      cases fl with
      | next => exact False.elim h
      | brk => exact False.elim h
      | cont => exact False.elim h
      | ret u =>
        obtain ⟨v, H', os, bare, un, hok', rv, q⟩ := h
        obtain rfl : v = .bl true := q
        obtain rfl : u = Value.bool true := rv
        refine ⟨rfl, OldK.of_keep fun b o e => ?_, os, bare⟩
        cases q : H b with
        | none => exact un.keep b o e q (none_in b) (by simp)
        | some y =>
          rcases only b with z | ⟨ob, xs, z⟩
          · rw [q] at z
            cases z
          · obtain ⟨e1, _⟩ := hok b _ z
            obtain ⟨e2, _⟩ := hok' b _ (un.frzs b ob _ z)
            rw [e] at e1
            cases e1
            exact e2
  have rv := vals_ints hi
  cases hk : K.lookup a with
  | some o =>
    have e := KX a o hk
    rw [ha] at e
    cases e
    exact go (fun _ => none) (fun _ => Or.inl rfl) (Or.inr ⟨_, us.toArray, _, hk, rfl, rfl, rfl, by rw [List.size_toArray, hi.length]; exact hl, by simpa using rv⟩)
      (fun b u z => by cases (show (none : Option HO) = some u from z)) (fun b z => absurd rfl z) (fun z => absurd rfl z)
  | none =>
    refine go (fun b => if b = a then some (.frz { cls := .type "list", data := .seq us.toArray } (.lst (ns.map V.int))) else none) ?_ (Or.inl (Or.inr ⟨_, if_pos rfl⟩)) ?_ ?_ (fun _ => hk)
    · intro b
      by_cases h : b = a
      · exact Or.inr ⟨_, _, if_pos h⟩
      · exact Or.inl (if_neg h)
    · intro b u z
      by_cases h : b = a
      · cases (if_pos h).symm.trans z
        subst h
        exact ⟨ha, by rw [List.length_map]; exact hl, us, _, rv, ha⟩
      · cases (if_neg h).symm.trans z
    · intro b z
      by_cases h : b = a
      · exact h
      · exact absurd (if_neg h) z
theorem walkG {l : PySem.W.OpenLaw} {n k : Nat} {q : Program} {loose : List Str} {XP : (Str → Option Value) → Heap → Prop} {YP : World → Heap → Prop} {d : DefRec} {K : Params → PySem.W.Frag} {sp : PySem.W.Frag → Sp} {x : Str}
    (hn : l.most = some n) (hn2 : n ≤ sizeLine) (hdf : d.params.defaults = []) (hr : Room k callerA) (hY : ∀ (w : World) (h : Heap), YP w h → (K w.params).In h)
    (F : ∀ (w : World) (mg : Str → Option Value) (fa : Addr) (h : Heap), (K w.params).In h → h.Ns mainGlobals mg → mg d.name = some (.ref fa) →
      ∃ fd : FuncData, (∀ (s : Shared) (u : Value), BindsTo s fd ⟨[u], []⟩ [(x, u)]) ∧ ∀ base : Heap, (K w.params).In base → base.Ns mainGlobals mg → FnG l.prog w (K w.params) mg base CX0 k fa fd [x] (sp (K w.params)))
    (hsp : ∀ (K : PySem.W.Frag) (H : Hp) (a : Addr) (ns : List Int), ns.length ≤ n → Only H → SqL K H a (ns.map V.int) → sp K [.ref a] H (fun v _ => v = .bl true) E0) :
    PySem.W.WalkO q loose XP YP l.row.toRowW d [] (fun f vs => PySem.call f vs) := by
  refine Att.attach_call hn hdf fun w s0 s mg mb fa o pm cd doc a us ns G Y ho hd hcd hmg hobj hints hlen hg => ?_
  obtain ⟨fd, hb, hF⟩ := F w mg fa _ (hY w _ Y) G.T.g hmg
  exact at_caller (hY w _ Y) G.T.g G.T.b G.T.builtins G.T.nolimit hg hobj hints (Nat.le_trans hlen hn2) hr hF hb fun H hO hS => hsp _ H a ns hlen hO hS
end Lf

set_option linter.all false
/-! Lowest terms: plain arithmetic. -/
namespace Lf
/-- the fraction of two whole numbers, d not 0 -/
def low (n d : Int) : Int × Int := ((n * d.sign) / (Nat.gcd n.natAbs d.natAbs : Nat), (d.natAbs : Int) / (Nat.gcd n.natAbs d.natAbs : Nat))
def IsLow (t b : Int) : Prop := 0 < b ∧ Nat.Coprime t.natAbs b.natAbs
theorem gcd_pos {n d : Int} (h : d ≠ 0) : 0 < Nat.gcd n.natAbs d.natAbs := Nat.gcd_pos_of_pos_right _ (by omega)
theorem low_parts {n d : Int} (h : d ≠ 0) : ∃ (u : Int) (v : Nat), n * d.sign = u * (Nat.gcd n.natAbs d.natAbs : Nat) ∧ d.natAbs = v * Nat.gcd n.natAbs d.natAbs ∧ low n d = (u, (v : Int)) ∧ 0 < v ∧ Nat.Coprime u.natAbs v := by
  have hg := gcd_pos (n := n) h
  obtain ⟨v, hv⟩ := Nat.gcd_dvd_right n.natAbs d.natAbs
  obtain ⟨u, hu⟩ : ∃ u : Int, n * d.sign = (Nat.gcd n.natAbs d.natAbs : Nat) * u := by
    obtain ⟨x, hx⟩ := Nat.gcd_dvd_left n.natAbs d.natAbs
    rcases Int.natAbs_eq n with e | e
    · exact ⟨x * d.sign, by rw [← Int.mul_assoc, ← Int.natCast_mul, ← hx, ← e]⟩
    · exact ⟨-(x : Int) * d.sign, by rw [← Int.mul_assoc, Int.mul_neg, ← Int.natCast_mul, ← hx, ← e]⟩
  have hn : n.natAbs = Nat.gcd n.natAbs d.natAbs * u.natAbs := by
    have := congrArg Int.natAbs hu
    rw [Int.natAbs_mul, Int.natAbs_mul, Int.natAbs_sign_of_ne_zero h, Nat.mul_one, Int.natAbs_natCast] at this
    exact this
  have hvp : 0 < v := by
    rcases Nat.eq_zero_or_pos v with e | e
    · rw [e, Nat.mul_zero] at hv
      omega
    · exact e
  have hgi : ((Nat.gcd n.natAbs d.natAbs : Nat) : Int) ≠ 0 := by omega
  refine ⟨u, v, by rw [hu, Int.mul_comm], by rw [Nat.mul_comm]; exact hv, ?_, hvp, ?_⟩
  · unfold low
    rw [hu, Int.mul_ediv_cancel_left _ hgi]
    have : (d.natAbs : Int) = (Nat.gcd n.natAbs d.natAbs : Nat) * (v : Int) := by rw [← Int.natCast_mul, ← hv]
    rw [this, Int.mul_ediv_cancel_left _ hgi]
  · have e : Nat.gcd n.natAbs d.natAbs = Nat.gcd n.natAbs d.natAbs * Nat.gcd u.natAbs v := by
      rw [← Nat.gcd_mul_left, ← hn, ← hv]
    have e' : Nat.gcd n.natAbs d.natAbs * 1 = Nat.gcd n.natAbs d.natAbs * Nat.gcd u.natAbs v := by rw [Nat.mul_one]; exact e
    exact (Nat.eq_of_mul_eq_mul_left hg e').symm
theorem sign_mul_natAbs' (d : Int) : d.sign * (d.natAbs : Int) = d := Int.sign_mul_natAbs d
theorem low_is {n d : Int} (h : d ≠ 0) : IsLow (low n d).1 (low n d).2 := by
  obtain ⟨u, v, _, _, e, hv, hc⟩ := low_parts (n := n) h
  rw [e]
  exact ⟨by show (0 : Int) < v; omega, hc⟩
theorem low_cross {n d : Int} (h : d ≠ 0) : (low n d).1 * d = n * (low n d).2 := by
  obtain ⟨u, v, h1, h2, e, hv, hc⟩ := low_parts (n := n) h
  rw [e]
  show u * d = n * v
  have hg := gcd_pos (n := n) h
  have hgi : ((Nat.gcd n.natAbs d.natAbs : Nat) : Int) ≠ 0 := by omega
  have hs : d.sign * d.sign = 1 := by
    rcases Int.lt_or_gt_of_ne h with q | q
    · rw [Int.sign_eq_neg_one_of_neg q]
      rfl
    · rw [Int.sign_eq_one_of_pos q]
      rfl
  have ed : d = d.sign * ((v : Int) * (Nat.gcd n.natAbs d.natAbs : Nat)) := by
    rw [← Int.natCast_mul, ← h2]
    exact (sign_mul_natAbs' d).symm
  have : (u * d) * ((Nat.gcd n.natAbs d.natAbs : Nat) : Int) = (n * v) * (Nat.gcd n.natAbs d.natAbs : Nat) := by
    have e1 : (u * d) * ((Nat.gcd n.natAbs d.natAbs : Nat) : Int) = (u * (Nat.gcd n.natAbs d.natAbs : Nat)) * d := by
      rw [Int.mul_assoc, Int.mul_assoc, Int.mul_comm d]
    rw [e1, ← h1]
    generalize hG : ((Nat.gcd n.natAbs d.natAbs : Nat) : Int) = G at *
    calc n * d.sign * d = n * d.sign * (d.sign * (v * G)) := by rw [← ed]
      _ = n * (d.sign * d.sign) * (v * G) := by simp only [Int.mul_assoc]
      _ = n * v * G := by rw [hs]; simp only [Int.mul_one, Int.mul_assoc]
  exact Int.eq_of_mul_eq_mul_right hgi this
theorem low_uniq {t b t' b' : Int} (h : IsLow t b) (h' : IsLow t' b') (e : t * b' = t' * b) : t = t' ∧ b = b' := by
  obtain ⟨hb, hc⟩ := h
  obtain ⟨hb', hc'⟩ := h'
  have e1 : t.natAbs * b'.natAbs = t'.natAbs * b.natAbs := by
    have := congrArg Int.natAbs e
    rwa [Int.natAbs_mul, Int.natAbs_mul] at this
  have d1 : b.natAbs ∣ b'.natAbs := by
    have q : b.natAbs ∣ t.natAbs * b'.natAbs := by
      rw [e1]
      exact Nat.dvd_mul_left _ _
    exact Nat.Coprime.dvd_of_dvd_mul_left hc.symm q
  have d2 : b'.natAbs ∣ b.natAbs := by
    have q : b'.natAbs ∣ t'.natAbs * b.natAbs := by
      rw [← e1]
      exact Nat.dvd_mul_left _ _
    exact Nat.Coprime.dvd_of_dvd_mul_left hc'.symm q
  have eb : b.natAbs = b'.natAbs := Nat.dvd_antisymm d1 d2
  have eb' : b = b' := by omega
  subst eb'
  exact ⟨Int.eq_of_mul_eq_mul_right (by omega) e, rfl⟩
/-- the fraction is the one in lowest terms -/
theorem low_eq {n d t b : Int} (h : d ≠ 0) (hl : IsLow t b) (e : t * d = n * b) : low n d = (t, b) := by
  have hi := low_is (n := n) h
  have hx := low_cross (n := n) h
  have key : (low n d).1 * b = t * (low n d).2 := by
    have q : ((low n d).1 * b) * d = (t * (low n d).2) * d := by
      calc ((low n d).1 * b) * d = ((low n d).1 * d) * b := by rw [Int.mul_assoc, Int.mul_comm b d, Int.mul_assoc]
        _ = (n * (low n d).2) * b := by rw [hx]
        _ = (n * b) * (low n d).2 := by rw [Int.mul_assoc, Int.mul_comm _ b, Int.mul_assoc]
        _ = (t * d) * (low n d).2 := by rw [e]
        _ = (t * (low n d).2) * d := by rw [Int.mul_assoc, Int.mul_comm d, Int.mul_assoc]
    exact Int.eq_of_mul_eq_mul_right h q
  obtain ⟨e1, e2⟩ := low_uniq hi hl key
  exact Prod.ext e1 e2
theorem low_self {t b : Int} (h : IsLow t b) : low t b = (t, b) := low_eq (by have := h.1; omega) h rfl
/-- bounds -/
theorem low_top_le {n d : Int} (h : d ≠ 0) : (low n d).1.natAbs ≤ n.natAbs := by
  obtain ⟨u, v, h1, h2, e, hv, hc⟩ := low_parts (n := n) h
  rw [e]
  show u.natAbs ≤ n.natAbs
  have hg := gcd_pos (n := n) h
  have := congrArg Int.natAbs h1
  rw [Int.natAbs_mul, Int.natAbs_mul, Int.natAbs_sign_of_ne_zero h, Nat.mul_one, Int.natAbs_natCast] at this
  rw [this]
  exact Nat.le_mul_of_pos_right _ hg
theorem low_bottom_le {n d : Int} (h : d ≠ 0) : (low n d).2.natAbs ≤ d.natAbs := by
  obtain ⟨u, v, h1, h2, e, hv, hc⟩ := low_parts (n := n) h
  rw [e]
  show (v : Int).natAbs ≤ d.natAbs
  have hg := gcd_pos (n := n) h
  rw [h2, Int.natAbs_natCast]
  exact Nat.le_mul_of_pos_right _ hg
/-- the program's way: over a bottom above 0 -/
theorem low_pos {n d : Int} (h : 0 < d) : low n d = (n / (Nat.gcd n.natAbs d.natAbs : Nat), d / (Nat.gcd n.natAbs d.natAbs : Nat)) := by
  unfold low
  rw [Int.sign_eq_one_of_pos h, Int.mul_one, show (d.natAbs : Int) = d by omega]
theorem low_neg (n d : Int) : low (-n) (-d) = low n d := by
  unfold low
  rw [Int.sign_neg, Int.natAbs_neg, Int.natAbs_neg, Int.neg_mul_neg]
/-- the law's way: by the greatest common one, below 0 where the bottom is -/
theorem low_fdiv_pos {n d : Int} (h : 0 < d) : (n.fdiv (Nat.gcd n.natAbs d.natAbs : Nat), d.fdiv (Nat.gcd n.natAbs d.natAbs : Nat)) = low n d := by
  rw [low_pos h, Int.fdiv_eq_ediv_of_nonneg _ (by omega), Int.fdiv_eq_ediv_of_nonneg _ (by omega)]
theorem low_fdiv_neg {n d : Int} (h : d < 0) : (n.fdiv (-(Nat.gcd n.natAbs d.natAbs : Nat)), d.fdiv (-(Nat.gcd n.natAbs d.natAbs : Nat))) = low n d := by
  have q := low_fdiv_pos (n := -n) (d := -d) (by omega)
  rw [Int.natAbs_neg, Int.natAbs_neg, low_neg] at q
  rw [← q, ← Int.neg_fdiv_neg, ← Int.neg_fdiv_neg d, Int.neg_neg]
/-- the sum less the other one is the one -/
theorem low_back {a b c d : Int} (hl : IsLow a b) (hd : 0 < d) :
    low ((low (a * d + c * b) (b * d)).1 * d - c * (low (a * d + c * b) (b * d)).2) ((low (a * d + c * b) (b * d)).2 * d) = (a, b) := by
  have hb := hl.1
  have h0 : b * d ≠ 0 := Int.ne_of_gt (Int.mul_pos hb hd)
  have hi := low_is (n := a * d + c * b) h0
  have hx := low_cross (n := a * d + c * b) h0
  generalize (low (a * d + c * b) (b * d)).1 = x at *
  generalize (low (a * d + c * b) (b * d)).2 = y at *
  refine low_eq (Int.ne_of_gt (Int.mul_pos hi.1 hd)) hl ?_
  have : x * (b * d) = x * d * b := by rw [Int.mul_comm b d, Int.mul_assoc]
  rw [this] at hx
  rw [Int.sub_mul, hx, Int.add_mul]
  have e1 : c * y * b = c * b * y := by rw [Int.mul_assoc, Int.mul_comm y b, Int.mul_assoc]
  have e2 : a * (y * d) = a * d * y := by rw [Int.mul_comm y d, Int.mul_assoc]
  rw [e1, e2]
  omega
/-- Euclid's steps keep the greatest common one -/
theorem gcd_step (a b : Int) (hb : 0 < b) (ha : 0 ≤ a) : Nat.gcd b.natAbs (a % b).natAbs = Nat.gcd a.natAbs b.natAbs := by
  have e : (a % b).natAbs = a.natAbs % b.natAbs := by
    rw [Int.natAbs_emod_of_nonneg ha]
  rw [e, Nat.gcd_comm b.natAbs, ← Nat.gcd_rec, Nat.gcd_comm]
end Lf

set_option Elab.async false
set_option linter.all false
set_option maxRecDepth 100000
set_option maxHeartbeats 4000000
set_option exponentiation.threshold 3000
/-! What repr shows of data, and that it fits. -/
namespace Lf
open PySem PySem.Spec PyProof.Rows L2
/-- below 2 ^ 900 -/
def Sm (n : Int) : Prop := n.natAbs < 2 ^ 900
theorem Sm.log {n : Int} (h : Sm n) : n.natAbs.log2 < 900 := PySem.Flt.log2_lt_of (by decide) h
theorem Sm.text {n : Int} (h : Sm n) : (Str.ofString (toString n)).length ≤ 901 := by
  rw [PySem.ofString_length]
  exact int_text_length_le (by decide) h.log
/-- data that can be shown: its weight, its depth -/
structure Ft (w k : Nat) (d : PyData) : Prop where
  sh : d.showable = true
  nd : d.hasDict = false
  dp : d.depth ≤ k
  lv : d.leavesShort 1000 = true
  wt : d.weight ≤ w
structure FtA (w k : Nat) (ds : List PyData) : Prop where
  sh : PyData.showableAll ds = true
  nd : PyData.hasDictAll ds = false
  dp : PyData.depthAll ds ≤ k
  lv : PyData.leavesShortAll 1000 ds = true
  wt : PyData.weightAll ds ≤ w
theorem Ft.int {n : Int} (h : Sm n) : Ft 900 0 (.int n) := by
  have hl := h.log
  refine ⟨?_, ?_, ?_, ?_, ?_⟩
  · simp only [PyData.showable, decide_eq_true_eq]
    omega
  · simp only [PyData.hasDict]
  · simp only [PyData.depth, Nat.le_refl]
  · simp only [PyData.leavesShort, decide_eq_true_eq, PyData.shown]
    exact decide_eq_true (Nat.le_trans h.text (show 901 ≤ 1000 by decide))
  · simp only [PyData.weight]
    split <;> omega
theorem Ft.bool (b : Bool) : Ft 0 0 (.bool b) := ⟨by simp only [PyData.showable], by simp only [PyData.hasDict], by simp only [PyData.depth, Nat.le_refl], by simp only [PyData.leavesShort], by simp only [PyData.weight, Nat.le_refl]⟩
theorem Ft.none : Ft 0 0 .none := ⟨by simp only [PyData.showable], by simp only [PyData.hasDict], by simp only [PyData.depth, Nat.le_refl], by simp only [PyData.leavesShort], by simp only [PyData.weight, Nat.le_refl]⟩
/-- a text whose signs are signs -/
def Sg (x : Str) : Prop := ∀ c ∈ x.cps.toList, c < 16 ^ 8
theorem Sg.of (s : String) : Sg (Str.ofString s) := by
  intro c hc
  rw [Str.ofString_eq_toList] at hc
  obtain ⟨ch, _, rfl⟩ := List.mem_map.mp (show c ∈ s.toList.map Char.toNat from hc)
  exact ch.val.toNat_lt
theorem Sg.app {x y : Str} (h : Sg x) (k : Sg y) : Sg (x ++ y) := by
  intro c hc
  have e : (x ++ y).cps.toList = x.cps.toList ++ y.cps.toList := by
    rw [show (x ++ y).cps = x.cps ++ y.cps from rfl, Array.toList_append]
  rw [e] at hc
  rcases List.mem_append.mp hc with q | q
  · exact h c q
  · exact k c q
theorem Ft.str {w : Nat} {x : Str} (h : Sg x) (hw : x.length ≤ w) : Ft w 0 (.str x) := ⟨by simp only [PyData.showable], by simp only [PyData.hasDict], by simp only [PyData.depth, Nat.le_refl],
  by simp only [PyData.leavesShort, List.all_eq_true, decide_eq_true_eq]; exact h, by simp only [PyData.weight]; exact hw⟩
theorem FtA.nil : FtA 0 0 [] := ⟨by simp only [PyData.showableAll], by simp only [PyData.hasDictAll], by simp only [PyData.depthAll, Nat.le_refl], by simp only [PyData.leavesShortAll], by simp only [PyData.weightAll, Nat.le_refl]⟩
theorem FtA.cons {w k w' k' : Nat} {d : PyData} {ds : List PyData} (h : Ft w k d) (r : FtA w' k' ds) : FtA (w + 1 + w') (max k k') (d :: ds) := by
  refine ⟨?_, ?_, ?_, ?_, ?_⟩
  · simp only [PyData.showableAll, h.sh, r.sh, Bool.and_self]
  · simp only [PyData.hasDictAll, h.nd, r.nd, Bool.or_self]
  · simp only [PyData.depthAll]
    have := h.dp
    have := r.dp
    omega
  · simp only [PyData.leavesShortAll, h.lv, r.lv, Bool.and_self]
  · simp only [PyData.weightAll]
    have := h.wt
    have := r.wt
    omega
theorem Ft.list {w k : Nat} {ds : List PyData} (r : FtA w k ds) : Ft w (k + 1) (.list ds) :=
  ⟨by simp only [PyData.showable]; exact r.sh, by simp only [PyData.hasDict]; exact r.nd, by simp only [PyData.depth]; exact Nat.succ_le_succ r.dp, by simp only [PyData.leavesShort]; exact r.lv, by simp only [PyData.weight]; exact r.wt⟩
theorem Ft.tuple {w k : Nat} {ds : List PyData} (r : FtA w k ds) : Ft w (k + 1) (.tuple ds) :=
  ⟨by simp only [PyData.showable]; exact r.sh, by simp only [PyData.hasDict]; exact r.nd, by simp only [PyData.depth]; exact Nat.succ_le_succ r.dp, by simp only [PyData.leavesShort]; exact r.lv, by simp only [PyData.weight]; exact r.wt⟩
/-- what repr asks -/
structure Showy (d : PyData) : Prop where
  sh : d.showable = true
  nd : d.hasDict = false
  dp : d.depth ≤ 30
  ln : d.shown.length ≤ sizeLine
theorem Ft.showy {w k : Nat} {d : PyData} (h : Ft w k d) (hk : k ≤ 30 := by decide) (hw : w ≤ 16000 := by decide) : Showy d := by
  refine ⟨h.sh, h.nd, Nat.le_trans h.dp hk, ?_⟩
  have e := PyData.shown_le 1000 (by decide) d h.lv
  have e2 := h.wt
  have e3 : (1000 + 2) * d.weight ≤ 1002 * 16000 := Nat.mul_le_mul (Nat.le_refl _) (Nat.le_trans e2 hw)
  have e4 := sizeLine_eq
  omega
/-- a fraction -/
def tD (t : Int × Int) : PyData := .tuple [.int t.1, .int t.2]
theorem Ft.two {t : Int × Int} (h : Sm t.1) (k : Sm t.2) : Ft 1802 1 (tD t) := Ft.tuple (.cons (.int h) (.cons (.int k) .nil))
theorem dp2 {K : PySem.W.Frag} {H : Hp} {p : Addr} {x y : Int} (h : SqT K H p [.int x, .int y]) : Dp K H (.ref p) (tD (x, y)) := .tup h (.cons (.int x) (.cons (.int y) .nil))
theorem dp2' {K : PySem.W.Frag} {H : Hp} {p : Addr} {t : Int × Int} (h : H p = some (.tup [.int t.1, .int t.2])) : Dp K H (.ref p) (tD t) := .tup (.inl (.inl h)) (.cons (.int _) (.cons (.int _) .nil))
mutual
theorem Dp.same {K : PySem.W.Frag} {H H' : Hp} (s : Same H H') : ∀ (d : PyData) (v : V), Dp K H v d → Dp K H' v d
  | .none, _, h => by cases h; exact .non
  | .bool b, _, h => by cases h; exact .bl b
  | .int i, _, h => by cases h; exact .int i
  | .str x, _, h => by cases h; exact .str x
  | .list ds, _, h => by
    cases h with
    | lst h1 h2 => exact .lst (s.seq h1) (DpAll.same s ds _ h2)
  | .tuple ds, _, h => by
    cases h with
    | tup h1 h2 =>
      refine .tup ?_ (DpAll.same s ds _ h2)
      rcases h1 with (h | ⟨o, h⟩) | h
      · exact .inl (.inl (s _ _ h))
      · exact .inl (.inr ⟨o, s _ _ h⟩)
      · exact .inr h
  | .dict _, _, h => by cases h
theorem DpAll.same {K : PySem.W.Frag} {H H' : Hp} (s : Same H H') : ∀ (ds : List PyData) (vs : List V), DpAll K H vs ds → DpAll K H' vs ds
  | [], _, h => by cases h; exact .nil
  | d :: ds, _, h => by
    cases h with
    | cons h1 h2 => exact .cons (Dp.same s d _ h1) (DpAll.same s ds _ h2)
end
end Lf

set_option Elab.async false
set_option linter.all false
set_option maxRecDepth 100000
set_option maxHeartbeats 4000000
set_option exponentiation.threshold 3000
/-! Things of any kind: data without dicts, and dicts of plain things. -/
namespace Lf
open PySem PySem.Spec PyProof.Rows L2
def kD : Key → PyData
  | .inl i => .int i
  | .inr x => .str x
inductive Sc : V → PyData → Prop
  | non : Sc .non .none
  | bl (b : Bool) : Sc (.bl b) (.bool b)
  | int (i : Int) : Sc (.int i) (.int i)
  | str (x : Str) : Sc (.str x) (.str x)
/-- a thing: data, or a dict of plain things -/
inductive Dq (K : PySem.W.Frag) (H : Hp) : V → PyData → Prop
  | dp {v : V} {d : PyData} (h : Dp K H v d) (n : d.hasDict = false) : Dq K H v d
  | dic {a : Addr} {kvs : List (Key × V)} {ds : List (PyData × PyData)} (h : H a = some (.dK kvs)) (p : Paired (fun (kv : Key × V) (d : PyData × PyData) => d.1 = kD kv.1 ∧ Sc kv.2 d.2) kvs ds) : Dq K H (.ref a) (.dict ds)
theorem Dq.same {K : PySem.W.Frag} {H H' : Hp} {v : V} {d : PyData} (s : Same H H') (h : Dq K H v d) : Dq K H' v d := by
  cases h with
  | dp h n => exact .dp (Dp.same s _ _ h) n
  | dic h p => exact .dic (s _ _ h) p
section
variable {X : Cx} {pins : List (Addr × Obj)} {σ : L2.St} {H : Hp} {s : Shared}
theorem Sc.reads {v : V} {d : PyData} {u : Value} {h : Heap} (k : Sc v d) (r : RelV v u) : Reads h u d [] := by
  cases k with
  | non => cases r; exact .none
  | bl b => cases r; exact .bool b
  | int i => obtain ⟨t, rfl⟩ := r; exact .int i t
  | str x => obtain ⟨t, rfl⟩ := r; exact .str x t
theorem dic_reads {P : Program} {w : World} {h : Heap} : ∀ {es : List DictEntry} {vs : List (Key × Value)} {kvs : List (Key × V)} {ds : List (PyData × PyData)}, Pairs (mixKind P w) es vs → KV kvs vs →
    Paired (fun (kv : Key × V) (d : PyData × PyData) => d.1 = kD kv.1 ∧ Sc kv.2 d.2) kvs ds → ReadsAll h (es.map (·.key)) (ds.map (·.1)) [] ∧ ReadsAll h (es.map (·.val)) (ds.map (·.2)) []
  | _, _, _, _, .nil, kv, p => by
    cases kv
    cases p
    exact ⟨.nil, .nil⟩
  | _, _, _, _, .cons (e := e) hk hv r, kv, p => by
    cases kv with
    | cons q kv =>
      cases p with
      | cons z p =>
        obtain ⟨i1, i2⟩ := dic_reads r kv p
        obtain ⟨q1, q2⟩ := q
        obtain ⟨z1, z2⟩ := z
        refine ⟨?_, ?_⟩
        · rw [List.map_cons, List.map_cons]
          refine ReadsAll.cons (as := []) (bs := []) ?_ i1
          rw [z1, q1]
          rcases keyIs_shape (show keyIs _ e.key = true from hk) with ⟨i, t, e1, e2⟩ | ⟨x, t, e1, e2⟩
          · rw [e1, e2]
            exact .int i t
          · rw [e1, e2]
            exact .str x t
        · rw [List.map_cons, List.map_cons]
          refine ReadsAll.cons (as := []) (bs := []) ?_ i2
          rw [hv]
          exact z2.reads q2
theorem Dq.reads (I : Inv X pins σ H s) {v : V} {d : PyData} {u : Value} (h : Dq X.K H v d) (r : RelV v u) : ∃ as, Reads s.heap u d as ∧ (d.hasDict = true → sysModules ∉ as) := by
  cases h with
  | dp h n =>
    obtain ⟨as, q⟩ := Dp.reads I d v u h r
    exact ⟨as, q, fun z => by rw [n] at z; cases z⟩
  | @dic a kvs ds h p =>
    cases r
    obtain ⟨hz, hs, vs, kv, o, es, ep, h1, h2, h3, h4, h5, h6⟩ := (show ObjOk X.prog X.w H s.heap a (.dK kvs) from I.hok a _ h)
    obtain ⟨i1, i2⟩ := dic_reads (h := s.heap) h5 kv p
    refine ⟨_, Reads.dict h1 h2.1 h3 i1 i2, fun _ hm => ?_⟩
    have : sysModules = a := by simpa using hm
    rw [this] at hs
    simp at hs
/-- the built-in type of a thing -/
def tyN : PyData → String
  | .none => "NoneType"
  | .bool _ => "bool"
  | .int _ => "int"
  | .str _ => "str"
  | .list _ => "list"
  | .tuple _ => "tuple"
  | .dict _ => "dict"
theorem Dp.ty {K : PySem.W.Frag} {v : V} {d : PyData} (h : Dp K H v d) : TyX K H v (.type (tyN d)) := by
  cases h with
  | non => exact .base .non
  | bl b => exact .base (.bl b)
  | int i => exact .base (.int i)
  | str x => exact .base (.str x)
  | lst h1 _ =>
    rcases h1 with (h | ⟨o, h⟩) | ⟨o, arr, n, hk, hc, _⟩
    · exact .base (.lst h)
    · exact .base (.frz h)
    · exact .kList hk hc
  | tup h1 _ =>
    rcases h1 with (h | ⟨o, h⟩) | ⟨o, arr, n, hk, hc, _⟩
    · exact .base (.tup h)
    · exact .fTuple h
    · exact .kTuple hk hc
theorem Dq.ty {K : PySem.W.Frag} {v : V} {d : PyData} (h : Dq K H v d) : TyX K H v (.type (tyN d)) := by
  cases h with
  | dp h _ => exact Lf.Dp.ty h
  | dic h _ => exact .base (.dK h)
/-! ### repr of a list of things -/
inductive DqAll (K : PySem.W.Frag) (H : Hp) : List V → List PyData → Prop
  | nil : DqAll K H [] []
  | cons {v : V} {vs : List V} {d : PyData} {ds : List PyData} : Dq K H v d → DqAll K H vs ds → DqAll K H (v :: vs) (d :: ds)
theorem DqAll.same {K : PySem.W.Frag} {H H' : Hp} (s : Same H H') : ∀ {vs : List V} {ds : List PyData}, DqAll K H vs ds → DqAll K H' vs ds
  | _, _, .nil => .nil
  | _, _, .cons a r => .cons (a.same s) (DqAll.same s r)
theorem DqAll.get {K : PySem.W.Frag} {H : Hp} : ∀ {vs : List V} {ds : List PyData} {i : Nat} {v : V}, DqAll K H vs ds → vs[i]? = some v → ∃ d, ds[i]? = some d ∧ Dq K H v d
  | _, _, _, _, .nil, e => by simp at e
  | _, _, 0, _, .cons a _, e => by
    simp at e
    subst e
    exact ⟨_, rfl, a⟩
  | _, _, i + 1, v, .cons _ r, e => by
    obtain ⟨d, h1, h2⟩ := DqAll.get (i := i) (v := v) r (by simpa using e)
    exact ⟨d, by simpa using h1, h2⟩
theorem DqAll.app {K : PySem.W.Frag} {H : Hp} : ∀ {vs us : List V} {ds es : List PyData}, DqAll K H vs ds → DqAll K H us es → DqAll K H (vs ++ us) (ds ++ es)
  | _, _, _, _, .nil, h => h
  | _, _, _, _, .cons a r, h => .cons a (DqAll.app r h)
theorem DqAll.length {K : PySem.W.Frag} {H : Hp} : ∀ {vs : List V} {ds : List PyData}, DqAll K H vs ds → vs.length = ds.length
  | _, _, .nil => rfl
  | _, _, .cons _ r => congrArg Nat.succ (DqAll.length r)
theorem dq_repr (I : Inv X pins σ H s) : ∀ {vs : List V} {ds : List PyData} {us : List Value}, DqAll X.K H vs ds → Vals vs us → PyData.showableAll ds = true → (∀ t ∈ PyData.shownAll ds, t.length ≤ sizeLine) →
    ∃ bs as, ReadAtMost s.heap (PyData.depthAll ds) bs ∧ ReprAllK X.prog X.w bs s.heap (PyData.depthAll ds) us (PyData.shownAll ds) ∧ ReadsAll s.heap us ds as
  | _, _, _, .nil, r, _, _ => by
    cases r
    exact ⟨[], [], (fun _ h => nomatch h), by simp only [PyData.shownAll]; exact .nil, .nil⟩
  | _, _, _, .cons (d := d) (ds := ds) a q, r, hs, hz => by
    cases r with
    | cons r1 r2 =>
      have hs' : d.showable = true ∧ PyData.showableAll ds = true := by simpa [PyData.showableAll] using hs
      have hz' : d.shown.length ≤ sizeLine ∧ ∀ t ∈ PyData.shownAll ds, t.length ≤ sizeLine := by
        simp only [PyData.shownAll] at hz
        exact ⟨hz _ List.mem_cons_self, fun t ht => hz t (List.mem_cons_of_mem _ ht)⟩
      obtain ⟨as1, rd, hsm⟩ := a.reads I r1
      obtain ⟨b1, m1, k1⟩ := ReprK.of_reads (prog := X.prog) (w := X.w) rd hs'.1 hsm hz'.1
      obtain ⟨b2, as2, m2, k2, rd2⟩ := dq_repr I q r2 hs'.2 hz'.2
      have l1 : d.depth ≤ PyData.depthAll (d :: ds) := by simp only [PyData.depthAll]; omega
      have l2 : PyData.depthAll ds ≤ PyData.depthAll (d :: ds) := by simp only [PyData.depthAll]; omega
      refine ⟨b1 ++ b2, as1 ++ as2, ?_, ?_, .cons rd rd2⟩
      · intro b hb
        rcases List.mem_append.mp hb with z | z
        · obtain ⟨d', as', r', e'⟩ := m1 b z
          exact ⟨d', as', r', Nat.le_trans e' l1⟩
        · obtain ⟨d', as', r', e'⟩ := m2 b z
          exact ⟨d', as', r', Nat.le_trans e' l2⟩
      · simp only [PyData.shownAll]
        exact .cons ((k1.more (fun b hb => List.mem_append_left _ hb)).level_le l1) (k2.more_le (fun b hb => List.mem_append_right _ hb) l2)
def rShowQ (K : PySem.W.Frag) : List V → Hp → VK → Prop := fun xs H Q => ∃ (a : Addr) (v : V) (vs : List V) (ds : List PyData), xs = [.ref a] ∧ SqL K H a (v :: vs) ∧ DqAll K H (v :: vs) ds ∧
  PyData.showableAll ds = true ∧ PyData.depthAll ds ≤ 29 ∧ (PyData.shown (.list ds)).length ≤ sizeLine ∧ Q (.str (PyData.shown (.list ds))) H
theorem call_showQ (hG : X.A.guards = some []) {k : Nat} (hr : Room k X.A) : CallR X (.builtin "repr") (rShowQ X.K) := by
  intro pins s σ H xs us Q I r h
  obtain ⟨a, v, vs, ds, rfl, hS, hd, hs, h30, hz, q⟩ := h
  cases r with
  | cons r1 r2 =>
    cases r2
    cases r1
    have hu := hr.units
    obtain ⟨its, rv, ⟨o, n, ho, hc, _, hdt⟩, _⟩ := I.list hS
    have hz' : (listText (PyData.shownAll ds)).length ≤ sizeLine := by simpa only [PyData.shown] using hz
    obtain ⟨bs, as, m, k, rd⟩ := dq_repr I hd rv hs (fun t ht => Nat.le_trans (listText_mem_le ht) hz')
    have rl : Reads s.heap (.ref a) (.list ds) (a :: as) := Reads.list ho hc hdt rd
    have hna : a ∉ bs := not_mem_of_deeper rl (by simp only [PyData.depth]; omega) m
    cases its with
    | nil => cases rv
    | cons u us' =>
      refine call_repr_slot (T := "list") (by omega) ⟨o, ho, hc⟩ F.slot_list_repr.toG ?_
      refine call_list_reprK ho hc hdt hna (by simpa using k.length_eq) (fun i y e => k.item i y (by simpa using e)) hG (fun b _ => Clear.nil b) (by show X.A.units + 1 + (PyData.depthAll ds + 1) < cLine; omega) (fun _ _ z => z) (fun h' u tk hk => ?_) hz'
      refine ⟨_, _, rfl, ⟨.str (PyData.shown (.list ds)), H, I.kept hk, ⟨u, ?_⟩, q⟩⟩
      simp only [PyData.shown]
end
/-- a statement and the rest, what follows shown once from what holds between them -/
def tMid (t u : TS) : TS := fun D σ H => ∃ Md : L2.St → Hp → Prop, t { D with nx := Md } σ H ∧ ∀ σ' H', Md σ' H' → u D σ' H'
theorem pss_mid {X : Cx} {st : Stmt} {more : List Stmt} {t u : TS} (h1 : PS X st t) (h2 : PSs X more u) : PSs X (st :: more) (tMid t u) := by
  refine ⟨fun pins s σ H D I ⟨Md, hm, hu⟩ => wpAny_execs_cons (thn (h1.run pins s σ H { D with nx := Md } I hm) fun f s1 q => ?_)⟩
  cases f with
  | next =>
    obtain ⟨σ', H', I', q⟩ := q
    exact h2.run pins s1 σ' H' D I' (hu σ' H' q)
  | ret v => exact q
  | brk => exact q
  | cont => exact q
/-- what repr asks of a list of things -/
structure ShowA (ds : List PyData) : Prop where
  sh : PyData.showableAll ds = true
  dp : PyData.depthAll ds ≤ 29
  ln : (PyData.shown (.list ds)).length ≤ sizeLine
end Lf

set_option linter.all false
/-! Sums and products of fractions in any order, by rational numbers. -/
namespace Lf
def rv (f : Int × Int) : Rat := Rat.divInt f.1 f.2
def IsF (f : Int × Int) : Prop := IsLow f.1 f.2
theorem IsF.ne {f : Int × Int} (h : IsF f) : f.2 ≠ 0 := by
  have : 0 < f.2 := h.1
  omega
theorem rv_inj {f g : Int × Int} (hf : IsF f) (hg : IsF g) (e : rv f = rv g) : f = g := by
  have q := (Rat.divInt_eq_divInt_iff hf.ne hg.ne).mp e
  obtain ⟨e1, e2⟩ := low_uniq hf hg q
  exact Prod.ext e1 e2
theorem low_f {n d : Int} (h : d ≠ 0) : IsF (low n d) := low_is h
theorem rv_low {n d : Int} (h : d ≠ 0) : rv (low n d) = Rat.divInt n d :=
  (Rat.divInt_eq_divInt_iff (low_f (n := n) h).ne h).mpr (low_cross h)
def fadd (f g : Int × Int) : Int × Int := low (f.1 * g.2 + g.1 * f.2) (f.2 * g.2)
def fsub (f g : Int × Int) : Int × Int := low (f.1 * g.2 - g.1 * f.2) (f.2 * g.2)
def fmul (f g : Int × Int) : Int × Int := low (f.1 * g.1) (f.2 * g.2)
def fdiv (f g : Int × Int) : Int × Int := low (f.1 * g.2) (f.2 * g.1)
section
variable {f g : Int × Int}
theorem fadd_f (hf : IsF f) (hg : IsF g) : IsF (fadd f g) := low_f (Int.mul_ne_zero hf.ne hg.ne)
theorem fsub_f (hf : IsF f) (hg : IsF g) : IsF (fsub f g) := low_f (Int.mul_ne_zero hf.ne hg.ne)
theorem fmul_f (hf : IsF f) (hg : IsF g) : IsF (fmul f g) := low_f (Int.mul_ne_zero hf.ne hg.ne)
theorem fdiv_f (hf : IsF f) (h0 : g.1 ≠ 0) : IsF (fdiv f g) := low_f (Int.mul_ne_zero hf.ne h0)
theorem rv_add (hf : IsF f) (hg : IsF g) : rv (fadd f g) = rv f + rv g := by
  unfold fadd
  rw [rv_low (Int.mul_ne_zero hf.ne hg.ne)]
  exact (Rat.divInt_add_divInt _ _ hf.ne hg.ne).symm
theorem rv_sub (hf : IsF f) (hg : IsF g) : rv (fsub f g) = rv f - rv g := by
  unfold fsub
  rw [rv_low (Int.mul_ne_zero hf.ne hg.ne)]
  exact (Rat.divInt_sub_divInt _ _ hf.ne hg.ne).symm
theorem rv_mul (hf : IsF f) (hg : IsF g) : rv (fmul f g) = rv f * rv g := by
  unfold fmul
  rw [rv_low (Int.mul_ne_zero hf.ne hg.ne)]
  exact (Rat.divInt_mul_divInt _ _).symm
theorem rv_div (hf : IsF f) (h0 : g.1 ≠ 0) : rv (fdiv f g) = rv f * (rv g)⁻¹ := by
  unfold fdiv
  rw [rv_low (Int.mul_ne_zero hf.ne h0)]
  unfold rv
  rw [Rat.inv_divInt, Rat.divInt_mul_divInt]
end
def f0 : Int × Int := (0, 1)
def f1 : Int × Int := (1, 1)
theorem f0_f : IsF f0 := ⟨by decide, by decide⟩
theorem f1_f : IsF f1 := ⟨by decide, by decide⟩
theorem rv0 : rv f0 = 0 := Rat.zero_divInt 1
theorem rv1 : rv f1 = 1 := Rat.divInt_self' (by decide)
theorem rv_zero {f : Int × Int} (h : IsF f) : rv f = 0 ↔ f.1 = 0 := by
  constructor
  · intro e
    have := rv_inj h f0_f (e.trans rv0.symm)
    rw [this]
    rfl
  · intro e
    unfold rv
    rw [e, Rat.zero_divInt]
theorem is0 {f : Int × Int} (h : IsF f) : f.1 = 0 ↔ f = f0 := by
  constructor
  · intro e
    exact rv_inj h f0_f (((rv_zero h).mpr e).trans rv0.symm)
  · intro e
    rw [e]
    rfl
def rsum : List (Int × Int) → Rat
  | [] => 0
  | f :: r => rv f + rsum r
def rprod : List (Int × Int) → Rat
  | [] => 1
  | f :: r => rv f * rprod r
theorem rsum_perm {l m : List (Int × Int)} (p : l.Perm m) : rsum l = rsum m := by
  induction p with
  | nil => rfl
  | cons x _ ih => exact congrArg (rv x + ·) ih
  | swap x y l =>
    show rv y + (rv x + rsum l) = rv x + (rv y + rsum l)
    rw [← Rat.add_assoc, ← Rat.add_assoc, Rat.add_comm (rv y)]
  | trans _ _ h1 h2 => exact h1.trans h2
theorem rprod_perm {l m : List (Int × Int)} (p : l.Perm m) : rprod l = rprod m := by
  induction p with
  | nil => rfl
  | cons x _ ih => exact congrArg (rv x * ·) ih
  | swap x y l =>
    show rv y * (rv x * rprod l) = rv x * (rv y * rprod l)
    rw [← Rat.mul_assoc, ← Rat.mul_assoc, Rat.mul_comm (rv y)]
  | trans _ _ h1 h2 => exact h1.trans h2
def AllF (l : List (Int × Int)) : Prop := ∀ f ∈ l, IsF f
theorem AllF.tl {f : Int × Int} {l : List (Int × Int)} (h : AllF (f :: l)) : AllF l := fun g hg => h g (List.mem_cons_of_mem _ hg)
theorem AllF.hd {f : Int × Int} {l : List (Int × Int)} (h : AllF (f :: l)) : IsF f := h f List.mem_cons_self
theorem sum_fold : ∀ (l : List (Int × Int)) (a : Int × Int), IsF a → AllF l → IsF (l.foldl fadd a) ∧ rv (l.foldl fadd a) = rv a + rsum l
  | [], a, ha, _ => ⟨ha, (Rat.add_zero _).symm⟩
  | f :: l, a, ha, h => by
    obtain ⟨h1, h2⟩ := sum_fold l (fadd a f) (fadd_f ha h.hd) h.tl
    refine ⟨h1, ?_⟩
    show rv (l.foldl fadd (fadd a f)) = rv a + (rv f + rsum l)
    rw [h2, rv_add ha h.hd, Rat.add_assoc]
theorem mul_fold : ∀ (l : List (Int × Int)) (a : Int × Int), IsF a → AllF l → IsF (l.foldl fmul a) ∧ rv (l.foldl fmul a) = rv a * rprod l
  | [], a, ha, _ => ⟨ha, (Rat.mul_one _).symm⟩
  | f :: l, a, ha, h => by
    obtain ⟨h1, h2⟩ := mul_fold l (fmul a f) (fmul_f ha h.hd) h.tl
    refine ⟨h1, ?_⟩
    show rv (l.foldl fmul (fmul a f)) = rv a * (rv f * rprod l)
    rw [h2, rv_mul ha h.hd, Rat.mul_assoc]
theorem sub_fold : ∀ (l : List (Int × Int)) (a : Int × Int), IsF a → AllF l → IsF (l.foldl fsub a) ∧ rv (l.foldl fsub a) = rv a - rsum l
  | [], a, ha, _ => ⟨ha, by show rv a = rv a - 0; rw [Rat.sub_eq_add_neg, show -(0 : Rat) = 0 from rfl, Rat.add_zero]⟩
  | f :: l, a, ha, h => by
    obtain ⟨h1, h2⟩ := sub_fold l (fsub a f) (fsub_f ha h.hd) h.tl
    refine ⟨h1, ?_⟩
    show rv (l.foldl fsub (fsub a f)) = rv a - (rv f + rsum l)
    rw [h2, rv_sub ha h.hd, Rat.sub_eq_add_neg, Rat.sub_eq_add_neg, Rat.sub_eq_add_neg, Rat.neg_add, Rat.add_assoc]
/-- one division, where it is one -/
def ddiv (a f : Int × Int) : Int × Int := if f.1 ≠ 0 ∧ a.1 ≠ 0 then fdiv a f else a
theorem ddiv_f {a f : Int × Int} (ha : IsF a) (hf : IsF f) : IsF (ddiv a f) := by
  unfold ddiv
  split
  · exact fdiv_f ha (by rename_i h; exact h.1)
  · exact ha
theorem div_fold0 : ∀ (l : List (Int × Int)) (a : Int × Int), a.1 = 0 → l.foldl ddiv a = a
  | [], _, _ => rfl
  | f :: l, a, h => by
    show l.foldl ddiv (ddiv a f) = a
    have e : ddiv a f = a := if_neg fun z => z.2 h
    rw [e]
    exact div_fold0 l a h
theorem div_fold : ∀ (l : List (Int × Int)) (a : Int × Int), IsF a → AllF l → (∀ f ∈ l, f.1 ≠ 0) → a.1 ≠ 0 → IsF (l.foldl ddiv a) ∧ rv (l.foldl ddiv a) * rprod l = rv a
  | [], a, ha, _, _, _ => ⟨ha, Rat.mul_one _⟩
  | f :: l, a, ha, h, h0, ha0 => by
    have hf0 : f.1 ≠ 0 := h0 f List.mem_cons_self
    have e : ddiv a f = fdiv a f := if_pos ⟨hf0, ha0⟩
    have hq := fdiv_f (g := f) ha hf0
    have rq := rv_div (g := f) ha hf0
    have rf0 : rv f ≠ 0 := fun z => hf0 ((rv_zero h.hd).mp z)
    have hb : rv (fdiv a f) * rv f = rv a := by rw [rq, Rat.mul_assoc, Rat.inv_mul_cancel _ rf0, Rat.mul_one]
    have hq0 : (fdiv a f).1 ≠ 0 := fun z => by
      have := (rv_zero hq).mpr z
      rw [this, Rat.zero_mul] at hb
      exact ha0 ((rv_zero ha).mp hb.symm)
    obtain ⟨h1, h2⟩ := div_fold l (fdiv a f) hq h.tl (fun g hg => h0 g (List.mem_cons_of_mem _ hg)) hq0
    show IsF (l.foldl ddiv (ddiv a f)) ∧ rv (l.foldl ddiv (ddiv a f)) * (rv f * rprod l) = rv a
    rw [e]
    refine ⟨h1, ?_⟩
    rw [Rat.mul_comm (rv f), ← Rat.mul_assoc, h2, hb]
theorem rprod0 : ∀ {l : List (Int × Int)}, AllF l → (rprod l = 0 ↔ ∃ f ∈ l, f.1 = 0)
  | [], _ => ⟨fun e => absurd e (by decide), fun ⟨_, h, _⟩ => nomatch h⟩
  | f :: l, h => by
    show rv f * rprod l = 0 ↔ _
    rw [Rat.mul_eq_zero, rv_zero h.hd, rprod0 h.tl]
    constructor
    · rintro (e | ⟨g, hg, e⟩)
      · exact ⟨f, List.mem_cons_self, e⟩
      · exact ⟨g, List.mem_cons_of_mem _ hg, e⟩
    · rintro ⟨g, hg, e⟩
      rcases List.mem_cons.mp hg with z | z
      · exact Or.inl (z ▸ e)
      · exact Or.inr ⟨g, z, e⟩
/-- told in two orders the same -/
theorem sum_same {l m : List (Int × Int)} (p : l.Perm m) (h : AllF l) : l.foldl fadd f0 = m.foldl fadd f0 := by
  have hm : AllF m := fun f hf => h f (p.mem_iff.mpr hf)
  obtain ⟨a1, a2⟩ := sum_fold l f0 f0_f h
  obtain ⟨b1, b2⟩ := sum_fold m f0 f0_f hm
  exact rv_inj a1 b1 (by rw [a2, b2, rsum_perm p])
theorem mul_same {l m : List (Int × Int)} (p : l.Perm m) (h : AllF l) : l.foldl fmul f1 = m.foldl fmul f1 := by
  have hm : AllF m := fun f hf => h f (p.mem_iff.mpr hf)
  obtain ⟨a1, a2⟩ := mul_fold l f1 f1_f h
  obtain ⟨b1, b2⟩ := mul_fold m f1 f1_f hm
  exact rv_inj a1 b1 (by rw [a2, b2, rprod_perm p])
theorem sub_none {l m : List (Int × Int)} (p : l.Perm m) (h : AllF l) : m.foldl fsub (l.foldl fadd f0) = f0 := by
  have hm : AllF m := fun f hf => h f (p.mem_iff.mpr hf)
  obtain ⟨a1, a2⟩ := sum_fold l f0 f0_f h
  obtain ⟨b1, b2⟩ := sub_fold m _ a1 hm
  exact rv_inj b1 f0_f (by rw [b2, a2, rv0, Rat.zero_add, rsum_perm p, Rat.sub_self])
theorem div_none {l m : List (Int × Int)} (p : l.Perm m) (h : AllF l) : m.foldl ddiv (l.foldl fmul f1) = if f0 ∈ l then f0 else f1 := by
  have hm : AllF m := fun f hf => h f (p.mem_iff.mpr hf)
  obtain ⟨a1, a2⟩ := mul_fold l f1 f1_f h
  rw [rv1, Rat.one_mul] at a2
  by_cases hz : f0 ∈ l
  · rw [if_pos hz]
    have z : rprod l = 0 := (rprod0 h).mpr ⟨f0, hz, rfl⟩
    have z1 : (l.foldl fmul f1).1 = 0 := (rv_zero a1).mp (a2.trans z)
    rw [div_fold0 _ _ z1]
    exact (is0 a1).mp z1
  · rw [if_neg hz]
    have nz : ∀ f ∈ l, f.1 ≠ 0 := fun f hf e => hz ((is0 (h f hf)).mp e ▸ hf)
    have np : rprod l ≠ 0 := fun e => by
      obtain ⟨f, hf, e'⟩ := (rprod0 h).mp e
      exact nz f hf e'
    have n1 : (l.foldl fmul f1).1 ≠ 0 := fun e => np (a2.symm.trans ((rv_zero a1).mpr e))
    obtain ⟨b1, b2⟩ := div_fold m _ a1 hm (fun f hf => nz f (p.mem_iff.mpr hf)) n1
    refine rv_inj b1 f1_f ?_
    rw [a2, rprod_perm p] at b2
    have np' : rprod m ≠ 0 := by rw [← rprod_perm p]; exact np
    have : rv (m.foldl ddiv (l.foldl fmul f1)) * rprod m * (rprod m)⁻¹ = rprod m * (rprod m)⁻¹ := by rw [b2]
    rw [Rat.mul_assoc, Rat.mul_inv_cancel _ np', Rat.mul_one] at this
    rw [this, rv1]
/-- one fraction times a sum is the sum of its products -/
theorem spread_fold (x : Int × Int) (hx : IsF x) : ∀ (l : List (Int × Int)) (a : Int × Int), IsF a → AllF l → IsF (l.foldl (fun a f => fadd a (fmul x f)) a) ∧ rv (l.foldl (fun a f => fadd a (fmul x f)) a) = rv a + rv x * rsum l
  | [], a, ha, _ => ⟨ha, by show rv a = rv a + rv x * 0; rw [Rat.mul_zero, Rat.add_zero]⟩
  | f :: l, a, ha, h => by
    obtain ⟨h1, h2⟩ := spread_fold x hx l (fadd a (fmul x f)) (fadd_f ha (fmul_f hx h.hd)) h.tl
    refine ⟨h1, ?_⟩
    show rv (l.foldl (fun a f => fadd a (fmul x f)) (fadd a (fmul x f))) = rv a + rv x * (rv f + rsum l)
    rw [h2, rv_add ha (fmul_f hx h.hd), rv_mul hx h.hd, Rat.mul_add, Rat.add_assoc]
theorem spread_same {x : Int × Int} {l : List (Int × Int)} (hx : IsF x) (h : AllF l) : l.foldl (fun a f => fadd a (fmul x f)) f0 = fmul (fmul f1 x) (l.foldl fadd f0) := by
  obtain ⟨a1, a2⟩ := spread_fold x hx l f0 f0_f h
  obtain ⟨b1, b2⟩ := sum_fold l f0 f0_f h
  have c := fmul_f f1_f hx
  refine rv_inj a1 (fmul_f c b1) ?_
  rw [a2, rv_mul c b1, rv_mul f1_f hx, b2, rv0, rv1, Rat.one_mul, Rat.zero_add, Rat.zero_add]
/-! sizes -/
def Bt (k : Nat) (f : Int × Int) : Prop := f.1.natAbs < 2 ^ k ∧ f.2.natAbs < 2 ^ k
theorem Bt.mono {j k : Nat} {f : Int × Int} (h : Bt j f) (hk : j ≤ k) : Bt k f :=
  ⟨Nat.lt_of_lt_of_le h.1 (Nat.pow_le_pow_right (by decide) hk), Nat.lt_of_lt_of_le h.2 (Nat.pow_le_pow_right (by decide) hk)⟩
theorem mul_lt {a b : Int} {j k : Nat} (ha : a.natAbs < 2 ^ j) (hb : b.natAbs < 2 ^ k) : (a * b).natAbs < 2 ^ (j + k) := by
  rw [Int.natAbs_mul, Nat.pow_add]
  exact Nat.mul_lt_mul'' ha hb
theorem low_bt {n d : Int} {k : Nat} (h : d ≠ 0) (hn : n.natAbs < 2 ^ k) (hd : d.natAbs < 2 ^ k) : Bt k (low n d) :=
  ⟨Nat.lt_of_le_of_lt (low_top_le h) hn, Nat.lt_of_le_of_lt (low_bottom_le h) hd⟩
section
variable {f g : Int × Int} {j k : Nat}
theorem fadd_bt (hf : IsF f) (hg : IsF g) (a : Bt k f) (b : Bt j g) : Bt (k + j + 1) (fadd f g) := by
  have h1 := mul_lt a.1 b.2
  have h2 := mul_lt a.2 b.1
  have h3 := mul_lt a.2 b.2
  have h4 := Int.natAbs_add_le (f.1 * g.2) (g.1 * f.2)
  rw [Int.mul_comm g.1] at h4
  have h5 : (2 : Nat) ^ (k + j + 1) = 2 ^ (k + j) + 2 ^ (k + j) := Nat.two_pow_succ _
  refine low_bt (Int.mul_ne_zero hf.ne hg.ne) ?_ (by omega)
  rw [Int.mul_comm g.1]
  omega
theorem fsub_bt (hf : IsF f) (hg : IsF g) (a : Bt k f) (b : Bt j g) : Bt (k + j + 1) (fsub f g) := by
  have h1 := mul_lt a.1 b.2
  have h2 := mul_lt a.2 b.1
  have h3 := mul_lt a.2 b.2
  have h4 := Int.natAbs_sub_le (f.1 * g.2) (g.1 * f.2)
  rw [Int.mul_comm g.1] at h4
  have h5 : (2 : Nat) ^ (k + j + 1) = 2 ^ (k + j) + 2 ^ (k + j) := Nat.two_pow_succ _
  refine low_bt (Int.mul_ne_zero hf.ne hg.ne) ?_ (by omega)
  rw [Int.mul_comm g.1]
  omega
theorem fmul_bt (hf : IsF f) (hg : IsF g) (a : Bt k f) (b : Bt j g) : Bt (k + j) (fmul f g) :=
  low_bt (Int.mul_ne_zero hf.ne hg.ne) (mul_lt a.1 b.1) (mul_lt a.2 b.2)
theorem fdiv_bt (hf : IsF f) (h0 : g.1 ≠ 0) (a : Bt k f) (b : Bt j g) : Bt (k + j) (fdiv f g) :=
  low_bt (Int.mul_ne_zero hf.ne h0) (mul_lt a.1 b.2) (mul_lt a.2 b.1)
theorem ddiv_bt (hf : IsF f) (a : Bt k f) (b : Bt j g) : Bt (k + j) (ddiv f g) := by
  unfold ddiv
  split
  · rename_i h
    exact fdiv_bt hf h.1 a b
  · exact a.mono (Nat.le_add_right _ _)
end
end Lf

set_option Elab.async false
set_option linter.all false
set_option maxRecDepth 100000
set_option maxHeartbeats 4000000
/-! An own exception over ValueError whose __init__ begins by super().__init__(..): its body's rule, and its promise FnOk. -/
namespace Lf
open PySem PySem.Spec PyProof.Rows L2 NdefX
/-- what the written part says of a class D whose __init__ at f says super().__init__ : the cell, the code -/
structure SupC (P : Program) (K : PySem.W.Frag) (D f cc cda : Addr) (fd : FuncData) : Prop where
  fn : ∃ (oc : Value) (od : Option Addr) (osl : Array (Option Value)), K.lookup f = some ⟨oc, od, .func fd, osl⟩
  code : ∃ (ccl : Value) (cdd : Option Addr) (vs : Array Value) (ccs : Array (Option Value)) (file : Str) (tf : Tok), K.lookup cda = some ⟨ccl, cdd, .fields vs, ccs⟩ ∧ vs[2]? = some (.str file tf) ∧ ((P.main.file : Str) == file) = true
  cell : ∃ (cl : Value) (cld : Option Addr) (csl : Array (Option Value)), K.lookup cc = some ⟨cl, cld, .cell (some (.ref D)), csl⟩
  sup : PySem.W.ks_superIn K D D "__init__" = some (some (.builtin "ValueError.__init__"))
  sub : PySem.W.mroIn K D (.ref D) = some true
  ve : PySem.W.subIn K (.ref D) (.type "ValueError") = some true
  stat : PySem.W.nsIn K cStatics "thirdparty.any" = some none
  top : (P.main.scope.names.lookup ("super" : Str)).isSome = false
/-- what a body that begins by super().__init__(..) asks: the self is the exception that is being made -/
def tSup (K : PySem.W.Frag) (D : Addr) (ta : TA) (t : TS) : TS := fun E σ H => ∃ a, σ[0]? = some (some (.ref a)) ∧ H a = some (exo a D none) ∧ ta σ H fun vs H1 => vs.length ≤ 1000 ∧ H1 a = some (exo a D none) ∧ t E σ H1
section
variable {X : Cx} {D f cc cda : Addr} {fd : FuncData} {ar : Arg} {e : Expr} {es : List Expr} {rest body : List Stmt} {ta : TA} {t : TS} {p0 p1 p2 p3 pos : Pos} {x0 : Str}
theorem call_sup {pins : List (Addr × Obj)} {σ : L2.St} {H : Hp} {s : Shared} {a u : Addr} {us : List Value} {Q : Value → Shared → Prop} {E : Value → Shared → Prop} {A : Around} (T : OexC X.K D) (I : Inv X pins σ H s) (ea : H a = some (exo a D none))
    (hu : s.heap.get? u = some (PySem.W.kxs_mw "ValueError.__init__" a)) (hl : us.length ≤ sizeLine) (h : ∀ s', Inv X pins σ H s' → Q .none s') : wpAny (model X.prog X.w) A (call (.ref u) us) Q E s := by
  obtain ⟨nm, q, N, bs, bm, sn, sub, ab, col, dd, k0, k1, k2, k3, k5, hC, hbm⟩ := T.cls
  obtain ⟨t1, ho⟩ := exo_at I.hok ea
  obtain ⟨hp, g, d, tk, os⟩ := s
  refine wpAny_call (codeAny_of_tree ?_)
  show wpAny _ A.in1 (callAny (.ref u) ⟨us, []⟩) _ _ _
  simp only [callAny]
  refine wpAny_bind (wpAny_load hu ?_)
  simp only [PySem.W.kxs_mw, show (Value.type "method-wrapper" == Value.type "method" || Value.type "method-wrapper" == Value.type "builtin_function_or_method" || Value.type "method-wrapper" == Value.type "method-wrapper") = true by decide, if_true]
  refine PySem.W.KFB.if_so (by decide) ?_
  refine wpAny_bind (PySem.W.check_bound_init F.excBase_ValueError.toExcCallFacts (I.kIn _ _ hC) ho rfl ?_)
  refine wpAny_bind (wpAny_pure (wpAny_pure ?_))
  refine ⟨plainId_quiet F.excBase_ValueError.init.plain _, codeAny_builtin F.excBase_ValueError.initEntry ?_⟩
  refine PySem.W.exc_init_tree (cls := .ref D) (t0 := t1) (dv := none) (c2 := .none) (c3 := .none) (b4 := .bool false) ho hl fun h' k e' _ => ?_
  have J := I.write (t' := tk) (x := a) (e := a) (o := exo a D none) (by rw [ea]; exact True.intro) (.inl rfl) k ⟨_, e'⟩ (exo_ok e')
  have eu : upd H a (exo a D none) = H := by
    funext b
    by_cases hb : b = a
    · rw [hb, upd_same, ea]
    · rw [upd_ne hb]
  rw [eu] at J
  exact h _ J
/-- the body's rule -/
theorem body_sup {pins : List (Addr × Obj)} {σ : L2.St} {H : Hp} {s : Shared} {E : Ends} (S : SupC X.prog X.K D f cc cda fd) (T : OexC X.K D) (hm : X.mg "super" = none) (hA : PA X (e :: es) ta) (hR : PSs X rest t) (I : Inv X pins σ H s) (h : tSup X.K D ta t E σ H)
    (hp : (fd.params.posonlyargs ++ fd.params.args).head? = some ar) (hN : X.N[0]? = some ar.arg) (hka : X.env.kindOf ar.arg = some .local) (hvis : Vis X.env.scope ar.arg)
    (hks : X.env.kindOf "super" = some .globalImplicit) (hkc : X.env.kindOf "__class__" = some .free) (hfu : X.env.func = some f) (hco : X.env.code = .ref cda) (hcl : X.env.cells.lookup ("__class__" : Str) = some cc)
    (hc : ∀ pl : Unit, ∃ pl : Sem Bool, eval (.Call (.Attribute (.Call (.Name "super" p0) [] [] p1) "__init__" p2) (e :: es) [] pos) X.env = (do
      let ov ← attributeBase (.Call (.Name "super" p0) [] [] p1) "__init__" X.env (eval (.Call (.Name "super" p0) [] [] p1) X.env)
      standAt p2.atName
      let (f, first) ← holding [ov] (getMethod ov "__init__" pl)
      callWith pos f first (backTo pos (starEach (e :: es) X.env)) []))
    (hs : swapsWith (.Call (.Attribute (.Call (.Name "super" p0) [] [] p1) "__init__" p2) (e :: es) [] pos) none p3.line X.env = pure false)
    (he : starEach (e :: es) X.env = (false, eval e X.env) :: starEach es X.env) (hpl : (backTo pos (starEach es X.env)).any (·.1) = false) :
    PySem.wpAt (model X.prog X.w) X.A (.func body X.env) (execs (.Expr (.Call (.Attribute (.Call (.Name "super" p0) [] [] p1) "__init__" p2) (e :: es) [] pos) p3 :: rest) X.env) (SP X pins E) X.xe s := by
  obtain ⟨pl, hc⟩ := hc ()
  refine ks_wpAt_execs_cons (ks_wpAt_Expr_any (ks_wpAt_MethodCall (pl := pl) ?_ hc) I.quiet hs)
  have KX := I.kIn
  obtain ⟨oc, od, osl, hf⟩ := S.fn
  obtain ⟨ccl, cdd, vs, ccs, file, tf, hcode, hvs, hfile⟩ := S.code
  obtain ⟨cl, cld, csl, hcell⟩ := S.cell
  obtain ⟨a, hs0, ea, hta⟩ := h
  obtain ⟨t1, ho⟩ := exo_at I.hok ea
  obtain ⟨nm, qn, Nn, bs, bm, sn, sub, ab, col, dd, k0, k1, k2, k3, k5, hC, hbm⟩ := T.cls
  have hcls : PySem.W.clsIn X.K D = some { name := nm, bases := bs, mro := .ref D :: bm, ns := Nn, qualname := qn, hasDict := true, slotNames := sn, subclasses := sub, abstract := ab, collection := col, hasDel := false } := by unfold PySem.W.clsIn; rw [hC] <;> rfl
  have hat : (("__init__" : Str) == ("__class__" : Str)) = false := by decide
  refine ks_wpAt_super_base (env := X.env) hks hkc hat hfu (KX _ _ hf) rfl hp hco (KX _ _ hcode) rfl hvs hfile S.top ?_
  obtain ⟨mb, b1, b2⟩ := I.mod.blt
  refine PySem.W.ks_loadName_global I.ok.kind hks (Calls.loadGlobal_builtin (by rw [I.ok.glob]; exact I.mod.glob.keeps I.bk) hm (by rw [I.ok.blt]; exact b1.keeps I.bk) ((b2 _ (by decide)).trans (PyProof.Rows.Boot.«super»)) ⟨rfl, ?_⟩)
  refine wpAny_loadName_free I.ok.kind hkc hcl ⟨_, KX _ _ hcell, rfl⟩ ?_
  obtain ⟨m, hns, hsl⟩ := I.loc
  obtain ⟨u0, ru0, lk⟩ := hsl 0 ar.arg (.ref a) hN hs0 hvis
  cases ru0
  have hm0 : m ar.arg = some (.ref a) := by
    rcases lk with ⟨_, e⟩ | ⟨e | e, _⟩
    · exact e
    · rw [hka] at e; cases e
    · rw [hka] at e; cases e
  refine wpAny_loadName_local I.ok.kind hka hns hm0 ?_
  refine ks_wpAny_isType_cls (KX _ _ hC) rfl ⟨rfl, ?_⟩
  have II : PySem.W.InstAt s.heap a { cls := .ref D, dict := none, data := .fields #[.ref t1, .none, .none, .none, .bool false, .none] } D none := ⟨ho, rfl, rfl, trivial⟩
  obtain ⟨hp', g, d, tk, os⟩ := s
  refine ks_wpAny_call_super (KX _ _ hC) rfl ho rfl (fun c e => by cases e) (PySem.W.looks_mroIn KX S.sub) (fun h1 e1 kk1 => ?_)
  have I1 : Inv X pins σ H ⟨h1, g, d, tk, os⟩ := I.kept (t' := tk) kk1
  have KX1 := I1.kIn
  have II1 : PySem.W.InstAt h1 a { cls := .ref D, dict := none, data := .fields #[.ref t1, .none, .none, .none, .bool false, .none] } D none := ⟨kk1 _ _ ho, rfl, rfl, trivial⟩
  have sup := S.sup
  unfold PySem.W.ks_superIn at sup
  rw [hcls] at sup
  refine PySem.W.kxs_getMethod PySem.W.kxs_ValueError e1 (PySem.W.looks_opaque KX1 S.stat) (l₀ := .ref D :: bm) (fun A Q E s k q => wpAny_bind ((PySem.W.looks_clsIn KX1 hcls) A _ E s k (wpAny_pure q))) rfl KX1 sup (II1.type.andThen (PySem.W.looks_subIn KX1 S.ve)) (PySem.W.ks_ne KX1 II1 hcls) hat ?_
  show wpAny _ _ (callWith pos (.ref h1.objs.size) [] (backTo pos (starEach (e :: es) X.env)) []) _ _ _
  have kk2 : ∀ b o, h1.get? b = some o → (h1.push (PySem.W.kxs_mw "ValueError.__init__" a)).get? b = some o := fun b o e => Heap.get?_push_of_some _ e
  have I2 : Inv X pins σ H ⟨h1.push (PySem.W.kxs_mw "ValueError.__init__" a), g, d, tk + 1, os⟩ := I1.kept (t' := tk + 1) kk2
  have eu : (h1.push (PySem.W.kxs_mw "ValueError.__init__" a)).get? h1.objs.size = some (PySem.W.kxs_mw "ValueError.__init__" a) := Heap.get?_push_at rfl rfl
  have hnu : H h1.objs.size = none := I1.hok.fresh (Nat.le_refl _)
  have I3 : Inv X ((h1.objs.size, PySem.W.kxs_mw "ValueError.__init__" a) :: pins) σ H ⟨h1.push (PySem.W.kxs_mw "ValueError.__init__" a), g, d, tk + 1, os⟩ := by
    refine I2.pins_of fun p hp => ?_
    rcases List.mem_cons.mp hp with rfl | hp
    · exact ⟨eu, hnu, Ne.symm (Nat.ne_of_lt I1.lt), I1.nofs (Nat.le_refl _), fun v z => by cases z⟩
    · exact I2.pin p (List.mem_append_right _ hp)
  have key := thn (Q' := fun us s4 => PySem.W.KxsAt "ValueError.__init__" h1.objs.size a s4.heap ∧ wpAny (model X.prog X.w) X.A (call (.ref h1.objs.size) ([] ++ us) []) (fun _ s' => PySem.wpAt (model X.prog X.w) X.A (.func body X.env) (execs rest X.env) (SP X pins E) X.xe s') X.xe s4)
      (hA.run pos _ _ σ H _ I3 hta) fun us s4 ⟨vs4, H4, I4, r4, hz, ea4, q4⟩ => by
    have hu4 := (I4.pin _ (List.mem_append_right _ (List.mem_cons_self ..))).1
    have I5 : Inv X pins σ H4 s4 := I4.pins_of fun p hp => I4.pin p (List.mem_append_right _ (List.mem_cons_of_mem _ hp))
    refine ⟨hu4, ?_⟩
    exact call_sup T I5 ea4 hu4 (by rw [List.nil_append, ← Paired.length r4, sizeLine_eq]; omega) fun s' J => wpAt_of_wpAny (hR.run pins s' σ H4 E J q4)
  rw [he] at key ⊢
  refine PySem.W.kxs_callWith (i := "ValueError.__init__") (x := a) (by show (false || (backTo pos (starEach es X.env)).any (·.1)) = false; rw [hpl]; rfl) ?_
  exact PySem.Calls.evalArgs_plain key
end
/-- an own exception's __init__ as it stands behind the top -/
structure XFun (P : Program) (K : PySem.W.Frag) (qual : Str) (st : Stmt) (D f : Addr) (fd : FuncData) (cc cda : Addr) : Prop where
  ex : ∃ (dV kV doc pm : Value) (an : Option Addr) (ct : Value), fd = PySem.W.fnX "__init__" qual (defArgs st) (defBody st) (defScope st) [("__class__", cc)] dV kV doc pm an (.ref cda) ct
  sup : SupC P K D f cc cda fd
  code : PySem.W.codeIn K (.ref cda) qual = true
/-- the context of its body -/
abbrev xcx (CX : CXT) (P : Program) (w : World) (K : PySem.W.Frag) (mg : Str → Option Value) (base : Heap) (N : List Str) (qual : Str) (st : Stmt) (f cc cda : Addr) (A : Around) (outer : List Env) (s : Shared) (H : Hp) (E : XK) : Cx :=
  ncx CX P w K mg base N ⟨"__init__", qual, defArgs st, defBody st, defScope st, [("__class__", cc)], cda⟩ f A outer s H E
section
variable {CX : CXT} {P : Program} {w : World} {K : PySem.W.Frag} {mg : Str → Option Value} {base : Heap} {qual : Str} {st : Stmt} {D f cc cda : Addr} {fd : FuncData} {N ps : List Str} {k : Nat} {sp : Sp} {ar : Arg} {p0 p1 p2 p3 pos : Pos} {e : Expr} {es : List Expr} {rest : List Stmt}
theorem xok (F : XFun P K qual st D f fd cc cda) (T : OexC K D) (hm : mg "super" = none) (S : NScope N ps ["__class__"] (defScope st)) (len : ∀ vs H Q E, sp vs H Q E → vs.length = ps.length)
    (hb : defBody st = .Expr (.Call (.Attribute (.Call (.Name "super" p0) [] [] p1) "__init__" p2) (e :: es) [] pos) p3 :: rest)
    (hp : ((defArgs st).posonlyargs ++ (defArgs st).args).head? = some ar) (hN : N[0]? = some ar.arg) (hka : (defScope st).names.lookup ar.arg = some .local)
    (hks : (defScope st).names.lookup ("super" : Str) = some .globalImplicit)
    (hc : ∀ L : Addr, ∃ pl : Sem Bool, eval (.Call (.Attribute (.Call (.Name "super" p0) [] [] p1) "__init__" p2) (e :: es) [] pos) (PySem.W.envX qual (defScope st) L f (.ref cda) [("__class__", cc)]) = (do
      let ov ← attributeBase (.Call (.Name "super" p0) [] [] p1) "__init__" (PySem.W.envX qual (defScope st) L f (.ref cda) [("__class__", cc)]) (eval (.Call (.Name "super" p0) [] [] p1) (PySem.W.envX qual (defScope st) L f (.ref cda) [("__class__", cc)]))
      standAt p2.atName
      let (g, first) ← holding [ov] (getMethod ov "__init__" pl)
      callWith pos g first (backTo pos (starEach (e :: es) (PySem.W.envX qual (defScope st) L f (.ref cda) [("__class__", cc)]))) []))
    (hs : ∀ L : Addr, swapsWith (.Call (.Attribute (.Call (.Name "super" p0) [] [] p1) "__init__" p2) (e :: es) [] pos) none p3.line (PySem.W.envX qual (defScope st) L f (.ref cda) [("__class__", cc)]) = pure false)
    (he : ∀ L : Addr, starEach (e :: es) (PySem.W.envX qual (defScope st) L f (.ref cda) [("__class__", cc)]) = (false, eval e (PySem.W.envX qual (defScope st) L f (.ref cda) [("__class__", cc)])) :: starEach es (PySem.W.envX qual (defScope st) L f (.ref cda) [("__class__", cc)]))
    (hpl : ∀ L : Addr, (backTo pos (starEach es (PySem.W.envX qual (defScope st) L f (.ref cda) [("__class__", cc)]))).any (·.1) = false)
    (body : ∀ (A : Around) (outer : List Env) (s : Shared) (H : Hp) (vs : List V) (Q : VK) (E : XK), Room k (A.deeper (PySem.W.envX qual (defScope st) s.heap.objs.size f (.ref cda) [("__class__", cc)])) → sp vs H Q E →
      ∃ ta t, PA (xcx CX P w K mg base N qual st f cc cda A outer s H E) (e :: es) ta ∧ PSs (xcx CX P w K mg base N qual st f cc cda A outer s H E) rest t ∧
        tSup K D ta t { nx := fun _ H' => Q .non H', rt := Q } (startF N vs [none]) H) : FnOk P w K mg base CX (k + 1) f fd ps sp := by
  obtain ⟨dV, kV, doc, pm, an, ct, rfl⟩ := F.ex
  obtain ⟨oc, od, osl, hf⟩ := F.sup.fn
  obtain ⟨cl, cld, csl, hcell⟩ := F.sup.cell
  refine ⟨len, fun A outer s H ar' us vs Q E hr e0 hbi r hsp => ?_⟩
  have hl := len _ _ _ _ hsp
  have old : ∀ b o, base.get? b = some o → s.heap.get? b = some o := fun b o e => (e0.bs b o e).1
  have kin : K.In s.heap := e0.mod.kin.keeps old
  have hcc : H cc = none := (e0.bs _ _ (e0.mod.kin _ _ hcell)).2
  refine codeAny_call_function hr.depth (kin _ _ hf) rfl S.co S.gen rfl (PySem.W.codeRec_of kin F.code) (hbi _ _ _ _ ?_)
  refine wpAny_newFunctionEnv S.nocell (fun ⟨n, _⟩ hy => S.par n (List.of_mem_zip hy).1) (fun h₁ hns hsb => ⟨(e0.mod.nolimit.keeps old).fresh _ hsb, ?_⟩) S.kind
  have kp : ∀ b o, s.heap.get? b = some o → h₁.get? b = some o := fun b o e => hsb.extBut b o (Nat.ne_of_lt (Heap.lt_size e)) (Heap.get?_push_of_some _ e)
  obtain ⟨ta, t, hA, hR, hq⟩ := body A outer s H vs Q E (hr.deeper _) hsp
  have C : CellsAt [("__class__", cc)] ["__class__"] [none] s.heap H := by
    have lk : ∀ {y : Str} {c : Addr}, ([(("__class__" : Str), cc)] : List (Str × Addr)).lookup y = some c → y = "__class__" ∧ c = cc := by
      intro y c e
      rw [List.lookup_cons] at e
      cases hy : (y == ("__class__" : Str)) with
      | true =>
        rw [hy] at e
        exact ⟨by simpa using hy, (Option.some.inj e).symm⟩
      | false =>
        rw [hy] at e
        cases e
    refine ⟨rfl, fun y c e => ?_, fun x y c e1 e2 => ?_, fun i y e => ?_⟩
    · obtain ⟨_, rfl⟩ := lk e
      exact ⟨hcc, _, _, kin _ _ hcell, rfl⟩
    · rw [(lk e1).1, (lk e2).1]
    · match i, e with
      | 0, e =>
        cases e
        exact ⟨cc, by simp [List.lookup], fun v z => by cases z⟩
  have I : Inv (xcx CX P w K mg base N qual st f cc cda A outer s H E) [] (startF N vs [none]) H { s with heap := h₁, toks := s.toks + (ps.zip us).length } :=
    inv_startN (F := ⟨"__init__", qual, defArgs st, defBody st, defScope st, [("__class__", cc)], cda⟩) S hr.hd e0 hl r C hns kp
  show codeAny _ _ (.func (defBody st) (PySem.W.envX qual (defScope st) s.heap.objs.size f (.ref cda) [("__class__", cc)])) _ _
  refine ks_codeAny_funcAt ?_
  have B := body_sup (X := xcx CX P w K mg base N qual st f cc cda A outer s H E) (body := defBody st) (cc := cc) (cda := cda) (p3 := p3) F.sup T hm hA hR I hq hp hN hka (.inl hka) hks (S.frk _ (List.mem_cons_self ..)) rfl rfl (show ([(("__class__" : Str), cc)] : List (Str × Addr)).lookup ("__class__" : Str) = some cc by simp [List.lookup]) (fun _ => hc _) (hs _) (he _) (hpl _)
  rw [← hb] at B
  refine ks_wpAt_mono B (fun fl s' hs' => ?_) fun e s' z => z
  have fin : ∀ {σ' : L2.St} {H' : Hp} {v : V} {u : Value}, Inv (xcx CX P w K mg base N qual st f cc cda A outer s H E) [] σ' H' s' → L2.RelV v u → Q v H' → CE outer P w H s Q u s' :=
    fun {σ' H' v u} J rv q => ⟨v, H', J.os, J.bare, J.base, J.hok, rv, q⟩
  cases fl with
  | ret u =>
    obtain ⟨v, σ', H', J, rv, q⟩ := hs'
    exact fin J rv q
  | next =>
    obtain ⟨σ', H', J, q⟩ := hs'
    exact fin (v := V.non) (u := Value.none) J rfl q
  | brk =>
    obtain ⟨_, _, _, q⟩ := hs'
    exact False.elim q
  | cont =>
    obtain ⟨_, _, _, q⟩ := hs'
    exact False.elim q
end
end Lf

set_option Elab.async false
set_option linter.all false
set_option maxRecDepth 100000
set_option maxHeartbeats 4000000
/-! Own classes made, and their methods called, where no guard stands (FnG). -/
namespace Lf
open PySem PySem.Spec PyProof.Rows L2
theorem make_guards {A : Around} (h : A.guards = some []) (C : Addr) (us : List Value) (kw : List (Str × Value)) : (A.under (.builtin "type.__call__" ⟨.ref C :: us, kw⟩)).guards = some [] := by
  show pushGuards (Code.guards (.builtin "type.__call__" ⟨.ref C :: us, kw⟩)) A.guards = some []
  rw [h]
  rfl
section
variable {X : Cx} {CX : CXT} {k n : Nat} {f C : Addr} {fd : FuncData} {ps ks : List Str} {sp : Sp} {x m : Str} {p pos apos : Pos} {e o : Expr} {es : List Expr} {kws : List Keyword} {ta : TE} {t tk : TA} {g : List Value → List Value → List Value} {gV : List V → List V → List V}
/-- an __init__ runs on a new object -/
theorem run_mkG {pins : List (Addr × Obj)} {σ : L2.St} {H : Hp} {s : Shared} {Q : VK} {us ws : List Value} {vs zs : List V} {E : XK} (M : Mk X.K C f) (F : FnG X.prog X.w X.K X.mg X.base CX k f fd ps sp) (hr : Room (k + 1) X.A) (hG : X.A.guards = some []) (hb : KBn X.K fd ps (n + 1) ks g gV)
    (hx : PassesAt CX X σ E) (I : Inv X pins σ H s) (r : Vals vs us) (rz : Vals zs ws) (l1 : vs.length = n) (l2 : zs.length = ks.length)
    (h : ∀ x dx, H x = none → H dx = none → dx ≠ x → sp (gV (.ref x :: vs) zs) (upd (upd H dx (.own x)) x (.ins C dx [])) (fun v H2 => v = .non ∧ Q (.ref x) H2) E) :
    wpAny (model X.prog X.w) X.A (call (.ref C) us (ks.zip ws)) (EP X pins σ Q) X.xe s := by
  have hq := h (s.heap.objs.size + 1) s.heap.objs.size (I.hok.fresh (Nat.le_succ _)) (I.hok.fresh (Nat.le_refl _)) (Nat.ne_of_lt (Nat.lt_succ_self _))
  have I2 := Inv.made (C := C) I
  have r1 : Vals (V.ref (s.heap.objs.size + 1) :: vs) (Value.ref (s.heap.objs.size + 1) :: us) := .cons rfl r
  have r2 := hb.rel r1 rz
  have lu : (Value.ref (s.heap.objs.size + 1) :: us).length = n + 1 := by
    rw [List.length_cons, ← Paired.length r, l1]
  have lw : ws.length = ks.length := by rw [← Paired.length rz, l2]
  refine wpAny_call (make_map (f := f) I.kIn M.makes M.init (beq_iff_eq.mp M.fn) (codeAny_mono (F.goes _ X.stack _ _ ⟨Value.ref (s.heap.objs.size + 1) :: us, ks.zip ws⟩ _ _ _ E (hr.make C us (ks.zip ws)) (make_guards hG C us (ks.zip ws))
    (I2.env0.make C us (ks.zip ws)) (hb.to _ _ _ I2.kIn lu lw) r2 hq) fun r s' hq' => ?_))
  cases r with
  | error e => exact hx pins _ _ e s' I2 hq'
  | ok fl =>
    cases fl with
    | ret u =>
      obtain ⟨v, H', I3, rv, ev, q3⟩ := I2.after hq'
      subst ev
      exact ⟨rv, ⟨V.ref (s.heap.objs.size + 1), H', I3, rfl, q3⟩⟩
    | next => exact False.elim hq'
    | brk => exact False.elim hq'
    | cont => exact False.elim hq'
/-- C(e, ..), C(e, .., k = v, ..) -/
def tMkG (C : Addr) (n m : Nat) (sp : Sp) (gV : List V → List V → List V) (E : L2.St → XK) (t tk : TA) : TE := fun σ H Q => t σ H fun vs H1 => tk σ H1 fun zs H2 => vs.length = n ∧ zs.length = m ∧ ∀ x dx, H2 x = none → H2 dx = none → dx ≠ x →
  sp (gV (.ref x :: vs) zs) (upd (upd H2 dx (.own x)) x (.ins C dx [])) (fun v H3 => v = .non ∧ Q (.ref x) H3) (E σ)
/-- the class of the module's name x can be made; sp: its __init__ -/
structure MakG (P : Program) (w : World) (K : PySem.W.Frag) (mg : Str → Option Value) (base : Heap) (CX : CXT) (k : Nat) (x : Str) (C f : Addr) (fd : FuncData) (ps : List Str) (sp : Sp) : Prop where
  mks : Mk K C f
  fn : FnG P w K mg base CX k f fd ps sp
  g : mg x = some (.ref C)
theorem pe_mkG {E : L2.St → XK} (M : MakG X.prog X.w X.K X.mg X.base CX k x C f fd ps sp) (hb : KBn X.K fd ps (n + 1) [] g gV) (hr : Room (k + 1) X.A) (hG : X.A.guards = some []) (hx : ∀ σ, PassesAt CX X σ (E σ))
    (ha : PA X (e :: es) t) (hg : Gl X x := by rfl) (hdb : (x == ("__debug__" : Str)) = false := by decide) (he : starEach (e :: es) X.env = (false, eval e X.env) :: starEach es X.env := by rfl) (hpl : (backTo pos (starEach es X.env)).any (·.1) = false := by rfl) :
    PE X (.Call (.Name x p) (e :: es) [] pos) (tMkG C n 0 sp gV E t tNil) := by
  refine ⟨fun pins s σ H Q I h => ?_⟩
  refine wpAny_Call_Name_kw (ld_glob I hg M.g ?_ hdb)
  refine PySem.W.callWith_K (h₀ := X.base) I.ok.mod.kin M.mks.kp (thn (ha.run pos pins s σ H _ I h) fun us s1 ⟨vs, H1, I1, r, l1, l2, q⟩ => ⟨I1.kIn, ?_⟩) he hpl
  exact run_mkG (ws := []) (zs := []) M.mks M.fn hr hG hb (hx σ) I1 r .nil l1 l2 q
theorem pe_mkGK {E : L2.St → XK} (M : MakG X.prog X.w X.K X.mg X.base CX k x C f fd ps sp) (hb : KBn X.K fd ps (n + 1) ks g gV) (hr : Room (k + 1) X.A) (hG : X.A.guards = some []) (hx : ∀ σ, PassesAt CX X σ (E σ))
    (ha : PA X (e :: es) t) (hkw : PK X kws tk) (hks : (backToKw pos (keywordEach kws X.env)).filterMap (·.1) = ks := by rfl) (hg : Gl X x := by rfl) (hall : (backToKw pos (keywordEach kws X.env)).all (·.1.isSome) = true := by rfl)
    (hdb : (x == ("__debug__" : Str)) = false := by decide) (he : starEach (e :: es) X.env = (false, eval e X.env) :: starEach es X.env := by rfl)
    (hpl : ((backTo pos (starEach (e :: es) X.env)).any (·.1) || (backToKw pos (keywordEach kws X.env)).any (·.1.isNone)) = false := by rfl) :
    PE X (.Call (.Name x p) (e :: es) kws pos) (tMkG C n ks.length sp gV E t tk) := by
  refine ⟨fun pins s σ H Q I h => ?_⟩
  refine wpAny_Call_Name_kw (ld_glob I hg M.g ?_ hdb)
  refine PySem.W.callWith_KW (h₀ := X.base) I.ok.mod.kin M.mks.kp hall (thn (ha.run pos pins s σ H _ I h) fun us s1 ⟨vs, H1, I1, r, q⟩ => ?_) hpl he
  refine thn (hkw.run pos pins s1 σ H1 _ I1 q) fun ws s2 ⟨zs, H2, I2, rz, l1, l2, q2⟩ => ⟨I2.kIn, ?_⟩
  rw [hks]
  exact run_mkG M.mks M.fn hr hG hb (hx σ) I2 r rz l1 l2 q2
theorem pe_mkGN {E : L2.St → XK} (M : MakG X.prog X.w X.K X.mg X.base CX k x C f fd ps sp) (hb : KBn X.K fd ps (0 + 1) ks g gV) (hr : Room (k + 1) X.A) (hG : X.A.guards = some []) (hx : ∀ σ, PassesAt CX X σ (E σ))
    (hkw : PK X kws tk) (hks : (backToKw pos (keywordEach kws X.env)).filterMap (·.1) = ks := by rfl) (hg : Gl X x := by rfl) (hall : (backToKw pos (keywordEach kws X.env)).all (·.1.isSome) = true := by rfl)
    (hdb : (x == ("__debug__" : Str)) = false := by decide)
    (hpl : ((backTo pos (starEach [] X.env)).any (·.1) || (backToKw pos (keywordEach kws X.env)).any (·.1.isNone)) = false := by rfl) :
    PE X (.Call (.Name x p) [] kws pos) (tMkG C 0 ks.length sp gV E tNil tk) := by
  refine ⟨fun pins s σ H Q I h => ?_⟩
  refine wpAny_Call_Name_kw (ld_glob I hg M.g ?_ hdb)
  refine PySem.W.callWith_KW0 (h₀ := X.base) I.ok.mod.kin M.mks.kp hall (thn (hkw.run pos pins s σ H _ I h) fun ws s2 ⟨zs, H2, I2, rz, l1, l2, q2⟩ => ⟨I2.kIn, ?_⟩) hpl
  rw [hks]
  exact run_mkG (us := []) (vs := []) M.mks M.fn hr hG hb (hx σ) I2 .nil rz l1 l2 q2
/-- o.m(e, ..) where no guard stands -/
def tMeG (C : Addr) (m : Str) (sp : Sp) (E : L2.St → XK) (ta : TE) (t : TA) : TE := fun σ H Q => ta σ H fun x H1 => ∃ a dx fs, x = .ref a ∧ H1 a = some (.ins C dx fs) ∧ fs.lookup m = none ∧ t σ H1 fun vs H2 => sp (.ref a :: vs) H2 Q (E σ)
structure MetG (P : Program) (w : World) (K : PySem.W.Frag) (mg : Str → Option Value) (base : Heap) (CX : CXT) (k : Nat) (C : Addr) (m : Str) (f : Addr) (fd : FuncData) (ps : List Str) (sp : Sp) : Prop where
  c : Cls K C
  m : Meth K C m f
  fn : FnG P w K mg base CX k f fd ps sp
  b : ∀ (s : Shared) (us : List Value), us.length = ps.length → BindsTo s fd ⟨us, []⟩ (ps.zip us)
theorem pe_meG {pl : Sem Bool} {E : L2.St → XK} (he : PE X o ta) (M : MetG X.prog X.w X.K X.mg X.base CX k C m f fd ps sp) (hr : Room k X.A) (hG : X.A.guards = some []) (hx : ∀ σ, PassesAt CX X σ (E σ)) (ha : PA X (e :: es) t)
    (hst : starEach (e :: es) X.env = (false, eval e X.env) :: starEach es X.env := by rfl) (hpl : (backTo pos (starEach es X.env)).any (·.1) = false := by rfl)
    (ht : eval (.Call (.Attribute o m apos) (e :: es) [] pos) X.env = (do
      let ov ← eval o X.env
      standAt apos.atName
      let (f, first) ← holding [ov] (getMethod ov m pl)
      callWith pos f first (backTo pos (starEach (e :: es) X.env)) (backToKw pos (keywordEach [] X.env))) := by rfl) :
    PE X (.Call (.Attribute o m apos) (e :: es) [] pos) (tMeG C m sp E ta t) := by
  refine ⟨fun pins s σ H Q I h => ?_⟩
  refine PySem.W.methodCall_KW (pl := pl) (thn (he.run pins s σ H _ I h) fun u s1 ⟨x, H1, I1, rx, a, dx, fs, ex, ea, l, q⟩ => ?_) ht
  subst ex
  obtain rfl : u = Value.ref a := rx
  refine getmeth_ok I1 ea M.c M.m l ?_
  refine PySem.W.callWith_K (first := [.ref a]) (h₀ := X.base) I.ok.mod.kin M.m.kp (thn (ha.run pos pins s1 σ H1 _ I1 q) fun us s2 ⟨vs, H2, I2, r, q2⟩ => ⟨I2.kIn, ?_⟩) hst hpl
  have r' : Vals (V.ref a :: vs) (Value.ref a :: us) := .cons rfl r
  exact run_g (ar := ⟨.ref a :: us, []⟩) M.fn hr hG (hx σ) I2 (M.b s2 _ ((Paired.length r').symm.trans (M.fn.size _ _ _ _ q2))) r' q2
theorem pe_meG0 {pl : Sem Bool} {E : L2.St → XK} (he : PE X o ta) (M : MetG X.prog X.w X.K X.mg X.base CX k C m f fd ps sp) (hr : Room k X.A) (hG : X.A.guards = some []) (hx : ∀ σ, PassesAt CX X σ (E σ))
    (ht : eval (.Call (.Attribute o m apos) [] [] pos) X.env = (do
      let ov ← eval o X.env
      standAt apos.atName
      let (f, first) ← holding [ov] (getMethod ov m pl)
      callWith pos f first (backTo pos (starEach [] X.env)) (backToKw pos (keywordEach [] X.env))) := by rfl) :
    PE X (.Call (.Attribute o m apos) [] [] pos) (tMeG C m sp E ta tNil) := by
  refine ⟨fun pins s σ H Q I h => ?_⟩
  refine PySem.W.methodCall_KW (pl := pl) (thn (he.run pins s σ H _ I h) fun u s1 ⟨x, H1, I1, rx, a, dx, fs, ex, ea, l, q⟩ => ?_) ht
  subst ex
  obtain rfl : u = Value.ref a := rx
  refine getmeth_ok I1 ea M.c M.m l ?_
  have r' : Vals [V.ref a] [Value.ref a] := .cons rfl .nil
  exact PySem.W.callWith_K0 (first := [.ref a]) I1.kIn M.m.kp (run_g (ar := ⟨[.ref a], []⟩) M.fn hr hG (hx σ) I1 (M.b s1 _ ((Paired.length r').symm.trans (M.fn.size _ _ _ _ q))) r' q)
end
section
variable {P : Program} {w : World} {K : PySem.W.Frag} {mg : Str → Option Value} {base : Heap} {CX : CXT} {k : Nat} {f : Addr} {fd : FuncData} {ps : List Str} {sp : Sp} {x qual : Str} {st : Stmt} {N : List Str} {dvs : List V} {kws : List (Str × V)}
/-- a def with defaults, by its body -/
theorem GfunDX (F : FunD K x qual (defArgs st) (defBody st) (defScope st) dvs kws f fd) (S : FnScope N ps (defScope st)) (size : ∀ vs H Q E, sp vs H Q E → vs.length = ps.length)
    (body : ∀ (cdv : Value) (B : Around) (out : List Env) (s : Shared) (H : Hp) (vs : List V) (Q : VK) (E : XK), B.guards = some [] →
      Room k (B.deeper (envOfC qual (defScope st) s.heap.objs.size f cdv)) → sp vs H Q E →
      ∃ t, PSs (cxOf CX P w K mg base N qual (defScope st) f cdv B out s H E) (defBody st) t ∧
        t { nx := fun _ H' => Q .non H', rt := Q } (start N vs) H) : FnG P w K mg base CX (k + 1) f fd ps sp := by
  obtain ⟨oc, od, dV, kV, doc, pm, an, cdv, ct, osl, rfl, lk, hcd, _, _⟩ := F.ex
  refine ⟨size, fun B out s H ar us vs Q E hr hg e0 hb r hs => ?_⟩
  have old : ∀ b o, base.get? b = some o → s.heap.get? b = some o := fun b o e => (e0.bs b o e).1
  have kin : K.In s.heap := e0.mod.kin.keeps old
  refine codeAny_call_function hr.depth (kin _ _ lk) rfl S.co S.gen rfl (PySem.W.codeRec_of kin hcd) (hb _ _ _ _ ?_)
  refine wpAny_newFunctionEnv_cells S.kind (fun ⟨n, v⟩ hy => ?_) fun env he s1 x => ?_
  · rcases S.par n (List.of_mem_zip hy).1 with q | q
    · exact Or.inl q
    · exact Or.inr ⟨q, PySem.W.cellsFrom_some _ _ _ (Or.inl q)⟩
  · subst he
    refine ⟨(e0.mod.nolimit.keeps old).keeps x.toInCall.keep, codeAny_func ?_⟩
    obtain ⟨t, ht, hq⟩ := body cdv B out s H vs Q E hg (hr.deeper _) hs
    have I := inv_start (CX := CX) (N := N) (qual := qual) (cd := cdv) (E := E) S hr.hd e0 (size _ _ _ _ hs) r x
    refine wpAny_mono (ht.run [] s1 (start N vs) H _ I hq) (fun fl s' hs' => ?_) fun e s' z => z
    cases fl with
    | ret u =>
      obtain ⟨v, σ', H', J, rv, q⟩ := hs'
      exact ⟨v, H', J.os, J.bare, J.base, J.hok, rv, q⟩
    | next =>
      obtain ⟨σ', H', J, q⟩ := hs'
      exact ⟨V.non, H', J.os, J.bare, J.base, J.hok, rfl, q⟩
    | brk =>
      obtain ⟨_, _, _, q⟩ := hs'
      exact q.elim
    | cont =>
      obtain ⟨_, _, _, q⟩ := hs'
      exact q.elim
end
end Lf

set_option Elab.async false
set_option linter.all false
set_option maxRecDepth 100000
set_option maxHeartbeats 4000000
/-! isinstance of a caught error that has fields of its own, in the suite that caught it. -/
namespace Lf
open PySem PySem.Spec PySem.Calls PyProof.Rows PySem.W
/-- the library's fact of an own error, asked of the facts that L2.ExcC holds: with or without a dict of its own -/
theorem kit_own {K : Frag} {x D : Addr} {ox : Obj} {od : Option Obj} (T : L2.ExcC K D) : KitX K (.ref x) (.ref D) (fun h => InstAt h x ox D od) :=
  kitx_exc (gt := none) (match any_some T.hd with | ⟨_, hc, _⟩ => by rw [hc]; rfl) T.hg T.hk T.hs T.ha T.hn T.ht T.hm
end Lf
namespace Lf
open PySem PySem.Spec PyProof.Rows L2
/-- isinstance(e, c), e what the suite caught: its class is D, its fields stand -/
def rIsX (K : PySem.W.Frag) (D a : Addr) (cls : Value) (d : Option Addr) : List V → Hp → VK → Prop := fun xs H Q => cls = .ref D ∧ (d = none ∨ ∃ (dd : Addr) (fs : List (Str × V)), d = some dd ∧ H dd = some (.xd fs)) ∧
  ∃ (c : V) (cv : Value) (b : Bool), xs = [.ref a, c] ∧ (∀ u, RelV c u → u = cv) ∧ PySem.W.kitOne K (.ref D) cv = some b ∧ Q (.bl b) H
theorem call_isX {X : Cx} {a D : Addr} {oe : Obj} {cls : Value} {d : Option Addr} {pn : List (Addr × Obj)} (C : ExcC X.K D) (hz : Zc cls d oe) (hf : ∃ vs, oe.data = .fields vs) : CallR (X.suite a ((a, oe) :: pn)) (.builtin "isinstance") (rIsX X.K D a cls d) := by
  intro pins s σ H xs us Q I r h
  obtain ⟨ec, hd, c, cv, b, rfl, hcv, e, q⟩ := h
  cases r with
  | cons rx rr =>
    cases rr with
    | cons rt rr =>
      cases rr
      cases rx
      have ecv := hcv _ rt
      subst ecv
      obtain ⟨hget, _⟩ := I.pin (a, oe) (List.mem_append.mpr (.inl List.mem_cons_self))
      obtain ⟨vs, hv⟩ := hf
      have J : ∃ od, PySem.W.InstAt s.heap a oe D od := by
        rcases hd with hd | ⟨dd, fs, hd, hH⟩
        · exact ⟨none, hget, by rw [hz.1, ec], by unfold PySem.W.notCls; rw [hv] <;> rfl, by rw [hz.2, hd]; trivial⟩
        · have hx : ObjOk X.prog X.w H s.heap dd (.xd fs) := I.hok dd _ hH
          obtain ⟨o, ho⟩ := objOk_get hx
          exact ⟨some o, hget, by rw [hz.1, ec], by unfold PySem.W.notCls; rw [hv] <;> rfl, by rw [hz.2, hd]; exact ho⟩
      obtain ⟨od, J⟩ := J
      exact PySem.W.kia_one (kit_own (od := od) C) I.kIn J e (fun z => nomatch z) fun tk => ⟨.bl b, H, I.kept (t' := tk) fun _ _ z => z, rfl, q⟩
end Lf

set_option Elab.async false
set_option linter.all false
set_option maxRecDepth 100000
set_option maxHeartbeats 4000000
set_option exponentiation.threshold 3000
/-! Fractions that stand in the heap or among the module's constants, and rows of them. -/
namespace Lf
open PySem PySem.Spec PyProof.Rows L2
/-- a fraction stands at v -/
def AtK (K : PySem.W.Frag) (H : Hp) (v : V) (f : Int × Int) : Prop := ∃ p, v = .ref p ∧ SqT K H p [.int f.1, .int f.2]
theorem AtK.same {K : PySem.W.Frag} {H H' : Hp} {v : V} {f : Int × Int} (s : Same H H') (h : AtK K H v f) : AtK K H' v f := by
  obtain ⟨p, e, h⟩ := h
  refine ⟨p, e, ?_⟩
  rcases h with (h | ⟨o, h⟩) | h
  · exact .inl (.inl (s _ _ h))
  · exact .inl (.inr ⟨o, s _ _ h⟩)
  · exact .inr h
theorem AtK.of {K : PySem.W.Frag} {H : Hp} {p : Addr} {f : Int × Int} (h : H p = some (.tup [.int f.1, .int f.2])) : AtK K H (.ref p) f := ⟨p, rfl, .inl (.inl h)⟩
/-- fractions stand at vs -/
def AtKs (K : PySem.W.Frag) (H : Hp) (vs : List V) (fs : List (Int × Int)) : Prop := Paired (AtK K H) vs fs
theorem AtKs.map {K : PySem.W.Frag} {H H' : Hp} (s : ∀ v f, AtK K H v f → AtK K H' v f) : ∀ {vs : List V} {fs : List (Int × Int)}, AtKs K H vs fs → AtKs K H' vs fs
  | _, _, .nil => .nil
  | _, _, .cons a r => .cons (s _ _ a) (AtKs.map s r)
theorem AtKs.same {K : PySem.W.Frag} {H H' : Hp} (s : Same H H') {vs : List V} {fs : List (Int × Int)} (h : AtKs K H vs fs) : AtKs K H' vs fs := h.map fun _ _ => AtK.same s
theorem AtKs.get {K : PySem.W.Frag} {H : Hp} : ∀ {vs : List V} {fs : List (Int × Int)} {i : Nat} {v : V}, AtKs K H vs fs → vs[i]? = some v → ∃ f, fs[i]? = some f ∧ AtK K H v f
  | _, _, _, _, .nil, e => by simp at e
  | _, _, 0, _, .cons a _, e => by
    simp at e
    subst e
    exact ⟨_, rfl, a⟩
  | _, _, i + 1, v, .cons _ r, e => by
    obtain ⟨f, h1, h2⟩ := AtKs.get (i := i) (v := v) r (by simpa using e)
    exact ⟨f, by simpa using h1, h2⟩
theorem AtKs.getF {K : PySem.W.Frag} {H : Hp} : ∀ {vs : List V} {fs : List (Int × Int)} {i : Nat} {f : Int × Int}, AtKs K H vs fs → fs[i]? = some f → ∃ v, vs[i]? = some v ∧ AtK K H v f
  | _, _, _, _, .nil, e => by simp at e
  | _, _, 0, _, .cons a _, e => by
    simp at e
    subst e
    exact ⟨_, rfl, a⟩
  | _, _, i + 1, f, .cons _ r, e => by
    obtain ⟨v, h1, h2⟩ := AtKs.getF (i := i) (f := f) r (by simpa using e)
    exact ⟨v, by simpa using h1, h2⟩
theorem AtKs.length {K : PySem.W.Frag} {H : Hp} {vs : List V} {fs : List (Int × Int)} (h : AtKs K H vs fs) : vs.length = fs.length := Paired.length h
theorem AtKs.app {K : PySem.W.Frag} {H : Hp} : ∀ {vs us : List V} {fs gs : List (Int × Int)}, AtKs K H vs fs → AtKs K H us gs → AtKs K H (vs ++ us) (fs ++ gs)
  | _, _, _, _, .nil, h => h
  | _, _, _, _, .cons a r, h => .cons a (AtKs.app r h)
theorem fold_take {α β : Type} (g : β → α → β) (a : β) {l : List α} {i : Nat} {x : α} (h : l[i]? = some x) : (l.take (i + 1)).foldl g a = g ((l.take i).foldl g a) x := by
  rw [List.take_add_one, h, List.foldl_append]
  rfl
theorem take_all {l : List (Int × Int)} (h : AllF l) (i : Nat) : AllF (l.take i) := fun f hf => h f (List.mem_of_mem_take hf)
def AllB (b : Nat) (l : List (Int × Int)) : Prop := ∀ f ∈ l, Bt b f
theorem add_bt {b : Nat} : ∀ (l : List (Int × Int)) (k : Nat) (a : Int × Int), IsF a → AllF l → Bt k a → AllB b l → Bt (k + (b + 1) * l.length) (l.foldl fadd a)
  | [], _, _, _, _, h, _ => h
  | f :: l, k, a, ha, h, hk, hb => by
    have := add_bt l (k + b + 1) (fadd a f) (fadd_f ha h.hd) h.tl (fadd_bt ha h.hd hk (hb f List.mem_cons_self)) (fun g hg => hb g (List.mem_cons_of_mem _ hg))
    refine this.mono ?_
    rw [List.length_cons, Nat.mul_succ]
    omega
theorem bt01 : Bt 1 f0 ∧ Bt 1 f1 := ⟨⟨by decide, by decide⟩, ⟨by decide, by decide⟩⟩
theorem fadd_0 {f : Int × Int} (h : IsF f) : fadd f0 f = f := by
  refine rv_inj (fadd_f f0_f h) h ?_
  rw [rv_add f0_f h, rv0]
  exact Rat.zero_add _
/-- what holds by two promises holds by either -/
theorem FnG.or {P : Program} {w : World} {K : PySem.W.Frag} {mg : Str → Option Value} {base : Heap} {CX : CXT} {k : Nat} {f : Addr} {fd : FuncData} {ps : List Str} {sp sq : Sp} (F : FnG P w K mg base CX k f fd ps sp) (G : FnG P w K mg base CX k f fd ps sq) :
    FnG P w K mg base CX k f fd ps (fun vs H Q E => sp vs H Q E ∨ sq vs H Q E) :=
  ⟨fun vs H Q E h => h.elim (F.size vs H Q E) (G.size vs H Q E), fun B out s H ar us vs Q E r hg e0 hb hv h => h.elim (F.goes B out s H ar us vs Q E r hg e0 hb hv) (G.goes B out s H ar us vs Q E r hg e0 hb hv)⟩
end Lf

set_option Elab.async false
set_option linter.all false
set_option maxRecDepth 100000
set_option maxHeartbeats 4000000
namespace Lf
open PySem PySem.Spec PyProof.Rows L2
theorem same_new {H : Hp} {p : Addr} {o : HO} (h : H p = none) : Same H (upd H p o) := fun b x e => by
  rw [upd_ne (ne_of_none e h)]
  exact e
theorem same_rfl {H : Hp} : Same H H := fun _ _ e => e
theorem bt_abs : bootBuiltins "abs" = some (.builtin "abs") := by decide +kernel
theorem bt_len : bootBuiltins "len" = some (.builtin "len") := by decide +kernel
theorem bt_max : bootBuiltins "max" = some (.builtin "max") := by decide +kernel
theorem bt_min : bootBuiltins "min" = some (.builtin "min") := by decide +kernel
theorem bt_divmod : bootBuiltins "divmod" = some (.builtin "divmod") := by decide +kernel
theorem bt_repr : bootBuiltins "repr" = some (.builtin "repr") := by decide +kernel
theorem bt_all : bootBuiltins "all" = some (.builtin "all") := by decide +kernel
theorem bt_int : bootBuiltins "int" = some (.type "int") := by decide +kernel
theorem bt_str : bootBuiltins "str" = some (.type "str") := by decide +kernel
/-- the built-in names that nothing of the text hides -/
structure Blt (mg : Str → Option Value) : Prop where
  abs : mg "abs" = none
  len : mg "len" = none
  max : mg "max" = none
  min : mg "min" = none
  divmod : mg "divmod" = none
  repr : mg "repr" = none
  all : mg "all" = none
  int : mg "int" = none
  str : mg "str" = none
  range : mg "range" = none
/-- an own class under ValueError -/
structure ExT (K : PySem.W.Frag) (mg : Str → Option Value) (x : Str) (C : Addr) : Prop where
  g : mg x = some (.ref C)
  x : PySem.W.excIn K C [.type "ValueError", .type "Exception", .type "BaseException", .type "object"] "ValueError.__new__" = true
  k : PySem.W.keepIn K (.ref C) = true
  b : PySem.W.subIn K (.ref C) (.type "BaseException") = some true
  t : PySem.W.typeIn K (.ref C) = some (.type "type")
  m : PySem.W.exmOne K (.ref C) (.ref C) = some true
section
variable {K : PySem.W.Frag} {H : Hp} {p : Addr} {x y : V} {Q : VK}
theorem ixT0 (h : SqT K H p [x, y]) (q : Q x H) : rIxT K (.ref p) (.int 0) H Q := ⟨p, _, 0, _, rfl, rfl, h, rfl, q⟩
theorem ixT1 (h : SqT K H p [x, y]) (q : Q y H) : rIxT K (.ref p) (.int 1) H Q := ⟨p, _, 1, _, rfl, rfl, h, rfl, q⟩
theorem ixL0 (h : SqL K H p [x, y]) (q : Q x H) : rIxL K (.ref p) (.int 0) H Q := ⟨p, _, 0, _, rfl, rfl, h, rfl, q⟩
theorem ixL1 (h : SqL K H p [x, y]) (q : Q y H) : rIxL K (.ref p) (.int 1) H Q := ⟨p, _, 1, _, rfl, rfl, h, rfl, q⟩
theorem tup2 {a b : V} (q : ∀ p, H p = none → Q (.ref p) (upd H p (.tup [a, b]))) : [a, b].length ≤ sizeLine ∧ ∀ p, H p = none → Q (.ref p) (upd H p (.tup [a, b])) := ⟨by show 2 ≤ sizeLine; decide, q⟩
theorem lst2 {a b : V} (q : ∀ p, H p = none → Q (.ref p) (upd H p (.lst [a, b]))) : [a, b].length ≤ sizeLine ∧ ∀ p, H p = none → Q (.ref p) (upd H p (.lst [a, b])) := ⟨by show 2 ≤ sizeLine; decide, q⟩
end
theorem sm_t {K : PySem.W.Frag} {H H' : Hp} {a : Addr} {xs : List V} (s : Same H H') (h : SqT K H a xs) : SqT K H' a xs := by
  rcases h with (h | ⟨o, h⟩) | h
  · exact .inl (.inl (s _ _ h))
  · exact .inl (.inr ⟨o, s _ _ h⟩)
  · exact .inr h
def topS (i : Nat) : Stmt := PySem.Challenge.pw_loafshares_k14_whole_no_stuffs.main.body.getD i (.Pass ⟨0, 0, 0, 0⟩)
section
variable {P : Program} {w : World} {K : PySem.W.Frag} {mg : Str → Option Value} {base : Heap}
/-! ### common -/
abbrev sCom : Stmt := topS 11
theorem scCom : FnScope ["one", "other"] ["one", "other"] (defScope sCom) := ⟨rfl, rfl, rfl, by decide +kernel, rfl, by decide +kernel, by decide +kernel⟩
def spCom : Sp := fun vs H Q _ => ∃ (a b : Int), vs = [.int a, .int b] ∧ 0 ≤ a ∧ 0 ≤ b ∧ Q (.int (Nat.gcd a.natAbs b.natAbs : Nat)) H
theorem ok_com {f : Addr} {fd : FuncData} (F : Fun K "common" "common" sCom f fd) : FnG P w K mg base CX0 1 f fd ["one", "other"] spCom := by
  refine Gfun F scCom (fun vs H Q E h => ?_) (fun cdv A outer s H vs Q E hg hr h => ?_)
  · obtain ⟨a, b, rfl, _⟩ := h
    rfl
  · obtain ⟨a, b, rfl, ha, hb, q⟩ := h
    refine ⟨_, pss_cons (ps_while PassesOwn.never (pt_cmpR op_ne (pv 1) pe_int (nomark _))
        (pss_one (ps_par (i := 0) (j := 1) rfl scCom.nd rfl rfl (by decide) rfl rfl (pa_cons (pv 1) (pa_cons (pe_op op_mod (pv 0) (pv 1)) pa_nil)) (by rfl))))
      (pss_one (ps_ret (pv 0))), ?_⟩
    refine while_by (fun σ H' => ∃ x y : Int, σ = [some (.int x), some (.int y)] ∧ 0 ≤ x ∧ 0 ≤ y ∧ Nat.gcd x.natAbs y.natAbs = Nat.gcd a.natAbs b.natAbs ∧ H' = H)
      (fun σ _ => match σ with | [_, some (.int y)] => y.toNat | _ => 0) ⟨a, b, rfl, ha, hb, rfl, rfl⟩ ?_ ?_
    · rintro σ H1 ⟨x, y, rfl, hx, hy, hg, rfl⟩
      refine ⟨_, rfl, rfl, _, rfl, ite2 (fun e => ?_) (fun e => ?_)⟩
      · have hy0 : y ≠ 0 := fun z => by
          rw [z] at e
          exact absurd e (by decide)
        have hyp : 0 < y := by omega
        refine ⟨_, rfl, _, rfl, _, rfl, x, y, rfl, rfl, hyp, _, _, rfl, ⟨y, x % y, rfl, hy, Int.emod_nonneg _ hy0, (gcd_step x y hyp hx).trans hg, rfl⟩, ?_⟩
        show (x % y).toNat < y.toNat
        have := Int.emod_lt_of_pos x hyp
        omega
      · have hy0 : y = 0 := by
          by_cases z : y = 0
          · exact z
          · exact absurd (by rw [decide_eq_false (fun q => z (V.int.inj q))]; rfl) e
        subst hy0
        refine ⟨_, rfl, ?_⟩
        rw [← hg, Int.natAbs_zero, Nat.gcd_zero_right] at q
        rw [show (x.natAbs : Int) = x by omega] at q
        exact q
    · rintro σ H1 Q1 Q2 hq ⟨u, hu, h1, h2, h3, h4⟩
      exact ⟨u, hu, h1, h2, h3, hq _ _ h4⟩
/-! ### fraction -/
abbrev sFrac : Stmt := topS 12
theorem scFrac : FnScope ["top", "bottom", "shared"] ["top", "bottom"] (defScope sFrac) := ⟨rfl, rfl, rfl, by decide +kernel, rfl, by decide +kernel, by decide +kernel⟩
/-- below 2 ^ 2000 -/
def Mid (n : Int) : Prop := n.natAbs < 2 ^ 2000
theorem Mid.log {n : Int} (h : Mid n) : n.natAbs.log2 < 9000 := Nat.lt_of_lt_of_le (PySem.Flt.log2_lt_of (by decide) h) (by decide)
/-- a new tuple of two ints -/
def Two (H : Hp) (Q : VK) (t : Int × Int) : Prop := ∀ H' p, Same H H' → H' p = some (.tup [.int t.1, .int t.2]) → Q (.ref p) H'
def spFrac (neg : Bool) : Sp := fun vs H Q _ => ∃ (n d : Int), vs = [.int n, .int d] ∧ d ≠ 0 ∧ (neg = false → 0 < d) ∧ Mid n ∧ Mid d ∧ Two H Q (low n d)
theorem gcd_mid {n d : Int} (h : d ≠ 0) (hd : Mid d) : Mid ((Nat.gcd n.natAbs d.natAbs : Nat) : Int) := by
  unfold Mid at hd ⊢
  rw [Int.natAbs_natCast]
  exact Nat.lt_of_le_of_lt (Nat.le_of_dvd (by omega) (Nat.gcd_dvd_right _ _)) hd
theorem abs_is (n : Int) : (if n < 0 then -n else n) = (n.natAbs : Int) := by
  split <;> omega
theorem ok_frac {j : Nat} {f : Addr} {fd : FuncData} {C : Addr} (neg : Bool) (R : Sp) (hR : ∀ n d H Q, d < 0 → spFrac neg [.int n, .int d] H Q E0 → R [.int (-n), .int (-d)] H Q E0) (M : Blt mg) (X : ExT K mg "NoFraction" C) (F : Fun K "fraction" "fraction" sFrac f fd)
    (C_common : Cal P w K mg base CX0 1 "common" ["one", "other"] spCom) (C_fraction : Cal P w K mg base CX0 (j + 1) "fraction" ["top", "bottom"] R) : FnG P w K mg base CX0 (j + 2) f fd ["top", "bottom"] (spFrac neg) := by
  refine Gfun F scFrac (fun vs H Q E h => ?_) (fun cdv A outer s H vs Q E hg hr h => ?_)
  · obtain ⟨a, b, rfl, _⟩ := h
    rfl
  · obtain ⟨n, d, rfl, hd, hneg, hn2, hd2, q⟩ := h
    refine ⟨_, pss_cons (ps_if (pt_cmpR op_eq (pv 1) pe_int (nomark _)) (pss_one (ps_raise rfl takes0 (pmk_own PySem.F.excBase_ValueError X.x X.g X.k (raises_own X.b X.t) rfl))) pss_nil)
      (pss_cons (ps_if (pt_cmpR op_lt (pv 1) pe_int (nomark _)) (pss_one (ps_ret (pe_g C_fraction (hr.mono (by omega)) hg (pa_cons (pe_un un_neg (pv 0)) (pa_cons (pe_un un_neg (pv 1)) pa_nil))))) pss_nil)
      (pss_cons (ps_set (i := 2) scFrac.nd rfl (.inl rfl) (pe_g C_common (hr.mono (by omega)) hg (pa_cons (pe_callB call_abs rfl M.abs bt_abs (pa_cons (pv 0) pa_nil)) (pa_cons (pv 1) pa_nil))))
      (pss_one (ps_ret (pe_tup (pa_cons (pe_op op_fdivN (pv 0) (pv 2)) (pa_cons (pe_op op_fdivN (pv 1) (pv 2)) pa_nil))))))), ?_⟩
    refine ⟨_, rfl, rfl, _, rfl, ite2 (fun e => ?_) (fun _ => ?_)⟩
    · exact absurd (V.int.inj (of_decide_eq_true e)) hd
    refine ⟨_, rfl, _, _, rfl, rfl, _, rfl, ite2 (fun e => ?_) (fun e => ?_)⟩
    · have e' : d < 0 := of_decide_eq_true e
      refine ⟨_, rfl, _, rfl, _, rfl, _, rfl, ?_⟩
      exact hR n d H Q e' ⟨n, d, rfl, hd, hneg, hn2, hd2, q⟩
    · have e' : 0 < d := by
        have : ¬ d < 0 := fun z => e (decide_eq_true z)
        omega
      refine ⟨_, rfl, _, rfl, _, rfl, _, d, rfl, ?_, Int.le_of_lt e', ?_⟩
      · rw [abs_is]
        omega
      · rw [abs_is, Int.natAbs_natCast]
        have hgz : ((Nat.gcd n.natAbs d.natAbs : Nat) : Int) ≠ 0 := by
          have := gcd_pos (n := n) hd
          omega
        have hm : CDivN n ((Nat.gcd n.natAbs d.natAbs : Nat) : Int) := ⟨hgz, (gcd_mid hd hd2).log⟩
        refine ⟨_, rfl, _, rfl, n, _, rfl, rfl, hm, _, rfl, _, rfl, d, _, rfl, rfl, hm, tup2 fun p hp => ?_⟩
        refine q _ p (same_new hp) ?_
        have := low_fdiv_pos (n := n) (d := d) e'
        rw [← this]
        exact upd_same
end
end Lf

set_option Elab.async false
set_option linter.all false
set_option maxRecDepth 100000
set_option maxHeartbeats 4000000
set_option exponentiation.threshold 3000
namespace Lf
open PySem PySem.Spec PyProof.Rows L2
theorem Sm.mid {n : Int} (h : Sm n) : Mid n := Nat.lt_of_lt_of_le h (Nat.pow_le_pow_right (by decide) (by decide))
theorem Sm.mulW {a b : Int} (ha : Sm a) (hb : Sm b) : CMulW a b := by
  have := ha.log
  have := hb.log
  unfold CMulW
  omega
theorem Sm.prod {a b : Int} (ha : Sm a) (hb : Sm b) : (a * b).natAbs < 2 ^ 1800 := by
  rw [Int.natAbs_mul, show (2 : Nat) ^ 1800 = 2 ^ 900 * 2 ^ 900 by rw [← Nat.pow_add]]
  exact Nat.mul_lt_mul'' ha hb
theorem Sm.mul {a b : Int} (ha : Sm a) (hb : Sm b) : Mid (a * b) := Nat.lt_of_lt_of_le (Sm.prod ha hb) (Nat.pow_le_pow_right (by decide) (by decide))
theorem two_pow : (2 : Nat) ^ 1800 + 2 ^ 1800 = 2 ^ 1801 := (Nat.two_pow_succ 1800).symm
theorem Sm.add {a b c d : Int} (ha : Sm a) (hb : Sm b) (hc : Sm c) (hd : Sm d) : Mid (a * b + c * d) := by
  have h1 := Sm.prod ha hb
  have h2 := Sm.prod hc hd
  have h3 := Int.natAbs_add_le (a * b) (c * d)
  have h4 : (2 : Nat) ^ 1801 ≤ 2 ^ 2000 := Nat.pow_le_pow_right (by decide) (by decide)
  have h5 := two_pow
  unfold Mid
  omega
theorem Sm.sub {a b c d : Int} (ha : Sm a) (hb : Sm b) (hc : Sm c) (hd : Sm d) : Mid (a * b - c * d) := by
  have h1 := Sm.prod ha hb
  have h2 := Sm.prod hc hd
  have h3 := Int.natAbs_sub_le (a * b) (c * d)
  have h4 : (2 : Nat) ^ 1801 ≤ 2 ^ 2000 := Nat.pow_le_pow_right (by decide) (by decide)
  have h5 := two_pow
  unfold Mid
  omega
/-- two handed fractions -/
structure Pr (K : PySem.W.Frag) (H : Hp) (vs : List V) (a b c d : Int) : Prop where
  ex : ∃ p q, vs = [.ref p, .ref q] ∧ SqT K H p [.int a, .int b] ∧ SqT K H q [.int c, .int d]
  hb : b ≠ 0
  hd : d ≠ 0
  a1 : Sm a
  b1 : Sm b
  c1 : Sm c
  d1 : Sm d
theorem mul_ne {a b : Int} (ha : a ≠ 0) (hb : b ≠ 0) : a * b ≠ 0 := Int.mul_ne_zero ha hb
section
variable {P : Program} {w : World} {K : PySem.W.Frag} {mg : Str → Option Value} {base : Heap}
/-! ### fraction of a bottom 0 -/
def spFrac0 (C : Addr) : Sp := fun vs H Q E => ∃ n : Int, vs = [.int n, .int 0] ∧ E (.ref C) none H
theorem ok_frac0 {f : Addr} {fd : FuncData} {C : Addr} {R : Sp} (M : Blt mg) (X : ExT K mg "NoFraction" C) (F : Fun K "fraction" "fraction" sFrac f fd)
    (C_common : Cal P w K mg base CX0 1 "common" ["one", "other"] spCom) (C_fraction : Cal P w K mg base CX0 2 "fraction" ["top", "bottom"] R) : FnG P w K mg base (L2.CX P w) 3 f fd ["top", "bottom"] (spFrac0 C) := by
  refine GfunX F scFrac (fun vs H Q E h => ?_) (fun cdv A outer s H vs Q E hg hr h => ?_)
  · obtain ⟨n, rfl, _⟩ := h
    rfl
  · obtain ⟨n, rfl, q⟩ := h
    refine ⟨_, pss_cons (ps_if (pt_cmpR op_eq (pv 1) pe_int (nomark _)) (pss_one (ps_raise rfl (takes_of rfl rfl rfl rfl) (pmk_own PySem.F.excBase_ValueError X.x X.g X.k (raises_own X.b X.t) rfl))) pss_nil)
      (pss_cons (ps_if (pt_cmpR op_lt (pv 1) pe_int (nomark _)) (pss_one (ps_ret (pe_g C_fraction (hr.mono (by decide)) hg (pa_cons (pe_un un_neg (pv 0)) (pa_cons (pe_un un_neg (pv 1)) pa_nil))))) pss_nil)
      (pss_cons (ps_set (i := 2) scFrac.nd rfl (.inl rfl) (pe_g C_common (hr.mono (by decide)) hg (pa_cons (pe_callB call_abs rfl M.abs bt_abs (pa_cons (pv 0) pa_nil)) (pa_cons (pv 1) pa_nil))))
      (pss_one (ps_ret (pe_tup (pa_cons (pe_op op_fdivN (pv 0) (pv 2)) (pa_cons (pe_op op_fdivN (pv 1) (pv 2)) pa_nil))))))), ?_⟩
    exact ⟨_, rfl, rfl, _, rfl, iteT q⟩

/-! ### plus -/
abbrev s_plus : Stmt := topS 13
theorem sc_plus : FnScope ["one", "other"] ["one", "other"] (defScope s_plus) := ⟨rfl, rfl, rfl, by decide +kernel, rfl, by decide +kernel, by decide +kernel⟩
def sp_plus (K : PySem.W.Frag) : Sp := fun vs H Q _ => ∃ a b c d : Int, Pr K H vs a b c d ∧ Two H Q (low (a * d + c * b) (b * d))
theorem ok_plus {f : Addr} {fd : FuncData} (F : Fun K "plus" "plus" s_plus f fd) (C_fraction : Cal P w K mg base CX0 4 "fraction" ["top", "bottom"] (spFrac true)) : FnG P w K mg base CX0 5 f fd ["one", "other"] (sp_plus K) := by
  refine Gfun F sc_plus (fun vs H Q E h => ?_) (fun cdv A outer s H vs Q E hg hr h => ?_)
  · obtain ⟨a, b, c, d, h, _⟩ := h
    obtain ⟨p, q, rfl, _⟩ := h.ex
    rfl
  · obtain ⟨a, b, c, d, h, k⟩ := h
    obtain ⟨p, q, rfl, hp, hq⟩ := h.ex
    refine ⟨_, (pss_one (ps_ret (pe_g C_fraction (hr.mono (by decide)) hg (pa_cons (pe_op op_add (pe_op op_mulW (pe_ix ix_tup (pv 0) pe_int (fun _ _ => rfl)) (pe_ix ix_tup (pv 1) pe_int (fun _ _ => rfl))) (pe_op op_mulW (pe_ix ix_tup (pv 1) pe_int (fun _ _ => rfl)) (pe_ix ix_tup (pv 0) pe_int (fun _ _ => rfl)))) (pa_cons (pe_op op_mulW (pe_ix ix_tup (pv 0) pe_int (fun _ _ => rfl)) (pe_ix ix_tup (pv 1) pe_int (fun _ _ => rfl))) pa_nil))))), ?_⟩
    refine ⟨_, rfl, p, _, _, _, rfl, rfl, hp, rfl, _, rfl, q, _, _, _, rfl, rfl, hq, rfl, _, _, rfl, rfl, Sm.mulW h.a1 h.d1, ?_⟩
    refine ⟨_, rfl, q, _, _, _, rfl, rfl, hq, rfl, _, rfl, p, _, _, _, rfl, rfl, hp, rfl, _, _, rfl, rfl, Sm.mulW h.c1 h.b1, ?_⟩
    refine ⟨_, _, rfl, rfl, ?_⟩
    refine ⟨_, rfl, p, _, _, _, rfl, rfl, hp, rfl, _, rfl, q, _, _, _, rfl, rfl, hq, rfl, _, _, rfl, rfl, Sm.mulW h.b1 h.d1, ?_⟩
    exact ⟨_, _, rfl, mul_ne h.hb h.hd, (fun z => Bool.noConfusion z), Sm.add h.a1 h.d1 h.c1 h.b1, Sm.mul h.b1 h.d1, k⟩

/-! ### is_less -/
abbrev s_is_less : Stmt := topS 15
theorem sc_is_less : FnScope ["one", "other"] ["one", "other"] (defScope s_is_less) := ⟨rfl, rfl, rfl, by decide +kernel, rfl, by decide +kernel, by decide +kernel⟩
def sp_is_less (K : PySem.W.Frag) : Sp := fun vs H Q _ => ∃ a b c d : Int, Pr K H vs a b c d ∧ Q (.bl (decide (a * d < c * b))) H
theorem ok_is_less {f : Addr} {fd : FuncData} (F : Fun K "is_less" "is_less" s_is_less f fd) : FnG P w K mg base CX0 1 f fd ["one", "other"] (sp_is_less K) := by
  refine Gfun F sc_is_less (fun vs H Q E h => ?_) (fun cdv A outer s H vs Q E hg hr h => ?_)
  · obtain ⟨a, b, c, d, h, _⟩ := h
    obtain ⟨p, q, rfl, _⟩ := h.ex
    rfl
  · obtain ⟨a, b, c, d, h, k⟩ := h
    obtain ⟨p, q, rfl, hp, hq⟩ := h.ex
    refine ⟨_, (pss_one (ps_ret (pe_cmpR op_lt (pe_op op_mulW (pe_ix ix_tup (pv 0) pe_int (fun _ _ => rfl)) (pe_ix ix_tup (pv 1) pe_int (fun _ _ => rfl))) (pe_op op_mulW (pe_ix ix_tup (pv 1) pe_int (fun _ _ => rfl)) (pe_ix ix_tup (pv 0) pe_int (fun _ _ => rfl))) (nomark _)))), ?_⟩
    refine ⟨_, rfl, p, _, _, _, rfl, rfl, hp, rfl, _, rfl, q, _, _, _, rfl, rfl, hq, rfl, _, _, rfl, rfl, Sm.mulW h.a1 h.d1, ?_⟩
    refine ⟨_, rfl, q, _, _, _, rfl, rfl, hq, rfl, _, rfl, p, _, _, _, rfl, rfl, hp, rfl, _, _, rfl, rfl, Sm.mulW h.c1 h.b1, ?_⟩
    exact ⟨_, _, rfl, rfl, k⟩

end
end Lf

set_option Elab.async false
set_option linter.all false
set_option maxRecDepth 100000
set_option maxHeartbeats 4000000
set_option exponentiation.threshold 3000
namespace Lf
open PySem PySem.Spec PyProof.Rows L2
theorem bt_isinstance : bootBuiltins "isinstance" = some (.builtin "isinstance") := by decide +kernel
theorem bt_bool : bootBuiltins "bool" = some (.type "bool") := by decide +kernel
theorem bt_tuple : bootBuiltins "tuple" = some (.type "tuple") := by decide +kernel
structure Bltx (mg : Str → Option Value) : Prop where
  isinstance : mg "isinstance" = none
  bool : mg "bool" = none
  tuple : mg "tuple" = none
theorem len_show {n : Nat} (h : n ≤ 1000) : n ≤ sizeLine := by
  rw [sizeLine_eq]
  omega
theorem u65 {k : Nat} {A : Around} (r : Room k A) : A.units + 65 < cLine := by
  have := r.un
  omega
theorem iteN {c A B : Prop} [Decidable c] (hc : ¬ c) (h : A) : if (!decide c) = true then A else B := by
  rw [decide_eq_false hc]
  exact iteT h
def isI : PyData → Bool
  | .int _ => true
  | .bool _ => true
  | _ => false
def isB : PyData → Bool
  | .bool _ => true
  | _ => false
def isT : PyData → Bool
  | .tuple _ => true
  | _ => false
def isS : PyData → Bool
  | .str _ => true
  | _ => false
def isW : PyData → Bool
  | .int _ => true
  | _ => false
theorem ki_none : kitB "NoneType" "int" = some false := by decide +kernel
theorem ki_bool : kitB "bool" "int" = some true := by decide +kernel
theorem ki_int : kitB "int" "int" = some true := by decide +kernel
theorem ki_str : kitB "str" "int" = some false := by decide +kernel
theorem ki_list : kitB "list" "int" = some false := by decide +kernel
theorem ki_tuple : kitB "tuple" "int" = some false := by decide +kernel
theorem ki_dict : kitB "dict" "int" = some false := by decide +kernel
theorem ki (d : PyData) : kitB (tyN d) "int" = some (isI d) :=
  match d with
  | .none => ki_none
  | .bool _ => ki_bool
  | .int _ => ki_int
  | .str _ => ki_str
  | .list _ => ki_list
  | .tuple _ => ki_tuple
  | .dict _ => ki_dict
theorem kb_none : kitB "NoneType" "bool" = some false := by decide +kernel
theorem kb_bool : kitB "bool" "bool" = some true := by decide +kernel
theorem kb_int : kitB "int" "bool" = some false := by decide +kernel
theorem kb_str : kitB "str" "bool" = some false := by decide +kernel
theorem kb_list : kitB "list" "bool" = some false := by decide +kernel
theorem kb_tuple : kitB "tuple" "bool" = some false := by decide +kernel
theorem kb_dict : kitB "dict" "bool" = some false := by decide +kernel
theorem kb (d : PyData) : kitB (tyN d) "bool" = some (isB d) :=
  match d with
  | .none => kb_none
  | .bool _ => kb_bool
  | .int _ => kb_int
  | .str _ => kb_str
  | .list _ => kb_list
  | .tuple _ => kb_tuple
  | .dict _ => kb_dict
theorem kt_none : kitB "NoneType" "tuple" = some false := by decide +kernel
theorem kt_bool : kitB "bool" "tuple" = some false := by decide +kernel
theorem kt_int : kitB "int" "tuple" = some false := by decide +kernel
theorem kt_str : kitB "str" "tuple" = some false := by decide +kernel
theorem kt_list : kitB "list" "tuple" = some false := by decide +kernel
theorem kt_tuple : kitB "tuple" "tuple" = some true := by decide +kernel
theorem kt_dict : kitB "dict" "tuple" = some false := by decide +kernel
theorem kt (d : PyData) : kitB (tyN d) "tuple" = some (isT d) :=
  match d with
  | .none => kt_none
  | .bool _ => kt_bool
  | .int _ => kt_int
  | .str _ => kt_str
  | .list _ => kt_list
  | .tuple _ => kt_tuple
  | .dict _ => kt_dict
theorem ks_none : kitB "NoneType" "str" = some false := by decide +kernel
theorem ks_bool : kitB "bool" "str" = some false := by decide +kernel
theorem ks_int : kitB "int" "str" = some false := by decide +kernel
theorem ks_str : kitB "str" "str" = some true := by decide +kernel
theorem ks_list : kitB "list" "str" = some false := by decide +kernel
theorem ks_tuple : kitB "tuple" "str" = some false := by decide +kernel
theorem ks_dict : kitB "dict" "str" = some false := by decide +kernel
theorem ks (d : PyData) : kitB (tyN d) "str" = some (isS d) :=
  match d with
  | .none => ks_none
  | .bool _ => ks_bool
  | .int _ => ks_int
  | .str _ => ks_str
  | .list _ => ks_list
  | .tuple _ => ks_tuple
  | .dict _ => ks_dict
def fr2 : PyData → PyData → Bool
  | .int a, .int b => decide (0 < b) && decide (Nat.gcd a.natAbs b.natAbs = 1)
  | _, _ => false
def frL : List PyData → Bool
  | [x, y] => fr2 x y
  | _ => false
def isFr : PyData → Bool
  | .tuple ds => frL ds
  | _ => false
def lets : Str := Str.ofString "abcdefghijklmnopqrstuvwxyz"
def inL (c : Nat) : Bool := decide (c ∈ lets.cps.toList)
def isNm : PyData → Bool
  | .str z => decide (1 ≤ z.length) && decide (z.length ≤ 10) && z.cps.toList.all inL
  | _ => false
section
variable {P : Program} {w : World} {K : PySem.W.Frag} {mg : Str → Option Value} {base : Heap}
theorem Dq.tup {H : Hp} {v : V} {d : PyData} (h : Dq K H v d) (e : isT d = true) : ∃ (a : Addr) (xs : List V) (ds : List PyData), v = .ref a ∧ d = .tuple ds ∧ SqT K H a xs ∧ DpAll K H xs ds ∧ PyData.hasDictAll ds = false := by
  cases h with
  | dp h n =>
    cases h with
    | tup h1 h2 => exact ⟨_, _, _, rfl, rfl, h1, h2, by simpa [PyData.hasDict] using n⟩
    | non => cases e
    | bl _ => cases e
    | int _ => cases e
    | str _ => cases e
    | lst _ _ => cases e
  | dic _ _ => cases e
theorem Dq.txt {H : Hp} {v : V} {d : PyData} (h : Dq K H v d) (e : isS d = true) : ∃ z, v = .str z ∧ d = .str z := by
  cases h with
  | dp h n =>
    cases h with
    | str z => exact ⟨z, rfl, rfl⟩
    | non => cases e
    | bl _ => cases e
    | int _ => cases e
    | tup _ _ => cases e
    | lst _ _ => cases e
  | dic _ _ => cases e
theorem Dq.whole {H : Hp} {v : V} {d : PyData} (h : Dq K H v d) (e : isW d = true) : ∃ i, v = .int i ∧ d = .int i := by
  cases h with
  | dp h n =>
    cases h with
    | int i => exact ⟨i, rfl, rfl⟩
    | non => cases e
    | bl _ => cases e
    | str _ => cases e
    | tup _ _ => cases e
    | lst _ _ => cases e
  | dic _ _ => cases e

def sp_whole (K : PySem.W.Frag) : Sp := fun vs H Q _ => ∃ (v : V) (d : PyData), vs = [v] ∧ Dq K H v d ∧ Q (.bl (isW d)) H
/-! ### is_whole -/
abbrev s_is_whole : Stmt := topS 10
theorem sc_is_whole : FnScope ["thing"] ["thing"] (defScope s_is_whole) := ⟨rfl, rfl, rfl, by decide +kernel, rfl, by decide +kernel, by decide +kernel⟩
theorem ok_whole {f : Addr} {fd : FuncData} (M : Blt mg) (Mx : Bltx mg) (F : Fun K "is_whole" "is_whole" s_is_whole f fd) : FnG P w K mg base CX0 1 f fd ["thing"] (sp_whole K) := by
  refine Gfun F sc_is_whole (fun vs H Q E h => ?_) (fun cdv A outer s H vs Q E hg hr h => ?_)
  · obtain ⟨v, d, rfl, _⟩ := h
    rfl
  · obtain ⟨v, d, rfl, hq, k⟩ := h
    refine ⟨_, (pss_one (ps_ret (pe_and (pe_callB call_isi rfl Mx.isinstance bt_isinstance (pa_cons (pv 0) (pa_cons (pe_bltn (v := .ty "int") rfl M.int bt_int rfl) pa_nil))) (pe_one (pe_not (pe_callB call_isi rfl Mx.isinstance bt_isinstance (pa_cons (pv 0) (pa_cons (pe_bltn (v := .ty "bool") rfl Mx.bool bt_bool rfl) pa_nil)))))))), ?_⟩
    refine ⟨_, rfl, _, _, _, _, _, rfl, .ty "int", hq.ty, kit_ty (ki d), _, rfl, ite2 (fun e => ?_) (fun e => ?_)⟩
    · refine ⟨_, rfl, _, _, _, _, _, rfl, .ty "bool", hq.ty, kit_ty (kb d), _, rfl, ?_⟩
      have : isW d = !isB d := by cases d <;> first | rfl | (cases e)
      rw [← this]
      exact k
    · have : isW d = false := by cases d <;> first | rfl | (exact absurd rfl e)
      rw [this] at k
      exact k

/-! ### _law_is_whole -/
abbrev s__law_is_whole : Stmt := topS 39
theorem sc__law_is_whole : FnScope ["_law_thing"] ["_law_thing"] (defScope s__law_is_whole) := ⟨rfl, rfl, rfl, by decide +kernel, rfl, by decide +kernel, by decide +kernel⟩
theorem ok_lwhole {f : Addr} {fd : FuncData} (M : Blt mg) (Mx : Bltx mg) (F : Fun K "_law_is_whole" "_law_is_whole" s__law_is_whole f fd) : FnG P w K mg base CX0 1 f fd ["_law_thing"] (sp_whole K) := by
  refine Gfun F sc__law_is_whole (fun vs H Q E h => ?_) (fun cdv A outer s H vs Q E hg hr h => ?_)
  · obtain ⟨v, d, rfl, _⟩ := h
    rfl
  · obtain ⟨v, d, rfl, hq, k⟩ := h
    refine ⟨_, (pss_one (ps_ret (pe_and (pe_callB call_isi rfl Mx.isinstance bt_isinstance (pa_cons (pv 0) (pa_cons (pe_bltn (v := .ty "int") rfl M.int bt_int rfl) pa_nil))) (pe_one (pe_not (pe_callB call_isi rfl Mx.isinstance bt_isinstance (pa_cons (pv 0) (pa_cons (pe_bltn (v := .ty "bool") rfl Mx.bool bt_bool rfl) pa_nil)))))))), ?_⟩
    refine ⟨_, rfl, _, _, _, _, _, rfl, .ty "int", hq.ty, kit_ty (ki d), _, rfl, ite2 (fun e => ?_) (fun e => ?_)⟩
    · refine ⟨_, rfl, _, _, _, _, _, rfl, .ty "bool", hq.ty, kit_ty (kb d), _, rfl, ?_⟩
      have : isW d = !isB d := by cases d <;> first | rfl | (cases e)
      rw [← this]
      exact k
    · have : isW d = false := by cases d <;> first | rfl | (exact absurd rfl e)
      rw [this] at k
      exact k

/-! ### is_fraction -/
abbrev s_is_fraction : Stmt := topS 16
theorem sc_is_fraction : FnScope ["thing", "top", "bottom"] ["thing"] (defScope s_is_fraction) := ⟨rfl, rfl, rfl, by decide +kernel, rfl, by decide +kernel, by decide +kernel⟩
def sp_isfr (K : PySem.W.Frag) : Sp := fun vs H Q _ => ∃ (v : V) (d : PyData), vs = [v] ∧ Dq K H v d ∧ Q (.bl (isFr d)) H
theorem isFr_len {ds : List PyData} (h : ds.length ≠ 2) : isFr (.tuple ds) = false := by
  match ds, h with
  | [], _ => rfl
  | [_], _ => rfl
  | [_, _], h => exact absurd rfl h
  | _ :: _ :: _ :: _, _ => rfl
theorem isFr_no {d e : PyData} (h : isW d = false ∨ isW e = false) : isFr (.tuple [d, e]) = false := by
  cases d <;> cases e <;> first | rfl | (rcases h with h | h <;> cases h)
theorem isFr_two {a b : Int} : isFr (.tuple [.int a, .int b]) = (decide (0 < b) && decide (Nat.gcd a.natAbs b.natAbs = 1)) := rfl
theorem DpAll.len {H : Hp} : ∀ {vs : List V} {ds : List PyData}, DpAll K H vs ds → vs.length = ds.length
  | _, _, .nil => rfl
  | _, _, .cons _ r => congrArg Nat.succ (DpAll.len r)
theorem two_of {H : Hp} {xs : List V} {ds : List PyData} (h : DpAll K H xs ds) (hl : xs.length = 2) : ∃ x y d1 d2, xs = [x, y] ∧ ds = [d1, d2] ∧ Dp K H x d1 ∧ Dp K H y d2 := by
  match xs, ds, h, hl with
  | _, _, .cons h1 (.cons h2 .nil), _ => exact ⟨_, _, _, _, rfl, rfl, h1, h2⟩
  | _, _, .nil, e => cases e
  | _, _, .cons _ .nil, e => cases e
  | _, _, .cons _ (.cons _ (.cons _ _)), e => simp at e
theorem ok_isfr {f : Addr} {fd : FuncData} (M : Blt mg) (Mx : Bltx mg) (F : Fun K "is_fraction" "is_fraction" s_is_fraction f fd) (C_is_whole : Cal P w K mg base CX0 1 "is_whole" ["thing"] (sp_whole K)) (C_common : Cal P w K mg base CX0 1 "common" ["one", "other"] spCom) :
    FnG P w K mg base CX0 2 f fd ["thing"] (sp_isfr K) := by
  refine Gfun F sc_is_fraction (fun vs H Q E h => ?_) (fun cdv A outer s H vs Q E hg hr h => ?_)
  · obtain ⟨v, d, rfl, _⟩ := h
    rfl
  · obtain ⟨v, d, rfl, hq, k⟩ := h
    refine ⟨_, (pss_cons (ps_if (PW.pt (pw_or (pt_not (pt_val (pe_callB call_isi rfl Mx.isinstance bt_isinstance (pa_cons (pv 0) (pa_cons (pe_bltn (v := .ty "tuple") rfl Mx.tuple bt_tuple rfl) pa_nil))))) (pw_or1 (pt_cmpR op_ne (pe_callB call_len_seq rfl M.len bt_len (pa_cons (pv 0) pa_nil)) pe_int (nomark _)))))
      (pss_one (ps_ret pe_bl))
      pss_nil)
      (pss_cons (ps_asg (pv 0) (pg_tup rfl (pgs_cons (pg_name (i := 1) sc_is_fraction.nd rfl (.inl rfl)) (pgs_cons (pg_name (i := 2) sc_is_fraction.nd rfl (.inl rfl)) pgs_nil))))
      (pss_cons (ps_if (PW.pt (pw_or (pt_not (pt_val (pe_g C_is_whole (hr.mono (by decide)) hg (pa_cons (pv 1) pa_nil)))) (pw_or1 (pt_not (pt_val (pe_g C_is_whole (hr.mono (by decide)) hg (pa_cons (pv 2) pa_nil)))))))
      (pss_one (ps_ret pe_bl))
      pss_nil)
      (pss_one (ps_ret (pe_and (pe_cmpR op_gt (pv 2) pe_int (nomark _)) (pe_one (pe_cmpR op_eq (pe_g C_common (hr.mono (by decide)) hg (pa_cons (pe_callB call_abs rfl M.abs bt_abs (pa_cons (pv 1) pa_nil)) (pa_cons (pv 2) pa_nil))) pe_int (nomark _))))))))), ?_⟩
    refine ⟨_, rfl, _, _, _, _, _, rfl, .ty "tuple", hq.ty, kit_ty (kt d), _, rfl, ?_⟩
    by_cases ht : isT d = true
    · rw [ht]
      refine iteF ?_
      obtain ⟨a, xs, ds, rfl, rfl, hS, hA, hn⟩ := hq.tup ht
      refine ⟨_, rfl, a, xs, rfl, .inr hS, rfl, _, rfl, ?_⟩
      by_cases hl : xs.length = 2
      · refine iteNS (show V.int (xs.length : Int) = V.int 2 by rw [hl]; rfl) ?_
        obtain ⟨x, y, d1, d2, rfl, rfl, h1, h2⟩ := two_of hA hl
        refine ⟨_, rfl, a, _, rfl, hS, rfl, _, _, rfl, _, _, rfl, rfl, ?_⟩
        have hn' : d1.hasDict = false ∧ d2.hasDict = false := by simpa [PyData.hasDictAll] using hn
        have q1 : Dq K H x d1 := .dp h1 hn'.1
        have q2 : Dq K H y d2 := .dp h2 hn'.2
        refine ⟨_, rfl, x, d1, rfl, q1, _, rfl, ?_⟩
        by_cases w1 : isW d1 = true
        · rw [w1]
          refine iteF ?_
          refine ⟨_, rfl, y, d2, rfl, q2, _, rfl, ?_⟩
          by_cases w2 : isW d2 = true
          · rw [w2]
            refine iteF ?_
            obtain ⟨p, rfl, rfl⟩ := q1.whole w1
            obtain ⟨b, rfl, rfl⟩ := q2.whole w2
            rw [isFr_two] at k
            refine ⟨_, rfl, _, _, rfl, rfl, _, rfl, ite2 (fun e => ?_) (fun e => ?_)⟩
            · have hb : 0 < b := of_decide_eq_true e
              refine ⟨_, rfl, _, rfl, _, rfl, _, b, rfl, ?_, Int.le_of_lt hb, rfl, ?_⟩
              · rw [abs_is]
                omega
              · rw [abs_is, Int.natAbs_natCast]
                rw [decide_eq_true hb, Bool.true_and] at k
                have e2 : decide (V.int ((Nat.gcd p.natAbs b.natAbs : Nat) : Int) = V.int 1) = decide (Nat.gcd p.natAbs b.natAbs = 1) := by
                  by_cases z : Nat.gcd p.natAbs b.natAbs = 1
                  · rw [decide_eq_true z, z]
                    rfl
                  · rw [decide_eq_false z]
                    exact decide_eq_false fun q => z (by have := V.int.inj q; omega)
                rw [e2]
                exact k
            · rw [show decide (0 < b) = false from Bool.eq_false_iff.mpr e, Bool.false_and] at k
              exact k
          · have w2' : isW d2 = false := by cases h : isW d2 <;> first | rfl | exact absurd h w2
            rw [w2']
            refine iteT ?_
            rw [isFr_no (.inr w2')] at k
            exact k
        · have w1' : isW d1 = false := by cases h : isW d1 <;> first | rfl | exact absurd h w1
          rw [w1']
          refine iteT ?_
          rw [isFr_no (.inl w1')] at k
          exact k
      · refine iteN (fun z => hl (by have := V.int.inj z; omega)) ?_
        have hl2 : ds.length ≠ 2 := by rw [← DpAll.len hA]; exact hl
        rw [isFr_len hl2] at k
        exact k
    · have ht' : isT d = false := by cases h : isT d <;> first | rfl | exact absurd h ht
      rw [ht']
      refine iteT ?_
      have : isFr d = false := by
        cases d <;> first | rfl | exact absurd rfl ht
      rw [this] at k
      exact k

/-! ### is_name -/
abbrev s_is_name : Stmt := topS 17
theorem sc_is_name : FnScope ["thing", "sign"] ["thing"] (defScope s_is_name) := ⟨rfl, rfl, rfl, by decide +kernel, rfl, by decide +kernel, by decide +kernel⟩
def sp_isnm (K : PySem.W.Frag) : Sp := fun vs H Q _ => ∃ (v : V) (d : PyData), vs = [v] ∧ Dq K H v d ∧ (∀ z, d = .str z → z.length ≤ 1000) ∧ ∀ H', Same H H' → Q (.bl (isNm d)) H'
theorem isNm_no {d : PyData} (h : isS d = false) : isNm d = false := by cases d <;> first | rfl | cases h
theorem ok_isnm {f : Addr} {fd : FuncData} {tl tn : Tok} (M : Blt mg) (Mx : Bltx mg) (G_LETTERS : mg "LETTERS" = some (.str lets tl)) (G_LONGEST_NAME : mg "LONGEST_NAME" = some (.int 10 tn)) (F : Fun K "is_name" "is_name" s_is_name f fd) :
    FnG P w K mg base CX0 2 f fd ["thing"] (sp_isnm K) := by
  refine Gfun F sc_is_name (fun vs H Q E h => ?_) (fun cdv A outer s H vs Q E hg hr h => ?_)
  · obtain ⟨v, d, rfl, _⟩ := h
    rfl
  · obtain ⟨v, d, rfl, hq, hz, k⟩ := h
    refine ⟨_, (pss_cons (ps_if (PW.pt (pw_or (pt_not (pt_val (pe_callB call_isi rfl Mx.isinstance bt_isinstance (pa_cons (pv 0) (pa_cons (pe_bltn (v := .ty "str") rfl M.str bt_str rfl) pa_nil))))) (pw_or1 (pt_not (pt_chain op_le op_le pe_int (pe_callB call_len_str rfl M.len bt_len (pa_cons (pv 0) pa_nil)) (pe_glob (v := .int 10) rfl G_LONGEST_NAME ⟨_, rfl⟩))))))
      (pss_one (ps_ret pe_bl))
      pss_nil)
      (pss_one (ps_ret (pe_callB (cr_all rfl) rfl M.all bt_all (pa_cons (pe_lc (own := [("sign", 1)]) (g := gName 1) (tt := tYes) rfl sc_is_name.nd (pi_str (pv 0)) (blkOk_by (N := ["thing", "sign"]) (sc := defScope s_is_name) (by decide +kernel)) (fun _ _ _ _ _ => pg_name (i := 1) sc_is_name.nd rfl (Or.inl rfl)) (fun _ _ _ _ _ => pts_nil) (fun _ _ _ _ _ => (pe_cmpR op_inS (pv 1) (pe_glob (v := .str lets) rfl G_LETTERS ⟨_, rfl⟩) rfl))) pa_nil))))), ?_⟩
    refine ⟨_, rfl, _, _, _, _, _, rfl, .ty "str", hq.ty, kit_ty (ks d), _, rfl, ?_⟩
    by_cases ht : isS d = true
    · rw [ht]
      refine iteF ?_
      obtain ⟨z, rfl, rfl⟩ := hq.txt ht
      have hzl := hz z rfl
      have hnm : isNm (.str z) = (decide (1 ≤ z.length) && decide (z.length ≤ 10) && z.cps.toList.all inL) := rfl
      have fin : ∀ b : Bool, isNm (.str z) = b → ∀ H', Same H H' → Q (.bl b) H' := fun b e H' s => e ▸ k H' s
      refine ⟨_, rfl, z, rfl, len_show hzl, _, _, rfl, rfl, _, rfl, ?_⟩
      by_cases h1 : (1 : Int) ≤ (z.length : Int)
      · rw [decide_eq_true h1]
        refine iteT ⟨_, _, rfl, rfl, _, rfl, ?_⟩
        by_cases h2 : (z.length : Int) ≤ 10
        · rw [decide_eq_true h2]
          refine iteF ?_
          refine ⟨_, rfl, z, rfl, fun D hD => lc_it walk_str (fun i H' => H' D = some (.lst ((z.cps.toList.take i).map fun c => .bl (inL c))) ∧ Same H H') ⟨upd_same, same_new hD⟩ (fun _ _ _ _ => trivial) ?_ ?_⟩
          · rintro i x H1 H2 hi ⟨eD, sm⟩ ⟨rfl, c, hc, rfl⟩
            have hsz : z.cps.size ≤ 1000 := hzl
            refine ⟨rfl, _, rfl, c, lets, rfl, rfl, _, eD, ?_, ?_, fun b o e => ?_⟩
            · rw [List.length_map, List.length_take, sizeLine_eq]
              omega
            · rw [upd_same, List.take_add_one, Array.getElem?_toList, hc, List.map_append]
              rfl
            · rw [upd_ne (ne_of_none e hD)]
              exact sm _ _ e
          · rintro H1 ⟨eD, sm⟩
            rw [show z.cps.size = z.cps.toList.length from Array.length_toList.symm, List.take_length] at eD
            refine ⟨D, z.cps.toList.map inL, rfl, .inl (.inl ?_), ?_⟩
            · rw [eD, List.map_map]
              rfl
            · refine fin _ ?_ H1 sm
              rw [hnm, decide_eq_true (show 1 ≤ z.length by omega), decide_eq_true (show z.length ≤ 10 by omega), List.all_map]
              rfl
        · rw [decide_eq_false h2]
          refine iteT (fin false ?_ H same_rfl)
          rw [hnm, show decide (z.length ≤ 10) = false from decide_eq_false (by omega), Bool.and_false, Bool.false_and]
      · rw [decide_eq_false h1]
        refine iteF ⟨_, rfl, iteT (fin false ?_ H same_rfl)⟩
        rw [hnm, show decide (1 ≤ z.length) = false from decide_eq_false (by omega), Bool.false_and, Bool.false_and]
    · have ht' : isS d = false := by cases h : isS d <;> first | rfl | exact absurd h ht
      rw [ht']
      refine iteT ?_
      have := k H same_rfl
      rw [isNm_no ht'] at this
      exact this

end
end Lf

set_option Elab.async false
set_option linter.all false
set_option maxRecDepth 100000
set_option maxHeartbeats 4000000
set_option exponentiation.threshold 3000
namespace Lf
open PySem PySem.Spec PyProof.Rows L2
theorem Bt.sm {k : Nat} {f : Int × Int} (h : Bt k f) (hk : k ≤ 900) : Sm f.1 ∧ Sm f.2 := ⟨(h.mono hk).1, (h.mono hk).2⟩
theorem pr_sq {K : PySem.W.Frag} {H : Hp} {p q : Addr} {f g : Int × Int} {j k : Nat} (hp : SqT K H p [.int f.1, .int f.2]) (hq : SqT K H q [.int g.1, .int g.2]) (hf : IsF f) (hg : IsF g) (bf : Bt j f) (bg : Bt k g) (hj : j ≤ 900) (hk : k ≤ 900) : Pr K H [.ref p, .ref q] f.1 f.2 g.1 g.2 :=
  ⟨⟨p, q, rfl, hp, hq⟩, hf.ne, hg.ne, (bf.sm hj).1, (bf.sm hj).2, (bg.sm hk).1, (bg.sm hk).2⟩
theorem pr_atk {K : PySem.W.Frag} {H : Hp} {v u : V} {f g : Int × Int} {j k : Nat} (hv : AtK K H v f) (hu : AtK K H u g) (hf : IsF f) (hg : IsF g) (bf : Bt j f) (bg : Bt k g) (hj : j ≤ 900) (hk : k ≤ 900) : Pr K H [v, u] f.1 f.2 g.1 g.2 := by
  obtain ⟨p, rfl, hp⟩ := hv
  obtain ⟨q, rfl, hq⟩ := hu
  exact pr_sq hp hq hf hg bf bg hj hk
section
variable {P : Program} {w : World} {K : PySem.W.Frag} {mg : Str → Option Value} {base : Heap}

/-! ### together -/
abbrev s_together : Stmt := topS 14
theorem sc_together : FnScope ["ones", "told", "one"] ["ones"] (defScope s_together) := ⟨rfl, rfl, rfl, by decide +kernel, rfl, by decide +kernel, by decide +kernel⟩
/-- fractions of a row, added up -/
def sp_togL (K : PySem.W.Frag) : Sp := fun vs H Q _ => ∃ (L : Addr) (xs : List V) (fs : List (Int × Int)) (b : Nat), vs = [.ref L] ∧ SqL K H L xs ∧ AtKs K H xs fs ∧ AllF fs ∧ AllB b fs ∧ b ≤ 900 ∧ 1 + (b + 1) * fs.length ≤ 900 ∧
  ∀ (H' : Hp) (v : V), Same H H' → AtK K H' v (fs.foldl fadd f0) → Q v H'
theorem ok_togL {f c0 : Addr} {fd : FuncData} (g0 : mg "NONE_OF_IT" = some (.ref c0)) (t0 : ∀ H, SqT K H c0 [.int 0, .int 1]) (F : Fun K "together" "together" s_together f fd) (C_plus : Cal P w K mg base CX0 5 "plus" ["one", "other"] (sp_plus K)) : FnG P w K mg base CX0 6 f fd ["ones"] (sp_togL K) := by
  refine Gfun F sc_together (fun vs H Q E h => ?_) (fun cdv A outer s H vs Q E hg hr h => ?_)
  · obtain ⟨L, xs, fs, b, rfl, _⟩ := h
    rfl
  · obtain ⟨L, xs, fs, b, rfl, hS, hA, hF, hB, hb8, hlen, k⟩ := h
    refine ⟨_, (pss_cons (ps_set (i := 1) sc_together.nd rfl (.inl rfl) (pe_glob (v := .ref c0) rfl g0 rfl))
      (pss_cons (ps_for PassesOwn.never rfl (pi_list (pv 0)) (pg_name (i := 2) sc_together.nd rfl (.inl rfl))
      (pss_one (ps_set (i := 1) sc_together.nd rfl (.inl rfl) (pe_g C_plus (hr.mono (by decide)) hg (pa_cons (pv 1) (pa_cons (pv 2) pa_nil))))))
      (pss_one (ps_ret (pv 1))))), ?_⟩
    refine ⟨_, rfl, L, rfl, ⟨_, hS⟩, for_list (K := K) (a := L) (xs := xs) (fun i σ H' => ∃ (v : Option V) (t : V), σ = [some (.ref L), some t, v] ∧ Same H H' ∧ AtK K H' t ((fs.take i).foldl fadd f0))
      ⟨none, .ref c0, rfl, same_rfl, ⟨c0, rfl, t0 H⟩⟩ (fun i σ H' _ ⟨_, _, _, sm, _⟩ => sm.seq hS) ?_ ?_⟩
    · rintro i x σ H' hi ⟨v, t, rfl, sm, ht⟩
      obtain ⟨g, hgi, hx0⟩ := hA.get hi
      have hx := hx0.same sm
      have hgf : IsF g := hF g (List.mem_of_getElem? hgi)
      have bg : Bt b g := hB g (List.mem_of_getElem? hgi)
      have hil : i < fs.length := (List.getElem?_eq_some_iff.mp hgi).1
      have htl : (fs.take i).length = i := by rw [List.length_take]; omega
      have hmn : (b + 1) * i ≤ (b + 1) * fs.length := Nat.mul_le_mul_left _ (Nat.le_of_lt hil)
      have fa := (sum_fold (fs.take i) f0 f0_f (take_all hF i)).1
      have ba := add_bt (b := b) (fs.take i) 1 f0 f0_f (take_all hF i) bt01.1 (fun f hf => hB f (List.mem_of_mem_take hf))
      rw [htl] at ba
      refine ⟨_, rfl, _, rfl, _, _, _, _, pr_atk ht hx fa hgf ba bg (by omega) hb8, fun H2 t' s2 e2 => ?_⟩
      refine ⟨some x, _, rfl, sm.trans s2, ?_⟩
      rw [fold_take _ _ hgi]
      exact AtK.of e2
    · rintro σ H' ⟨v, t, rfl, sm, ht⟩
      refine ⟨_, rfl, k H' t sm ?_⟩
      rw [hA.length, List.take_length] at ht
      exact ht

end
end Lf

set_option Elab.async false
set_option linter.all false
set_option maxRecDepth 100000
set_option maxHeartbeats 4000000
set_option exponentiation.threshold 3000
namespace Lf
open PySem PySem.Spec PyProof.Rows L2
/-- a statement that is never come to -/
theorem ps_dead {X : Cx} {st : Stmt} : PS X st (fun _ _ _ => False) := ⟨fun _ _ _ _ _ _ h => h.elim⟩
/-- the module's constant tuples -/
structure Cst (K : PySem.W.Frag) (mg : Str → Option Value) (c0 c1 cw : Addr) : Prop where
  g0 : mg "NONE_OF_IT" = some (.ref c0)
  g1 : mg "ALL_OF_IT" = some (.ref c1)
  gw : mg "WORDS" = some (.ref cw)
  t0 : ∀ H, SqT K H c0 [.int 0, .int 1]
  t1 : ∀ H, SqT K H c1 [.int 1, .int 1]
  tw : ∀ H, SqT K H cw [.str "flour", .str "water", .str "salt", .str "thirst", .str "price"]
/-- the top and the bottom of a fraction -/
def top2 : PyData → Int × Int
  | .tuple [.int a, .int b] => (a, b)
  | _ => (0, 1)
def isM (d : PyData) : Bool := isFr d && decide (0 ≤ (top2 d).1)
theorem isFr_inv {d : PyData} (h : isFr d = true) : ∃ a b : Int, d = .tuple [.int a, .int b] ∧ IsLow a b := by
  cases d with
  | tuple ds =>
    match ds, h with
    | [x, y], h =>
      have h' : fr2 x y = true := h
      cases x <;> cases y <;> first | (cases h'; done) | skip
      rename_i a b
      have h2 : (decide (0 < b) && decide (Nat.gcd a.natAbs b.natAbs = 1)) = true := h'
      rw [Bool.and_eq_true] at h2
      exact ⟨a, b, rfl, of_decide_eq_true h2.1, of_decide_eq_true h2.2⟩
    | [], h => cases h
    | [_], h => cases h
    | _ :: _ :: _ :: _, h => cases h
  | none => cases h
  | bool _ => cases h
  | int _ => cases h
  | str _ => cases h
  | list _ => cases h
  | dict _ => cases h
section
variable {P : Program} {w : World} {K : PySem.W.Frag} {mg : Str → Option Value} {base : Heap} {c0 c1 cw : Addr}

/-! ### measure_or_none_of_it -/
abbrev s_measure_or_none_of_it : Stmt := topS 21
theorem sc_measure_or_none_of_it : FnScope ["measure"] ["measure"] (defScope s_measure_or_none_of_it) := ⟨rfl, rfl, rfl, by decide +kernel, rfl, by decide +kernel, by decide +kernel⟩
/-- None is (0, 1) -/
def orNone : PyData → PyData
  | .none => .tuple [.int 0, .int 1]
  | d => d
def sp_orNone (K : PySem.W.Frag) : Sp := fun vs H Q _ => ∃ (v : V) (d : PyData), vs = [v] ∧ Dq K H v d ∧ ∀ v', (∀ H2, Dq K H2 v d → Dq K H2 v' (orNone d)) → Q v' H
theorem dq_pair {H : Hp} {a : Addr} {x y : Int} (h : SqT K H a [.int x, .int y]) : Dq K H (.ref a) (.tuple [.int x, .int y]) := .dp (.tup h (.cons (.int x) (.cons (.int y) .nil))) (by rfl)
theorem ok_orNone {f : Addr} {fd : FuncData} (T : Cst K mg c0 c1 cw) (F : Fun K "measure_or_none_of_it" "measure_or_none_of_it" s_measure_or_none_of_it f fd) : FnG P w K mg base CX0 1 f fd ["measure"] (sp_orNone K) := by
  refine Gfun F sc_measure_or_none_of_it (fun vs H Q E h => ?_) (fun cdv A outer s H vs Q E hg hr h => ?_)
  · obtain ⟨v, d, rfl, _⟩ := h
    rfl
  · obtain ⟨v, d, rfl, hq, k⟩ := h
    refine ⟨_, (pss_cons (ps_if (pt_cmp (pc_isN (pv 0)))
      (pss_one (ps_ret (pe_glob (v := .ref c0) rfl T.g0 rfl)))
      pss_nil)
      (pss_one (ps_ret (pv 0)))), ?_⟩
    refine ⟨_, rfl, _, rfl, ite2 (fun e => ?_) (fun e => ?_)⟩
    · have ev : v = .non := of_decide_eq_true e
      have ed : d = .none := by
        subst ev
        cases hq with
        | dp h _ =>
          cases h
          rfl
      subst ed
      exact k _ (fun H2 _ => dq_pair (T.t0 H2))
    · have ed : orNone d = d := by
        cases d with
        | none =>
          exfalso
          cases hq with
          | dp h _ =>
            cases h
            exact e (by decide)
        | _ => rfl
      refine ⟨_, rfl, k v fun H2 h2 => ?_⟩
      rw [ed]
      exact h2

/-! ### is_measure -/
abbrev s_is_measure : Stmt := topS 22
theorem sc_is_measure : FnScope ["thing"] ["thing"] (defScope s_is_measure) := ⟨rfl, rfl, rfl, by decide +kernel, rfl, by decide +kernel, by decide +kernel⟩
def sp_isM (K : PySem.W.Frag) : Sp := fun vs H Q _ => ∃ (v : V) (d : PyData), vs = [v] ∧ Dq K H v d ∧ Q (.bl (isM d)) H
theorem ok_isM {f : Addr} {fd : FuncData} (F : Fun K "is_measure" "is_measure" s_is_measure f fd) (C_is_fraction : Cal P w K mg base CX0 2 "is_fraction" ["thing"] (sp_isfr K)) : FnG P w K mg base CX0 3 f fd ["thing"] (sp_isM K) := by
  refine Gfun F sc_is_measure (fun vs H Q E h => ?_) (fun cdv A outer s H vs Q E hg hr h => ?_)
  · obtain ⟨v, d, rfl, _⟩ := h
    rfl
  · obtain ⟨v, d, rfl, hq, k⟩ := h
    refine ⟨_, (pss_one (ps_ret (pe_and (pe_g C_is_fraction (hr.mono (by decide)) hg (pa_cons (pv 0) pa_nil)) (pe_one (pe_cmpR op_ge (pe_ix ix_tup (pv 0) pe_int (fun _ _ => rfl)) pe_int (nomark _)))))), ?_⟩
    refine ⟨_, rfl, v, d, rfl, hq, _, rfl, ite2 (fun e => ?_) (fun e => ?_)⟩
    · obtain ⟨a, b, rfl, _⟩ := isFr_inv e
      obtain ⟨p, xs, ds, rfl, ed, hS, hA, _⟩ := hq.tup rfl
      cases ed
      cases hA with
      | cons h1 r =>
        cases h1
        refine ⟨_, rfl, p, _, _, _, rfl, rfl, hS, atI_nat (j := 0) rfl, _, _, rfl, rfl, ?_⟩
        have : isM (.tuple [.int a, .int b]) = decide (0 ≤ a) := by
          unfold isM
          rw [e]
          rfl
        rw [this] at k
        exact k
    · have : isM d = false := by
        unfold isM
        rw [show isFr d = false from Bool.eq_false_iff.mpr e]
        rfl
      rw [this] at k
      exact k

/-! ### are_too_much -/
abbrev s_are_too_much : Stmt := topS 23
theorem sc_are_too_much : FnScope ["flour", "water", "salt"] ["flour", "water", "salt"] (defScope s_are_too_much) := ⟨rfl, rfl, rfl, by decide +kernel, rfl, by decide +kernel, by decide +kernel⟩
/-- more than 1 together -/
def tooM (f g h : Int × Int) : Bool := decide (1 * (fadd (fadd f g) h).2 < (fadd (fadd f g) h).1 * 1)
def sp_too (K : PySem.W.Frag) : Sp := fun vs H Q _ => ∃ (p q r : Addr) (f g h : Int × Int), vs = [.ref p, .ref q, .ref r] ∧ SqT K H p [.int f.1, .int f.2] ∧ SqT K H q [.int g.1, .int g.2] ∧ SqT K H r [.int h.1, .int h.2] ∧
  IsF f ∧ IsF g ∧ IsF h ∧ Bt 290 f ∧ Bt 290 g ∧ Bt 290 h ∧ ∀ H', Same H H' → Q (.bl (tooM f g h)) H'
theorem ok_too {f : Addr} {fd : FuncData} (T : Cst K mg c0 c1 cw) (F : Fun K "are_too_much" "are_too_much" s_are_too_much f fd) (C_together : Cal P w K mg base CX0 6 "together" ["ones"] (sp_togL K)) (C_is_less : Cal P w K mg base CX0 1 "is_less" ["one", "other"] (sp_is_less K)) :
    FnG P w K mg base CX0 7 f fd ["flour", "water", "salt"] (sp_too K) := by
  refine Gfun F sc_are_too_much (fun vs H Q E h => ?_) (fun cdv A outer s H vs Q E hg hr h => ?_)
  · obtain ⟨p, q, r, f, g, h, rfl, _⟩ := h
    rfl
  · obtain ⟨p, q, r, f, g, h, rfl, hp, hq, hr', ff, gf, hf, bf, bg, bh, k⟩ := h
    refine ⟨_, (pss_one (ps_ret (pe_g C_is_less (hr.mono (by decide)) hg (pa_cons (pe_glob (v := .ref c1) rfl T.g1 rfl) (pa_cons (pe_g C_together (hr.mono (by decide)) hg (pa_cons (pe_lst (pa_cons (pv 0) (pa_cons (pv 1) (pa_cons (pv 2) pa_nil)))) pa_nil)) pa_nil))))), ?_⟩
    refine ⟨_, rfl, _, rfl, _, rfl, len_show (Nat.le_of_ble_eq_true rfl), fun l nl => ?_⟩
    have s1 : Same H (upd H l (.lst [.ref p, .ref q, .ref r])) := same_new nl
    refine ⟨l, [.ref p, .ref q, .ref r], [f, g, h], 290, rfl, .inl (.inl upd_same), .cons ⟨p, rfl, sm_t s1 hp⟩ (.cons ⟨q, rfl, sm_t s1 hq⟩ (.cons ⟨r, rfl, sm_t s1 hr'⟩ .nil)), ?_, ?_, by decide, Nat.le_of_ble_eq_true rfl, fun H2 v s2 hv => ?_⟩
    · intro x hx
      simp only [List.mem_cons, List.not_mem_nil, or_false] at hx
      rcases hx with rfl | rfl | rfl
      · exact ff
      · exact gf
      · exact hf
    · intro x hx
      simp only [List.mem_cons, List.not_mem_nil, or_false] at hx
      rcases hx with rfl | rfl | rfl
      · exact bf
      · exact bg
      · exact bh
    obtain ⟨p2, rfl, e2⟩ := hv
    have eS : [f, g, h].foldl fadd f0 = fadd (fadd f g) h := by
      show fadd (fadd (fadd f0 f) g) h = _
      rw [fadd_0 ff]
    rw [eS] at e2
    have b1 := fadd_bt ff gf bf bg
    have f1' := fadd_f ff gf
    have b2 := fadd_bt f1' hf b1 bh
    have f2' := fadd_f f1' hf
    refine ⟨_, _, _, _, pr_sq (f := (1, 1)) (g := fadd (fadd f g) h) (T.t1 H2) e2 ⟨by decide, by decide⟩ f2' (j := 1) ⟨by decide, by decide⟩ b2 (by decide) (by decide), ?_⟩
    exact k _ (s1.trans s2)

end
end Lf

set_option Elab.async false
set_option linter.all false
set_option maxRecDepth 100000
set_option maxHeartbeats 4000000
set_option exponentiation.threshold 3000
namespace Lf
open PySem PySem.Spec PyProof.Rows L2
section
variable {P : Program} {w : World} {K : PySem.W.Frag} {mg : Str → Option Value} {base : Heap} {c0 c1 cw : Addr}

/-! ### first_wrong -/
abbrev s_first_wrong : Stmt := topS 24
theorem sc_first_wrong : FnScope ["name", "measures", "flour", "water", "salt", "word", "measure"] ["name", "measures"] (defScope s_first_wrong) := ⟨rfl, rfl, rfl, by decide +kernel, rfl, by decide +kernel, by decide +kernel⟩
/-- the five words -/
def words : List Str := ["flour", "water", "salt", "thirst", "price"]
/-- the first of the five measures that is not as told, from the i-th on -/
def fwM (ds : List PyData) : Nat → Nat → Option Str
  | 0, _ => none
  | n + 1, i => if isM (ds.getD i .none) = false then words[i]? else
      if i = 2 ∧ tooM (top2 (ds.getD 0 .none)) (top2 (ds.getD 1 .none)) (top2 (ds.getD 2 .none)) = true then words[i]? else fwM ds n (i + 1)
/-- the first of the six that is not as told -/
def fwR (dn : PyData) (ds : List PyData) : Option Str := if isNm dn = false then some ("name" : Str) else fwM ds 5 0
/-- a word or None -/
def optV : Option Str → V
  | some x => .str x
  | none => .non
def sp_fw (K : PySem.W.Frag) : Sp := fun vs H Q _ => ∃ (vn : V) (p : Addr) (dn : PyData) (xs : List V) (ds : List PyData), vs = [vn, .ref p] ∧ Dq K H vn dn ∧ (∀ z, dn = .str z → z.length ≤ 1000) ∧ SqT K H p xs ∧ xs.length = 5 ∧ DqAll K H xs ds ∧
  (∀ i, i < 3 → isM (ds.getD i .none) = true → Bt 290 (top2 (ds.getD i .none))) ∧ ∀ H', Same H H' → Q (optV (fwR dn ds)) H'
theorem fw_len {dn : PyData} {ds : List PyData} {wd : Str} (h : fwR dn ds = some wd) : wd.length ≤ 1000 := by
  have key : ∀ n i, fwM ds n i = some wd → wd ∈ words := by
    intro n
    induction n with
    | zero => intro i e; cases e
    | succ n ih =>
      intro i e
      unfold fwM at e
      by_cases h1 : isM (ds.getD i .none) = false
      · rw [if_pos h1] at e
        exact List.mem_of_getElem? e
      · rw [if_neg h1] at e
        by_cases h2 : i = 2 ∧ tooM (top2 (ds.getD 0 .none)) (top2 (ds.getD 1 .none)) (top2 (ds.getD 2 .none)) = true
        · rw [if_pos h2] at e
          exact List.mem_of_getElem? e
        · rw [if_neg h2] at e
          exact ih _ e
  have all : ∀ z ∈ (("name" : Str) :: words), z.length ≤ 1000 := by decide +kernel
  unfold fwR at h
  by_cases h1 : isNm dn = false
  · rw [if_pos h1] at h
    cases h
    exact all _ (List.mem_cons_self ..)
  · rw [if_neg h1] at h
    exact all _ (List.mem_cons_of_mem _ (key _ _ h))
theorem meas {H : Hp} {v : V} {d : PyData} (h : Dq K H v d) (m : isM d = true) : ∃ p, v = .ref p ∧ SqT K H p [.int (top2 d).1, .int (top2 d).2] ∧ IsF (top2 d) := by
  unfold isM at m
  rw [Bool.and_eq_true] at m
  obtain ⟨a, b, rfl, hl⟩ := isFr_inv m.1
  obtain ⟨p, xs, ds, rfl, ed, hS, hA, _⟩ := h.tup rfl
  cases ed
  cases hA with
  | cons h1 r =>
    cases h1
    cases r with
    | cons h2 r =>
      cases h2
      cases r
      exact ⟨p, rfl, hS, hl⟩
theorem five_of {H : Hp} {x0 x1 x2 x3 x4 : V} {ds : List PyData} (h : DqAll K H [x0, x1, x2, x3, x4] ds) : ∃ d0 d1 d2 d3 d4, ds = [d0, d1, d2, d3, d4] ∧ Dq K H x0 d0 ∧ Dq K H x1 d1 ∧ Dq K H x2 d2 ∧ Dq K H x3 d3 ∧ Dq K H x4 d4 := by
  cases h with | cons h0 r => cases r with | cons h1 r => cases r with | cons h2 r => cases r with | cons h3 r => cases r with | cons h4 r => cases r; exact ⟨_, _, _, _, _, rfl, h0, h1, h2, h3, h4⟩
theorem ok_fw {f : Addr} {fd : FuncData} (Mz : mg "zip" = none) (T : Cst K mg c0 c1 cw) (F : Fun K "first_wrong" "first_wrong" s_first_wrong f fd) (C_is_name : Cal P w K mg base CX0 2 "is_name" ["thing"] (sp_isnm K)) (C_is_measure : Cal P w K mg base CX0 3 "is_measure" ["thing"] (sp_isM K))
    (C_are_too_much : Cal P w K mg base CX0 7 "are_too_much" ["flour", "water", "salt"] (sp_too K)) : FnG P w K mg base CX0 8 f fd ["name", "measures"] (sp_fw K) := by
  refine Gfun F sc_first_wrong (fun vs H Q E h => ?_) (fun cdv A outer s H vs Q E hg hr h => ?_)
  · obtain ⟨vn, p, dn, xs, ds, rfl, _⟩ := h
    rfl
  · obtain ⟨vn, p, dn, xs, ds, rfl, hn, hz, hp, hl, hA, hB, k⟩ := h
    refine ⟨_, (pss_cons (ps_if (pt_not (pt_val (pe_g C_is_name (hr.mono (by decide)) hg (pa_cons (pv 0) pa_nil))))
      (pss_one (ps_ret pe_str))
      pss_nil)
      (pss_cons (ps_asg (pe_slice sl_tup (pv 1) po_none (po_some pe_int)) (pg_tup rfl (pgs_cons (pg_name (i := 2) sc_first_wrong.nd rfl (.inl rfl)) (pgs_cons (pg_name (i := 3) sc_first_wrong.nd rfl (.inl rfl)) (pgs_cons (pg_name (i := 4) sc_first_wrong.nd rfl (.inl rfl)) pgs_nil)))))
      (pss_cons (ps_for PassesOwn.never rfl (RZ.pi_zipA rfl Mz (pa_cons (pe_glob (v := .ref cw) rfl T.gw rfl) (pa_cons (pv 1) pa_nil))) (pg_tup rfl (pgs_cons (pg_name (i := 5) sc_first_wrong.nd rfl (.inl rfl)) (pgs_cons (pg_name (i := 6) sc_first_wrong.nd rfl (.inl rfl)) pgs_nil)))
      (pss_cons (ps_if (pt_not (pt_val (pe_g C_is_measure (hr.mono (by decide)) hg (pa_cons (pv 6) pa_nil))))
      (pss_one (ps_ret (pv 5)))
      pss_nil)
      (pss_one (ps_if (PW.pt (pw_and (pt_cmpR op_eq (pv 5) pe_str (nomark _)) (pw_and1 (pt_val (pe_g C_are_too_much (hr.mono (by decide)) hg (pa_cons (pv 2) (pa_cons (pv 3) (pa_cons (pv 4) pa_nil))))))))
      (pss_one (ps_ret (pv 5)))
      pss_nil))))
      (pss_one (ps_ret pe_non))))), ?_⟩
    refine ⟨_, rfl, vn, dn, rfl, hn, hz, fun H1 s1 => ⟨_, rfl, ite2 (fun e => ?_) (fun e => ?_)⟩⟩
    · have en : isNm dn = false := by cases h : isNm dn <;> simp_all
      have ef : fwR dn ds = some ("name" : Str) := by unfold fwR; rw [if_pos en]
      have k' := k H1 s1
      rw [ef] at k'
      exact k'
    · have en : isNm dn = true := by cases h : isNm dn <;> simp_all
      have ef : fwR dn ds = fwM ds 5 0 := by unfold fwR; rw [if_neg (by rw [en]; decide)]
      rw [ef] at k
      match xs, hl with
      | [x0, x1, x2, x3, x4], _ =>
        refine ⟨_, rfl, _, rfl, p, _, rfl, sm_t s1 hp, by simp [HT.sIx], fun q hq => ?_⟩
        have sq : Same H1 (upd H1 q (HO.tup (cutV [x0, x1, x2, x3, x4] none (some 3)))) := same_new hq
        generalize hH2 : upd H1 q (HO.tup (cutV [x0, x1, x2, x3, x4] none (some 3))) = H2 at sq ⊢
        have sH2 : Same H H2 := s1.trans sq
        have tq : SqT K H2 q [x0, x1, x2] := .inl (.inl (by rw [← hH2]; exact upd_same))
        refine ⟨q, _, rfl, tq, rfl, _, _, rfl, _, _, rfl, _, _, rfl, rfl, ?_⟩
        obtain ⟨d0, d1, d2, d3, d4, rfl, h0, h1, h2, h3, h4⟩ := five_of hA
        have tw : ∀ H, SqT K H cw (words.map V.str) := T.tw
        refine ⟨_, rfl, cw, p, words.map V.str, [x0, x1, x2, x3, x4], rfl, .inr ⟨tw H2, sm_t sH2 hp, ?_⟩⟩
        refine RZ.for_zipT (xs := words.map V.str) (ys := [x0, x1, x2, x3, x4]) rfl (fun i σ H' => Same H H' ∧ (∃ a b, σ = [some vn, some (.ref p), some x0, some x1, some x2, a, b]) ∧ fwM [d0, d1, d2, d3, d4] 5 0 = fwM [d0, d1, d2, d3, d4] (5 - i) i ∧ ∀ j, j < i → isM ([d0, d1, d2, d3, d4].getD j .none) = true)
          ⟨sH2, ⟨_, _, rfl⟩, rfl, fun j hj => absurd hj (Nat.not_lt_zero _)⟩ (fun i σ H' h => ⟨tw H', sm_t h.1 hp⟩) ?_ ?_
        · rintro i x y T' σ H' hx hy ⟨sH, ⟨a, b, rfl⟩, hf, hM⟩ hT
          have sT : Same H' (upd H' T' (.tup [x, y])) := same_new hT
          have tT : SqT K (upd H' T' (.tup [x, y])) T' [x, y] := .inl (.inl upd_same)
          generalize upd H' T' (.tup [x, y]) = H3 at sT tT ⊢
          refine ⟨T', _, rfl, tT, rfl, _, _, rfl, _, _, rfl, rfl, ?_⟩
          have sH3 := sH.trans sT
          have hA' : DqAll K H3 [x0, x1, x2, x3, x4] [d0, d1, d2, d3, d4] := DqAll.same sH3 (.cons h0 (.cons h1 (.cons h2 (.cons h3 (.cons h4 .nil)))))
          obtain ⟨d, hd, hq'⟩ := hA'.get hy
          have hi : i < 5 := by
            have := (List.getElem?_eq_some_iff.mp hy).1
            exact this
          have hx' : ∃ wd, words[i]? = some wd ∧ x = .str wd := by
            rw [List.getElem?_map] at hx
            cases hw : words[i]? with
            | none => rw [hw] at hx; cases hx
            | some wd => rw [hw] at hx; exact ⟨wd, rfl, (Option.some.inj hx).symm⟩
          obtain ⟨wd, hw, rfl⟩ := hx'
          have hdg : [d0, d1, d2, d3, d4].getD i .none = d := by rw [List.getD_eq_getElem?_getD, hd]; rfl
          have hstep : fwM [d0, d1, d2, d3, d4] (5 - i) i = if isM d = false then words[i]? else
              if i = 2 ∧ tooM (top2 d0) (top2 d1) (top2 d2) = true then words[i]? else fwM [d0, d1, d2, d3, d4] (5 - (i + 1)) (i + 1) := by
            rw [show 5 - i = (5 - (i + 1)) + 1 by omega]
            show (if isM ([d0, d1, d2, d3, d4].getD i .none) = false then _ else _) = _
            rw [hdg]
            rfl
          have ret : fwM [d0, d1, d2, d3, d4] 5 0 = some wd → ∀ H4, Same H H4 → Q (.str wd) H4 := fun e H4 s4 => by
            have k' := k H4 s4
            rw [e] at k'
            exact k'
          refine ⟨_, rfl, y, d, rfl, hq', ⟨_, rfl, ite2 (fun e => ?_) (fun e => ?_)⟩⟩
          · have em : isM d = false := by cases h : isM d <;> simp_all
            refine ⟨_, rfl, ret ?_ H3 sH3⟩
            rw [hf, hstep, if_pos em, hw]
          · have em : isM d = true := by cases h : isM d <;> simp_all
            have hM' : ∀ j, j < i + 1 → isM ([d0, d1, d2, d3, d4].getD j .none) = true := fun j hj => by
              by_cases h : j = i
              · rw [h, hdg]; exact em
              · exact hM j (by omega)
            refine ⟨_, rfl, rfl, _, rfl, ite2 (fun e2 => ?_) (fun e2 => ?_)⟩
            · have ei : i = 2 := by
                have := V.str.inj (of_decide_eq_true e2)
                match i, hi, hw with
                | 0, _, hw => cases hw; exact absurd this (by decide)
                | 1, _, hw => cases hw; exact absurd this (by decide)
                | 2, _, _ => rfl
                | 3, _, hw => cases hw; exact absurd this (by decide)
                | 4, _, hw => cases hw; exact absurd this (by decide)
              subst ei
              have m0 : isM d0 = true := hM' 0 (by decide)
              have m1 : isM d1 = true := hM' 1 (by decide)
              have m2 : isM d2 = true := hM' 2 (by decide)
              obtain ⟨p0, rfl, t0, f0⟩ := meas (h0.same sH3) m0
              obtain ⟨p1, rfl, t1, f1⟩ := meas (h1.same sH3) m1
              obtain ⟨p2, rfl, t2, f2⟩ := meas (h2.same sH3) m2
              refine ⟨_, rfl, _, rfl, _, rfl, p0, p1, p2, top2 d0, top2 d1, top2 d2, rfl, t0, t1, t2, f0, f1, f2, hB 0 (by decide) m0, hB 1 (by decide) m1, hB 2 (by decide) m2, fun H4 s4 => ⟨_, rfl, ite2 (fun e3 => ?_) (fun e3 => ?_)⟩⟩
              · refine ⟨_, rfl, ret ?_ H4 (sH3.trans s4)⟩
                rw [hf, hstep, if_neg (by rw [em]; decide), if_pos ⟨rfl, e3⟩, hw]
              · refine ⟨sH3.trans s4, ⟨_, _, rfl⟩, ?_, hM'⟩
                rw [hf, hstep, if_neg (by rw [em]; decide), if_neg (fun z => e3 z.2)]
            · have ei : i ≠ 2 := fun z => by
                subst z
                cases hw
                exact e2 (by decide)
              refine ⟨sH3, ⟨_, _, rfl⟩, ?_, hM'⟩
              rw [hf, hstep, if_neg (by rw [em]; decide), if_neg (fun z => ei z.1)]
        · rintro σ H' ⟨sH, ⟨a, b, rfl⟩, hf, hM⟩
          have hf' : fwM [d0, d1, d2, d3, d4] 5 0 = none := hf
          have k' := k H' sH
          rw [hf'] at k'
          exact k'
end
end Lf

set_option Elab.async false
set_option linter.all false
set_option maxRecDepth 100000
set_option maxHeartbeats 4000000
set_option exponentiation.threshold 3000
namespace Lf
open PySem PySem.Spec PyProof.Rows L2 NdefX
def inCls (st : Stmt) (j : Nat) : Stmt := match st with
  | .ClassDef (body := b) .. => b.getD j (.Pass ⟨0, 0, 0, 0⟩)
  | _ => .Pass ⟨0, 0, 0, 0⟩
section
variable {P : Program} {w : World} {K : PySem.W.Frag} {mg : Str → Option Value} {base : Heap} {c0 c1 cw : Addr}
/-! ### NoStuff.__init__ -/
abbrev sNoStuff : Stmt := inCls (topS 3) 0
theorem scNoStuff : NScope ["self", "field", "__class__"] ["self", "field"] ["__class__"] (defScope sNoStuff) := nscope_by (by decide +kernel)
def sp_nostuff (D : Addr) : Sp := fun vs H Q _ => ∃ (a : Addr) (x : Str), vs = [.ref a, .str x] ∧ x.length ≤ 1000 ∧ H a = some (exo a D none) ∧ ∀ dx, H dx = none → dx ≠ a → Q .non (upd (upd H dx (exd dx [("field", .str x)])) a (exo a D (some dx)))
theorem ok_nostuff {D f cc cda : Addr} {fd : FuncData} (F : XFun P K "NoStuff.__init__" sNoStuff D f fd cc cda) (T : OexC K D) (hm : mg "super" = none) (hno : PySem.W.findIn K (.ref D) "field" = some none) :
    FnOk P w K mg base CX0 1 f fd ["self", "field"] (sp_nostuff D) := by
  refine xok F T hm scNoStuff (fun vs H Q E h => ?_) rfl rfl rfl rfl rfl (fun L => ⟨_, rfl⟩) (fun L => rfl) (fun L => rfl) (fun L => rfl) (fun A outer s H vs Q E hr h => ?_)
  · obtain ⟨a, x, rfl, _⟩ := h
    rfl
  · obtain ⟨a, x, rfl, hx, ha, k⟩ := h
    refine ⟨_, _, pa_cons (pe_joined (PJ.cons pe_str (PJ.cons (pe_fmt (pv 1)) PJ.nil))) pa_nil, pss_one (ps_ost (pv 0) (pv 1)), a, rfl, ha, ?_⟩
    refine ⟨_, rfl, ?_, _, rfl, .inl ⟨x, rfl, Nat.le_trans hx (by decide), x, rfl, ?_, ?_⟩⟩
    · decide +kernel
    · refine Nat.le_trans (Nat.le_of_eq (PySem.Str.length_append _ _)) ?_
      exact Nat.le_trans (Nat.add_le_add (show Str.length (Str.empty ++ Str.ofString "no stuff has such a ") ≤ 1000 by decide +kernel) hx) (by decide +kernel)
    · refine ⟨by show 1 ≤ 1000; decide, ha, _, rfl, _, rfl, a, D, rfl, T, hno, .inl ⟨ha, fun dx n1 n2 => k dx n1 n2⟩⟩
end
end Lf

set_option Elab.async false
set_option linter.all false
set_option maxRecDepth 100000
set_option maxHeartbeats 4000000
set_option exponentiation.threshold 3000
namespace Lf
open PySem PySem.Spec PyProof.Rows L2
/-- an own exception with one field, under its name -/
structure XT (P : Program) (K : PySem.W.Frag) (mg : Str → Option Value) (x qual fld : Str) (st : Stmt) (D fI : Addr) (fdI : FuncData) (cc cda : Addr) : Prop where
  g : mg x = some (.ref D)
  T : OexC K D
  iC : PySem.W.findIn K (.ref D) "__init__" = some (some (.ref fI))
  tI : PySem.W.typeIn K (.ref fI) = some (.type "function")
  F : XFun P K qual st D fI fdI cc cda
  b : Binds K fdI ["self", fld] []
  sup : mg "super" = none
  no : PySem.W.findIn K (.ref D) fld = some none
section
variable {P : Program} {w : World} {K : PySem.W.Frag} {mg : Str → Option Value} {base : Heap}
/-! ### Stuff.__init__ -/
abbrev s_init : Stmt := inCls (topS 25) 0
theorem sc_init : FnScope ["self", "name", "flour", "water", "salt", "thirst", "price", "measures", "wrong", "given"] ["self", "name", "flour", "water", "salt", "thirst", "price"] (defScope s_init) := ⟨rfl, rfl, rfl, by decide +kernel, rfl, by decide +kernel, by decide +kernel⟩
/-- a made stuff: its fields -/
def StO (K : PySem.W.Frag) (H : Hp) (C x : Addr) (vn : V) (dn : PyData) (ds : List PyData) : Prop :=
  ∃ (dx pm : Addr) (xs : List V), H x = some (.ins C dx [("own_name", vn), ("measures", .ref pm)]) ∧ Dq K H vn dn ∧ SqT K H pm xs ∧ DqAll K H xs ds
/-- H0: the heap ahead of the object -/
def sp_init (K : PySem.W.Frag) (C D : Addr) : Sp := fun vs H Q E => ∃ (x dx : Addr) (H0 : Hp) (vn : V) (dn : PyData) (ms : List V) (ds : List PyData), vs = .ref x :: vn :: ms ∧ ms.length = 5 ∧ H0 x = none ∧ H0 dx = none ∧ dx ≠ x ∧ H = upd (upd H0 dx (.own x)) x (.ins C dx []) ∧
  Dq K H0 vn dn ∧ (∀ z, dn = .str z → z.length ≤ 1000) ∧ DqAll K H0 ms ds ∧ (∀ i, i < 3 → isM (orNone (ds.getD i .none)) = true → Bt 290 (top2 (orNone (ds.getD i .none)))) ∧
  (match fwR dn (ds.map orNone) with
   | none => ∀ H', Same H0 H' → StO K H' C x vn dn (ds.map orNone) → Q .non H'
   | some wd => ∀ H' d, Same H0 H' → H' d = some (.xd [("field", .str wd)]) → E (.ref D) (some d) H')
theorem ok_init {C D f fI cc cda c0 c1 cw : Addr} {fd fdI : FuncData} {dvs : List V} {kws : List (Str × V)} (M : Blt mg) (Mx : Bltx mg) (T : XT P K mg "NoStuff" "NoStuff.__init__" "field" sNoStuff D fI fdI cc cda) (c : Cls K C) (n1 : NoAttr K C "own_name") (n2 : NoAttr K C "measures")
    (F : FunD K "__init__" "Stuff.__init__" (defArgs s_init) (defBody s_init) (defScope s_init) dvs kws f fd) (C_measure_or_none_of_it : Cal P w K mg base CX0 1 "measure_or_none_of_it" ["measure"] (sp_orNone K)) (C_first_wrong : Cal P w K mg base CX0 8 "first_wrong" ["name", "measures"] (sp_fw K)) :
    FnG P w K mg base (L2.CX P w) 9 f fd ["self", "name", "flour", "water", "salt", "thirst", "price"] (sp_init K C D) := by
  refine GfunDX F sc_init (fun vs H Q E h => ?_) (fun cdv A outer s H vs Q E hg hr h => ?_)
  · obtain ⟨x, dx, H0, vn, dn, ms, ds, rfl, hl, _⟩ := h
    show ms.length + 2 = 7
    omega
  · obtain ⟨x, dx, H0, vn, dn, ms, ds, rfl, hl, nx, nd, hdx, rfl, hn, hz, hA, hB, k⟩ := h
    match ms, hl with
    | [m0, m1, m2, m3, m4], _ =>
    refine ⟨_, (pss_cons (ps_set (i := 7) sc_init.nd rfl (.inl rfl) (pe_callTy call_tuple_of rfl Mx.tuple bt_tuple (pa_cons (pe_lc (own := [("given", 9)]) (g := gName 9) (tt := tYes) rfl sc_init.nd (pi_tup (pe_tup (pa_cons (pv 2) (pa_cons (pv 3) (pa_cons (pv 4) (pa_cons (pv 5) (pa_cons (pv 6) pa_nil))))))) (blkOk_by (N := ["self", "name", "flour", "water", "salt", "thirst", "price", "measures", "wrong", "given"]) (sc := defScope s_init) (by decide +kernel)) (fun _ _ _ _ _ => pg_name (i := 9) sc_init.nd rfl (Or.inl rfl)) (fun _ _ _ _ _ => pts_nil) (fun _ _ _ _ _ => (pe_g C_measure_or_none_of_it (hr.mono (by decide)) hg (pa_cons (pv 9) pa_nil)))) pa_nil)))
      (pss_cons (ps_set (i := 8) sc_init.nd rfl (.inl rfl) (pe_g C_first_wrong (hr.mono (by decide)) hg (pa_cons (pv 1) (pa_cons (pv 7) pa_nil))))
      (pss_cons (ps_if (pt_cmp (pc_notN (pv 8)))
      (pss_one (ps_raise rfl (takes_of rfl rfl rfl rfl) (pmk_oex T.T T.iC T.tI (ok_nostuff T.F T.T T.sup T.no) (hr.mono (by decide)) T.b .nil pass0 rfl T.g (pa_cons (pv 8) pa_nil))))
      pss_nil)
      (pss_cons (ps_fld (pv 0) (pv 1) rfl)
      (pss_one (ps_fld (pv 0) (pv 7) rfl)))))), ?_⟩
    have s01 : Same H0 (upd (upd H0 dx (.own x)) x (.ins C dx [])) := fun b o e => by
      rw [upd_ne (ne_of_none e nx), upd_ne (ne_of_none e nd)]
      exact e
    have hx1 : upd (upd H0 dx (.own x)) x (.ins C dx []) x = some (.ins C dx []) := upd_same
    generalize upd (upd H0 dx (.own x)) x (.ins C dx []) = H1 at s01 hx1 ⊢
    refine ⟨_, rfl, _, rfl, _, rfl, _, rfl, _, rfl, by show 5 ≤ sizeLine; decide, fun p hp => ⟨p, rfl, ⟨_, .inl (.inl upd_same)⟩, fun Dl hD => ?_⟩⟩
    have s12 : Same H1 (upd H1 p (.tup [m0, m1, m2, m3, m4])) := same_new hp
    have tp : SqT K (upd H1 p (.tup [m0, m1, m2, m3, m4])) p [m0, m1, m2, m3, m4] := .inl (.inl upd_same)
    generalize upd H1 p (.tup [m0, m1, m2, m3, m4]) = H2 at s12 tp hD ⊢
    have s02 := s01.trans s12
    refine lc_tup (xs := [m0, m1, m2, m3, m4]) (fun i H' => Same H2 H' ∧ ∃ acc, H' Dl = some (.lst acc) ∧ DqAll K H0 acc ((ds.map orNone).take i)) ⟨same_new hD, [], upd_same, .nil⟩ (fun i H' _ h => sm_t h.1 tp) ?_ ?_
    · rintro i y H' hy ⟨sH, acc, hacc, hAc⟩
      obtain ⟨d, hd, hq⟩ := hA.get hy
      refine ⟨rfl, _, rfl, y, d, rfl, hq.same (s02.trans sH), fun v' hv => ⟨acc, hacc, ?_, fun b o e => ?_, acc ++ [v'], upd_same, ?_⟩⟩
      · have := hAc.length
        rw [List.length_take] at this
        have h5 : i < 5 := (List.getElem?_eq_some_iff.mp hy).1
        rw [sizeLine_eq]
        omega
      · rw [upd_ne (ne_of_none e hD)]
        exact sH _ _ e
      · rw [List.take_succ, List.getElem?_map, hd]
        exact hAc.app (.cons (hv H0 hq) .nil)
    · rintro H3 ⟨s23, acc, hacc, hAc⟩
      have s03 := s02.trans s23
      obtain ⟨d0, d1, d2, d3, d4, rfl, _⟩ := five_of hA
      have hAc' : DqAll K H0 acc ([d0, d1, d2, d3, d4].map orNone) := hAc
      clear hAc
      have hl5 : acc.length = 5 := hAc'.length
      refine ⟨Dl, acc, rfl, .inl ⟨.inl (.inl hacc), fun l hl => ?_⟩⟩
      have s34 : Same H3 (upd H3 l (.tup acc)) := same_new hl
      have tl : SqT K (upd H3 l (.tup acc)) l acc := .inl (.inl upd_same)
      generalize upd H3 l (.tup acc) = H4 at s34 tl ⊢
      have s04 := s03.trans s34
      refine ⟨_, rfl, _, rfl, vn, l, dn, acc, [d0, d1, d2, d3, d4].map orNone, rfl, hn.same s04, hz, tl, hl5, DqAll.same s04 hAc', ?_, fun H5 s45 => ?_⟩
      · intro i hi
        match i, hi with
        | 0, _ => exact hB 0 (by decide)
        | 1, _ => exact hB 1 (by decide)
        | 2, _ => exact hB 2 (by decide)
      have s05 := s04.trans s45
      have hx5 : H5 x = some (.ins C dx []) := (((s12.trans s23).trans s34).trans s45) _ _ hx1
      have tl5 := sm_t s45 tl
      cases hfw : fwR dn ([d0, d1, d2, d3, d4].map orNone) with
      | none =>
        rw [hfw] at k
        refine ⟨_, rfl, _, rfl, ite2 (fun e => absurd e (by decide)) (fun _ => ?_)⟩
        refine ⟨_, rfl, _, rfl, x, C, dx, [], rfl, hx5, c, n1, by decide, ?_⟩
        refine ⟨_, rfl, _, rfl, x, C, dx, _, rfl, upd_same, c, n2, by show 1 < 1000; decide, ?_⟩
        have s06 : Same H0 (upd (upd H5 x (.ins C dx (putF "own_name" vn []))) x (.ins C dx (putF "measures" (.ref l) (putF "own_name" vn [])))) := fun b o e => by
          rw [upd_ne (ne_of_none e nx), upd_ne (ne_of_none e nx)]
          exact s05 _ _ e
        have tl6 : SqT K (upd (upd H5 x (.ins C dx (putF "own_name" vn []))) x (.ins C dx (putF "measures" (.ref l) (putF "own_name" vn [])))) l acc := by
          rcases tl5 with (h | ⟨o, h⟩) | h
          · have ne : l ≠ x := fun z => by rw [z, hx5] at h; cases h
            exact .inl (.inl (by rw [upd_ne ne, upd_ne ne]; exact h))
          · have ne : l ≠ x := fun z => by rw [z, hx5] at h; cases h
            exact .inl (.inr ⟨o, by rw [upd_ne ne, upd_ne ne]; exact h⟩)
          · exact .inr h
        exact k _ s06 ⟨dx, l, acc, upd_same, hn.same s06, tl6, DqAll.same s06 hAc'⟩
      | some wd =>
        rw [hfw] at k
        refine ⟨_, rfl, _, rfl, iteT ?_⟩
        refine ⟨_, rfl, by show 1 ≤ 1000; decide, fun a ha => ⟨a, wd, rfl, fw_len hfw, upd_same, fun dx' e1 e2 => ⟨rfl, dx', [(("field" : Str), .str wd)], upd_same, ?_, ?_, ?_⟩⟩⟩
        · rw [upd_ne e2, upd_same]
        · rw [upd_ne e2] at e1
          exact e1
        · refine k _ dx' (fun b o e => ?_) upd_same
          have h5 := s05 _ _ e
          have nb1 : b ≠ a := ne_of_none h5 ha
          have nb2 : b ≠ dx' := ne_of_none h5 (by rw [upd_ne e2] at e1; exact e1)
          rw [upd_ne nb2, del_ne nb1, upd_ne nb1, upd_ne nb2, upd_ne nb1]
          exact h5
end
end Lf

set_option Elab.async false
set_option linter.all false
set_option maxRecDepth 100000
set_option maxHeartbeats 4000000
set_option exponentiation.threshold 3000
namespace Lf
open PySem PySem.Spec PyProof.Rows L2
section
variable {P : Program} {w : World} {K : PySem.W.Frag} {mg : Str → Option Value} {base : Heap}
abbrev s__law_field : Stmt := topS 42
theorem sc__law_field : FnScope ["_law_args", "_law_found", "e"] ["_law_args"] (defScope s__law_field) := ⟨rfl, rfl, rfl, by decide +kernel, rfl, by decide +kernel, by decide +kernel⟩
/-- six things of a list, as arguments of a stuff -/
structure Six (K : PySem.W.Frag) (H : Hp) (p : Addr) (vs : List V) (dn : PyData) (ds : List PyData) : Prop where
  at_ : SqL K H p vs
  all : DqAll K H vs (dn :: ds)
  len : vs.length = 6
  nm : ∀ z, dn = .str z → z.length ≤ 1000
  bt : ∀ i, i < 3 → isM (orNone (ds.getD i .none)) = true → Bt 290 (top2 (orNone (ds.getD i .none)))
/-- what _law_field tells -/
def FldR : Option Str → Hp → VK → Prop
  | none, H, Q => ∀ H', Same H H' → Q .non H'
  | some wd, H, Q => ∀ H' l, Same H H' → H' l = some (.lst [.bl true, .str wd]) → Q (.ref l) H'
def sp_field (K : PySem.W.Frag) : Sp := fun vs H Q _ => ∃ (p : Addr) (xs : List V) (dn : PyData) (ds : List PyData), vs = [.ref p] ∧ Six K H p xs dn ds ∧ FldR (fwR dn (ds.map orNone)) H Q
theorem ok_field {f C D fS fI cc cda cL : Addr} {fd fdS fdI : FuncData} {gg : List Value → List Value → List Value} (Mx : Bltx mg) (MV : mg "ValueError" = none) (T : XT P K mg "NoStuff" "NoStuff.__init__" "field" sNoStuff D fI fdI cc cda) (TE : ExcC K D) (TF : XfC K D)
    (gL : mg "LoafError" = some (.ref cL)) (mL : PySem.W.exmOne K (.ref D) (.ref cL) = some true) (kV : PySem.W.kitOne K (.ref D) (.type "ValueError") = some true)
    (F : Fun K "_law_field" "_law_field" s__law_field f fd) (MS : MakG P w K mg base (L2.CX P w) 9 "Stuff" C fS fdS ["self", "name", "flour", "water", "salt", "thirst", "price"] (sp_init K C D)) (hb : KBn K fdS ["self", "name", "flour", "water", "salt", "thirst", "price"] (6 + 1) [] gg (fun vs _ => vs)) : FnG P w K mg base CX0 11 f fd ["_law_args"] (sp_field K) := by
  refine Gfun F sc__law_field (fun vs H Q E h => ?_) (fun cdv A outer s H vs Q E hg hr h => ?_)
  · obtain ⟨p, xs, dn, ds, rfl, _⟩ := h
    rfl
  · obtain ⟨p, xs, dn, ds, rfl, S, k⟩ := h
    refine ⟨_, (pss_cons (ps_set (i := 1) sc__law_field.nd rfl (.inl rfl) pe_non)
      (pss_cons (ps_try_as (i := 2) (n := "e") (c := .ref cL) (tb := fun W => tDrop (tMkG C 6 0 (sp_init K C D) (fun vs _ => vs) (fun σ => WE W σ) (tCons (tOp (rIxL K) (tVar 0) (tC (.int 0))) (tCons (tOp (rIxL K) (tVar 0) (tC (.int 1))) (tCons (tOp (rIxL K) (tVar 0) (tC (.int 2))) (tCons (tOp (rIxL K) (tVar 0) (tC (.int 3))) (tCons (tOp (rIxL K) (tVar 0) (tC (.int 4))) (tCons (tOp (rIxL K) (tVar 0) (tC (.int 5))) tNil)))))) tNil))
          (ts := fun a cls d => tAsg (tLst (tCons (tAndV (tCB (rIsX K D a cls d) (tCons (tVar 2) (tCons (tC (.ref D)) tNil))) (tCB (rIsX K D a cls d) (tCons (tVar 2) (tCons (tC (.ty "ValueError")) tNil)))) (tCons (tIf (tB (tCB (rIsX K D a cls d) (tCons (tVar 2) (tCons (tC (.ref D)) tNil)))) (tXf a cls d D "field" (tVar 2)) (tC (.str ""))) tNil))) (gName 1)) (Wout := fun _ _ _ _ => False) rfl rfl sc__law_field.nd rfl rfl ⟨rfl, by decide, Or.inl gL⟩ takes0
        (fun W pn xe tk _ => pss_one (ps_expr (pe_mkG MS hb (hr.mono (by decide)) hg (fun σ => passAt tk σ) (pa_cons (pe_ix ix_list (pv 0) pe_int (fun _ _ => rfl)) (pa_cons (pe_ix ix_list (pv 0) pe_int (fun _ _ => rfl)) (pa_cons (pe_ix ix_list (pv 0) pe_int (fun _ _ => rfl)) (pa_cons (pe_ix ix_list (pv 0) pe_int (fun _ _ => rfl)) (pa_cons (pe_ix ix_list (pv 0) pe_int (fun _ _ => rfl)) (pa_cons (pe_ix ix_list (pv 0) pe_int (fun _ _ => rfl)) pa_nil)))))))))
        (fun a oe cls d pn hz hf => pss_one (ps_set (i := 1) sc__law_field.nd rfl (.inl rfl) (pe_lst (pa_cons (pe_and (pe_callB (call_isX TE hz hf) rfl Mx.isinstance bt_isinstance (pa_cons (pv 2) (pa_cons (pe_glob (v := .ref D) rfl T.g rfl) pa_nil))) (pe_one (pe_callB (call_isX TE hz hf) rfl Mx.isinstance bt_isinstance (pa_cons (pv 2) (pa_cons (pe_bltn (v := .ty "ValueError") rfl MV PyProof.Rows.Boot.«ValueError» rfl) pa_nil))))) (pa_cons (pe_ifExp (pt_val (pe_callB (call_isX TE hz hf) rfl Mx.isinstance bt_isinstance (pa_cons (pv 2) (pa_cons (pe_glob (v := .ref D) rfl T.g rfl) pa_nil)))) (pe_xf TF T.no hz hf (pv 2)) pe_str) pa_nil))))))
      (pss_one (ps_ret (pv 1))))), ?_⟩
    obtain ⟨v0, v1, v2, v3, v4, v5, rfl⟩ : ∃ v0 v1 v2 v3 v4 v5, xs = [v0, v1, v2, v3, v4, v5] := by
      match xs, S.len with
      | [v0, v1, v2, v3, v4, v5], _ => exact ⟨v0, v1, v2, v3, v4, v5, rfl⟩
    obtain ⟨hn, hA⟩ : Dq K H v0 dn ∧ DqAll K H [v1, v2, v3, v4, v5] ds := by
      have h := S.all
      cases h with
      | cons a r => exact ⟨a, r⟩
    have hS := S.at_
    refine ⟨_, rfl, p, _, _, _, rfl, rfl, hS, atI_nat (j := 0) rfl, _, rfl, p, _, _, _, rfl, rfl, hS, atI_nat (j := 1) rfl, _, rfl, p, _, _, _, rfl, rfl, hS, atI_nat (j := 2) rfl,
      _, rfl, p, _, _, _, rfl, rfl, hS, atI_nat (j := 3) rfl, _, rfl, p, _, _, _, rfl, rfl, hS, atI_nat (j := 4) rfl, _, rfl, p, _, _, _, rfl, rfl, hS, atI_nat (j := 5) rfl, rfl, rfl, fun x dx nx nd hdx => ?_⟩
    refine ⟨x, dx, H, v0, dn, [v1, v2, v3, v4, v5], ds, rfl, rfl, nx, nd, hdx, rfl, hn, S.nm, hA, S.bt, ?_⟩
    cases hfw : fwR dn (ds.map orNone) with
    | none =>
      rw [hfw] at k
      exact fun H' s' _ => ⟨rfl, _, rfl, k H' s'⟩
    | some wd =>
      rw [hfw] at k
      intro H' d s' hd
      have kD : PySem.W.kitOne K (.ref D) (.ref D) = some true := by unfold PySem.W.kitOne; rw [if_pos (by simp)]
      refine ⟨true, mL, fun _ a ha => ?_, fun z => Bool.noConfusion z⟩
      refine ⟨_, rfl, rfl, .inr ⟨d, _, rfl, hd⟩, .ref D, .ref D, true, rfl, fun u r => r, kD, _, rfl, iteT ?_⟩
      refine ⟨_, rfl, rfl, .inr ⟨d, _, rfl, hd⟩, .ty "ValueError", .type "ValueError", true, rfl, fun u r => r, kV, ?_⟩
      refine ⟨_, rfl, rfl, .inr ⟨d, _, rfl, hd⟩, .ref D, .ref D, true, rfl, fun u r => r, kD, _, rfl, iteT ?_⟩
      refine ⟨_, rfl, rfl, rfl, d, _, _, rfl, hd, rfl, by show 2 ≤ sizeLine; decide, fun l hl => ?_⟩
      refine ⟨_, rfl, k _ l (s'.trans (same_new hl)) upd_same⟩
end
end Lf

set_option Elab.async false
set_option linter.all false
set_option maxRecDepth 100000
set_option maxHeartbeats 4000000
set_option exponentiation.threshold 3000
namespace Lf
open PySem PySem.Spec PyProof.Rows L2
theorem sm_l {K : PySem.W.Frag} {H H' : Hp} {a : Addr} {xs : List V} (s : Same H H') (h : SqL K H a xs) : SqL K H' a xs := s.seq h
theorem small30 {n : Int} (h : 0 ≤ n) (h2 : n < 2147483648) : Sm n := Nat.lt_of_lt_of_le (show n.natAbs < 2 ^ 31 by omega) (Nat.pow_le_pow_right (by decide) (by decide))
section
variable {P : Program} {w : World} {K : PySem.W.Frag} {mg : Str → Option Value} {base : Heap}

/-! ### _law_cell -/
abbrev s__law_cell : Stmt := topS 27
theorem sc__law_cell : FnScope ["_law_script", "_law_k"] ["_law_script", "_law_k"] (defScope s__law_cell) := ⟨rfl, rfl, rfl, by decide +kernel, rfl, by decide +kernel, by decide +kernel⟩
def sp_cell (K : PySem.W.Frag) : Sp := fun vs H Q _ => ∃ (a : Addr) (ns : List Int) (k : Nat), vs = [.ref a, .int k] ∧ SqL K H a (ns.map V.int) ∧ k < 2 ^ 62 ∧ ∀ n : Int, Q (.int n) H
theorem ok_cell {f : Addr} {fd : FuncData} (M : Blt mg) (F : Fun K "_law_cell" "_law_cell" s__law_cell f fd) : FnG P w K mg base CX0 1 f fd ["_law_script", "_law_k"] (sp_cell K) := by
  refine Gfun F sc__law_cell (fun vs H Q E h => ?_) (fun cdv A outer s H vs Q E hg hr h => ?_)
  · obtain ⟨a, ns, k, rfl, _⟩ := h
    rfl
  · obtain ⟨a, ns, k, rfl, hS, hk, q⟩ := h
    refine ⟨_, (pss_one (ps_ret (pe_ifExp (pt_cmpR op_lt (pv 1) (pe_callB call_len_seq rfl M.len bt_len (pa_cons (pv 0) pa_nil)) (nomark _)) (pe_ix ix_list (pv 0) (pv 1) (fun _ _ => rfl)) pe_int))), ?_⟩
    refine ⟨_, rfl, _, rfl, a, _, rfl, .inl hS, _, _, rfl, rfl, _, rfl, ite2 (fun e => ?_) (fun e => ?_)⟩
    · have e' : (k : Int) < (((ns.map V.int).length : Nat) : Int) := of_decide_eq_true e
      rw [List.length_map] at e'
      have hlt : k < ns.length := by omega
      refine ⟨_, rfl, _, rfl, a, _, _, .int ns[k], rfl, rfl, hS, atI_nat ?_, q _⟩
      rw [List.getElem?_map, List.getElem?_eq_getElem hlt]
      rfl
    · exact q 0

/-! ### _law_pot -/
abbrev s__law_pot : Stmt := topS 28
theorem sc__law_pot : FnScope ["_law_cell_here"] ["_law_cell_here"] (defScope s__law_pot) := ⟨rfl, rfl, rfl, by decide +kernel, rfl, by decide +kernel, by decide +kernel⟩
def sp_pot : Sp := fun vs H Q _ => ∃ n : Int, vs = [.int n] ∧ ∀ (x y : Int) (p : Addr), 0 ≤ y → y < 2147483648 → H p = none → Q (.ref p) (upd H p (.lst [.int x, .int y]))
theorem ok_pot {f : Addr} {fd : FuncData} (M : Blt mg) (F : Fun K "_law_pot" "_law_pot" s__law_pot f fd) : FnG P w K mg base CX0 1 f fd ["_law_cell_here"] sp_pot := by
  refine Gfun F sc__law_pot (fun vs H Q E h => ?_) (fun cdv A outer s H vs Q E hg hr h => ?_)
  · obtain ⟨n, rfl, _⟩ := h
    rfl
  · obtain ⟨n, rfl, q⟩ := h
    refine ⟨_, (pss_one (ps_ret (pe_lst (pa_cons (pe_callB (call_max2 rfl) rfl M.max bt_max (pa_cons pe_int (pa_cons (pe_op op_sub (pv 0) (pe_op op_pow pe_int pe_int)) pa_nil))) (pa_cons (pe_op op_mod (pe_op op_add (pe_op op_mulW (pe_op op_mod (pv 0) pe_int) pe_int) pe_int) pe_int) pa_nil))))), ?_⟩
    refine ⟨_, rfl, 10, 18, rfl, rfl, ⟨by decide, by decide, by decide⟩, _, _, rfl, rfl, _, _, rfl, ?_⟩
    have h1 := Int.emod_nonneg n (show (2147483629 : Int) ≠ 0 by decide)
    have h2 := Int.emod_lt_of_pos n (show (0 : Int) < 2147483629 by decide)
    refine ⟨_, rfl, _, _, rfl, rfl, (by show (0 : Int) < 2147483629; decide), _, _, rfl, rfl, Sm.mulW (small30 h1 (by omega)) (small30 (by decide) (by decide)), _, _, rfl, rfl, _, _, rfl, rfl, (by show (0 : Int) < 2147483647; decide), lst2 fun p hp => ?_⟩
    have h3 := Int.emod_nonneg (n % 2147483629 * 48271 + 7919) (show (2147483647 : Int) ≠ 0 by decide)
    have h4 := Int.emod_lt_of_pos (n % 2147483629 * 48271 + 7919) (show (0 : Int) < 2147483647 by decide)
    exact q _ _ p h3 (by omega) hp

/-! ### _law_draw -/
abbrev s__law_draw : Stmt := topS 29
theorem sc__law_draw : FnScope ["_law_pot_here", "_law_many", "_law_digit"] ["_law_pot_here", "_law_many"] (defScope s__law_draw) := ⟨rfl, rfl, rfl, by decide +kernel, rfl, by decide +kernel, by decide +kernel⟩
/-- all but the pot at q stands as before -/
def But (q : Addr) (H H' : Hp) : Prop := ∀ b o, b ≠ q → H b = some o → H' b = some o
theorem But.rfl {q : Addr} {H : Hp} : But q H H := fun _ _ _ e => e
theorem But.trans {q : Addr} {H H1 H2 : Hp} (h : But q H H1) (k : But q H1 H2) : But q H H2 := fun b o n e => k b o n (h b o n e)
theorem But.same {q : Addr} {H H1 H2 : Hp} (h : But q H H1) (k : Same H1 H2) : But q H H2 := fun b o n e => k b o (h b o n e)
/-- a pot of draws at q -/
def Pot (H : Hp) (q : Addr) : Prop := ∃ x y : Int, 0 ≤ y ∧ y < 2147483648 ∧ H q = some (.lst [.int x, .int y])
def Drawn (H : Hp) (q : Addr) (Q : VK) (m : Int) : Prop := ∀ (r : Int) (H' : Hp), 0 ≤ r → r < m → Pot H' q → But q H H' → Q (.int r) H'
def sp_draw : Sp := fun vs H Q _ => ∃ (q : Addr) (m : Int), vs = [.ref q, .int m] ∧ 0 < m ∧ m.natAbs < 2 ^ 900 ∧ Pot H q ∧ Drawn H q Q m
theorem ok_draw {f : Addr} {fd : FuncData} (M : Blt mg) (F : Fun K "_law_draw" "_law_draw" s__law_draw f fd) : FnG P w K mg base CX0 1 f fd ["_law_pot_here", "_law_many"] sp_draw := by
  refine Gfun F sc__law_draw (fun vs H Q E h => ?_) (fun cdv A outer s H vs Q E hg hr h => ?_)
  · obtain ⟨q, m, rfl, _⟩ := h
    rfl
  · obtain ⟨q, m, rfl, hm, hm2, ⟨x, y, hy0, hy1, hP⟩, k⟩ := h
    refine ⟨_, (pss_cons (ps_if (pt_cmpR op_gt (pe_ix ix_list (pv 0) pe_int (fun _ _ => rfl)) pe_int (nomark _))
      (pss_cons (ps_asg (pe_callB call_divmodW rfl M.divmod bt_divmod (pa_cons (pe_ix ix_list (pv 0) pe_int (fun _ _ => rfl)) (pa_cons (pv 1) pa_nil))) (pg_tup rfl (pgs_cons (pg_sub (pv 0) pe_int set_list) (pgs_cons (pg_name (i := 2) sc__law_draw.nd rfl (.inl rfl)) pgs_nil))))
      (pss_one (ps_ret (pv 2))))
      pss_nil)
      (pss_cons (ps_asg (pe_op op_mod (pe_op op_add (pe_op op_mulW (pe_ix ix_list (pv 0) pe_int (fun _ _ => rfl)) pe_int) pe_int) pe_int) (pg_sub (pv 0) pe_int set_list))
      (pss_one (ps_ret (pe_op op_mod (pe_op op_fdivN (pe_op op_mod (pe_op op_mulW (pe_ix ix_list (pv 0) pe_int (fun _ _ => rfl)) (pe_ix ix_list (pv 0) pe_int (fun _ _ => rfl))) pe_int) pe_int) (pv 1)))))), ?_⟩
    refine ⟨_, rfl, q, _, _, _, rfl, rfl, .inl (.inl hP), rfl, _, _, rfl, rfl, _, rfl, ite2 (fun e => ?_) (fun e => ?_)⟩
    · refine ⟨_, rfl, q, _, _, _, rfl, rfl, .inl (.inl hP), rfl, _, rfl, x, m, rfl, ⟨hm, PyProof.noPylong_of_log2 (Nat.lt_of_lt_of_le (PySem.Flt.log2_lt_of (by decide) hm2) (by decide))⟩, fun p hp => ?_⟩
      have nq : q ≠ p := ne_of_none hP hp
      have hP2 : upd H p (.tup [.int (x / m), .int (x % m)]) q = some (.lst [.int x, .int y]) := by
        rw [upd_ne nq]
        exact hP
      refine ⟨p, _, rfl, .inl (.inl upd_same), rfl, _, _, rfl, ?_⟩
      refine ⟨_, rfl, q, _, _, _, rfl, rfl, hP2, rfl, ?_⟩
      refine ⟨_, _, rfl, rfl, ?_⟩
      refine ⟨_, rfl, k (x % m) _ (Int.emod_nonneg _ (by omega)) (Int.emod_lt_of_pos _ hm) ⟨x / m, y, hy0, hy1, upd_same⟩ fun b o nb eb => ?_⟩
      rw [upd_ne nb, upd_ne (ne_of_none eb hp)]
      exact eb
    · refine ⟨_, rfl, q, _, _, _, rfl, rfl, .inl (.inl hP), rfl, _, _, rfl, rfl, Sm.mulW (small30 hy0 hy1) (small30 (by decide) (by decide)), _, _, rfl, rfl, _, _, rfl, rfl, (by show (0 : Int) < 2147483587; decide), ?_⟩
      refine ⟨_, rfl, q, _, _, _, rfl, rfl, hP, rfl, ?_⟩
      have h3 := Int.emod_nonneg (y * 39373 + 8191) (show (2147483587 : Int) ≠ 0 by decide)
      have h4 := Int.emod_lt_of_pos (y * 39373 + 8191) (show (0 : Int) < 2147483587 by decide)
      have sz : Sm ((y * 39373 + 8191) % 2147483587) := small30 h3 (by omega)
      refine ⟨_, rfl, q, _, _, _, rfl, rfl, .inl (.inl upd_same), rfl, _, rfl, q, _, _, _, rfl, rfl, .inl (.inl upd_same), rfl, _, _, rfl, rfl, Sm.mulW sz sz, _, _, rfl, rfl, (by show (0 : Int) < 2147483543; decide), ?_⟩
      refine ⟨_, _, rfl, rfl, ⟨by decide, by decide⟩, _, rfl, _, _, rfl, rfl, hm, ?_⟩
      refine k _ _ (Int.emod_nonneg _ (by omega)) (Int.emod_lt_of_pos _ hm) ⟨x, _, h3, by omega, upd_same⟩ fun b o nb eb => ?_
      rw [upd_ne nb]
      exact eb

/-! ### _law_low -/
abbrev s__law_low : Stmt := topS 30
theorem sc__law_low : FnScope ["_law_top", "_law_bottom", "_law_one", "_law_other"] ["_law_top", "_law_bottom"] (defScope s__law_low) := ⟨rfl, rfl, rfl, by decide +kernel, rfl, by decide +kernel, by decide +kernel⟩
def sp_low : Sp := fun vs H Q _ => ∃ (n d : Int), vs = [.int n, .int d] ∧ d ≠ 0 ∧ Mid d ∧ Two H Q (low n d)
theorem ok_low {f : Addr} {fd : FuncData} (M : Blt mg) (F : Fun K "_law_low" "_law_low" s__law_low f fd) : FnG P w K mg base CX0 1 f fd ["_law_top", "_law_bottom"] sp_low := by
  refine Gfun F sc__law_low (fun vs H Q E h => ?_) (fun cdv A outer s H vs Q E hg hr h => ?_)
  · obtain ⟨n, d, rfl, _⟩ := h
    rfl
  · obtain ⟨n, d, rfl, hd, hd2, q⟩ := h
    refine ⟨_, (pss_cons (ps_par (i := 2) (j := 3) rfl sc__law_low.nd rfl rfl (by decide) rfl rfl (pa_cons (pe_callB call_abs rfl M.abs bt_abs (pa_cons (pv 0) pa_nil)) (pa_cons (pe_callB call_abs rfl M.abs bt_abs (pa_cons (pv 1) pa_nil)) pa_nil)) (by rfl))
      (pss_cons (ps_while PassesOwn.never (pt_cmpR op_gt (pv 3) pe_int (nomark _))
      (pss_one (ps_par (i := 2) (j := 3) rfl sc__law_low.nd rfl rfl (by decide) rfl rfl (pa_cons (pv 3) (pa_cons (pe_op op_mod (pv 2) (pv 3)) pa_nil)) (by rfl))))
      (pss_cons (ps_if (pt_cmpR op_lt (pv 1) pe_int (nomark _))
      (pss_one (ps_set (i := 2) sc__law_low.nd rfl (.inl rfl) (pe_un un_neg (pv 2))))
      pss_nil)
      (pss_one (ps_ret (pe_tup (pa_cons (pe_op op_fdivN (pv 0) (pv 2)) (pa_cons (pe_op op_fdivN (pv 1) (pv 2)) pa_nil)))))))), ?_⟩
    refine ⟨_, rfl, _, rfl, _, rfl, _, rfl, _, _, rfl, ?_⟩
    refine while_by (fun σ H' => ∃ x y : Int, σ = [some (.int n), some (.int d), some (.int x), some (.int y)] ∧ 0 ≤ x ∧ 0 ≤ y ∧ Nat.gcd x.natAbs y.natAbs = Nat.gcd n.natAbs d.natAbs ∧ H' = H)
      (fun σ _ => match σ with | [_, _, _, some (.int y)] => y.toNat | _ => 0) ⟨_, _, rfl, ?_, ?_, ?_, rfl⟩ ?_ ?_
    · rw [abs_is]
      omega
    · rw [abs_is]
      omega
    · rw [abs_is, abs_is, Int.natAbs_natCast, Int.natAbs_natCast]
    · rintro σ H1 ⟨x, y, rfl, hx, hy, hgc, rfl⟩
      refine ⟨_, rfl, _, _, rfl, rfl, _, rfl, ite2 (fun e => ?_) (fun e => ?_)⟩
      · have hyp : 0 < y := of_decide_eq_true e
        refine ⟨_, rfl, _, rfl, _, rfl, x, y, rfl, rfl, hyp, _, _, rfl, ⟨y, x % y, rfl, hy, Int.emod_nonneg _ (by omega), (gcd_step x y hyp hx).trans hgc, rfl⟩, ?_⟩
        show (x % y).toNat < y.toNat
        have := Int.emod_lt_of_pos x hyp
        omega
      · have hy0 : y = 0 := by
          have : ¬ 0 < y := fun z => e (decide_eq_true z)
          omega
        subst hy0
        rw [Int.natAbs_zero, Nat.gcd_zero_right] at hgc
        have ex : x = ((Nat.gcd n.natAbs d.natAbs : Nat) : Int) := by omega
        subst ex
        have hgz : ((Nat.gcd n.natAbs d.natAbs : Nat) : Int) ≠ 0 := by
          have := gcd_pos (n := n) hd
          omega
        have hlg := (gcd_mid (n := n) hd hd2).log
        refine ⟨_, rfl, _, _, rfl, rfl, _, rfl, ite2 (fun e => ?_) (fun e => ?_)⟩
        · have e' : d < 0 := of_decide_eq_true e
          have hm : ∀ i, CDivN i (-((Nat.gcd n.natAbs d.natAbs : Nat) : Int)) := fun i => ⟨by omega, by rw [Int.natAbs_neg]; exact hlg⟩
          refine ⟨_, rfl, _, rfl, _, rfl, _, rfl, n, _, rfl, rfl, hm n, _, rfl, _, rfl, d, _, rfl, rfl, hm d, (by show 2 ≤ sizeLine; decide), fun p hp => ?_⟩
          refine q _ p (same_new hp) ?_
          rw [← low_fdiv_neg (n := n) e']
          exact upd_same
        · have e' : 0 < d := by
            have : ¬ d < 0 := fun z => e (decide_eq_true z)
            omega
          have hm : ∀ i, CDivN i ((Nat.gcd n.natAbs d.natAbs : Nat) : Int) := fun i => ⟨hgz, hlg⟩
          refine ⟨_, rfl, _, rfl, n, _, rfl, rfl, hm n, _, rfl, _, rfl, d, _, rfl, rfl, hm d, (by show 2 ≤ sizeLine; decide), fun p hp => ?_⟩
          refine q _ p (same_new hp) ?_
          rw [← low_fdiv_pos (n := n) e']
          exact upd_same
    · rintro σ H1 Q1 Q2 hq ⟨u, hu, i, j, h1, h2, k, h3, h4⟩
      exact ⟨u, hu, i, j, h1, h2, k, h3, hq _ _ h4⟩

end
end Lf

set_option Elab.async false
set_option linter.all false
set_option maxRecDepth 100000
set_option maxHeartbeats 4000000
set_option exponentiation.threshold 3000
namespace Lf
open PySem PySem.Spec PyProof.Rows L2
theorem op_notInK {X : Cx} {K : PySem.W.Frag} (h : X.A.units + 65 < cLine) (hK : X.K = K := by rfl) : OpR X (compareOp .NotIn) (rNotInD K) := by
  subst hK
  exact op_notInD h
def AllL (z : Str) : Prop := ∀ c ∈ z.cps.toList, inL c = true
theorem al_app {x y : Str} (h : AllL x) (k : AllL y) : AllL (x ++ y) := by
  intro c hc
  have e : (x ++ y).cps.toList = x.cps.toList ++ y.cps.toList := by
    rw [show (x ++ y).cps = x.cps ++ y.cps from rfl, Array.toList_append]
  rw [e] at hc
  rcases List.mem_append.mp hc with q | q
  · exact h c q
  · exact k c q
theorem nm_join : ∀ ys : List Str, (∀ y ∈ ys, y.length = 1 ∧ AllL y) → ys ≠ [] → (Str.join (Str.ofString "") ys).length = ys.length ∧ AllL (Str.join (Str.ofString "") ys)
  | [], _, h => absurd rfl h
  | [x], h, _ => h x List.mem_cons_self
  | x :: y :: r, h, _ => by
    obtain ⟨l, a⟩ := nm_join (y :: r) (fun z hz => h z (List.mem_cons_of_mem _ hz)) (by simp)
    obtain ⟨l1, a1⟩ := h x List.mem_cons_self
    have e : Str.join (Str.ofString "") (x :: y :: r) = x ++ Str.ofString "" ++ Str.join (Str.ofString "") (y :: r) := rfl
    have e0 : AllL (Str.ofString "") := fun c hc => by
      have : (Str.ofString "").cps.toList = [] := by decide +kernel
      rw [this] at hc
      cases hc
    rw [e]
    refine ⟨?_, al_app (al_app a1 e0) a⟩
    rw [PySem.Str.length_append, PySem.Str.length_append, l1, l, show (Str.ofString "").length = 0 by decide +kernel, List.length_cons (a := x)]
    omega
theorem pot_same {H H' : Hp} {q : Addr} (h : Pot H q) (s : Same H H') : Pot H' q := by
  obtain ⟨x, y, a, b, e⟩ := h
  exact ⟨x, y, a, b, s _ _ e⟩
theorem inL_lt {c : Nat} (h : inL c = true) : c < 0x110000 := by
  have hc : c ∈ lets.cps.toList := of_decide_eq_true h
  have all : ∀ x ∈ lets.cps.toList, x < 0x110000 := by decide +kernel
  exact all c hc
theorem al_cut {z : Str} (lo hi : Option Int) (h : AllL z) : AllL (cutS z lo hi) := fun c hc => h c (List.mem_of_mem_drop (List.mem_of_mem_take (show c ∈ ((z.cps.toList.drop _).take _) by simpa [cutS] using hc)))
theorem al_shaped {z : Str} (h : AllL z) : SeqAt.shaped (.str z) = true := by
  unfold SeqAt.shaped
  rw [Bool.and_eq_true]
  refine ⟨?_, decide_eq_true ?_⟩
  · simp only [PyData.canLay0, PyData.strOk]
    simp
    intro c hc
    exact inL_lt (h _ (by simp))
  · simp only [PyData.depth]
    omega
theorem sq_but {K : PySem.W.Frag} {H H' : Hp} {q t : Addr} {xs : List V} (b : But q H H') (n : t ≠ q) (h : SqL K H t xs) : SqL K H' t xs := by
  rcases h with (h | ⟨o, h⟩) | h
  · exact .inl (.inl (b _ _ n h))
  · exact .inl (.inr ⟨o, b _ _ n h⟩)
  · exact .inr h
theorem ones_sum : ∀ ys : List Str, (∀ y ∈ ys, y.length = 1 ∧ AllL y) → (ys.map (·.length)).sum = ys.length
  | [], _ => rfl
  | y :: r, h => by
    rw [List.map_cons, List.sum_cons, (h y List.mem_cons_self).1, ones_sum r fun z hz => h z (List.mem_cons_of_mem _ hz), List.length_cons]
    omega
section
variable {P : Program} {w : World} {K : PySem.W.Frag} {mg : Str → Option Value} {base : Heap}

/-! ### _law_name -/
abbrev s__law_name : Stmt := topS 32
theorem sc__law_name : FnScope ["_law_pot_here", "_law_taken", "_law_letters", "_law_size", "_law_name_here", "_law_some_here", "_law_k", "_law_one"] ["_law_pot_here", "_law_taken"] (defScope s__law_name) := ⟨rfl, rfl, rfl, by decide +kernel, rfl, by decide +kernel, by decide +kernel⟩
/-- a name: one to ten small letters -/
def sp_name (K : PySem.W.Frag) : Sp := fun vs H Q _ => ∃ (q t : Addr), vs = [.ref q, .ref t] ∧ t ≠ q ∧ Pot H q ∧ SqL K H t [] ∧ ∀ (z : Str) (H' : Hp), isNm (.str z) = true → z.length ≤ 10 → Pot H' q → But q H H' → Q (.str z) H'
theorem ok_name {f : Addr} {fd : FuncData} (M : Blt mg) (F : Fun K "_law_name" "_law_name" s__law_name f fd) (C__law_draw : Cal P w K mg base CX0 1 "_law_draw" ["_law_pot_here", "_law_many"] sp_draw) : FnG P w K mg base CX0 2 f fd ["_law_pot_here", "_law_taken"] (sp_name K) := by
  refine Gfun F sc__law_name (fun vs H Q E h => ?_) (fun cdv A outer s H vs Q E hg hr h => ?_)
  · obtain ⟨q, t, rfl, _⟩ := h
    rfl
  · obtain ⟨q, t, rfl, ntq, hP, ht, k⟩ := h
    refine ⟨_, (pss_cons (ps_set (i := 2) sc__law_name.nd rfl (by first | exact .inl rfl | exact .inr rfl) pe_str)
      (pss_cons (ps_set (i := 3) sc__law_name.nd rfl (by first | exact .inl rfl | exact .inr rfl) (pe_op op_add pe_int (pe_g C__law_draw (hr.mono (by decide)) hg (pa_cons (pv 0) (pa_cons (pe_ix ix_list (pe_lst (pa_cons pe_int (pa_cons pe_int (pa_cons pe_int pa_nil)))) (pe_g C__law_draw (hr.mono (by decide)) hg (pa_cons (pv 0) (pa_cons pe_int pa_nil))) (fun _ _ => rfl)) pa_nil)))))
      (pss_cons (ps_set (i := 4) sc__law_name.nd rfl (by first | exact .inl rfl | exact .inr rfl) (pe_bm PySem.F.plainAttrs_str PySem.F.slot_str_join PySem.F.type_str_join mt_join pe_str (pa_cons (pe_lc (own := [("_law_k", 6)]) (g := gName 6) (tt := tYes) rfl sc__law_name.nd (pi_range1 rfl M.range (pa_cons (pv 3) pa_nil)) (blkOk_by (N := ["_law_pot_here", "_law_taken", "_law_letters", "_law_size", "_law_name_here", "_law_some_here", "_law_k", "_law_one"]) (sc := defScope s__law_name) (by decide +kernel)) (fun _ _ _ _ _ => pg_name (i := 6) sc__law_name.nd rfl (Or.inl rfl)) (fun _ _ _ _ _ => pts_nil) (fun _ _ _ _ _ => (pe_item_str (pv 2) (pe_g C__law_draw (hr.mono (by decide)) hg (pa_cons (pv 0) (pa_cons pe_int pa_nil))) (fun _ _ => rfl)))) pa_nil)))
      (pss_cons (ps_set (i := 5) sc__law_name.nd rfl (by first | exact .inl rfl | exact .inr rfl) (pe_op op_cat (pe_lst (pa_cons (pv 4) pa_nil)) (pe_lc (own := [("_law_k", 6)]) (g := gName 6) (tt := tYes) rfl sc__law_name.nd (pi_range1 rfl M.range (pa_cons pe_int pa_nil)) (blkOk_by (N := ["_law_pot_here", "_law_taken", "_law_letters", "_law_size", "_law_name_here", "_law_some_here", "_law_k", "_law_one"]) (sc := defScope s__law_name) (by decide +kernel)) (fun _ _ _ _ _ => pg_name (i := 6) sc__law_name.nd rfl (Or.inl rfl)) (fun _ _ _ _ _ => pts_nil) (fun _ _ _ _ _ => (pe_op op_add_str (pe_op op_add_str (pe_slice sl_str (pv 4) po_none (po_some pe_int)) (pe_item_str (pv 2) (pv 6) (fun _ _ => rfl))) pe_str)))))
      (pss_one (ps_ret (pe_ix ix_list (pe_lc (own := [("_law_one", 7)]) (g := gName 7) rfl sc__law_name.nd (pi_list (pv 5)) (blkOk_by (N := ["_law_pot_here", "_law_taken", "_law_letters", "_law_size", "_law_name_here", "_law_some_here", "_law_k", "_law_one"]) (sc := defScope s__law_name) (by decide +kernel)) (fun _ _ _ _ _ => pg_name (i := 7) sc__law_name.nd rfl (Or.inl rfl)) (fun _ _ _ _ _ => (pts_one (pt_cmpR (op_notInK (K := K) (by exact u65 hr)) (pv 7) (pv 1) rfl))) (fun _ _ _ _ _ => (pv 7))) pe_int (fun _ _ => rfl)))))))), ?_⟩
    refine ⟨_, rfl, by decide, fun p3 hp3 => ⟨_, rfl, q, 3, rfl, by decide, by decide, ?_, fun r1 H1 r10 r11 hP1 b1 => ?_⟩⟩
    · exact pot_same hP (same_new hp3)
    have b01 : But q H H1 := fun b o nb e => b1 _ _ nb (by rw [upd_ne (ne_of_none e hp3)]; exact e)
    have np3 : p3 ≠ q := fun z => by
      obtain ⟨x, y, _, _, e⟩ := hP
      rw [← z, hp3] at e
      cases e
    have e3 : H1 p3 = some (.lst [.int 1, .int 3, .int 10]) := b1 _ _ np3 upd_same
    obtain ⟨m, hm1, hm2, hat⟩ : ∃ m : Int, 1 ≤ m ∧ m ≤ 10 ∧ atI [V.int 1, V.int 3, V.int 10] r1 = some (.int m) := by
      have h3 : r1 = 0 ∨ r1 = 1 ∨ r1 = 2 := by omega
      rcases h3 with rfl | rfl | rfl
      · exact ⟨1, by decide, by decide, rfl⟩
      · exact ⟨3, by decide, by decide, rfl⟩
      · exact ⟨10, by decide, by decide, rfl⟩
    refine ⟨p3, _, r1, _, rfl, rfl, .inl (.inl e3), hat, q, m, rfl, by omega, ?_, hP1, fun r2 H2 r20 r21 hP2 b2 => ?_⟩
    · exact Nat.lt_of_lt_of_le (show m.natAbs < 2 ^ 5 by show m.natAbs < 32; omega) (Nat.pow_le_pow_right (by decide) (by decide))
    have b02 : But q H H2 := fun b o nb e => b2 _ _ nb (b01 _ _ nb e)
    refine ⟨_, _, rfl, rfl, rfl, _, rfl, _, rfl, by omega, by omega, fun D hD => ?_⟩
    have nDq : D ≠ q := fun z => by
      obtain ⟨x, y, _, _, e⟩ := hP2
      rw [← z, hD] at e
      cases e
    have hl26 : (Str.ofString "abcdefghijklmnopqrstuvwxyz").length = 26 := by decide +kernel
    have keepD : ∀ b o, b ≠ q → H b = some o → b ≠ D := fun b o nb eb z => by
      have := b02 _ _ nb eb
      rw [z, hD] at this
      cases this
    refine lc_range (lo := 0) (n := (1 + r2).toNat) (fun i H' => ∃ ys : List Str, H' D = some (.lst (ys.map V.str)) ∧ ys.length = i ∧ (∀ y ∈ ys, y.length = 1 ∧ AllL y) ∧ Pot H' q ∧ But q H H')
      ⟨[], upd_same, rfl, (fun y h => nomatch h), pot_same hP2 (same_new hD), fun b o nb e => by rw [upd_ne (keepD b o nb e)]; exact b02 _ _ nb e⟩ ?_ ?_
    · rintro i H5 hi ⟨ys, eD, hl, hy, hP5, b5⟩
      refine ⟨rfl, _, rfl, _, rfl, q, 26, rfl, by decide, by decide, hP5, fun r6 H6 r60 r61 hP6 b6 => ?_⟩
      have hlt : r6.toNat < (Str.ofString "abcdefghijklmnopqrstuvwxyz").cps.size := by
        show r6.toNat < (Str.ofString "abcdefghijklmnopqrstuvwxyz").length
        omega
      obtain ⟨c6, hgc⟩ : ∃ c6, (Str.ofString "abcdefghijklmnopqrstuvwxyz").cps[r6.toNat]? = some c6 := ⟨_, Array.getElem?_eq_getElem hlt⟩
      refine ⟨_, r6, c6, rfl, rfl, r60, by omega, by omega, hgc, ys.map V.str, b6 _ _ nDq eD, ?_, ys ++ [⟨#[c6]⟩], ?_, ?_, ?_, ?_, ?_⟩
      · rw [List.length_map, sizeLine_eq]
        omega
      · rw [upd_same, List.map_append]
        rfl
      · rw [List.length_append, hl]
        rfl
      · intro y h
        rcases List.mem_append.mp h with z | z
        · exact hy y z
        · rw [List.mem_singleton.mp z]
          refine ⟨rfl, fun c hc => ?_⟩
          have : c = c6 := by simpa using hc
          rw [this]
          exact decide_eq_true (List.mem_of_getElem? (by rw [Array.getElem?_toList]; exact hgc))
      · obtain ⟨x, y, y0, y1, eP⟩ := hP6
        refine ⟨x, y, y0, y1, ?_⟩
        rw [upd_ne nDq.symm]
        exact eP
      · intro b o nb eb
        rw [upd_ne (keepD b o nb eb)]
        exact b6 _ _ nb (b5 _ _ nb eb)
    rintro H5 ⟨ys, eD, hl, hy, hP5, b5⟩
    have ne : ys ≠ [] := fun z => by
      rw [z] at hl
      have : (0 : Nat) = (1 + r2).toNat := hl
      omega
    obtain ⟨jl, ja⟩ := nm_join ys hy ne
    rw [← StrLaws.glued_eq_join] at jl ja
    have jl' : (Txt.join (Str.ofString "") ys).length = (1 + r2).toNat := jl.trans hl
    refine ⟨_, D, ys, rfl, rfl, .inl (.inl (.inl eD)), ?_, ?_⟩
    · rw [ones_sum ys hy, show (Str.ofString "").length = 0 by decide +kernel, Nat.mul_zero]
      omega
    have hnm : isNm (.str (Txt.join (Str.ofString "") ys)) = true := by
      show (decide (1 ≤ _) && decide (_ ≤ 10) && List.all _ inL) = true
      rw [decide_eq_true (by omega), decide_eq_true (by omega), Bool.and_self, Bool.true_and, List.all_eq_true]
      exact ja
    have hle : (Txt.join (Str.ofString "") ys).length ≤ 10 := by omega
    have hal : AllL (Txt.join (Str.ofString "") ys) := ja
    generalize Txt.join (Str.ofString "") ys = z at hnm hle hal ⊢
    refine ⟨_, rfl, by show 1 ≤ sizeLine; decide, fun l1 hl1 => ⟨_, rfl, by decide, by decide, fun D2 hD2 => ?_⟩⟩
    have s56 : Same H5 (upd H5 l1 (.lst [.str z])) := same_new hl1
    have e6 : upd H5 l1 (.lst [.str z]) l1 = some (.lst [.str z]) := upd_same
    generalize upd H5 l1 (.lst [.str z]) = H6 at s56 e6 hD2 ⊢
    refine lc_range (lo := 0) (n := 26) (fun i H' => ∃ zs : List Str, H' D2 = some (.lst (zs.map V.str)) ∧ zs.length = i ∧ (∀ y ∈ zs, AllL y) ∧ Same H6 H') ⟨[], upd_same, rfl, (fun y h => nomatch h), same_new hD2⟩ ?_ ?_
    · rintro i H7 hi ⟨zs, eD2, hl2, hy2, s67⟩
      have hlt : i < (Str.ofString "abcdefghijklmnopqrstuvwxyz").cps.size := by
        show i < (Str.ofString "abcdefghijklmnopqrstuvwxyz").length
        omega
      obtain ⟨c7, hgc⟩ : ∃ c7, (Str.ofString "abcdefghijklmnopqrstuvwxyz").cps[i]? = some c7 := ⟨_, Array.getElem?_eq_getElem hlt⟩
      have c1 := cutS_length z none (some 8)
      have l1' : (⟨#[c7]⟩ : Str).length = 1 := rfl
      have lq : (Str.ofString "q").length = 1 := by decide +kernel
      have zl := sizeLine_eq
      have ea : ((0 : Int) + (i : Int)).toNat = i := by omega
      refine ⟨rfl, _, rfl, 8, rfl, _, rfl, by omega, _, rfl, _, rfl, _, _, c7, rfl, rfl, by omega, by omega, by omega, by rw [ea]; exact hgc, _, _, rfl, rfl, by omega, _, _, rfl, rfl, ?_, zs.map V.str, eD2, ?_, zs ++ [cutS z none (some 8) ++ ⟨#[c7]⟩ ++ Str.ofString "q"], ?_, ?_, ?_, ?_⟩
      · rw [PySem.Str.length_append]
        omega
      · rw [List.length_map]
        omega
      · rw [upd_same, List.map_append]
        rfl
      · rw [List.length_append, hl2]
        rfl
      · intro y h
        rcases List.mem_append.mp h with zz | zz
        · exact hy2 y zz
        · rw [List.mem_singleton.mp zz]
          refine al_app (al_app (al_cut _ _ hal) fun c hc => ?_) fun c hc => ?_
          · have : c = c7 := by simpa using hc
            rw [this]
            exact decide_eq_true (List.mem_of_getElem? (by rw [Array.getElem?_toList]; exact hgc))
          · have : (Str.ofString "q").cps.toList = [113] := by decide +kernel
            rw [this] at hc
            rw [List.mem_singleton.mp hc]
            decide +kernel
      · intro b o e
        rw [upd_ne (ne_of_none e hD2)]
        exact s67 _ _ e
    rintro H7 ⟨zs, eD2, hl2, hy2, s67⟩
    refine ⟨l1, D2, [.str z], zs.map V.str, rfl, rfl, s67 _ _ e6, eD2, by rw [List.length_map, hl2, sizeLine_eq]; show 1 + 26 ≤ 16777216; decide, fun l2 hl2' => ?_⟩
    have s78 : Same H7 (upd H7 l2 (.lst ([.str z] ++ zs.map V.str))) := same_new hl2'
    have e8 : upd H7 l2 (.lst ([.str z] ++ zs.map V.str)) l2 = some (.lst ((z :: zs).map V.str)) := upd_same
    generalize upd H7 l2 (.lst ([.str z] ++ zs.map V.str)) = H8 at s78 e8 ⊢
    have s58 := (s56.trans s67).trans s78
    refine ⟨_, rfl, l2, rfl, ⟨_, .inl (.inl e8)⟩, fun D3 hD3 => ?_⟩
    have nD3 : ∀ b o, H8 b = some o → b ≠ D3 := fun b o e => ne_of_none e hD3
    refine lc_list (xs := (z :: zs).map V.str) (fun i H' => Same H8 H' ∧ H' D3 = some (.lst (((z :: zs).take i).map V.str))) ⟨same_new hD3, upd_same⟩ (fun i H' _ h => .inl (.inl (h.1 _ _ e8))) ?_ ?_
    · rintro i y H9 hy9 ⟨s89, e9⟩
      rw [List.getElem?_map] at hy9
      obtain ⟨y', hy', rfl⟩ : ∃ y', (z :: zs)[i]? = some y' ∧ y = .str y' := by
        cases h : (z :: zs)[i]? with
        | none => rw [h] at hy9; cases hy9
        | some y' => rw [h] at hy9; exact ⟨y', rfl, (Option.some.inj hy9).symm⟩
      have aly : AllL y' := by
        rcases List.mem_cons.mp (List.mem_of_getElem? hy') with rfl | h
        · exact hal
        · exact hy2 y' h
      have ht9 : SqL K H9 t [] := sm_l (s58.trans s89) (sq_but b5 ntq ht)
      refine ⟨rfl, _, rfl, _, rfl, .str y', [], .str _, .lst ht9 .nil, al_shaped aly, by decide, _, rfl, iteT ?_⟩
      have hi : i < (z :: zs).length := (List.getElem?_eq_some_iff.mp hy').1
      rw [List.length_cons, hl2] at hi
      refine ⟨_, rfl, _, e9, ?_, fun b o e => ?_, ?_⟩
      · rw [List.length_map, List.length_take, sizeLine_eq]
        omega
      · rw [upd_ne (nD3 b o e)]
        exact s89 _ _ e
      · rw [upd_same, List.take_succ, hy', List.map_append]
        rfl
    · rintro H9 ⟨s89, e9⟩
      have e9' : H9 D3 = some (.lst ((z :: zs).map V.str)) := by
        rw [e9, List.length_map, List.take_length]
      exact ⟨D3, _, 0, _, rfl, rfl, .inl (.inl e9'), atI_nat (j := 0) rfl, k z H9 hnm hle (pot_same hP5 (s58.trans s89)) fun b o nb e => (s58.trans s89) _ _ (b5 _ _ nb e)⟩
end
end Lf

set_option Elab.async false
set_option linter.all false
set_option maxRecDepth 100000
set_option maxHeartbeats 4000000
set_option exponentiation.threshold 3000
namespace Lf
open PySem PySem.Spec PyProof.Rows L2
section
variable {P : Program} {w : World} {K : PySem.W.Frag} {mg : Str → Option Value} {base : Heap}

theorem low_one {a b : Int} (hb : 0 < b) : decide (low a b = (a, b)) = decide (Nat.gcd a.natAbs b.natAbs = 1) := by
  by_cases h : Nat.gcd a.natAbs b.natAbs = 1
  · rw [decide_eq_true h]
    exact decide_eq_true (low_self ⟨hb, h⟩)
  · rw [decide_eq_false h]
    refine decide_eq_false fun z => h ?_
    have := (low_is (n := a) (d := b) (by omega)).2
    rw [z] at this
    exact this
theorem eqv_tD (f g : Int × Int) : PyData.eqv (tD f) (tD g) = decide (f = g) := by
  obtain ⟨a, b⟩ := f
  obtain ⟨c, d⟩ := g
  simp only [tD, PyData.eqv, PyData.eqvAll, Bool.and_true]
  by_cases h : (a, b) = (c, d)
  · rw [decide_eq_true h]
    cases h
    simp
  · rw [decide_eq_false h]
    by_cases h1 : a = c
    · by_cases h2 : b = d
      · exact absurd (by rw [h1, h2]) h
      · simp [h2]
    · simp [h1]
theorem tD_shaped (f : Int × Int) : SeqAt.shaped (tD f) = true := by
  unfold SeqAt.shaped
  rw [Bool.and_eq_true]
  refine ⟨by simp only [tD, PyData.canLay0, PyData.canLayAll0, Bool.and_self], decide_eq_true ?_⟩
  simp only [tD, PyData.depth, PyData.depthAll]
  omega

/-! ### _law_is_name -/
abbrev s__law_is_name : Stmt := topS 38
theorem sc__law_is_name : FnScope ["_law_thing", "_law_sign"] ["_law_thing"] (defScope s__law_is_name) := ⟨rfl, rfl, rfl, by decide +kernel, rfl, by decide +kernel, by decide +kernel⟩
def sp_lisnm (K : PySem.W.Frag) : Sp := fun vs H Q _ => ∃ (v : V) (d : PyData), vs = [v] ∧ Dq K H v d ∧ (∀ z, d = .str z → z.length ≤ 1000 ∧ ∀ c ∈ z.cps.toList, c < 0x110000) ∧ ∀ H', Same H H' → Q (.bl (isNm d)) H'
theorem filt_empty (l : List Nat) : (l.filter fun c => !inL c).isEmpty = l.all inL := by
  induction l with
  | nil => rfl
  | cons c l ih =>
    rw [List.filter_cons, List.all_cons]
    cases h : inL c
    · rfl
    · simpa [h] using ih
theorem signs_dp {H : Hp} : ∀ l : List Nat, DpAll K H (l.map fun c => V.str ⟨#[c]⟩) (l.map fun c => PyData.str ⟨#[c]⟩)
  | [] => .nil
  | c :: l => .cons (.str _) (signs_dp l)
theorem signs_shaped : ∀ l : List Nat, (∀ c ∈ l, c < 0x110000) → PyData.canLayAll0 (l.map fun c => PyData.str ⟨#[c]⟩) = true ∧ PyData.depthAll (l.map fun c => PyData.str ⟨#[c]⟩) = 0
  | [], _ => ⟨by simp only [List.map_nil, PyData.canLayAll0], by simp only [List.map_nil, PyData.depthAll]⟩
  | c :: l, h => by
    obtain ⟨i1, i2⟩ := signs_shaped l fun x hx => h x (List.mem_cons_of_mem _ hx)
    have hc := h c List.mem_cons_self
    refine ⟨?_, ?_⟩
    · simp only [List.map_cons, PyData.canLayAll0, i1, PyData.canLay0, PyData.strOk, Bool.and_true]
      simp [hc]
    · simp only [List.map_cons, PyData.depthAll, i2, PyData.depth]
      rfl
theorem eqv_nils (l : List Nat) : PyData.eqv (.list (l.map fun c => PyData.str ⟨#[c]⟩)) (.list []) = l.isEmpty := by
  cases l with
  | nil => simp only [List.map_nil, PyData.eqv, PyData.eqvAll, List.isEmpty_nil]
  | cons f r => simp only [List.map_cons, PyData.eqv, PyData.eqvAll, List.isEmpty_cons]
theorem ok_lisnm {f : Addr} {fd : FuncData} (M : Blt mg) (Mx : Bltx mg) (F : Fun K "_law_is_name" "_law_is_name" s__law_is_name f fd) : FnG P w K mg base CX0 2 f fd ["_law_thing"] (sp_lisnm K) := by
  refine Gfun F sc__law_is_name (fun vs H Q E h => ?_) (fun cdv A outer s H vs Q E hg hr h => ?_)
  · obtain ⟨v, d, rfl, _⟩ := h
    rfl
  · obtain ⟨v, d, rfl, hq, hz, k⟩ := h
    refine ⟨_, (pss_cons (ps_if (PW.pt (pw_or (pt_not (pt_val (pe_callB call_isi rfl Mx.isinstance bt_isinstance (pa_cons (pv 0) (pa_cons (pe_bltn (v := .ty "str") rfl M.str bt_str rfl) pa_nil))))) (pw_or (pt_cmpR op_eq (pv 0) pe_str (nomark _)) (pw_or1 (pt_cmpR op_gt (pe_callB call_len_str rfl M.len bt_len (pa_cons (pv 0) pa_nil)) pe_int (nomark _))))))
      (pss_one (ps_ret pe_bl))
      pss_nil)
      (pss_one (ps_ret (pe_cmpR (op_eqD hr.units) (pe_lc (own := [("_law_sign", 1)]) (g := gName 1) rfl sc__law_is_name.nd (pi_str (pv 0)) (blkOk_by (N := ["_law_thing", "_law_sign"]) (sc := defScope s__law_is_name) (by decide +kernel)) (fun _ _ _ _ _ => pg_name (i := 1) sc__law_is_name.nd rfl (Or.inl rfl)) (fun _ _ _ _ _ => (pts_one (pt_cmpR op_notInS (pv 1) pe_str rfl))) (fun _ _ _ _ _ => (pv 1))) (pe_lst pa_nil) (nomark _))))), ?_⟩
    have fin : ∀ b : Bool, isNm d = b → ∀ H', Same H H' → Q (.bl b) H' := fun b e H' s => e ▸ k H' s
    refine ⟨_, rfl, _, _, _, _, _, rfl, .ty "str", hq.ty, kit_ty (ks d), _, rfl, ?_⟩
    by_cases ht : isS d = true
    · rw [ht]
      refine iteF ?_
      obtain ⟨z, rfl, rfl⟩ := hq.txt ht
      obtain ⟨hzl, hzc⟩ := hz z rfl
      have hnm : isNm (.str z) = (decide (1 ≤ z.length) && decide (z.length ≤ 10) && z.cps.toList.all inL) := rfl
      refine ⟨_, rfl, rfl, _, rfl, ?_⟩
      by_cases e0 : z = Str.ofString ""
      · rw [decide_eq_true (congrArg V.str e0)]
        refine iteT (iteT (fin false ?_ H same_rfl))
        rw [e0]
        decide +kernel
      · rw [decide_eq_false (fun q => e0 (V.str.inj q))]
        have h1 : 1 ≤ z.length := by
          rcases Nat.eq_zero_or_pos z.length with q | q
          · exfalso
            apply e0
            have : z.cps = #[] := Array.eq_empty_of_size_eq_zero q
            rw [show Str.ofString "" = ⟨#[]⟩ by decide +kernel]
            obtain ⟨cs⟩ := z
            simp only at this
            rw [this]
          · exact q
        refine iteF ⟨_, rfl, z, rfl, len_show hzl, _, _, rfl, rfl, _, rfl, ?_⟩
        by_cases h2 : (10 : Int) < (z.length : Int)
        · rw [decide_eq_true h2]
          refine iteT (fin false ?_ H same_rfl)
          rw [hnm, show decide (z.length ≤ 10) = false from decide_eq_false (by omega), Bool.and_false, Bool.false_and]
        · rw [decide_eq_false h2]
          refine iteF ?_
          refine ⟨_, rfl, z, rfl, fun D hD => lc_it walk_str (fun i H' => H' D = some (.lst (((z.cps.toList.take i).filter fun c => !inL c).map fun c => .str ⟨#[c]⟩)) ∧ Same H H') ⟨upd_same, same_new hD⟩ (fun _ _ _ _ => trivial) ?_ ?_⟩
          · rintro i x H1 H2 hi ⟨eD, sm⟩ ⟨rfl, c, hc, rfl⟩
            have hsz : z.cps.size ≤ 1000 := hzl
            have tk : z.cps.toList.take (i + 1) = z.cps.toList.take i ++ [c] := by
              rw [List.take_add_one, Array.getElem?_toList, hc]
              rfl
            refine ⟨rfl, _, rfl, c, lets, rfl, rfl, _, rfl, ?_⟩
            show if (!inL c) = true then _ else _
            cases hL : inL c
            · refine iteT ⟨_, rfl, _, eD, ?_, ?_, fun b o e => ?_⟩
              · rw [List.length_map, sizeLine_eq]
                have := List.length_filter_le (fun c => !inL c) (z.cps.toList.take i)
                rw [List.length_take] at this
                omega
              · rw [upd_same, tk, List.filter_append, List.map_append]
                simp [hL]
              · rw [upd_ne (ne_of_none e hD)]
                exact sm _ _ e
            · refine iteF ⟨?_, sm⟩
              rw [eD, tk, List.filter_append]
              simp [hL]
          · rintro H1 ⟨eD, sm⟩
            rw [show z.cps.size = z.cps.toList.length from Array.length_toList.symm, List.take_length] at eD
            refine ⟨len_show (Nat.le_of_ble_eq_true rfl), fun m nm => ?_⟩
            have ss := signs_shaped (z.cps.toList.filter fun c => !inL c) (fun c hc => hzc c (List.mem_filter.mp hc).1)
            have sh : SeqAt.shaped (.list ((z.cps.toList.filter fun c => !inL c).map fun c => PyData.str ⟨#[c]⟩)) = true := by
              unfold SeqAt.shaped
              rw [Bool.and_eq_true]
              refine ⟨by simp only [PyData.canLay0]; exact ss.1, decide_eq_true ?_⟩
              simp only [PyData.depth, ss.2]
              omega
            refine ⟨_, _, .lst (.inl (.inl (same_new nm _ _ eD))) (signs_dp _), .lst (.inl (.inl upd_same)) .nil, sh, (by decide), ?_⟩
            rw [eqv_nils, filt_empty]
            refine fin _ ?_ _ (sm.trans (same_new nm))
            rw [hnm, decide_eq_true h1, decide_eq_true (show z.length ≤ 10 by omega)]
            rfl
    · have ht' : isS d = false := by cases h : isS d <;> first | rfl | exact absurd h ht
      rw [ht']
      exact iteT (fin _ (isNm_no ht') H same_rfl)

/-! ### _law_is_measure -/
abbrev s__law_is_measure : Stmt := topS 40
theorem sc__law_is_measure : FnScope ["_law_thing"] ["_law_thing"] (defScope s__law_is_measure) := ⟨rfl, rfl, rfl, by decide +kernel, rfl, by decide +kernel, by decide +kernel⟩
def sp_lism (K : PySem.W.Frag) : Sp := fun vs H Q _ => ∃ (v : V) (d : PyData), vs = [v] ∧ Dq K H v d ∧ (∀ a b, d = .tuple [.int a, .int b] → Mid b) ∧ ∀ H', Same H H' → Q (.bl (isM (orNone d))) H'
theorem isM_no {d e : PyData} (h : isW d = false ∨ isW e = false) : isM (.tuple [d, e]) = false := by
  unfold isM
  rw [isFr_no h]
  rfl
theorem isM_len {ds : List PyData} (h : ds.length ≠ 2) : isM (.tuple ds) = false := by
  unfold isM
  rw [isFr_len h]
  rfl

theorem ok_lism {f : Addr} {fd : FuncData} (M : Blt mg) (Mx : Bltx mg) (F : Fun K "_law_is_measure" "_law_is_measure" s__law_is_measure f fd) (C__law_is_whole : Cal P w K mg base CX0 1 "_law_is_whole" ["_law_thing"] (sp_whole K)) (C__law_low : Cal P w K mg base CX0 1 "_law_low" ["_law_top", "_law_bottom"] sp_low) :
    FnG P w K mg base CX0 2 f fd ["_law_thing"] (sp_lism K) := by
  refine Gfun F sc__law_is_measure (fun vs H Q E h => ?_) (fun cdv A outer s H vs Q E hg hr h => ?_)
  · obtain ⟨v, d, rfl, _⟩ := h
    rfl
  · obtain ⟨v, d, rfl, hq, hmid, k⟩ := h
    refine ⟨_, (pss_cons (ps_if (pt_cmp (pc_isN (pv 0)))
      (pss_one (ps_ret pe_bl))
      pss_nil)
      (pss_cons (ps_if (PW.pt (pw_or (pt_not (pt_val (pe_callB call_isi rfl Mx.isinstance bt_isinstance (pa_cons (pv 0) (pa_cons (pe_bltn (v := .ty "tuple") rfl Mx.tuple bt_tuple rfl) pa_nil))))) (pw_or (pt_cmpR op_ne (pe_callB call_len_seq rfl M.len bt_len (pa_cons (pv 0) pa_nil)) pe_int (nomark _)) (pw_or (pt_not (pt_val (pe_g C__law_is_whole (hr.mono (by decide)) hg (pa_cons (pe_ix ix_tup (pv 0) pe_int (fun _ _ => rfl)) pa_nil)))) (pw_or1 (pt_not (pt_val (pe_g C__law_is_whole (hr.mono (by decide)) hg (pa_cons (pe_ix ix_tup (pv 0) pe_int (fun _ _ => rfl)) pa_nil)))))))))
      (pss_one (ps_ret pe_bl))
      pss_nil)
      (pss_one (ps_ret (pe_and (pe_cmpR op_ge (pe_ix ix_tup (pv 0) pe_int (fun _ _ => rfl)) pe_int (nomark _)) (pe_and (pe_cmpR op_gt (pe_ix ix_tup (pv 0) pe_int (fun _ _ => rfl)) pe_int (nomark _)) (pe_one (pe_cmpR (op_eqD hr.units) (pe_g C__law_low (hr.mono (by decide)) hg (pa_cons (pe_ix ix_tup (pv 0) pe_int (fun _ _ => rfl)) (pa_cons (pe_ix ix_tup (pv 0) pe_int (fun _ _ => rfl)) pa_nil))) (pv 0) (nomark _))))))))), ?_⟩
    refine ⟨_, rfl, _, rfl, ite2 (fun e => ?_) (fun en => ?_)⟩
    · have ev : v = .non := of_decide_eq_true e
      have ed : d = .none := by
        subst ev
        cases hq with
        | dp h _ =>
          cases h
          rfl
      subst ed
      exact k H same_rfl
    have en' : orNone d = d := by
      cases d with
      | none =>
        exfalso
        cases hq with
        | dp h _ =>
          cases h
          exact en (by decide)
      | _ => rfl
    rw [en'] at k
    have fin : ∀ b : Bool, isM d = b → ∀ H', Same H H' → Q (.bl b) H' := fun b e H' s => e ▸ k H' s
    refine ⟨_, rfl, _, _, _, _, _, rfl, .ty "tuple", hq.ty, kit_ty (kt d), _, rfl, ?_⟩
    by_cases ht : isT d = true
    · rw [ht]
      refine iteF ?_
      obtain ⟨a, xs, ds, rfl, rfl, hS, hA, hn⟩ := hq.tup ht
      refine ⟨_, rfl, a, xs, rfl, .inr hS, rfl, _, rfl, ?_⟩
      by_cases hl : xs.length = 2
      · refine iteNS (show V.int (xs.length : Int) = V.int 2 by rw [hl]; rfl) ?_
        obtain ⟨x, y, d1, d2, rfl, rfl, h1, h2⟩ := two_of hA hl
        have hn' : d1.hasDict = false ∧ d2.hasDict = false := by simpa [PyData.hasDictAll] using hn
        have q1 : Dq K H x d1 := .dp h1 hn'.1
        have q2 : Dq K H y d2 := .dp h2 hn'.2
        refine ⟨_, rfl, a, _, _, _, rfl, rfl, hS, rfl, x, d1, rfl, q1, _, rfl, ?_⟩
        by_cases w1 : isW d1 = true
        · rw [w1]
          refine iteF ?_
          refine ⟨_, rfl, a, _, _, _, rfl, rfl, hS, rfl, y, d2, rfl, q2, _, rfl, ?_⟩
          by_cases w2 : isW d2 = true
          · rw [w2]
            refine iteF ?_
            obtain ⟨p, rfl, rfl⟩ := q1.whole w1
            obtain ⟨b, rfl, rfl⟩ := q2.whole w2
            have hmM : isM (.tuple [.int p, .int b]) = (decide (0 < b) && decide (Nat.gcd p.natAbs b.natAbs = 1) && decide (0 ≤ p)) := rfl
            refine ⟨_, rfl, a, _, _, _, rfl, rfl, hS, rfl, _, _, rfl, rfl, _, rfl, ite2 (fun e0 => ?_) (fun e0 => ?_)⟩
            · have hp0 : 0 ≤ p := of_decide_eq_true e0
              refine ⟨_, rfl, a, _, _, _, rfl, rfl, hS, rfl, _, _, rfl, rfl, _, rfl, ite2 (fun e => ?_) (fun e => ?_)⟩
              · have hb : 0 < b := of_decide_eq_true e
                refine ⟨_, rfl, a, _, _, _, rfl, rfl, hS, rfl, _, rfl, a, _, _, _, rfl, rfl, hS, rfl, p, b, rfl, by omega, hmid p b rfl, fun H2 p2 s2 e2 => ?_⟩
                refine ⟨_, rfl, tD (low p b), tD (p, b), dp2' e2, dp2 (sm_t s2 hS), tD_shaped _, tD_shaped _, ?_⟩
                rw [eqv_tD, low_one hb]
                refine fin _ ?_ H2 s2
                rw [hmM, decide_eq_true hb, decide_eq_true hp0, Bool.true_and, Bool.and_true]
              · refine fin _ ?_ H same_rfl
                rw [hmM, show decide (0 < b) = false from Bool.eq_false_iff.mpr e, Bool.false_and, Bool.false_and]
            · refine fin _ ?_ H same_rfl
              rw [hmM, show decide (0 ≤ p) = false from Bool.eq_false_iff.mpr e0, Bool.and_false]
          · have w2' : isW d2 = false := by cases h : isW d2 <;> first | rfl | exact absurd h w2
            rw [w2']
            exact iteT (fin _ (isM_no (.inr w2')) H same_rfl)
        · have w1' : isW d1 = false := by cases h : isW d1 <;> first | rfl | exact absurd h w1
          rw [w1']
          refine iteT ?_
          exact fin _ (isM_no (.inl w1')) H same_rfl
      · refine iteN (fun z => hl (by have := V.int.inj z; omega)) ?_
        have hl2 : ds.length ≠ 2 := by rw [← DpAll.len hA]; exact hl
        exact fin _ (isM_len hl2) H same_rfl
    · have ht' : isT d = false := by cases h : isT d <;> first | rfl | exact absurd h ht
      rw [ht']
      refine iteT ?_
      have : isFr d = false := by
        cases d <;> first | rfl | exact absurd rfl ht
      exact fin _ (by unfold isM; rw [this]; rfl) H same_rfl

/-! ### _law_sum -/
abbrev s__law_sum : Stmt := topS 31
theorem sc__law_sum : FnScope ["_law_one", "_law_other"] ["_law_one", "_law_other"] (defScope s__law_sum) := ⟨rfl, rfl, rfl, by decide +kernel, rfl, by decide +kernel, by decide +kernel⟩
theorem ok_lsum {f : Addr} {fd : FuncData} (F : Fun K "_law_sum" "_law_sum" s__law_sum f fd) (C__law_low : Cal P w K mg base CX0 1 "_law_low" ["_law_top", "_law_bottom"] sp_low) : FnG P w K mg base CX0 2 f fd ["_law_one", "_law_other"] (sp_plus K) := by
  refine Gfun F sc__law_sum (fun vs H Q E h => ?_) (fun cdv A outer s H vs Q E hg hr h => ?_)
  · obtain ⟨a, b, c, d, h, _⟩ := h
    obtain ⟨p, q, rfl, _⟩ := h.ex
    rfl
  · obtain ⟨a, b, c, d, h, k⟩ := h
    obtain ⟨p, q, rfl, hp, hq⟩ := h.ex
    refine ⟨_, (pss_one (ps_ret (pe_g C__law_low (hr.mono (by decide)) hg (pa_cons (pe_op op_add (pe_op op_mulW (pe_ix ix_tup (pv 0) pe_int (fun _ _ => rfl)) (pe_ix ix_tup (pv 1) pe_int (fun _ _ => rfl))) (pe_op op_mulW (pe_ix ix_tup (pv 1) pe_int (fun _ _ => rfl)) (pe_ix ix_tup (pv 0) pe_int (fun _ _ => rfl)))) (pa_cons (pe_op op_mulW (pe_ix ix_tup (pv 0) pe_int (fun _ _ => rfl)) (pe_ix ix_tup (pv 1) pe_int (fun _ _ => rfl))) pa_nil))))), ?_⟩
    refine ⟨_, rfl, p, _, _, _, rfl, rfl, hp, rfl, _, rfl, q, _, _, _, rfl, rfl, hq, rfl, _, _, rfl, rfl, Sm.mulW h.a1 h.d1, ?_⟩
    refine ⟨_, rfl, q, _, _, _, rfl, rfl, hq, rfl, _, rfl, p, _, _, _, rfl, rfl, hp, rfl, _, _, rfl, rfl, Sm.mulW h.c1 h.b1, ?_⟩
    refine ⟨_, _, rfl, rfl, ?_⟩
    refine ⟨_, rfl, p, _, _, _, rfl, rfl, hp, rfl, _, rfl, q, _, _, _, rfl, rfl, hq, rfl, _, _, rfl, rfl, Sm.mulW h.b1 h.d1, ?_⟩
    exact ⟨_, _, rfl, mul_ne h.hb h.hd, Sm.mul h.b1 h.d1, k⟩

end
end Lf

set_option Elab.async false
set_option linter.all false
set_option maxRecDepth 100000
set_option maxHeartbeats 4000000
set_option exponentiation.threshold 3000
namespace Lf
open PySem PySem.Spec PyProof.Rows L2
section
variable {P : Program} {w : World} {K : PySem.W.Frag} {mg : Str → Option Value} {base : Heap}

/-! ### _law_due -/
abbrev s__law_due : Stmt := topS 41
theorem sc__law_due : FnScope ["_law_args", "_law_k", "_law_word", "_law_three", "_law_together", "_law_one"] ["_law_args"] (defScope s__law_due) := ⟨rfl, rfl, rfl, by decide +kernel, rfl, by decide +kernel, by decide +kernel⟩
/-- what the law's own look asks of the six -/
structure SixL (K : PySem.W.Frag) (H : Hp) (p : Addr) (vs : List V) (dn : PyData) (ds : List PyData) : Prop extends Six K H p vs dn ds where
  cps : ∀ z, dn = .str z → ∀ c ∈ z.cps.toList, c < 0x110000
  mid : ∀ d ∈ ds, ∀ a b, d = .tuple [.int a, .int b] → Mid b
def sp_due (K : PySem.W.Frag) : Sp := fun vs H Q _ => ∃ (p : Addr) (xs : List V) (dn : PyData) (ds : List PyData), vs = [.ref p] ∧ SixL K H p xs dn ds ∧ ∀ H', Same H H' → Q (optV (fwR dn (ds.map orNone))) H'
theorem ok_due {f : Addr} {fd : FuncData} (Me : mg "enumerate" = none) (F : Fun K "_law_due" "_law_due" s__law_due f fd) (C__law_is_name : Cal P w K mg base CX0 2 "_law_is_name" ["_law_thing"] (sp_lisnm K)) (C__law_is_measure : Cal P w K mg base CX0 2 "_law_is_measure" ["_law_thing"] (sp_lism K))
    (C__law_sum : Cal P w K mg base CX0 2 "_law_sum" ["_law_one", "_law_other"] (sp_plus K)) : FnG P w K mg base CX0 3 f fd ["_law_args"] (sp_due K) := by
  refine Gfun F sc__law_due (fun vs H Q E h => ?_) (fun cdv A outer s H vs Q E hg hr h => ?_)
  · obtain ⟨p, xs, dn, ds, rfl, _⟩ := h
    rfl
  · obtain ⟨p, xs, dn, ds, rfl, S, k⟩ := h
    refine ⟨_, (pss_cons (ps_if (pt_not (pt_val (pe_g C__law_is_name (hr.mono (by decide)) hg (pa_cons (pe_ix ix_list (pv 0) pe_int (fun _ _ => rfl)) pa_nil))))
      (pss_one (ps_ret pe_str))
      pss_nil)
      (pss_cons (ps_for PassesOwn.never rfl (pi_enum rfl Me (pa_cons (pe_lst (pa_cons pe_str (pa_cons pe_str (pa_cons pe_str (pa_cons pe_str (pa_cons pe_str pa_nil)))))) pa_nil)) (pg_tup rfl (pgs_cons (pg_name (i := 1) sc__law_due.nd rfl (.inl rfl)) (pgs_cons (pg_name (i := 2) sc__law_due.nd rfl (.inl rfl)) pgs_nil)))
      (pss_cons (ps_if (pt_not (pt_val (pe_g C__law_is_measure (hr.mono (by decide)) hg (pa_cons (pe_ix ix_list (pv 0) (pe_op op_add pe_int (pv 1)) (fun _ _ => rfl)) pa_nil))))
      (pss_one (ps_ret (pv 2)))
      pss_nil)
      (pss_one (ps_if (pt_cmpR op_eq (pv 1) pe_int (nomark _))
      (pss_cons (ps_setLc (i := 3) (own := [("_law_one", 5)]) (g := gName 5) (tt := tYes) rfl sc__law_due.nd rfl rfl (sw_true rfl rfl rfl (by decide +kernel)) (pi_list (pe_slice sl_list (pv 0) (po_some pe_int) (po_some pe_int))) (blkOk_by (N := ["_law_args", "_law_k", "_law_word", "_law_three", "_law_together", "_law_one"]) (sc := defScope s__law_due) (by decide +kernel)) (fun _ _ _ _ _ => pg_name (i := 5) sc__law_due.nd rfl (Or.inl rfl)) (fun _ _ _ _ _ => pts_nil) (fun _ _ _ _ _ => (pe_ifExp (pt_cmp (pc_isN (pv 5))) (pe_tup (pa_cons pe_int (pa_cons pe_int pa_nil))) (pv 5))))
      (pss_cons (ps_set (i := 4) sc__law_due.nd rfl (.inl rfl) (pe_g C__law_sum (hr.mono (by decide)) hg (pa_cons (pe_g C__law_sum (hr.mono (by decide)) hg (pa_cons (pe_ix ix_list (pv 3) pe_int (fun _ _ => rfl)) (pa_cons (pe_ix ix_list (pv 3) pe_int (fun _ _ => rfl)) pa_nil))) (pa_cons (pe_ix ix_list (pv 3) pe_int (fun _ _ => rfl)) pa_nil))))
      (pss_one (ps_if (pt_cmpR op_gt (pe_ix ix_tup (pv 4) pe_int (fun _ _ => rfl)) (pe_ix ix_tup (pv 4) pe_int (fun _ _ => rfl)) (nomark _))
      (pss_one (ps_ret (pv 2)))
      pss_nil))))
      pss_nil))))
      (pss_one (ps_ret pe_non)))), ?_⟩
    obtain ⟨v0, v1, v2, v3, v4, v5, rfl⟩ : ∃ v0 v1 v2 v3 v4 v5, xs = [v0, v1, v2, v3, v4, v5] := by
      match xs, S.len with
      | [v0, v1, v2, v3, v4, v5], _ => exact ⟨v0, v1, v2, v3, v4, v5, rfl⟩
    obtain ⟨hn, hA⟩ : Dq K H v0 dn ∧ DqAll K H [v1, v2, v3, v4, v5] ds := by
      have h := S.all
      cases h with
      | cons a r => exact ⟨a, r⟩
    have hS := S.at_
    obtain ⟨d0, d1, d2, d3, d4, rfl, h0, h1, h2, h3, h4⟩ := five_of hA
    refine ⟨_, rfl, p, _, _, _, rfl, rfl, hS, atI_nat (j := 0) rfl, v0, dn, rfl, hn, (fun z e => ⟨S.nm z e, S.cps z e⟩), fun H1 s1 => ⟨_, rfl, ite2 (fun e => ?_) (fun e => ?_)⟩⟩
    · have en : isNm dn = false := by cases h : isNm dn <;> simp_all
      have ef : fwR dn ([d0, d1, d2, d3, d4].map orNone) = some ("name" : Str) := by unfold fwR; rw [if_pos en]
      have k' := k H1 s1
      rw [ef] at k'
      exact k'
    have en : isNm dn = true := by cases h : isNm dn <;> simp_all
    have ef : fwR dn ([d0, d1, d2, d3, d4].map orNone) = fwM ([d0, d1, d2, d3, d4].map orNone) 5 0 := by unfold fwR; rw [if_neg (by rw [en]; decide)]
    rw [ef] at k
    refine ⟨by show 5 ≤ sizeLine; decide, fun l hl => ?_⟩
    have s12 : Same H1 (upd H1 l (.lst (words.map V.str))) := same_new hl
    have e2 : upd H1 l (.lst (words.map V.str)) l = some (.lst (words.map V.str)) := upd_same
    refine ⟨l, words.map V.str, rfl, .inl (.inl e2), ?_⟩
    refine for_it (walk_enum (xs := words.map V.str)) (fun i σ H' => Same H H' ∧ H' l = some (.lst (words.map V.str)) ∧ (∃ a b c d e, σ = [some (.ref p), a, b, c, d, e]) ∧
        fwM ([d0, d1, d2, d3, d4].map orNone) 5 0 = fwM ([d0, d1, d2, d3, d4].map orNone) (5 - i) i ∧ ∀ j, j < i → isM (([d0, d1, d2, d3, d4].map orNone).getD j .none) = true)
      ⟨s1.trans s12, e2, ⟨_, _, _, _, _, rfl⟩, rfl, fun j hj => absurd hj (Nat.not_lt_zero _)⟩ (fun i σ H' _ h => .inl (.inl h.2.1)) ?_ ?_
    · rintro i x σ H3 H4 hi ⟨s03, el, ⟨sa, sb, sc, sd, se, rfl⟩, hf, hM⟩ ⟨T', x1, y1, rfl, hT, rfl, hx1, hy1⟩
      cases hx1
      have hi5 : i < 5 := hi
      have s34 : Same H3 (upd H3 T' (.tup [.int (i : Nat), y1])) := same_new hT
      have tT : SqT K (upd H3 T' (.tup [.int (i : Nat), y1])) T' [.int (i : Nat), y1] := .inl (.inl upd_same)
      have el4 := s34 _ _ el
      generalize upd H3 T' (.tup [.int (i : Nat), y1]) = H4 at s34 tT el4 ⊢
      have s04 := s03.trans s34
      replace hy1 : (words.map V.str)[i]? = some y1 := hy1
      rw [List.getElem?_map] at hy1
      obtain ⟨wd, hw, rfl⟩ : ∃ wd, words[i]? = some wd ∧ y1 = .str wd := by
        cases hw : words[i]? with
        | none => rw [hw] at hy1; cases hy1
        | some wd => rw [hw] at hy1; exact ⟨wd, rfl, (Option.some.inj hy1).symm⟩
      refine ⟨T', _, rfl, tT, rfl, _, _, rfl, _, _, rfl, rfl, ?_⟩
      obtain ⟨y, hy⟩ : ∃ y, [v1, v2, v3, v4, v5][i]? = some y := ⟨_, List.getElem?_eq_getElem hi5⟩
      obtain ⟨d, hd, hq⟩ := (DqAll.same s04 hA).get hy
      have hS4 : SqL K H4 p [v0, v1, v2, v3, v4, v5] := sm_l s04 hS
      have hat : atI [v0, v1, v2, v3, v4, v5] (1 + (i : Int)) = some y := by
        rw [show (1 + (i : Int)) = ((i + 1 : Nat) : Int) by omega]
        exact atI_nat (j := i + 1) hy
      have hdg : ([d0, d1, d2, d3, d4].map orNone).getD i .none = orNone d := by rw [List.getD_eq_getElem?_getD, List.getElem?_map, hd]; rfl
      have hstep : fwM ([d0, d1, d2, d3, d4].map orNone) (5 - i) i = if isM (orNone d) = false then words[i]? else
          if i = 2 ∧ tooM (top2 (orNone d0)) (top2 (orNone d1)) (top2 (orNone d2)) = true then words[i]? else fwM ([d0, d1, d2, d3, d4].map orNone) (5 - (i + 1)) (i + 1) := by
        rw [show 5 - i = (5 - (i + 1)) + 1 by omega]
        show (if isM (([d0, d1, d2, d3, d4].map orNone).getD i .none) = false then _ else _) = _
        rw [hdg]
        rfl
      have ret : fwM ([d0, d1, d2, d3, d4].map orNone) 5 0 = some wd → ∀ H5, Same H H5 → Q (.str wd) H5 := fun e H5 s5 => by
        have k' := k H5 s5
        rw [e] at k'
        exact k'
      refine ⟨_, rfl, _, rfl, _, _, rfl, rfl, p, _, _, y, rfl, rfl, hS4, hat, y, d, rfl, hq, S.mid d (List.mem_of_getElem? hd), fun H5 s45 => ⟨_, rfl, ite2 (fun e => ?_) (fun e => ?_)⟩⟩
      · have em : isM (orNone d) = false := by cases h : isM (orNone d) <;> simp_all
        refine ⟨_, rfl, ret ?_ H5 (s04.trans s45)⟩
        rw [hf, hstep, if_pos em, hw]
      have em : isM (orNone d) = true := by cases h : isM (orNone d) <;> simp_all
      have s05 := s04.trans s45
      have hM' : ∀ j, j < i + 1 → isM (([d0, d1, d2, d3, d4].map orNone).getD j .none) = true := fun j hj => by
        by_cases h : j = i
        · rw [h, hdg]; exact em
        · exact hM j (by omega)
      refine ⟨_, rfl, rfl, _, rfl, ite2 (fun e2 => ?_) (fun e2 => ?_)⟩
      · have ei : i = 2 := by
          have := V.int.inj (of_decide_eq_true e2)
          omega
        subst ei
        have m0 : isM (orNone d0) = true := hM' 0 (by decide)
        have m1 : isM (orNone d1) = true := hM' 1 (by decide)
        have m2 : isM (orNone d2) = true := hM' 2 (by decide)
        have hS5 : SqL K H5 p [v0, v1, v2, v3, v4, v5] := sm_l s45 hS4
        have el5 := s45 _ _ el4
        refine ⟨_, rfl, _, rfl, _, rfl, p, _, rfl, hS5, fun l3 hl3 => ⟨l3, rfl, ⟨_, .inl (.inl upd_same)⟩, fun Dl hD => ?_⟩⟩
        have s56 : Same H5 (upd H5 l3 (.lst (cutV [v0, v1, v2, v3, v4, v5] (some 1) (some 4)))) := same_new hl3
        have t6 : SqL K (upd H5 l3 (.lst (cutV [v0, v1, v2, v3, v4, v5] (some 1) (some 4)))) l3 [v1, v2, v3] := .inl (.inl upd_same)
        generalize upd H5 l3 (.lst (cutV [v0, v1, v2, v3, v4, v5] (some 1) (some 4))) = H6 at s56 t6 hD ⊢
        have s06 := s05.trans s56
        have q0 := h0.same s06
        have q1 := h1.same s06
        have q2 := h2.same s06
        refine lc_list (xs := [v1, v2, v3]) (fun i H' => Same H6 H' ∧ ∃ as : List Addr, H' Dl = some (.lst (as.map V.ref)) ∧ as.length = i ∧ ∀ j a, as[j]? = some a → SqT K H' a [.int (top2 (orNone ([d0, d1, d2].getD j .none))).1, .int (top2 (orNone ([d0, d1, d2].getD j .none))).2])
          ⟨same_new hD, [], upd_same, rfl, fun j a e => by cases e⟩ (fun i H' _ h => sm_l h.1 t6) ?_ ?_
        · rintro i x H7 hx ⟨s67, as, eD, hl7, hall⟩
          have hi3 : i < 3 := (List.getElem?_eq_some_iff.mp hx).1
          obtain ⟨dd, hdd, hqd, hmd⟩ : ∃ dd, [d0, d1, d2].getD i .none = dd ∧ Dq K H7 x dd ∧ isM (orNone dd) = true := by
            match i, hi3, hx with
            | 0, _, hx => cases hx; exact ⟨d0, rfl, q0.same s67, m0⟩
            | 1, _, hx => cases hx; exact ⟨d1, rfl, q1.same s67, m1⟩
            | 2, _, hx => cases hx; exact ⟨d2, rfl, q2.same s67, m2⟩
          have fin : ∀ (H8 : Hp) (a : Addr), Same H7 H8 → SqT K H8 a [.int (top2 (orNone dd)).1, .int (top2 (orNone dd)).2] → ∃ acc, H8 Dl = some (.lst acc) ∧ acc.length < sizeLine ∧ (Same H6 (upd H8 Dl (.lst (acc ++ [.ref a]))) ∧
              ∃ as : List Addr, upd H8 Dl (.lst (acc ++ [.ref a])) Dl = some (.lst (as.map V.ref)) ∧ as.length = i + 1 ∧ ∀ j b, as[j]? = some b → SqT K (upd H8 Dl (.lst (acc ++ [.ref a]))) b [.int (top2 (orNone ([d0, d1, d2].getD j .none))).1, .int (top2 (orNone ([d0, d1, d2].getD j .none))).2]) := by
            intro H8 a s78 ha
            have eD8 := s78 _ _ eD
            have stay : ∀ (b : Addr) (zs ws : List V), SqT K H8 b zs → SqT K (upd H8 Dl (.lst ws)) b zs := by
              intro b zs ws h
              rcases h with (h | ⟨o, h⟩) | h
              · exact .inl (.inl (by rw [upd_ne (fun z => by rw [z, eD8] at h; cases h)]; exact h))
              · exact .inl (.inr ⟨o, by rw [upd_ne (fun z => by rw [z, eD8] at h; cases h)]; exact h⟩)
              · exact .inr h
            refine ⟨as.map V.ref, eD8, by rw [List.length_map, hl7, sizeLine_eq]; omega, fun b o e => ?_, as ++ [a], ?_, ?_, fun j b e => ?_⟩
            · rw [upd_ne (ne_of_none e hD)]
              exact s78 _ _ (s67 _ _ e)
            · rw [upd_same, List.map_append]
              rfl
            · rw [List.length_append, hl7]
              rfl
            · by_cases hj : j < as.length
              · rw [List.getElem?_append_left hj] at e
                exact stay _ _ _ (sm_t s78 (hall j b e))
              · rw [List.getElem?_append_right (by omega)] at e
                have hji : j = i := by
                  have := (List.getElem?_eq_some_iff.mp e).1
                  rw [List.length_singleton] at this
                  omega
                subst hji
                rw [hl7, Nat.sub_self] at e
                cases e
                rw [hdd]
                exact stay _ _ _ ha
          refine ⟨rfl, _, rfl, _, rfl, ite2 (fun e3 => ?_) (fun e3 => ?_)⟩
          · have ev : x = .non := of_decide_eq_true e3
            have ed : dd = .none := by
              subst ev
              cases hqd with
              | dp h _ =>
                cases h
                rfl
            subst ed
            refine ⟨by show 2 ≤ sizeLine; decide, fun pt hpt => ?_⟩
            exact fin _ pt (same_new hpt) (.inl (.inl upd_same))
          · have ed : orNone dd = dd := by
              cases dd with
              | none =>
                exfalso
                cases hqd with
                | dp h _ =>
                  cases h
                  exact e3 (by decide)
              | _ => rfl
            have hmd' : isM dd = true := by rw [ed] at hmd; exact hmd
            obtain ⟨pa, rfl, ta, _⟩ := meas hqd hmd'
            refine ⟨_, rfl, ?_⟩
            exact fin H7 pa same_rfl (by rw [ed]; exact ta)
        · rintro H7 ⟨s67, as, eD, hl7, hall⟩
          obtain ⟨a0, a1, a2, rfl⟩ : ∃ a0 a1 a2, as = [a0, a1, a2] := by
            match as, hl7 with
            | [a0, a1, a2], _ => exact ⟨a0, a1, a2, rfl⟩
          have t0 : SqT K H7 a0 [.int (top2 (orNone d0)).1, .int (top2 (orNone d0)).2] := hall 0 a0 rfl
          have t1 : SqT K H7 a1 [.int (top2 (orNone d1)).1, .int (top2 (orNone d1)).2] := hall 1 a1 rfl
          have t2 : SqT K H7 a2 [.int (top2 (orNone d2)).1, .int (top2 (orNone d2)).2] := hall 2 a2 rfl
          have isF_of : ∀ (d : PyData), isM d = true → IsF (top2 d) := fun d m => by
            unfold isM at m
            rw [Bool.and_eq_true] at m
            obtain ⟨a, b, rfl, hl⟩ := isFr_inv m.1
            exact hl
          have f0 := isF_of _ m0
          have f1 := isF_of _ m1
          have f2 := isF_of _ m2
          have b0 := S.bt 0 (by decide) m0
          have b1 := S.bt 1 (by decide) m1
          have b2 := S.bt 2 (by decide) m2
          have sD : SqL K H7 Dl [.ref a0, .ref a1, .ref a2] := .inl (.inl eD)
          have s07 := s06.trans s67
          refine ⟨_, rfl, Dl, _, _, _, rfl, rfl, sD, atI_nat (j := 0) rfl, _, rfl, Dl, _, _, _, rfl, rfl, sD, atI_nat (j := 1) rfl, _, _, _, _, pr_sq t0 t1 f0 f1 b0 b1 (by decide) (by decide), fun H8 p8 s78 e8 => ?_⟩
          have b01 := fadd_bt f0 f1 b0 b1
          have f01 := fadd_f f0 f1
          refine ⟨_, rfl, Dl, _, _, _, rfl, rfl, sm_l s78 sD, atI_nat (j := 2) rfl, _, _, _, _, pr_sq (f := fadd (top2 (orNone d0)) (top2 (orNone d1))) (.inl (.inl e8)) (sm_t s78 t2) f01 f2 b01 b2 (by decide) (by decide), fun H9 p9 s89 e9 => ?_⟩
          have t9 : SqT K H9 p9 [.int (fadd (fadd (top2 (orNone d0)) (top2 (orNone d1))) (top2 (orNone d2))).1, .int (fadd (fadd (top2 (orNone d0)) (top2 (orNone d1))) (top2 (orNone d2))).2] := .inl (.inl e9)
          have s09 := (s07.trans s78).trans s89
          have eT : tooM (top2 (orNone d0)) (top2 (orNone d1)) (top2 (orNone d2)) = decide ((fadd (fadd (top2 (orNone d0)) (top2 (orNone d1))) (top2 (orNone d2))).2 < (fadd (fadd (top2 (orNone d0)) (top2 (orNone d1))) (top2 (orNone d2))).1) := by
            unfold tooM
            rw [Int.one_mul, Int.mul_one]
          refine ⟨_, rfl, p9, _, _, _, rfl, rfl, t9, atI_nat (j := 0) rfl, _, rfl, p9, _, _, _, rfl, rfl, t9, atI_nat (j := 1) rfl, _, _, rfl, rfl, _, rfl, ite2 (fun e5 => ?_) (fun e5 => ?_)⟩
          · refine ⟨_, rfl, ret ?_ H9 s09⟩
            rw [hf, hstep, if_neg (by rw [em]; decide), if_pos ⟨rfl, by rw [eT]; exact e5⟩, hw]
          · refine ⟨s09, s89 _ _ (s78 _ _ (s67 _ _ (s56 _ _ el5))), ⟨_, _, _, _, _, rfl⟩, ?_, hM'⟩
            rw [hf, hstep, if_neg (by rw [em]; decide), if_neg (fun z => e5 (by rw [eT] at z; exact z.2))]
      · have ei : i ≠ 2 := fun z => by
          subst z
          exact e2 (by decide)
        refine ⟨s05, s45 _ _ el4, ⟨_, _, _, _, _, rfl⟩, ?_, hM'⟩
        rw [hf, hstep, if_neg (by rw [em]; decide), if_neg (fun z => ei z.1)]
    · rintro σ H3 ⟨s03, el, ⟨sa, sb, sc, sd, se, rfl⟩, hf, hM⟩
      have hf' : fwM ([d0, d1, d2, d3, d4].map orNone) 5 0 = none := hf
      have k' := k H3 s03
      rw [hf'] at k'
      exact k'
end
end Lf

set_option Elab.async false
set_option linter.all false
set_option maxRecDepth 100000
set_option maxHeartbeats 4000000
set_option exponentiation.threshold 3000
namespace Lf
open PySem PySem.Spec PyProof.Rows L2
/-- a fraction from 0 on, told in a tuple -/
structure Fr0 (f : Int × Int) : Prop where
  lo : IsF f
  nn : 0 ≤ f.1
  bt : Bt 41 f
theorem fr0_low {n d : Int} (hn : 0 ≤ n) (hd : 0 < d) (bn : n < 2 ^ 41) (bd : d < 2 ^ 41) : Fr0 (low n d) := by
  refine ⟨low_f (by omega), ?_, low_bt (by omega) (by omega) (by omega)⟩
  have c := low_cross (n := n) (d := d) (by omega)
  have h2 : 0 < (low n d).2 := (low_f (n := n) (d := d) (by omega)).1
  have h3 : 0 ≤ n * (low n d).2 := Int.mul_nonneg hn (by omega)
  rw [← c] at h3
  rcases Int.lt_or_le (low n d).1 0 with h | h
  · exact absurd h3 (by have := Int.mul_neg_of_neg_of_pos h hd; omega)
  · exact h
theorem cross_add {x y : Int × Int} {f w b : Int} (hx : IsF x) (hy : IsF y) (e1 : x.1 * b = f * x.2) (e2 : y.1 * b = w * y.2) : (fadd x y).1 * b = (f + w) * (fadd x y).2 := by
  have hne : x.2 * y.2 ≠ 0 := Int.mul_ne_zero hx.ne hy.ne
  have c : (fadd x y).1 * (x.2 * y.2) = (x.1 * y.2 + y.1 * x.2) * (fadd x y).2 := low_cross hne
  apply Int.eq_of_mul_eq_mul_right hne
  generalize (fadd x y).1 = F1 at c ⊢
  generalize (fadd x y).2 = F2 at c ⊢
  obtain ⟨x1, x2⟩ := x
  obtain ⟨y1, y2⟩ := y
  simp only at *
  calc F1 * b * (x2 * y2) = (F1 * (x2 * y2)) * b := by grind
    _ = ((x1 * y2 + y1 * x2) * F2) * b := by rw [c]
    _ = (x1 * b * y2 + y1 * b * x2) * F2 := by grind
    _ = (f * x2 * y2 + w * y2 * x2) * F2 := by rw [e1, e2]
    _ = (f + w) * F2 * (x2 * y2) := by grind
theorem too_low {f w s b : Int} (hf : 0 ≤ f) (hw : 0 ≤ w) (hs : 0 ≤ s) (h : f + w + s ≤ b) (hb : 0 < b) : tooM (low f b) (low w b) (low s b) = false := by
  have nb : b ≠ 0 := by omega
  have c1 := cross_add (low_f (n := f) nb) (low_f (n := w) nb) (low_cross nb) (low_cross nb)
  have f1 := fadd_f (low_f (n := f) nb) (low_f (n := w) nb)
  have c2 := cross_add f1 (low_f (n := s) nb) c1 (low_cross nb)
  have f2 := fadd_f f1 (low_f (n := s) nb)
  unfold tooM
  generalize fadd (fadd (low f b) (low w b)) (low s b) = g at c2 f2 ⊢
  refine decide_eq_false fun z => ?_
  have p2 : 0 < g.2 := f2.1
  have l1 : (f + w + s) * g.2 ≤ b * g.2 := Int.mul_le_mul_of_nonneg_right h (by omega)
  rw [← c2, Int.mul_comm b g.2] at l1
  have := Int.le_of_mul_le_mul_right l1 hb
  omega
section
variable {P : Program} {w : World} {K : PySem.W.Frag} {mg : Str → Option Value} {base : Heap}

/-! ### _law_some -/
abbrev s__law_some : Stmt := topS 33
theorem sc__law_some : FnScope ["_law_pot_here", "_law_least", "_law_most"] ["_law_pot_here", "_law_least", "_law_most"] (defScope s__law_some) := ⟨rfl, rfl, rfl, by decide +kernel, rfl, by decide +kernel, by decide +kernel⟩
def Gives (H : Hp) (q : Addr) (Q : VK) : Prop := ∀ (p : Addr) (f : Int × Int) (H' : Hp), Fr0 f → H' p = some (.tup [.int f.1, .int f.2]) → Pot H' q → But q H H' → Q (.ref p) H'
def sp_some : Sp := fun vs H Q _ => ∃ q : Addr, vs = [.ref q, .int 0, .int 50] ∧ Pot H q ∧ Gives H q Q
theorem ok_some {f : Addr} {fd : FuncData} (F : Fun K "_law_some" "_law_some" s__law_some f fd) (C__law_draw : Cal P w K mg base CX0 1 "_law_draw" ["_law_pot_here", "_law_many"] sp_draw) (C__law_low : Cal P w K mg base CX0 1 "_law_low" ["_law_top", "_law_bottom"] sp_low) : FnG P w K mg base CX0 2 f fd ["_law_pot_here", "_law_least", "_law_most"] sp_some := by
  refine Gfun F sc__law_some (fun vs H Q E h => ?_) (fun cdv A outer s H vs Q E hg hr h => ?_)
  · obtain ⟨q, rfl, _⟩ := h
    rfl
  · obtain ⟨q, rfl, hP, k⟩ := h
    refine ⟨_, (pss_cons (ps_if (pt_cmpR op_eq (pe_g C__law_draw (hr.mono (by decide)) hg (pa_cons (pv 0) (pa_cons pe_int pa_nil))) pe_int (nomark _))
      (pss_one (ps_ret (pe_g C__law_low (hr.mono (by decide)) hg (pa_cons (pe_op op_add (pv 1) (pe_g C__law_draw (hr.mono (by decide)) hg (pa_cons (pv 0) (pa_cons (pe_op op_sub (pe_op op_pow pe_int pe_int) pe_int) pa_nil)))) (pa_cons (pe_op op_add pe_int (pe_g C__law_draw (hr.mono (by decide)) hg (pa_cons (pv 0) (pa_cons (pe_op op_sub (pe_op op_pow pe_int pe_int) pe_int) pa_nil)))) pa_nil)))))
      pss_nil)
      (pss_one (ps_ret (pe_g C__law_low (hr.mono (by decide)) hg (pa_cons (pe_op op_add (pv 1) (pe_g C__law_draw (hr.mono (by decide)) hg (pa_cons (pv 0) (pa_cons (pv 2) pa_nil)))) (pa_cons (pe_op op_add pe_int (pe_g C__law_draw (hr.mono (by decide)) hg (pa_cons (pv 0) (pa_cons pe_int pa_nil)))) pa_nil)))))), ?_⟩
    have mid : ∀ n : Int, 0 ≤ n → n < 2 ^ 41 → Mid n := fun n h0 h1 => Nat.lt_of_lt_of_le (show n.natAbs < 2 ^ 41 by omega) (Nat.pow_le_pow_right (by decide) (by decide))
    refine ⟨_, rfl, q, 3, rfl, by decide, by decide, hP, fun r1 H1 r10 r11 hP1 b1 => ⟨rfl, _, rfl, ite2 (fun e => ?_) (fun e => ?_)⟩⟩
    · refine ⟨_, rfl, _, rfl, _, _, rfl, rfl, ⟨by decide, by decide, by decide⟩, _, _, rfl, rfl, q, _, rfl, by decide, by decide, hP1, fun r2 H2 r20 r21 hP2 b2 => ?_⟩
      have r21' : r2 < 10 ^ 12 - 1 := r21
      refine ⟨_, _, rfl, rfl, _, rfl, _, _, rfl, rfl, ⟨by decide, by decide, by decide⟩, _, _, rfl, rfl, q, _, rfl, by decide, by decide, hP2, fun r3 H3 r30 r31 hP3 b3 => ?_⟩
      have r31' : r3 < 10 ^ 12 - 1 := r31
      refine ⟨_, _, rfl, rfl, _, _, rfl, by omega, mid _ (by omega) (by omega), fun H4 p4 s4 e4 => ?_⟩
      exact k p4 _ H4 (fr0_low (by omega) (by omega) (by omega) (by omega)) e4 (pot_same hP3 s4) (((b1.trans b2).trans b3).same s4)
    · refine ⟨_, rfl, _, rfl, _, rfl, q, 50, rfl, by decide, by decide, hP1, fun r2 H2 r20 r21 hP2 b2 => ?_⟩
      refine ⟨_, _, rfl, rfl, _, rfl, q, 9, rfl, by decide, by decide, hP2, fun r3 H3 r30 r31 hP3 b3 => ?_⟩
      refine ⟨_, _, rfl, rfl, _, _, rfl, by omega, mid _ (by omega) (by omega), fun H4 p4 s4 e4 => ?_⟩
      exact k p4 _ H4 (fr0_low (by omega) (by omega) (by omega) (by omega)) e4 (pot_same hP3 s4) (((b1.trans b2).trans b3).same s4)
end
end Lf

set_option Elab.async false
set_option linter.all false
set_option maxRecDepth 100000
set_option maxHeartbeats 4000000
set_option exponentiation.threshold 3000
namespace Lf
open PySem PySem.Spec PyProof.Rows L2
section
variable {P : Program} {w : World} {K : PySem.W.Frag} {mg : Str → Option Value} {base : Heap}

/-! ### _law_stuff -/
abbrev s__law_stuff : Stmt := topS 34
theorem sc__law_stuff : FnScope ["_law_pot_here", "_law_name_here", "_law_kind", "_law_bottom", "_law_flour", "_law_water", "_law_salt", "_law_three", "_law_thirst", "_law_one"] ["_law_pot_here", "_law_name_here"] (defScope s__law_stuff) := ⟨rfl, rfl, rfl, by decide +kernel, rfl, by decide +kernel, by decide +kernel⟩
/-- a row of a stuff: a name and five fractions -/
structure StRow (K : PySem.W.Frag) (H : Hp) (p : Addr) (z : Str) (gs : List (Int × Int)) : Prop where
  ex : ∃ as : List Addr, H p = some (.tup (.str z :: as.map V.ref)) ∧ as.length = 5 ∧ gs.length = 5 ∧ ∀ (i : Nat) (a : Addr) (g : Int × Int), as[i]? = some a → gs[i]? = some g → SqT K H a [.int g.1, .int g.2]
  fr : ∀ g ∈ gs, Fr0 g
  ok : tooM (gs.getD 0 (0, 1)) (gs.getD 1 (0, 1)) (gs.getD 2 (0, 1)) = false
def sp_stuff (K : PySem.W.Frag) : Sp := fun vs H Q _ => ∃ (q : Addr) (z : Str), vs = [.ref q, .str z] ∧ Pot H q ∧ ∀ p gs H', StRow K H' p z gs → Pot H' q → But q H H' → Q (.ref p) H'
theorem ok_stuff {f : Addr} {fd : FuncData} (M : Blt mg) (Mx : Bltx mg) (F : Fun K "_law_stuff" "_law_stuff" s__law_stuff f fd) (C__law_draw : Cal P w K mg base CX0 1 "_law_draw" ["_law_pot_here", "_law_many"] sp_draw) (C__law_low : Cal P w K mg base CX0 1 "_law_low" ["_law_top", "_law_bottom"] sp_low) (C__law_some : Cal P w K mg base CX0 2 "_law_some" ["_law_pot_here", "_law_least", "_law_most"] sp_some) : FnG P w K mg base CX0 3 f fd ["_law_pot_here", "_law_name_here"] (sp_stuff K) := by
  refine Gfun F sc__law_stuff (fun vs H Q E h => ?_) (fun cdv A outer s H vs Q E hg hr h => ?_)
  · obtain ⟨q, z, rfl, _⟩ := h
    rfl
  · obtain ⟨q, z, rfl, hP, k⟩ := h
    refine ⟨_, (pss_cons (ps_set (i := 2) sc__law_stuff.nd rfl (by first | exact .inl rfl | exact .inr rfl) (pe_g C__law_draw (hr.mono (by decide)) hg (pa_cons (pv 0) (pa_cons pe_int pa_nil))))
      (pss_cons (ps_set (i := 3) sc__law_stuff.nd rfl (by first | exact .inl rfl | exact .inr rfl) (pe_op op_add pe_int (pe_g C__law_draw (hr.mono (by decide)) hg (pa_cons (pv 0) (pa_cons pe_int pa_nil)))))
      (pss_cons (ps_set (i := 4) sc__law_stuff.nd rfl (by first | exact .inl rfl | exact .inr rfl) (pe_g C__law_draw (hr.mono (by decide)) hg (pa_cons (pv 0) (pa_cons (pe_op op_add (pv 3) pe_int) pa_nil))))
      (pss_cons (ps_set (i := 5) sc__law_stuff.nd rfl (by first | exact .inl rfl | exact .inr rfl) (pe_g C__law_draw (hr.mono (by decide)) hg (pa_cons (pv 0) (pa_cons (pe_op op_sub (pe_op op_add (pv 3) pe_int) (pv 4)) pa_nil))))
      (pss_cons (ps_set (i := 6) sc__law_stuff.nd rfl (by first | exact .inl rfl | exact .inr rfl) (pe_g C__law_draw (hr.mono (by decide)) hg (pa_cons (pv 0) (pa_cons (pe_op op_sub (pe_op op_sub (pe_op op_add (pv 3) pe_int) (pv 4)) (pv 5)) pa_nil))))
      (pss_cons (ps_setLc (i := 7) (own := [("_law_one", 9)]) (g := gName 9) (tt := tYes) rfl sc__law_stuff.nd rfl rfl (sw_true rfl rfl rfl (by decide +kernel)) (pi_tup (pe_tup (pa_cons (pv 4) (pa_cons (pv 5) (pa_cons (pv 6) pa_nil))))) (blkOk_by (N := ["_law_pot_here", "_law_name_here", "_law_kind", "_law_bottom", "_law_flour", "_law_water", "_law_salt", "_law_three", "_law_thirst", "_law_one"]) (sc := defScope s__law_stuff) (by decide +kernel)) (fun _ _ _ _ _ => pg_name (i := 9) sc__law_stuff.nd rfl (Or.inl rfl)) (fun _ _ _ _ _ => pts_nil) (fun _ _ _ _ _ => (pe_g C__law_low (hr.mono (by decide)) hg (pa_cons (pv 9) (pa_cons (pv 3) pa_nil)))))
      (pss_mid (ps_if (pt_cmpR op_lt (pv 2) pe_int (nomark _))
      (pss_one (ps_set (i := 7) sc__law_stuff.nd rfl (by first | exact .inl rfl | exact .inr rfl) (pe_lst (pa_cons (pe_tup (pa_cons (pe_callTy call_int1 rfl M.int bt_int (pa_cons (pe_cmpR op_in_seq (pv 2) (pe_tup (pa_cons pe_int (pa_cons pe_int pa_nil))) rfl) pa_nil)) (pa_cons pe_int pa_nil))) (pa_cons (pe_tup (pa_cons (pe_callTy call_int1 rfl M.int bt_int (pa_cons (pe_cmpR op_eq (pv 2) pe_int (nomark _)) pa_nil)) (pa_cons pe_int pa_nil))) (pa_cons (pe_tup (pa_cons (pe_callTy call_int1 rfl M.int bt_int (pa_cons (pe_cmpR op_eq (pv 2) pe_int (nomark _)) pa_nil)) (pa_cons pe_int pa_nil))) pa_nil))))))
      pss_nil)
      (pss_cons (ps_set (i := 8) sc__law_stuff.nd rfl (by first | exact .inl rfl | exact .inr rfl) (pe_ix ix_list (pe_lst (pa_cons (pe_tup (pa_cons pe_int (pa_cons pe_int pa_nil))) (pa_cons (pe_g C__law_low (hr.mono (by decide)) hg (pa_cons (pe_op op_add pe_int (pe_g C__law_draw (hr.mono (by decide)) hg (pa_cons (pv 0) (pa_cons pe_int pa_nil)))) (pa_cons (pe_op op_add pe_int (pe_g C__law_draw (hr.mono (by decide)) hg (pa_cons (pv 0) (pa_cons pe_int pa_nil)))) pa_nil))) pa_nil))) (pe_callTy call_int1 rfl M.int bt_int (pa_cons (pe_cmpR op_gt (pe_ix ix_tup (pe_ix ix_list (pv 7) pe_int (fun _ _ => rfl)) pe_int (fun _ _ => rfl)) pe_int (nomark _)) pa_nil)) (fun _ _ => rfl)))
      (pss_one (ps_ret (pe_op op_catT (pe_op op_catT (pe_tup (pa_cons (pv 1) pa_nil)) (pe_callTy call_tuple_of rfl Mx.tuple bt_tuple (pa_cons (pv 7) pa_nil))) (pe_tup (pa_cons (pv 8) (pa_cons (pe_g C__law_some (hr.mono (by decide)) hg (pa_cons (pv 0) (pa_cons pe_int (pa_cons pe_int pa_nil)))) pa_nil)))))))))))))), ?_⟩
    refine ⟨_, rfl, q, 6, rfl, by decide, by decide, hP, fun kind H1 k0 k1 hP1 b1 => ?_⟩
    refine ⟨_, rfl, q, 20, rfl, by decide, by decide, hP1, fun r2 H2 r20 r21 hP2 b2 => ⟨_, _, rfl, rfl, ?_⟩⟩
    have sm : ∀ n : Int, 0 ≤ n → n ≤ 100 → n.natAbs < 2 ^ 900 := fun n h0 h1 => Nat.lt_of_lt_of_le (show n.natAbs < 2 ^ 7 by show n.natAbs < 128; omega) (Nat.pow_le_pow_right (by decide) (by decide))
    refine ⟨_, rfl, _, rfl, _, _, rfl, rfl, q, _, rfl, by omega, sm _ (by omega) (by omega), hP2, fun fl H3 f0 f1 hP3 b3 => ?_⟩
    refine ⟨_, rfl, _, rfl, _, _, rfl, rfl, _, rfl, _, _, rfl, rfl, q, _, rfl, by omega, sm _ (by omega) (by omega), hP3, fun wa H4 w0 w1 hP4 b4 => ?_⟩
    refine ⟨_, rfl, _, rfl, _, _, rfl, rfl, _, rfl, _, _, rfl, rfl, _, rfl, _, _, rfl, rfl, q, _, rfl, by omega, sm _ (by omega) (by omega), hP4, fun sa H5 s0 s1 hP5 b5 => ?_⟩
    have b05 : But q H H5 := (((b1.trans b2).trans b3).trans b4).trans b5
    refine ⟨_, rfl, _, rfl, _, rfl, by show 3 ≤ sizeLine; decide, fun pt hpt => ⟨pt, rfl, ⟨_, .inl (.inl upd_same)⟩, fun Dl hD => ?_⟩⟩
    have s56 : Same H5 (upd H5 pt (.tup [.int fl, .int wa, .int sa])) := same_new hpt
    have t6 : SqT K (upd H5 pt (.tup [.int fl, .int wa, .int sa])) pt [.int fl, .int wa, .int sa] := .inl (.inl upd_same)
    generalize upd H5 pt (.tup [.int fl, .int wa, .int sa]) = H6 at s56 t6 hD ⊢
    have mid : ∀ n : Int, 0 ≤ n → n ≤ 100 → Mid n := fun n h0 h1 => Nat.lt_of_lt_of_le (show n.natAbs < 2 ^ 7 by show n.natAbs < 128; omega) (Nat.pow_le_pow_right (by decide) (by decide))
    refine lc_tup (xs := [.int fl, .int wa, .int sa]) (fun i H' => Same H6 H' ∧ ∃ as : List Addr, H' Dl = some (.lst (as.map V.ref)) ∧ as.length = i ∧ ∀ j a, as[j]? = some a → SqT K H' a [.int (low ([fl, wa, sa].getD j 0) (1 + r2)).1, .int (low ([fl, wa, sa].getD j 0) (1 + r2)).2])
      ⟨same_new hD, [], upd_same, rfl, fun j a e => by cases e⟩ (fun i H' _ h => sm_t h.1 t6) ?_ ?_
    · rintro i x H7 hx ⟨s67, as, eD, hl7, hall⟩
      have hi3 : i < 3 := (List.getElem?_eq_some_iff.mp hx).1
      obtain ⟨n, hn, rfl⟩ : ∃ n, [fl, wa, sa].getD i 0 = n ∧ x = .int n := by
        match i, hi3, hx with
        | 0, _, hx => cases hx; exact ⟨fl, rfl, rfl⟩
        | 1, _, hx => cases hx; exact ⟨wa, rfl, rfl⟩
        | 2, _, hx => cases hx; exact ⟨sa, rfl, rfl⟩
      refine ⟨rfl, _, rfl, _, rfl, n, 1 + r2, rfl, by omega, mid _ (by omega) (by omega), fun H8 a s78 e8 => ?_⟩
      have eD8 := s78 _ _ eD
      have stay : ∀ (b : Addr) (zs ws : List V), SqT K H8 b zs → SqT K (upd H8 Dl (.lst ws)) b zs := by
        intro b zs ws h
        rcases h with (h | ⟨o, h⟩) | h
        · exact .inl (.inl (by rw [upd_ne (fun z => by rw [z, eD8] at h; cases h)]; exact h))
        · exact .inl (.inr ⟨o, by rw [upd_ne (fun z => by rw [z, eD8] at h; cases h)]; exact h⟩)
        · exact .inr h
      refine ⟨as.map V.ref, eD8, by rw [List.length_map, hl7, sizeLine_eq]; omega, fun b o e => ?_, as ++ [a], ?_, ?_, fun j b e => ?_⟩
      · rw [upd_ne (ne_of_none e hD)]
        exact s78 _ _ (s67 _ _ e)
      · rw [upd_same, List.map_append]
        rfl
      · rw [List.length_append, hl7]
        rfl
      · by_cases hj : j < as.length
        · rw [List.getElem?_append_left hj] at e
          exact stay _ _ _ (sm_t s78 (hall j b e))
        · rw [List.getElem?_append_right (by omega)] at e
          have hji : j = i := by
            have := (List.getElem?_eq_some_iff.mp e).1
            rw [List.length_singleton] at this
            omega
          subst hji
          rw [hl7, Nat.sub_self] at e
          cases e
          rw [hn]
          exact stay _ _ _ (.inl (.inl e8))
    rintro H7 ⟨s67, as, eD, hl7, hall⟩
    obtain ⟨a0, a1, a2, rfl⟩ : ∃ a0 a1 a2, as = [a0, a1, a2] := by
      match as, hl7 with
      | [a0, a1, a2], _ => exact ⟨a0, a1, a2, rfl⟩
    have s57 := s56.trans s67
    have hP7 := pot_same hP5 s57
    have b07 := b05.same s57
    refine ⟨fun σ' H' => ∃ (l a0 a1 a2 : Addr) (g0 g1 g2 : Int × Int) (c8 c9 : Option V), σ' = [some (.ref q), some (.str z), some (.int kind), some (.int (1 + r2)), some (.int fl), some (.int wa), some (.int sa), some (.ref l), c8, c9] ∧ H' l = some (.lst [.ref a0, .ref a1, .ref a2]) ∧
      SqT K H' a0 [.int g0.1, .int g0.2] ∧ SqT K H' a1 [.int g1.1, .int g1.2] ∧ SqT K H' a2 [.int g2.1, .int g2.2] ∧ Fr0 g0 ∧ Fr0 g1 ∧ Fr0 g2 ∧ tooM g0 g1 g2 = false ∧ Pot H' q ∧ But q H H', ?_, ?_⟩
    · refine ⟨_, rfl, _, _, rfl, rfl, _, rfl, ite2 (fun e => ?_) (fun e => ?_)⟩
      · have hk : kind = 0 ∨ kind = 1 ∨ kind = 2 ∨ kind = 3 := by
          have : kind < 4 := of_decide_eq_true e
          omega
        have two : ∀ i : Int, (i = 0 ∨ i = 1) → Fr0 (i, 1) := fun i h => by
          rcases h with rfl | rfl
          · exact ⟨⟨by decide, by decide⟩, by decide, ⟨by decide, by decide⟩⟩
          · exact ⟨⟨by decide, by decide⟩, by decide, ⟨by decide, by decide⟩⟩
        have zo : ∀ b : Bool, (if b = true then (1 : Int) else 0) = 0 ∨ (if b = true then (1 : Int) else 0) = 1 := fun b => by cases b <;> simp
        refine ⟨_, rfl, by show 2 ≤ sizeLine; decide, fun p1 hp1 => ⟨p1, [.int 0, .int 3], rfl, .inr (.inl (.inl upd_same)), rfl, rfl, .inr ⟨_, rfl, by show 2 ≤ sizeLine; decide, fun t0 ht0 => ?_⟩⟩⟩
        have s1' := (same_new (o := .tup [.int 0, .int 3]) hp1).trans (same_new (o := .tup [.int (if inV (.int kind) [.int 0, .int 3] = true then 1 else 0), .int 1]) ht0)
        refine ⟨_, rfl, rfl, .inr ⟨_, rfl, by show 2 ≤ sizeLine; decide, fun t1 ht1 => ⟨_, rfl, rfl, .inr ⟨_, rfl, by show 2 ≤ sizeLine; decide, fun t2 ht2 => ⟨by show 3 ≤ sizeLine; decide, fun l hl => ?_⟩⟩⟩⟩⟩
        refine ⟨l, t0, t1, t2, (if inV (.int kind) [.int 0, .int 3] = true then 1 else 0, 1), (if decide (V.int kind = V.int 1) = true then 1 else 0, 1), (if decide (V.int kind = V.int 2) = true then 1 else 0, 1), _, _, rfl, upd_same, ?_, ?_, ?_, two _ (zo _), two _ (zo _), two _ (zo _), ?_, ?_, ?_⟩
        · exact sm_t ((same_new ht1).trans ((same_new ht2).trans (same_new hl))) (.inl (.inl upd_same))
        · exact sm_t ((same_new ht2).trans (same_new hl)) (.inl (.inl upd_same))
        · exact sm_t (same_new hl) (.inl (.inl upd_same))
        · rcases hk with rfl | rfl | rfl | rfl <;> decide +kernel
        · exact pot_same hP7 (s1'.trans ((same_new ht1).trans ((same_new ht2).trans (same_new hl))))
        · exact b07.same (s1'.trans ((same_new ht1).trans ((same_new ht2).trans (same_new hl))))
      · exact ⟨Dl, a0, a1, a2, low fl (1 + r2), low wa (1 + r2), low sa (1 + r2), _, _, rfl, eD, hall 0 a0 rfl, hall 1 a1 rfl, hall 2 a2 rfl, fr0_low f0 (by omega) (by omega) (by omega), fr0_low w0 (by omega) (by omega) (by omega), fr0_low s0 (by omega) (by omega) (by omega),
          too_low f0 w0 s0 (by omega) (by omega), hP7, b07⟩
    · rintro σ' H8 ⟨l, a0, a1, a2, g0, g1, g2, c8, c9, rfl, el, t0, t1, t2, F0, F1, F2, hT, hP8, b08⟩
      refine ⟨by show 2 ≤ sizeLine; decide, fun t3 ht3 => ?_⟩
      have s89 : Same H8 (upd H8 t3 (.tup [.int 0, .int 1])) := same_new ht3
      have e3 : upd H8 t3 (.tup [.int 0, .int 1]) t3 = some (.tup [.int 0, .int 1]) := upd_same
      generalize upd H8 t3 (.tup [.int 0, .int 1]) = H9 at s89 e3 ⊢
      have nq : ∀ (Ha : Hp) (a : Addr) (xs : List V), Pot Ha q → SqT K Ha a xs → ∀ (Hb : Hp), But q Ha Hb → SqT K Hb a xs := by
        intro Ha a xs hP' h Hb b'
        obtain ⟨x, y, _, _, eq⟩ := hP'
        rcases h with (h | ⟨o, h⟩) | h
        · exact .inl (.inl (b' _ _ (fun z => by rw [z, eq] at h; cases h) h))
        · exact .inl (.inr ⟨o, b' _ _ (fun z => by rw [z, eq] at h; cases h) h⟩)
        · exact .inr h
      have hP9 := pot_same hP8 s89
      refine ⟨_, rfl, q, 12, rfl, by decide, by decide, hP9, fun r6 H10 r60 r61 hP10 b10 => ⟨_, _, rfl, rfl, _, rfl, q, 12, rfl, by decide, by decide, hP10, fun r7 H11 r70 r71 hP11 b11 => ⟨_, _, rfl, rfl, _, _, rfl, by omega, mid _ (by omega) (by omega), fun H12 p12 s12 e12 => ⟨by show 2 ≤ sizeLine; decide, fun l4 hl4 => ?_⟩⟩⟩⟩
      have b8 : But q H8 H12 := ((But.rfl.same s89).trans (b10.trans b11)).same s12
      have hP12 := pot_same hP11 s12
      have lq : l ≠ q := fun z => by
        obtain ⟨x, y, _, _, eq⟩ := hP8
        rw [z, eq] at el
        cases el
      have el12 : H12 l = some (.lst [.ref a0, .ref a1, .ref a2]) := b8 _ _ lq el
      have t0' := nq _ _ _ hP8 t0 _ b8
      have t1' := nq _ _ _ hP8 t1 _ b8
      have t2' := nq _ _ _ hP8 t2 _ b8
      have t3' : SqT K H12 t3 [.int 0, .int 1] := nq _ _ _ hP9 (.inl (.inl e3)) _ ((b10.trans b11).same s12)
      have s13 : Same H12 (upd H12 l4 (.lst [.ref t3, .ref p12])) := same_new hl4
      have e4 : upd H12 l4 (.lst [.ref t3, .ref p12]) l4 = some (.lst [.ref t3, .ref p12]) := upd_same
      generalize upd H12 l4 (.lst [.ref t3, .ref p12]) = H13 at s13 e4 ⊢
      have F3a : Fr0 (0, 1) := ⟨⟨by decide, by decide⟩, by decide, ⟨by decide, by decide⟩⟩
      have F3b : Fr0 (low (1 + r6) (1 + r7)) := fr0_low (by omega) (by omega) (by omega) (by omega)
      refine ⟨_, rfl, l, _, _, _, rfl, rfl, .inl (.inl (s13 _ _ el12)), atI_nat (j := 0) rfl, a0, _, _, _, rfl, rfl, sm_t s13 t0', atI_nat (j := 0) rfl, _, _, rfl, rfl, .inr ⟨_, rfl, ?_⟩⟩
      have pick : ∃ (a3 : Addr) (g3 : Int × Int), atI [V.ref t3, V.ref p12] (if decide (0 < g0.1) = true then 1 else 0) = some (.ref a3) ∧ Fr0 g3 ∧ SqT K H13 a3 [.int g3.1, .int g3.2] := by
        cases decide (0 < g0.1)
        · exact ⟨t3, (0, 1), rfl, F3a, sm_t s13 t3'⟩
        · exact ⟨p12, low (1 + r6) (1 + r7), rfl, F3b, sm_t s13 (.inl (.inl e12))⟩
      obtain ⟨a3, g3, hat, F3, t3f⟩ := pick
      refine ⟨l4, _, _, _, rfl, rfl, .inl (.inl e4), hat, ?_⟩
      have el13 := s13 _ _ el12
      refine ⟨_, rfl, by show 1 ≤ sizeLine; decide, fun t5 ht5 => ?_⟩
      have s14 : Same H13 (upd H13 t5 (.tup [.str z])) := same_new ht5
      have e5 : upd H13 t5 (.tup [.str z]) t5 = some (.tup [.str z]) := upd_same
      generalize upd H13 t5 (.tup [.str z]) = H14 at s14 e5 ⊢
      refine ⟨_, rfl, l, _, rfl, .inl ⟨.inl (.inl (s14 _ _ el13)), fun t6 ht6 => ?_⟩⟩
      have s15 : Same H14 (upd H14 t6 (.tup [.ref a0, .ref a1, .ref a2])) := same_new ht6
      have e6 : upd H14 t6 (.tup [.ref a0, .ref a1, .ref a2]) t6 = some (.tup [.ref a0, .ref a1, .ref a2]) := upd_same
      generalize upd H14 t6 (.tup [.ref a0, .ref a1, .ref a2]) = H15 at s15 e6 ⊢
      refine ⟨t5, t6, _, _, rfl, rfl, .inl (.inl (s15 _ _ e5)), .inl (.inl e6), by simp, by show 1 + 3 ≤ sizeLine; decide, (fun z => by cases z), fun _ p7 hp7 => ?_⟩
      have s16 : Same H15 (upd H15 p7 (.tup ([.str z] ++ [.ref a0, .ref a1, .ref a2]))) := same_new hp7
      have e7 : upd H15 p7 (.tup ([.str z] ++ [.ref a0, .ref a1, .ref a2])) p7 = some (.tup [.str z, .ref a0, .ref a1, .ref a2]) := upd_same
      generalize upd H15 p7 (.tup ([.str z] ++ [.ref a0, .ref a1, .ref a2])) = H16 at s16 e7 ⊢
      have s1216 := ((s13.trans s14).trans s15).trans s16
      have hP16 := pot_same hP12 s1216
      refine ⟨_, rfl, _, rfl, q, rfl, hP16, fun p8 g4 H17 F4 e8 hP17 b17 => ⟨by show 2 ≤ sizeLine; decide, fun t8 ht8 => ?_⟩⟩
      have e7' : SqT K H17 p7 [.str z, .ref a0, .ref a1, .ref a2] := nq _ _ _ hP16 (.inl (.inl e7)) _ b17
      have u0 := nq _ _ _ hP16 (sm_t s1216 t0') _ b17
      have u1 := nq _ _ _ hP16 (sm_t s1216 t1') _ b17
      have u2 := nq _ _ _ hP16 (sm_t s1216 t2') _ b17
      have u3 := nq _ _ _ hP16 (sm_t ((s14.trans s15).trans s16) t3f) _ b17
      have s18 : Same H17 (upd H17 t8 (.tup [.ref a3, .ref p8])) := same_new ht8
      have e9 : upd H17 t8 (.tup [.ref a3, .ref p8]) t8 = some (.tup [.ref a3, .ref p8]) := upd_same
      generalize upd H17 t8 (.tup [.ref a3, .ref p8]) = H18 at s18 e9 ⊢
      refine ⟨p7, t8, _, _, rfl, rfl, sm_t s18 e7', .inl (.inl e9), by simp, by show 4 + 2 ≤ sizeLine; decide, (fun z => by cases z), fun _ p9 hp9 => ?_⟩
      have s19 := s18.trans (same_new (o := .tup ([.str z, .ref a0, .ref a1, .ref a2] ++ [.ref a3, .ref p8])) hp9)
      refine k p9 [g0, g1, g2, g3, g4] _ ⟨⟨[a0, a1, a2, a3, p8], upd_same, rfl, rfl, ?_⟩, ?_, hT⟩ (pot_same hP17 s19) ((((b08.trans b8).same s1216).trans b17).same s19)
      · intro i a g ha hgg
        match i, ha, hgg with
        | 0, ha, hgg => cases ha; cases hgg; exact sm_t s19 u0
        | 1, ha, hgg => cases ha; cases hgg; exact sm_t s19 u1
        | 2, ha, hgg => cases ha; cases hgg; exact sm_t s19 u2
        | 3, ha, hgg => cases ha; cases hgg; exact sm_t s19 u3
        | 4, ha, hgg => cases ha; cases hgg; exact sm_t s19 (.inl (.inl e8))
      · intro g hgm
        simp only [List.mem_cons, List.not_mem_nil, or_false] at hgm
        rcases hgm with rfl | rfl | rfl | rfl | rfl
        · exact F0
        · exact F1
        · exact F2
        · exact F3
        · exact F4
end
end Lf

set_option Elab.async false
set_option linter.all false
set_option maxRecDepth 100000
set_option maxHeartbeats 4000000
set_option exponentiation.threshold 3000
namespace Lf
open PySem PySem.Spec PyProof.Rows L2

/-- below 2 ^ 60 -/
def S60 (n : Int) : Prop := n.natAbs < 2 ^ 60
theorem S60.sm {n : Int} (h : S60 n) : Sm n := Nat.lt_of_lt_of_le h (Nat.pow_le_pow_right (by decide) (by decide))
theorem S60.of {n : Int} (h : n.natAbs < 1152921504606846976) : S60 n := h
theorem Ft.i60 {n : Int} (h : S60 n) : Ft 60 0 (.int n) := by
  have f := Ft.int h.sm
  refine ⟨f.sh, f.nd, f.dp, f.lv, ?_⟩
  simp only [PyData.weight]
  have := PySem.Flt.log2_lt_of (by decide) h
  split <;> omega
/-- a thing that can be shown beside others -/
structure Gd (d : PyData) : Prop where
  sh : d.showable = true
  dp : d.depth ≤ 5
  lv : d.leavesShort 1000 = true
  wt : d.weight ≤ 2000
  md : ∀ a b, d = .tuple [.int a, .int b] → S60 a ∧ S60 b
  tx : ∀ z, d = .str z → z.length ≤ 1000 ∧ ∀ c ∈ z.cps.toList, c < 0x110000
theorem gd_of {w k : Nat} {d : PyData} (f : Ft w k d) (hw : w ≤ 2000 := by decide) (hk : k ≤ 5 := by decide) (h1 : ∀ a b, d ≠ .tuple [.int a, .int b] := by intro a b e; cases e) (h2 : ∀ z, d ≠ .str z := by intro z e; cases e) : Gd d :=
  ⟨f.sh, Nat.le_trans f.dp hk, f.lv, Nat.le_trans f.wt hw, fun a b e => absurd e (h1 a b), fun z e => absurd e (h2 z)⟩
theorem gd_two {x y : Int} (hx : S60 x) (hy : S60 y) : Gd (.tuple [.int x, .int y]) := by
  have f : Ft _ _ (.tuple [.int x, .int y]) := Ft.tuple (.cons (.i60 hx) (.cons (.i60 hy) .nil))
  exact ⟨f.sh, Nat.le_trans f.dp (by decide), f.lv, Nat.le_trans f.wt (by decide), (fun a b e => by cases e; exact ⟨hx, hy⟩), (fun z e => by cases e)⟩
def Gs (z : Str) : Prop := z.length ≤ 1000 ∧ ∀ c ∈ z.cps.toList, c < 0x110000
theorem gd_str {z : Str} (h : Gs z) : Gd (.str z) := by
  have f : Ft 1000 0 (.str z) := Ft.str (fun c hc => Nat.lt_trans (h.2 c hc) (by decide)) h.1
  exact ⟨f.sh, Nat.le_trans f.dp (by decide), f.lv, Nat.le_trans f.wt (by decide), (fun a b e => by cases e), (fun y e => by cases e; exact h)⟩
def AllG : List PyData → Prop
  | [] => True
  | d :: ds => Gd d ∧ AllG ds
theorem AllG.get : ∀ {ds : List PyData} {i : Nat} {d : PyData}, AllG ds → ds[i]? = some d → Gd d
  | [], _, _, _, e => by simp at e
  | _ :: _, 0, _, h, e => by
    simp at e
    exact e ▸ h.1
  | _ :: _, i + 1, d, h, e => AllG.get (i := i) h.2 (by simpa using e)
theorem AllG.mem {ds : List PyData} {d : PyData} (h : AllG ds) (m : d ∈ ds) : Gd d := by
  obtain ⟨i, hi⟩ := List.getElem?_of_mem m
  exact h.get hi
theorem AllG.set : ∀ {ds : List PyData} (i : Nat) {d : PyData}, AllG ds → Gd d → AllG (ds.set i d)
  | [], _, _, _, _ => trivial
  | _ :: _, 0, _, h, k => ⟨k, h.2⟩
  | _ :: _, i + 1, _, h, k => ⟨h.1, AllG.set i h.2 k⟩
theorem allG_shows : ∀ {ds : List PyData}, AllG ds → PyData.showableAll ds = true ∧ PyData.depthAll ds ≤ 5 ∧ PyData.leavesShortAll 1000 ds = true ∧ PyData.weightAll ds ≤ 2001 * ds.length
  | [], _ => ⟨by simp only [PyData.showableAll], by simp only [PyData.depthAll]; omega, by simp only [PyData.leavesShortAll], by simp only [PyData.weightAll]; omega⟩
  | d :: ds, h => by
    obtain ⟨i1, i2, i3, i4⟩ := allG_shows h.2
    have g := h.1
    refine ⟨by simp only [PyData.showableAll, g.sh, i1, Bool.and_self], ?_, by simp only [PyData.leavesShortAll, g.lv, i3, Bool.and_self], ?_⟩
    · have := g.dp
      simp only [PyData.depthAll]
      omega
    · have := g.wt
      simp only [PyData.weightAll, List.length_cons]
      omega
theorem showA_six {ds : List PyData} (h : AllG ds) (hl : ds.length ≤ 8) : ShowA ds := by
  obtain ⟨i1, i2, i3, i4⟩ := allG_shows h
  have lv : PyData.leavesShort 1000 (.list ds) = true := by simp only [PyData.leavesShort]; exact i3
  refine ⟨i1, by omega, ?_⟩
  have e1 := PyData.shown_le 1000 (by decide) (.list ds) lv
  have e2 : (PyData.list ds).weight ≤ 16100 := by
    simp only [PyData.weight]
    omega
  have e3 : (1000 + 2) * (PyData.list ds).weight ≤ 1002 * 16100 := Nat.mul_le_mul (Nat.le_refl _) e2
  have e4 := sizeLine_eq
  omega
theorem gd_dict0 : Gd (.dict []) := ⟨by decide +kernel, by decide +kernel, by decide +kernel, by decide +kernel, (fun a b e => by cases e), (fun z e => by cases e)⟩
theorem Pot.same {H H' : Hp} {q : Addr} (s : Same H H') (h : Pot H q) : Pot H' q := by
  obtain ⟨x, y, a, b, e⟩ := h
  exact ⟨x, y, a, b, s _ _ e⟩
theorem pot_ne {q p : Addr} {H : Hp} (h : Pot H q) (n : H p = none) : p ≠ q := fun z => by
  obtain ⟨x, y, _, _, e⟩ := h
  rw [← z, n] at e
  cases e
/-- a heap without what stands at q -/
def wo (q : Addr) (H : Hp) : Hp := fun b => if b = q then none else H b
theorem wo_at {q p : Addr} {H : Hp} {o : HO} (n : p ≠ q) (e : H p = some o) : wo q H p = some o := by
  unfold wo
  rw [if_neg n]
  exact e
theorem wo_le {q : Addr} {H : Hp} : Same (wo q H) H := fun b o e => by
  unfold wo at e
  split at e
  · cases e
  · exact e
theorem wo_not {q p : Addr} {H : Hp} {o : HO} (e : wo q H p = some o) : p ≠ q := fun z => by
  unfold wo at e
  rw [if_pos z] at e
  cases e
theorem wo_but {q : Addr} {H H' : Hp} (h : But q H H') : Same (wo q H) (wo q H') := fun b o e => by
  have n := wo_not e
  exact wo_at n (h b o n (wo_le _ _ e))
theorem wo_wo {q : Addr} {H H' : Hp} (s : Same H H') : Same (wo q H) (wo q H') := fun b o e => wo_at (wo_not e) (s _ _ (wo_le _ _ e))
theorem wo_upd {q : Addr} {H : Hp} {o : HO} : Same (wo q H) (wo q (upd H q o)) := fun b o e => wo_at (wo_not e) (by rw [upd_ne (wo_not e)]; exact wo_le _ _ e)
/-- what is new -/
def nw (H H' : Hp) : Hp := fun b => match H b with | none => H' b | some _ => none
theorem nw_at {H H' : Hp} {p : Addr} {o : HO} (m : H p = none) (e : H' p = some o) : nw H H' p = some o := by
  unfold nw
  rw [m]
  exact e
theorem nw_of {H H' : Hp} {p : Addr} {o : HO} (e : nw H H' p = some o) : H p = none ∧ H' p = some o := by
  unfold nw at e
  cases h : H p with
  | none =>
    rw [h] at e
    exact ⟨rfl, e⟩
  | some u =>
    rw [h] at e
    cases e
theorem but_none {q p : Addr} {H H' : Hp} (b : But q H H') (c : p ≠ q) (n : H' p = none) : H p = none := by
  cases h : H p with
  | none => rfl
  | some o =>
    rw [b p o c h] at n
    cases n
theorem upd_twice {H : Hp} {a : Addr} {o o' : HO} : upd (upd H a o) a o' = upd H a o' := by
  funext b
  by_cases h : b = a
  · rw [h, upd_same, upd_same]
  · rw [upd_ne h, upd_ne h, upd_ne h]

def Ok1 (z : Str) : Prop := ∀ c ∈ z.cps.toList, c < 0x110000
theorem ok_lit (s : String) : Ok1 (Str.ofString s) := by
  intro c hc
  rw [Str.ofString_eq_toList] at hc
  obtain ⟨ch, _, rfl⟩ := List.mem_map.mp (show c ∈ s.toList.map Char.toNat from hc)
  rcases ch.valid with h | h
  · exact Nat.lt_trans h (by decide)
  · exact h.2
theorem ok_app {x y : Str} (h : Ok1 x) (k : Ok1 y) : Ok1 (x ++ y) := by
  intro c hc
  have e : (x ++ y).cps.toList = x.cps.toList ++ y.cps.toList := by
    rw [show (x ++ y).cps = x.cps ++ y.cps from rfl, Array.toList_append]
  rw [e] at hc
  rcases List.mem_append.mp hc with q | q
  · exact h c q
  · exact k c q
theorem ok_one {z : Str} {c : Nat} {i : Nat} (h : Ok1 z) (e : z.cps[i]? = some c) : Ok1 ⟨#[c]⟩ := by
  intro x hx
  have : x = c := by simpa using hx
  rw [this]
  exact h c (List.mem_of_getElem? (by rw [Array.getElem?_toList]; exact e))
theorem ok_cut {z : Str} (lo hi : Option Int) (h : Ok1 z) : Ok1 (cutS z lo hi) := fun c hc => h c (List.mem_of_mem_drop (List.mem_of_mem_take (show c ∈ ((z.cps.toList.drop _).take _) by simpa [cutS] using hc)))
theorem ok_join : ∀ ys : List Str, (∀ y ∈ ys, Ok1 y) → Ok1 (Str.join (Str.ofString "") ys)
  | [], _ => by
    intro c hc
    have : (Str.join (Str.ofString "") []).cps.toList = [] := by decide +kernel
    rw [this] at hc
    cases hc
  | [x], h => h x List.mem_cons_self
  | x :: y :: r, h => ok_app (ok_app (h x List.mem_cons_self) (ok_lit "")) (ok_join (y :: r) fun z hz => h z (List.mem_cons_of_mem _ hz))
end Lf

set_option Elab.async false
set_option linter.all false
set_option maxRecDepth 100000
set_option maxHeartbeats 4000000
set_option exponentiation.threshold 3000
namespace Lf
open PySem PySem.Spec PyProof.Rows L2
section
variable {P : Program} {w : World} {K : PySem.W.Frag} {mg : Str → Option Value} {base : Heap}

/-! ### _law_odd_measure -/
abbrev s__law_odd_measure : Stmt := topS 36
theorem sc__law_odd_measure : FnScope ["_law_pot_here", "_law_one", "_law_some_here", "_law_n", "_law_d", "_law_way", "_law_k"] ["_law_pot_here", "_law_one"] (defScope s__law_odd_measure) := ⟨rfl, rfl, rfl, by decide +kernel, rfl, by decide +kernel, by decide +kernel⟩
def sp_oddm (K : PySem.W.Frag) : Sp := fun vs H Q _ => ∃ (q p : Addr) (g : Int × Int), vs = [.ref q, .ref p] ∧ Pot H q ∧ SqT K H p [.int g.1, .int g.2] ∧ Fr0 g ∧ ∀ (v : V) (d : PyData) (H' : Hp), Dq K (nw H H') v d → Gd d → Pot H' q → But q H H' → Q v H'
set_option maxHeartbeats 16000000 in
theorem ok_oddm {f : Addr} {fd : FuncData} (M : Blt mg) (F : Fun K "_law_odd_measure" "_law_odd_measure" s__law_odd_measure f fd) (C__law_draw : Cal P w K mg base CX0 1 "_law_draw" ["_law_pot_here", "_law_many"] sp_draw) : FnG P w K mg base CX0 2 f fd ["_law_pot_here", "_law_one"] (sp_oddm K) := by
  refine Gfun F sc__law_odd_measure (fun vs H Q E h => ?_) (fun cdv A outer s H vs Q E hg hr h => ?_)
  · obtain ⟨q, p, g, rfl, _⟩ := h
    rfl
  · obtain ⟨q, p, ⟨n, d⟩, rfl, hP, hS, hF, kk⟩ := h
    refine ⟨_, (pss_cons (ps_asg (pv 1) (pg_tup rfl (pgs_cons (pg_name (i := 3) sc__law_odd_measure.nd rfl (.inl rfl)) (pgs_cons (pg_name (i := 4) sc__law_odd_measure.nd rfl (.inl rfl)) pgs_nil))))
      (pss_cons (ps_par (i := 5) (j := 6) rfl sc__law_odd_measure.nd rfl rfl (by decide) rfl rfl (pa_cons (pe_g C__law_draw (hr.mono (by decide)) hg (pa_cons (pv 0) (pa_cons pe_int pa_nil))) (pa_cons (pe_op op_add pe_int (pe_g C__law_draw (hr.mono (by decide)) hg (pa_cons (pv 0) (pa_cons pe_int pa_nil)))) pa_nil)) (by rfl))
      (pss_cons (ps_set (i := 2) sc__law_odd_measure.nd rfl (.inl rfl) (pe_lst (pa_cons (pe_tup (pa_cons (pe_op op_sub (pe_un un_neg pe_int) (pv 3)) (pa_cons pe_int pa_nil))) (pa_cons (pe_tup (pa_cons pe_int (pa_cons pe_int pa_nil))) (pa_cons (pe_tup (pa_cons (pe_op op_mulW (pv 6) (pv 3)) (pa_cons (pv 6) pa_nil))) (pa_cons (pe_lst (pa_cons (pv 3) (pa_cons (pv 4) pa_nil))) (pa_cons (pe_tup (pa_cons pe_bl (pa_cons pe_int pa_nil))) (pa_cons (pe_tup (pa_cons pe_int (pa_cons pe_bl pa_nil))) (pa_cons (pe_tup (pa_cons pe_bl (pa_cons pe_int pa_nil))) (pa_cons pe_str (pa_cons pe_int (pa_cons pe_int (pa_cons (pe_tup pa_nil) (pa_cons (pe_tup (pa_cons (pv 3) pa_nil)) (pa_cons (pe_tup (pa_cons (pv 3) (pa_cons (pv 4) (pa_cons pe_int pa_nil)))) pa_nil)))))))))))))))
      (pss_one (ps_ret (pe_ix ix_list (pe_op op_cat (pv 2) (pe_lst (pa_cons (pe_tup (pa_cons (pe_tup (pa_cons (pv 3) (pa_cons (pv 4) pa_nil))) (pa_cons (pe_tup (pa_cons pe_int (pa_cons pe_int pa_nil))) pa_nil))) (pa_cons (pe_tup (pa_cons (pv 3) (pa_cons pe_int pa_nil))) (pa_cons (pe_tup (pa_cons (pv 3) (pa_cons (pe_un un_neg pe_int) pa_nil))) (pa_cons pe_dnewK pa_nil)))))) (pv 5) (fun _ _ => rfl))))))), ?_⟩
    refine ⟨_, rfl, p, _, rfl, hS, rfl, _, _, rfl, _, _, rfl, rfl, ?_⟩
    refine ⟨_, rfl, q, 17, rfl, by decide, by decide, hP, fun way H1 w0 w1 hP1 b1 => ⟨_, rfl, q, 8, rfl, by decide, by decide, hP1, fun r4 H5 r40 r41 hP5 b5 => ⟨_, _, rfl, rfl, _, _, rfl, ?_⟩⟩⟩
    have b41 : n.natAbs < 2 ^ 41 ∧ d.natAbs < 2 ^ 41 := hF.bt
    have hn : S60 n := Nat.lt_of_lt_of_le b41.1 (by decide)
    have hd : S60 d := Nat.lt_of_lt_of_le b41.2 (by decide)
    have hk : S60 (2 + r4) := S60.of (by omega)
    have hmn : S60 (-1 - n) := S60.of (by have := b41.1; omega)
    have hkn : S60 ((2 + r4) * n) := by
      unfold S60
      rw [Int.natAbs_mul]
      exact Nat.lt_of_lt_of_le (Nat.mul_lt_mul'' (show (2 + r4).natAbs < 2 ^ 7 by show (2 + r4).natAbs < 128; omega) b41.1) (by decide)
    have sm0 : S60 0 := S60.of (by decide)
    have sm1 : S60 1 := S60.of (by decide)
    have sm2 : S60 2 := S60.of (by decide)
    have smm : S60 (-1) := S60.of (by decide)
    have P0 : Pot H5 q := hP5
    have B0 : But q H H5 := b1.trans b5
    refine ⟨_, rfl, _, rfl, _, _, rfl, rfl, len_show (Nat.le_of_ble_eq_true rfl), fun p1 n1 => ?_⟩
    have c1 := pot_ne P0 n1
    have m1 := but_none B0 c1 n1
    have s1 := same_new (o := .tup [.int (-1 - n), .int 1]) n1
    have P1 := P0.same s1
    have B1 := B0.same s1
    have e1 := upd_same (H := H5) (a := p1) (o := .tup [.int (-1 - n), .int 1])
    generalize upd H5 p1 (.tup [.int (-1 - n), .int 1]) = J1 at s1 e1 P1 B1 ⊢
    refine ⟨len_show (Nat.le_of_ble_eq_true rfl), fun p2 n2 => ?_⟩
    have c2 := pot_ne P1 n2
    have m2 := but_none B1 c2 n2
    have s2 := same_new (o := .tup [.int 0, .int 2]) n2
    have P2 := P1.same s2
    have B2 := B1.same s2
    have e2 := upd_same (H := J1) (a := p2) (o := .tup [.int 0, .int 2])
    generalize upd J1 p2 (.tup [.int 0, .int 2]) = J2 at s2 e2 P2 B2 ⊢
    refine ⟨_, rfl, _, rfl, _, _, rfl, rfl, Sm.mulW hk.sm hn.sm, _, rfl, len_show (Nat.le_of_ble_eq_true rfl), fun p3 n3 => ?_⟩
    have c3 := pot_ne P2 n3
    have m3 := but_none B2 c3 n3
    have s3 := same_new (o := .tup [.int ((2 + r4) * n), .int (2 + r4)]) n3
    have P3 := P2.same s3
    have B3 := B2.same s3
    have e3 := upd_same (H := J2) (a := p3) (o := .tup [.int ((2 + r4) * n), .int (2 + r4)])
    generalize upd J2 p3 (.tup [.int ((2 + r4) * n), .int (2 + r4)]) = J3 at s3 e3 P3 B3 ⊢
    refine ⟨_, rfl, _, rfl, len_show (Nat.le_of_ble_eq_true rfl), fun p4 n4 => ?_⟩
    have c4 := pot_ne P3 n4
    have m4 := but_none B3 c4 n4
    have s4 := same_new (o := .lst [.int n, .int d]) n4
    have P4 := P3.same s4
    have B4 := B3.same s4
    have e4 := upd_same (H := J3) (a := p4) (o := .lst [.int n, .int d])
    generalize upd J3 p4 (.lst [.int n, .int d]) = J4 at s4 e4 P4 B4 ⊢
    refine ⟨len_show (Nat.le_of_ble_eq_true rfl), fun p5 n5 => ?_⟩
    have c5 := pot_ne P4 n5
    have m5 := but_none B4 c5 n5
    have s5 := same_new (o := .tup [.bl true, .int 1]) n5
    have P5 := P4.same s5
    have B5 := B4.same s5
    have e5 := upd_same (H := J4) (a := p5) (o := .tup [.bl true, .int 1])
    generalize upd J4 p5 (.tup [.bl true, .int 1]) = J5 at s5 e5 P5 B5 ⊢
    refine ⟨len_show (Nat.le_of_ble_eq_true rfl), fun p6 n6 => ?_⟩
    have c6 := pot_ne P5 n6
    have m6 := but_none B5 c6 n6
    have s6 := same_new (o := .tup [.int 1, .bl true]) n6
    have P6 := P5.same s6
    have B6 := B5.same s6
    have e6 := upd_same (H := J5) (a := p6) (o := .tup [.int 1, .bl true])
    generalize upd J5 p6 (.tup [.int 1, .bl true]) = J6 at s6 e6 P6 B6 ⊢
    refine ⟨len_show (Nat.le_of_ble_eq_true rfl), fun p7 n7 => ?_⟩
    have c7 := pot_ne P6 n7
    have m7 := but_none B6 c7 n7
    have s7 := same_new (o := .tup [.bl false, .int 1]) n7
    have P7 := P6.same s7
    have B7 := B6.same s7
    have e7 := upd_same (H := J6) (a := p7) (o := .tup [.bl false, .int 1])
    generalize upd J6 p7 (.tup [.bl false, .int 1]) = J7 at s7 e7 P7 B7 ⊢
    refine ⟨len_show (Nat.le_of_ble_eq_true rfl), fun p8 n8 => ?_⟩
    have c8 := pot_ne P7 n8
    have m8 := but_none B7 c8 n8
    have s8 := same_new (o := .tup []) n8
    have P8 := P7.same s8
    have B8 := B7.same s8
    have e8 := upd_same (H := J7) (a := p8) (o := .tup [])
    generalize upd J7 p8 (.tup []) = J8 at s8 e8 P8 B8 ⊢
    refine ⟨_, rfl, len_show (Nat.le_of_ble_eq_true rfl), fun p9 n9 => ?_⟩
    have c9 := pot_ne P8 n9
    have m9 := but_none B8 c9 n9
    have s9 := same_new (o := .tup [.int n]) n9
    have P9 := P8.same s9
    have B9 := B8.same s9
    have e9 := upd_same (H := J8) (a := p9) (o := .tup [.int n])
    generalize upd J8 p9 (.tup [.int n]) = J9 at s9 e9 P9 B9 ⊢
    refine ⟨_, rfl, _, rfl, len_show (Nat.le_of_ble_eq_true rfl), fun p10 n10 => ?_⟩
    have c10 := pot_ne P9 n10
    have m10 := but_none B9 c10 n10
    have s10 := same_new (o := .tup [.int n, .int d, .int 1]) n10
    have P10 := P9.same s10
    have B10 := B9.same s10
    have e10 := upd_same (H := J9) (a := p10) (o := .tup [.int n, .int d, .int 1])
    generalize upd J9 p10 (.tup [.int n, .int d, .int 1]) = J10 at s10 e10 P10 B10 ⊢
    refine ⟨len_show (Nat.le_of_ble_eq_true rfl), fun p11 n11 => ?_⟩
    have c11 := pot_ne P10 n11
    have m11 := but_none B10 c11 n11
    have s11 := same_new (o := .lst [.ref p1, .ref p2, .ref p3, .ref p4, .ref p5, .ref p6, .ref p7, .str (Str.ofString "0"), .int 0, .int 1, .ref p8, .ref p9, .ref p10]) n11
    have P11 := P10.same s11
    have B11 := B10.same s11
    have e11 := upd_same (H := J10) (a := p11) (o := .lst [.ref p1, .ref p2, .ref p3, .ref p4, .ref p5, .ref p6, .ref p7, .str (Str.ofString "0"), .int 0, .int 1, .ref p8, .ref p9, .ref p10])
    generalize upd J10 p11 (.lst [.ref p1, .ref p2, .ref p3, .ref p4, .ref p5, .ref p6, .ref p7, .str (Str.ofString "0"), .int 0, .int 1, .ref p8, .ref p9, .ref p10]) = J11 at s11 e11 P11 B11 ⊢
    refine ⟨_, rfl, _, rfl, _, rfl, len_show (Nat.le_of_ble_eq_true rfl), fun p12 n12 => ?_⟩
    have c12 := pot_ne P11 n12
    have m12 := but_none B11 c12 n12
    have s12 := same_new (o := .tup [.int n, .int d]) n12
    have P12 := P11.same s12
    have B12 := B11.same s12
    have e12 := upd_same (H := J11) (a := p12) (o := .tup [.int n, .int d])
    generalize upd J11 p12 (.tup [.int n, .int d]) = J12 at s12 e12 P12 B12 ⊢
    refine ⟨len_show (Nat.le_of_ble_eq_true rfl), fun p13 n13 => ?_⟩
    have c13 := pot_ne P12 n13
    have m13 := but_none B12 c13 n13
    have s13 := same_new (o := .tup [.int 1, .int 1]) n13
    have P13 := P12.same s13
    have B13 := B12.same s13
    have e13 := upd_same (H := J12) (a := p13) (o := .tup [.int 1, .int 1])
    generalize upd J12 p13 (.tup [.int 1, .int 1]) = J13 at s13 e13 P13 B13 ⊢
    refine ⟨len_show (Nat.le_of_ble_eq_true rfl), fun p14 n14 => ?_⟩
    have c14 := pot_ne P13 n14
    have m14 := but_none B13 c14 n14
    have s14 := same_new (o := .tup [.ref p12, .ref p13]) n14
    have P14 := P13.same s14
    have B14 := B13.same s14
    have e14 := upd_same (H := J13) (a := p14) (o := .tup [.ref p12, .ref p13])
    generalize upd J13 p14 (.tup [.ref p12, .ref p13]) = J14 at s14 e14 P14 B14 ⊢
    refine ⟨_, rfl, len_show (Nat.le_of_ble_eq_true rfl), fun p15 n15 => ?_⟩
    have c15 := pot_ne P14 n15
    have m15 := but_none B14 c15 n15
    have s15 := same_new (o := .tup [.int n, .int 0]) n15
    have P15 := P14.same s15
    have B15 := B14.same s15
    have e15 := upd_same (H := J14) (a := p15) (o := .tup [.int n, .int 0])
    generalize upd J14 p15 (.tup [.int n, .int 0]) = J15 at s15 e15 P15 B15 ⊢
    refine ⟨_, rfl, _, rfl, len_show (Nat.le_of_ble_eq_true rfl), fun p16 n16 => ?_⟩
    have c16 := pot_ne P15 n16
    have m16 := but_none B15 c16 n16
    have s16 := same_new (o := .tup [.int n, .int (-1)]) n16
    have P16 := P15.same s16
    have B16 := B15.same s16
    have e16 := upd_same (H := J15) (a := p16) (o := .tup [.int n, .int (-1)])
    generalize upd J15 p16 (.tup [.int n, .int (-1)]) = J16 at s16 e16 P16 B16 ⊢
    refine fun p17 n17 => ?_
    have c17 := pot_ne P16 n17
    have m17 := but_none B16 c17 n17
    have s17 := same_new (o := .dK []) n17
    have P17 := P16.same s17
    have B17 := B16.same s17
    have e17 := upd_same (H := J16) (a := p17) (o := .dK [])
    generalize upd J16 p17 (.dK []) = J17 at s17 e17 P17 B17 ⊢
    refine ⟨len_show (Nat.le_of_ble_eq_true rfl), fun p18 n18 => ?_⟩
    have c18 := pot_ne P17 n18
    have m18 := but_none B17 c18 n18
    have s18 := same_new (o := .lst [.ref p14, .ref p15, .ref p16, .ref p17]) n18
    have P18 := P17.same s18
    have B18 := B17.same s18
    have e18 := upd_same (H := J17) (a := p18) (o := .lst [.ref p14, .ref p15, .ref p16, .ref p17])
    generalize upd J17 p18 (.lst [.ref p14, .ref p15, .ref p16, .ref p17]) = J18 at s18 e18 P18 B18 ⊢
    refine ⟨p11, p18, _, _, rfl, rfl, (s18 _ _ (s17 _ _ (s16 _ _ (s15 _ _ (s14 _ _ (s13 _ _ (s12 _ _ e11))))))), e18, len_show (Nat.le_of_ble_eq_true rfl), fun p19 n19 => ?_⟩
    have c19 := pot_ne P18 n19
    have m19 := but_none B18 c19 n19
    have s19 := same_new (o := .lst ([.ref p1, .ref p2, .ref p3, .ref p4, .ref p5, .ref p6, .ref p7, .str (Str.ofString "0"), .int 0, .int 1, .ref p8, .ref p9, .ref p10] ++ [.ref p14, .ref p15, .ref p16, .ref p17])) n19
    have P19 := P18.same s19
    have B19 := B18.same s19
    have e19 := upd_same (H := J18) (a := p19) (o := .lst ([.ref p1, .ref p2, .ref p3, .ref p4, .ref p5, .ref p6, .ref p7, .str (Str.ofString "0"), .int 0, .int 1, .ref p8, .ref p9, .ref p10] ++ [.ref p14, .ref p15, .ref p16, .ref p17]))
    generalize upd J18 p19 (.lst ([.ref p1, .ref p2, .ref p3, .ref p4, .ref p5, .ref p6, .ref p7, .str (Str.ofString "0"), .int 0, .int 1, .ref p8, .ref p9, .ref p10] ++ [.ref p14, .ref p15, .ref p16, .ref p17])) = J19 at s19 e19 P19 B19 ⊢
    have G19 : Same J19 J19 := same_rfl
    have G18 : Same J18 J19 := s19.trans G19
    have G17 : Same J17 J19 := s18.trans G18
    have G16 : Same J16 J19 := s17.trans G17
    have G15 : Same J15 J19 := s16.trans G16
    have G14 : Same J14 J19 := s15.trans G15
    have G13 : Same J13 J19 := s14.trans G14
    have G12 : Same J12 J19 := s13.trans G13
    have G11 : Same J11 J19 := s12.trans G12
    have G10 : Same J10 J19 := s11.trans G11
    have G9 : Same J9 J19 := s10.trans G10
    have G8 : Same J8 J19 := s9.trans G9
    have G7 : Same J7 J19 := s8.trans G8
    have G6 : Same J6 J19 := s7.trans G7
    have G5 : Same J5 J19 := s6.trans G6
    have G4 : Same J4 J19 := s5.trans G5
    have G3 : Same J3 J19 := s4.trans G4
    have G2 : Same J2 J19 := s3.trans G3
    have G1 : Same J1 J19 := s2.trans G2
    have hq : DqAll K (nw H J19) [.ref p1, .ref p2, .ref p3, .ref p4, .ref p5, .ref p6, .ref p7, .str (Str.ofString "0"), .int 0, .int 1, .ref p8, .ref p9, .ref p10, .ref p14, .ref p15, .ref p16, .ref p17] [.tuple [.int (-1 - n), .int 1], .tuple [.int 0, .int 2], .tuple [.int ((2 + r4) * n), .int (2 + r4)], .list [.int n, .int d], .tuple [.bool true, .int 1], .tuple [.int 1, .bool true], .tuple [.bool false, .int 1], .str (Str.ofString "0"), .int 0, .int 1, .tuple [], .tuple [.int n], .tuple [.int n, .int d, .int 1], .tuple [.tuple [.int n, .int d], .tuple [.int 1, .int 1]], .tuple [.int n, .int 0], .tuple [.int n, .int (-1)], .dict []] := (.cons (.dp (.tup (.inl (.inl (nw_at m1 (G1 _ _ e1)))) (.cons (.int _) (.cons (.int _) .nil))) (by rfl)) (.cons (.dp (.tup (.inl (.inl (nw_at m2 (G2 _ _ e2)))) (.cons (.int _) (.cons (.int _) .nil))) (by rfl)) (.cons (.dp (.tup (.inl (.inl (nw_at m3 (G3 _ _ e3)))) (.cons (.int _) (.cons (.int _) .nil))) (by rfl)) (.cons (.dp (.lst (.inl (.inl (nw_at m4 (G4 _ _ e4)))) (.cons (.int _) (.cons (.int _) .nil))) (by rfl)) (.cons (.dp (.tup (.inl (.inl (nw_at m5 (G5 _ _ e5)))) (.cons (.bl _) (.cons (.int _) .nil))) (by rfl)) (.cons (.dp (.tup (.inl (.inl (nw_at m6 (G6 _ _ e6)))) (.cons (.int _) (.cons (.bl _) .nil))) (by rfl)) (.cons (.dp (.tup (.inl (.inl (nw_at m7 (G7 _ _ e7)))) (.cons (.bl _) (.cons (.int _) .nil))) (by rfl)) (.cons (.dp (.str _) (by rfl)) (.cons (.dp (.int _) (by rfl)) (.cons (.dp (.int _) (by rfl)) (.cons (.dp (.tup (.inl (.inl (nw_at m8 (G8 _ _ e8)))) .nil) (by rfl)) (.cons (.dp (.tup (.inl (.inl (nw_at m9 (G9 _ _ e9)))) (.cons (.int _) .nil)) (by rfl)) (.cons (.dp (.tup (.inl (.inl (nw_at m10 (G10 _ _ e10)))) (.cons (.int _) (.cons (.int _) (.cons (.int _) .nil)))) (by rfl)) (.cons (.dp (.tup (.inl (.inl (nw_at m14 (G14 _ _ e14)))) (.cons (.tup (.inl (.inl (nw_at m12 (G12 _ _ e12)))) (.cons (.int _) (.cons (.int _) .nil))) (.cons (.tup (.inl (.inl (nw_at m13 (G13 _ _ e13)))) (.cons (.int _) (.cons (.int _) .nil))) .nil))) (by rfl)) (.cons (.dp (.tup (.inl (.inl (nw_at m15 (G15 _ _ e15)))) (.cons (.int _) (.cons (.int _) .nil))) (by rfl)) (.cons (.dp (.tup (.inl (.inl (nw_at m16 (G16 _ _ e16)))) (.cons (.int _) (.cons (.int _) .nil))) (by rfl)) (.cons (.dic (nw_at m17 (G17 _ _ e17)) .nil) .nil)))))))))))))))))
    have hgA : AllG [.tuple [.int (-1 - n), .int 1], .tuple [.int 0, .int 2], .tuple [.int ((2 + r4) * n), .int (2 + r4)], .list [.int n, .int d], .tuple [.bool true, .int 1], .tuple [.int 1, .bool true], .tuple [.bool false, .int 1], .str (Str.ofString "0"), .int 0, .int 1, .tuple [], .tuple [.int n], .tuple [.int n, .int d, .int 1], .tuple [.tuple [.int n, .int d], .tuple [.int 1, .int 1]], .tuple [.int n, .int 0], .tuple [.int n, .int (-1)], .dict []] := ⟨gd_two (hmn) (sm1), gd_two (sm0) (sm2), gd_two (hkn) (hk), gd_of (Ft.list (.cons (.i60 hn) (.cons (.i60 hd) .nil))), gd_of (Ft.tuple (.cons (.bool true) (.cons (.i60 sm1) .nil))), gd_of (Ft.tuple (.cons (.i60 sm1) (.cons (.bool true) .nil))), gd_of (Ft.tuple (.cons (.bool false) (.cons (.i60 sm1) .nil))), gd_str ⟨by decide +kernel, by decide +kernel⟩, gd_of (Ft.i60 sm0), gd_of (Ft.i60 sm1), gd_of (Ft.tuple .nil), gd_of (Ft.tuple (.cons (.i60 hn) .nil)), gd_of (Ft.tuple (.cons (.i60 hn) (.cons (.i60 hd) (.cons (.i60 sm1) .nil)))), gd_of (Ft.tuple (.cons (Ft.tuple (.cons (.i60 hn) (.cons (.i60 hd) .nil))) (.cons (Ft.tuple (.cons (.i60 sm1) (.cons (.i60 sm1) .nil))) .nil))), gd_two (hn) (sm0), gd_two (hn) (smm), gd_dict0, trivial⟩
    have g : Same H5 J19 := s1.trans G1
    obtain ⟨i, rfl⟩ : ∃ i : Nat, way = (i : Int) := ⟨way.toNat, by omega⟩
    have hi : i < 17 := by omega
    obtain ⟨v, hv⟩ : ∃ v, ([.ref p1, .ref p2, .ref p3, .ref p4, .ref p5, .ref p6, .ref p7, .str (Str.ofString "0"), .int 0, .int 1, .ref p8, .ref p9, .ref p10, .ref p14, .ref p15, .ref p16, .ref p17] : List V)[i]? = some v := by
      have hl : i < ([.ref p1, .ref p2, .ref p3, .ref p4, .ref p5, .ref p6, .ref p7, .str (Str.ofString "0"), .int 0, .int 1, .ref p8, .ref p9, .ref p10, .ref p14, .ref p15, .ref p16, .ref p17] : List V).length := hi
      exact ⟨_, List.getElem?_eq_getElem hl⟩
    obtain ⟨dd, hdd, hqd⟩ := hq.get hv
    refine ⟨_, rfl, p19, _, (i : Int), v, rfl, rfl, .inl (.inl e19), atI_nat hv, ?_⟩
    exact kk v dd _ hqd (hgA.get hdd) (hP5.same g) ((b1.trans b5).same g)
end
end Lf

set_option Elab.async false
set_option linter.all false
set_option maxRecDepth 100000
set_option maxHeartbeats 4000000
set_option exponentiation.threshold 3000
namespace Lf
open PySem PySem.Spec PyProof.Rows L2
/-- a text eleven times -/
def rep11 (z : Str) : Str := ⟨(List.replicate 11 z.cps).foldl (· ++ ·) #[]⟩
theorem rep11_len (z : Str) : (rep11 z).length = 11 * z.length := by
  unfold rep11 PySem.Str.length
  simp [List.replicate]
  omega
theorem rep11_mem {z : Str} {c : Nat} (h : c ∈ (rep11 z).cps.toList) : c ∈ z.cps.toList := by
  unfold rep11 at h
  simp [List.replicate] at h
  simpa using h
def rRep11 : R2 := fun x y H Q => ∃ z : Str, x = .str z ∧ y = .int 11 ∧ 1 ≤ z.length ∧ z.length ≤ 1000 ∧ Q (.str (rep11 z)) H
theorem op_rep11 {X : Cx} : OpR X (binaryOp .Mult) rRep11 := by
  intro pins s σ H x y v u Q I rx ry h
  obtain ⟨z, rfl, rfl, h1, h2, q⟩ := h
  obtain ⟨t, rfl⟩ := rx
  obtain ⟨t', rfl⟩ := ry
  refine PySem.P.mul_str (by decide) (fun _ _ => by omega) (fun _ _ => ?_) ?_
  · have e : z.length * Int.toNat 11 ≤ 11000 := by
      show z.length * 11 ≤ 11000
      omega
    exact decide_eq_false (by rw [sizeLine_eq]; omega)
  · rw [if_neg (by decide), if_neg (by simp; omega)]
    refine ⟨?_, ⟨.str (rep11 z), H, I.tok _, ⟨_, rfl⟩, q⟩⟩
    have := rep11_len z
    unfold rep11 at this
    show (⟨(List.replicate 11 z.cps).foldl (· ++ ·) #[]⟩ : Str).length ≤ sizeLine
    rw [this, sizeLine_eq]
    omega
theorem up_gs {z : Str} (h : AllL z) (hl : z.length ≤ 1000) : Gs (Txt.upper z) := by
  have lt : ∀ c ∈ z.cps.toList, c < 128 := fun c hc => by
    have hc' : c ∈ lets.cps.toList := of_decide_eq_true (h c hc)
    have all : ∀ x ∈ lets.cps.toList, x < 128 := by decide +kernel
    exact all c hc'
  rw [PyProof.Rows.upper_ascii lt]
  refine ⟨?_, fun c hc => ?_⟩
  · show (z.cps.map PyProof.Rows.up1).size ≤ 1000
    rw [Array.size_map]
    exact hl
  · rw [Array.toList_map] at hc
    obtain ⟨x, hx, rfl⟩ := List.mem_map.mp hc
    have := lt x hx
    unfold PyProof.Rows.up1
    split <;> omega
section
variable {P : Program} {w : World} {K : PySem.W.Frag} {mg : Str → Option Value} {base : Heap}

/-! ### _law_odd_name -/
abbrev s__law_odd_name : Stmt := topS 35
theorem sc__law_odd_name : FnScope ["_law_pot_here", "_law_name_here", "_law_way", "_law_at", "_law_sign", "_law_some_here"] ["_law_pot_here", "_law_name_here"] (defScope s__law_odd_name) := ⟨rfl, rfl, rfl, by decide +kernel, rfl, by decide +kernel, by decide +kernel⟩
def sp_oddn (K : PySem.W.Frag) : Sp := fun vs H Q _ => ∃ (q : Addr) (z : Str), vs = [.ref q, .str z] ∧ Pot H q ∧ 1 ≤ z.length ∧ z.length ≤ 10 ∧ AllL z ∧ ∀ (v : V) (d : PyData) (H' : Hp), Dq K (nw H H') v d → Gd d → Pot H' q → But q H H' → Q v H'
theorem ok_oddn {f : Addr} {fd : FuncData} (M : Blt mg) (F : Fun K "_law_odd_name" "_law_odd_name" s__law_odd_name f fd) (C__law_draw : Cal P w K mg base CX0 1 "_law_draw" ["_law_pot_here", "_law_many"] sp_draw) : FnG P w K mg base CX0 2 f fd ["_law_pot_here", "_law_name_here"] (sp_oddn K) := by
  refine Gfun F sc__law_odd_name (fun vs H Q E h => ?_) (fun cdv A outer s H vs Q E hg hr h => ?_)
  · obtain ⟨q, z, rfl, _⟩ := h
    rfl
  · obtain ⟨q, z, rfl, hP, hz1, hz2, hal, kk⟩ := h
    refine ⟨_, (pss_cons (ps_set (i := 2) sc__law_odd_name.nd rfl (.inl rfl) (pe_g C__law_draw (hr.mono (by decide)) hg (pa_cons (pv 0) (pa_cons pe_int pa_nil))))
      (pss_cons (ps_set (i := 3) sc__law_odd_name.nd rfl (.inl rfl) (pe_g C__law_draw (hr.mono (by decide)) hg (pa_cons (pv 0) (pa_cons (pe_op op_add (pe_callB call_len_str rfl M.len bt_len (pa_cons (pv 1) pa_nil)) pe_int) pa_nil))))
      (pss_cons (ps_set (i := 4) sc__law_odd_name.nd rfl (.inl rfl) (pe_item_str pe_str (pe_g C__law_draw (hr.mono (by decide)) hg (pa_cons (pv 0) (pa_cons pe_int pa_nil))) (fun _ _ => rfl)))
      (pss_cons (ps_set (i := 5) sc__law_odd_name.nd rfl (.inl rfl) (pe_lst (pa_cons pe_str (pa_cons (pe_slice sl_str (pe_op op_rep11 (pv 1) pe_int) po_none (po_some pe_int)) (pa_cons (pe_upper (pv 1)) (pa_cons pe_non (pa_cons pe_int (pa_cons (pe_lst (pa_cons (pv 1) pa_nil)) (pa_cons (pe_tup (pa_cons (pv 1) pa_nil)) (pa_cons pe_bl pa_nil))))))))))
      (pss_one (ps_ret (pe_ix ix_list (pe_op op_cat (pv 5) (pe_lst (pa_cons (pe_op op_add_str (pe_op op_add_str (pe_slice sl_str (pv 1) po_none (po_some (pv 3))) (pv 4)) (pe_slice sl_str (pv 1) (po_some (pv 3)) po_none)) (pa_cons (pe_op op_add_str (pe_op op_add_str (pe_slice sl_str (pv 1) po_none (po_some (pv 3))) (pv 4)) (pe_slice sl_str (pv 1) (po_some (pe_op op_add (pv 3) pe_int)) po_none)) pa_nil)))) (pv 2) (fun _ _ => rfl)))))))), ?_⟩
    refine ⟨_, rfl, q, 10, rfl, by decide, by decide, hP, fun way H1 w0 w1 hP1 b1 => ?_⟩
    refine ⟨_, rfl, _, rfl, z, rfl, len_show (by omega), _, _, rfl, rfl, q, _, rfl, by omega, ?_, hP1, fun att H2 a0 a1 hP2 b2 => ?_⟩
    · show ((z.length : Int) + 1).natAbs < 2 ^ 900
      exact Nat.lt_of_lt_of_le (show ((z.length : Int) + 1).natAbs < 2 ^ 5 by show ((z.length : Int) + 1).natAbs < 32; omega) (Nat.pow_le_pow_right (by decide) (by decide))
    have hr11 := rep11_len z
    refine ⟨_, rfl, q, 69, rfl, by decide, by decide, hP2, fun r4 H3 r40 r41 hP3 b3 => ?_⟩
    have hlit : (Str.ofString " !\"#$&'()*+,-./0123456789:;<=>?@ABCDEFGHIJKLMNOPQRSTUVWXYZ[\\]^_`{|}~\n").length = 69 := by decide +kernel
    obtain ⟨c, hc⟩ : ∃ c, (Str.ofString " !\"#$&'()*+,-./0123456789:;<=>?@ABCDEFGHIJKLMNOPQRSTUVWXYZ[\\]^_`{|}~\n").cps[r4.toNat]? = some c := by
      have hl : r4.toNat < (Str.ofString " !\"#$&'()*+,-./0123456789:;<=>?@ABCDEFGHIJKLMNOPQRSTUVWXYZ[\\]^_`{|}~\n").cps.size := by
        show r4.toNat < (Str.ofString " !\"#$&'()*+,-./0123456789:;<=>?@ABCDEFGHIJKLMNOPQRSTUVWXYZ[\\]^_`{|}~\n").length
        omega
      exact ⟨_, Array.getElem?_eq_getElem hl⟩
    have okc := ok_one (ok_lit _) hc
    refine ⟨_, r4, c, rfl, rfl, r40, by omega, by omega, hc, ?_⟩
    have okz : Ok1 z := fun x hx => inL_lt (hal x hx)
    have gsz : Gs z := ⟨by omega, okz⟩
    have sa : Ft 1000 0 (.str z) := Ft.str (fun c hc => Nat.lt_trans (okz c hc) (by decide)) gsz.1
    have g11 : Gs (cutS (rep11 z) none (some 11)) := by
      refine ⟨?_, ok_cut _ _ fun x hx => okz x (rep11_mem hx)⟩
      have := cutS_length (rep11 z) none (some 11)
      omega
    have P0 : Pot H3 q := hP3
    have B0 : But q H H3 := (b1.trans b2).trans b3
    refine ⟨_, rfl, z, rfl, rfl, hz1, by omega, _, rfl, _, rfl, by rw [hr11, sizeLine_eq]; omega, _, rfl, ⟨_, rfl⟩, z, rfl, rfl, by omega, _, rfl, len_show (Nat.le_of_ble_eq_true rfl), fun p1 n1 => ?_⟩
    have c1 := pot_ne P0 n1
    have m1 := but_none B0 c1 n1
    have s1 := same_new (o := .lst [.str z]) n1
    have P1 := P0.same s1
    have B1 := B0.same s1
    have e1 := upd_same (H := H3) (a := p1) (o := .lst [.str z])
    generalize upd H3 p1 (.lst [.str z]) = J1 at s1 e1 P1 B1 ⊢
    refine ⟨_, rfl, len_show (Nat.le_of_ble_eq_true rfl), fun p2 n2 => ?_⟩
    have c2 := pot_ne P1 n2
    have m2 := but_none B1 c2 n2
    have s2 := same_new (o := .tup [.str z]) n2
    have P2 := P1.same s2
    have B2 := B1.same s2
    have e2 := upd_same (H := J1) (a := p2) (o := .tup [.str z])
    generalize upd J1 p2 (.tup [.str z]) = J2 at s2 e2 P2 B2 ⊢
    refine ⟨len_show (Nat.le_of_ble_eq_true rfl), fun p3 n3 => ?_⟩
    have c3 := pot_ne P2 n3
    have m3 := but_none B2 c3 n3
    have s3 := same_new (o := .lst [.str (Str.ofString ""), .str (cutS (rep11 z) none (some 11)), .str (Txt.upper z), .non, .int 7, .ref p1, .ref p2, .bl true]) n3
    have P3 := P2.same s3
    have B3 := B2.same s3
    have e3 := upd_same (H := J2) (a := p3) (o := .lst [.str (Str.ofString ""), .str (cutS (rep11 z) none (some 11)), .str (Txt.upper z), .non, .int 7, .ref p1, .ref p2, .bl true])
    generalize upd J2 p3 (.lst [.str (Str.ofString ""), .str (cutS (rep11 z) none (some 11)), .str (Txt.upper z), .non, .int 7, .ref p1, .ref p2, .bl true]) = J3 at s3 e3 P3 B3 ⊢
    have zl := sizeLine_eq
    have l1 : (⟨#[c]⟩ : Str).length = 1 := rfl
    have ca := cutS_length z none (some att)
    have cb := cutS_length z (some att) none
    have cc := cutS_length z (some (att + 1)) none
    have oa := ok_cut none (some att) okz
    have ob := ok_cut (some att) none okz
    have oc := ok_cut (some (att + 1)) none okz
    have gA : Gs (cutS z none (some att) ++ ⟨#[c]⟩ ++ cutS z (some att) none) := by
      refine ⟨?_, ok_app (ok_app oa okc) ob⟩
      rw [PySem.Str.length_append, PySem.Str.length_append]
      omega
    have gB : Gs (cutS z none (some att) ++ ⟨#[c]⟩ ++ cutS z (some (att + 1)) none) := by
      refine ⟨?_, ok_app (ok_app oa okc) oc⟩
      rw [PySem.Str.length_append, PySem.Str.length_append]
      omega
    refine ⟨_, rfl, _, rfl, _, rfl, att, rfl, _, rfl, by omega, _, rfl, _, _, rfl, rfl, by omega, _, rfl, _, rfl, att, rfl, _, rfl, by omega, _, _, rfl, rfl, ?_, ?_⟩
    · rw [PySem.Str.length_append]
      omega
    refine ⟨_, rfl, _, rfl, att, rfl, _, rfl, by omega, _, rfl, _, _, rfl, rfl, by omega, _, rfl, _, rfl, _, _, rfl, rfl, _, rfl, _, rfl, by omega, _, _, rfl, rfl, ?_, by show 2 ≤ sizeLine; decide, fun p4 n4 => ?_⟩
    · rw [PySem.Str.length_append]
      omega
    have c4 := pot_ne P3 n4
    have m4 := but_none B3 c4 n4
    have s4 := same_new (o := .lst [.str (cutS z none (some att) ++ ⟨#[c]⟩ ++ cutS z (some att) none), .str (cutS z none (some att) ++ ⟨#[c]⟩ ++ cutS z (some (att + 1)) none)]) n4
    have P4 := P3.same s4
    have B4 := B3.same s4
    have e4 := upd_same (H := J3) (a := p4) (o := .lst [.str (cutS z none (some att) ++ ⟨#[c]⟩ ++ cutS z (some att) none), .str (cutS z none (some att) ++ ⟨#[c]⟩ ++ cutS z (some (att + 1)) none)])
    generalize upd J3 p4 (.lst [.str (cutS z none (some att) ++ ⟨#[c]⟩ ++ cutS z (some att) none), .str (cutS z none (some att) ++ ⟨#[c]⟩ ++ cutS z (some (att + 1)) none)]) = J4 at s4 e4 P4 B4 ⊢
    refine ⟨p3, p4, _, _, rfl, rfl, s4 _ _ e3, e4, len_show (Nat.le_of_ble_eq_true rfl), fun p5 n5 => ?_⟩
    have c5 := pot_ne P4 n5
    have m5 := but_none B4 c5 n5
    have s5 := same_new (o := .lst ([.str (Str.ofString ""), .str (cutS (rep11 z) none (some 11)), .str (Txt.upper z), .non, .int 7, .ref p1, .ref p2, .bl true] ++ [.str (cutS z none (some att) ++ ⟨#[c]⟩ ++ cutS z (some att) none), .str (cutS z none (some att) ++ ⟨#[c]⟩ ++ cutS z (some (att + 1)) none)])) n5
    have e5 := upd_same (H := J4) (a := p5) (o := .lst ([.str (Str.ofString ""), .str (cutS (rep11 z) none (some 11)), .str (Txt.upper z), .non, .int 7, .ref p1, .ref p2, .bl true] ++ [.str (cutS z none (some att) ++ ⟨#[c]⟩ ++ cutS z (some att) none), .str (cutS z none (some att) ++ ⟨#[c]⟩ ++ cutS z (some (att + 1)) none)]))
    generalize upd J4 p5 (.lst ([.str (Str.ofString ""), .str (cutS (rep11 z) none (some 11)), .str (Txt.upper z), .non, .int 7, .ref p1, .ref p2, .bl true] ++ [.str (cutS z none (some att) ++ ⟨#[c]⟩ ++ cutS z (some att) none), .str (cutS z none (some att) ++ ⟨#[c]⟩ ++ cutS z (some (att + 1)) none)])) = J5 at s5 e5 ⊢
    have G5 : Same J5 J5 := same_rfl
    have G4 : Same J4 J5 := s5
    have G3 : Same J3 J5 := s4.trans G4
    have G2 : Same J2 J5 := s3.trans G3
    have G1 : Same J1 J5 := s2.trans G2
    have hq : DqAll K (nw H J5) [.str (Str.ofString ""), .str (cutS (rep11 z) none (some 11)), .str (Txt.upper z), .non, .int 7, .ref p1, .ref p2, .bl true, .str (cutS z none (some att) ++ ⟨#[c]⟩ ++ cutS z (some att) none), .str (cutS z none (some att) ++ ⟨#[c]⟩ ++ cutS z (some (att + 1)) none)] [.str (Str.ofString ""), .str (cutS (rep11 z) none (some 11)), .str (Txt.upper z), .none, .int 7, .list [.str z], .tuple [.str z], .bool true, .str (cutS z none (some att) ++ ⟨#[c]⟩ ++ cutS z (some att) none), .str (cutS z none (some att) ++ ⟨#[c]⟩ ++ cutS z (some (att + 1)) none)] := (.cons (.dp (.str _) (by rfl)) (.cons (.dp (.str _) (by rfl)) (.cons (.dp (.str _) (by rfl)) (.cons (.dp .non (by rfl)) (.cons (.dp (.int _) (by rfl)) (.cons (.dp (.lst (.inl (.inl (nw_at m1 (G1 _ _ e1)))) (.cons (.str _) .nil)) (by rfl)) (.cons (.dp (.tup (.inl (.inl (nw_at m2 (G2 _ _ e2)))) (.cons (.str _) .nil)) (by rfl)) (.cons (.dp (.bl _) (by rfl)) (.cons (.dp (.str _) (by rfl)) (.cons (.dp (.str _) (by rfl)) .nil))))))))))
    have hgA : AllG [.str (Str.ofString ""), .str (cutS (rep11 z) none (some 11)), .str (Txt.upper z), .none, .int 7, .list [.str z], .tuple [.str z], .bool true, .str (cutS z none (some att) ++ ⟨#[c]⟩ ++ cutS z (some att) none), .str (cutS z none (some att) ++ ⟨#[c]⟩ ++ cutS z (some (att + 1)) none)] := ⟨gd_str ⟨by decide +kernel, by decide +kernel⟩, gd_str g11, gd_str (up_gs hal (by omega)), gd_of Ft.none, gd_of (Ft.i60 (S60.of (by decide))), gd_of (Ft.list (.cons sa .nil)), gd_of (Ft.tuple (.cons sa .nil)), gd_of (Ft.bool true), gd_str gA, gd_str gB, trivial⟩
    have g : Same H3 J5 := s1.trans G1
    obtain ⟨i, rfl⟩ : ∃ i : Nat, way = (i : Int) := ⟨way.toNat, by omega⟩
    have hi : i < 10 := by omega
    obtain ⟨v, hv⟩ : ∃ v, ([.str (Str.ofString ""), .str (cutS (rep11 z) none (some 11)), .str (Txt.upper z), .non, .int 7, .ref p1, .ref p2, .bl true, .str (cutS z none (some att) ++ ⟨#[c]⟩ ++ cutS z (some att) none), .str (cutS z none (some att) ++ ⟨#[c]⟩ ++ cutS z (some (att + 1)) none)] : List V)[i]? = some v := by
      have hl : i < ([.str (Str.ofString ""), .str (cutS (rep11 z) none (some 11)), .str (Txt.upper z), .non, .int 7, .ref p1, .ref p2, .bl true, .str (cutS z none (some att) ++ ⟨#[c]⟩ ++ cutS z (some att) none), .str (cutS z none (some att) ++ ⟨#[c]⟩ ++ cutS z (some (att + 1)) none)] : List V).length := hi
      exact ⟨_, List.getElem?_eq_getElem hl⟩
    obtain ⟨dd, hdd, hqd⟩ := hq.get hv
    refine ⟨_, rfl, p5, _, (i : Int), v, rfl, rfl, .inl (.inl e5), atI_nat hv, ?_⟩
    exact kk v dd _ hqd (hgA.get hdd) (hP3.same g) (((b1.trans b2).trans b3).same g)

end
end Lf

set_option Elab.async false
set_option linter.all false
set_option maxRecDepth 100000
set_option maxHeartbeats 4000000
set_option exponentiation.threshold 3000
namespace Lf
open PySem PySem.Spec PyProof.Rows L2
theorem bt_list : bootBuiltins "list" = some (.type "list") := by decide +kernel
section
variable {P : Program} {w : World} {K : PySem.W.Frag} {mg : Str → Option Value} {base : Heap}
theorem DqAll.set {H : Hp} : ∀ {vs : List V} {ds : List PyData} (i : Nat) {v : V} {d : PyData}, DqAll K H vs ds → Dq K H v d → DqAll K H (vs.set i v) (ds.set i d)
  | _, _, _, _, _, .nil, _ => .nil
  | _, _, 0, _, _, .cons _ r, h => .cons h r
  | _, _, i + 1, _, _, .cons a r, h => .cons a (DqAll.set i r h)
theorem sqt_but {H H' : Hp} {q t : Addr} {xs : List V} (b : But q H H') (hP : Pot H q) (h : SqT K H t xs) : SqT K H' t xs := by
  obtain ⟨x, y, _, _, e⟩ := hP
  rcases h with (h | ⟨ob, h⟩) | h
  · exact .inl (.inl (b _ _ (fun z => by rw [z, e] at h; cases h) h))
  · exact .inl (.inr ⟨ob, b _ _ (fun z => by rw [z, e] at h; cases h) h⟩)
  · exact .inr h
theorem StRow.but {H H' : Hp} {q p : Addr} {z : Str} {gs : List (Int × Int)} (b : But q H H') (hP : Pot H q) (h : StRow K H p z gs) : StRow K H' p z gs := by
  obtain ⟨as, e, l1, l2, hs⟩ := h.ex
  refine ⟨⟨as, ?_, l1, l2, fun i a g ha hg => sqt_but b hP (hs i a g ha hg)⟩, h.fr, h.ok⟩
  obtain ⟨x, y, _, _, eq⟩ := hP
  exact b _ _ (fun z => by rw [z, eq] at e; cases e) e
/-- the six, spoilt or not, in their list, beside the pot -/
structure Spo (K : PySem.W.Frag) (H : Hp) (q a : Addr) (xs : List V) (ds : List PyData) : Prop where
  l : H a = some (.lst xs)
  ne : a ≠ q
  all : DqAll K (wo a (wo q H)) xs ds
  g : AllG ds
  len : xs.length = 6
theorem Spo.but {H H' : Hp} {q a : Addr} {xs : List V} {ds : List PyData} (b : But q H H') (h : Spo K H q a xs ds) : Spo K H' q a xs ds :=
  ⟨b _ _ h.ne h.l, h.ne, DqAll.same (wo_wo (wo_but b)) h.all, h.g, h.len⟩
theorem Spo.same {H H' : Hp} {q a : Addr} {xs : List V} {ds : List PyData} (s : Same H H') (h : Spo K H q a xs ds) : Spo K H' q a xs ds :=
  h.but fun b o _ e => s b o e
theorem Spo.set {H : Hp} {q a : Addr} {xs : List V} {ds : List PyData} (i : Nat) {v : V} {d : PyData} (h : Spo K H q a xs ds) (hv : Dq K (wo a (wo q H)) v d) (g : Gd d) : Spo K (upd H a (.lst (xs.set i v))) q a (xs.set i v) (ds.set i d) := by
  have s : Same (wo a (wo q H)) (wo a (wo q (upd H a (.lst (xs.set i v))))) := fun b o e => by
    have n1 := wo_not e
    have e2 := wo_le _ _ e
    have n2 := wo_not e2
    exact wo_at n1 (wo_at n2 (by rw [upd_ne n1]; exact wo_le _ _ e2))
  exact ⟨upd_same, h.ne, DqAll.same s (DqAll.set i h.all hv), AllG.set i h.g g, by rw [List.length_set]; exact h.len⟩
theorem nw_sub {H H' : Hp} {q a : Addr} {xs : List V} (hP : Pot H q) (ha : H a = some (.lst xs)) : Same (nw H H') (wo a (wo q H')) := fun b o e => by
  obtain ⟨m, e'⟩ := nw_of e
  exact wo_at (fun z => by rw [z, ha] at m; cases m) (wo_at (pot_ne hP m) e')
theorem row_dq {X : Hp} : ∀ (as : List Addr) (gs : List (Int × Int)), as.length = gs.length → (∀ (i : Nat) (a : Addr) (g : Int × Int), as[i]? = some a → gs[i]? = some g → SqT K X a [.int g.1, .int g.2]) → DqAll K X (as.map V.ref) (gs.map tD)
  | [], [], _, _ => .nil
  | a :: as, g :: gs, hl, h => .cons (.dp (dp2 (h 0 a g rfl rfl)) (by rfl)) (row_dq as gs (by simpa using hl) fun i b c hb hc => h (i + 1) b c (by simpa using hb) (by simpa using hc))
  | [], _ :: _, hl, _ => by cases hl
  | _ :: _, [], hl, _ => by cases hl
theorem fr0_60 {g : Int × Int} (h : Fr0 g) : S60 g.1 ∧ S60 g.2 := ⟨Nat.lt_of_lt_of_le h.bt.1 (by decide), Nat.lt_of_lt_of_le h.bt.2 (by decide)⟩
theorem row_gd : ∀ (gs : List (Int × Int)), (∀ g ∈ gs, Fr0 g) → AllG (gs.map tD)
  | [], _ => trivial
  | g :: gs, h => ⟨gd_two (fr0_60 (h g List.mem_cons_self)).1 (fr0_60 (h g List.mem_cons_self)).2, row_gd gs fun x hx => h x (List.mem_cons_of_mem _ hx)⟩
theorem ixn {n k : Nat} (h : k < n) : ixN n (k : Int) = some k := by
  unfold ixN
  have h1 : ¬ (k : Int) < 0 := by omega
  simp [h1, h]

/-! ### _law_spoilt -/
abbrev s__law_spoilt : Stmt := topS 37
theorem sc__law_spoilt : FnScope ["_law_pot_here", "_law_row", "_law_args", "_law_turn", "_law_at", "_law_way"] ["_law_pot_here", "_law_row"] (defScope s__law_spoilt) := ⟨rfl, rfl, rfl, by decide +kernel, rfl, by decide +kernel, by decide +kernel⟩
def sp_spoilt (K : PySem.W.Frag) : Sp := fun vs H Q _ => ∃ (q p : Addr) (z : Str) (gs : List (Int × Int)), vs = [.ref q, .ref p] ∧ Pot H q ∧ StRow K H p z gs ∧ isNm (.str z) = true ∧ ∀ a xs ds H', Spo K H' q a xs ds → Pot H' q → StRow K H' p z gs → But q H H' → Q (.ref a) H'
theorem ok_spoilt {f : Addr} {fd : FuncData} (M : Blt mg) (ml : mg "list" = none) (F : Fun K "_law_spoilt" "_law_spoilt" s__law_spoilt f fd) (C__law_draw : Cal P w K mg base CX0 1 "_law_draw" ["_law_pot_here", "_law_many"] sp_draw) (C__law_low : Cal P w K mg base CX0 1 "_law_low" ["_law_top", "_law_bottom"] sp_low)
    (C__law_odd_name : Cal P w K mg base CX0 2 "_law_odd_name" ["_law_pot_here", "_law_name_here"] (sp_oddn K)) (C__law_odd_measure : Cal P w K mg base CX0 2 "_law_odd_measure" ["_law_pot_here", "_law_one"] (sp_oddm K)) : FnG P w K mg base CX0 3 f fd ["_law_pot_here", "_law_row"] (sp_spoilt K) := by
  refine Gfun F sc__law_spoilt (fun vs H Q E h => ?_) (fun cdv A outer s H vs Q E hg hr h => ?_)
  · obtain ⟨q, p, z, gs, rfl, _⟩ := h
    rfl
  · obtain ⟨q, p, z, gs, rfl, hP, hR, hN, k⟩ := h
    refine ⟨_, (pss_cons (ps_set (i := 2) sc__law_spoilt.nd rfl (.inl rfl) (pe_callTy call_list_of rfl ml bt_list (pa_cons (pv 1) pa_nil)))
      (pss_cons (ps_for PassesOwn.never rfl (pi_range1 rfl M.range (pa_cons (pe_g C__law_draw (hr.mono (by decide)) hg (pa_cons (pv 0) (pa_cons pe_int pa_nil))) pa_nil)) (pg_name (i := 3) sc__law_spoilt.nd rfl (.inl rfl))
      (pss_cons (ps_par (i := 4) (j := 5) rfl sc__law_spoilt.nd rfl rfl (by decide) rfl rfl (pa_cons (pe_g C__law_draw (hr.mono (by decide)) hg (pa_cons (pv 0) (pa_cons pe_int pa_nil))) (pa_cons (pe_g C__law_draw (hr.mono (by decide)) hg (pa_cons (pv 0) (pa_cons pe_int pa_nil))) pa_nil)) (by rfl))
      (pss_one (ps_if (pt_cmpR op_eq (pv 4) pe_int (nomark _))
      (pss_one (ps_asg (pe_g C__law_odd_name (hr.mono (by decide)) hg (pa_cons (pv 0) (pa_cons (pe_ix ix_tup (pv 1) pe_int (fun _ _ => rfl)) pa_nil))) (pg_sub (pv 2) pe_int set_list)))
      (pss_one (ps_if (pt_cmpR op_eq (pv 5) pe_int (nomark _))
      (pss_one (ps_asg pe_non (pg_sub (pv 2) (pv 4) set_list)))
      (pss_one (ps_if (PW.pt (pw_and (pt_cmpR op_eq (pv 5) pe_int (nomark _)) (pw_and1 (pt_cmpR op_lt (pv 4) pe_int (nomark _)))))
      (pss_one (ps_asg (pe_g C__law_low (hr.mono (by decide)) hg (pa_cons (pe_op op_add pe_int (pe_g C__law_draw (hr.mono (by decide)) hg (pa_cons (pv 0) (pa_cons pe_int pa_nil)))) (pa_cons (pe_op op_add pe_int (pe_g C__law_draw (hr.mono (by decide)) hg (pa_cons (pv 0) (pa_cons pe_int pa_nil)))) pa_nil))) (pg_sub (pv 2) (pv 4) set_list)))
      (pss_one (ps_asg (pe_g C__law_odd_measure (hr.mono (by decide)) hg (pa_cons (pv 0) (pa_cons (pe_ix ix_tup (pv 1) (pv 4) (fun _ _ => rfl)) pa_nil))) (pg_sub (pv 2) (pv 4) set_list)))))))))))
      (pss_one (ps_ret (pv 2))))), ?_⟩
    obtain ⟨as, eR, la, lg, hs⟩ := hR.ex
    refine ⟨_, rfl, p, _, rfl, .inr (.inl (.inl eR)), fun a na => ?_⟩
    have hne : a ≠ q := pot_ne hP na
    have hnm : 1 ≤ z.length ∧ z.length ≤ 10 ∧ AllL z := by
      have h : (decide (1 ≤ z.length) && decide (z.length ≤ 10) && z.cps.toList.all inL) = true := hN
      rw [Bool.and_eq_true, Bool.and_eq_true] at h
      exact ⟨of_decide_eq_true h.1.1, of_decide_eq_true h.1.2, fun c hc => List.all_eq_true.mp h.2 c hc⟩
    have okz : Ok1 z := fun x hx => inL_lt (hnm.2.2 x hx)
    have H1e : ∃ H1, upd H a (.lst (.str z :: as.map V.ref)) = H1 := ⟨_, rfl⟩
    obtain ⟨H1, e1⟩ := H1e
    have s1 : Same H H1 := by rw [← e1]; exact same_new na
    have S0 : Spo K H1 q a (.str z :: as.map V.ref) (.str z :: gs.map tD) := by
      refine ⟨by rw [← e1]; exact upd_same, hne, .cons (.dp (.str z) (by rfl)) (row_dq as gs (la.trans lg.symm) fun i b g hb hgg => ?_), ⟨gd_str ⟨by omega, okz⟩, row_gd gs hR.fr⟩, by rw [List.length_cons, List.length_map, la]⟩
      have h := hs i b g hb hgg
      obtain ⟨x, y, _, _, eq⟩ := hP
      rcases h with (h | ⟨ob, h⟩) | h
      · exact .inl (.inl (wo_at (ne_of_none h na) (wo_at (fun z => by rw [z, eq] at h; cases h) (s1 _ _ h))))
      · exact .inl (.inr ⟨ob, wo_at (ne_of_none h na) (wo_at (fun z => by rw [z, eq] at h; cases h) (s1 _ _ h))⟩)
      · exact .inr h
    have P1 : Pot H1 q := hP.same s1
    have b1 : But q H H1 := fun b o _ e => s1 b o e
    rw [e1]
    refine ⟨_, rfl, q, 4, rfl, by decide, by decide, P1, fun n H2 n0 n1 P2 b2 => ?_⟩
    refine ⟨n, rfl, by omega, by omega, for_range (lo := 0) (n := n.toNat) (fun i σ H' => ∃ (y3 y4 y5 : Option V) (xs : List V) (ds : List PyData), σ = [some (.ref q), some (.ref p), some (.ref a), y3, y4, y5] ∧ Spo K H' q a xs ds ∧ Pot H' q ∧ But q H H')
      ⟨_, _, _, _, _, rfl, S0.but b2, P2, b1.trans b2⟩ ?_ ?_⟩
    · rintro i σ H3 hi ⟨y3, y4, y5, xs, ds, rfl, S3, P3, b3⟩
      have keep : ∀ {H' : Hp} (v : V) (k : Nat), But q H H' → But q H (upd H' a (.lst (xs.set k v))) := fun v k b => fun c o nc e => by
        rw [upd_ne (ne_of_none e na)]
        exact b c o nc e
      have potk : ∀ {H' : Hp} (v : V) (k : Nat), Pot H' q → Pot (upd H' a (.lst (xs.set k v))) q := fun v k h => by
        obtain ⟨x, y, h1, h2, e⟩ := h
        exact ⟨x, y, h1, h2, by rw [upd_ne (Ne.symm hne)]; exact e⟩
      refine ⟨_, rfl, q, 6, rfl, by decide, by decide, P3, fun at_ H4 a0 a1 P4 b4 => ?_⟩
      refine ⟨_, rfl, q, 6, rfl, by decide, by decide, P4, fun way H5 w0 w1 P5 b5 => ⟨_, _, rfl, ?_⟩⟩
      obtain ⟨n6, rfl⟩ : ∃ n6 : Nat, at_ = (n6 : Int) := ⟨at_.toNat, by omega⟩
      have hn6 : n6 < 6 := by omega
      have S5 := (S3.but b4).but b5
      have B5 := (b3.trans b4).trans b5
      have R5 := hR.but B5 hP
      obtain ⟨as5, eR5, la5, lg5, hs5⟩ := R5.ex
      have hix : ixN xs.length ((n6 : Nat) : Int) = some n6 := ixn (by rw [S3.len]; exact hn6)
      refine ⟨_, rfl, rfl, _, rfl, ite2 (fun e => ?_) (fun e => ?_)⟩
      · refine ⟨_, rfl, _, rfl, p, _, _, _, rfl, rfl, .inl (.inl eR5), atI_nat (j := 0) rfl, q, z, rfl, P5, hnm.1, hnm.2.1, hnm.2.2, fun v d H6 hv hgd P6 b6 => ?_⟩
        have S6 := S5.but b6
        refine ⟨_, rfl, a, xs, 0, 0, rfl, rfl, S6.l, ixn (by rw [S3.len]; decide), ?_⟩
        exact ⟨_, _, _, _, _, rfl, S6.set 0 (hv.same (nw_sub P5 S5.l)) hgd, potk _ _ P6, keep _ _ (B5.trans b6)⟩
      have hn0 : n6 ≠ 0 := fun z => e (by rw [z]; decide)
      refine ⟨_, rfl, rfl, _, rfl, ite2 (fun e2 => ?_) (fun e2 => ?_)⟩
      · refine ⟨_, rfl, _, rfl, a, xs, _, n6, rfl, rfl, S5.l, hix, ?_⟩
        exact ⟨_, _, _, _, _, rfl, S5.set n6 (.dp .non (by rfl)) (gd_of Ft.none), potk _ _ P5, keep _ _ B5⟩
      obtain ⟨a5, ha5⟩ : ∃ a5, as5[n6 - 1]? = some a5 := ⟨_, List.getElem?_eq_getElem (by omega)⟩
      obtain ⟨g5, hg5⟩ : ∃ g5, gs[n6 - 1]? = some g5 := ⟨_, List.getElem?_eq_getElem (by omega)⟩
      have hat : (V.str z :: as5.map V.ref)[n6]? = some (.ref a5) := by
        obtain ⟨m, rfl⟩ : ∃ m, n6 = m + 1 := ⟨n6 - 1, by omega⟩
        rw [List.getElem?_cons_succ, List.getElem?_map]
        rw [Nat.add_sub_cancel] at ha5
        rw [ha5]
        rfl
      refine ⟨_, rfl, rfl, _, rfl, ite2 (fun e3 => ?_) (fun e3 => ?_)⟩
      · refine ⟨_, rfl, _, _, rfl, rfl, _, rfl, ite2 (fun e4 => ?_) (fun e4 => ?_)⟩
        · refine ⟨_, rfl, q, 40, rfl, by decide, by decide, P5, fun r1 H6 r10 r11 P6 b6 => ⟨_, _, rfl, rfl, _, rfl, q, 20, rfl, by decide, by decide, P6, fun r2 H7 r20 r21 P7 b7 => ⟨_, _, rfl, rfl, _, _, rfl, by omega, ?_, fun H8 p8 s8 e8 => ?_⟩⟩⟩
          · exact Sm.mid (small30 (by omega) (by omega))
          have S8 := ((S5.but b6).but b7).same s8
          have P8 := P7.same s8
          have B8 := ((B5.trans b6).trans b7).same s8
          have F8 : Fr0 (low (1 + r1) (1 + r2)) := fr0_low (by omega) (by omega) (by omega) (by omega)
          have dq8 : Dq K (wo a (wo q H8)) (.ref p8) (tD (low (1 + r1) (1 + r2))) := by
            refine .dp (dp2' (wo_at ?_ (wo_at ?_ e8))) (by rfl)
            · intro z
              rw [z, S8.l] at e8
              cases e8
            · intro z
              obtain ⟨x, y, _, _, eq⟩ := P8
              rw [z, eq] at e8
              cases e8
          refine ⟨_, rfl, _, rfl, a, xs, _, n6, rfl, rfl, S8.l, hix, ?_⟩
          exact ⟨_, _, _, _, _, rfl, S8.set n6 dq8 (gd_two (fr0_60 F8).1 (fr0_60 F8).2), potk _ _ P8, keep _ _ B8⟩
        · refine ⟨_, rfl, _, rfl, _, rfl, p, _, _, (.ref a5), rfl, rfl, .inl (.inl eR5), atI_nat (j := n6) hat, q, a5, g5, rfl, P5, hs5 (n6 - 1) a5 g5 ha5 hg5, hR.fr g5 (List.mem_of_getElem? hg5), fun v d H6 hv hgd P6 b6 => ?_⟩
          have S6 := S5.but b6
          refine ⟨_, rfl, _, rfl, a, xs, _, n6, rfl, rfl, S6.l, hix, ?_⟩
          exact ⟨_, _, _, _, _, rfl, S6.set n6 (hv.same (nw_sub P5 S5.l)) hgd, potk _ _ P6, keep _ _ (B5.trans b6)⟩
      · refine ⟨_, rfl, _, rfl, _, rfl, p, _, _, (.ref a5), rfl, rfl, .inl (.inl eR5), atI_nat (j := n6) hat, q, a5, g5, rfl, P5, hs5 (n6 - 1) a5 g5 ha5 hg5, hR.fr g5 (List.mem_of_getElem? hg5), fun v d H6 hv hgd P6 b6 => ?_⟩
        have S6 := S5.but b6
        refine ⟨_, rfl, _, rfl, a, xs, _, n6, rfl, rfl, S6.l, hix, ?_⟩
        exact ⟨_, _, _, _, _, rfl, S6.set n6 (hv.same (nw_sub P5 S5.l)) hgd, potk _ _ P6, keep _ _ (B5.trans b6)⟩
    · rintro σ H3 ⟨y3, y4, y5, xs, ds, rfl, S3, P3, b3⟩
      exact ⟨_, rfl, k a xs ds H3 S3 P3 (hR.but b3 hP) b3⟩

end
end Lf

set_option Elab.async false
set_option linter.all false
set_option maxRecDepth 100000
set_option maxHeartbeats 4000000
set_option exponentiation.threshold 3000
namespace Lf
open PySem PySem.Spec PyProof.Rows L2
section
variable {P : Program} {w : World} {K : PySem.W.Frag} {mg : Str → Option Value} {base : Heap}
theorem fr0_isM {g : Int × Int} (h : Fr0 g) : isM (tD g) = true := by
  unfold isM
  rw [Bool.and_eq_true]
  refine ⟨?_, decide_eq_true h.nn⟩
  show (decide (0 < g.2) && decide (Nat.gcd g.1.natAbs g.2.natAbs = 1)) = true
  rw [decide_eq_true h.lo.1, decide_eq_true h.lo.2]
  rfl
/-- what is no fraction's place is as it was -/
theorem six_of {H : Hp} {q a : Addr} {xs : List V} {dn : PyData} {ds : List PyData} (S : Spo K H q a xs (dn :: ds)) : SixL K H a xs dn ds := by
  have hg : ∀ d ∈ ds, Gd d := fun d hd => AllG.mem S.g.2 hd
  refine { at_ := .inl (.inl S.l), all := DqAll.same (fun b o e => wo_le _ _ (wo_le _ _ e)) S.all, len := S.len, nm := fun z e => (S.g.1.tx z e).1, bt := fun i hi hm => ?_, cps := fun z e => (S.g.1.tx z e).2, mid := fun d hd x y e => ?_ }
  · have h0 : ∀ d : PyData, (∀ x y, d = .tuple [.int x, .int y] → S60 x ∧ S60 y) → isM (orNone d) = true → Bt 290 (top2 (orNone d)) := by
      intro d hd hm
      have hm' := hm
      unfold isM at hm'
      rw [Bool.and_eq_true] at hm'
      obtain ⟨x, y, e, _⟩ := isFr_inv hm'.1
      rw [e]
      show Bt 290 (x, y)
      by_cases hn : d = .none
      · subst hn
        cases e
        exact ⟨by decide, by decide⟩
      · have ed : d = .tuple [.int x, .int y] := by
          cases d with
          | none => exact absurd rfl hn
          | _ => exact e
        obtain ⟨h1, h2⟩ := hd x y ed
        exact Bt.mono (j := 60) ⟨h1, h2⟩ (by decide)
    refine h0 _ (fun x y e => ?_) hm
    by_cases hl : i < ds.length
    · rw [List.getD_eq_getElem?_getD, List.getElem?_eq_getElem hl] at e
      exact (hg _ (List.getElem_mem hl)).md x y e
    · rw [List.getD_eq_getElem?_getD, List.getElem?_eq_none (by omega)] at e
      cases e
  · obtain ⟨_, h2⟩ := (hg d hd).md x y e
    exact Sm.mid h2.sm

/-! ### _law_right -/
abbrev s__law_right : Stmt := topS 43
theorem sc__law_right : FnScope ["_law_pot_here", "_law_row", "_law_args", "_law_field_here", "_law_due_here", "_law_kept", "_law_turn"] ["_law_pot_here"] (defScope s__law_right) := ⟨rfl, rfl, rfl, by decide +kernel, rfl, by decide +kernel, by decide +kernel⟩
/-- what is due, as data -/
def dueD : Option Str → PyData
  | none => .none
  | some wd => .list [.bool true, .str wd]
theorem due_self (x : Option Str) : PyData.eqv (dueD x) (dueD x) = true := by
  cases x with
  | none => simp only [dueD, PyData.eqv]
  | some wd => simp [dueD, PyData.eqv, PyData.eqvAll]
theorem fw_ok {dn : PyData} {ds : List PyData} {wd : Str} (h : fwR dn ds = some wd) : ∀ c ∈ wd.cps.toList, c < 0x110000 := by
  have all : ∀ z ∈ (("name" : Str) :: words), ∀ c ∈ z.cps.toList, c < 0x110000 := by decide +kernel
  have key : ∀ n i, fwM ds n i = some wd → wd ∈ words := by
    intro n
    induction n with
    | zero => intro i e; cases e
    | succ n ih =>
      intro i e
      unfold fwM at e
      by_cases h1 : isM (ds.getD i .none) = false
      · rw [if_pos h1] at e
        exact List.mem_of_getElem? e
      · rw [if_neg h1] at e
        by_cases h2 : i = 2 ∧ tooM (top2 (ds.getD 0 .none)) (top2 (ds.getD 1 .none)) (top2 (ds.getD 2 .none)) = true
        · rw [if_pos h2] at e
          exact List.mem_of_getElem? e
        · rw [if_neg h2] at e
          exact ih _ e
  unfold fwR at h
  by_cases h1 : isNm dn = false
  · rw [if_pos h1] at h
    cases h
    exact all _ (List.mem_cons_self ..)
  · rw [if_neg h1] at h
    exact all _ (List.mem_cons_of_mem _ (key _ _ h))
theorem sh_str {z : Str} (h : ∀ c ∈ z.cps.toList, c < 0x110000) : PyData.strOk z = true := by
  simp only [PyData.strOk]
  simp
  intro c hc
  exact h _ (by simp)
theorem field_all {H : Hp} {Q : VK} {dn : PyData} {ds : List PyData} (h : ∀ v H', Same H H' → Dp K H' v (dueD (fwR dn ds)) → Q v H') :
    FldR (fwR dn ds) H Q := by
  cases hf : fwR dn ds with
  | none =>
    rw [hf] at h
    exact fun H' s => h _ H' s .non
  | some wd =>
    rw [hf] at h
    exact fun H' l s e => h _ H' s (.lst (.inl (.inl e)) (.cons (.bl true) (.cons (.str wd) .nil)))
theorem due_shaped {dn : PyData} {ds : List PyData} : SeqAt.shaped (dueD (fwR dn ds)) = true := by
  cases h : fwR dn ds with
  | none => decide
  | some wd =>
    have hc := fw_ok h
    unfold SeqAt.shaped
    rw [Bool.and_eq_true]
    refine ⟨?_, decide_eq_true ?_⟩
    · simp only [dueD, PyData.canLay0, PyData.canLayAll0, Bool.and_true, Bool.true_and]
      exact sh_str hc
    · simp only [dueD, PyData.depth, PyData.depthAll]
      omega
/-- a right row is refused nowhere -/
theorem row_right {H : Hp} {p : Addr} {z : Str} {gs : List (Int × Int)} (h : StRow K H p z gs) (hN : isNm (.str z) = true) : fwR (.str z) ((gs.map tD).map orNone) = none := by
  obtain ⟨as, _, _, lg, _⟩ := h.ex
  match gs, lg, h.fr, h.ok with
  | [g0, g1, g2, g3, g4], _, hf, hk =>
    have m : ∀ g ∈ [g0, g1, g2, g3, g4], isM (orNone (tD g)) = true := fun g hg => fr0_isM (hf g hg)
    have m0 := m g0 (by simp)
    have m1 := m g1 (by simp)
    have m2 := m g2 (by simp)
    have m3 := m g3 (by simp)
    have m4 := m g4 (by simp)
    have hk' : tooM (top2 (orNone (tD g0))) (top2 (orNone (tD g1))) (top2 (orNone (tD g2))) = false := hk
    unfold fwR
    rw [if_neg (by rw [hN]; decide)]
    simp [fwM, m0, m1, m2, m3, m4, hk']
def sp_right : Sp := fun vs H Q _ => ∃ (q : Addr), vs = [.ref q] ∧ Pot H q ∧ ∀ H', But q H H' → Q (.bl true) H'
theorem ok_right {f : Addr} {fd : FuncData} (M : Blt mg) (ml : mg "list" = none) (F : Fun K "_law_right" "_law_right" s__law_right f fd) (C__law_name : Cal P w K mg base CX0 2 "_law_name" ["_law_pot_here", "_law_taken"] (sp_name K)) (C__law_stuff : Cal P w K mg base CX0 3 "_law_stuff" ["_law_pot_here", "_law_name_here"] (sp_stuff K)) (C__law_spoilt : Cal P w K mg base CX0 3 "_law_spoilt" ["_law_pot_here", "_law_row"] (sp_spoilt K))
    (C__law_due : Cal P w K mg base CX0 3 "_law_due" ["_law_args"] (sp_due K)) (C__law_field : Cal P w K mg base CX0 11 "_law_field" ["_law_args"] (sp_field K)) : FnG P w K mg base CX0 12 f fd ["_law_pot_here"] sp_right := by
  refine Gfun F sc__law_right (fun vs H Q E h => ?_) (fun cdv A outer s H vs Q E hg hr h => ?_)
  · obtain ⟨q, rfl, _⟩ := h
    rfl
  · obtain ⟨q, rfl, hP, k⟩ := h
    refine ⟨_, (pss_cons (ps_set (i := 1) sc__law_right.nd rfl (.inl rfl) (pe_g C__law_stuff (hr.mono (by decide)) hg (pa_cons (pv 0) (pa_cons (pe_g C__law_name (hr.mono (by decide)) hg (pa_cons (pv 0) (pa_cons (pe_lst pa_nil) pa_nil))) pa_nil))))
      (pss_cons (ps_set (i := 2) sc__law_right.nd rfl (.inl rfl) (pe_g C__law_spoilt (hr.mono (by decide)) hg (pa_cons (pv 0) (pa_cons (pv 1) pa_nil))))
      (pss_cons (ps_set (i := 3) sc__law_right.nd rfl (.inl rfl) (pe_g C__law_due (hr.mono (by decide)) hg (pa_cons (pv 2) pa_nil)))
      (pss_mid (ps_set (i := 4) sc__law_right.nd rfl (.inl rfl) (pe_ifExp (pt_cmp (pc_isN (pv 3))) pe_non (pe_lst (pa_cons pe_bl (pa_cons (pv 3) pa_nil)))))
      (pss_cons (ps_set (i := 5) sc__law_right.nd rfl (.inl rfl) (pe_callB (call_showQ hg hr) rfl M.repr bt_repr (pa_cons (pv 2) pa_nil)))
      (pss_cons (ps_for PassesOwn.never rfl (pi_range1 rfl M.range (pa_cons pe_int pa_nil)) (pg_name (i := 6) sc__law_right.nd rfl (.inl rfl))
      (pss_one (ps_if (PW.pt (pw_or (pt_cmpR (op_neD hr.units) (pe_g C__law_field (hr.mono (by decide)) hg (pa_cons (pv 2) pa_nil)) (pv 4) (nomark _)) (pw_or (pt_cmpR op_ne (pe_callB (call_showQ hg hr) rfl M.repr bt_repr (pa_cons (pv 2) pa_nil)) (pv 5) (nomark _)) (pw_or1 (pt_cmp (pc_notN (pe_g C__law_field (hr.mono (by decide)) hg (pa_cons (pe_callTy call_list_of rfl ml bt_list (pa_cons (pv 1) pa_nil)) pa_nil))))))))
      (pss_one (ps_ret pe_bl))
      pss_nil)))
      (pss_one (ps_ret pe_bl)))))))), ?_⟩
    refine ⟨_, rfl, _, rfl, len_show (Nat.le_of_ble_eq_true rfl), fun t nt => ?_⟩
    have s0 : Same H (upd H t (.lst [])) := same_new nt
    have ht : SqL K (upd H t (.lst [])) t [] := .inl (.inl upd_same)
    have tne : t ≠ q := pot_ne hP nt
    generalize upd H t (.lst []) = H0 at s0 ht ⊢
    have P0 := hP.same s0
    refine ⟨q, t, rfl, tne, P0, ht, fun z H1 hN hz P1 b1 => ?_⟩
    refine ⟨q, z, rfl, P1, fun p gs H2 R2 P2 b2 => ?_⟩
    refine ⟨_, rfl, _, rfl, q, p, z, gs, rfl, P2, R2, hN, fun a xs dss H3 S3 P3 R3 b3 => ?_⟩
    have b03 : But q H H3 := ((But.same But.rfl s0).trans b1).trans (b2.trans b3)
    obtain ⟨v, vs, rfl⟩ : ∃ v vs, xs = v :: vs := by
      match xs, S3.len with
      | v :: vs, _ => exact ⟨v, vs, rfl⟩
    obtain ⟨dn, ds, rfl⟩ : ∃ dn ds, dss = dn :: ds := by
      have h := S3.all
      cases h with
      | cons _ _ => exact ⟨_, _, rfl⟩
    have L3 := six_of S3
    have show3 := showA_six S3.g (by have := L3.all.length; rw [L3.len] at this; omega)
    refine ⟨_, rfl, a, _, dn, ds, rfl, L3, fun H4 s4 => ?_⟩
    have six : ∀ H', Same H4 H' → Six K H' a (v :: vs) dn ds := fun H' s =>
      ⟨sm_l (s4.trans s) L3.at_, DqAll.same (s4.trans s) L3.all, L3.len, L3.nm, L3.bt⟩
    have R4 : ∀ H', Same H4 H' → StRow K H' p z gs := fun H' s => R3.but (But.same But.rfl (s4.trans s)) P3
    refine ⟨fun σ' H' => ∃ vd, σ' = [some (.ref q), some (.ref p), some (.ref a), some (optV (fwR dn (ds.map orNone))), some vd, none, none] ∧ Same H4 H' ∧ Dp K H' vd (dueD (fwR dn (ds.map orNone))), ?_, ?_⟩
    · cases hfw : fwR dn (ds.map orNone) with
      | none =>
        refine ⟨_, rfl, _, rfl, ite2 (fun _ => ?_) (fun e => absurd (by decide) e)⟩
        exact ⟨_, rfl, same_rfl, .non⟩
      | some wd =>
        refine ⟨_, rfl, _, rfl, ite2 (fun e => absurd (of_decide_eq_true e) (fun z => by cases z)) (fun _ => ?_)⟩
        refine ⟨_, rfl, len_show (Nat.le_of_ble_eq_true rfl), fun l nl => ?_⟩
        exact ⟨_, rfl, same_new nl, .lst (.inl (.inl upd_same)) (.cons (.bl true) (.cons (.str wd) .nil))⟩
    rintro σ' H5 ⟨vd, rfl, s5, hd5⟩
    refine ⟨_, rfl, a, v, vs, dn :: ds, rfl, (six H5 s5).at_, (six H5 s5).all, show3.sh, show3.dp, show3.ln, ?_⟩
    refine ⟨2, rfl, by decide, by decide, for_range (lo := 0) (n := 2) (fun i σ H' => ∃ y6 : Option V, σ = [some (.ref q), some (.ref p), some (.ref a), some (optV (fwR dn (ds.map orNone))), some vd, some (.str (PyData.shown (.list (dn :: ds)))), y6] ∧ Same H5 H') ⟨_, rfl, same_rfl⟩ ?_ ?_⟩
    · rintro i σ H6 hi ⟨y6, rfl, s6⟩
      have s46 := s5.trans s6
      refine ⟨_, rfl, a, _, dn, ds, rfl, six H6 s46, field_all (K := K) fun v2 H7 s7 hd7 => ?_⟩
      have s57 := s6.trans s7
      have s47 := s5.trans s57
      refine ⟨_, rfl, dueD _, dueD _, hd7, Dp.same s57 _ _ hd5, due_shaped, due_shaped, _, rfl, ?_⟩
      rw [due_self]
      refine iteF ?_
      refine ⟨_, rfl, a, v, vs, dn :: ds, rfl, (six H7 s47).at_, (six H7 s47).all, show3.sh, show3.dp, show3.ln, _, rfl, rfl, _, rfl, iteNS rfl ?_⟩
      have R7 := R4 H7 s47
      obtain ⟨as7, eR7, la7, lg7, hs7⟩ := R7.ex
      refine ⟨_, rfl, p, _, rfl, .inr (.inl (.inl eR7)), fun l nl => ?_⟩
      have s8 : Same H7 (upd H7 l (.lst (V.str z :: as7.map V.ref))) := same_new nl
      have e8 : upd H7 l (.lst (V.str z :: as7.map V.ref)) l = some (.lst (V.str z :: as7.map V.ref)) := upd_same
      generalize upd H7 l (.lst (V.str z :: as7.map V.ref)) = H8 at s8 e8 ⊢
      have dq8 : DqAll K H8 (V.str z :: as7.map V.ref) (.str z :: gs.map tD) := DqAll.same s8 (.cons (.dp (.str z) (by rfl)) (row_dq as7 gs (la7.trans lg7.symm) hs7))
      have six8 : Six K H8 l (V.str z :: as7.map V.ref) (.str z) (gs.map tD) := by
        refine ⟨.inl (.inl e8), dq8, by rw [List.length_cons, List.length_map, la7], fun y e => by cases e; omega, fun j hj _ => ?_⟩
        have hlt : j < gs.length := by omega
        have hj2 : (gs.map tD).getD j .none = tD gs[j] := by
          rw [List.getD_eq_getElem?_getD, List.getElem?_map, List.getElem?_eq_getElem hlt]
          rfl
        rw [hj2]
        show Bt 290 gs[j]
        exact (R7.fr _ (List.getElem_mem hlt)).bt.mono (by decide)
      refine ⟨l, _, .str z, gs.map tD, rfl, six8, ?_⟩
      rw [row_right R7 hN]
      exact fun H9 s9 => ⟨_, rfl, ite2 (fun e => absurd e (by decide)) (fun _ => ⟨_, rfl, s6.trans (s7.trans (s8.trans s9))⟩)⟩
    · rintro σ H6 ⟨y6, rfl, s6⟩
      exact k H6 (b03.same (s4.trans (s5.trans s6)))

end
end Lf

set_option Elab.async false
set_option linter.all false
set_option maxRecDepth 100000
set_option maxHeartbeats 4000000
set_option exponentiation.threshold 3000
namespace Lf
open PySem PySem.Spec PyProof.Rows L2
section
variable {P : Program} {w : World} {K : PySem.W.Frag} {mg : Str → Option Value} {base : Heap}

/-! ### law -/
abbrev s_law : Stmt := topS 44
theorem sc_law : FnScope ["_law_script", "_law_k"] ["_law_script"] (defScope s_law) := ⟨rfl, rfl, rfl, by decide +kernel, rfl, by decide +kernel, by decide +kernel⟩
def sp_law (K : PySem.W.Frag) : Sp := fun vs H Q _ => ∃ (a : Addr) (ns : List Int), vs = [.ref a] ∧ SqL K H a (ns.map V.int) ∧ ns.length ≤ 63 ∧ ∀ H', Q (.bl true) H'
theorem all_true : ∀ n : Nat, (List.replicate n true).all id = true
  | 0 => rfl
  | n + 1 => by rw [List.replicate_succ, List.all_cons, all_true n]; rfl
theorem ok_law {f : Addr} {fd : FuncData} (M : Blt mg) (F : Fun K "law" "law" s_law f fd) (C__law_cell : Cal P w K mg base CX0 1 "_law_cell" ["_law_script", "_law_k"] (sp_cell K)) (C__law_pot : Cal P w K mg base CX0 1 "_law_pot" ["_law_cell_here"] sp_pot)
    (C__law_right : Cal P w K mg base CX0 12 "_law_right" ["_law_pot_here"] sp_right) : FnG P w K mg base CX0 13 f fd ["_law_script"] (sp_law K) := by
  refine Gfun F sc_law (fun vs H Q E h => ?_) (fun cdv A outer s H vs Q E hg hr h => ?_)
  · obtain ⟨a, ns, rfl, _⟩ := h
    rfl
  · obtain ⟨a, ns, rfl, hS, hl, k⟩ := h
    refine ⟨_, (pss_one (ps_ret (pe_callB (cr_all rfl) rfl M.all bt_all (pa_cons (pe_lc (own := [("_law_k", 1)]) (g := gName 1) (tt := tYes) rfl sc_law.nd (pi_range1 rfl M.range (pa_cons (pe_callB (call_max2 rfl) rfl M.max bt_max (pa_cons pe_int (pa_cons (pe_callB (call_min2 rfl) rfl M.min bt_min (pa_cons (pe_callB call_len_seq rfl M.len bt_len (pa_cons (pv 0) pa_nil)) (pa_cons pe_int pa_nil))) pa_nil))) pa_nil)) (blkOk_by (N := ["_law_script", "_law_k"]) (sc := defScope s_law) (by decide +kernel)) (fun _ _ _ _ _ => pg_name (i := 1) sc_law.nd rfl (Or.inl rfl)) (fun _ _ _ _ _ => pts_nil) (fun _ _ _ _ _ => (pe_g C__law_right (hr.mono (by decide)) hg (pa_cons (pe_g C__law_pot (hr.mono (by decide)) hg (pa_cons (pe_g C__law_cell (hr.mono (by decide)) hg (pa_cons (pv 0) (pa_cons (pv 1) pa_nil))) pa_nil)) pa_nil)))) pa_nil)))), ?_⟩
    refine ⟨_, rfl, a, _, rfl, .inl hS, _, _, rfl, _, _, rfl, _, rfl, ?_, ?_, fun D hD => ?_⟩
    · split <;> split <;> omega
    · split <;> split <;> omega
    generalize hN : Int.toNat _ = N
    have hN2 : N ≤ 20 := by
      rw [← hN]
      split <;> split <;> omega
    refine lc_range (lo := 0) (n := N) (fun i H' => H' D = some (.lst (List.replicate i (.bl true))) ∧ Same H H') ⟨upd_same, same_new hD⟩ ?_ ?_
    · rintro i H1 hi ⟨hD1, sm1⟩
      refine ⟨rfl, _, rfl, _, rfl, a, ns, i, (by show [V.ref a, V.int (0 + (i : Int))] = _; rw [Int.zero_add]), sm1.seq hS, by omega, fun c => ?_⟩
      refine ⟨c, rfl, fun x y p y0 y1 np => ?_⟩
      refine ⟨p, rfl, ⟨x, y, y0, y1, upd_same⟩, fun H2 bt => ?_⟩
      have sm : Same H1 H2 := fun b o e => bt b o (ne_of_none e np) (by rw [upd_ne (ne_of_none e np)]; exact e)
      refine ⟨List.replicate i (.bl true), sm _ _ hD1, ?_, ?_, fun b o e => ?_⟩
      · rw [List.length_replicate, sizeLine_eq]
        omega
      · rw [upd_same, List.replicate_succ']
      · rw [upd_ne (ne_of_none e hD)]
        exact sm _ _ (sm1 _ _ e)
    · rintro H1 ⟨hD1, _⟩
      refine ⟨D, List.replicate N true, rfl, .inl (.inl ?_), ?_⟩
      · rw [hD1, List.map_replicate]
      · rw [all_true]
        exact k _

end
end Lf

set_option Elab.async false
set_option linter.all false
set_option maxRecDepth 100000
set_option maxHeartbeats 8000000
namespace Lf
open PySem PySem.Spec PyProof.Rows L2
/-- a def as the top left it, and how its arguments come to it -/
structure Df (K : PySem.W.Frag) (mg : Str → Option Value) (x : Str) (st : Stmt) (ps : List Str) (f : Addr) (fd : FuncData) : Prop where
  fn : Fun K x x st f fd
  g : mg x = some (.ref f)
  b1 : ∀ (s : Shared) (us : List Value), us.length = ps.length → BindsTo s fd ⟨us, []⟩ (ps.zip us)
  b2 : ∀ (s : Shared) (us : List Value), us.length = ps.length → BindsTo s fd ⟨[], ps.zip us⟩ (ps.zip us)
  b3 : ∀ (s : Shared) (us : List Value), us.length = ps.length → BindsTo s fd ⟨[], ps.reverse.zip us⟩ (ps.zip us.reverse)
theorem Df.cal {P : Program} {w : World} {K : PySem.W.Frag} {mg : Str → Option Value} {base : Heap} {CX : CXT} {k : Nat} {x : Str} {st : Stmt} {ps : List Str} {f : Addr} {fd : FuncData} {sp : Sp} (D : Df K mg x st ps f fd) (F : FnG P w K mg base CX k f fd ps sp) : Cal P w K mg base CX k x ps sp :=
  ⟨f, fd, F, D.b1, D.b2, D.b3, D.g, D.fn.kp⟩
/-- nothing keeps the promise of nothing -/
theorem FnG.no {P : Program} {w : World} {K : PySem.W.Frag} {mg : Str → Option Value} {base : Heap} {CX : CXT} {k : Nat} {f : Addr} {fd : FuncData} {ps : List Str} : FnG P w K mg base CX k f fd ps (fun _ _ _ _ => False) :=
  ⟨fun _ _ _ _ h => h.elim, fun _ _ _ _ _ _ _ _ _ _ _ _ _ _ h => h.elim⟩
/-- an error of the class at S is what a clause of S names -/
theorem exm_self {K : PySem.W.Frag} {S : Addr} (h1 : PySem.W.subIn K (.ref S) (.type "BaseException") = some true) (h2 : PySem.W.isClsIn K S = true) (h3 : PySem.W.typeIn K (.ref S) = some (.type "type")) (h4 : PySem.W.subIn K (.ref S) (.ref S) = some true) :
    PySem.W.exmOne K (.ref S) (.ref S) = some true := by
  have e1 : (PySem.W.subIn K (.ref S) (.type "BaseException") == some true) = true := by rw [h1] <;> rfl
  have e2 : ((PySem.W.clsIn K S).isSome && PySem.W.typeIn K (.ref S) == some (.type "type")) = true := by
    have h2' : (PySem.W.clsIn K S).isSome = true := h2
    rw [h2', h3] <;> rfl
  show (if (PySem.W.subIn K (.ref S) (.type "BaseException") == some true) = true then (if ((PySem.W.clsIn K S).isSome && PySem.W.typeIn K (.ref S) == some (.type "type")) = true then PySem.W.subIn K (.ref S) (.ref S) else none) else none) = some true
  rw [if_pos e1, if_pos e2]
  exact h4

theorem df_is_whole {K : PySem.W.Frag} {h : Heap} {mg : Str → Option Value} {f : Addr} {od an : Option Addr} {sl : Array (Option Value)} {oc kV dc pm cd ct : Value} (X : K.In h) (G : h.Ns mainGlobals mg) (a : PySem.W.nsIn K mainGlobals "is_whole" = some (some (.ref f)))
    (l : K.lookup f = some ⟨oc, od, .func (PySem.W.fnOf "is_whole" "is_whole" (defArgs s_is_whole) (defBody s_is_whole) (defScope s_is_whole) .none kV dc pm an cd ct), sl⟩) (c : PySem.W.codeIn K cd "is_whole" = true) (k : PySem.W.keepIn K (.ref f) = true) :
    Df K mg "is_whole" s_is_whole ["thing"] f (PySem.W.fnOf "is_whole" "is_whole" (defArgs s_is_whole) (defBody s_is_whole) (defScope s_is_whole) .none kV dc pm an cd ct) :=
  ⟨fun_mk l c k, PySem.W.mg_of X G a, fun s us hl => .of_eq (match us, hl with | [_], _ => rfl), fun s us hl => .of_eq (match us, hl with | [_], _ => rfl), fun s us hl => .of_eq (match us, hl with | [_], _ => rfl)⟩

theorem df_common {K : PySem.W.Frag} {h : Heap} {mg : Str → Option Value} {f : Addr} {od an : Option Addr} {sl : Array (Option Value)} {oc kV dc pm cd ct : Value} (X : K.In h) (G : h.Ns mainGlobals mg) (a : PySem.W.nsIn K mainGlobals "common" = some (some (.ref f)))
    (l : K.lookup f = some ⟨oc, od, .func (PySem.W.fnOf "common" "common" (defArgs sCom) (defBody sCom) (defScope sCom) .none kV dc pm an cd ct), sl⟩) (c : PySem.W.codeIn K cd "common" = true) (k : PySem.W.keepIn K (.ref f) = true) :
    Df K mg "common" sCom ["one", "other"] f (PySem.W.fnOf "common" "common" (defArgs sCom) (defBody sCom) (defScope sCom) .none kV dc pm an cd ct) :=
  ⟨fun_mk l c k, PySem.W.mg_of X G a, fun s us hl => .of_eq (match us, hl with | [_, _], _ => rfl), fun s us hl => .of_eq (match us, hl with | [_, _], _ => rfl), fun s us hl => .of_eq (match us, hl with | [_, _], _ => rfl)⟩

theorem df_fraction {K : PySem.W.Frag} {h : Heap} {mg : Str → Option Value} {f : Addr} {od an : Option Addr} {sl : Array (Option Value)} {oc kV dc pm cd ct : Value} (X : K.In h) (G : h.Ns mainGlobals mg) (a : PySem.W.nsIn K mainGlobals "fraction" = some (some (.ref f)))
    (l : K.lookup f = some ⟨oc, od, .func (PySem.W.fnOf "fraction" "fraction" (defArgs sFrac) (defBody sFrac) (defScope sFrac) .none kV dc pm an cd ct), sl⟩) (c : PySem.W.codeIn K cd "fraction" = true) (k : PySem.W.keepIn K (.ref f) = true) :
    Df K mg "fraction" sFrac ["top", "bottom"] f (PySem.W.fnOf "fraction" "fraction" (defArgs sFrac) (defBody sFrac) (defScope sFrac) .none kV dc pm an cd ct) :=
  ⟨fun_mk l c k, PySem.W.mg_of X G a, fun s us hl => .of_eq (match us, hl with | [_, _], _ => rfl), fun s us hl => .of_eq (match us, hl with | [_, _], _ => rfl), fun s us hl => .of_eq (match us, hl with | [_, _], _ => rfl)⟩

theorem df_plus {K : PySem.W.Frag} {h : Heap} {mg : Str → Option Value} {f : Addr} {od an : Option Addr} {sl : Array (Option Value)} {oc kV dc pm cd ct : Value} (X : K.In h) (G : h.Ns mainGlobals mg) (a : PySem.W.nsIn K mainGlobals "plus" = some (some (.ref f)))
    (l : K.lookup f = some ⟨oc, od, .func (PySem.W.fnOf "plus" "plus" (defArgs s_plus) (defBody s_plus) (defScope s_plus) .none kV dc pm an cd ct), sl⟩) (c : PySem.W.codeIn K cd "plus" = true) (k : PySem.W.keepIn K (.ref f) = true) :
    Df K mg "plus" s_plus ["one", "other"] f (PySem.W.fnOf "plus" "plus" (defArgs s_plus) (defBody s_plus) (defScope s_plus) .none kV dc pm an cd ct) :=
  ⟨fun_mk l c k, PySem.W.mg_of X G a, fun s us hl => .of_eq (match us, hl with | [_, _], _ => rfl), fun s us hl => .of_eq (match us, hl with | [_, _], _ => rfl), fun s us hl => .of_eq (match us, hl with | [_, _], _ => rfl)⟩

theorem df_together {K : PySem.W.Frag} {h : Heap} {mg : Str → Option Value} {f : Addr} {od an : Option Addr} {sl : Array (Option Value)} {oc kV dc pm cd ct : Value} (X : K.In h) (G : h.Ns mainGlobals mg) (a : PySem.W.nsIn K mainGlobals "together" = some (some (.ref f)))
    (l : K.lookup f = some ⟨oc, od, .func (PySem.W.fnOf "together" "together" (defArgs s_together) (defBody s_together) (defScope s_together) .none kV dc pm an cd ct), sl⟩) (c : PySem.W.codeIn K cd "together" = true) (k : PySem.W.keepIn K (.ref f) = true) :
    Df K mg "together" s_together ["ones"] f (PySem.W.fnOf "together" "together" (defArgs s_together) (defBody s_together) (defScope s_together) .none kV dc pm an cd ct) :=
  ⟨fun_mk l c k, PySem.W.mg_of X G a, fun s us hl => .of_eq (match us, hl with | [_], _ => rfl), fun s us hl => .of_eq (match us, hl with | [_], _ => rfl), fun s us hl => .of_eq (match us, hl with | [_], _ => rfl)⟩

theorem df_is_less {K : PySem.W.Frag} {h : Heap} {mg : Str → Option Value} {f : Addr} {od an : Option Addr} {sl : Array (Option Value)} {oc kV dc pm cd ct : Value} (X : K.In h) (G : h.Ns mainGlobals mg) (a : PySem.W.nsIn K mainGlobals "is_less" = some (some (.ref f)))
    (l : K.lookup f = some ⟨oc, od, .func (PySem.W.fnOf "is_less" "is_less" (defArgs s_is_less) (defBody s_is_less) (defScope s_is_less) .none kV dc pm an cd ct), sl⟩) (c : PySem.W.codeIn K cd "is_less" = true) (k : PySem.W.keepIn K (.ref f) = true) :
    Df K mg "is_less" s_is_less ["one", "other"] f (PySem.W.fnOf "is_less" "is_less" (defArgs s_is_less) (defBody s_is_less) (defScope s_is_less) .none kV dc pm an cd ct) :=
  ⟨fun_mk l c k, PySem.W.mg_of X G a, fun s us hl => .of_eq (match us, hl with | [_, _], _ => rfl), fun s us hl => .of_eq (match us, hl with | [_, _], _ => rfl), fun s us hl => .of_eq (match us, hl with | [_, _], _ => rfl)⟩

theorem df_is_fraction {K : PySem.W.Frag} {h : Heap} {mg : Str → Option Value} {f : Addr} {od an : Option Addr} {sl : Array (Option Value)} {oc kV dc pm cd ct : Value} (X : K.In h) (G : h.Ns mainGlobals mg) (a : PySem.W.nsIn K mainGlobals "is_fraction" = some (some (.ref f)))
    (l : K.lookup f = some ⟨oc, od, .func (PySem.W.fnOf "is_fraction" "is_fraction" (defArgs s_is_fraction) (defBody s_is_fraction) (defScope s_is_fraction) .none kV dc pm an cd ct), sl⟩) (c : PySem.W.codeIn K cd "is_fraction" = true) (k : PySem.W.keepIn K (.ref f) = true) :
    Df K mg "is_fraction" s_is_fraction ["thing"] f (PySem.W.fnOf "is_fraction" "is_fraction" (defArgs s_is_fraction) (defBody s_is_fraction) (defScope s_is_fraction) .none kV dc pm an cd ct) :=
  ⟨fun_mk l c k, PySem.W.mg_of X G a, fun s us hl => .of_eq (match us, hl with | [_], _ => rfl), fun s us hl => .of_eq (match us, hl with | [_], _ => rfl), fun s us hl => .of_eq (match us, hl with | [_], _ => rfl)⟩

theorem df_is_name {K : PySem.W.Frag} {h : Heap} {mg : Str → Option Value} {f : Addr} {od an : Option Addr} {sl : Array (Option Value)} {oc kV dc pm cd ct : Value} (X : K.In h) (G : h.Ns mainGlobals mg) (a : PySem.W.nsIn K mainGlobals "is_name" = some (some (.ref f)))
    (l : K.lookup f = some ⟨oc, od, .func (PySem.W.fnOf "is_name" "is_name" (defArgs s_is_name) (defBody s_is_name) (defScope s_is_name) .none kV dc pm an cd ct), sl⟩) (c : PySem.W.codeIn K cd "is_name" = true) (k : PySem.W.keepIn K (.ref f) = true) :
    Df K mg "is_name" s_is_name ["thing"] f (PySem.W.fnOf "is_name" "is_name" (defArgs s_is_name) (defBody s_is_name) (defScope s_is_name) .none kV dc pm an cd ct) :=
  ⟨fun_mk l c k, PySem.W.mg_of X G a, fun s us hl => .of_eq (match us, hl with | [_], _ => rfl), fun s us hl => .of_eq (match us, hl with | [_], _ => rfl), fun s us hl => .of_eq (match us, hl with | [_], _ => rfl)⟩

theorem df_measure_or_none_of_it {K : PySem.W.Frag} {h : Heap} {mg : Str → Option Value} {f : Addr} {od an : Option Addr} {sl : Array (Option Value)} {oc kV dc pm cd ct : Value} (X : K.In h) (G : h.Ns mainGlobals mg) (a : PySem.W.nsIn K mainGlobals "measure_or_none_of_it" = some (some (.ref f)))
    (l : K.lookup f = some ⟨oc, od, .func (PySem.W.fnOf "measure_or_none_of_it" "measure_or_none_of_it" (defArgs s_measure_or_none_of_it) (defBody s_measure_or_none_of_it) (defScope s_measure_or_none_of_it) .none kV dc pm an cd ct), sl⟩) (c : PySem.W.codeIn K cd "measure_or_none_of_it" = true) (k : PySem.W.keepIn K (.ref f) = true) :
    Df K mg "measure_or_none_of_it" s_measure_or_none_of_it ["measure"] f (PySem.W.fnOf "measure_or_none_of_it" "measure_or_none_of_it" (defArgs s_measure_or_none_of_it) (defBody s_measure_or_none_of_it) (defScope s_measure_or_none_of_it) .none kV dc pm an cd ct) :=
  ⟨fun_mk l c k, PySem.W.mg_of X G a, fun s us hl => .of_eq (match us, hl with | [_], _ => rfl), fun s us hl => .of_eq (match us, hl with | [_], _ => rfl), fun s us hl => .of_eq (match us, hl with | [_], _ => rfl)⟩

theorem df_is_measure {K : PySem.W.Frag} {h : Heap} {mg : Str → Option Value} {f : Addr} {od an : Option Addr} {sl : Array (Option Value)} {oc kV dc pm cd ct : Value} (X : K.In h) (G : h.Ns mainGlobals mg) (a : PySem.W.nsIn K mainGlobals "is_measure" = some (some (.ref f)))
    (l : K.lookup f = some ⟨oc, od, .func (PySem.W.fnOf "is_measure" "is_measure" (defArgs s_is_measure) (defBody s_is_measure) (defScope s_is_measure) .none kV dc pm an cd ct), sl⟩) (c : PySem.W.codeIn K cd "is_measure" = true) (k : PySem.W.keepIn K (.ref f) = true) :
    Df K mg "is_measure" s_is_measure ["thing"] f (PySem.W.fnOf "is_measure" "is_measure" (defArgs s_is_measure) (defBody s_is_measure) (defScope s_is_measure) .none kV dc pm an cd ct) :=
  ⟨fun_mk l c k, PySem.W.mg_of X G a, fun s us hl => .of_eq (match us, hl with | [_], _ => rfl), fun s us hl => .of_eq (match us, hl with | [_], _ => rfl), fun s us hl => .of_eq (match us, hl with | [_], _ => rfl)⟩

theorem df_are_too_much {K : PySem.W.Frag} {h : Heap} {mg : Str → Option Value} {f : Addr} {od an : Option Addr} {sl : Array (Option Value)} {oc kV dc pm cd ct : Value} (X : K.In h) (G : h.Ns mainGlobals mg) (a : PySem.W.nsIn K mainGlobals "are_too_much" = some (some (.ref f)))
    (l : K.lookup f = some ⟨oc, od, .func (PySem.W.fnOf "are_too_much" "are_too_much" (defArgs s_are_too_much) (defBody s_are_too_much) (defScope s_are_too_much) .none kV dc pm an cd ct), sl⟩) (c : PySem.W.codeIn K cd "are_too_much" = true) (k : PySem.W.keepIn K (.ref f) = true) :
    Df K mg "are_too_much" s_are_too_much ["flour", "water", "salt"] f (PySem.W.fnOf "are_too_much" "are_too_much" (defArgs s_are_too_much) (defBody s_are_too_much) (defScope s_are_too_much) .none kV dc pm an cd ct) :=
  ⟨fun_mk l c k, PySem.W.mg_of X G a, fun s us hl => .of_eq (match us, hl with | [_, _, _], _ => rfl), fun s us hl => .of_eq (match us, hl with | [_, _, _], _ => rfl), fun s us hl => .of_eq (match us, hl with | [_, _, _], _ => rfl)⟩

theorem df_first_wrong {K : PySem.W.Frag} {h : Heap} {mg : Str → Option Value} {f : Addr} {od an : Option Addr} {sl : Array (Option Value)} {oc kV dc pm cd ct : Value} (X : K.In h) (G : h.Ns mainGlobals mg) (a : PySem.W.nsIn K mainGlobals "first_wrong" = some (some (.ref f)))
    (l : K.lookup f = some ⟨oc, od, .func (PySem.W.fnOf "first_wrong" "first_wrong" (defArgs s_first_wrong) (defBody s_first_wrong) (defScope s_first_wrong) .none kV dc pm an cd ct), sl⟩) (c : PySem.W.codeIn K cd "first_wrong" = true) (k : PySem.W.keepIn K (.ref f) = true) :
    Df K mg "first_wrong" s_first_wrong ["name", "measures"] f (PySem.W.fnOf "first_wrong" "first_wrong" (defArgs s_first_wrong) (defBody s_first_wrong) (defScope s_first_wrong) .none kV dc pm an cd ct) :=
  ⟨fun_mk l c k, PySem.W.mg_of X G a, fun s us hl => .of_eq (match us, hl with | [_, _], _ => rfl), fun s us hl => .of_eq (match us, hl with | [_, _], _ => rfl), fun s us hl => .of_eq (match us, hl with | [_, _], _ => rfl)⟩

theorem df__law_cell {K : PySem.W.Frag} {h : Heap} {mg : Str → Option Value} {f : Addr} {od an : Option Addr} {sl : Array (Option Value)} {oc kV dc pm cd ct : Value} (X : K.In h) (G : h.Ns mainGlobals mg) (a : PySem.W.nsIn K mainGlobals "_law_cell" = some (some (.ref f)))
    (l : K.lookup f = some ⟨oc, od, .func (PySem.W.fnOf "_law_cell" "_law_cell" (defArgs s__law_cell) (defBody s__law_cell) (defScope s__law_cell) .none kV dc pm an cd ct), sl⟩) (c : PySem.W.codeIn K cd "_law_cell" = true) (k : PySem.W.keepIn K (.ref f) = true) :
    Df K mg "_law_cell" s__law_cell ["_law_script", "_law_k"] f (PySem.W.fnOf "_law_cell" "_law_cell" (defArgs s__law_cell) (defBody s__law_cell) (defScope s__law_cell) .none kV dc pm an cd ct) :=
  ⟨fun_mk l c k, PySem.W.mg_of X G a, fun s us hl => .of_eq (match us, hl with | [_, _], _ => rfl), fun s us hl => .of_eq (match us, hl with | [_, _], _ => rfl), fun s us hl => .of_eq (match us, hl with | [_, _], _ => rfl)⟩

theorem df__law_pot {K : PySem.W.Frag} {h : Heap} {mg : Str → Option Value} {f : Addr} {od an : Option Addr} {sl : Array (Option Value)} {oc kV dc pm cd ct : Value} (X : K.In h) (G : h.Ns mainGlobals mg) (a : PySem.W.nsIn K mainGlobals "_law_pot" = some (some (.ref f)))
    (l : K.lookup f = some ⟨oc, od, .func (PySem.W.fnOf "_law_pot" "_law_pot" (defArgs s__law_pot) (defBody s__law_pot) (defScope s__law_pot) .none kV dc pm an cd ct), sl⟩) (c : PySem.W.codeIn K cd "_law_pot" = true) (k : PySem.W.keepIn K (.ref f) = true) :
    Df K mg "_law_pot" s__law_pot ["_law_cell_here"] f (PySem.W.fnOf "_law_pot" "_law_pot" (defArgs s__law_pot) (defBody s__law_pot) (defScope s__law_pot) .none kV dc pm an cd ct) :=
  ⟨fun_mk l c k, PySem.W.mg_of X G a, fun s us hl => .of_eq (match us, hl with | [_], _ => rfl), fun s us hl => .of_eq (match us, hl with | [_], _ => rfl), fun s us hl => .of_eq (match us, hl with | [_], _ => rfl)⟩

theorem df__law_draw {K : PySem.W.Frag} {h : Heap} {mg : Str → Option Value} {f : Addr} {od an : Option Addr} {sl : Array (Option Value)} {oc kV dc pm cd ct : Value} (X : K.In h) (G : h.Ns mainGlobals mg) (a : PySem.W.nsIn K mainGlobals "_law_draw" = some (some (.ref f)))
    (l : K.lookup f = some ⟨oc, od, .func (PySem.W.fnOf "_law_draw" "_law_draw" (defArgs s__law_draw) (defBody s__law_draw) (defScope s__law_draw) .none kV dc pm an cd ct), sl⟩) (c : PySem.W.codeIn K cd "_law_draw" = true) (k : PySem.W.keepIn K (.ref f) = true) :
    Df K mg "_law_draw" s__law_draw ["_law_pot_here", "_law_many"] f (PySem.W.fnOf "_law_draw" "_law_draw" (defArgs s__law_draw) (defBody s__law_draw) (defScope s__law_draw) .none kV dc pm an cd ct) :=
  ⟨fun_mk l c k, PySem.W.mg_of X G a, fun s us hl => .of_eq (match us, hl with | [_, _], _ => rfl), fun s us hl => .of_eq (match us, hl with | [_, _], _ => rfl), fun s us hl => .of_eq (match us, hl with | [_, _], _ => rfl)⟩

theorem df__law_low {K : PySem.W.Frag} {h : Heap} {mg : Str → Option Value} {f : Addr} {od an : Option Addr} {sl : Array (Option Value)} {oc kV dc pm cd ct : Value} (X : K.In h) (G : h.Ns mainGlobals mg) (a : PySem.W.nsIn K mainGlobals "_law_low" = some (some (.ref f)))
    (l : K.lookup f = some ⟨oc, od, .func (PySem.W.fnOf "_law_low" "_law_low" (defArgs s__law_low) (defBody s__law_low) (defScope s__law_low) .none kV dc pm an cd ct), sl⟩) (c : PySem.W.codeIn K cd "_law_low" = true) (k : PySem.W.keepIn K (.ref f) = true) :
    Df K mg "_law_low" s__law_low ["_law_top", "_law_bottom"] f (PySem.W.fnOf "_law_low" "_law_low" (defArgs s__law_low) (defBody s__law_low) (defScope s__law_low) .none kV dc pm an cd ct) :=
  ⟨fun_mk l c k, PySem.W.mg_of X G a, fun s us hl => .of_eq (match us, hl with | [_, _], _ => rfl), fun s us hl => .of_eq (match us, hl with | [_, _], _ => rfl), fun s us hl => .of_eq (match us, hl with | [_, _], _ => rfl)⟩

theorem df__law_sum {K : PySem.W.Frag} {h : Heap} {mg : Str → Option Value} {f : Addr} {od an : Option Addr} {sl : Array (Option Value)} {oc kV dc pm cd ct : Value} (X : K.In h) (G : h.Ns mainGlobals mg) (a : PySem.W.nsIn K mainGlobals "_law_sum" = some (some (.ref f)))
    (l : K.lookup f = some ⟨oc, od, .func (PySem.W.fnOf "_law_sum" "_law_sum" (defArgs s__law_sum) (defBody s__law_sum) (defScope s__law_sum) .none kV dc pm an cd ct), sl⟩) (c : PySem.W.codeIn K cd "_law_sum" = true) (k : PySem.W.keepIn K (.ref f) = true) :
    Df K mg "_law_sum" s__law_sum ["_law_one", "_law_other"] f (PySem.W.fnOf "_law_sum" "_law_sum" (defArgs s__law_sum) (defBody s__law_sum) (defScope s__law_sum) .none kV dc pm an cd ct) :=
  ⟨fun_mk l c k, PySem.W.mg_of X G a, fun s us hl => .of_eq (match us, hl with | [_, _], _ => rfl), fun s us hl => .of_eq (match us, hl with | [_, _], _ => rfl), fun s us hl => .of_eq (match us, hl with | [_, _], _ => rfl)⟩

theorem df__law_name {K : PySem.W.Frag} {h : Heap} {mg : Str → Option Value} {f : Addr} {od an : Option Addr} {sl : Array (Option Value)} {oc kV dc pm cd ct : Value} (X : K.In h) (G : h.Ns mainGlobals mg) (a : PySem.W.nsIn K mainGlobals "_law_name" = some (some (.ref f)))
    (l : K.lookup f = some ⟨oc, od, .func (PySem.W.fnOf "_law_name" "_law_name" (defArgs s__law_name) (defBody s__law_name) (defScope s__law_name) .none kV dc pm an cd ct), sl⟩) (c : PySem.W.codeIn K cd "_law_name" = true) (k : PySem.W.keepIn K (.ref f) = true) :
    Df K mg "_law_name" s__law_name ["_law_pot_here", "_law_taken"] f (PySem.W.fnOf "_law_name" "_law_name" (defArgs s__law_name) (defBody s__law_name) (defScope s__law_name) .none kV dc pm an cd ct) :=
  ⟨fun_mk l c k, PySem.W.mg_of X G a, fun s us hl => .of_eq (match us, hl with | [_, _], _ => rfl), fun s us hl => .of_eq (match us, hl with | [_, _], _ => rfl), fun s us hl => .of_eq (match us, hl with | [_, _], _ => rfl)⟩

theorem df__law_some {K : PySem.W.Frag} {h : Heap} {mg : Str → Option Value} {f : Addr} {od an : Option Addr} {sl : Array (Option Value)} {oc kV dc pm cd ct : Value} (X : K.In h) (G : h.Ns mainGlobals mg) (a : PySem.W.nsIn K mainGlobals "_law_some" = some (some (.ref f)))
    (l : K.lookup f = some ⟨oc, od, .func (PySem.W.fnOf "_law_some" "_law_some" (defArgs s__law_some) (defBody s__law_some) (defScope s__law_some) .none kV dc pm an cd ct), sl⟩) (c : PySem.W.codeIn K cd "_law_some" = true) (k : PySem.W.keepIn K (.ref f) = true) :
    Df K mg "_law_some" s__law_some ["_law_pot_here", "_law_least", "_law_most"] f (PySem.W.fnOf "_law_some" "_law_some" (defArgs s__law_some) (defBody s__law_some) (defScope s__law_some) .none kV dc pm an cd ct) :=
  ⟨fun_mk l c k, PySem.W.mg_of X G a, fun s us hl => .of_eq (match us, hl with | [_, _, _], _ => rfl), fun s us hl => .of_eq (match us, hl with | [_, _, _], _ => rfl), fun s us hl => .of_eq (match us, hl with | [_, _, _], _ => rfl)⟩

theorem df__law_stuff {K : PySem.W.Frag} {h : Heap} {mg : Str → Option Value} {f : Addr} {od an : Option Addr} {sl : Array (Option Value)} {oc kV dc pm cd ct : Value} (X : K.In h) (G : h.Ns mainGlobals mg) (a : PySem.W.nsIn K mainGlobals "_law_stuff" = some (some (.ref f)))
    (l : K.lookup f = some ⟨oc, od, .func (PySem.W.fnOf "_law_stuff" "_law_stuff" (defArgs s__law_stuff) (defBody s__law_stuff) (defScope s__law_stuff) .none kV dc pm an cd ct), sl⟩) (c : PySem.W.codeIn K cd "_law_stuff" = true) (k : PySem.W.keepIn K (.ref f) = true) :
    Df K mg "_law_stuff" s__law_stuff ["_law_pot_here", "_law_name_here"] f (PySem.W.fnOf "_law_stuff" "_law_stuff" (defArgs s__law_stuff) (defBody s__law_stuff) (defScope s__law_stuff) .none kV dc pm an cd ct) :=
  ⟨fun_mk l c k, PySem.W.mg_of X G a, fun s us hl => .of_eq (match us, hl with | [_, _], _ => rfl), fun s us hl => .of_eq (match us, hl with | [_, _], _ => rfl), fun s us hl => .of_eq (match us, hl with | [_, _], _ => rfl)⟩

theorem df__law_odd_name {K : PySem.W.Frag} {h : Heap} {mg : Str → Option Value} {f : Addr} {od an : Option Addr} {sl : Array (Option Value)} {oc kV dc pm cd ct : Value} (X : K.In h) (G : h.Ns mainGlobals mg) (a : PySem.W.nsIn K mainGlobals "_law_odd_name" = some (some (.ref f)))
    (l : K.lookup f = some ⟨oc, od, .func (PySem.W.fnOf "_law_odd_name" "_law_odd_name" (defArgs s__law_odd_name) (defBody s__law_odd_name) (defScope s__law_odd_name) .none kV dc pm an cd ct), sl⟩) (c : PySem.W.codeIn K cd "_law_odd_name" = true) (k : PySem.W.keepIn K (.ref f) = true) :
    Df K mg "_law_odd_name" s__law_odd_name ["_law_pot_here", "_law_name_here"] f (PySem.W.fnOf "_law_odd_name" "_law_odd_name" (defArgs s__law_odd_name) (defBody s__law_odd_name) (defScope s__law_odd_name) .none kV dc pm an cd ct) :=
  ⟨fun_mk l c k, PySem.W.mg_of X G a, fun s us hl => .of_eq (match us, hl with | [_, _], _ => rfl), fun s us hl => .of_eq (match us, hl with | [_, _], _ => rfl), fun s us hl => .of_eq (match us, hl with | [_, _], _ => rfl)⟩

theorem df__law_odd_measure {K : PySem.W.Frag} {h : Heap} {mg : Str → Option Value} {f : Addr} {od an : Option Addr} {sl : Array (Option Value)} {oc kV dc pm cd ct : Value} (X : K.In h) (G : h.Ns mainGlobals mg) (a : PySem.W.nsIn K mainGlobals "_law_odd_measure" = some (some (.ref f)))
    (l : K.lookup f = some ⟨oc, od, .func (PySem.W.fnOf "_law_odd_measure" "_law_odd_measure" (defArgs s__law_odd_measure) (defBody s__law_odd_measure) (defScope s__law_odd_measure) .none kV dc pm an cd ct), sl⟩) (c : PySem.W.codeIn K cd "_law_odd_measure" = true) (k : PySem.W.keepIn K (.ref f) = true) :
    Df K mg "_law_odd_measure" s__law_odd_measure ["_law_pot_here", "_law_one"] f (PySem.W.fnOf "_law_odd_measure" "_law_odd_measure" (defArgs s__law_odd_measure) (defBody s__law_odd_measure) (defScope s__law_odd_measure) .none kV dc pm an cd ct) :=
  ⟨fun_mk l c k, PySem.W.mg_of X G a, fun s us hl => .of_eq (match us, hl with | [_, _], _ => rfl), fun s us hl => .of_eq (match us, hl with | [_, _], _ => rfl), fun s us hl => .of_eq (match us, hl with | [_, _], _ => rfl)⟩

theorem df__law_spoilt {K : PySem.W.Frag} {h : Heap} {mg : Str → Option Value} {f : Addr} {od an : Option Addr} {sl : Array (Option Value)} {oc kV dc pm cd ct : Value} (X : K.In h) (G : h.Ns mainGlobals mg) (a : PySem.W.nsIn K mainGlobals "_law_spoilt" = some (some (.ref f)))
    (l : K.lookup f = some ⟨oc, od, .func (PySem.W.fnOf "_law_spoilt" "_law_spoilt" (defArgs s__law_spoilt) (defBody s__law_spoilt) (defScope s__law_spoilt) .none kV dc pm an cd ct), sl⟩) (c : PySem.W.codeIn K cd "_law_spoilt" = true) (k : PySem.W.keepIn K (.ref f) = true) :
    Df K mg "_law_spoilt" s__law_spoilt ["_law_pot_here", "_law_row"] f (PySem.W.fnOf "_law_spoilt" "_law_spoilt" (defArgs s__law_spoilt) (defBody s__law_spoilt) (defScope s__law_spoilt) .none kV dc pm an cd ct) :=
  ⟨fun_mk l c k, PySem.W.mg_of X G a, fun s us hl => .of_eq (match us, hl with | [_, _], _ => rfl), fun s us hl => .of_eq (match us, hl with | [_, _], _ => rfl), fun s us hl => .of_eq (match us, hl with | [_, _], _ => rfl)⟩

theorem df__law_is_name {K : PySem.W.Frag} {h : Heap} {mg : Str → Option Value} {f : Addr} {od an : Option Addr} {sl : Array (Option Value)} {oc kV dc pm cd ct : Value} (X : K.In h) (G : h.Ns mainGlobals mg) (a : PySem.W.nsIn K mainGlobals "_law_is_name" = some (some (.ref f)))
    (l : K.lookup f = some ⟨oc, od, .func (PySem.W.fnOf "_law_is_name" "_law_is_name" (defArgs s__law_is_name) (defBody s__law_is_name) (defScope s__law_is_name) .none kV dc pm an cd ct), sl⟩) (c : PySem.W.codeIn K cd "_law_is_name" = true) (k : PySem.W.keepIn K (.ref f) = true) :
    Df K mg "_law_is_name" s__law_is_name ["_law_thing"] f (PySem.W.fnOf "_law_is_name" "_law_is_name" (defArgs s__law_is_name) (defBody s__law_is_name) (defScope s__law_is_name) .none kV dc pm an cd ct) :=
  ⟨fun_mk l c k, PySem.W.mg_of X G a, fun s us hl => .of_eq (match us, hl with | [_], _ => rfl), fun s us hl => .of_eq (match us, hl with | [_], _ => rfl), fun s us hl => .of_eq (match us, hl with | [_], _ => rfl)⟩

theorem df__law_is_whole {K : PySem.W.Frag} {h : Heap} {mg : Str → Option Value} {f : Addr} {od an : Option Addr} {sl : Array (Option Value)} {oc kV dc pm cd ct : Value} (X : K.In h) (G : h.Ns mainGlobals mg) (a : PySem.W.nsIn K mainGlobals "_law_is_whole" = some (some (.ref f)))
    (l : K.lookup f = some ⟨oc, od, .func (PySem.W.fnOf "_law_is_whole" "_law_is_whole" (defArgs s__law_is_whole) (defBody s__law_is_whole) (defScope s__law_is_whole) .none kV dc pm an cd ct), sl⟩) (c : PySem.W.codeIn K cd "_law_is_whole" = true) (k : PySem.W.keepIn K (.ref f) = true) :
    Df K mg "_law_is_whole" s__law_is_whole ["_law_thing"] f (PySem.W.fnOf "_law_is_whole" "_law_is_whole" (defArgs s__law_is_whole) (defBody s__law_is_whole) (defScope s__law_is_whole) .none kV dc pm an cd ct) :=
  ⟨fun_mk l c k, PySem.W.mg_of X G a, fun s us hl => .of_eq (match us, hl with | [_], _ => rfl), fun s us hl => .of_eq (match us, hl with | [_], _ => rfl), fun s us hl => .of_eq (match us, hl with | [_], _ => rfl)⟩

theorem df__law_is_measure {K : PySem.W.Frag} {h : Heap} {mg : Str → Option Value} {f : Addr} {od an : Option Addr} {sl : Array (Option Value)} {oc kV dc pm cd ct : Value} (X : K.In h) (G : h.Ns mainGlobals mg) (a : PySem.W.nsIn K mainGlobals "_law_is_measure" = some (some (.ref f)))
    (l : K.lookup f = some ⟨oc, od, .func (PySem.W.fnOf "_law_is_measure" "_law_is_measure" (defArgs s__law_is_measure) (defBody s__law_is_measure) (defScope s__law_is_measure) .none kV dc pm an cd ct), sl⟩) (c : PySem.W.codeIn K cd "_law_is_measure" = true) (k : PySem.W.keepIn K (.ref f) = true) :
    Df K mg "_law_is_measure" s__law_is_measure ["_law_thing"] f (PySem.W.fnOf "_law_is_measure" "_law_is_measure" (defArgs s__law_is_measure) (defBody s__law_is_measure) (defScope s__law_is_measure) .none kV dc pm an cd ct) :=
  ⟨fun_mk l c k, PySem.W.mg_of X G a, fun s us hl => .of_eq (match us, hl with | [_], _ => rfl), fun s us hl => .of_eq (match us, hl with | [_], _ => rfl), fun s us hl => .of_eq (match us, hl with | [_], _ => rfl)⟩

theorem df__law_due {K : PySem.W.Frag} {h : Heap} {mg : Str → Option Value} {f : Addr} {od an : Option Addr} {sl : Array (Option Value)} {oc kV dc pm cd ct : Value} (X : K.In h) (G : h.Ns mainGlobals mg) (a : PySem.W.nsIn K mainGlobals "_law_due" = some (some (.ref f)))
    (l : K.lookup f = some ⟨oc, od, .func (PySem.W.fnOf "_law_due" "_law_due" (defArgs s__law_due) (defBody s__law_due) (defScope s__law_due) .none kV dc pm an cd ct), sl⟩) (c : PySem.W.codeIn K cd "_law_due" = true) (k : PySem.W.keepIn K (.ref f) = true) :
    Df K mg "_law_due" s__law_due ["_law_args"] f (PySem.W.fnOf "_law_due" "_law_due" (defArgs s__law_due) (defBody s__law_due) (defScope s__law_due) .none kV dc pm an cd ct) :=
  ⟨fun_mk l c k, PySem.W.mg_of X G a, fun s us hl => .of_eq (match us, hl with | [_], _ => rfl), fun s us hl => .of_eq (match us, hl with | [_], _ => rfl), fun s us hl => .of_eq (match us, hl with | [_], _ => rfl)⟩

theorem df__law_field {K : PySem.W.Frag} {h : Heap} {mg : Str → Option Value} {f : Addr} {od an : Option Addr} {sl : Array (Option Value)} {oc kV dc pm cd ct : Value} (X : K.In h) (G : h.Ns mainGlobals mg) (a : PySem.W.nsIn K mainGlobals "_law_field" = some (some (.ref f)))
    (l : K.lookup f = some ⟨oc, od, .func (PySem.W.fnOf "_law_field" "_law_field" (defArgs s__law_field) (defBody s__law_field) (defScope s__law_field) .none kV dc pm an cd ct), sl⟩) (c : PySem.W.codeIn K cd "_law_field" = true) (k : PySem.W.keepIn K (.ref f) = true) :
    Df K mg "_law_field" s__law_field ["_law_args"] f (PySem.W.fnOf "_law_field" "_law_field" (defArgs s__law_field) (defBody s__law_field) (defScope s__law_field) .none kV dc pm an cd ct) :=
  ⟨fun_mk l c k, PySem.W.mg_of X G a, fun s us hl => .of_eq (match us, hl with | [_], _ => rfl), fun s us hl => .of_eq (match us, hl with | [_], _ => rfl), fun s us hl => .of_eq (match us, hl with | [_], _ => rfl)⟩

theorem df__law_right {K : PySem.W.Frag} {h : Heap} {mg : Str → Option Value} {f : Addr} {od an : Option Addr} {sl : Array (Option Value)} {oc kV dc pm cd ct : Value} (X : K.In h) (G : h.Ns mainGlobals mg) (a : PySem.W.nsIn K mainGlobals "_law_right" = some (some (.ref f)))
    (l : K.lookup f = some ⟨oc, od, .func (PySem.W.fnOf "_law_right" "_law_right" (defArgs s__law_right) (defBody s__law_right) (defScope s__law_right) .none kV dc pm an cd ct), sl⟩) (c : PySem.W.codeIn K cd "_law_right" = true) (k : PySem.W.keepIn K (.ref f) = true) :
    Df K mg "_law_right" s__law_right ["_law_pot_here"] f (PySem.W.fnOf "_law_right" "_law_right" (defArgs s__law_right) (defBody s__law_right) (defScope s__law_right) .none kV dc pm an cd ct) :=
  ⟨fun_mk l c k, PySem.W.mg_of X G a, fun s us hl => .of_eq (match us, hl with | [_], _ => rfl), fun s us hl => .of_eq (match us, hl with | [_], _ => rfl), fun s us hl => .of_eq (match us, hl with | [_], _ => rfl)⟩

theorem df_law {K : PySem.W.Frag} {h : Heap} {mg : Str → Option Value} {f : Addr} {od an : Option Addr} {sl : Array (Option Value)} {oc kV dc pm cd ct : Value} (X : K.In h) (G : h.Ns mainGlobals mg) (a : PySem.W.nsIn K mainGlobals "law" = some (some (.ref f)))
    (l : K.lookup f = some ⟨oc, od, .func (PySem.W.fnOf "law" "law" (defArgs s_law) (defBody s_law) (defScope s_law) .none kV dc pm an cd ct), sl⟩) (c : PySem.W.codeIn K cd "law" = true) (k : PySem.W.keepIn K (.ref f) = true) :
    Df K mg "law" s_law ["_law_script"] f (PySem.W.fnOf "law" "law" (defArgs s_law) (defBody s_law) (defScope s_law) .none kV dc pm an cd ct) :=
  ⟨fun_mk l c k, PySem.W.mg_of X G a, fun s us hl => .of_eq (match us, hl with | [_], _ => rfl), fun s us hl => .of_eq (match us, hl with | [_], _ => rfl), fun s us hl => .of_eq (match us, hl with | [_], _ => rfl)⟩

theorem all_mk {l : PySem.W.OpenLaw} {w : World} {K : PySem.W.Frag} {h : Heap} {mg : Str → Option Value} {fa C f0 f1 f2 f3 f4 f5 f6 f7 f8 f9 f10 f11 f12 f13 f14 f15 f16 f17 f18 f19 f20 f21 f22 f23 f24 f25 f26 f27 f28 f29 : Addr} {t_LETTERS : Tok} {t_LONGEST_NAME : Tok}  (X : K.In h) (G : h.Ns mainGlobals mg) (hfa : mg "law" = some (.ref fa)) {D fI cc cda cL CS fS TS kc0 kc1 kcw : Addr} {nm q : Str} {NN : Addr} {bs bm : List Value} {sn : List Str} {sub : List Value} {ab : Bool} {col : Option Bool} {dd : Option Addr} {m0 m1 m2 m3 m5 : Option Value}
    {ocI kVI dcI pmI ctI ccl cl ocS kVS dcS pmS cdS ctS tc : Value} {odI anI cdd cld odS anS td d0 d1 dw : Option Addr} {slI ccs csl slS tsl s0 s1 sw : Array (Option Value)} {vsA : Array Value} {file : Str} {tf t00 t01 t10 t11 tw0 tw1 tw2 tw3 tw4 : Tok} {nT n0 n1 nw_ : Nat}
    {od0 an0 od1 an1 od2 an2 od3 an3 od4 an4 od5 an5 od6 an6 od7 an7 od8 an8 od9 an9 od10 an10 od11 an11 od12 an12 od13 an13 od14 an14 od15 an15 od16 an16 od17 an17 od18 an18 od19 an19 od20 an20 od21 an21 od22 an22 od23 an23 od24 an24 od25 an25 od26 an26 od27 an27 od28 an28 od29 an29 : Option Addr} {sl0 sl1 sl2 sl3 sl4 sl5 sl6 sl7 sl8 sl9 sl10 sl11 sl12 sl13 sl14 sl15 sl16 sl17 sl18 sl19 sl20 sl21 sl22 sl23 sl24 sl25 sl26 sl27 sl28 sl29 : Array (Option Value)} {oc0 kV0 dc0 pm0 cd0 ct0 oc1 kV1 dc1 pm1 cd1 ct1 oc2 kV2 dc2 pm2 cd2 ct2 oc3 kV3 dc3 pm3 cd3 ct3 oc4 kV4 dc4 pm4 cd4 ct4 oc5 kV5 dc5 pm5 cd5 ct5 oc6 kV6 dc6 pm6 cd6 ct6 oc7 kV7 dc7 pm7 cd7 ct7 oc8 kV8 dc8 pm8 cd8 ct8 oc9 kV9 dc9 pm9 cd9 ct9 oc10 kV10 dc10 pm10 cd10 ct10 oc11 kV11 dc11 pm11 cd11 ct11 oc12 kV12 dc12 pm12 cd12 ct12 oc13 kV13 dc13 pm13 cd13 ct13 oc14 kV14 dc14 pm14 cd14 ct14 oc15 kV15 dc15 pm15 cd15 ct15 oc16 kV16 dc16 pm16 cd16 ct16 oc17 kV17 dc17 pm17 cd17 ct17 oc18 kV18 dc18 pm18 cd18 ct18 oc19 kV19 dc19 pm19 cd19 ct19 oc20 kV20 dc20 pm20 cd20 ct20 oc21 kV21 dc21 pm21 cd21 ct21 oc22 kV22 dc22 pm22 cd22 ct22 oc23 kV23 dc23 pm23 cd23 ct23 oc24 kV24 dc24 pm24 cd24 ct24 oc25 kV25 dc25 pm25 cd25 ct25 oc26 kV26 dc26 pm26 cd26 ct26 oc27 kV27 dc27 pm27 cd27 ct27 oc28 kV28 dc28 pm28 cd28 ct28 oc29 kV29 dc29 pm29 cd29 ct29 : Value}
    (aC : PySem.W.nsIn K mainGlobals "NoFraction" = some (some (.ref C))) (xC : PySem.W.excIn K C [.type "ValueError", .type "Exception", .type "BaseException", .type "object"] "ValueError.__new__" = true) (kC : PySem.W.keepIn K (.ref C) = true)
    (bC : PySem.W.subIn K (.ref C) (.type "BaseException") = some true) (tC : PySem.W.typeIn K (.ref C) = some (.type "type")) (iC : PySem.W.isClsIn K C = true) (sC : PySem.W.subIn K (.ref C) (.ref C) = some true)
    (a0 : PySem.W.nsIn K mainGlobals "is_whole" = some (some (.ref f0))) (l0 : K.lookup f0 = some ⟨oc0, od0, .func (PySem.W.fnOf "is_whole" "is_whole" (defArgs s_is_whole) (defBody s_is_whole) (defScope s_is_whole) .none kV0 dc0 pm0 an0 cd0 ct0), sl0⟩) (c0 : PySem.W.codeIn K cd0 "is_whole" = true) (k0 : PySem.W.keepIn K (.ref f0) = true)
    (a1 : PySem.W.nsIn K mainGlobals "common" = some (some (.ref f1))) (l1 : K.lookup f1 = some ⟨oc1, od1, .func (PySem.W.fnOf "common" "common" (defArgs sCom) (defBody sCom) (defScope sCom) .none kV1 dc1 pm1 an1 cd1 ct1), sl1⟩) (c1 : PySem.W.codeIn K cd1 "common" = true) (k1 : PySem.W.keepIn K (.ref f1) = true)
    (a2 : PySem.W.nsIn K mainGlobals "fraction" = some (some (.ref f2))) (l2 : K.lookup f2 = some ⟨oc2, od2, .func (PySem.W.fnOf "fraction" "fraction" (defArgs sFrac) (defBody sFrac) (defScope sFrac) .none kV2 dc2 pm2 an2 cd2 ct2), sl2⟩) (c2 : PySem.W.codeIn K cd2 "fraction" = true) (k2 : PySem.W.keepIn K (.ref f2) = true)
    (a3 : PySem.W.nsIn K mainGlobals "plus" = some (some (.ref f3))) (l3 : K.lookup f3 = some ⟨oc3, od3, .func (PySem.W.fnOf "plus" "plus" (defArgs s_plus) (defBody s_plus) (defScope s_plus) .none kV3 dc3 pm3 an3 cd3 ct3), sl3⟩) (c3 : PySem.W.codeIn K cd3 "plus" = true) (k3 : PySem.W.keepIn K (.ref f3) = true)
    (a4 : PySem.W.nsIn K mainGlobals "together" = some (some (.ref f4))) (l4 : K.lookup f4 = some ⟨oc4, od4, .func (PySem.W.fnOf "together" "together" (defArgs s_together) (defBody s_together) (defScope s_together) .none kV4 dc4 pm4 an4 cd4 ct4), sl4⟩) (c4 : PySem.W.codeIn K cd4 "together" = true) (k4 : PySem.W.keepIn K (.ref f4) = true)
    (a5 : PySem.W.nsIn K mainGlobals "is_less" = some (some (.ref f5))) (l5 : K.lookup f5 = some ⟨oc5, od5, .func (PySem.W.fnOf "is_less" "is_less" (defArgs s_is_less) (defBody s_is_less) (defScope s_is_less) .none kV5 dc5 pm5 an5 cd5 ct5), sl5⟩) (c5 : PySem.W.codeIn K cd5 "is_less" = true) (k5 : PySem.W.keepIn K (.ref f5) = true)
    (a6 : PySem.W.nsIn K mainGlobals "is_fraction" = some (some (.ref f6))) (l6 : K.lookup f6 = some ⟨oc6, od6, .func (PySem.W.fnOf "is_fraction" "is_fraction" (defArgs s_is_fraction) (defBody s_is_fraction) (defScope s_is_fraction) .none kV6 dc6 pm6 an6 cd6 ct6), sl6⟩) (c6 : PySem.W.codeIn K cd6 "is_fraction" = true) (k6 : PySem.W.keepIn K (.ref f6) = true)
    (a7 : PySem.W.nsIn K mainGlobals "is_name" = some (some (.ref f7))) (l7 : K.lookup f7 = some ⟨oc7, od7, .func (PySem.W.fnOf "is_name" "is_name" (defArgs s_is_name) (defBody s_is_name) (defScope s_is_name) .none kV7 dc7 pm7 an7 cd7 ct7), sl7⟩) (c7 : PySem.W.codeIn K cd7 "is_name" = true) (k7 : PySem.W.keepIn K (.ref f7) = true)
    (a8 : PySem.W.nsIn K mainGlobals "measure_or_none_of_it" = some (some (.ref f8))) (l8 : K.lookup f8 = some ⟨oc8, od8, .func (PySem.W.fnOf "measure_or_none_of_it" "measure_or_none_of_it" (defArgs s_measure_or_none_of_it) (defBody s_measure_or_none_of_it) (defScope s_measure_or_none_of_it) .none kV8 dc8 pm8 an8 cd8 ct8), sl8⟩) (c8 : PySem.W.codeIn K cd8 "measure_or_none_of_it" = true) (k8 : PySem.W.keepIn K (.ref f8) = true)
    (a9 : PySem.W.nsIn K mainGlobals "is_measure" = some (some (.ref f9))) (l9 : K.lookup f9 = some ⟨oc9, od9, .func (PySem.W.fnOf "is_measure" "is_measure" (defArgs s_is_measure) (defBody s_is_measure) (defScope s_is_measure) .none kV9 dc9 pm9 an9 cd9 ct9), sl9⟩) (c9 : PySem.W.codeIn K cd9 "is_measure" = true) (k9 : PySem.W.keepIn K (.ref f9) = true)
    (a10 : PySem.W.nsIn K mainGlobals "are_too_much" = some (some (.ref f10))) (l10 : K.lookup f10 = some ⟨oc10, od10, .func (PySem.W.fnOf "are_too_much" "are_too_much" (defArgs s_are_too_much) (defBody s_are_too_much) (defScope s_are_too_much) .none kV10 dc10 pm10 an10 cd10 ct10), sl10⟩) (c10 : PySem.W.codeIn K cd10 "are_too_much" = true) (k10 : PySem.W.keepIn K (.ref f10) = true)
    (a11 : PySem.W.nsIn K mainGlobals "first_wrong" = some (some (.ref f11))) (l11 : K.lookup f11 = some ⟨oc11, od11, .func (PySem.W.fnOf "first_wrong" "first_wrong" (defArgs s_first_wrong) (defBody s_first_wrong) (defScope s_first_wrong) .none kV11 dc11 pm11 an11 cd11 ct11), sl11⟩) (c11 : PySem.W.codeIn K cd11 "first_wrong" = true) (k11 : PySem.W.keepIn K (.ref f11) = true)
    (a12 : PySem.W.nsIn K mainGlobals "_law_cell" = some (some (.ref f12))) (l12 : K.lookup f12 = some ⟨oc12, od12, .func (PySem.W.fnOf "_law_cell" "_law_cell" (defArgs s__law_cell) (defBody s__law_cell) (defScope s__law_cell) .none kV12 dc12 pm12 an12 cd12 ct12), sl12⟩) (c12 : PySem.W.codeIn K cd12 "_law_cell" = true) (k12 : PySem.W.keepIn K (.ref f12) = true)
    (a13 : PySem.W.nsIn K mainGlobals "_law_pot" = some (some (.ref f13))) (l13 : K.lookup f13 = some ⟨oc13, od13, .func (PySem.W.fnOf "_law_pot" "_law_pot" (defArgs s__law_pot) (defBody s__law_pot) (defScope s__law_pot) .none kV13 dc13 pm13 an13 cd13 ct13), sl13⟩) (c13 : PySem.W.codeIn K cd13 "_law_pot" = true) (k13 : PySem.W.keepIn K (.ref f13) = true)
    (a14 : PySem.W.nsIn K mainGlobals "_law_draw" = some (some (.ref f14))) (l14 : K.lookup f14 = some ⟨oc14, od14, .func (PySem.W.fnOf "_law_draw" "_law_draw" (defArgs s__law_draw) (defBody s__law_draw) (defScope s__law_draw) .none kV14 dc14 pm14 an14 cd14 ct14), sl14⟩) (c14 : PySem.W.codeIn K cd14 "_law_draw" = true) (k14 : PySem.W.keepIn K (.ref f14) = true)
    (a15 : PySem.W.nsIn K mainGlobals "_law_low" = some (some (.ref f15))) (l15 : K.lookup f15 = some ⟨oc15, od15, .func (PySem.W.fnOf "_law_low" "_law_low" (defArgs s__law_low) (defBody s__law_low) (defScope s__law_low) .none kV15 dc15 pm15 an15 cd15 ct15), sl15⟩) (c15 : PySem.W.codeIn K cd15 "_law_low" = true) (k15 : PySem.W.keepIn K (.ref f15) = true)
    (a16 : PySem.W.nsIn K mainGlobals "_law_sum" = some (some (.ref f16))) (l16 : K.lookup f16 = some ⟨oc16, od16, .func (PySem.W.fnOf "_law_sum" "_law_sum" (defArgs s__law_sum) (defBody s__law_sum) (defScope s__law_sum) .none kV16 dc16 pm16 an16 cd16 ct16), sl16⟩) (c16 : PySem.W.codeIn K cd16 "_law_sum" = true) (k16 : PySem.W.keepIn K (.ref f16) = true)
    (a17 : PySem.W.nsIn K mainGlobals "_law_name" = some (some (.ref f17))) (l17 : K.lookup f17 = some ⟨oc17, od17, .func (PySem.W.fnOf "_law_name" "_law_name" (defArgs s__law_name) (defBody s__law_name) (defScope s__law_name) .none kV17 dc17 pm17 an17 cd17 ct17), sl17⟩) (c17 : PySem.W.codeIn K cd17 "_law_name" = true) (k17 : PySem.W.keepIn K (.ref f17) = true)
    (a18 : PySem.W.nsIn K mainGlobals "_law_some" = some (some (.ref f18))) (l18 : K.lookup f18 = some ⟨oc18, od18, .func (PySem.W.fnOf "_law_some" "_law_some" (defArgs s__law_some) (defBody s__law_some) (defScope s__law_some) .none kV18 dc18 pm18 an18 cd18 ct18), sl18⟩) (c18 : PySem.W.codeIn K cd18 "_law_some" = true) (k18 : PySem.W.keepIn K (.ref f18) = true)
    (a19 : PySem.W.nsIn K mainGlobals "_law_stuff" = some (some (.ref f19))) (l19 : K.lookup f19 = some ⟨oc19, od19, .func (PySem.W.fnOf "_law_stuff" "_law_stuff" (defArgs s__law_stuff) (defBody s__law_stuff) (defScope s__law_stuff) .none kV19 dc19 pm19 an19 cd19 ct19), sl19⟩) (c19 : PySem.W.codeIn K cd19 "_law_stuff" = true) (k19 : PySem.W.keepIn K (.ref f19) = true)
    (a20 : PySem.W.nsIn K mainGlobals "_law_odd_name" = some (some (.ref f20))) (l20 : K.lookup f20 = some ⟨oc20, od20, .func (PySem.W.fnOf "_law_odd_name" "_law_odd_name" (defArgs s__law_odd_name) (defBody s__law_odd_name) (defScope s__law_odd_name) .none kV20 dc20 pm20 an20 cd20 ct20), sl20⟩) (c20 : PySem.W.codeIn K cd20 "_law_odd_name" = true) (k20 : PySem.W.keepIn K (.ref f20) = true)
    (a21 : PySem.W.nsIn K mainGlobals "_law_odd_measure" = some (some (.ref f21))) (l21 : K.lookup f21 = some ⟨oc21, od21, .func (PySem.W.fnOf "_law_odd_measure" "_law_odd_measure" (defArgs s__law_odd_measure) (defBody s__law_odd_measure) (defScope s__law_odd_measure) .none kV21 dc21 pm21 an21 cd21 ct21), sl21⟩) (c21 : PySem.W.codeIn K cd21 "_law_odd_measure" = true) (k21 : PySem.W.keepIn K (.ref f21) = true)
    (a22 : PySem.W.nsIn K mainGlobals "_law_spoilt" = some (some (.ref f22))) (l22 : K.lookup f22 = some ⟨oc22, od22, .func (PySem.W.fnOf "_law_spoilt" "_law_spoilt" (defArgs s__law_spoilt) (defBody s__law_spoilt) (defScope s__law_spoilt) .none kV22 dc22 pm22 an22 cd22 ct22), sl22⟩) (c22 : PySem.W.codeIn K cd22 "_law_spoilt" = true) (k22 : PySem.W.keepIn K (.ref f22) = true)
    (a23 : PySem.W.nsIn K mainGlobals "_law_is_name" = some (some (.ref f23))) (l23 : K.lookup f23 = some ⟨oc23, od23, .func (PySem.W.fnOf "_law_is_name" "_law_is_name" (defArgs s__law_is_name) (defBody s__law_is_name) (defScope s__law_is_name) .none kV23 dc23 pm23 an23 cd23 ct23), sl23⟩) (c23 : PySem.W.codeIn K cd23 "_law_is_name" = true) (k23 : PySem.W.keepIn K (.ref f23) = true)
    (a24 : PySem.W.nsIn K mainGlobals "_law_is_whole" = some (some (.ref f24))) (l24 : K.lookup f24 = some ⟨oc24, od24, .func (PySem.W.fnOf "_law_is_whole" "_law_is_whole" (defArgs s__law_is_whole) (defBody s__law_is_whole) (defScope s__law_is_whole) .none kV24 dc24 pm24 an24 cd24 ct24), sl24⟩) (c24 : PySem.W.codeIn K cd24 "_law_is_whole" = true) (k24 : PySem.W.keepIn K (.ref f24) = true)
    (a25 : PySem.W.nsIn K mainGlobals "_law_is_measure" = some (some (.ref f25))) (l25 : K.lookup f25 = some ⟨oc25, od25, .func (PySem.W.fnOf "_law_is_measure" "_law_is_measure" (defArgs s__law_is_measure) (defBody s__law_is_measure) (defScope s__law_is_measure) .none kV25 dc25 pm25 an25 cd25 ct25), sl25⟩) (c25 : PySem.W.codeIn K cd25 "_law_is_measure" = true) (k25 : PySem.W.keepIn K (.ref f25) = true)
    (a26 : PySem.W.nsIn K mainGlobals "_law_due" = some (some (.ref f26))) (l26 : K.lookup f26 = some ⟨oc26, od26, .func (PySem.W.fnOf "_law_due" "_law_due" (defArgs s__law_due) (defBody s__law_due) (defScope s__law_due) .none kV26 dc26 pm26 an26 cd26 ct26), sl26⟩) (c26 : PySem.W.codeIn K cd26 "_law_due" = true) (k26 : PySem.W.keepIn K (.ref f26) = true)
    (a27 : PySem.W.nsIn K mainGlobals "_law_field" = some (some (.ref f27))) (l27 : K.lookup f27 = some ⟨oc27, od27, .func (PySem.W.fnOf "_law_field" "_law_field" (defArgs s__law_field) (defBody s__law_field) (defScope s__law_field) .none kV27 dc27 pm27 an27 cd27 ct27), sl27⟩) (c27 : PySem.W.codeIn K cd27 "_law_field" = true) (k27 : PySem.W.keepIn K (.ref f27) = true)
    (a28 : PySem.W.nsIn K mainGlobals "_law_right" = some (some (.ref f28))) (l28 : K.lookup f28 = some ⟨oc28, od28, .func (PySem.W.fnOf "_law_right" "_law_right" (defArgs s__law_right) (defBody s__law_right) (defScope s__law_right) .none kV28 dc28 pm28 an28 cd28 ct28), sl28⟩) (c28 : PySem.W.codeIn K cd28 "_law_right" = true) (k28 : PySem.W.keepIn K (.ref f28) = true)
    (a29 : PySem.W.nsIn K mainGlobals "law" = some (some (.ref f29))) (l29 : K.lookup f29 = some ⟨oc29, od29, .func (PySem.W.fnOf "law" "law" (defArgs s_law) (defBody s_law) (defScope s_law) .none kV29 dc29 pm29 an29 cd29 ct29), sl29⟩) (c29 : PySem.W.codeIn K cd29 "law" = true) (k29 : PySem.W.keepIn K (.ref f29) = true)
    (z_abs : PySem.W.nsIn K mainGlobals "abs" = some none)
    (z_len : PySem.W.nsIn K mainGlobals "len" = some none)
    (z_max : PySem.W.nsIn K mainGlobals "max" = some none)
    (z_min : PySem.W.nsIn K mainGlobals "min" = some none)
    (z_divmod : PySem.W.nsIn K mainGlobals "divmod" = some none)
    (z_repr : PySem.W.nsIn K mainGlobals "repr" = some none)
    (z_all : PySem.W.nsIn K mainGlobals "all" = some none)
    (z_int : PySem.W.nsIn K mainGlobals "int" = some none)
    (z_str : PySem.W.nsIn K mainGlobals "str" = some none)
    (z_range : PySem.W.nsIn K mainGlobals "range" = some none)
    (z_isinstance : PySem.W.nsIn K mainGlobals "isinstance" = some none)
    (z_bool : PySem.W.nsIn K mainGlobals "bool" = some none)
    (z_tuple : PySem.W.nsIn K mainGlobals "tuple" = some none)
    (z_list : PySem.W.nsIn K mainGlobals "list" = some none)
    (z_zip : PySem.W.nsIn K mainGlobals "zip" = some none)
    (z_enumerate : PySem.W.nsIn K mainGlobals "enumerate" = some none)
    (z_super : PySem.W.nsIn K mainGlobals "super" = some none)
    (z_ValueError : PySem.W.nsIn K mainGlobals "ValueError" = some none)
    (g_LETTERS : PySem.W.nsIn K mainGlobals "LETTERS" = some (some (.str (Str.ofString "abcdefghijklmnopqrstuvwxyz") t_LETTERS)))
    (g_LONGEST_NAME : PySem.W.nsIn K mainGlobals "LONGEST_NAME" = some (some (.int 10 t_LONGEST_NAME)))
    (gD : PySem.W.nsIn K mainGlobals "NoStuff" = some (some (.ref D)))
    (xD : K.lookup D = some (excClassObj nm q D NN bs bm true sn sub ab col dd m0 m1 m2 m3 m5 "ValueError.__new__"))
    (rV : PySem.HandSPX.refsVE bm = true)
    (saD : PySem.W.findIn K (.ref D) "__setattr__" = some (some (.builtin "object.__setattr__")))
    (gaD : PySem.W.findIn K (.ref D) "__getattribute__" = some (some (.builtin "BaseException.__getattribute__")))
    (ggD : PySem.W.findIn K (.ref D) "__getattr__" = some (none))
    (noD : PySem.W.findIn K (.ref D) "field" = some (none))
    (clD : PySem.W.findIn K (.ref D) "__class__" = some (some (.builtin "object.__class__")))
    (aI : PySem.W.findIn K (.ref D) "__init__" = some (some (.ref fI)))
    (tI : PySem.W.typeIn K (.ref fI) = some (.type "function"))
    (lI : K.lookup fI = some ⟨ocI, odI, .func (PySem.W.fnX "__init__" "NoStuff.__init__" (defArgs sNoStuff) (defBody sNoStuff) (defScope sNoStuff) [("__class__", cc)] .none kVI dcI pmI anI (.ref cda) ctI), slI⟩)
    (cI : PySem.W.codeIn K (.ref cda) "NoStuff.__init__" = true)
    (lc : K.lookup cda = some ⟨ccl, cdd, .fields vsA, ccs⟩)
    (v2 : vsA[2]? = some (.str file tf))
    (fe : ((l.prog.main.file : Str) == file) = true)
    (ll : K.lookup cc = some ⟨cl, cld, .cell (some (.ref D)), csl⟩)
    (su : PySem.W.ks_superIn K D D "__init__" = some (some (.builtin "ValueError.__init__")))
    (mr : PySem.W.mroIn K D (.ref D) = some true)
    (ve : PySem.W.subIn K (.ref D) (.type "ValueError") = some true)
    (stt : PySem.W.nsIn K cStatics "thirdparty.any" = some none)
    (tp : (l.prog.main.scope.names.lookup ("super" : Str)).isSome = false)
    (bD : PySem.W.subIn K (.ref D) (.type "BaseException") = some true)
    (tD_ : PySem.W.typeIn K (.ref D) = some (.type "type"))
    (kD : PySem.W.keepIn K (.ref D) = true)
    (hD : PySem.W.hasDictIn K D = true)
    (hn : PySem.W.specialIn K (.builtin "object.__class__") "__get__" = some (some (.builtin "getset_descriptor.__get__")))
    (htk : PySem.W.takesIn K (.builtin "object.__class__") = some true)
    (mo : PySem.W.mroIn K D (.type "object") = some true)
    (gL : PySem.W.nsIn K mainGlobals "LoafError" = some (some (.ref cL)))
    (bL : PySem.W.subIn K (.ref cL) (.type "BaseException") = some true)
    (hL : PySem.W.hasDictIn K cL = true)
    (tL : PySem.W.typeIn K (.ref cL) = some (.type "type"))
    (sDL : PySem.W.subIn K (.ref D) (.ref cL) = some true)
    (kVE : PySem.W.kitOne K (.ref D) (.type "ValueError") = some true)
    (gS : PySem.W.nsIn K mainGlobals "Stuff" = some (some (.ref CS)))
    (mkS : PySem.W.makesIn K CS = true)
    (aS : PySem.W.findIn K (.ref CS) "__init__" = some (some (.ref fS)))
    (iS : PySem.W.isFn K (.ref fS) = true)
    (kS : PySem.W.keepIn K (.ref CS) = true)
    (lS : K.lookup fS = some ⟨ocS, odS, .func (PySem.W.fnOf "__init__" "Stuff.__init__" (defArgs s_init) (defBody s_init) (defScope s_init) (.ref TS) kVS dcS pmS anS cdS ctS), slS⟩)
    (cS : PySem.W.codeIn K cdS "Stuff.__init__" = true)
    (kfS : PySem.W.keepIn K (.ref fS) = true)
    (lT : K.lookup TS = some ⟨tc, td, .seq #[.none, .none, .none, .none, .none] nT, tsl⟩)
    (pg : PySem.W.plainGet K CS Str.empty = true)
    (hdS : PySem.W.hasDictIn K CS = true)
    (po : PySem.W.plainOver K CS = true)
    (saS : PySem.W.findIn K (.ref CS) "__setattr__" = some (some (.builtin "object.__setattr__")))
    (n1_ : PySem.W.findIn K (.ref CS) "own_name" = some (none))
    (n2_ : PySem.W.findIn K (.ref CS) "measures" = some (none))
    (gc0 : PySem.W.nsIn K mainGlobals "NONE_OF_IT" = some (some (.ref kc0)))
    (gc1 : PySem.W.nsIn K mainGlobals "ALL_OF_IT" = some (some (.ref kc1)))
    (gcw : PySem.W.nsIn K mainGlobals "WORDS" = some (some (.ref kcw)))
    (lc0 : K.lookup kc0 = some ⟨.type "tuple", d0, .seq #[.int 0 t00, .int 1 t01] n0, s0⟩)
    (lc1 : K.lookup kc1 = some ⟨.type "tuple", d1, .seq #[.int 1 t10, .int 1 t11] n1, s1⟩)
    (lcw : K.lookup kcw = some ⟨.type "tuple", dw, .seq #[.str "flour" tw0, .str "water" tw1, .str "salt" tw2, .str "thirst" tw3, .str "price" tw4] nw_, sw⟩) :
    ∃ fd : FuncData, (∀ (s : Shared) (v : Value), BindsTo s fd ⟨[v], []⟩ [("_law_script", v)]) ∧ ∀ base : Heap, K.In base → base.Ns mainGlobals mg → FnG l.prog w K mg base CX0 13 fa fd ["_law_script"] (sp_law K) := by
  have e := hfa.symm.trans (PySem.W.mg_of X G a29)
  cases e
  have T : ExT K mg "NoFraction" C := ⟨PySem.W.mg_of X G aC, xC, kC, bC, tC, exm_self bC iC tC sC⟩
  have M : Blt mg := ⟨PySem.W.mg_none_of X G z_abs, PySem.W.mg_none_of X G z_len, PySem.W.mg_none_of X G z_max, PySem.W.mg_none_of X G z_min, PySem.W.mg_none_of X G z_divmod, PySem.W.mg_none_of X G z_repr, PySem.W.mg_none_of X G z_all, PySem.W.mg_none_of X G z_int, PySem.W.mg_none_of X G z_str, PySem.W.mg_none_of X G z_range⟩
  have D0 := df_is_whole X G a0 l0 c0 k0
  have D1 := df_common X G a1 l1 c1 k1
  have D2 := df_fraction X G a2 l2 c2 k2
  have D3 := df_plus X G a3 l3 c3 k3
  have D4 := df_together X G a4 l4 c4 k4
  have D5 := df_is_less X G a5 l5 c5 k5
  have D6 := df_is_fraction X G a6 l6 c6 k6
  have D7 := df_is_name X G a7 l7 c7 k7
  have D8 := df_measure_or_none_of_it X G a8 l8 c8 k8
  have D9 := df_is_measure X G a9 l9 c9 k9
  have D10 := df_are_too_much X G a10 l10 c10 k10
  have D11 := df_first_wrong X G a11 l11 c11 k11
  have D12 := df__law_cell X G a12 l12 c12 k12
  have D13 := df__law_pot X G a13 l13 c13 k13
  have D14 := df__law_draw X G a14 l14 c14 k14
  have D15 := df__law_low X G a15 l15 c15 k15
  have D16 := df__law_sum X G a16 l16 c16 k16
  have D17 := df__law_name X G a17 l17 c17 k17
  have D18 := df__law_some X G a18 l18 c18 k18
  have D19 := df__law_stuff X G a19 l19 c19 k19
  have D20 := df__law_odd_name X G a20 l20 c20 k20
  have D21 := df__law_odd_measure X G a21 l21 c21 k21
  have D22 := df__law_spoilt X G a22 l22 c22 k22
  have D23 := df__law_is_name X G a23 l23 c23 k23
  have D24 := df__law_is_whole X G a24 l24 c24 k24
  have D25 := df__law_is_measure X G a25 l25 c25 k25
  have D26 := df__law_due X G a26 l26 c26 k26
  have D27 := df__law_field X G a27 l27 c27 k27
  have D28 := df__law_right X G a28 l28 c28 k28
  have D29 := df_law X G a29 l29 c29 k29
  refine ⟨_, fun s v => D29.b1 s [v] rfl, fun base _ _ => ?_⟩
  have Mx : Bltx mg := ⟨PySem.W.mg_none_of X G z_isinstance, PySem.W.mg_none_of X G z_bool, PySem.W.mg_none_of X G z_tuple⟩
  have CT : Cst K mg kc0 kc1 kcw := ⟨PySem.W.mg_of X G gc0, PySem.W.mg_of X G gc1, PySem.W.mg_of X G gcw, fun H => .inr ⟨_, _, _, lc0, rfl, rfl, (by show 2 ≤ sizeLine; decide), .cons ⟨_, rfl⟩ (.cons ⟨_, rfl⟩ .nil)⟩, fun H => .inr ⟨_, _, _, lc1, rfl, rfl, (by show 2 ≤ sizeLine; decide), .cons ⟨_, rfl⟩ (.cons ⟨_, rfl⟩ .nil)⟩,
    fun H => .inr ⟨_, _, _, lcw, rfl, rfl, (by show 5 ≤ sizeLine; decide), .cons ⟨_, rfl⟩ (.cons ⟨_, rfl⟩ (.cons ⟨_, rfl⟩ (.cons ⟨_, rfl⟩ (.cons ⟨_, rfl⟩ .nil))))⟩⟩
  have OX : OexC K D := ⟨⟨nm, q, NN, bs, bm, sn, sub, ab, col, dd, m0, m1, m2, m3, m5, xD, rV⟩, saD, bD, tD_, kD⟩
  have XF : XFun l.prog K "NoStuff.__init__" sNoStuff D fI (PySem.W.fnX "__init__" "NoStuff.__init__" (defArgs sNoStuff) (defBody sNoStuff) (defScope sNoStuff) [("__class__", cc)] .none kVI dcI pmI anI (.ref cda) ctI) cc cda :=
    ⟨⟨_, _, _, _, _, _, rfl⟩, ⟨⟨_, _, _, lI⟩, ⟨_, _, _, _, _, _, lc, v2, fe⟩, ⟨_, _, _, ll⟩, su, mr, ve, stt, tp⟩, cI⟩
  have XTD : XT l.prog K mg "NoStuff" "NoStuff.__init__" "field" sNoStuff D fI _ cc cda := ⟨PySem.W.mg_of X G gD, OX, aI, tI, XF, .all (fun us hl => match us, hl with | [_, _], _ => rfl), PySem.W.mg_none_of X G z_super, noD⟩
  have EC : ExcC K D := ⟨gaD, ggD, bD, hD, clD, hn, htk, mo⟩
  have FC : XfC K D := ⟨gaD, ggD, bD, hD⟩
  have FDS : FunD K "__init__" "Stuff.__init__" (defArgs s_init) (defBody s_init) (defScope s_init) [.non, .non, .non, .non, .non] [] fS _ := ⟨⟨_, _, _, _, _, _, _, _, _, _, rfl, lS, cS, .inr ⟨(fun z => nomatch z), TS, _, [.none, .none, .none, .none, .none], _, rfl, lT, rfl, .cons rfl (.cons rfl (.cons rfl (.cons rfl (.cons rfl .nil))))⟩, .inl rfl⟩, kfS⟩
  obtain ⟨its, hb⟩ := L2.FunD.kbindsD (ps := ["self", "name", "flour", "water", "salt", "thirst", "price"]) FDS (6 + 1) [] (fun us _ _ => us) (fun z => nomatch z) (fun r _ _ => r) (fun T kV doc pm an cdv ct us its ws h1 h2 h3 => by
    match us, its, ws, h1, h2, h3 with
    | [_, _, _, _, _, _, _], [_, _, _, _, _], [], _, _, _ => exact ⟨_, rfl, rfl⟩)
  have C1 : Cal l.prog w K mg base CX0 1 "common" ["one", "other"] spCom := D1.cal (ok_com D1.fn)
  have C2 : Cal l.prog w K mg base CX0 2 "fraction" ["top", "bottom"] (fun _ _ _ _ => False) := D2.cal FnG.no
  have C4 : Cal l.prog w K mg base CX0 4 "fraction" ["top", "bottom"] (spFrac true) := by
    have P1 : FnG l.prog w K mg base CX0 3 _ _ ["top", "bottom"] (spFrac false) := ok_frac (j := 1) false _ (fun n d H Q hd hs => by
      obtain ⟨n', d', e, _, hp, _⟩ := hs
      cases e
      have := hp rfl
      omega) M T D2.fn C1 C2
    have CR : Cal l.prog w K mg base CX0 3 "fraction" ["top", "bottom"] (spFrac false) := D2.cal P1
    exact D2.cal (ok_frac (j := 2) true _ (fun n d H Q hd hs => by
      obtain ⟨n', d', e, h0, _, h1, h2, q⟩ := hs
      cases e
      refine ⟨-n, -d, rfl, by omega, fun _ => by omega, ?_, ?_, ?_⟩
      · show (-n).natAbs < _
        rw [Int.natAbs_neg]
        exact h1
      · show (-d).natAbs < _
        rw [Int.natAbs_neg]
        exact h2
      · rw [low_neg]
        exact q) M T D2.fn C1 CR)
  have CP : Cal l.prog w K mg base CX0 5 "plus" ["one", "other"] (sp_plus K) := D3.cal (ok_plus D3.fn C4)
  have CTg : Cal l.prog w K mg base CX0 6 "together" ["ones"] (sp_togL K) := D4.cal (ok_togL CT.g0 CT.t0 D4.fn CP)
  have CL : Cal l.prog w K mg base CX0 1 "is_less" ["one", "other"] (sp_is_less K) := D5.cal (ok_is_less D5.fn)
  have CW : Cal l.prog w K mg base CX0 1 "is_whole" ["thing"] (sp_whole K) := D0.cal (ok_whole M Mx D0.fn)
  have CF : Cal l.prog w K mg base CX0 2 "is_fraction" ["thing"] (sp_isfr K) := D6.cal (ok_isfr M Mx D6.fn CW C1)
  have CN : Cal l.prog w K mg base CX0 2 "is_name" ["thing"] (sp_isnm K) := D7.cal (ok_isnm M Mx (PySem.W.mg_of X G g_LETTERS) (PySem.W.mg_of X G g_LONGEST_NAME) D7.fn)
  have CO : Cal l.prog w K mg base CX0 1 "measure_or_none_of_it" ["measure"] (sp_orNone K) := D8.cal (ok_orNone CT D8.fn)
  have CM : Cal l.prog w K mg base CX0 3 "is_measure" ["thing"] (sp_isM K) := D9.cal (ok_isM D9.fn CF)
  have CX_ : Cal l.prog w K mg base CX0 7 "are_too_much" ["flour", "water", "salt"] (sp_too K) := D10.cal (ok_too CT D10.fn CTg CL)
  have CFW : Cal l.prog w K mg base CX0 8 "first_wrong" ["name", "measures"] (sp_fw K) := D11.cal (ok_fw (PySem.W.mg_none_of X G z_zip) CT D11.fn CN CM CX_)
  have FI := ok_init (P := l.prog) (w := w) (base := base) (c0 := kc0) (c1 := kc1) (cw := kcw) M Mx XTD ⟨pg, hdS, po, saS⟩ n1_ n2_ FDS CO CFW
  have MS : MakG l.prog w K mg base (L2.CX l.prog w) 9 "Stuff" CS fS _ ["self", "name", "flour", "water", "salt", "thirst", "price"] (sp_init K CS D) := ⟨⟨mkS, aS, iS, kS⟩, FI, PySem.W.mg_of X G gS⟩
  have B1 : Cal l.prog w K mg base CX0 1 "_law_cell" ["_law_script", "_law_k"] (sp_cell K) := D12.cal (ok_cell M D12.fn)
  have B2 : Cal l.prog w K mg base CX0 1 "_law_pot" ["_law_cell_here"] sp_pot := D13.cal (ok_pot M D13.fn)
  have B3 : Cal l.prog w K mg base CX0 1 "_law_draw" ["_law_pot_here", "_law_many"] sp_draw := D14.cal (ok_draw M D14.fn)
  have B4 : Cal l.prog w K mg base CX0 1 "_law_low" ["_law_top", "_law_bottom"] sp_low := D15.cal (ok_low M D15.fn)
  have B5 : Cal l.prog w K mg base CX0 11 "_law_field" ["_law_args"] (sp_field K) := D27.cal (ok_field Mx (PySem.W.mg_none_of X G z_ValueError) XTD EC FC (PySem.W.mg_of X G gL) (PySem.W.exm_ref bL hL tL sDL) kVE D27.fn MS hb)
  have B6 : Cal l.prog w K mg base CX0 2 "_law_name" ["_law_pot_here", "_law_taken"] (sp_name K) := D17.cal (ok_name M D17.fn B3)
  have B7 : Cal l.prog w K mg base CX0 1 "_law_is_whole" ["_law_thing"] (sp_whole K) := D24.cal (ok_lwhole M Mx D24.fn)
  have B8 : Cal l.prog w K mg base CX0 2 "_law_is_name" ["_law_thing"] (sp_lisnm K) := D23.cal (ok_lisnm M Mx D23.fn)
  have B9 : Cal l.prog w K mg base CX0 2 "_law_is_measure" ["_law_thing"] (sp_lism K) := D25.cal (ok_lism M Mx D25.fn B7 B4)
  have B10 : Cal l.prog w K mg base CX0 2 "_law_sum" ["_law_one", "_law_other"] (sp_plus K) := D16.cal (ok_lsum D16.fn B4)
  have B11 : Cal l.prog w K mg base CX0 3 "_law_due" ["_law_args"] (sp_due K) := D26.cal (ok_due (PySem.W.mg_none_of X G z_enumerate) D26.fn B8 B9 B10)
  have B12 : Cal l.prog w K mg base CX0 2 "_law_some" ["_law_pot_here", "_law_least", "_law_most"] sp_some := D18.cal (ok_some D18.fn B3 B4)
  have B13 : Cal l.prog w K mg base CX0 3 "_law_stuff" ["_law_pot_here", "_law_name_here"] (sp_stuff K) := D19.cal (ok_stuff M Mx D19.fn B3 B4 B12)
  have B14 : Cal l.prog w K mg base CX0 2 "_law_odd_name" ["_law_pot_here", "_law_name_here"] (sp_oddn K) := D20.cal (ok_oddn M D20.fn B3)
  have B15 : Cal l.prog w K mg base CX0 2 "_law_odd_measure" ["_law_pot_here", "_law_one"] (sp_oddm K) := D21.cal (ok_oddm M D21.fn B3)
  have B16 : Cal l.prog w K mg base CX0 3 "_law_spoilt" ["_law_pot_here", "_law_row"] (sp_spoilt K) := D22.cal (ok_spoilt M (PySem.W.mg_none_of X G z_list) D22.fn B3 B4 B14 B15)
  have B17 : Cal l.prog w K mg base CX0 12 "_law_right" ["_law_pot_here"] sp_right := D28.cal (ok_right M (PySem.W.mg_none_of X G z_list) D28.fn B6 B13 B16 B11 B5)
  exact ok_law M D29.fn B1 B2 B17
end Lf

set_option Elab.async false
set_option linter.all false
set_option maxRecDepth 100000
open PySem PySem.W PyProof.Rows
set_option maxHeartbeats 0 in
theorem PySem.Challenge.cw_loafshares_k14_whole_no_stuffs_holds : PySem.Challenge.rw_loafshares_k14_whole_no_stuffs.Holds := by
  w_on; o_law; k_head; (case hw => w_witness2)
  k_fill
  refine Lf.walkG (l := PySem.Challenge.rw_loafshares_k14_whole_no_stuffs) (n := 63) (k := 13) (x := "_law_script") (sp := Lf.sp_law) rfl (by decide) rfl ⟨rfl, by decide, by decide⟩ (fun w h Y => PySem.W.kIn_of Y) ?F (fun K H a ns hl _ hS => ⟨a, ns, rfl, hS, hl, fun _ => rfl⟩)
  case F =>
    intro w mg fa h KX G hmg
    refine' Lf.all_mk KX G hmg ?aC ?xC ?kC ?bC ?tC ?iC ?sC ?a0 ?l0 ?c0 ?k0 ?a1 ?l1 ?c1 ?k1 ?a2 ?l2 ?c2 ?k2 ?a3 ?l3 ?c3 ?k3 ?a4 ?l4 ?c4 ?k4 ?a5 ?l5 ?c5 ?k5 ?a6 ?l6 ?c6 ?k6 ?a7 ?l7 ?c7 ?k7 ?a8 ?l8 ?c8 ?k8 ?a9 ?l9 ?c9 ?k9 ?a10 ?l10 ?c10 ?k10 ?a11 ?l11 ?c11 ?k11 ?a12 ?l12 ?c12 ?k12 ?a13 ?l13 ?c13 ?k13 ?a14 ?l14 ?c14 ?k14 ?a15 ?l15 ?c15 ?k15 ?a16 ?l16 ?c16 ?k16 ?a17 ?l17 ?c17 ?k17 ?a18 ?l18 ?c18 ?k18 ?a19 ?l19 ?c19 ?k19 ?a20 ?l20 ?c20 ?k20 ?a21 ?l21 ?c21 ?k21 ?a22 ?l22 ?c22 ?k22 ?a23 ?l23 ?c23 ?k23 ?a24 ?l24 ?c24 ?k24 ?a25 ?l25 ?c25 ?k25 ?a26 ?l26 ?c26 ?k26 ?a27 ?l27 ?c27 ?k27 ?a28 ?l28 ?c28 ?k28 ?a29 ?l29 ?c29 ?k29 ?z_abs ?z_len ?z_max ?z_min ?z_divmod ?z_repr ?z_all ?z_int ?z_str ?z_range ?z_isinstance ?z_bool ?z_tuple ?z_list ?z_zip ?z_enumerate ?z_super ?z_ValueError ?g_LETTERS ?g_LONGEST_NAME ?gD ?xD ?rV ?saD ?gaD ?ggD ?noD ?clD ?aI ?tI ?lI ?cI ?lc ?v2 ?fe ?ll ?su ?mr ?ve ?stt ?tp ?bD ?tD_ ?kD ?hD ?hn ?htk ?mo ?gL ?bL ?hL ?tL ?sDL ?kVE ?gS ?mkS ?aS ?iS ?kS ?lS ?cS ?kfS ?lT ?pg ?hdS ?po ?saS ?n1_ ?n2_ ?gc0 ?gc1 ?gcw ?lc0 ?lc1 ?lcw
    (case aC => k_is); (case xC => k_exc); (case kC => k_is); (case bC => k_is); (case tC => k_is); (case iC => k_is); (case sC => first | rfl | k_is)
    (case a0 => k_is); (case l0 => k_is); (case c0 => k_is); (case k0 => k_is)
    (case a1 => k_is); (case l1 => k_is); (case c1 => k_is); (case k1 => k_is)
    (case a2 => k_is); (case l2 => k_is); (case c2 => k_is); (case k2 => k_is)
    (case a3 => k_is); (case l3 => k_is); (case c3 => k_is); (case k3 => k_is)
    (case a4 => k_is); (case l4 => k_is); (case c4 => k_is); (case k4 => k_is)
    (case a5 => k_is); (case l5 => k_is); (case c5 => k_is); (case k5 => k_is)
    (case a6 => k_is); (case l6 => k_is); (case c6 => k_is); (case k6 => k_is)
    (case a7 => k_is); (case l7 => k_is); (case c7 => k_is); (case k7 => k_is)
    (case a8 => k_is); (case l8 => k_is); (case c8 => k_is); (case k8 => k_is)
    (case a9 => k_is); (case l9 => k_is); (case c9 => k_is); (case k9 => k_is)
    (case a10 => k_is); (case l10 => k_is); (case c10 => k_is); (case k10 => k_is)
    (case a11 => k_is); (case l11 => k_is); (case c11 => k_is); (case k11 => k_is)
    (case a12 => k_is); (case l12 => k_is); (case c12 => k_is); (case k12 => k_is)
    (case a13 => k_is); (case l13 => k_is); (case c13 => k_is); (case k13 => k_is)
    (case a14 => k_is); (case l14 => k_is); (case c14 => k_is); (case k14 => k_is)
    (case a15 => k_is); (case l15 => k_is); (case c15 => k_is); (case k15 => k_is)
    (case a16 => k_is); (case l16 => k_is); (case c16 => k_is); (case k16 => k_is)
    (case a17 => k_is); (case l17 => k_is); (case c17 => k_is); (case k17 => k_is)
    (case a18 => k_is); (case l18 => k_is); (case c18 => k_is); (case k18 => k_is)
    (case a19 => k_is); (case l19 => k_is); (case c19 => k_is); (case k19 => k_is)
    (case a20 => k_is); (case l20 => k_is); (case c20 => k_is); (case k20 => k_is)
    (case a21 => k_is); (case l21 => k_is); (case c21 => k_is); (case k21 => k_is)
    (case a22 => k_is); (case l22 => k_is); (case c22 => k_is); (case k22 => k_is)
    (case a23 => k_is); (case l23 => k_is); (case c23 => k_is); (case k23 => k_is)
    (case a24 => k_is); (case l24 => k_is); (case c24 => k_is); (case k24 => k_is)
    (case a25 => k_is); (case l25 => k_is); (case c25 => k_is); (case k25 => k_is)
    (case a26 => k_is); (case l26 => k_is); (case c26 => k_is); (case k26 => k_is)
    (case a27 => k_is); (case l27 => k_is); (case c27 => k_is); (case k27 => k_is)
    (case a28 => k_is); (case l28 => k_is); (case c28 => k_is); (case k28 => k_is)
    (case a29 => k_is); (case l29 => k_is); (case c29 => k_is); (case k29 => k_is)
    (case z_abs => k_is); (case z_len => k_is); (case z_max => k_is); (case z_min => k_is); (case z_divmod => k_is); (case z_repr => k_is); (case z_all => k_is); (case z_int => k_is); (case z_str => k_is); (case z_range => k_is); (case z_isinstance => k_is); (case z_bool => k_is); (case z_tuple => k_is); (case z_list => k_is); (case z_zip => k_is); (case z_enumerate => k_is); (case z_super => k_is); (case z_ValueError => k_is); (case g_LETTERS => k_is); (case g_LONGEST_NAME => k_is)
    (case gD => k_is)
    (case xD => k_is)
    (case rV => decide +kernel)
    (case saD => k_is)
    (case gaD => k_is)
    (case ggD => k_is)
    (case noD => k_is)
    (case clD => k_is)
    (case aI => k_is)
    (case tI => k_is)
    (case lI => k_is)
    (case cI => k_is)
    (case lc => k_is)
    (case v2 => first | rfl | k_is)
    (case fe => first | rfl | decide +kernel | k_is)
    (case ll => k_is)
    (case su => first | ks_is | k_is)
    (case mr => first | k_is | ks_is)
    (case ve => k_is)
    (case stt => k_is)
    (case tp => first | rfl | decide +kernel)
    (case bD => k_is)
    (case tD_ => k_is)
    (case kD => k_is)
    (case hD => k_is)
    (case hn => first | k_is | rfl)
    (case htk => first | k_is | rfl)
    (case mo => first | k_is | ks_is)
    (case gL => k_is)
    (case bL => k_is)
    (case hL => k_is)
    (case tL => k_is)
    (case sDL => first | k_is | rfl)
    (case kVE => first | k_is | ks_is | rfl)
    (case gS => k_is)
    (case mkS => k_is)
    (case aS => k_is)
    (case iS => k_is)
    (case kS => k_is)
    (case lS => k_is)
    (case cS => k_is)
    (case kfS => k_is)
    (case lT => k_is)
    (case pg => k_is)
    (case hdS => k_is)
    (case po => k_is)
    (case saS => k_is)
    (case n1_ => k_is)
    (case n2_ => k_is)
    (case gc0 => k_is)
    (case gc1 => k_is)
    (case gcw => k_is)
    (case lc0 => k_is)
    (case lc1 => k_is)
    (case lcw => k_is)
