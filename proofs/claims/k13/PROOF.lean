import PyProof.Rows.All
import Wide.All
import OpenK.AllK
import Wide.FinOn
import HandS.ForExc
import HandS.Comp
import HandS.Wide
import HandS.FStr
import HandS.CallLocal
import HandS.WideBits
import HandS.Text
import HandS.IsInst
import HandS.Dict
import HandS.Steps
import HandS.Walk
import HandS.Deep
import HandS.Zip
import KE.KExcSuper
import HandS.Nested
import HandS.ExcInit
import HandS.Defaults
import HandS.MakeKw
import HandS.ExcField
import HandS.ExcIs
import PyProof.CallFns
import HandS.OwnEq
import HandS.Star
import HandS.Strs
import PyProof.Rows.AssignMoreSeq
import HandS.Iter
import HandS.TupAny
import HandS.TupLe
import HandS.TupMul
import PySem.Challenge.RW_loafshares_k13_stuffs_told
set_option Elab.async false
set_option linter.all false
set_option maxRecDepth 100000
set_option maxHeartbeats 4000000
/-! Defs that show data by repr: the promise FnG holds where nothing is being shown (no guard stands), as it is behind a law's call. -/
namespace Lf
open PySem PySem.Spec PyProof.Rows L2
/-- a def's promise where no guard stands -/
structure FnG (P : Program) (w : World) (K : PySem.W.Frag) (mg : Str → Option Value) (base : Heap) (CX : CXT) (k : Nat) (f : Addr) (fd : FuncData) (ps : List Str) (sp : Sp) : Prop where
  size : ∀ vs H Q E, sp vs H Q E → vs.length = ps.length
  goes : ∀ (B : Around) (out : List Env) (s : Shared) (H : Hp) (ar : Args) (us : List Value) (vs : List V) (Q : VK) (E : XK),
    Room k B → B.guards = some [] → Env0 P w K mg base B out s H → BindsTo s fd ar (ps.zip us) → Vals vs us → sp vs H Q E →
      codeAny (model P w) B (.call (.ref f) ar) (CR CX out P w H s Q E) s
section
variable {P : Program} {w : World} {K : PySem.W.Frag} {mg : Str → Option Value} {base : Heap} {CX : CXT} {k : Nat} {f : Addr} {fd : FuncData} {ps : List Str} {sp : Sp}
theorem FnG.mono {j : Nat} (F : FnG P w K mg base CX j f fd ps sp) (h : j ≤ k) : FnG P w K mg base CX k f fd ps sp :=
  ⟨F.size, fun B out s H ar us vs Q E r => F.goes B out s H ar us vs Q E (r.mono h)⟩
theorem FnG.of (F : FnOk P w K mg base CX k f fd ps sp) : FnG P w K mg base CX k f fd ps sp :=
  ⟨F.len, fun B out s H ar us vs Q E r _ => F.run B out s H ar us vs Q E r⟩
/-- by its body: behind the entry no guard stands either -/
theorem GfunX {x qual : Str} {st : Stmt} {N : List Str} (F : Fun K x qual st f fd) (S : FnScope N ps (defScope st)) (size : ∀ vs H Q E, sp vs H Q E → vs.length = ps.length)
    (body : ∀ (cdv : Value) (B : Around) (out : List Env) (s : Shared) (H : Hp) (vs : List V) (Q : VK) (E : XK), B.guards = some [] →
      Room k (B.deeper (envOfC qual (defScope st) s.heap.objs.size f cdv)) → sp vs H Q E →
      ∃ t, PSs (cxOf CX P w K mg base N qual (defScope st) f cdv B out s H E) (defBody st) t ∧
        t { nx := fun _ H' => Q .non H', rt := Q } (start N vs) H) : FnG P w K mg base CX (k + 1) f fd ps sp := by
  obtain ⟨oc, od, kV, doc, pm, an, cdv, ct, osl, rfl, lk, hcd⟩ := F.ex
  refine ⟨size, fun B out s H ar us vs Q E hr hg e0 hb r hs => ?_⟩
  have old : ∀ b o, base.get? b = some o → s.heap.get? b = some o := fun b o e => (e0.bs b o e).1
  have kin : K.In s.heap := e0.mod.kin.keeps old
  refine codeAny_call_function hr.depth (kin _ _ lk) rfl S.co S.gen rfl (PySem.W.codeRec_of kin hcd) (hb _ _ _ _ ?_)
  refine wpAny_newFunctionEnv_cells S.kind (fun ⟨n, v⟩ hy => ?_) fun env he s1 x => ?_
  · rcases S.par n (List.of_mem_zip hy).1 with q | q
    · exact Or.inl q
    · exact Or.inr ⟨q, PySem.W.cellsFrom_some _ _ _ (Or.inl q)⟩
  · subst he
    refine ⟨(e0.mod.nolimit.keeps old).keeps x.toInCall.keep, codeAny_func ?_⟩
    obtain ⟨t, ht, hq⟩ := body cdv B out s H vs Q E hg (hr.deeper _) hs
    have I := inv_start (CX := CX) (N := N) (qual := qual) (cd := cdv) (E := E) S hr.hd e0 (size _ _ _ _ hs) r x
    refine wpAny_mono (ht.run [] s1 (start N vs) H _ I hq) (fun fl s' hs' => ?_) fun e s' z => z
    cases fl with
    | ret u =>
      obtain ⟨v, σ', H', J, rv, q⟩ := hs'
      exact ⟨v, H', J.os, J.bare, J.base, J.hok, rv, q⟩
    | next =>
      obtain ⟨σ', H', J, q⟩ := hs'
      exact ⟨V.non, H', J.os, J.bare, J.base, J.hok, rfl, q⟩
    | brk =>
      obtain ⟨_, _, _, q⟩ := hs'
      exact q.elim
    | cont =>
      obtain ⟨_, _, _, q⟩ := hs'
      exact q.elim
theorem Gfun {x qual : Str} {st : Stmt} {N : List Str} (F : Fun K x qual st f fd) (S : FnScope N ps (defScope st)) (size : ∀ vs H Q E, sp vs H Q E → vs.length = ps.length)
    (body : ∀ (cdv : Value) (B : Around) (out : List Env) (s : Shared) (H : Hp) (vs : List V) (Q : VK) (E : XK), B.guards = some [] →
      Room k (B.deeper (envOfC qual (defScope st) s.heap.objs.size f cdv)) → sp vs H Q E →
      ∃ t, PSs (cxOf CX0 P w K mg base N qual (defScope st) f cdv B out s H E).nox (defBody st) t ∧
        t { nx := fun _ H' => Q .non H', rt := Q } (start N vs) H) : FnG P w K mg base CX0 (k + 1) f fd ps sp :=
  GfunX F S size fun cdv B out s H vs Q E hg hr hs => by
    obtain ⟨t, ht, hq⟩ := body cdv B out s H vs Q E hg hr hs
    exact ⟨t, ht.nox, hq⟩
end
/-- a def of the module's name x that keeps sp, by level k -/
structure Cal (P : Program) (w : World) (K : PySem.W.Frag) (mg : Str → Option Value) (base : Heap) (CX : CXT) (k : Nat) (x : Str) (ps : List Str) (sp : Sp) : Prop where
  ex : ∃ (f : Addr) (fd : FuncData), FnG P w K mg base CX k f fd ps sp ∧ (∀ (s : Shared) (us : List Value), us.length = ps.length → BindsTo s fd ⟨us, []⟩ (ps.zip us)) ∧
    (∀ (s : Shared) (us : List Value), us.length = ps.length → BindsTo s fd ⟨[], ps.zip us⟩ (ps.zip us)) ∧
    (∀ (s : Shared) (us : List Value), us.length = ps.length → BindsTo s fd ⟨[], ps.reverse.zip us⟩ (ps.zip us.reverse)) ∧ mg x = some (.ref f) ∧ PySem.W.keepIn K (.ref f) = true
theorem paired_rev {α β : Type} {R : α → β → Prop} : ∀ {xs : List α} {ys : List β}, Paired R xs ys → Paired R xs.reverse ys.reverse := by
  have app : ∀ {xs : List α} {ys : List β} {x : α} {y : β}, Paired R xs ys → R x y → Paired R (xs ++ [x]) (ys ++ [y]) := by
    intro xs ys x y h r
    induction h with
    | nil => exact .cons r .nil
    | cons q _ ih => exact .cons q ih
  intro xs ys h
  induction h with
  | nil => exact .nil
  | cons r _ ih =>
    rw [List.reverse_cons, List.reverse_cons]
    exact app ih r
section
variable {X : Cx} {CX : CXT} {k i : Nat} {f : Addr} {fd : FuncData} {ps : List Str} {sp : Sp} {x : Str} {p pos : Pos} {e : Expr} {es : List Expr} {kws : List Keyword} {t : TA}
/-- what is raised is wished for at the caller's slots -/
theorem run_g {pins : List (Addr × Obj)} {σ : L2.St} {H : Hp} {s : Shared} {Q : VK} {us : List Value} {vs : List V} {ar : Args} {E : XK} (F : FnG X.prog X.w X.K X.mg X.base CX k f fd ps sp) (hr : Room k X.A) (hG : X.A.guards = some [])
    (hx : PassesAt CX X σ E) (I : Inv X pins σ H s) (hb : BindsTo s fd ar (ps.zip us)) (r : Vals vs us) (h : sp vs H Q E) : wpAny (model X.prog X.w) X.A (call (.ref f) ar.pos ar.kw) (EP X pins σ Q) X.xe s := by
  refine wpAny_call (codeAny_mono (F.goes X.A X.stack s H ar us vs Q E hr hG I.env0 hb r h) fun z s' hq => ?_)
  cases z with
  | error e => exact hx pins H s e s' I hq
  | ok fl =>
    cases fl with
    | ret u => exact I.after hq
    | next => exact False.elim hq
    | brk => exact False.elim hq
    | cont => exact False.elim hq
/-- f(e, ..); E: what is wished of an exception at the slots -/
def tG (sp : Sp) (E : L2.St → XK) (t : TA) : TE := fun σ H Q => t σ H fun vs H1 => sp vs H1 Q (E σ)
theorem pe_gS {E : L2.St → XK} (C : Cal X.prog X.w X.K X.mg X.base CX k x ps sp) (hr : Room k X.A) (hG : X.A.guards = some []) (hx : ∀ σ, PassesAt CX X σ (E σ)) (ha : PA X (e :: es) t) (hg : Gl X x := by rfl)
    (hdb : (x == ("__debug__" : Str)) = false := by decide) (he : starEach (e :: es) X.env = (false, eval e X.env) :: starEach es X.env := by rfl)
    (hpl : (backTo pos (starEach es X.env)).any (·.1) = false := by rfl) : PE X (.Call (.Name x p) (e :: es) [] pos) (tG sp E t) := by
  obtain ⟨f, fd, F, hb, _, _, hm, hk⟩ := C.ex
  refine ⟨fun pins s σ H Q I h => wpAny_Call_Name_kw (ld_glob I hg hm (PySem.W.callWith_K (h₀ := X.base) I.ok.mod.kin hk
    (thn (ha.run pos pins s σ H _ I h) fun us s1 ⟨vs, H1, I1, r, q⟩ => ⟨I1.kIn, ?_⟩) he hpl) hdb)⟩
  exact run_g (ar := ⟨us, []⟩) F hr hG (hx σ) I1 (hb s1 us (r.length.symm.trans (F.size _ _ _ _ q))) r q
theorem pass_no {σ : L2.St} : PassesAt CX0 X σ E0 := fun _ _ _ _ _ _ z => z.elim
theorem pe_g (C : Cal X.prog X.w X.K X.mg X.base CX0 k x ps sp) (hr : Room k X.A) (hG : X.A.guards = some []) (ha : PA X (e :: es) t) (hg : Gl X x := by rfl)
    (hdb : (x == ("__debug__" : Str)) = false := by decide) (he : starEach (e :: es) X.env = (false, eval e X.env) :: starEach es X.env := by rfl)
    (hpl : (backTo pos (starEach es X.env)).any (·.1) = false := by rfl) : PE X (.Call (.Name x p) (e :: es) [] pos) (tG sp (fun _ => E0) t) :=
  pe_gS C hr hG (fun _ => pass_no) ha hg hdb he hpl
/-- f(a = e, ..): all by names, in the parameters' order -/
theorem pe_gk (C : Cal X.prog X.w X.K X.mg X.base CX0 k x ps sp) (hr : Room k X.A) (hG : X.A.guards = some []) (ha : PK X kws t) (hks : (backToKw pos (keywordEach kws X.env)).filterMap (·.1) = ps := by rfl) (hg : Gl X x := by rfl)
    (hall : (backToKw pos (keywordEach kws X.env)).all (·.1.isSome) = true := by rfl) (hdb : (x == ("__debug__" : Str)) = false := by decide)
    (hpl : ((backTo pos (starEach [] X.env)).any (·.1) || (backToKw pos (keywordEach kws X.env)).any (·.1.isNone)) = false := by rfl) : PE X (.Call (.Name x p) [] kws pos) (tG sp (fun _ => E0) t) := by
  obtain ⟨f, fd, F, _, hb, _, hm, hk⟩ := C.ex
  refine ⟨fun pins s σ H Q I h => wpAny_Call_Name_kw (ld_glob I hg hm (PySem.W.callWith_KW0 (h₀ := X.base) I.ok.mod.kin hk hall (thn (ha.run pos pins s σ H _ I h) fun us s1 ⟨vs, H1, I1, r, q⟩ => ⟨I1.kIn, ?_⟩) hpl) hdb)⟩
  rw [hks]
  exact run_g (ar := ⟨[], ps.zip us⟩) F hr hG pass_no I1 (hb s1 us (r.length.symm.trans (F.size _ _ _ _ q))) r q
/-- f(b = e, a = ..): all by names, from the last parameter to the first -/
def tGr (sp : Sp) (t : TA) : TE := fun σ H Q => t σ H fun vs H1 => sp vs.reverse H1 Q E0
theorem pe_gr (C : Cal X.prog X.w X.K X.mg X.base CX0 k x ps sp) (hr : Room k X.A) (hG : X.A.guards = some []) (ha : PK X kws t) (hks : (backToKw pos (keywordEach kws X.env)).filterMap (·.1) = ps.reverse := by rfl) (hg : Gl X x := by rfl)
    (hall : (backToKw pos (keywordEach kws X.env)).all (·.1.isSome) = true := by rfl) (hdb : (x == ("__debug__" : Str)) = false := by decide)
    (hpl : ((backTo pos (starEach [] X.env)).any (·.1) || (backToKw pos (keywordEach kws X.env)).any (·.1.isNone)) = false := by rfl) : PE X (.Call (.Name x p) [] kws pos) (tGr sp t) := by
  obtain ⟨f, fd, F, _, _, hb, hm, hk⟩ := C.ex
  refine ⟨fun pins s σ H Q I h => wpAny_Call_Name_kw (ld_glob I hg hm (PySem.W.callWith_KW0 (h₀ := X.base) I.ok.mod.kin hk hall (thn (ha.run pos pins s σ H _ I h) fun us s1 ⟨vs, H1, I1, r, q⟩ => ⟨I1.kIn, ?_⟩) hpl) hdb)⟩
  rw [hks]
  have hl : us.length = ps.length := r.length.symm.trans ((List.length_reverse (as := vs)).symm.trans (F.size _ _ _ _ q))
  exact run_g (ar := ⟨[], ps.reverse.zip us⟩) (us := us.reverse) (vs := vs.reverse) F hr hG pass_no I1 (hb s1 us hl) (paired_rev r) q
/-- d(e, ..) where the i-th slot holds the def of the module's name y -/
def tGl (i : Nat) (mg : Str → Option Value) (y : Str) (sp : Sp) (E : L2.St → XK) (t : TA) : TE := fun σ H Q => ∃ f, mg y = some (.ref f) ∧ σ[i]? = some (some (.ref f)) ∧ t σ H fun vs H1 => sp vs H1 Q (E σ)
theorem pe_gl {E : L2.St → XK} {y : Str} (C : Cal X.prog X.w X.K X.mg X.base CX k y ps sp) (hr : Room k X.A) (hG : X.A.guards = some []) (hx : ∀ σ, PassesAt CX X σ (E σ)) (ha : PA X (e :: es) t) (hN : X.N[i]? = some x := by rfl)
    (hv : Vis X.env.scope x := by first | exact Or.inl rfl | exact Or.inr (Or.inl rfl) | exact Or.inr (Or.inr rfl))
    (hdb : (x == ("__debug__" : Str)) = false := by decide) (hcd : (x == ("__classdict__" : Str)) = false := by decide) (he : starEach (e :: es) X.env = (false, eval e X.env) :: starEach es X.env := by rfl)
    (hpl : (backTo pos (starEach es X.env)).any (·.1) = false := by rfl) : PE X (.Call (.Name x p) (e :: es) [] pos) (tGl i X.mg y sp E t) := by
  obtain ⟨f, fd, F, hb, _, _, hm, hk⟩ := C.ex
  refine ⟨fun pins s σ H Q I h => ?_⟩
  obtain ⟨f', hf', hs, ht⟩ := h
  obtain rfl : f' = f := by
    rw [hm] at hf'
    cases hf'
    rfl
  refine wpAny_Call_Name_kw (thn ((pe_var (pos := p) hN hv hdb hcd).run pins s σ H (fun v H1 => v = .ref f' ∧ H1 = H) I ⟨.ref f', hs, rfl, rfl⟩) fun u s1 ⟨v, H1, I1, r1, q1⟩ => ?_)
  obtain ⟨rfl, rfl⟩ := q1
  cases r1
  refine PySem.W.callWith_K (h₀ := X.base) I.ok.mod.kin hk (thn (ha.run pos pins s1 σ _ _ I1 ht) fun us s2 ⟨vs, H2, I2, r, q⟩ => ⟨I2.kIn, ?_⟩) he hpl
  exact run_g (ar := ⟨us, []⟩) F hr hG (hx σ) I2 (hb s2 us (r.length.symm.trans (F.size _ _ _ _ q))) r q
end
/-! ### repr of data -/
section
variable {X : Cx}
def rShow (K : PySem.W.Frag) : List V → Hp → VK → Prop := fun xs H Q => ∃ (a : Addr) (d : PyData), xs = [.ref a] ∧ Dp K H (.ref a) d ∧
  d.showable = true ∧ d.hasDict = false ∧ d.depth ≤ 30 ∧ d.shown.length ≤ sizeLine ∧ Q (.str d.shown) H
theorem call_show (hG : X.A.guards = some []) {k : Nat} (hr : Room k X.A) : CallR X (.builtin "repr") (rShow X.K) := by
  intro pins s σ H xs us Q I r h
  obtain ⟨a, d, rfl, hd, hs, hn, h30, hz, q⟩ := h
  cases r with
  | cons r1 r2 =>
    cases r2
    obtain ⟨as, rd⟩ := Dp.reads I d _ _ hd r1
    cases r1
    have hu := hr.units
    exact repr_of_reads' rd hs (PyData.noDict_hsm hn) hG (by omega) (fun _ _ z => z) (fun h' u tk hk => ⟨.str d.shown, H, I.kept hk, ⟨u, rfl⟩, q⟩) hz
/-- // by any divisor but 0 -/
def CDivN (_ j : Int) : Prop := j ≠ 0 ∧ j.natAbs.log2 < 9000
theorem op_fdivN : OpR X (binaryOp .FloorDiv) (rI CDivN fun i j => .int (i.fdiv j)) := opI fun i j _ _ _ _ _ hc q =>
  floordiv_int hc.1 q (.inl (PyProof.noPylong_of_log2 hc.2))
end
/-! ### the end of a law's row -/
theorem at_caller {P : Program} {w : World} {K : PySem.W.Frag} {mg mb : Str → Option Value} {k : Nat} {fa a : Addr} {fd : FuncData} {x : Str} {sp : Sp} {s : Shared} {us : List Value} {ns : List Int}
    (KX : K.In s.heap) (hns : s.heap.Ns mainGlobals mg) (hb : s.heap.Ns builtinsNs mb) (hbb : ∀ x : Str, x ≠ "__name__" → mb x = bootBuiltins x) (hlim : s.heap.NoLimit) (hgen : s.gens = #[])
    (ha : s.heap.get? a = some { cls := .type "list", data := .seq us.toArray }) (hi : IntsAre us ns) (hl : ns.length ≤ sizeLine) (hr : Room k callerA)
    (F : ∀ base : Heap, K.In base → base.Ns mainGlobals mg → FnG P w K mg base CX0 k fa fd [x] sp) (hbind : ∀ (s : Shared) (u : Value), BindsTo s fd ⟨[u], []⟩ [(x, u)])
    (hsp : ∀ H : Hp, Only H → SqL K H a (ns.map V.int) → sp [.ref a] H (fun v _ => v = .bl true) E0) :
    codeAny (model P w) callerA (.call (.ref fa) ⟨[.ref a], []⟩) (fun r s' => r = .ok (.ret (.bool true)) ∧ OldK s.heap s'.heap ∧ s'.os = s.os ∧ AllBare s'.gens) s := by
  -- from a heap that tracks at most the script
  have go : ∀ H : Hp, Only H → SqL K H a (ns.map V.int) → HOk P w H s.heap → (∀ b, H b ≠ none → b = a) → (H a ≠ none → K.lookup a = none) →
      codeAny (model P w) callerA (.call (.ref fa) ⟨[.ref a], []⟩) (fun r s' => r = .ok (.ret (.bool true)) ∧ OldK s.heap s'.heap ∧ s'.os = s.os ∧ AllBare s'.gens) s := by
    intro H only sq hok one key
    have keep : ∀ {b : Addr} {o : Obj}, s.heap.get? b = some o → (∀ vs n, o.data ≠ .seq vs n) → (hidT s.heap H).get? b = some o := by
      intro b o e hd
      refine hidT_get e ?_
      cases q : H b with
      | none => rfl
      | some u =>
        obtain rfl : b = a := one b (by rw [q]; exact fun z => nomatch z)
        rw [ha] at e
        cases e
        exact absurd rfl (hd _ _)
    have names : ∀ {b : Addr} {m : Str → Option Value}, s.heap.Ns b m → (hidT s.heap H).Ns b m := by
      rintro b m ⟨o, es, ep, e, d, r⟩
      exact ⟨o, es, ep, keep e (fun vs n z => by rw [d] at z; cases z), d, r⟩
    have kin : K.In (hidT s.heap H) := by
      intro b o e
      refine hidT_get (KX b o e) ?_
      cases q : H b with
      | none => rfl
      | some u =>
        have nn : H b ≠ none := by rw [q]; exact fun z => nomatch z
        obtain rfl : b = a := one b nn
        rw [key nn] at e
        cases e
    have md : Mod K mg (hidT s.heap H) := ⟨kin, names hns, ⟨mb, names hb, hbb⟩, by obtain ⟨mc, h1, h2⟩ := hlim; exact ⟨mc, names h1, h2⟩⟩
    have none_in : ∀ b : Addr, b ∉ frs [] := fun b z => absurd (show b ∈ ([] : List Addr) from z) (by simp)
    have e0 : Env0 P w K mg (hidT s.heap H) callerA [] s H := { frames := rfl, mod := md, bs := fun b o e => of_hidT e, bsz := Nat.le_of_eq (hidT_size _ _), funs := trivial, frf := fun b z => absurd z (none_in b), hok := hok, bare := .of_eq hgen }
    refine codeAny_mono ((F _ kin (names hns)).goes callerA [] s H ⟨[.ref a], []⟩ [.ref a] [.ref a] _ _ hr rfl e0 (hbind s (.ref a)) (.cons rfl .nil) (hsp H only sq)) fun r s' h => ?_
    cases r with
    | error e => exact False.elim h
    | ok fl =>
      cases fl with
      | next => exact False.elim h
      | brk => exact False.elim h
      | cont => exact False.elim h
      | ret u =>
        obtain ⟨v, H', os, bare, un, hok', rv, q⟩ := h
        obtain rfl : v = .bl true := q
        obtain rfl : u = Value.bool true := rv
        refine ⟨rfl, OldK.of_keep fun b o e => ?_, os, bare⟩
        cases q : H b with
        | none => exact un.keep b o e q (none_in b) (by simp)
        | some y =>
          rcases only b with z | ⟨ob, xs, z⟩
          · rw [q] at z
            cases z
          · obtain ⟨e1, _⟩ := hok b _ z
            obtain ⟨e2, _⟩ := hok' b _ (un.frzs b ob _ z)
            rw [e] at e1
            cases e1
            exact e2
  have rv := vals_ints hi
  cases hk : K.lookup a with
  | some o =>
    have e := KX a o hk
    rw [ha] at e
    cases e
    exact go (fun _ => none) (fun _ => Or.inl rfl) (Or.inr ⟨_, us.toArray, _, hk, rfl, rfl, rfl, by rw [List.size_toArray, hi.length]; exact hl, by simpa using rv⟩)
      (fun b u z => by cases (show (none : Option HO) = some u from z)) (fun b z => absurd rfl z) (fun z => absurd rfl z)
  | none =>
    refine go (fun b => if b = a then some (.frz { cls := .type "list", data := .seq us.toArray } (.lst (ns.map V.int))) else none) ?_ (Or.inl (Or.inr ⟨_, if_pos rfl⟩)) ?_ ?_ (fun _ => hk)
    · intro b
      by_cases h : b = a
      · exact Or.inr ⟨_, _, if_pos h⟩
      · exact Or.inl (if_neg h)
    · intro b u z
      by_cases h : b = a
      · cases (if_pos h).symm.trans z
        subst h
        exact ⟨ha, by rw [List.length_map]; exact hl, us, _, rv, ha⟩
      · cases (if_neg h).symm.trans z
    · intro b z
      by_cases h : b = a
      · exact h
      · exact absurd (if_neg h) z
theorem walkG {l : PySem.W.OpenLaw} {n k : Nat} {q : Program} {loose : List Str} {XP : (Str → Option Value) → Heap → Prop} {YP : World → Heap → Prop} {d : DefRec} {K : Params → PySem.W.Frag} {sp : PySem.W.Frag → Sp} {x : Str}
    (hn : l.most = some n) (hn2 : n ≤ sizeLine) (hdf : d.params.defaults = []) (hr : Room k callerA) (hY : ∀ (w : World) (h : Heap), YP w h → (K w.params).In h)
    (F : ∀ (w : World) (mg : Str → Option Value) (fa : Addr) (h : Heap), (K w.params).In h → h.Ns mainGlobals mg → mg d.name = some (.ref fa) →
      ∃ fd : FuncData, (∀ (s : Shared) (u : Value), BindsTo s fd ⟨[u], []⟩ [(x, u)]) ∧ ∀ base : Heap, (K w.params).In base → base.Ns mainGlobals mg → FnG l.prog w (K w.params) mg base CX0 k fa fd [x] (sp (K w.params)))
    (hsp : ∀ (K : PySem.W.Frag) (H : Hp) (a : Addr) (ns : List Int), ns.length ≤ n → Only H → SqL K H a (ns.map V.int) → sp K [.ref a] H (fun v _ => v = .bl true) E0) :
    PySem.W.WalkO q loose XP YP l.row.toRowW d [] (fun f vs => PySem.call f vs) := by
  refine Att.attach_call hn hdf fun w s0 s mg mb fa o pm cd doc a us ns G Y ho hd hcd hmg hobj hints hlen hg => ?_
  obtain ⟨fd, hb, hF⟩ := F w mg fa _ (hY w _ Y) G.T.g hmg
  exact at_caller (hY w _ Y) G.T.g G.T.b G.T.builtins G.T.nolimit hg hobj hints (Nat.le_trans hlen hn2) hr hF hb fun H hO hS => hsp _ H a ns hlen hO hS
end Lf

set_option linter.all false
/-! Lowest terms: plain arithmetic. -/
namespace Lf
/-- the fraction of two whole numbers, d not 0 -/
def low (n d : Int) : Int × Int := ((n * d.sign) / (Nat.gcd n.natAbs d.natAbs : Nat), (d.natAbs : Int) / (Nat.gcd n.natAbs d.natAbs : Nat))
def IsLow (t b : Int) : Prop := 0 < b ∧ Nat.Coprime t.natAbs b.natAbs
theorem gcd_pos {n d : Int} (h : d ≠ 0) : 0 < Nat.gcd n.natAbs d.natAbs := Nat.gcd_pos_of_pos_right _ (by omega)
theorem low_parts {n d : Int} (h : d ≠ 0) : ∃ (u : Int) (v : Nat), n * d.sign = u * (Nat.gcd n.natAbs d.natAbs : Nat) ∧ d.natAbs = v * Nat.gcd n.natAbs d.natAbs ∧ low n d = (u, (v : Int)) ∧ 0 < v ∧ Nat.Coprime u.natAbs v := by
  have hg := gcd_pos (n := n) h
  obtain ⟨v, hv⟩ := Nat.gcd_dvd_right n.natAbs d.natAbs
  obtain ⟨u, hu⟩ : ∃ u : Int, n * d.sign = (Nat.gcd n.natAbs d.natAbs : Nat) * u := by
    obtain ⟨x, hx⟩ := Nat.gcd_dvd_left n.natAbs d.natAbs
    rcases Int.natAbs_eq n with e | e
    · exact ⟨x * d.sign, by rw [← Int.mul_assoc, ← Int.natCast_mul, ← hx, ← e]⟩
    · exact ⟨-(x : Int) * d.sign, by rw [← Int.mul_assoc, Int.mul_neg, ← Int.natCast_mul, ← hx, ← e]⟩
  have hn : n.natAbs = Nat.gcd n.natAbs d.natAbs * u.natAbs := by
    have := congrArg Int.natAbs hu
    rw [Int.natAbs_mul, Int.natAbs_mul, Int.natAbs_sign_of_ne_zero h, Nat.mul_one, Int.natAbs_natCast] at this
    exact this
  have hvp : 0 < v := by
    rcases Nat.eq_zero_or_pos v with e | e
    · rw [e, Nat.mul_zero] at hv
      omega
    · exact e
  have hgi : ((Nat.gcd n.natAbs d.natAbs : Nat) : Int) ≠ 0 := by omega
  refine ⟨u, v, by rw [hu, Int.mul_comm], by rw [Nat.mul_comm]; exact hv, ?_, hvp, ?_⟩
  · unfold low
    rw [hu, Int.mul_ediv_cancel_left _ hgi]
    have : (d.natAbs : Int) = (Nat.gcd n.natAbs d.natAbs : Nat) * (v : Int) := by rw [← Int.natCast_mul, ← hv]
    rw [this, Int.mul_ediv_cancel_left _ hgi]
  · have e : Nat.gcd n.natAbs d.natAbs = Nat.gcd n.natAbs d.natAbs * Nat.gcd u.natAbs v := by
      rw [← Nat.gcd_mul_left, ← hn, ← hv]
    have e' : Nat.gcd n.natAbs d.natAbs * 1 = Nat.gcd n.natAbs d.natAbs * Nat.gcd u.natAbs v := by rw [Nat.mul_one]; exact e
    exact (Nat.eq_of_mul_eq_mul_left hg e').symm
theorem sign_mul_natAbs' (d : Int) : d.sign * (d.natAbs : Int) = d := Int.sign_mul_natAbs d
theorem low_is {n d : Int} (h : d ≠ 0) : IsLow (low n d).1 (low n d).2 := by
  obtain ⟨u, v, _, _, e, hv, hc⟩ := low_parts (n := n) h
  rw [e]
  exact ⟨by show (0 : Int) < v; omega, hc⟩
theorem low_cross {n d : Int} (h : d ≠ 0) : (low n d).1 * d = n * (low n d).2 := by
  obtain ⟨u, v, h1, h2, e, hv, hc⟩ := low_parts (n := n) h
  rw [e]
  show u * d = n * v
  have hg := gcd_pos (n := n) h
  have hgi : ((Nat.gcd n.natAbs d.natAbs : Nat) : Int) ≠ 0 := by omega
  have hs : d.sign * d.sign = 1 := by
    rcases Int.lt_or_gt_of_ne h with q | q
    · rw [Int.sign_eq_neg_one_of_neg q]
      rfl
    · rw [Int.sign_eq_one_of_pos q]
      rfl
  have ed : d = d.sign * ((v : Int) * (Nat.gcd n.natAbs d.natAbs : Nat)) := by
    rw [← Int.natCast_mul, ← h2]
    exact (sign_mul_natAbs' d).symm
  have : (u * d) * ((Nat.gcd n.natAbs d.natAbs : Nat) : Int) = (n * v) * (Nat.gcd n.natAbs d.natAbs : Nat) := by
    have e1 : (u * d) * ((Nat.gcd n.natAbs d.natAbs : Nat) : Int) = (u * (Nat.gcd n.natAbs d.natAbs : Nat)) * d := by
      rw [Int.mul_assoc, Int.mul_assoc, Int.mul_comm d]
    rw [e1, ← h1]
    generalize hG : ((Nat.gcd n.natAbs d.natAbs : Nat) : Int) = G at *
    calc n * d.sign * d = n * d.sign * (d.sign * (v * G)) := by rw [← ed]
      _ = n * (d.sign * d.sign) * (v * G) := by simp only [Int.mul_assoc]
      _ = n * v * G := by rw [hs]; simp only [Int.mul_one, Int.mul_assoc]
  exact Int.eq_of_mul_eq_mul_right hgi this
theorem low_uniq {t b t' b' : Int} (h : IsLow t b) (h' : IsLow t' b') (e : t * b' = t' * b) : t = t' ∧ b = b' := by
  obtain ⟨hb, hc⟩ := h
  obtain ⟨hb', hc'⟩ := h'
  have e1 : t.natAbs * b'.natAbs = t'.natAbs * b.natAbs := by
    have := congrArg Int.natAbs e
    rwa [Int.natAbs_mul, Int.natAbs_mul] at this
  have d1 : b.natAbs ∣ b'.natAbs := by
    have q : b.natAbs ∣ t.natAbs * b'.natAbs := by
      rw [e1]
      exact Nat.dvd_mul_left _ _
    exact Nat.Coprime.dvd_of_dvd_mul_left hc.symm q
  have d2 : b'.natAbs ∣ b.natAbs := by
    have q : b'.natAbs ∣ t'.natAbs * b.natAbs := by
      rw [← e1]
      exact Nat.dvd_mul_left _ _
    exact Nat.Coprime.dvd_of_dvd_mul_left hc'.symm q
  have eb : b.natAbs = b'.natAbs := Nat.dvd_antisymm d1 d2
  have eb' : b = b' := by omega
  subst eb'
  exact ⟨Int.eq_of_mul_eq_mul_right (by omega) e, rfl⟩
/-- the fraction is the one in lowest terms -/
theorem low_eq {n d t b : Int} (h : d ≠ 0) (hl : IsLow t b) (e : t * d = n * b) : low n d = (t, b) := by
  have hi := low_is (n := n) h
  have hx := low_cross (n := n) h
  have key : (low n d).1 * b = t * (low n d).2 := by
    have q : ((low n d).1 * b) * d = (t * (low n d).2) * d := by
      calc ((low n d).1 * b) * d = ((low n d).1 * d) * b := by rw [Int.mul_assoc, Int.mul_comm b d, Int.mul_assoc]
        _ = (n * (low n d).2) * b := by rw [hx]
        _ = (n * b) * (low n d).2 := by rw [Int.mul_assoc, Int.mul_comm _ b, Int.mul_assoc]
        _ = (t * d) * (low n d).2 := by rw [e]
        _ = (t * (low n d).2) * d := by rw [Int.mul_assoc, Int.mul_comm d, Int.mul_assoc]
    exact Int.eq_of_mul_eq_mul_right h q
  obtain ⟨e1, e2⟩ := low_uniq hi hl key
  exact Prod.ext e1 e2
theorem low_self {t b : Int} (h : IsLow t b) : low t b = (t, b) := low_eq (by have := h.1; omega) h rfl
/-- bounds -/
theorem low_top_le {n d : Int} (h : d ≠ 0) : (low n d).1.natAbs ≤ n.natAbs := by
  obtain ⟨u, v, h1, h2, e, hv, hc⟩ := low_parts (n := n) h
  rw [e]
  show u.natAbs ≤ n.natAbs
  have hg := gcd_pos (n := n) h
  have := congrArg Int.natAbs h1
  rw [Int.natAbs_mul, Int.natAbs_mul, Int.natAbs_sign_of_ne_zero h, Nat.mul_one, Int.natAbs_natCast] at this
  rw [this]
  exact Nat.le_mul_of_pos_right _ hg
theorem low_bottom_le {n d : Int} (h : d ≠ 0) : (low n d).2.natAbs ≤ d.natAbs := by
  obtain ⟨u, v, h1, h2, e, hv, hc⟩ := low_parts (n := n) h
  rw [e]
  show (v : Int).natAbs ≤ d.natAbs
  have hg := gcd_pos (n := n) h
  rw [h2, Int.natAbs_natCast]
  exact Nat.le_mul_of_pos_right _ hg
/-- the program's way: over a bottom above 0 -/
theorem low_pos {n d : Int} (h : 0 < d) : low n d = (n / (Nat.gcd n.natAbs d.natAbs : Nat), d / (Nat.gcd n.natAbs d.natAbs : Nat)) := by
  unfold low
  rw [Int.sign_eq_one_of_pos h, Int.mul_one, show (d.natAbs : Int) = d by omega]
theorem low_neg (n d : Int) : low (-n) (-d) = low n d := by
  unfold low
  rw [Int.sign_neg, Int.natAbs_neg, Int.natAbs_neg, Int.neg_mul_neg]
/-- the law's way: by the greatest common one, below 0 where the bottom is -/
theorem low_fdiv_pos {n d : Int} (h : 0 < d) : (n.fdiv (Nat.gcd n.natAbs d.natAbs : Nat), d.fdiv (Nat.gcd n.natAbs d.natAbs : Nat)) = low n d := by
  rw [low_pos h, Int.fdiv_eq_ediv_of_nonneg _ (by omega), Int.fdiv_eq_ediv_of_nonneg _ (by omega)]
theorem low_fdiv_neg {n d : Int} (h : d < 0) : (n.fdiv (-(Nat.gcd n.natAbs d.natAbs : Nat)), d.fdiv (-(Nat.gcd n.natAbs d.natAbs : Nat))) = low n d := by
  have q := low_fdiv_pos (n := -n) (d := -d) (by omega)
  rw [Int.natAbs_neg, Int.natAbs_neg, low_neg] at q
  rw [← q, ← Int.neg_fdiv_neg, ← Int.neg_fdiv_neg d, Int.neg_neg]
/-- the sum less the other one is the one -/
theorem low_back {a b c d : Int} (hl : IsLow a b) (hd : 0 < d) :
    low ((low (a * d + c * b) (b * d)).1 * d - c * (low (a * d + c * b) (b * d)).2) ((low (a * d + c * b) (b * d)).2 * d) = (a, b) := by
  have hb := hl.1
  have h0 : b * d ≠ 0 := Int.ne_of_gt (Int.mul_pos hb hd)
  have hi := low_is (n := a * d + c * b) h0
  have hx := low_cross (n := a * d + c * b) h0
  generalize (low (a * d + c * b) (b * d)).1 = x at *
  generalize (low (a * d + c * b) (b * d)).2 = y at *
  refine low_eq (Int.ne_of_gt (Int.mul_pos hi.1 hd)) hl ?_
  have : x * (b * d) = x * d * b := by rw [Int.mul_comm b d, Int.mul_assoc]
  rw [this] at hx
  rw [Int.sub_mul, hx, Int.add_mul]
  have e1 : c * y * b = c * b * y := by rw [Int.mul_assoc, Int.mul_comm y b, Int.mul_assoc]
  have e2 : a * (y * d) = a * d * y := by rw [Int.mul_comm y d, Int.mul_assoc]
  rw [e1, e2]
  omega
/-- Euclid's steps keep the greatest common one -/
theorem gcd_step (a b : Int) (hb : 0 < b) (ha : 0 ≤ a) : Nat.gcd b.natAbs (a % b).natAbs = Nat.gcd a.natAbs b.natAbs := by
  have e : (a % b).natAbs = a.natAbs % b.natAbs := by
    rw [Int.natAbs_emod_of_nonneg ha]
  rw [e, Nat.gcd_comm b.natAbs, ← Nat.gcd_rec, Nat.gcd_comm]
end Lf

set_option Elab.async false
set_option linter.all false
set_option maxRecDepth 100000
set_option maxHeartbeats 4000000
set_option exponentiation.threshold 3000
/-! What repr shows of data, and that it fits. -/
namespace Lf
open PySem PySem.Spec PyProof.Rows L2
/-- below 2 ^ 900 -/
def Sm (n : Int) : Prop := n.natAbs < 2 ^ 900
theorem Sm.log {n : Int} (h : Sm n) : n.natAbs.log2 < 900 := PySem.Flt.log2_lt_of (by decide) h
theorem Sm.text {n : Int} (h : Sm n) : (Str.ofString (toString n)).length ≤ 901 := by
  rw [PySem.ofString_length]
  exact int_text_length_le (by decide) h.log
/-- data that can be shown: its weight, its depth -/
structure Ft (w k : Nat) (d : PyData) : Prop where
  sh : d.showable = true
  nd : d.hasDict = false
  dp : d.depth ≤ k
  lv : d.leavesShort 1000 = true
  wt : d.weight ≤ w
structure FtA (w k : Nat) (ds : List PyData) : Prop where
  sh : PyData.showableAll ds = true
  nd : PyData.hasDictAll ds = false
  dp : PyData.depthAll ds ≤ k
  lv : PyData.leavesShortAll 1000 ds = true
  wt : PyData.weightAll ds ≤ w
theorem Ft.int {n : Int} (h : Sm n) : Ft 900 0 (.int n) := by
  have hl := h.log
  refine ⟨?_, ?_, ?_, ?_, ?_⟩
  · simp only [PyData.showable, decide_eq_true_eq]
    omega
  · simp only [PyData.hasDict]
  · simp only [PyData.depth, Nat.le_refl]
  · simp only [PyData.leavesShort, decide_eq_true_eq, PyData.shown]
    exact decide_eq_true (Nat.le_trans h.text (show 901 ≤ 1000 by decide))
  · simp only [PyData.weight]
    split <;> omega
theorem Ft.bool (b : Bool) : Ft 0 0 (.bool b) := ⟨by simp only [PyData.showable], by simp only [PyData.hasDict], by simp only [PyData.depth, Nat.le_refl], by simp only [PyData.leavesShort], by simp only [PyData.weight, Nat.le_refl]⟩
theorem Ft.none : Ft 0 0 .none := ⟨by simp only [PyData.showable], by simp only [PyData.hasDict], by simp only [PyData.depth, Nat.le_refl], by simp only [PyData.leavesShort], by simp only [PyData.weight, Nat.le_refl]⟩
/-- a text whose signs are signs -/
def Sg (x : Str) : Prop := ∀ c ∈ x.cps.toList, c < 16 ^ 8
theorem Sg.of (s : String) : Sg (Str.ofString s) := by
  intro c hc
  rw [Str.ofString_eq_toList] at hc
  obtain ⟨ch, _, rfl⟩ := List.mem_map.mp (show c ∈ s.toList.map Char.toNat from hc)
  exact ch.val.toNat_lt
theorem Sg.app {x y : Str} (h : Sg x) (k : Sg y) : Sg (x ++ y) := by
  intro c hc
  have e : (x ++ y).cps.toList = x.cps.toList ++ y.cps.toList := by
    rw [show (x ++ y).cps = x.cps ++ y.cps from rfl, Array.toList_append]
  rw [e] at hc
  rcases List.mem_append.mp hc with q | q
  · exact h c q
  · exact k c q
theorem Ft.str {w : Nat} {x : Str} (h : Sg x) (hw : x.length ≤ w) : Ft w 0 (.str x) := ⟨by simp only [PyData.showable], by simp only [PyData.hasDict], by simp only [PyData.depth, Nat.le_refl],
  by simp only [PyData.leavesShort, List.all_eq_true, decide_eq_true_eq]; exact h, by simp only [PyData.weight]; exact hw⟩
theorem FtA.nil : FtA 0 0 [] := ⟨by simp only [PyData.showableAll], by simp only [PyData.hasDictAll], by simp only [PyData.depthAll, Nat.le_refl], by simp only [PyData.leavesShortAll], by simp only [PyData.weightAll, Nat.le_refl]⟩
theorem FtA.cons {w k w' k' : Nat} {d : PyData} {ds : List PyData} (h : Ft w k d) (r : FtA w' k' ds) : FtA (w + 1 + w') (max k k') (d :: ds) := by
  refine ⟨?_, ?_, ?_, ?_, ?_⟩
  · simp only [PyData.showableAll, h.sh, r.sh, Bool.and_self]
  · simp only [PyData.hasDictAll, h.nd, r.nd, Bool.or_self]
  · simp only [PyData.depthAll]
    have := h.dp
    have := r.dp
    omega
  · simp only [PyData.leavesShortAll, h.lv, r.lv, Bool.and_self]
  · simp only [PyData.weightAll]
    have := h.wt
    have := r.wt
    omega
theorem Ft.list {w k : Nat} {ds : List PyData} (r : FtA w k ds) : Ft w (k + 1) (.list ds) :=
  ⟨by simp only [PyData.showable]; exact r.sh, by simp only [PyData.hasDict]; exact r.nd, by simp only [PyData.depth]; exact Nat.succ_le_succ r.dp, by simp only [PyData.leavesShort]; exact r.lv, by simp only [PyData.weight]; exact r.wt⟩
theorem Ft.tuple {w k : Nat} {ds : List PyData} (r : FtA w k ds) : Ft w (k + 1) (.tuple ds) :=
  ⟨by simp only [PyData.showable]; exact r.sh, by simp only [PyData.hasDict]; exact r.nd, by simp only [PyData.depth]; exact Nat.succ_le_succ r.dp, by simp only [PyData.leavesShort]; exact r.lv, by simp only [PyData.weight]; exact r.wt⟩
/-- what repr asks -/
structure Showy (d : PyData) : Prop where
  sh : d.showable = true
  nd : d.hasDict = false
  dp : d.depth ≤ 30
  ln : d.shown.length ≤ sizeLine
theorem Ft.showy {w k : Nat} {d : PyData} (h : Ft w k d) (hk : k ≤ 30 := by decide) (hw : w ≤ 16000 := by decide) : Showy d := by
  refine ⟨h.sh, h.nd, Nat.le_trans h.dp hk, ?_⟩
  have e := PyData.shown_le 1000 (by decide) d h.lv
  have e2 := h.wt
  have e3 : (1000 + 2) * d.weight ≤ 1002 * 16000 := Nat.mul_le_mul (Nat.le_refl _) (Nat.le_trans e2 hw)
  have e4 := sizeLine_eq
  omega
/-- a fraction -/
def tD (t : Int × Int) : PyData := .tuple [.int t.1, .int t.2]
theorem Ft.two {t : Int × Int} (h : Sm t.1) (k : Sm t.2) : Ft 1802 1 (tD t) := Ft.tuple (.cons (.int h) (.cons (.int k) .nil))
theorem dp2 {K : PySem.W.Frag} {H : Hp} {p : Addr} {x y : Int} (h : SqT K H p [.int x, .int y]) : Dp K H (.ref p) (tD (x, y)) := .tup h (.cons (.int x) (.cons (.int y) .nil))
theorem dp2' {K : PySem.W.Frag} {H : Hp} {p : Addr} {t : Int × Int} (h : H p = some (.tup [.int t.1, .int t.2])) : Dp K H (.ref p) (tD t) := .tup (.inl (.inl h)) (.cons (.int _) (.cons (.int _) .nil))
mutual
theorem Dp.same {K : PySem.W.Frag} {H H' : Hp} (s : Same H H') : ∀ (d : PyData) (v : V), Dp K H v d → Dp K H' v d
  | .none, _, h => by cases h; exact .non
  | .bool b, _, h => by cases h; exact .bl b
  | .int i, _, h => by cases h; exact .int i
  | .str x, _, h => by cases h; exact .str x
  | .list ds, _, h => by
    cases h with
    | lst h1 h2 => exact .lst (s.seq h1) (DpAll.same s ds _ h2)
  | .tuple ds, _, h => by
    cases h with
    | tup h1 h2 =>
      refine .tup ?_ (DpAll.same s ds _ h2)
      rcases h1 with (h | ⟨o, h⟩) | h
      · exact .inl (.inl (s _ _ h))
      · exact .inl (.inr ⟨o, s _ _ h⟩)
      · exact .inr h
  | .dict _, _, h => by cases h
theorem DpAll.same {K : PySem.W.Frag} {H H' : Hp} (s : Same H H') : ∀ (ds : List PyData) (vs : List V), DpAll K H vs ds → DpAll K H' vs ds
  | [], _, h => by cases h; exact .nil
  | d :: ds, _, h => by
    cases h with
    | cons h1 h2 => exact .cons (Dp.same s d _ h1) (DpAll.same s ds _ h2)
end
end Lf

set_option Elab.async false
set_option linter.all false
set_option maxRecDepth 100000
set_option maxHeartbeats 4000000
namespace Lf
open PySem PySem.Spec PyProof.Rows L2
theorem same_new {H : Hp} {p : Addr} {o : HO} (h : H p = none) : Same H (upd H p o) := fun b x e => by
  rw [upd_ne (ne_of_none e h)]
  exact e
theorem same_rfl {H : Hp} : Same H H := fun _ _ e => e
theorem bt_abs : bootBuiltins "abs" = some (.builtin "abs") := by decide +kernel
theorem bt_len : bootBuiltins "len" = some (.builtin "len") := by decide +kernel
theorem bt_max : bootBuiltins "max" = some (.builtin "max") := by decide +kernel
theorem bt_min : bootBuiltins "min" = some (.builtin "min") := by decide +kernel
theorem bt_divmod : bootBuiltins "divmod" = some (.builtin "divmod") := by decide +kernel
theorem bt_repr : bootBuiltins "repr" = some (.builtin "repr") := by decide +kernel
theorem bt_all : bootBuiltins "all" = some (.builtin "all") := by decide +kernel
theorem bt_int : bootBuiltins "int" = some (.type "int") := by decide +kernel
theorem bt_str : bootBuiltins "str" = some (.type "str") := by decide +kernel
/-- the built-in names that nothing of the text hides -/
structure Blt (mg : Str → Option Value) : Prop where
  abs : mg "abs" = none
  len : mg "len" = none
  max : mg "max" = none
  min : mg "min" = none
  divmod : mg "divmod" = none
  repr : mg "repr" = none
  all : mg "all" = none
  int : mg "int" = none
  str : mg "str" = none
  range : mg "range" = none
/-- an own class under ValueError -/
structure ExT (K : PySem.W.Frag) (mg : Str → Option Value) (x : Str) (C : Addr) : Prop where
  g : mg x = some (.ref C)
  x : PySem.W.excIn K C [.type "ValueError", .type "Exception", .type "BaseException", .type "object"] "ValueError.__new__" = true
  k : PySem.W.keepIn K (.ref C) = true
  b : PySem.W.subIn K (.ref C) (.type "BaseException") = some true
  t : PySem.W.typeIn K (.ref C) = some (.type "type")
  m : PySem.W.exmOne K (.ref C) (.ref C) = some true
section
variable {K : PySem.W.Frag} {H : Hp} {p : Addr} {x y : V} {Q : VK}
theorem ixT0 (h : SqT K H p [x, y]) (q : Q x H) : rIxT K (.ref p) (.int 0) H Q := ⟨p, _, 0, _, rfl, rfl, h, rfl, q⟩
theorem ixT1 (h : SqT K H p [x, y]) (q : Q y H) : rIxT K (.ref p) (.int 1) H Q := ⟨p, _, 1, _, rfl, rfl, h, rfl, q⟩
theorem ixL0 (h : SqL K H p [x, y]) (q : Q x H) : rIxL K (.ref p) (.int 0) H Q := ⟨p, _, 0, _, rfl, rfl, h, rfl, q⟩
theorem ixL1 (h : SqL K H p [x, y]) (q : Q y H) : rIxL K (.ref p) (.int 1) H Q := ⟨p, _, 1, _, rfl, rfl, h, rfl, q⟩
theorem tup2 {a b : V} (q : ∀ p, H p = none → Q (.ref p) (upd H p (.tup [a, b]))) : [a, b].length ≤ sizeLine ∧ ∀ p, H p = none → Q (.ref p) (upd H p (.tup [a, b])) := ⟨by show 2 ≤ sizeLine; decide, q⟩
theorem lst2 {a b : V} (q : ∀ p, H p = none → Q (.ref p) (upd H p (.lst [a, b]))) : [a, b].length ≤ sizeLine ∧ ∀ p, H p = none → Q (.ref p) (upd H p (.lst [a, b])) := ⟨by show 2 ≤ sizeLine; decide, q⟩
end
theorem sm_t {K : PySem.W.Frag} {H H' : Hp} {a : Addr} {xs : List V} (s : Same H H') (h : SqT K H a xs) : SqT K H' a xs := by
  rcases h with (h | ⟨o, h⟩) | h
  · exact .inl (.inl (s _ _ h))
  · exact .inl (.inr ⟨o, s _ _ h⟩)
  · exact .inr h
def topS (i : Nat) : Stmt := PySem.Challenge.pw_loafshares_k13_stuffs_told.main.body.getD i (.Pass ⟨0, 0, 0, 0⟩)
section
variable {P : Program} {w : World} {K : PySem.W.Frag} {mg : Str → Option Value} {base : Heap}
/-! ### common -/
abbrev sCom : Stmt := topS 11
theorem scCom : FnScope ["one", "other"] ["one", "other"] (defScope sCom) := ⟨rfl, rfl, rfl, by decide +kernel, rfl, by decide +kernel, by decide +kernel⟩
def spCom : Sp := fun vs H Q _ => ∃ (a b : Int), vs = [.int a, .int b] ∧ 0 ≤ a ∧ 0 ≤ b ∧ Q (.int (Nat.gcd a.natAbs b.natAbs : Nat)) H
theorem ok_com {f : Addr} {fd : FuncData} (F : Fun K "common" "common" sCom f fd) : FnG P w K mg base CX0 1 f fd ["one", "other"] spCom := by
  refine Gfun F scCom (fun vs H Q E h => ?_) (fun cdv A outer s H vs Q E hg hr h => ?_)
  · obtain ⟨a, b, rfl, _⟩ := h
    rfl
  · obtain ⟨a, b, rfl, ha, hb, q⟩ := h
    refine ⟨_, pss_cons (ps_while PassesOwn.never (pt_cmpR op_ne (pv 1) pe_int (nomark _))
        (pss_one (ps_par (i := 0) (j := 1) rfl scCom.nd rfl rfl (by decide) rfl rfl (pa_cons (pv 1) (pa_cons (pe_op op_mod (pv 0) (pv 1)) pa_nil)) (by rfl))))
      (pss_one (ps_ret (pv 0))), ?_⟩
    refine while_by (fun σ H' => ∃ x y : Int, σ = [some (.int x), some (.int y)] ∧ 0 ≤ x ∧ 0 ≤ y ∧ Nat.gcd x.natAbs y.natAbs = Nat.gcd a.natAbs b.natAbs ∧ H' = H)
      (fun σ _ => match σ with | [_, some (.int y)] => y.toNat | _ => 0) ⟨a, b, rfl, ha, hb, rfl, rfl⟩ ?_ ?_
    · rintro σ H1 ⟨x, y, rfl, hx, hy, hg, rfl⟩
      refine ⟨_, rfl, rfl, _, rfl, ite2 (fun e => ?_) (fun e => ?_)⟩
      · have hy0 : y ≠ 0 := fun z => by
          rw [z] at e
          exact absurd e (by decide)
        have hyp : 0 < y := by omega
        refine ⟨_, rfl, _, rfl, _, rfl, x, y, rfl, rfl, hyp, _, _, rfl, ⟨y, x % y, rfl, hy, Int.emod_nonneg _ hy0, (gcd_step x y hyp hx).trans hg, rfl⟩, ?_⟩
        show (x % y).toNat < y.toNat
        have := Int.emod_lt_of_pos x hyp
        omega
      · have hy0 : y = 0 := by
          by_cases z : y = 0
          · exact z
          · exact absurd (by rw [decide_eq_false (fun q => z (V.int.inj q))]; rfl) e
        subst hy0
        refine ⟨_, rfl, ?_⟩
        rw [← hg, Int.natAbs_zero, Nat.gcd_zero_right] at q
        rw [show (x.natAbs : Int) = x by omega] at q
        exact q
    · rintro σ H1 Q1 Q2 hq ⟨u, hu, h1, h2, h3, h4⟩
      exact ⟨u, hu, h1, h2, h3, hq _ _ h4⟩
/-! ### fraction -/
abbrev sFrac : Stmt := topS 12
theorem scFrac : FnScope ["top", "bottom", "shared"] ["top", "bottom"] (defScope sFrac) := ⟨rfl, rfl, rfl, by decide +kernel, rfl, by decide +kernel, by decide +kernel⟩
/-- below 2 ^ 2000 -/
def Mid (n : Int) : Prop := n.natAbs < 2 ^ 2000
theorem Mid.log {n : Int} (h : Mid n) : n.natAbs.log2 < 9000 := Nat.lt_of_lt_of_le (PySem.Flt.log2_lt_of (by decide) h) (by decide)
/-- a new tuple of two ints -/
def Two (H : Hp) (Q : VK) (t : Int × Int) : Prop := ∀ H' p, Same H H' → H' p = some (.tup [.int t.1, .int t.2]) → Q (.ref p) H'
def spFrac (neg : Bool) : Sp := fun vs H Q _ => ∃ (n d : Int), vs = [.int n, .int d] ∧ d ≠ 0 ∧ (neg = false → 0 < d) ∧ Mid n ∧ Mid d ∧ Two H Q (low n d)
theorem gcd_mid {n d : Int} (h : d ≠ 0) (hd : Mid d) : Mid ((Nat.gcd n.natAbs d.natAbs : Nat) : Int) := by
  unfold Mid at hd ⊢
  rw [Int.natAbs_natCast]
  exact Nat.lt_of_le_of_lt (Nat.le_of_dvd (by omega) (Nat.gcd_dvd_right _ _)) hd
theorem abs_is (n : Int) : (if n < 0 then -n else n) = (n.natAbs : Int) := by
  split <;> omega
theorem ok_frac {j : Nat} {f : Addr} {fd : FuncData} {C : Addr} (neg : Bool) (R : Sp) (hR : ∀ n d H Q, d < 0 → spFrac neg [.int n, .int d] H Q E0 → R [.int (-n), .int (-d)] H Q E0) (M : Blt mg) (X : ExT K mg "NoFraction" C) (F : Fun K "fraction" "fraction" sFrac f fd)
    (C_common : Cal P w K mg base CX0 1 "common" ["one", "other"] spCom) (C_fraction : Cal P w K mg base CX0 (j + 1) "fraction" ["top", "bottom"] R) : FnG P w K mg base CX0 (j + 2) f fd ["top", "bottom"] (spFrac neg) := by
  refine Gfun F scFrac (fun vs H Q E h => ?_) (fun cdv A outer s H vs Q E hg hr h => ?_)
  · obtain ⟨a, b, rfl, _⟩ := h
    rfl
  · obtain ⟨n, d, rfl, hd, hneg, hn2, hd2, q⟩ := h
    refine ⟨_, pss_cons (ps_if (pt_cmpR op_eq (pv 1) pe_int (nomark _)) (pss_one (ps_raise rfl takes0 (pmk_own PySem.F.excBase_ValueError X.x X.g X.k (raises_own X.b X.t) rfl))) pss_nil)
      (pss_cons (ps_if (pt_cmpR op_lt (pv 1) pe_int (nomark _)) (pss_one (ps_ret (pe_g C_fraction (hr.mono (by omega)) hg (pa_cons (pe_un un_neg (pv 0)) (pa_cons (pe_un un_neg (pv 1)) pa_nil))))) pss_nil)
      (pss_cons (ps_set (i := 2) scFrac.nd rfl (.inl rfl) (pe_g C_common (hr.mono (by omega)) hg (pa_cons (pe_callB call_abs rfl M.abs bt_abs (pa_cons (pv 0) pa_nil)) (pa_cons (pv 1) pa_nil))))
      (pss_one (ps_ret (pe_tup (pa_cons (pe_op op_fdivN (pv 0) (pv 2)) (pa_cons (pe_op op_fdivN (pv 1) (pv 2)) pa_nil))))))), ?_⟩
    refine ⟨_, rfl, rfl, _, rfl, ite2 (fun e => ?_) (fun _ => ?_)⟩
    · exact absurd (V.int.inj (of_decide_eq_true e)) hd
    refine ⟨_, rfl, _, _, rfl, rfl, _, rfl, ite2 (fun e => ?_) (fun e => ?_)⟩
    · have e' : d < 0 := of_decide_eq_true e
      refine ⟨_, rfl, _, rfl, _, rfl, _, rfl, ?_⟩
      exact hR n d H Q e' ⟨n, d, rfl, hd, hneg, hn2, hd2, q⟩
    · have e' : 0 < d := by
        have : ¬ d < 0 := fun z => e (decide_eq_true z)
        omega
      refine ⟨_, rfl, _, rfl, _, rfl, _, d, rfl, ?_, Int.le_of_lt e', ?_⟩
      · rw [abs_is]
        omega
      · rw [abs_is, Int.natAbs_natCast]
        have hgz : ((Nat.gcd n.natAbs d.natAbs : Nat) : Int) ≠ 0 := by
          have := gcd_pos (n := n) hd
          omega
        have hm : CDivN n ((Nat.gcd n.natAbs d.natAbs : Nat) : Int) := ⟨hgz, (gcd_mid hd hd2).log⟩
        refine ⟨_, rfl, _, rfl, n, _, rfl, rfl, hm, _, rfl, _, rfl, d, _, rfl, rfl, hm, tup2 fun p hp => ?_⟩
        refine q _ p (same_new hp) ?_
        have := low_fdiv_pos (n := n) (d := d) e'
        rw [← this]
        exact upd_same
end
end Lf

set_option Elab.async false
set_option linter.all false
set_option maxRecDepth 100000
set_option maxHeartbeats 4000000
set_option exponentiation.threshold 3000
namespace Lf
open PySem PySem.Spec PyProof.Rows L2
theorem Sm.mid {n : Int} (h : Sm n) : Mid n := Nat.lt_of_lt_of_le h (Nat.pow_le_pow_right (by decide) (by decide))
theorem Sm.mulW {a b : Int} (ha : Sm a) (hb : Sm b) : CMulW a b := by
  have := ha.log
  have := hb.log
  unfold CMulW
  omega
theorem Sm.prod {a b : Int} (ha : Sm a) (hb : Sm b) : (a * b).natAbs < 2 ^ 1800 := by
  rw [Int.natAbs_mul, show (2 : Nat) ^ 1800 = 2 ^ 900 * 2 ^ 900 by rw [← Nat.pow_add]]
  exact Nat.mul_lt_mul'' ha hb
theorem Sm.mul {a b : Int} (ha : Sm a) (hb : Sm b) : Mid (a * b) := Nat.lt_of_lt_of_le (Sm.prod ha hb) (Nat.pow_le_pow_right (by decide) (by decide))
theorem two_pow : (2 : Nat) ^ 1800 + 2 ^ 1800 = 2 ^ 1801 := (Nat.two_pow_succ 1800).symm
theorem Sm.add {a b c d : Int} (ha : Sm a) (hb : Sm b) (hc : Sm c) (hd : Sm d) : Mid (a * b + c * d) := by
  have h1 := Sm.prod ha hb
  have h2 := Sm.prod hc hd
  have h3 := Int.natAbs_add_le (a * b) (c * d)
  have h4 : (2 : Nat) ^ 1801 ≤ 2 ^ 2000 := Nat.pow_le_pow_right (by decide) (by decide)
  have h5 := two_pow
  unfold Mid
  omega
theorem Sm.sub {a b c d : Int} (ha : Sm a) (hb : Sm b) (hc : Sm c) (hd : Sm d) : Mid (a * b - c * d) := by
  have h1 := Sm.prod ha hb
  have h2 := Sm.prod hc hd
  have h3 := Int.natAbs_sub_le (a * b) (c * d)
  have h4 : (2 : Nat) ^ 1801 ≤ 2 ^ 2000 := Nat.pow_le_pow_right (by decide) (by decide)
  have h5 := two_pow
  unfold Mid
  omega
/-- two handed fractions -/
structure Pr (K : PySem.W.Frag) (H : Hp) (vs : List V) (a b c d : Int) : Prop where
  ex : ∃ p q, vs = [.ref p, .ref q] ∧ SqT K H p [.int a, .int b] ∧ SqT K H q [.int c, .int d]
  hb : b ≠ 0
  hd : d ≠ 0
  a1 : Sm a
  b1 : Sm b
  c1 : Sm c
  d1 : Sm d
theorem mul_ne {a b : Int} (ha : a ≠ 0) (hb : b ≠ 0) : a * b ≠ 0 := Int.mul_ne_zero ha hb
section
variable {P : Program} {w : World} {K : PySem.W.Frag} {mg : Str → Option Value} {base : Heap}
/-! ### fraction of a bottom 0 -/
def spFrac0 (C : Addr) : Sp := fun vs H Q E => ∃ n : Int, vs = [.int n, .int 0] ∧ E (.ref C) none H
theorem ok_frac0 {f : Addr} {fd : FuncData} {C : Addr} {R : Sp} (M : Blt mg) (X : ExT K mg "NoFraction" C) (F : Fun K "fraction" "fraction" sFrac f fd)
    (C_common : Cal P w K mg base CX0 1 "common" ["one", "other"] spCom) (C_fraction : Cal P w K mg base CX0 2 "fraction" ["top", "bottom"] R) : FnG P w K mg base (L2.CX P w) 3 f fd ["top", "bottom"] (spFrac0 C) := by
  refine GfunX F scFrac (fun vs H Q E h => ?_) (fun cdv A outer s H vs Q E hg hr h => ?_)
  · obtain ⟨n, rfl, _⟩ := h
    rfl
  · obtain ⟨n, rfl, q⟩ := h
    refine ⟨_, pss_cons (ps_if (pt_cmpR op_eq (pv 1) pe_int (nomark _)) (pss_one (ps_raise rfl (takes_of rfl rfl rfl rfl) (pmk_own PySem.F.excBase_ValueError X.x X.g X.k (raises_own X.b X.t) rfl))) pss_nil)
      (pss_cons (ps_if (pt_cmpR op_lt (pv 1) pe_int (nomark _)) (pss_one (ps_ret (pe_g C_fraction (hr.mono (by decide)) hg (pa_cons (pe_un un_neg (pv 0)) (pa_cons (pe_un un_neg (pv 1)) pa_nil))))) pss_nil)
      (pss_cons (ps_set (i := 2) scFrac.nd rfl (.inl rfl) (pe_g C_common (hr.mono (by decide)) hg (pa_cons (pe_callB call_abs rfl M.abs bt_abs (pa_cons (pv 0) pa_nil)) (pa_cons (pv 1) pa_nil))))
      (pss_one (ps_ret (pe_tup (pa_cons (pe_op op_fdivN (pv 0) (pv 2)) (pa_cons (pe_op op_fdivN (pv 1) (pv 2)) pa_nil))))))), ?_⟩
    exact ⟨_, rfl, rfl, _, rfl, iteT q⟩

/-! ### plus -/
abbrev s_plus : Stmt := topS 13
theorem sc_plus : FnScope ["one", "other"] ["one", "other"] (defScope s_plus) := ⟨rfl, rfl, rfl, by decide +kernel, rfl, by decide +kernel, by decide +kernel⟩
def sp_plus (K : PySem.W.Frag) : Sp := fun vs H Q _ => ∃ a b c d : Int, Pr K H vs a b c d ∧ Two H Q (low (a * d + c * b) (b * d))
theorem ok_plus {f : Addr} {fd : FuncData} (F : Fun K "plus" "plus" s_plus f fd) (C_fraction : Cal P w K mg base CX0 4 "fraction" ["top", "bottom"] (spFrac true)) : FnG P w K mg base CX0 5 f fd ["one", "other"] (sp_plus K) := by
  refine Gfun F sc_plus (fun vs H Q E h => ?_) (fun cdv A outer s H vs Q E hg hr h => ?_)
  · obtain ⟨a, b, c, d, h, _⟩ := h
    obtain ⟨p, q, rfl, _⟩ := h.ex
    rfl
  · obtain ⟨a, b, c, d, h, k⟩ := h
    obtain ⟨p, q, rfl, hp, hq⟩ := h.ex
    refine ⟨_, (pss_one (ps_ret (pe_g C_fraction (hr.mono (by decide)) hg (pa_cons (pe_op op_add (pe_op op_mulW (pe_ix ix_tup (pv 0) pe_int (fun _ _ => rfl)) (pe_ix ix_tup (pv 1) pe_int (fun _ _ => rfl))) (pe_op op_mulW (pe_ix ix_tup (pv 1) pe_int (fun _ _ => rfl)) (pe_ix ix_tup (pv 0) pe_int (fun _ _ => rfl)))) (pa_cons (pe_op op_mulW (pe_ix ix_tup (pv 0) pe_int (fun _ _ => rfl)) (pe_ix ix_tup (pv 1) pe_int (fun _ _ => rfl))) pa_nil))))), ?_⟩
    refine ⟨_, rfl, p, _, _, _, rfl, rfl, hp, rfl, _, rfl, q, _, _, _, rfl, rfl, hq, rfl, _, _, rfl, rfl, Sm.mulW h.a1 h.d1, ?_⟩
    refine ⟨_, rfl, q, _, _, _, rfl, rfl, hq, rfl, _, rfl, p, _, _, _, rfl, rfl, hp, rfl, _, _, rfl, rfl, Sm.mulW h.c1 h.b1, ?_⟩
    refine ⟨_, _, rfl, rfl, ?_⟩
    refine ⟨_, rfl, p, _, _, _, rfl, rfl, hp, rfl, _, rfl, q, _, _, _, rfl, rfl, hq, rfl, _, _, rfl, rfl, Sm.mulW h.b1 h.d1, ?_⟩
    exact ⟨_, _, rfl, mul_ne h.hb h.hd, (fun z => Bool.noConfusion z), Sm.add h.a1 h.d1 h.c1 h.b1, Sm.mul h.b1 h.d1, k⟩

/-! ### is_less -/
abbrev s_is_less : Stmt := topS 15
theorem sc_is_less : FnScope ["one", "other"] ["one", "other"] (defScope s_is_less) := ⟨rfl, rfl, rfl, by decide +kernel, rfl, by decide +kernel, by decide +kernel⟩
def sp_is_less (K : PySem.W.Frag) : Sp := fun vs H Q _ => ∃ a b c d : Int, Pr K H vs a b c d ∧ Q (.bl (decide (a * d < c * b))) H
theorem ok_is_less {f : Addr} {fd : FuncData} (F : Fun K "is_less" "is_less" s_is_less f fd) : FnG P w K mg base CX0 1 f fd ["one", "other"] (sp_is_less K) := by
  refine Gfun F sc_is_less (fun vs H Q E h => ?_) (fun cdv A outer s H vs Q E hg hr h => ?_)
  · obtain ⟨a, b, c, d, h, _⟩ := h
    obtain ⟨p, q, rfl, _⟩ := h.ex
    rfl
  · obtain ⟨a, b, c, d, h, k⟩ := h
    obtain ⟨p, q, rfl, hp, hq⟩ := h.ex
    refine ⟨_, (pss_one (ps_ret (pe_cmpR op_lt (pe_op op_mulW (pe_ix ix_tup (pv 0) pe_int (fun _ _ => rfl)) (pe_ix ix_tup (pv 1) pe_int (fun _ _ => rfl))) (pe_op op_mulW (pe_ix ix_tup (pv 1) pe_int (fun _ _ => rfl)) (pe_ix ix_tup (pv 0) pe_int (fun _ _ => rfl))) (nomark _)))), ?_⟩
    refine ⟨_, rfl, p, _, _, _, rfl, rfl, hp, rfl, _, rfl, q, _, _, _, rfl, rfl, hq, rfl, _, _, rfl, rfl, Sm.mulW h.a1 h.d1, ?_⟩
    refine ⟨_, rfl, q, _, _, _, rfl, rfl, hq, rfl, _, rfl, p, _, _, _, rfl, rfl, hp, rfl, _, _, rfl, rfl, Sm.mulW h.c1 h.b1, ?_⟩
    exact ⟨_, _, rfl, rfl, k⟩

end
end Lf

set_option Elab.async false
set_option linter.all false
set_option maxRecDepth 100000
set_option maxHeartbeats 4000000
set_option exponentiation.threshold 3000
/-! Things of any kind: data without dicts, and dicts of plain things. -/
namespace Lf
open PySem PySem.Spec PyProof.Rows L2
def kD : Key → PyData
  | .inl i => .int i
  | .inr x => .str x
inductive Sc : V → PyData → Prop
  | non : Sc .non .none
  | bl (b : Bool) : Sc (.bl b) (.bool b)
  | int (i : Int) : Sc (.int i) (.int i)
  | str (x : Str) : Sc (.str x) (.str x)
/-- a thing: data, or a dict of plain things -/
inductive Dq (K : PySem.W.Frag) (H : Hp) : V → PyData → Prop
  | dp {v : V} {d : PyData} (h : Dp K H v d) (n : d.hasDict = false) : Dq K H v d
  | dic {a : Addr} {kvs : List (Key × V)} {ds : List (PyData × PyData)} (h : H a = some (.dK kvs)) (p : Paired (fun (kv : Key × V) (d : PyData × PyData) => d.1 = kD kv.1 ∧ Sc kv.2 d.2) kvs ds) : Dq K H (.ref a) (.dict ds)
theorem Dq.same {K : PySem.W.Frag} {H H' : Hp} {v : V} {d : PyData} (s : Same H H') (h : Dq K H v d) : Dq K H' v d := by
  cases h with
  | dp h n => exact .dp (Dp.same s _ _ h) n
  | dic h p => exact .dic (s _ _ h) p
section
variable {X : Cx} {pins : List (Addr × Obj)} {σ : L2.St} {H : Hp} {s : Shared}
theorem Sc.reads {v : V} {d : PyData} {u : Value} {h : Heap} (k : Sc v d) (r : RelV v u) : Reads h u d [] := by
  cases k with
  | non => cases r; exact .none
  | bl b => cases r; exact .bool b
  | int i => obtain ⟨t, rfl⟩ := r; exact .int i t
  | str x => obtain ⟨t, rfl⟩ := r; exact .str x t
theorem dic_reads {P : Program} {w : World} {h : Heap} : ∀ {es : List DictEntry} {vs : List (Key × Value)} {kvs : List (Key × V)} {ds : List (PyData × PyData)}, Pairs (mixKind P w) es vs → KV kvs vs →
    Paired (fun (kv : Key × V) (d : PyData × PyData) => d.1 = kD kv.1 ∧ Sc kv.2 d.2) kvs ds → ReadsAll h (es.map (·.key)) (ds.map (·.1)) [] ∧ ReadsAll h (es.map (·.val)) (ds.map (·.2)) []
  | _, _, _, _, .nil, kv, p => by
    cases kv
    cases p
    exact ⟨.nil, .nil⟩
  | _, _, _, _, .cons (e := e) hk hv r, kv, p => by
    cases kv with
    | cons q kv =>
      cases p with
      | cons z p =>
        obtain ⟨i1, i2⟩ := dic_reads r kv p
        obtain ⟨q1, q2⟩ := q
        obtain ⟨z1, z2⟩ := z
        refine ⟨?_, ?_⟩
        · rw [List.map_cons, List.map_cons]
          refine ReadsAll.cons (as := []) (bs := []) ?_ i1
          rw [z1, q1]
          rcases keyIs_shape (show keyIs _ e.key = true from hk) with ⟨i, t, e1, e2⟩ | ⟨x, t, e1, e2⟩
          · rw [e1, e2]
            exact .int i t
          · rw [e1, e2]
            exact .str x t
        · rw [List.map_cons, List.map_cons]
          refine ReadsAll.cons (as := []) (bs := []) ?_ i2
          rw [hv]
          exact z2.reads q2
theorem Dq.reads (I : Inv X pins σ H s) {v : V} {d : PyData} {u : Value} (h : Dq X.K H v d) (r : RelV v u) : ∃ as, Reads s.heap u d as ∧ (d.hasDict = true → sysModules ∉ as) := by
  cases h with
  | dp h n =>
    obtain ⟨as, q⟩ := Dp.reads I d v u h r
    exact ⟨as, q, fun z => by rw [n] at z; cases z⟩
  | @dic a kvs ds h p =>
    cases r
    obtain ⟨hz, hs, vs, kv, o, es, ep, h1, h2, h3, h4, h5, h6⟩ := (show ObjOk X.prog X.w H s.heap a (.dK kvs) from I.hok a _ h)
    obtain ⟨i1, i2⟩ := dic_reads (h := s.heap) h5 kv p
    refine ⟨_, Reads.dict h1 h2.1 h3 i1 i2, fun _ hm => ?_⟩
    have : sysModules = a := by simpa using hm
    rw [this] at hs
    simp at hs
/-- the built-in type of a thing -/
def tyN : PyData → String
  | .none => "NoneType"
  | .bool _ => "bool"
  | .int _ => "int"
  | .str _ => "str"
  | .list _ => "list"
  | .tuple _ => "tuple"
  | .dict _ => "dict"
theorem Dp.ty {K : PySem.W.Frag} {v : V} {d : PyData} (h : Dp K H v d) : TyX K H v (.type (tyN d)) := by
  cases h with
  | non => exact .base .non
  | bl b => exact .base (.bl b)
  | int i => exact .base (.int i)
  | str x => exact .base (.str x)
  | lst h1 _ =>
    rcases h1 with (h | ⟨o, h⟩) | ⟨o, arr, n, hk, hc, _⟩
    · exact .base (.lst h)
    · exact .base (.frz h)
    · exact .kList hk hc
  | tup h1 _ =>
    rcases h1 with (h | ⟨o, h⟩) | ⟨o, arr, n, hk, hc, _⟩
    · exact .base (.tup h)
    · exact .fTuple h
    · exact .kTuple hk hc
theorem Dq.ty {K : PySem.W.Frag} {v : V} {d : PyData} (h : Dq K H v d) : TyX K H v (.type (tyN d)) := by
  cases h with
  | dp h _ => exact Lf.Dp.ty h
  | dic h _ => exact .base (.dK h)
/-! ### repr of a list of things -/
inductive DqAll (K : PySem.W.Frag) (H : Hp) : List V → List PyData → Prop
  | nil : DqAll K H [] []
  | cons {v : V} {vs : List V} {d : PyData} {ds : List PyData} : Dq K H v d → DqAll K H vs ds → DqAll K H (v :: vs) (d :: ds)
theorem DqAll.same {K : PySem.W.Frag} {H H' : Hp} (s : Same H H') : ∀ {vs : List V} {ds : List PyData}, DqAll K H vs ds → DqAll K H' vs ds
  | _, _, .nil => .nil
  | _, _, .cons a r => .cons (a.same s) (DqAll.same s r)
theorem DqAll.get {K : PySem.W.Frag} {H : Hp} : ∀ {vs : List V} {ds : List PyData} {i : Nat} {v : V}, DqAll K H vs ds → vs[i]? = some v → ∃ d, ds[i]? = some d ∧ Dq K H v d
  | _, _, _, _, .nil, e => by simp at e
  | _, _, 0, _, .cons a _, e => by
    simp at e
    subst e
    exact ⟨_, rfl, a⟩
  | _, _, i + 1, v, .cons _ r, e => by
    obtain ⟨d, h1, h2⟩ := DqAll.get (i := i) (v := v) r (by simpa using e)
    exact ⟨d, by simpa using h1, h2⟩
theorem DqAll.app {K : PySem.W.Frag} {H : Hp} : ∀ {vs us : List V} {ds es : List PyData}, DqAll K H vs ds → DqAll K H us es → DqAll K H (vs ++ us) (ds ++ es)
  | _, _, _, _, .nil, h => h
  | _, _, _, _, .cons a r, h => .cons a (DqAll.app r h)
theorem DqAll.length {K : PySem.W.Frag} {H : Hp} : ∀ {vs : List V} {ds : List PyData}, DqAll K H vs ds → vs.length = ds.length
  | _, _, .nil => rfl
  | _, _, .cons _ r => congrArg Nat.succ (DqAll.length r)
theorem dq_repr (I : Inv X pins σ H s) : ∀ {vs : List V} {ds : List PyData} {us : List Value}, DqAll X.K H vs ds → Vals vs us → PyData.showableAll ds = true → (∀ t ∈ PyData.shownAll ds, t.length ≤ sizeLine) →
    ∃ bs as, ReadAtMost s.heap (PyData.depthAll ds) bs ∧ ReprAllK X.prog X.w bs s.heap (PyData.depthAll ds) us (PyData.shownAll ds) ∧ ReadsAll s.heap us ds as
  | _, _, _, .nil, r, _, _ => by
    cases r
    exact ⟨[], [], (fun _ h => nomatch h), by simp only [PyData.shownAll]; exact .nil, .nil⟩
  | _, _, _, .cons (d := d) (ds := ds) a q, r, hs, hz => by
    cases r with
    | cons r1 r2 =>
      have hs' : d.showable = true ∧ PyData.showableAll ds = true := by simpa [PyData.showableAll] using hs
      have hz' : d.shown.length ≤ sizeLine ∧ ∀ t ∈ PyData.shownAll ds, t.length ≤ sizeLine := by
        simp only [PyData.shownAll] at hz
        exact ⟨hz _ List.mem_cons_self, fun t ht => hz t (List.mem_cons_of_mem _ ht)⟩
      obtain ⟨as1, rd, hsm⟩ := a.reads I r1
      obtain ⟨b1, m1, k1⟩ := ReprK.of_reads (prog := X.prog) (w := X.w) rd hs'.1 hsm hz'.1
      obtain ⟨b2, as2, m2, k2, rd2⟩ := dq_repr I q r2 hs'.2 hz'.2
      have l1 : d.depth ≤ PyData.depthAll (d :: ds) := by simp only [PyData.depthAll]; omega
      have l2 : PyData.depthAll ds ≤ PyData.depthAll (d :: ds) := by simp only [PyData.depthAll]; omega
      refine ⟨b1 ++ b2, as1 ++ as2, ?_, ?_, .cons rd rd2⟩
      · intro b hb
        rcases List.mem_append.mp hb with z | z
        · obtain ⟨d', as', r', e'⟩ := m1 b z
          exact ⟨d', as', r', Nat.le_trans e' l1⟩
        · obtain ⟨d', as', r', e'⟩ := m2 b z
          exact ⟨d', as', r', Nat.le_trans e' l2⟩
      · simp only [PyData.shownAll]
        exact .cons ((k1.more (fun b hb => List.mem_append_left _ hb)).level_le l1) (k2.more_le (fun b hb => List.mem_append_right _ hb) l2)
def rShowQ (K : PySem.W.Frag) : List V → Hp → VK → Prop := fun xs H Q => ∃ (a : Addr) (v : V) (vs : List V) (ds : List PyData), xs = [.ref a] ∧ SqL K H a (v :: vs) ∧ DqAll K H (v :: vs) ds ∧
  PyData.showableAll ds = true ∧ PyData.depthAll ds ≤ 29 ∧ (PyData.shown (.list ds)).length ≤ sizeLine ∧ Q (.str (PyData.shown (.list ds))) H
theorem call_showQ (hG : X.A.guards = some []) {k : Nat} (hr : Room k X.A) : CallR X (.builtin "repr") (rShowQ X.K) := by
  intro pins s σ H xs us Q I r h
  obtain ⟨a, v, vs, ds, rfl, hS, hd, hs, h30, hz, q⟩ := h
  cases r with
  | cons r1 r2 =>
    cases r2
    cases r1
    have hu := hr.units
    obtain ⟨its, rv, ⟨o, n, ho, hc, _, hdt⟩, _⟩ := I.list hS
    have hz' : (listText (PyData.shownAll ds)).length ≤ sizeLine := by simpa only [PyData.shown] using hz
    obtain ⟨bs, as, m, k, rd⟩ := dq_repr I hd rv hs (fun t ht => Nat.le_trans (listText_mem_le ht) hz')
    have rl : Reads s.heap (.ref a) (.list ds) (a :: as) := Reads.list ho hc hdt rd
    have hna : a ∉ bs := not_mem_of_deeper rl (by simp only [PyData.depth]; omega) m
    cases its with
    | nil => cases rv
    | cons u us' =>
      refine call_repr_slot (T := "list") (by omega) ⟨o, ho, hc⟩ F.slot_list_repr.toG ?_
      refine call_list_reprK ho hc hdt hna (by simpa using k.length_eq) (fun i y e => k.item i y (by simpa using e)) hG (fun b _ => Clear.nil b) (by show X.A.units + 1 + (PyData.depthAll ds + 1) < cLine; omega) (fun _ _ z => z) (fun h' u tk hk => ?_) hz'
      refine ⟨_, _, rfl, ⟨.str (PyData.shown (.list ds)), H, I.kept hk, ⟨u, ?_⟩, q⟩⟩
      simp only [PyData.shown]
end
/-- a statement and the rest, what follows shown once from what holds between them -/
def tMid (t u : TS) : TS := fun D σ H => ∃ Md : L2.St → Hp → Prop, t { D with nx := Md } σ H ∧ ∀ σ' H', Md σ' H' → u D σ' H'
theorem pss_mid {X : Cx} {st : Stmt} {more : List Stmt} {t u : TS} (h1 : PS X st t) (h2 : PSs X more u) : PSs X (st :: more) (tMid t u) := by
  refine ⟨fun pins s σ H D I ⟨Md, hm, hu⟩ => wpAny_execs_cons (thn (h1.run pins s σ H { D with nx := Md } I hm) fun f s1 q => ?_)⟩
  cases f with
  | next =>
    obtain ⟨σ', H', I', q⟩ := q
    exact h2.run pins s1 σ' H' D I' (hu σ' H' q)
  | ret v => exact q
  | brk => exact q
  | cont => exact q
/-- what repr asks of a list of things -/
structure ShowA (ds : List PyData) : Prop where
  sh : PyData.showableAll ds = true
  dp : PyData.depthAll ds ≤ 29
  ln : (PyData.shown (.list ds)).length ≤ sizeLine
end Lf

set_option Elab.async false
set_option linter.all false
set_option maxRecDepth 100000
set_option maxHeartbeats 4000000
set_option exponentiation.threshold 3000
namespace Lf
open PySem PySem.Spec PyProof.Rows L2
theorem bt_isinstance : bootBuiltins "isinstance" = some (.builtin "isinstance") := by decide +kernel
theorem bt_bool : bootBuiltins "bool" = some (.type "bool") := by decide +kernel
theorem bt_tuple : bootBuiltins "tuple" = some (.type "tuple") := by decide +kernel
structure Bltx (mg : Str → Option Value) : Prop where
  isinstance : mg "isinstance" = none
  bool : mg "bool" = none
  tuple : mg "tuple" = none
theorem len_show {n : Nat} (h : n ≤ 1000) : n ≤ sizeLine := by
  rw [sizeLine_eq]
  omega
theorem u65 {k : Nat} {A : Around} (r : Room k A) : A.units + 65 < cLine := by
  have := r.un
  omega
theorem iteN {c A B : Prop} [Decidable c] (hc : ¬ c) (h : A) : if (!decide c) = true then A else B := by
  rw [decide_eq_false hc]
  exact iteT h
def isI : PyData → Bool
  | .int _ => true
  | .bool _ => true
  | _ => false
def isB : PyData → Bool
  | .bool _ => true
  | _ => false
def isT : PyData → Bool
  | .tuple _ => true
  | _ => false
def isS : PyData → Bool
  | .str _ => true
  | _ => false
def isW : PyData → Bool
  | .int _ => true
  | _ => false
theorem ki_none : kitB "NoneType" "int" = some false := by decide +kernel
theorem ki_bool : kitB "bool" "int" = some true := by decide +kernel
theorem ki_int : kitB "int" "int" = some true := by decide +kernel
theorem ki_str : kitB "str" "int" = some false := by decide +kernel
theorem ki_list : kitB "list" "int" = some false := by decide +kernel
theorem ki_tuple : kitB "tuple" "int" = some false := by decide +kernel
theorem ki_dict : kitB "dict" "int" = some false := by decide +kernel
theorem ki (d : PyData) : kitB (tyN d) "int" = some (isI d) :=
  match d with
  | .none => ki_none
  | .bool _ => ki_bool
  | .int _ => ki_int
  | .str _ => ki_str
  | .list _ => ki_list
  | .tuple _ => ki_tuple
  | .dict _ => ki_dict
theorem kb_none : kitB "NoneType" "bool" = some false := by decide +kernel
theorem kb_bool : kitB "bool" "bool" = some true := by decide +kernel
theorem kb_int : kitB "int" "bool" = some false := by decide +kernel
theorem kb_str : kitB "str" "bool" = some false := by decide +kernel
theorem kb_list : kitB "list" "bool" = some false := by decide +kernel
theorem kb_tuple : kitB "tuple" "bool" = some false := by decide +kernel
theorem kb_dict : kitB "dict" "bool" = some false := by decide +kernel
theorem kb (d : PyData) : kitB (tyN d) "bool" = some (isB d) :=
  match d with
  | .none => kb_none
  | .bool _ => kb_bool
  | .int _ => kb_int
  | .str _ => kb_str
  | .list _ => kb_list
  | .tuple _ => kb_tuple
  | .dict _ => kb_dict
theorem kt_none : kitB "NoneType" "tuple" = some false := by decide +kernel
theorem kt_bool : kitB "bool" "tuple" = some false := by decide +kernel
theorem kt_int : kitB "int" "tuple" = some false := by decide +kernel
theorem kt_str : kitB "str" "tuple" = some false := by decide +kernel
theorem kt_list : kitB "list" "tuple" = some false := by decide +kernel
theorem kt_tuple : kitB "tuple" "tuple" = some true := by decide +kernel
theorem kt_dict : kitB "dict" "tuple" = some false := by decide +kernel
theorem kt (d : PyData) : kitB (tyN d) "tuple" = some (isT d) :=
  match d with
  | .none => kt_none
  | .bool _ => kt_bool
  | .int _ => kt_int
  | .str _ => kt_str
  | .list _ => kt_list
  | .tuple _ => kt_tuple
  | .dict _ => kt_dict
theorem ks_none : kitB "NoneType" "str" = some false := by decide +kernel
theorem ks_bool : kitB "bool" "str" = some false := by decide +kernel
theorem ks_int : kitB "int" "str" = some false := by decide +kernel
theorem ks_str : kitB "str" "str" = some true := by decide +kernel
theorem ks_list : kitB "list" "str" = some false := by decide +kernel
theorem ks_tuple : kitB "tuple" "str" = some false := by decide +kernel
theorem ks_dict : kitB "dict" "str" = some false := by decide +kernel
theorem ks (d : PyData) : kitB (tyN d) "str" = some (isS d) :=
  match d with
  | .none => ks_none
  | .bool _ => ks_bool
  | .int _ => ks_int
  | .str _ => ks_str
  | .list _ => ks_list
  | .tuple _ => ks_tuple
  | .dict _ => ks_dict
def fr2 : PyData → PyData → Bool
  | .int a, .int b => decide (0 < b) && decide (Nat.gcd a.natAbs b.natAbs = 1)
  | _, _ => false
def frL : List PyData → Bool
  | [x, y] => fr2 x y
  | _ => false
def isFr : PyData → Bool
  | .tuple ds => frL ds
  | _ => false
def lets : Str := Str.ofString "abcdefghijklmnopqrstuvwxyz"
def inL (c : Nat) : Bool := decide (c ∈ lets.cps.toList)
def isNm : PyData → Bool
  | .str z => decide (1 ≤ z.length) && decide (z.length ≤ 10) && z.cps.toList.all inL
  | _ => false
section
variable {P : Program} {w : World} {K : PySem.W.Frag} {mg : Str → Option Value} {base : Heap}
theorem Dq.tup {H : Hp} {v : V} {d : PyData} (h : Dq K H v d) (e : isT d = true) : ∃ (a : Addr) (xs : List V) (ds : List PyData), v = .ref a ∧ d = .tuple ds ∧ SqT K H a xs ∧ DpAll K H xs ds ∧ PyData.hasDictAll ds = false := by
  cases h with
  | dp h n =>
    cases h with
    | tup h1 h2 => exact ⟨_, _, _, rfl, rfl, h1, h2, by simpa [PyData.hasDict] using n⟩
    | non => cases e
    | bl _ => cases e
    | int _ => cases e
    | str _ => cases e
    | lst _ _ => cases e
  | dic _ _ => cases e
theorem Dq.txt {H : Hp} {v : V} {d : PyData} (h : Dq K H v d) (e : isS d = true) : ∃ z, v = .str z ∧ d = .str z := by
  cases h with
  | dp h n =>
    cases h with
    | str z => exact ⟨z, rfl, rfl⟩
    | non => cases e
    | bl _ => cases e
    | int _ => cases e
    | tup _ _ => cases e
    | lst _ _ => cases e
  | dic _ _ => cases e
theorem Dq.whole {H : Hp} {v : V} {d : PyData} (h : Dq K H v d) (e : isW d = true) : ∃ i, v = .int i ∧ d = .int i := by
  cases h with
  | dp h n =>
    cases h with
    | int i => exact ⟨i, rfl, rfl⟩
    | non => cases e
    | bl _ => cases e
    | str _ => cases e
    | tup _ _ => cases e
    | lst _ _ => cases e
  | dic _ _ => cases e

def sp_whole (K : PySem.W.Frag) : Sp := fun vs H Q _ => ∃ (v : V) (d : PyData), vs = [v] ∧ Dq K H v d ∧ Q (.bl (isW d)) H
/-! ### is_whole -/
abbrev s_is_whole : Stmt := topS 10
theorem sc_is_whole : FnScope ["thing"] ["thing"] (defScope s_is_whole) := ⟨rfl, rfl, rfl, by decide +kernel, rfl, by decide +kernel, by decide +kernel⟩
theorem ok_whole {f : Addr} {fd : FuncData} (M : Blt mg) (Mx : Bltx mg) (F : Fun K "is_whole" "is_whole" s_is_whole f fd) : FnG P w K mg base CX0 1 f fd ["thing"] (sp_whole K) := by
  refine Gfun F sc_is_whole (fun vs H Q E h => ?_) (fun cdv A outer s H vs Q E hg hr h => ?_)
  · obtain ⟨v, d, rfl, _⟩ := h
    rfl
  · obtain ⟨v, d, rfl, hq, k⟩ := h
    refine ⟨_, (pss_one (ps_ret (pe_and (pe_callB call_isi rfl Mx.isinstance bt_isinstance (pa_cons (pv 0) (pa_cons (pe_bltn (v := .ty "int") rfl M.int bt_int rfl) pa_nil))) (pe_one (pe_not (pe_callB call_isi rfl Mx.isinstance bt_isinstance (pa_cons (pv 0) (pa_cons (pe_bltn (v := .ty "bool") rfl Mx.bool bt_bool rfl) pa_nil)))))))), ?_⟩
    refine ⟨_, rfl, _, _, _, _, _, rfl, .ty "int", hq.ty, kit_ty (ki d), _, rfl, ite2 (fun e => ?_) (fun e => ?_)⟩
    · refine ⟨_, rfl, _, _, _, _, _, rfl, .ty "bool", hq.ty, kit_ty (kb d), _, rfl, ?_⟩
      have : isW d = !isB d := by cases d <;> first | rfl | (cases e)
      rw [← this]
      exact k
    · have : isW d = false := by cases d <;> first | rfl | (exact absurd rfl e)
      rw [this] at k
      exact k

/-! ### is_fraction -/
abbrev s_is_fraction : Stmt := topS 16
theorem sc_is_fraction : FnScope ["thing", "top", "bottom"] ["thing"] (defScope s_is_fraction) := ⟨rfl, rfl, rfl, by decide +kernel, rfl, by decide +kernel, by decide +kernel⟩
def sp_isfr (K : PySem.W.Frag) : Sp := fun vs H Q _ => ∃ (v : V) (d : PyData), vs = [v] ∧ Dq K H v d ∧ Q (.bl (isFr d)) H
theorem isFr_len {ds : List PyData} (h : ds.length ≠ 2) : isFr (.tuple ds) = false := by
  match ds, h with
  | [], _ => rfl
  | [_], _ => rfl
  | [_, _], h => exact absurd rfl h
  | _ :: _ :: _ :: _, _ => rfl
theorem isFr_no {d e : PyData} (h : isW d = false ∨ isW e = false) : isFr (.tuple [d, e]) = false := by
  cases d <;> cases e <;> first | rfl | (rcases h with h | h <;> cases h)
theorem isFr_two {a b : Int} : isFr (.tuple [.int a, .int b]) = (decide (0 < b) && decide (Nat.gcd a.natAbs b.natAbs = 1)) := rfl
theorem DpAll.len {H : Hp} : ∀ {vs : List V} {ds : List PyData}, DpAll K H vs ds → vs.length = ds.length
  | _, _, .nil => rfl
  | _, _, .cons _ r => congrArg Nat.succ (DpAll.len r)
theorem two_of {H : Hp} {xs : List V} {ds : List PyData} (h : DpAll K H xs ds) (hl : xs.length = 2) : ∃ x y d1 d2, xs = [x, y] ∧ ds = [d1, d2] ∧ Dp K H x d1 ∧ Dp K H y d2 := by
  match xs, ds, h, hl with
  | _, _, .cons h1 (.cons h2 .nil), _ => exact ⟨_, _, _, _, rfl, rfl, h1, h2⟩
  | _, _, .nil, e => cases e
  | _, _, .cons _ .nil, e => cases e
  | _, _, .cons _ (.cons _ (.cons _ _)), e => simp at e
theorem ok_isfr {f : Addr} {fd : FuncData} (M : Blt mg) (Mx : Bltx mg) (F : Fun K "is_fraction" "is_fraction" s_is_fraction f fd) (C_is_whole : Cal P w K mg base CX0 1 "is_whole" ["thing"] (sp_whole K)) (C_common : Cal P w K mg base CX0 1 "common" ["one", "other"] spCom) :
    FnG P w K mg base CX0 2 f fd ["thing"] (sp_isfr K) := by
  refine Gfun F sc_is_fraction (fun vs H Q E h => ?_) (fun cdv A outer s H vs Q E hg hr h => ?_)
  · obtain ⟨v, d, rfl, _⟩ := h
    rfl
  · obtain ⟨v, d, rfl, hq, k⟩ := h
    refine ⟨_, (pss_cons (ps_if (PW.pt (pw_or (pt_not (pt_val (pe_callB call_isi rfl Mx.isinstance bt_isinstance (pa_cons (pv 0) (pa_cons (pe_bltn (v := .ty "tuple") rfl Mx.tuple bt_tuple rfl) pa_nil))))) (pw_or1 (pt_cmpR op_ne (pe_callB call_len_seq rfl M.len bt_len (pa_cons (pv 0) pa_nil)) pe_int (nomark _)))))
      (pss_one (ps_ret pe_bl))
      pss_nil)
      (pss_cons (ps_asg (pv 0) (pg_tup rfl (pgs_cons (pg_name (i := 1) sc_is_fraction.nd rfl (.inl rfl)) (pgs_cons (pg_name (i := 2) sc_is_fraction.nd rfl (.inl rfl)) pgs_nil))))
      (pss_cons (ps_if (PW.pt (pw_or (pt_not (pt_val (pe_g C_is_whole (hr.mono (by decide)) hg (pa_cons (pv 1) pa_nil)))) (pw_or1 (pt_not (pt_val (pe_g C_is_whole (hr.mono (by decide)) hg (pa_cons (pv 2) pa_nil)))))))
      (pss_one (ps_ret pe_bl))
      pss_nil)
      (pss_one (ps_ret (pe_and (pe_cmpR op_gt (pv 2) pe_int (nomark _)) (pe_one (pe_cmpR op_eq (pe_g C_common (hr.mono (by decide)) hg (pa_cons (pe_callB call_abs rfl M.abs bt_abs (pa_cons (pv 1) pa_nil)) (pa_cons (pv 2) pa_nil))) pe_int (nomark _))))))))), ?_⟩
    refine ⟨_, rfl, _, _, _, _, _, rfl, .ty "tuple", hq.ty, kit_ty (kt d), _, rfl, ?_⟩
    by_cases ht : isT d = true
    · rw [ht]
      refine iteF ?_
      obtain ⟨a, xs, ds, rfl, rfl, hS, hA, hn⟩ := hq.tup ht
      refine ⟨_, rfl, a, xs, rfl, .inr hS, rfl, _, rfl, ?_⟩
      by_cases hl : xs.length = 2
      · refine iteNS (show V.int (xs.length : Int) = V.int 2 by rw [hl]; rfl) ?_
        obtain ⟨x, y, d1, d2, rfl, rfl, h1, h2⟩ := two_of hA hl
        refine ⟨_, rfl, a, _, rfl, hS, rfl, _, _, rfl, _, _, rfl, rfl, ?_⟩
        have hn' : d1.hasDict = false ∧ d2.hasDict = false := by simpa [PyData.hasDictAll] using hn
        have q1 : Dq K H x d1 := .dp h1 hn'.1
        have q2 : Dq K H y d2 := .dp h2 hn'.2
        refine ⟨_, rfl, x, d1, rfl, q1, _, rfl, ?_⟩
        by_cases w1 : isW d1 = true
        · rw [w1]
          refine iteF ?_
          refine ⟨_, rfl, y, d2, rfl, q2, _, rfl, ?_⟩
          by_cases w2 : isW d2 = true
          · rw [w2]
            refine iteF ?_
            obtain ⟨p, rfl, rfl⟩ := q1.whole w1
            obtain ⟨b, rfl, rfl⟩ := q2.whole w2
            rw [isFr_two] at k
            refine ⟨_, rfl, _, _, rfl, rfl, _, rfl, ite2 (fun e => ?_) (fun e => ?_)⟩
            · have hb : 0 < b := of_decide_eq_true e
              refine ⟨_, rfl, _, rfl, _, rfl, _, b, rfl, ?_, Int.le_of_lt hb, rfl, ?_⟩
              · rw [abs_is]
                omega
              · rw [abs_is, Int.natAbs_natCast]
                rw [decide_eq_true hb, Bool.true_and] at k
                have e2 : decide (V.int ((Nat.gcd p.natAbs b.natAbs : Nat) : Int) = V.int 1) = decide (Nat.gcd p.natAbs b.natAbs = 1) := by
                  by_cases z : Nat.gcd p.natAbs b.natAbs = 1
                  · rw [decide_eq_true z, z]
                    rfl
                  · rw [decide_eq_false z]
                    exact decide_eq_false fun q => z (by have := V.int.inj q; omega)
                rw [e2]
                exact k
            · rw [show decide (0 < b) = false from Bool.eq_false_iff.mpr e, Bool.false_and] at k
              exact k
          · have w2' : isW d2 = false := by cases h : isW d2 <;> first | rfl | exact absurd h w2
            rw [w2']
            refine iteT ?_
            rw [isFr_no (.inr w2')] at k
            exact k
        · have w1' : isW d1 = false := by cases h : isW d1 <;> first | rfl | exact absurd h w1
          rw [w1']
          refine iteT ?_
          rw [isFr_no (.inl w1')] at k
          exact k
      · refine iteN (fun z => hl (by have := V.int.inj z; omega)) ?_
        have hl2 : ds.length ≠ 2 := by rw [← DpAll.len hA]; exact hl
        rw [isFr_len hl2] at k
        exact k
    · have ht' : isT d = false := by cases h : isT d <;> first | rfl | exact absurd h ht
      rw [ht']
      refine iteT ?_
      have : isFr d = false := by
        cases d <;> first | rfl | exact absurd rfl ht
      rw [this] at k
      exact k

/-! ### is_name -/
abbrev s_is_name : Stmt := topS 17
theorem sc_is_name : FnScope ["thing", "sign"] ["thing"] (defScope s_is_name) := ⟨rfl, rfl, rfl, by decide +kernel, rfl, by decide +kernel, by decide +kernel⟩
def sp_isnm (K : PySem.W.Frag) : Sp := fun vs H Q _ => ∃ (v : V) (d : PyData), vs = [v] ∧ Dq K H v d ∧ (∀ z, d = .str z → z.length ≤ 1000) ∧ ∀ H', Same H H' → Q (.bl (isNm d)) H'
theorem isNm_no {d : PyData} (h : isS d = false) : isNm d = false := by cases d <;> first | rfl | cases h
theorem ok_isnm {f : Addr} {fd : FuncData} {tl tn : Tok} (M : Blt mg) (Mx : Bltx mg) (G_LETTERS : mg "LETTERS" = some (.str lets tl)) (G_LONGEST_NAME : mg "LONGEST_NAME" = some (.int 10 tn)) (F : Fun K "is_name" "is_name" s_is_name f fd) :
    FnG P w K mg base CX0 2 f fd ["thing"] (sp_isnm K) := by
  refine Gfun F sc_is_name (fun vs H Q E h => ?_) (fun cdv A outer s H vs Q E hg hr h => ?_)
  · obtain ⟨v, d, rfl, _⟩ := h
    rfl
  · obtain ⟨v, d, rfl, hq, hz, k⟩ := h
    refine ⟨_, (pss_cons (ps_if (PW.pt (pw_or (pt_not (pt_val (pe_callB call_isi rfl Mx.isinstance bt_isinstance (pa_cons (pv 0) (pa_cons (pe_bltn (v := .ty "str") rfl M.str bt_str rfl) pa_nil))))) (pw_or1 (pt_not (pt_chain op_le op_le pe_int (pe_callB call_len_str rfl M.len bt_len (pa_cons (pv 0) pa_nil)) (pe_glob (v := .int 10) rfl G_LONGEST_NAME ⟨_, rfl⟩))))))
      (pss_one (ps_ret pe_bl))
      pss_nil)
      (pss_one (ps_ret (pe_callB (cr_all rfl) rfl M.all bt_all (pa_cons (pe_lc (own := [("sign", 1)]) (g := gName 1) (tt := tYes) rfl sc_is_name.nd (pi_str (pv 0)) (blkOk_by (N := ["thing", "sign"]) (sc := defScope s_is_name) (by decide +kernel)) (fun _ _ _ _ _ => pg_name (i := 1) sc_is_name.nd rfl (Or.inl rfl)) (fun _ _ _ _ _ => pts_nil) (fun _ _ _ _ _ => (pe_cmpR op_inS (pv 1) (pe_glob (v := .str lets) rfl G_LETTERS ⟨_, rfl⟩) rfl))) pa_nil))))), ?_⟩
    refine ⟨_, rfl, _, _, _, _, _, rfl, .ty "str", hq.ty, kit_ty (ks d), _, rfl, ?_⟩
    by_cases ht : isS d = true
    · rw [ht]
      refine iteF ?_
      obtain ⟨z, rfl, rfl⟩ := hq.txt ht
      have hzl := hz z rfl
      have hnm : isNm (.str z) = (decide (1 ≤ z.length) && decide (z.length ≤ 10) && z.cps.toList.all inL) := rfl
      have fin : ∀ b : Bool, isNm (.str z) = b → ∀ H', Same H H' → Q (.bl b) H' := fun b e H' s => e ▸ k H' s
      refine ⟨_, rfl, z, rfl, len_show hzl, _, _, rfl, rfl, _, rfl, ?_⟩
      by_cases h1 : (1 : Int) ≤ (z.length : Int)
      · rw [decide_eq_true h1]
        refine iteT ⟨_, _, rfl, rfl, _, rfl, ?_⟩
        by_cases h2 : (z.length : Int) ≤ 10
        · rw [decide_eq_true h2]
          refine iteF ?_
          refine ⟨_, rfl, z, rfl, fun D hD => lc_it walk_str (fun i H' => H' D = some (.lst ((z.cps.toList.take i).map fun c => .bl (inL c))) ∧ Same H H') ⟨upd_same, same_new hD⟩ (fun _ _ _ _ => trivial) ?_ ?_⟩
          · rintro i x H1 H2 hi ⟨eD, sm⟩ ⟨rfl, c, hc, rfl⟩
            have hsz : z.cps.size ≤ 1000 := hzl
            refine ⟨rfl, _, rfl, c, lets, rfl, rfl, _, eD, ?_, ?_, fun b o e => ?_⟩
            · rw [List.length_map, List.length_take, sizeLine_eq]
              omega
            · rw [upd_same, List.take_add_one, Array.getElem?_toList, hc, List.map_append]
              rfl
            · rw [upd_ne (ne_of_none e hD)]
              exact sm _ _ e
          · rintro H1 ⟨eD, sm⟩
            rw [show z.cps.size = z.cps.toList.length from Array.length_toList.symm, List.take_length] at eD
            refine ⟨D, z.cps.toList.map inL, rfl, .inl (.inl ?_), ?_⟩
            · rw [eD, List.map_map]
              rfl
            · refine fin _ ?_ H1 sm
              rw [hnm, decide_eq_true (show 1 ≤ z.length by omega), decide_eq_true (show z.length ≤ 10 by omega), List.all_map]
              rfl
        · rw [decide_eq_false h2]
          refine iteT (fin false ?_ H same_rfl)
          rw [hnm, show decide (z.length ≤ 10) = false from decide_eq_false (by omega), Bool.and_false, Bool.false_and]
      · rw [decide_eq_false h1]
        refine iteF ⟨_, rfl, iteT (fin false ?_ H same_rfl)⟩
        rw [hnm, show decide (1 ≤ z.length) = false from decide_eq_false (by omega), Bool.false_and, Bool.false_and]
    · have ht' : isS d = false := by cases h : isS d <;> first | rfl | exact absurd h ht
      rw [ht']
      refine iteT ?_
      have := k H same_rfl
      rw [isNm_no ht'] at this
      exact this

end
end Lf

set_option linter.all false
/-! Sums and products of fractions in any order, by rational numbers. -/
namespace Lf
def rv (f : Int × Int) : Rat := Rat.divInt f.1 f.2
def IsF (f : Int × Int) : Prop := IsLow f.1 f.2
theorem IsF.ne {f : Int × Int} (h : IsF f) : f.2 ≠ 0 := by
  have : 0 < f.2 := h.1
  omega
theorem rv_inj {f g : Int × Int} (hf : IsF f) (hg : IsF g) (e : rv f = rv g) : f = g := by
  have q := (Rat.divInt_eq_divInt_iff hf.ne hg.ne).mp e
  obtain ⟨e1, e2⟩ := low_uniq hf hg q
  exact Prod.ext e1 e2
theorem low_f {n d : Int} (h : d ≠ 0) : IsF (low n d) := low_is h
theorem rv_low {n d : Int} (h : d ≠ 0) : rv (low n d) = Rat.divInt n d :=
  (Rat.divInt_eq_divInt_iff (low_f (n := n) h).ne h).mpr (low_cross h)
def fadd (f g : Int × Int) : Int × Int := low (f.1 * g.2 + g.1 * f.2) (f.2 * g.2)
def fsub (f g : Int × Int) : Int × Int := low (f.1 * g.2 - g.1 * f.2) (f.2 * g.2)
def fmul (f g : Int × Int) : Int × Int := low (f.1 * g.1) (f.2 * g.2)
def fdiv (f g : Int × Int) : Int × Int := low (f.1 * g.2) (f.2 * g.1)
section
variable {f g : Int × Int}
theorem fadd_f (hf : IsF f) (hg : IsF g) : IsF (fadd f g) := low_f (Int.mul_ne_zero hf.ne hg.ne)
theorem fsub_f (hf : IsF f) (hg : IsF g) : IsF (fsub f g) := low_f (Int.mul_ne_zero hf.ne hg.ne)
theorem fmul_f (hf : IsF f) (hg : IsF g) : IsF (fmul f g) := low_f (Int.mul_ne_zero hf.ne hg.ne)
theorem fdiv_f (hf : IsF f) (h0 : g.1 ≠ 0) : IsF (fdiv f g) := low_f (Int.mul_ne_zero hf.ne h0)
theorem rv_add (hf : IsF f) (hg : IsF g) : rv (fadd f g) = rv f + rv g := by
  unfold fadd
  rw [rv_low (Int.mul_ne_zero hf.ne hg.ne)]
  exact (Rat.divInt_add_divInt _ _ hf.ne hg.ne).symm
theorem rv_sub (hf : IsF f) (hg : IsF g) : rv (fsub f g) = rv f - rv g := by
  unfold fsub
  rw [rv_low (Int.mul_ne_zero hf.ne hg.ne)]
  exact (Rat.divInt_sub_divInt _ _ hf.ne hg.ne).symm
theorem rv_mul (hf : IsF f) (hg : IsF g) : rv (fmul f g) = rv f * rv g := by
  unfold fmul
  rw [rv_low (Int.mul_ne_zero hf.ne hg.ne)]
  exact (Rat.divInt_mul_divInt _ _).symm
theorem rv_div (hf : IsF f) (h0 : g.1 ≠ 0) : rv (fdiv f g) = rv f * (rv g)⁻¹ := by
  unfold fdiv
  rw [rv_low (Int.mul_ne_zero hf.ne h0)]
  unfold rv
  rw [Rat.inv_divInt, Rat.divInt_mul_divInt]
end
def f0 : Int × Int := (0, 1)
def f1 : Int × Int := (1, 1)
theorem f0_f : IsF f0 := ⟨by decide, by decide⟩
theorem f1_f : IsF f1 := ⟨by decide, by decide⟩
theorem rv0 : rv f0 = 0 := Rat.zero_divInt 1
theorem rv1 : rv f1 = 1 := Rat.divInt_self' (by decide)
theorem rv_zero {f : Int × Int} (h : IsF f) : rv f = 0 ↔ f.1 = 0 := by
  constructor
  · intro e
    have := rv_inj h f0_f (e.trans rv0.symm)
    rw [this]
    rfl
  · intro e
    unfold rv
    rw [e, Rat.zero_divInt]
theorem is0 {f : Int × Int} (h : IsF f) : f.1 = 0 ↔ f = f0 := by
  constructor
  · intro e
    exact rv_inj h f0_f (((rv_zero h).mpr e).trans rv0.symm)
  · intro e
    rw [e]
    rfl
def rsum : List (Int × Int) → Rat
  | [] => 0
  | f :: r => rv f + rsum r
def rprod : List (Int × Int) → Rat
  | [] => 1
  | f :: r => rv f * rprod r
theorem rsum_perm {l m : List (Int × Int)} (p : l.Perm m) : rsum l = rsum m := by
  induction p with
  | nil => rfl
  | cons x _ ih => exact congrArg (rv x + ·) ih
  | swap x y l =>
    show rv y + (rv x + rsum l) = rv x + (rv y + rsum l)
    rw [← Rat.add_assoc, ← Rat.add_assoc, Rat.add_comm (rv y)]
  | trans _ _ h1 h2 => exact h1.trans h2
theorem rprod_perm {l m : List (Int × Int)} (p : l.Perm m) : rprod l = rprod m := by
  induction p with
  | nil => rfl
  | cons x _ ih => exact congrArg (rv x * ·) ih
  | swap x y l =>
    show rv y * (rv x * rprod l) = rv x * (rv y * rprod l)
    rw [← Rat.mul_assoc, ← Rat.mul_assoc, Rat.mul_comm (rv y)]
  | trans _ _ h1 h2 => exact h1.trans h2
def AllF (l : List (Int × Int)) : Prop := ∀ f ∈ l, IsF f
theorem AllF.tl {f : Int × Int} {l : List (Int × Int)} (h : AllF (f :: l)) : AllF l := fun g hg => h g (List.mem_cons_of_mem _ hg)
theorem AllF.hd {f : Int × Int} {l : List (Int × Int)} (h : AllF (f :: l)) : IsF f := h f List.mem_cons_self
theorem sum_fold : ∀ (l : List (Int × Int)) (a : Int × Int), IsF a → AllF l → IsF (l.foldl fadd a) ∧ rv (l.foldl fadd a) = rv a + rsum l
  | [], a, ha, _ => ⟨ha, (Rat.add_zero _).symm⟩
  | f :: l, a, ha, h => by
    obtain ⟨h1, h2⟩ := sum_fold l (fadd a f) (fadd_f ha h.hd) h.tl
    refine ⟨h1, ?_⟩
    show rv (l.foldl fadd (fadd a f)) = rv a + (rv f + rsum l)
    rw [h2, rv_add ha h.hd, Rat.add_assoc]
theorem mul_fold : ∀ (l : List (Int × Int)) (a : Int × Int), IsF a → AllF l → IsF (l.foldl fmul a) ∧ rv (l.foldl fmul a) = rv a * rprod l
  | [], a, ha, _ => ⟨ha, (Rat.mul_one _).symm⟩
  | f :: l, a, ha, h => by
    obtain ⟨h1, h2⟩ := mul_fold l (fmul a f) (fmul_f ha h.hd) h.tl
    refine ⟨h1, ?_⟩
    show rv (l.foldl fmul (fmul a f)) = rv a * (rv f * rprod l)
    rw [h2, rv_mul ha h.hd, Rat.mul_assoc]
theorem sub_fold : ∀ (l : List (Int × Int)) (a : Int × Int), IsF a → AllF l → IsF (l.foldl fsub a) ∧ rv (l.foldl fsub a) = rv a - rsum l
  | [], a, ha, _ => ⟨ha, by show rv a = rv a - 0; rw [Rat.sub_eq_add_neg, show -(0 : Rat) = 0 from rfl, Rat.add_zero]⟩
  | f :: l, a, ha, h => by
    obtain ⟨h1, h2⟩ := sub_fold l (fsub a f) (fsub_f ha h.hd) h.tl
    refine ⟨h1, ?_⟩
    show rv (l.foldl fsub (fsub a f)) = rv a - (rv f + rsum l)
    rw [h2, rv_sub ha h.hd, Rat.sub_eq_add_neg, Rat.sub_eq_add_neg, Rat.sub_eq_add_neg, Rat.neg_add, Rat.add_assoc]
/-- one division, where it is one -/
def ddiv (a f : Int × Int) : Int × Int := if f.1 ≠ 0 ∧ a.1 ≠ 0 then fdiv a f else a
theorem ddiv_f {a f : Int × Int} (ha : IsF a) (hf : IsF f) : IsF (ddiv a f) := by
  unfold ddiv
  split
  · exact fdiv_f ha (by rename_i h; exact h.1)
  · exact ha
theorem div_fold0 : ∀ (l : List (Int × Int)) (a : Int × Int), a.1 = 0 → l.foldl ddiv a = a
  | [], _, _ => rfl
  | f :: l, a, h => by
    show l.foldl ddiv (ddiv a f) = a
    have e : ddiv a f = a := if_neg fun z => z.2 h
    rw [e]
    exact div_fold0 l a h
theorem div_fold : ∀ (l : List (Int × Int)) (a : Int × Int), IsF a → AllF l → (∀ f ∈ l, f.1 ≠ 0) → a.1 ≠ 0 → IsF (l.foldl ddiv a) ∧ rv (l.foldl ddiv a) * rprod l = rv a
  | [], a, ha, _, _, _ => ⟨ha, Rat.mul_one _⟩
  | f :: l, a, ha, h, h0, ha0 => by
    have hf0 : f.1 ≠ 0 := h0 f List.mem_cons_self
    have e : ddiv a f = fdiv a f := if_pos ⟨hf0, ha0⟩
    have hq := fdiv_f (g := f) ha hf0
    have rq := rv_div (g := f) ha hf0
    have rf0 : rv f ≠ 0 := fun z => hf0 ((rv_zero h.hd).mp z)
    have hb : rv (fdiv a f) * rv f = rv a := by rw [rq, Rat.mul_assoc, Rat.inv_mul_cancel _ rf0, Rat.mul_one]
    have hq0 : (fdiv a f).1 ≠ 0 := fun z => by
      have := (rv_zero hq).mpr z
      rw [this, Rat.zero_mul] at hb
      exact ha0 ((rv_zero ha).mp hb.symm)
    obtain ⟨h1, h2⟩ := div_fold l (fdiv a f) hq h.tl (fun g hg => h0 g (List.mem_cons_of_mem _ hg)) hq0
    show IsF (l.foldl ddiv (ddiv a f)) ∧ rv (l.foldl ddiv (ddiv a f)) * (rv f * rprod l) = rv a
    rw [e]
    refine ⟨h1, ?_⟩
    rw [Rat.mul_comm (rv f), ← Rat.mul_assoc, h2, hb]
theorem rprod0 : ∀ {l : List (Int × Int)}, AllF l → (rprod l = 0 ↔ ∃ f ∈ l, f.1 = 0)
  | [], _ => ⟨fun e => absurd e (by decide), fun ⟨_, h, _⟩ => nomatch h⟩
  | f :: l, h => by
    show rv f * rprod l = 0 ↔ _
    rw [Rat.mul_eq_zero, rv_zero h.hd, rprod0 h.tl]
    constructor
    · rintro (e | ⟨g, hg, e⟩)
      · exact ⟨f, List.mem_cons_self, e⟩
      · exact ⟨g, List.mem_cons_of_mem _ hg, e⟩
    · rintro ⟨g, hg, e⟩
      rcases List.mem_cons.mp hg with z | z
      · exact Or.inl (z ▸ e)
      · exact Or.inr ⟨g, z, e⟩
/-- told in two orders the same -/
theorem sum_same {l m : List (Int × Int)} (p : l.Perm m) (h : AllF l) : l.foldl fadd f0 = m.foldl fadd f0 := by
  have hm : AllF m := fun f hf => h f (p.mem_iff.mpr hf)
  obtain ⟨a1, a2⟩ := sum_fold l f0 f0_f h
  obtain ⟨b1, b2⟩ := sum_fold m f0 f0_f hm
  exact rv_inj a1 b1 (by rw [a2, b2, rsum_perm p])
theorem mul_same {l m : List (Int × Int)} (p : l.Perm m) (h : AllF l) : l.foldl fmul f1 = m.foldl fmul f1 := by
  have hm : AllF m := fun f hf => h f (p.mem_iff.mpr hf)
  obtain ⟨a1, a2⟩ := mul_fold l f1 f1_f h
  obtain ⟨b1, b2⟩ := mul_fold m f1 f1_f hm
  exact rv_inj a1 b1 (by rw [a2, b2, rprod_perm p])
theorem sub_none {l m : List (Int × Int)} (p : l.Perm m) (h : AllF l) : m.foldl fsub (l.foldl fadd f0) = f0 := by
  have hm : AllF m := fun f hf => h f (p.mem_iff.mpr hf)
  obtain ⟨a1, a2⟩ := sum_fold l f0 f0_f h
  obtain ⟨b1, b2⟩ := sub_fold m _ a1 hm
  exact rv_inj b1 f0_f (by rw [b2, a2, rv0, Rat.zero_add, rsum_perm p, Rat.sub_self])
theorem div_none {l m : List (Int × Int)} (p : l.Perm m) (h : AllF l) : m.foldl ddiv (l.foldl fmul f1) = if f0 ∈ l then f0 else f1 := by
  have hm : AllF m := fun f hf => h f (p.mem_iff.mpr hf)
  obtain ⟨a1, a2⟩ := mul_fold l f1 f1_f h
  rw [rv1, Rat.one_mul] at a2
  by_cases hz : f0 ∈ l
  · rw [if_pos hz]
    have z : rprod l = 0 := (rprod0 h).mpr ⟨f0, hz, rfl⟩
    have z1 : (l.foldl fmul f1).1 = 0 := (rv_zero a1).mp (a2.trans z)
    rw [div_fold0 _ _ z1]
    exact (is0 a1).mp z1
  · rw [if_neg hz]
    have nz : ∀ f ∈ l, f.1 ≠ 0 := fun f hf e => hz ((is0 (h f hf)).mp e ▸ hf)
    have np : rprod l ≠ 0 := fun e => by
      obtain ⟨f, hf, e'⟩ := (rprod0 h).mp e
      exact nz f hf e'
    have n1 : (l.foldl fmul f1).1 ≠ 0 := fun e => np (a2.symm.trans ((rv_zero a1).mpr e))
    obtain ⟨b1, b2⟩ := div_fold m _ a1 hm (fun f hf => nz f (p.mem_iff.mpr hf)) n1
    refine rv_inj b1 f1_f ?_
    rw [a2, rprod_perm p] at b2
    have np' : rprod m ≠ 0 := by rw [← rprod_perm p]; exact np
    have : rv (m.foldl ddiv (l.foldl fmul f1)) * rprod m * (rprod m)⁻¹ = rprod m * (rprod m)⁻¹ := by rw [b2]
    rw [Rat.mul_assoc, Rat.mul_inv_cancel _ np', Rat.mul_one] at this
    rw [this, rv1]
/-- one fraction times a sum is the sum of its products -/
theorem spread_fold (x : Int × Int) (hx : IsF x) : ∀ (l : List (Int × Int)) (a : Int × Int), IsF a → AllF l → IsF (l.foldl (fun a f => fadd a (fmul x f)) a) ∧ rv (l.foldl (fun a f => fadd a (fmul x f)) a) = rv a + rv x * rsum l
  | [], a, ha, _ => ⟨ha, by show rv a = rv a + rv x * 0; rw [Rat.mul_zero, Rat.add_zero]⟩
  | f :: l, a, ha, h => by
    obtain ⟨h1, h2⟩ := spread_fold x hx l (fadd a (fmul x f)) (fadd_f ha (fmul_f hx h.hd)) h.tl
    refine ⟨h1, ?_⟩
    show rv (l.foldl (fun a f => fadd a (fmul x f)) (fadd a (fmul x f))) = rv a + rv x * (rv f + rsum l)
    rw [h2, rv_add ha (fmul_f hx h.hd), rv_mul hx h.hd, Rat.mul_add, Rat.add_assoc]
theorem spread_same {x : Int × Int} {l : List (Int × Int)} (hx : IsF x) (h : AllF l) : l.foldl (fun a f => fadd a (fmul x f)) f0 = fmul (fmul f1 x) (l.foldl fadd f0) := by
  obtain ⟨a1, a2⟩ := spread_fold x hx l f0 f0_f h
  obtain ⟨b1, b2⟩ := sum_fold l f0 f0_f h
  have c := fmul_f f1_f hx
  refine rv_inj a1 (fmul_f c b1) ?_
  rw [a2, rv_mul c b1, rv_mul f1_f hx, b2, rv0, rv1, Rat.one_mul, Rat.zero_add, Rat.zero_add]
/-! sizes -/
def Bt (k : Nat) (f : Int × Int) : Prop := f.1.natAbs < 2 ^ k ∧ f.2.natAbs < 2 ^ k
theorem Bt.mono {j k : Nat} {f : Int × Int} (h : Bt j f) (hk : j ≤ k) : Bt k f :=
  ⟨Nat.lt_of_lt_of_le h.1 (Nat.pow_le_pow_right (by decide) hk), Nat.lt_of_lt_of_le h.2 (Nat.pow_le_pow_right (by decide) hk)⟩
theorem mul_lt {a b : Int} {j k : Nat} (ha : a.natAbs < 2 ^ j) (hb : b.natAbs < 2 ^ k) : (a * b).natAbs < 2 ^ (j + k) := by
  rw [Int.natAbs_mul, Nat.pow_add]
  exact Nat.mul_lt_mul'' ha hb
theorem low_bt {n d : Int} {k : Nat} (h : d ≠ 0) (hn : n.natAbs < 2 ^ k) (hd : d.natAbs < 2 ^ k) : Bt k (low n d) :=
  ⟨Nat.lt_of_le_of_lt (low_top_le h) hn, Nat.lt_of_le_of_lt (low_bottom_le h) hd⟩
section
variable {f g : Int × Int} {j k : Nat}
theorem fadd_bt (hf : IsF f) (hg : IsF g) (a : Bt k f) (b : Bt j g) : Bt (k + j + 1) (fadd f g) := by
  have h1 := mul_lt a.1 b.2
  have h2 := mul_lt a.2 b.1
  have h3 := mul_lt a.2 b.2
  have h4 := Int.natAbs_add_le (f.1 * g.2) (g.1 * f.2)
  rw [Int.mul_comm g.1] at h4
  have h5 : (2 : Nat) ^ (k + j + 1) = 2 ^ (k + j) + 2 ^ (k + j) := Nat.two_pow_succ _
  refine low_bt (Int.mul_ne_zero hf.ne hg.ne) ?_ (by omega)
  rw [Int.mul_comm g.1]
  omega
theorem fsub_bt (hf : IsF f) (hg : IsF g) (a : Bt k f) (b : Bt j g) : Bt (k + j + 1) (fsub f g) := by
  have h1 := mul_lt a.1 b.2
  have h2 := mul_lt a.2 b.1
  have h3 := mul_lt a.2 b.2
  have h4 := Int.natAbs_sub_le (f.1 * g.2) (g.1 * f.2)
  rw [Int.mul_comm g.1] at h4
  have h5 : (2 : Nat) ^ (k + j + 1) = 2 ^ (k + j) + 2 ^ (k + j) := Nat.two_pow_succ _
  refine low_bt (Int.mul_ne_zero hf.ne hg.ne) ?_ (by omega)
  rw [Int.mul_comm g.1]
  omega
theorem fmul_bt (hf : IsF f) (hg : IsF g) (a : Bt k f) (b : Bt j g) : Bt (k + j) (fmul f g) :=
  low_bt (Int.mul_ne_zero hf.ne hg.ne) (mul_lt a.1 b.1) (mul_lt a.2 b.2)
theorem fdiv_bt (hf : IsF f) (h0 : g.1 ≠ 0) (a : Bt k f) (b : Bt j g) : Bt (k + j) (fdiv f g) :=
  low_bt (Int.mul_ne_zero hf.ne h0) (mul_lt a.1 b.2) (mul_lt a.2 b.1)
theorem ddiv_bt (hf : IsF f) (a : Bt k f) (b : Bt j g) : Bt (k + j) (ddiv f g) := by
  unfold ddiv
  split
  · rename_i h
    exact fdiv_bt hf h.1 a b
  · exact a.mono (Nat.le_add_right _ _)
end
end Lf

set_option Elab.async false
set_option linter.all false
set_option maxRecDepth 100000
set_option maxHeartbeats 4000000
set_option exponentiation.threshold 3000
/-! Fractions that stand in the heap or among the module's constants, and rows of them. -/
namespace Lf
open PySem PySem.Spec PyProof.Rows L2
/-- a fraction stands at v -/
def AtK (K : PySem.W.Frag) (H : Hp) (v : V) (f : Int × Int) : Prop := ∃ p, v = .ref p ∧ SqT K H p [.int f.1, .int f.2]
theorem AtK.same {K : PySem.W.Frag} {H H' : Hp} {v : V} {f : Int × Int} (s : Same H H') (h : AtK K H v f) : AtK K H' v f := by
  obtain ⟨p, e, h⟩ := h
  refine ⟨p, e, ?_⟩
  rcases h with (h | ⟨o, h⟩) | h
  · exact .inl (.inl (s _ _ h))
  · exact .inl (.inr ⟨o, s _ _ h⟩)
  · exact .inr h
theorem AtK.of {K : PySem.W.Frag} {H : Hp} {p : Addr} {f : Int × Int} (h : H p = some (.tup [.int f.1, .int f.2])) : AtK K H (.ref p) f := ⟨p, rfl, .inl (.inl h)⟩
/-- fractions stand at vs -/
def AtKs (K : PySem.W.Frag) (H : Hp) (vs : List V) (fs : List (Int × Int)) : Prop := Paired (AtK K H) vs fs
theorem AtKs.map {K : PySem.W.Frag} {H H' : Hp} (s : ∀ v f, AtK K H v f → AtK K H' v f) : ∀ {vs : List V} {fs : List (Int × Int)}, AtKs K H vs fs → AtKs K H' vs fs
  | _, _, .nil => .nil
  | _, _, .cons a r => .cons (s _ _ a) (AtKs.map s r)
theorem AtKs.same {K : PySem.W.Frag} {H H' : Hp} (s : Same H H') {vs : List V} {fs : List (Int × Int)} (h : AtKs K H vs fs) : AtKs K H' vs fs := h.map fun _ _ => AtK.same s
theorem AtKs.get {K : PySem.W.Frag} {H : Hp} : ∀ {vs : List V} {fs : List (Int × Int)} {i : Nat} {v : V}, AtKs K H vs fs → vs[i]? = some v → ∃ f, fs[i]? = some f ∧ AtK K H v f
  | _, _, _, _, .nil, e => by simp at e
  | _, _, 0, _, .cons a _, e => by
    simp at e
    subst e
    exact ⟨_, rfl, a⟩
  | _, _, i + 1, v, .cons _ r, e => by
    obtain ⟨f, h1, h2⟩ := AtKs.get (i := i) (v := v) r (by simpa using e)
    exact ⟨f, by simpa using h1, h2⟩
theorem AtKs.getF {K : PySem.W.Frag} {H : Hp} : ∀ {vs : List V} {fs : List (Int × Int)} {i : Nat} {f : Int × Int}, AtKs K H vs fs → fs[i]? = some f → ∃ v, vs[i]? = some v ∧ AtK K H v f
  | _, _, _, _, .nil, e => by simp at e
  | _, _, 0, _, .cons a _, e => by
    simp at e
    subst e
    exact ⟨_, rfl, a⟩
  | _, _, i + 1, f, .cons _ r, e => by
    obtain ⟨v, h1, h2⟩ := AtKs.getF (i := i) (f := f) r (by simpa using e)
    exact ⟨v, by simpa using h1, h2⟩
theorem AtKs.length {K : PySem.W.Frag} {H : Hp} {vs : List V} {fs : List (Int × Int)} (h : AtKs K H vs fs) : vs.length = fs.length := Paired.length h
theorem AtKs.app {K : PySem.W.Frag} {H : Hp} : ∀ {vs us : List V} {fs gs : List (Int × Int)}, AtKs K H vs fs → AtKs K H us gs → AtKs K H (vs ++ us) (fs ++ gs)
  | _, _, _, _, .nil, h => h
  | _, _, _, _, .cons a r, h => .cons a (AtKs.app r h)
theorem fold_take {α β : Type} (g : β → α → β) (a : β) {l : List α} {i : Nat} {x : α} (h : l[i]? = some x) : (l.take (i + 1)).foldl g a = g ((l.take i).foldl g a) x := by
  rw [List.take_add_one, h, List.foldl_append]
  rfl
theorem take_all {l : List (Int × Int)} (h : AllF l) (i : Nat) : AllF (l.take i) := fun f hf => h f (List.mem_of_mem_take hf)
def AllB (b : Nat) (l : List (Int × Int)) : Prop := ∀ f ∈ l, Bt b f
theorem add_bt {b : Nat} : ∀ (l : List (Int × Int)) (k : Nat) (a : Int × Int), IsF a → AllF l → Bt k a → AllB b l → Bt (k + (b + 1) * l.length) (l.foldl fadd a)
  | [], _, _, _, _, h, _ => h
  | f :: l, k, a, ha, h, hk, hb => by
    have := add_bt l (k + b + 1) (fadd a f) (fadd_f ha h.hd) h.tl (fadd_bt ha h.hd hk (hb f List.mem_cons_self)) (fun g hg => hb g (List.mem_cons_of_mem _ hg))
    refine this.mono ?_
    rw [List.length_cons, Nat.mul_succ]
    omega
theorem bt01 : Bt 1 f0 ∧ Bt 1 f1 := ⟨⟨by decide, by decide⟩, ⟨by decide, by decide⟩⟩
theorem fadd_0 {f : Int × Int} (h : IsF f) : fadd f0 f = f := by
  refine rv_inj (fadd_f f0_f h) h ?_
  rw [rv_add f0_f h, rv0]
  exact Rat.zero_add _
/-- what holds by two promises holds by either -/
theorem FnG.or {P : Program} {w : World} {K : PySem.W.Frag} {mg : Str → Option Value} {base : Heap} {CX : CXT} {k : Nat} {f : Addr} {fd : FuncData} {ps : List Str} {sp sq : Sp} (F : FnG P w K mg base CX k f fd ps sp) (G : FnG P w K mg base CX k f fd ps sq) :
    FnG P w K mg base CX k f fd ps (fun vs H Q E => sp vs H Q E ∨ sq vs H Q E) :=
  ⟨fun vs H Q E h => h.elim (F.size vs H Q E) (G.size vs H Q E), fun B out s H ar us vs Q E r hg e0 hb hv h => h.elim (F.goes B out s H ar us vs Q E r hg e0 hb hv) (G.goes B out s H ar us vs Q E r hg e0 hb hv)⟩
end Lf

set_option Elab.async false
set_option linter.all false
set_option maxRecDepth 100000
set_option maxHeartbeats 4000000
set_option exponentiation.threshold 3000
namespace Lf
open PySem PySem.Spec PyProof.Rows L2
theorem Bt.sm {k : Nat} {f : Int × Int} (h : Bt k f) (hk : k ≤ 900) : Sm f.1 ∧ Sm f.2 := ⟨(h.mono hk).1, (h.mono hk).2⟩
theorem pr_sq {K : PySem.W.Frag} {H : Hp} {p q : Addr} {f g : Int × Int} {j k : Nat} (hp : SqT K H p [.int f.1, .int f.2]) (hq : SqT K H q [.int g.1, .int g.2]) (hf : IsF f) (hg : IsF g) (bf : Bt j f) (bg : Bt k g) (hj : j ≤ 900) (hk : k ≤ 900) : Pr K H [.ref p, .ref q] f.1 f.2 g.1 g.2 :=
  ⟨⟨p, q, rfl, hp, hq⟩, hf.ne, hg.ne, (bf.sm hj).1, (bf.sm hj).2, (bg.sm hk).1, (bg.sm hk).2⟩
theorem pr_atk {K : PySem.W.Frag} {H : Hp} {v u : V} {f g : Int × Int} {j k : Nat} (hv : AtK K H v f) (hu : AtK K H u g) (hf : IsF f) (hg : IsF g) (bf : Bt j f) (bg : Bt k g) (hj : j ≤ 900) (hk : k ≤ 900) : Pr K H [v, u] f.1 f.2 g.1 g.2 := by
  obtain ⟨p, rfl, hp⟩ := hv
  obtain ⟨q, rfl, hq⟩ := hu
  exact pr_sq hp hq hf hg bf bg hj hk
section
variable {P : Program} {w : World} {K : PySem.W.Frag} {mg : Str → Option Value} {base : Heap}

/-! ### together -/
abbrev s_together : Stmt := topS 14
theorem sc_together : FnScope ["ones", "told", "one"] ["ones"] (defScope s_together) := ⟨rfl, rfl, rfl, by decide +kernel, rfl, by decide +kernel, by decide +kernel⟩
/-- fractions of a row, added up -/
def sp_togL (K : PySem.W.Frag) : Sp := fun vs H Q _ => ∃ (L : Addr) (xs : List V) (fs : List (Int × Int)) (b : Nat), vs = [.ref L] ∧ SqL K H L xs ∧ AtKs K H xs fs ∧ AllF fs ∧ AllB b fs ∧ b ≤ 900 ∧ 1 + (b + 1) * fs.length ≤ 900 ∧
  ∀ (H' : Hp) (v : V), Same H H' → AtK K H' v (fs.foldl fadd f0) → Q v H'
theorem ok_togL {f c0 : Addr} {fd : FuncData} (g0 : mg "NONE_OF_IT" = some (.ref c0)) (t0 : ∀ H, SqT K H c0 [.int 0, .int 1]) (F : Fun K "together" "together" s_together f fd) (C_plus : Cal P w K mg base CX0 5 "plus" ["one", "other"] (sp_plus K)) : FnG P w K mg base CX0 6 f fd ["ones"] (sp_togL K) := by
  refine Gfun F sc_together (fun vs H Q E h => ?_) (fun cdv A outer s H vs Q E hg hr h => ?_)
  · obtain ⟨L, xs, fs, b, rfl, _⟩ := h
    rfl
  · obtain ⟨L, xs, fs, b, rfl, hS, hA, hF, hB, hb8, hlen, k⟩ := h
    refine ⟨_, (pss_cons (ps_set (i := 1) sc_together.nd rfl (.inl rfl) (pe_glob (v := .ref c0) rfl g0 rfl))
      (pss_cons (ps_for PassesOwn.never rfl (pi_list (pv 0)) (pg_name (i := 2) sc_together.nd rfl (.inl rfl))
      (pss_one (ps_set (i := 1) sc_together.nd rfl (.inl rfl) (pe_g C_plus (hr.mono (by decide)) hg (pa_cons (pv 1) (pa_cons (pv 2) pa_nil))))))
      (pss_one (ps_ret (pv 1))))), ?_⟩
    refine ⟨_, rfl, L, rfl, ⟨_, hS⟩, for_list (K := K) (a := L) (xs := xs) (fun i σ H' => ∃ (v : Option V) (t : V), σ = [some (.ref L), some t, v] ∧ Same H H' ∧ AtK K H' t ((fs.take i).foldl fadd f0))
      ⟨none, .ref c0, rfl, same_rfl, ⟨c0, rfl, t0 H⟩⟩ (fun i σ H' _ ⟨_, _, _, sm, _⟩ => sm.seq hS) ?_ ?_⟩
    · rintro i x σ H' hi ⟨v, t, rfl, sm, ht⟩
      obtain ⟨g, hgi, hx0⟩ := hA.get hi
      have hx := hx0.same sm
      have hgf : IsF g := hF g (List.mem_of_getElem? hgi)
      have bg : Bt b g := hB g (List.mem_of_getElem? hgi)
      have hil : i < fs.length := (List.getElem?_eq_some_iff.mp hgi).1
      have htl : (fs.take i).length = i := by rw [List.length_take]; omega
      have hmn : (b + 1) * i ≤ (b + 1) * fs.length := Nat.mul_le_mul_left _ (Nat.le_of_lt hil)
      have fa := (sum_fold (fs.take i) f0 f0_f (take_all hF i)).1
      have ba := add_bt (b := b) (fs.take i) 1 f0 f0_f (take_all hF i) bt01.1 (fun f hf => hB f (List.mem_of_mem_take hf))
      rw [htl] at ba
      refine ⟨_, rfl, _, rfl, _, _, _, _, pr_atk ht hx fa hgf ba bg (by omega) hb8, fun H2 t' s2 e2 => ?_⟩
      refine ⟨some x, _, rfl, sm.trans s2, ?_⟩
      rw [fold_take _ _ hgi]
      exact AtK.of e2
    · rintro σ H' ⟨v, t, rfl, sm, ht⟩
      refine ⟨_, rfl, k H' t sm ?_⟩
      rw [hA.length, List.take_length] at ht
      exact ht

end
end Lf

set_option Elab.async false
set_option linter.all false
set_option maxRecDepth 100000
set_option maxHeartbeats 4000000
set_option exponentiation.threshold 3000
namespace Lf
open PySem PySem.Spec PyProof.Rows L2
/-- a statement that is never come to -/
theorem ps_dead {X : Cx} {st : Stmt} : PS X st (fun _ _ _ => False) := ⟨fun _ _ _ _ _ _ h => h.elim⟩
/-- the module's constant tuples -/
structure Cst (K : PySem.W.Frag) (mg : Str → Option Value) (c0 c1 cw : Addr) : Prop where
  g0 : mg "NONE_OF_IT" = some (.ref c0)
  g1 : mg "ALL_OF_IT" = some (.ref c1)
  gw : mg "WORDS" = some (.ref cw)
  t0 : ∀ H, SqT K H c0 [.int 0, .int 1]
  t1 : ∀ H, SqT K H c1 [.int 1, .int 1]
  tw : ∀ H, SqT K H cw [.str "flour", .str "water", .str "salt", .str "thirst", .str "price"]
/-- the top and the bottom of a fraction -/
def top2 : PyData → Int × Int
  | .tuple [.int a, .int b] => (a, b)
  | _ => (0, 1)
def isM (d : PyData) : Bool := isFr d && decide (0 ≤ (top2 d).1)
theorem isFr_inv {d : PyData} (h : isFr d = true) : ∃ a b : Int, d = .tuple [.int a, .int b] ∧ IsLow a b := by
  cases d with
  | tuple ds =>
    match ds, h with
    | [x, y], h =>
      have h' : fr2 x y = true := h
      cases x <;> cases y <;> first | (cases h'; done) | skip
      rename_i a b
      have h2 : (decide (0 < b) && decide (Nat.gcd a.natAbs b.natAbs = 1)) = true := h'
      rw [Bool.and_eq_true] at h2
      exact ⟨a, b, rfl, of_decide_eq_true h2.1, of_decide_eq_true h2.2⟩
    | [], h => cases h
    | [_], h => cases h
    | _ :: _ :: _ :: _, h => cases h
  | none => cases h
  | bool _ => cases h
  | int _ => cases h
  | str _ => cases h
  | list _ => cases h
  | dict _ => cases h
section
variable {P : Program} {w : World} {K : PySem.W.Frag} {mg : Str → Option Value} {base : Heap} {c0 c1 cw : Addr}

/-! ### measure_or_none_of_it -/
abbrev s_measure_or_none_of_it : Stmt := topS 21
theorem sc_measure_or_none_of_it : FnScope ["measure"] ["measure"] (defScope s_measure_or_none_of_it) := ⟨rfl, rfl, rfl, by decide +kernel, rfl, by decide +kernel, by decide +kernel⟩
/-- None is (0, 1) -/
def orNone : PyData → PyData
  | .none => .tuple [.int 0, .int 1]
  | d => d
def sp_orNone (K : PySem.W.Frag) : Sp := fun vs H Q _ => ∃ (v : V) (d : PyData), vs = [v] ∧ Dq K H v d ∧ ∀ v', (∀ H2, Dq K H2 v d → Dq K H2 v' (orNone d)) → Q v' H
theorem dq_pair {H : Hp} {a : Addr} {x y : Int} (h : SqT K H a [.int x, .int y]) : Dq K H (.ref a) (.tuple [.int x, .int y]) := .dp (.tup h (.cons (.int x) (.cons (.int y) .nil))) (by rfl)
theorem ok_orNone {f : Addr} {fd : FuncData} (T : Cst K mg c0 c1 cw) (F : Fun K "measure_or_none_of_it" "measure_or_none_of_it" s_measure_or_none_of_it f fd) : FnG P w K mg base CX0 1 f fd ["measure"] (sp_orNone K) := by
  refine Gfun F sc_measure_or_none_of_it (fun vs H Q E h => ?_) (fun cdv A outer s H vs Q E hg hr h => ?_)
  · obtain ⟨v, d, rfl, _⟩ := h
    rfl
  · obtain ⟨v, d, rfl, hq, k⟩ := h
    refine ⟨_, (pss_cons (ps_if (pt_cmp (pc_isN (pv 0)))
      (pss_one (ps_ret (pe_glob (v := .ref c0) rfl T.g0 rfl)))
      pss_nil)
      (pss_one (ps_ret (pv 0)))), ?_⟩
    refine ⟨_, rfl, _, rfl, ite2 (fun e => ?_) (fun e => ?_)⟩
    · have ev : v = .non := of_decide_eq_true e
      have ed : d = .none := by
        subst ev
        cases hq with
        | dp h _ =>
          cases h
          rfl
      subst ed
      exact k _ (fun H2 _ => dq_pair (T.t0 H2))
    · have ed : orNone d = d := by
        cases d with
        | none =>
          exfalso
          cases hq with
          | dp h _ =>
            cases h
            exact e (by decide)
        | _ => rfl
      refine ⟨_, rfl, k v fun H2 h2 => ?_⟩
      rw [ed]
      exact h2

/-! ### is_measure -/
abbrev s_is_measure : Stmt := topS 22
theorem sc_is_measure : FnScope ["thing"] ["thing"] (defScope s_is_measure) := ⟨rfl, rfl, rfl, by decide +kernel, rfl, by decide +kernel, by decide +kernel⟩
def sp_isM (K : PySem.W.Frag) : Sp := fun vs H Q _ => ∃ (v : V) (d : PyData), vs = [v] ∧ Dq K H v d ∧ Q (.bl (isM d)) H
theorem ok_isM {f : Addr} {fd : FuncData} (F : Fun K "is_measure" "is_measure" s_is_measure f fd) (C_is_fraction : Cal P w K mg base CX0 2 "is_fraction" ["thing"] (sp_isfr K)) : FnG P w K mg base CX0 3 f fd ["thing"] (sp_isM K) := by
  refine Gfun F sc_is_measure (fun vs H Q E h => ?_) (fun cdv A outer s H vs Q E hg hr h => ?_)
  · obtain ⟨v, d, rfl, _⟩ := h
    rfl
  · obtain ⟨v, d, rfl, hq, k⟩ := h
    refine ⟨_, (pss_one (ps_ret (pe_and (pe_g C_is_fraction (hr.mono (by decide)) hg (pa_cons (pv 0) pa_nil)) (pe_one (pe_cmpR op_ge (pe_ix ix_tup (pv 0) pe_int (fun _ _ => rfl)) pe_int (nomark _)))))), ?_⟩
    refine ⟨_, rfl, v, d, rfl, hq, _, rfl, ite2 (fun e => ?_) (fun e => ?_)⟩
    · obtain ⟨a, b, rfl, _⟩ := isFr_inv e
      obtain ⟨p, xs, ds, rfl, ed, hS, hA, _⟩ := hq.tup rfl
      cases ed
      cases hA with
      | cons h1 r =>
        cases h1
        refine ⟨_, rfl, p, _, _, _, rfl, rfl, hS, atI_nat (j := 0) rfl, _, _, rfl, rfl, ?_⟩
        have : isM (.tuple [.int a, .int b]) = decide (0 ≤ a) := by
          unfold isM
          rw [e]
          rfl
        rw [this] at k
        exact k
    · have : isM d = false := by
        unfold isM
        rw [show isFr d = false from Bool.eq_false_iff.mpr e]
        rfl
      rw [this] at k
      exact k

/-! ### are_too_much -/
abbrev s_are_too_much : Stmt := topS 23
theorem sc_are_too_much : FnScope ["flour", "water", "salt"] ["flour", "water", "salt"] (defScope s_are_too_much) := ⟨rfl, rfl, rfl, by decide +kernel, rfl, by decide +kernel, by decide +kernel⟩
/-- more than 1 together -/
def tooM (f g h : Int × Int) : Bool := decide (1 * (fadd (fadd f g) h).2 < (fadd (fadd f g) h).1 * 1)
def sp_too (K : PySem.W.Frag) : Sp := fun vs H Q _ => ∃ (p q r : Addr) (f g h : Int × Int), vs = [.ref p, .ref q, .ref r] ∧ SqT K H p [.int f.1, .int f.2] ∧ SqT K H q [.int g.1, .int g.2] ∧ SqT K H r [.int h.1, .int h.2] ∧
  IsF f ∧ IsF g ∧ IsF h ∧ Bt 290 f ∧ Bt 290 g ∧ Bt 290 h ∧ ∀ H', Same H H' → Q (.bl (tooM f g h)) H'
theorem ok_too {f : Addr} {fd : FuncData} (T : Cst K mg c0 c1 cw) (F : Fun K "are_too_much" "are_too_much" s_are_too_much f fd) (C_together : Cal P w K mg base CX0 6 "together" ["ones"] (sp_togL K)) (C_is_less : Cal P w K mg base CX0 1 "is_less" ["one", "other"] (sp_is_less K)) :
    FnG P w K mg base CX0 7 f fd ["flour", "water", "salt"] (sp_too K) := by
  refine Gfun F sc_are_too_much (fun vs H Q E h => ?_) (fun cdv A outer s H vs Q E hg hr h => ?_)
  · obtain ⟨p, q, r, f, g, h, rfl, _⟩ := h
    rfl
  · obtain ⟨p, q, r, f, g, h, rfl, hp, hq, hr', ff, gf, hf, bf, bg, bh, k⟩ := h
    refine ⟨_, (pss_one (ps_ret (pe_g C_is_less (hr.mono (by decide)) hg (pa_cons (pe_glob (v := .ref c1) rfl T.g1 rfl) (pa_cons (pe_g C_together (hr.mono (by decide)) hg (pa_cons (pe_lst (pa_cons (pv 0) (pa_cons (pv 1) (pa_cons (pv 2) pa_nil)))) pa_nil)) pa_nil))))), ?_⟩
    refine ⟨_, rfl, _, rfl, _, rfl, len_show (Nat.le_of_ble_eq_true rfl), fun l nl => ?_⟩
    have s1 : Same H (upd H l (.lst [.ref p, .ref q, .ref r])) := same_new nl
    refine ⟨l, [.ref p, .ref q, .ref r], [f, g, h], 290, rfl, .inl (.inl upd_same), .cons ⟨p, rfl, sm_t s1 hp⟩ (.cons ⟨q, rfl, sm_t s1 hq⟩ (.cons ⟨r, rfl, sm_t s1 hr'⟩ .nil)), ?_, ?_, by decide, Nat.le_of_ble_eq_true rfl, fun H2 v s2 hv => ?_⟩
    · intro x hx
      simp only [List.mem_cons, List.not_mem_nil, or_false] at hx
      rcases hx with rfl | rfl | rfl
      · exact ff
      · exact gf
      · exact hf
    · intro x hx
      simp only [List.mem_cons, List.not_mem_nil, or_false] at hx
      rcases hx with rfl | rfl | rfl
      · exact bf
      · exact bg
      · exact bh
    obtain ⟨p2, rfl, e2⟩ := hv
    have eS : [f, g, h].foldl fadd f0 = fadd (fadd f g) h := by
      show fadd (fadd (fadd f0 f) g) h = _
      rw [fadd_0 ff]
    rw [eS] at e2
    have b1 := fadd_bt ff gf bf bg
    have f1' := fadd_f ff gf
    have b2 := fadd_bt f1' hf b1 bh
    have f2' := fadd_f f1' hf
    refine ⟨_, _, _, _, pr_sq (f := (1, 1)) (g := fadd (fadd f g) h) (T.t1 H2) e2 ⟨by decide, by decide⟩ f2' (j := 1) ⟨by decide, by decide⟩ b2 (by decide) (by decide), ?_⟩
    exact k _ (s1.trans s2)

end
end Lf

set_option Elab.async false
set_option linter.all false
set_option maxRecDepth 100000
set_option maxHeartbeats 4000000
/-! An own exception over ValueError whose __init__ begins by super().__init__(..): its body's rule, and its promise FnOk. -/
namespace Lf
open PySem PySem.Spec PyProof.Rows L2 NdefX
/-- what the written part says of a class D whose __init__ at f says super().__init__ : the cell, the code -/
structure SupC (P : Program) (K : PySem.W.Frag) (D f cc cda : Addr) (fd : FuncData) : Prop where
  fn : ∃ (oc : Value) (od : Option Addr) (osl : Array (Option Value)), K.lookup f = some ⟨oc, od, .func fd, osl⟩
  code : ∃ (ccl : Value) (cdd : Option Addr) (vs : Array Value) (ccs : Array (Option Value)) (file : Str) (tf : Tok), K.lookup cda = some ⟨ccl, cdd, .fields vs, ccs⟩ ∧ vs[2]? = some (.str file tf) ∧ ((P.main.file : Str) == file) = true
  cell : ∃ (cl : Value) (cld : Option Addr) (csl : Array (Option Value)), K.lookup cc = some ⟨cl, cld, .cell (some (.ref D)), csl⟩
  sup : PySem.W.ks_superIn K D D "__init__" = some (some (.builtin "ValueError.__init__"))
  sub : PySem.W.mroIn K D (.ref D) = some true
  ve : PySem.W.subIn K (.ref D) (.type "ValueError") = some true
  stat : PySem.W.nsIn K cStatics "thirdparty.any" = some none
  top : (P.main.scope.names.lookup ("super" : Str)).isSome = false
/-- what a body that begins by super().__init__(..) asks: the self is the exception that is being made -/
def tSup (K : PySem.W.Frag) (D : Addr) (ta : TA) (t : TS) : TS := fun E σ H => ∃ a, σ[0]? = some (some (.ref a)) ∧ H a = some (exo a D none) ∧ ta σ H fun vs H1 => vs.length ≤ 1000 ∧ H1 a = some (exo a D none) ∧ t E σ H1
section
variable {X : Cx} {D f cc cda : Addr} {fd : FuncData} {ar : Arg} {e : Expr} {es : List Expr} {rest body : List Stmt} {ta : TA} {t : TS} {p0 p1 p2 p3 pos : Pos} {x0 : Str}
theorem call_sup {pins : List (Addr × Obj)} {σ : L2.St} {H : Hp} {s : Shared} {a u : Addr} {us : List Value} {Q : Value → Shared → Prop} {E : Value → Shared → Prop} {A : Around} (T : OexC X.K D) (I : Inv X pins σ H s) (ea : H a = some (exo a D none))
    (hu : s.heap.get? u = some (PySem.W.kxs_mw "ValueError.__init__" a)) (hl : us.length ≤ sizeLine) (h : ∀ s', Inv X pins σ H s' → Q .none s') : wpAny (model X.prog X.w) A (call (.ref u) us) Q E s := by
  obtain ⟨nm, q, N, bs, bm, sn, sub, ab, col, dd, k0, k1, k2, k3, k5, hC, hbm⟩ := T.cls
  obtain ⟨t1, ho⟩ := exo_at I.hok ea
  obtain ⟨hp, g, d, tk, os⟩ := s
  refine wpAny_call (codeAny_of_tree ?_)
  show wpAny _ A.in1 (callAny (.ref u) ⟨us, []⟩) _ _ _
  simp only [callAny]
  refine wpAny_bind (wpAny_load hu ?_)
  simp only [PySem.W.kxs_mw, show (Value.type "method-wrapper" == Value.type "method" || Value.type "method-wrapper" == Value.type "builtin_function_or_method" || Value.type "method-wrapper" == Value.type "method-wrapper") = true by decide, if_true]
  refine PySem.W.KFB.if_so (by decide) ?_
  refine wpAny_bind (PySem.W.check_bound_init F.excBase_ValueError.toExcCallFacts (I.kIn _ _ hC) ho rfl ?_)
  refine wpAny_bind (wpAny_pure (wpAny_pure ?_))
  refine ⟨plainId_quiet F.excBase_ValueError.init.plain _, codeAny_builtin F.excBase_ValueError.initEntry ?_⟩
  refine PySem.W.exc_init_tree (cls := .ref D) (t0 := t1) (dv := none) (c2 := .none) (c3 := .none) (b4 := .bool false) ho hl fun h' k e' _ => ?_
  have J := I.write (t' := tk) (x := a) (e := a) (o := exo a D none) (by rw [ea]; exact True.intro) (.inl rfl) k ⟨_, e'⟩ (exo_ok e')
  have eu : upd H a (exo a D none) = H := by
    funext b
    by_cases hb : b = a
    · rw [hb, upd_same, ea]
    · rw [upd_ne hb]
  rw [eu] at J
  exact h _ J
/-- the body's rule -/
theorem body_sup {pins : List (Addr × Obj)} {σ : L2.St} {H : Hp} {s : Shared} {E : Ends} (S : SupC X.prog X.K D f cc cda fd) (T : OexC X.K D) (hm : X.mg "super" = none) (hA : PA X (e :: es) ta) (hR : PSs X rest t) (I : Inv X pins σ H s) (h : tSup X.K D ta t E σ H)
    (hp : (fd.params.posonlyargs ++ fd.params.args).head? = some ar) (hN : X.N[0]? = some ar.arg) (hka : X.env.kindOf ar.arg = some .local) (hvis : Vis X.env.scope ar.arg)
    (hks : X.env.kindOf "super" = some .globalImplicit) (hkc : X.env.kindOf "__class__" = some .free) (hfu : X.env.func = some f) (hco : X.env.code = .ref cda) (hcl : X.env.cells.lookup ("__class__" : Str) = some cc)
    (hc : ∀ pl : Unit, ∃ pl : Sem Bool, eval (.Call (.Attribute (.Call (.Name "super" p0) [] [] p1) "__init__" p2) (e :: es) [] pos) X.env = (do
      let ov ← attributeBase (.Call (.Name "super" p0) [] [] p1) "__init__" X.env (eval (.Call (.Name "super" p0) [] [] p1) X.env)
      standAt p2.atName
      let (f, first) ← holding [ov] (getMethod ov "__init__" pl)
      callWith pos f first (backTo pos (starEach (e :: es) X.env)) []))
    (hs : swapsWith (.Call (.Attribute (.Call (.Name "super" p0) [] [] p1) "__init__" p2) (e :: es) [] pos) none p3.line X.env = pure false)
    (he : starEach (e :: es) X.env = (false, eval e X.env) :: starEach es X.env) (hpl : (backTo pos (starEach es X.env)).any (·.1) = false) :
    PySem.wpAt (model X.prog X.w) X.A (.func body X.env) (execs (.Expr (.Call (.Attribute (.Call (.Name "super" p0) [] [] p1) "__init__" p2) (e :: es) [] pos) p3 :: rest) X.env) (SP X pins E) X.xe s := by
  obtain ⟨pl, hc⟩ := hc ()
  refine ks_wpAt_execs_cons (ks_wpAt_Expr_any (ks_wpAt_MethodCall (pl := pl) ?_ hc) I.quiet hs)
  have KX := I.kIn
  obtain ⟨oc, od, osl, hf⟩ := S.fn
  obtain ⟨ccl, cdd, vs, ccs, file, tf, hcode, hvs, hfile⟩ := S.code
  obtain ⟨cl, cld, csl, hcell⟩ := S.cell
  obtain ⟨a, hs0, ea, hta⟩ := h
  obtain ⟨t1, ho⟩ := exo_at I.hok ea
  obtain ⟨nm, qn, Nn, bs, bm, sn, sub, ab, col, dd, k0, k1, k2, k3, k5, hC, hbm⟩ := T.cls
  have hcls : PySem.W.clsIn X.K D = some { name := nm, bases := bs, mro := .ref D :: bm, ns := Nn, qualname := qn, hasDict := true, slotNames := sn, subclasses := sub, abstract := ab, collection := col, hasDel := false } := by unfold PySem.W.clsIn; rw [hC] <;> rfl
  have hat : (("__init__" : Str) == ("__class__" : Str)) = false := by decide
  refine ks_wpAt_super_base (env := X.env) hks hkc hat hfu (KX _ _ hf) rfl hp hco (KX _ _ hcode) rfl hvs hfile S.top ?_
  obtain ⟨mb, b1, b2⟩ := I.mod.blt
  refine PySem.W.ks_loadName_global I.ok.kind hks (Calls.loadGlobal_builtin (by rw [I.ok.glob]; exact I.mod.glob.keeps I.bk) hm (by rw [I.ok.blt]; exact b1.keeps I.bk) ((b2 _ (by decide)).trans (PyProof.Rows.Boot.«super»)) ⟨rfl, ?_⟩)
  refine wpAny_loadName_free I.ok.kind hkc hcl ⟨_, KX _ _ hcell, rfl⟩ ?_
  obtain ⟨m, hns, hsl⟩ := I.loc
  obtain ⟨u0, ru0, lk⟩ := hsl 0 ar.arg (.ref a) hN hs0 hvis
  cases ru0
  have hm0 : m ar.arg = some (.ref a) := by
    rcases lk with ⟨_, e⟩ | ⟨e | e, _⟩
    · exact e
    · rw [hka] at e; cases e
    · rw [hka] at e; cases e
  refine wpAny_loadName_local I.ok.kind hka hns hm0 ?_
  refine ks_wpAny_isType_cls (KX _ _ hC) rfl ⟨rfl, ?_⟩
  have II : PySem.W.InstAt s.heap a { cls := .ref D, dict := none, data := .fields #[.ref t1, .none, .none, .none, .bool false, .none] } D none := ⟨ho, rfl, rfl, trivial⟩
  obtain ⟨hp', g, d, tk, os⟩ := s
  refine ks_wpAny_call_super (KX _ _ hC) rfl ho rfl (fun c e => by cases e) (PySem.W.looks_mroIn KX S.sub) (fun h1 e1 kk1 => ?_)
  have I1 : Inv X pins σ H ⟨h1, g, d, tk, os⟩ := I.kept (t' := tk) kk1
  have KX1 := I1.kIn
  have II1 : PySem.W.InstAt h1 a { cls := .ref D, dict := none, data := .fields #[.ref t1, .none, .none, .none, .bool false, .none] } D none := ⟨kk1 _ _ ho, rfl, rfl, trivial⟩
  have sup := S.sup
  unfold PySem.W.ks_superIn at sup
  rw [hcls] at sup
  refine PySem.W.kxs_getMethod PySem.W.kxs_ValueError e1 (PySem.W.looks_opaque KX1 S.stat) (l₀ := .ref D :: bm) (fun A Q E s k q => wpAny_bind ((PySem.W.looks_clsIn KX1 hcls) A _ E s k (wpAny_pure q))) rfl KX1 sup (II1.type.andThen (PySem.W.looks_subIn KX1 S.ve)) (PySem.W.ks_ne KX1 II1 hcls) hat ?_
  show wpAny _ _ (callWith pos (.ref h1.objs.size) [] (backTo pos (starEach (e :: es) X.env)) []) _ _ _
  have kk2 : ∀ b o, h1.get? b = some o → (h1.push (PySem.W.kxs_mw "ValueError.__init__" a)).get? b = some o := fun b o e => Heap.get?_push_of_some _ e
  have I2 : Inv X pins σ H ⟨h1.push (PySem.W.kxs_mw "ValueError.__init__" a), g, d, tk + 1, os⟩ := I1.kept (t' := tk + 1) kk2
  have eu : (h1.push (PySem.W.kxs_mw "ValueError.__init__" a)).get? h1.objs.size = some (PySem.W.kxs_mw "ValueError.__init__" a) := Heap.get?_push_at rfl rfl
  have hnu : H h1.objs.size = none := I1.hok.fresh (Nat.le_refl _)
  have I3 : Inv X ((h1.objs.size, PySem.W.kxs_mw "ValueError.__init__" a) :: pins) σ H ⟨h1.push (PySem.W.kxs_mw "ValueError.__init__" a), g, d, tk + 1, os⟩ := by
    refine I2.pins_of fun p hp => ?_
    rcases List.mem_cons.mp hp with rfl | hp
    · exact ⟨eu, hnu, Ne.symm (Nat.ne_of_lt I1.lt), I1.nofs (Nat.le_refl _), fun v z => by cases z⟩
    · exact I2.pin p (List.mem_append_right _ hp)
  have key := thn (Q' := fun us s4 => PySem.W.KxsAt "ValueError.__init__" h1.objs.size a s4.heap ∧ wpAny (model X.prog X.w) X.A (call (.ref h1.objs.size) ([] ++ us) []) (fun _ s' => PySem.wpAt (model X.prog X.w) X.A (.func body X.env) (execs rest X.env) (SP X pins E) X.xe s') X.xe s4)
      (hA.run pos _ _ σ H _ I3 hta) fun us s4 ⟨vs4, H4, I4, r4, hz, ea4, q4⟩ => by
    have hu4 := (I4.pin _ (List.mem_append_right _ (List.mem_cons_self ..))).1
    have I5 : Inv X pins σ H4 s4 := I4.pins_of fun p hp => I4.pin p (List.mem_append_right _ (List.mem_cons_of_mem _ hp))
    refine ⟨hu4, ?_⟩
    exact call_sup T I5 ea4 hu4 (by rw [List.nil_append, ← Paired.length r4, sizeLine_eq]; omega) fun s' J => wpAt_of_wpAny (hR.run pins s' σ H4 E J q4)
  rw [he] at key ⊢
  refine PySem.W.kxs_callWith (i := "ValueError.__init__") (x := a) (by show (false || (backTo pos (starEach es X.env)).any (·.1)) = false; rw [hpl]; rfl) ?_
  exact PySem.Calls.evalArgs_plain key
end
/-- an own exception's __init__ as it stands behind the top -/
structure XFun (P : Program) (K : PySem.W.Frag) (qual : Str) (st : Stmt) (D f : Addr) (fd : FuncData) (cc cda : Addr) : Prop where
  ex : ∃ (dV kV doc pm : Value) (an : Option Addr) (ct : Value), fd = PySem.W.fnX "__init__" qual (defArgs st) (defBody st) (defScope st) [("__class__", cc)] dV kV doc pm an (.ref cda) ct
  sup : SupC P K D f cc cda fd
  code : PySem.W.codeIn K (.ref cda) qual = true
/-- the context of its body -/
abbrev xcx (CX : CXT) (P : Program) (w : World) (K : PySem.W.Frag) (mg : Str → Option Value) (base : Heap) (N : List Str) (qual : Str) (st : Stmt) (f cc cda : Addr) (A : Around) (outer : List Env) (s : Shared) (H : Hp) (E : XK) : Cx :=
  ncx CX P w K mg base N ⟨"__init__", qual, defArgs st, defBody st, defScope st, [("__class__", cc)], cda⟩ f A outer s H E
section
variable {CX : CXT} {P : Program} {w : World} {K : PySem.W.Frag} {mg : Str → Option Value} {base : Heap} {qual : Str} {st : Stmt} {D f cc cda : Addr} {fd : FuncData} {N ps : List Str} {k : Nat} {sp : Sp} {ar : Arg} {p0 p1 p2 p3 pos : Pos} {e : Expr} {es : List Expr} {rest : List Stmt}
theorem xok (F : XFun P K qual st D f fd cc cda) (T : OexC K D) (hm : mg "super" = none) (S : NScope N ps ["__class__"] (defScope st)) (len : ∀ vs H Q E, sp vs H Q E → vs.length = ps.length)
    (hb : defBody st = .Expr (.Call (.Attribute (.Call (.Name "super" p0) [] [] p1) "__init__" p2) (e :: es) [] pos) p3 :: rest)
    (hp : ((defArgs st).posonlyargs ++ (defArgs st).args).head? = some ar) (hN : N[0]? = some ar.arg) (hka : (defScope st).names.lookup ar.arg = some .local)
    (hks : (defScope st).names.lookup ("super" : Str) = some .globalImplicit)
    (hc : ∀ L : Addr, ∃ pl : Sem Bool, eval (.Call (.Attribute (.Call (.Name "super" p0) [] [] p1) "__init__" p2) (e :: es) [] pos) (PySem.W.envX qual (defScope st) L f (.ref cda) [("__class__", cc)]) = (do
      let ov ← attributeBase (.Call (.Name "super" p0) [] [] p1) "__init__" (PySem.W.envX qual (defScope st) L f (.ref cda) [("__class__", cc)]) (eval (.Call (.Name "super" p0) [] [] p1) (PySem.W.envX qual (defScope st) L f (.ref cda) [("__class__", cc)]))
      standAt p2.atName
      let (g, first) ← holding [ov] (getMethod ov "__init__" pl)
      callWith pos g first (backTo pos (starEach (e :: es) (PySem.W.envX qual (defScope st) L f (.ref cda) [("__class__", cc)]))) []))
    (hs : ∀ L : Addr, swapsWith (.Call (.Attribute (.Call (.Name "super" p0) [] [] p1) "__init__" p2) (e :: es) [] pos) none p3.line (PySem.W.envX qual (defScope st) L f (.ref cda) [("__class__", cc)]) = pure false)
    (he : ∀ L : Addr, starEach (e :: es) (PySem.W.envX qual (defScope st) L f (.ref cda) [("__class__", cc)]) = (false, eval e (PySem.W.envX qual (defScope st) L f (.ref cda) [("__class__", cc)])) :: starEach es (PySem.W.envX qual (defScope st) L f (.ref cda) [("__class__", cc)]))
    (hpl : ∀ L : Addr, (backTo pos (starEach es (PySem.W.envX qual (defScope st) L f (.ref cda) [("__class__", cc)]))).any (·.1) = false)
    (body : ∀ (A : Around) (outer : List Env) (s : Shared) (H : Hp) (vs : List V) (Q : VK) (E : XK), Room k (A.deeper (PySem.W.envX qual (defScope st) s.heap.objs.size f (.ref cda) [("__class__", cc)])) → sp vs H Q E →
      ∃ ta t, PA (xcx CX P w K mg base N qual st f cc cda A outer s H E) (e :: es) ta ∧ PSs (xcx CX P w K mg base N qual st f cc cda A outer s H E) rest t ∧
        tSup K D ta t { nx := fun _ H' => Q .non H', rt := Q } (startF N vs [none]) H) : FnOk P w K mg base CX (k + 1) f fd ps sp := by
  obtain ⟨dV, kV, doc, pm, an, ct, rfl⟩ := F.ex
  obtain ⟨oc, od, osl, hf⟩ := F.sup.fn
  obtain ⟨cl, cld, csl, hcell⟩ := F.sup.cell
  refine ⟨len, fun A outer s H ar' us vs Q E hr e0 hbi r hsp => ?_⟩
  have hl := len _ _ _ _ hsp
  have old : ∀ b o, base.get? b = some o → s.heap.get? b = some o := fun b o e => (e0.bs b o e).1
  have kin : K.In s.heap := e0.mod.kin.keeps old
  have hcc : H cc = none := (e0.bs _ _ (e0.mod.kin _ _ hcell)).2
  refine codeAny_call_function hr.depth (kin _ _ hf) rfl S.co S.gen rfl (PySem.W.codeRec_of kin F.code) (hbi _ _ _ _ ?_)
  refine wpAny_newFunctionEnv S.nocell (fun ⟨n, _⟩ hy => S.par n (List.of_mem_zip hy).1) (fun h₁ hns hsb => ⟨(e0.mod.nolimit.keeps old).fresh _ hsb, ?_⟩) S.kind
  have kp : ∀ b o, s.heap.get? b = some o → h₁.get? b = some o := fun b o e => hsb.extBut b o (Nat.ne_of_lt (Heap.lt_size e)) (Heap.get?_push_of_some _ e)
  obtain ⟨ta, t, hA, hR, hq⟩ := body A outer s H vs Q E (hr.deeper _) hsp
  have C : CellsAt [("__class__", cc)] ["__class__"] [none] s.heap H := by
    have lk : ∀ {y : Str} {c : Addr}, ([(("__class__" : Str), cc)] : List (Str × Addr)).lookup y = some c → y = "__class__" ∧ c = cc := by
      intro y c e
      rw [List.lookup_cons] at e
      cases hy : (y == ("__class__" : Str)) with
      | true =>
        rw [hy] at e
        exact ⟨by simpa using hy, (Option.some.inj e).symm⟩
      | false =>
        rw [hy] at e
        cases e
    refine ⟨rfl, fun y c e => ?_, fun x y c e1 e2 => ?_, fun i y e => ?_⟩
    · obtain ⟨_, rfl⟩ := lk e
      exact ⟨hcc, _, _, kin _ _ hcell, rfl⟩
    · rw [(lk e1).1, (lk e2).1]
    · match i, e with
      | 0, e =>
        cases e
        exact ⟨cc, by simp [List.lookup], fun v z => by cases z⟩
  have I : Inv (xcx CX P w K mg base N qual st f cc cda A outer s H E) [] (startF N vs [none]) H { s with heap := h₁, toks := s.toks + (ps.zip us).length } :=
    inv_startN (F := ⟨"__init__", qual, defArgs st, defBody st, defScope st, [("__class__", cc)], cda⟩) S hr.hd e0 hl r C hns kp
  show codeAny _ _ (.func (defBody st) (PySem.W.envX qual (defScope st) s.heap.objs.size f (.ref cda) [("__class__", cc)])) _ _
  refine ks_codeAny_funcAt ?_
  have B := body_sup (X := xcx CX P w K mg base N qual st f cc cda A outer s H E) (body := defBody st) (cc := cc) (cda := cda) (p3 := p3) F.sup T hm hA hR I hq hp hN hka (.inl hka) hks (S.frk _ (List.mem_cons_self ..)) rfl rfl (show ([(("__class__" : Str), cc)] : List (Str × Addr)).lookup ("__class__" : Str) = some cc by simp [List.lookup]) (fun _ => hc _) (hs _) (he _) (hpl _)
  rw [← hb] at B
  refine ks_wpAt_mono B (fun fl s' hs' => ?_) fun e s' z => z
  have fin : ∀ {σ' : L2.St} {H' : Hp} {v : V} {u : Value}, Inv (xcx CX P w K mg base N qual st f cc cda A outer s H E) [] σ' H' s' → L2.RelV v u → Q v H' → CE outer P w H s Q u s' :=
    fun {σ' H' v u} J rv q => ⟨v, H', J.os, J.bare, J.base, J.hok, rv, q⟩
  cases fl with
  | ret u =>
    obtain ⟨v, σ', H', J, rv, q⟩ := hs'
    exact fin J rv q
  | next =>
    obtain ⟨σ', H', J, q⟩ := hs'
    exact fin (v := V.non) (u := Value.none) J rfl q
  | brk =>
    obtain ⟨_, _, _, q⟩ := hs'
    exact False.elim q
  | cont =>
    obtain ⟨_, _, _, q⟩ := hs'
    exact False.elim q
end
end Lf

set_option Elab.async false
set_option linter.all false
set_option maxRecDepth 100000
set_option maxHeartbeats 4000000
/-! Own classes made, and their methods called, where no guard stands (FnG). -/
namespace Lf
open PySem PySem.Spec PyProof.Rows L2
theorem make_guards {A : Around} (h : A.guards = some []) (C : Addr) (us : List Value) (kw : List (Str × Value)) : (A.under (.builtin "type.__call__" ⟨.ref C :: us, kw⟩)).guards = some [] := by
  show pushGuards (Code.guards (.builtin "type.__call__" ⟨.ref C :: us, kw⟩)) A.guards = some []
  rw [h]
  rfl
section
variable {X : Cx} {CX : CXT} {k n : Nat} {f C : Addr} {fd : FuncData} {ps ks : List Str} {sp : Sp} {x m : Str} {p pos apos : Pos} {e o : Expr} {es : List Expr} {kws : List Keyword} {ta : TE} {t tk : TA} {g : List Value → List Value → List Value} {gV : List V → List V → List V}
/-- an __init__ runs on a new object -/
theorem run_mkG {pins : List (Addr × Obj)} {σ : L2.St} {H : Hp} {s : Shared} {Q : VK} {us ws : List Value} {vs zs : List V} {E : XK} (M : Mk X.K C f) (F : FnG X.prog X.w X.K X.mg X.base CX k f fd ps sp) (hr : Room (k + 1) X.A) (hG : X.A.guards = some []) (hb : KBn X.K fd ps (n + 1) ks g gV)
    (hx : PassesAt CX X σ E) (I : Inv X pins σ H s) (r : Vals vs us) (rz : Vals zs ws) (l1 : vs.length = n) (l2 : zs.length = ks.length)
    (h : ∀ x dx, H x = none → H dx = none → dx ≠ x → sp (gV (.ref x :: vs) zs) (upd (upd H dx (.own x)) x (.ins C dx [])) (fun v H2 => v = .non ∧ Q (.ref x) H2) E) :
    wpAny (model X.prog X.w) X.A (call (.ref C) us (ks.zip ws)) (EP X pins σ Q) X.xe s := by
  have hq := h (s.heap.objs.size + 1) s.heap.objs.size (I.hok.fresh (Nat.le_succ _)) (I.hok.fresh (Nat.le_refl _)) (Nat.ne_of_lt (Nat.lt_succ_self _))
  have I2 := Inv.made (C := C) I
  have r1 : Vals (V.ref (s.heap.objs.size + 1) :: vs) (Value.ref (s.heap.objs.size + 1) :: us) := .cons rfl r
  have r2 := hb.rel r1 rz
  have lu : (Value.ref (s.heap.objs.size + 1) :: us).length = n + 1 := by
    rw [List.length_cons, ← Paired.length r, l1]
  have lw : ws.length = ks.length := by rw [← Paired.length rz, l2]
  refine wpAny_call (make_map (f := f) I.kIn M.makes M.init (beq_iff_eq.mp M.fn) (codeAny_mono (F.goes _ X.stack _ _ ⟨Value.ref (s.heap.objs.size + 1) :: us, ks.zip ws⟩ _ _ _ E (hr.make C us (ks.zip ws)) (make_guards hG C us (ks.zip ws))
    (I2.env0.make C us (ks.zip ws)) (hb.to _ _ _ I2.kIn lu lw) r2 hq) fun r s' hq' => ?_))
  cases r with
  | error e => exact hx pins _ _ e s' I2 hq'
  | ok fl =>
    cases fl with
    | ret u =>
      obtain ⟨v, H', I3, rv, ev, q3⟩ := I2.after hq'
      subst ev
      exact ⟨rv, ⟨V.ref (s.heap.objs.size + 1), H', I3, rfl, q3⟩⟩
    | next => exact False.elim hq'
    | brk => exact False.elim hq'
    | cont => exact False.elim hq'
/-- C(e, ..), C(e, .., k = v, ..) -/
def tMkG (C : Addr) (n m : Nat) (sp : Sp) (gV : List V → List V → List V) (E : L2.St → XK) (t tk : TA) : TE := fun σ H Q => t σ H fun vs H1 => tk σ H1 fun zs H2 => vs.length = n ∧ zs.length = m ∧ ∀ x dx, H2 x = none → H2 dx = none → dx ≠ x →
  sp (gV (.ref x :: vs) zs) (upd (upd H2 dx (.own x)) x (.ins C dx [])) (fun v H3 => v = .non ∧ Q (.ref x) H3) (E σ)
/-- the class of the module's name x can be made; sp: its __init__ -/
structure MakG (P : Program) (w : World) (K : PySem.W.Frag) (mg : Str → Option Value) (base : Heap) (CX : CXT) (k : Nat) (x : Str) (C f : Addr) (fd : FuncData) (ps : List Str) (sp : Sp) : Prop where
  mks : Mk K C f
  fn : FnG P w K mg base CX k f fd ps sp
  g : mg x = some (.ref C)
theorem pe_mkG {E : L2.St → XK} (M : MakG X.prog X.w X.K X.mg X.base CX k x C f fd ps sp) (hb : KBn X.K fd ps (n + 1) [] g gV) (hr : Room (k + 1) X.A) (hG : X.A.guards = some []) (hx : ∀ σ, PassesAt CX X σ (E σ))
    (ha : PA X (e :: es) t) (hg : Gl X x := by rfl) (hdb : (x == ("__debug__" : Str)) = false := by decide) (he : starEach (e :: es) X.env = (false, eval e X.env) :: starEach es X.env := by rfl) (hpl : (backTo pos (starEach es X.env)).any (·.1) = false := by rfl) :
    PE X (.Call (.Name x p) (e :: es) [] pos) (tMkG C n 0 sp gV E t tNil) := by
  refine ⟨fun pins s σ H Q I h => ?_⟩
  refine wpAny_Call_Name_kw (ld_glob I hg M.g ?_ hdb)
  refine PySem.W.callWith_K (h₀ := X.base) I.ok.mod.kin M.mks.kp (thn (ha.run pos pins s σ H _ I h) fun us s1 ⟨vs, H1, I1, r, l1, l2, q⟩ => ⟨I1.kIn, ?_⟩) he hpl
  exact run_mkG (ws := []) (zs := []) M.mks M.fn hr hG hb (hx σ) I1 r .nil l1 l2 q
theorem pe_mkGK {E : L2.St → XK} (M : MakG X.prog X.w X.K X.mg X.base CX k x C f fd ps sp) (hb : KBn X.K fd ps (n + 1) ks g gV) (hr : Room (k + 1) X.A) (hG : X.A.guards = some []) (hx : ∀ σ, PassesAt CX X σ (E σ))
    (ha : PA X (e :: es) t) (hkw : PK X kws tk) (hks : (backToKw pos (keywordEach kws X.env)).filterMap (·.1) = ks := by rfl) (hg : Gl X x := by rfl) (hall : (backToKw pos (keywordEach kws X.env)).all (·.1.isSome) = true := by rfl)
    (hdb : (x == ("__debug__" : Str)) = false := by decide) (he : starEach (e :: es) X.env = (false, eval e X.env) :: starEach es X.env := by rfl)
    (hpl : ((backTo pos (starEach (e :: es) X.env)).any (·.1) || (backToKw pos (keywordEach kws X.env)).any (·.1.isNone)) = false := by rfl) :
    PE X (.Call (.Name x p) (e :: es) kws pos) (tMkG C n ks.length sp gV E t tk) := by
  refine ⟨fun pins s σ H Q I h => ?_⟩
  refine wpAny_Call_Name_kw (ld_glob I hg M.g ?_ hdb)
  refine PySem.W.callWith_KW (h₀ := X.base) I.ok.mod.kin M.mks.kp hall (thn (ha.run pos pins s σ H _ I h) fun us s1 ⟨vs, H1, I1, r, q⟩ => ?_) hpl he
  refine thn (hkw.run pos pins s1 σ H1 _ I1 q) fun ws s2 ⟨zs, H2, I2, rz, l1, l2, q2⟩ => ⟨I2.kIn, ?_⟩
  rw [hks]
  exact run_mkG M.mks M.fn hr hG hb (hx σ) I2 r rz l1 l2 q2
theorem pe_mkGN {E : L2.St → XK} (M : MakG X.prog X.w X.K X.mg X.base CX k x C f fd ps sp) (hb : KBn X.K fd ps (0 + 1) ks g gV) (hr : Room (k + 1) X.A) (hG : X.A.guards = some []) (hx : ∀ σ, PassesAt CX X σ (E σ))
    (hkw : PK X kws tk) (hks : (backToKw pos (keywordEach kws X.env)).filterMap (·.1) = ks := by rfl) (hg : Gl X x := by rfl) (hall : (backToKw pos (keywordEach kws X.env)).all (·.1.isSome) = true := by rfl)
    (hdb : (x == ("__debug__" : Str)) = false := by decide)
    (hpl : ((backTo pos (starEach [] X.env)).any (·.1) || (backToKw pos (keywordEach kws X.env)).any (·.1.isNone)) = false := by rfl) :
    PE X (.Call (.Name x p) [] kws pos) (tMkG C 0 ks.length sp gV E tNil tk) := by
  refine ⟨fun pins s σ H Q I h => ?_⟩
  refine wpAny_Call_Name_kw (ld_glob I hg M.g ?_ hdb)
  refine PySem.W.callWith_KW0 (h₀ := X.base) I.ok.mod.kin M.mks.kp hall (thn (hkw.run pos pins s σ H _ I h) fun ws s2 ⟨zs, H2, I2, rz, l1, l2, q2⟩ => ⟨I2.kIn, ?_⟩) hpl
  rw [hks]
  exact run_mkG (us := []) (vs := []) M.mks M.fn hr hG hb (hx σ) I2 .nil rz l1 l2 q2
/-- o.m(e, ..) where no guard stands -/
def tMeG (C : Addr) (m : Str) (sp : Sp) (E : L2.St → XK) (ta : TE) (t : TA) : TE := fun σ H Q => ta σ H fun x H1 => ∃ a dx fs, x = .ref a ∧ H1 a = some (.ins C dx fs) ∧ fs.lookup m = none ∧ t σ H1 fun vs H2 => sp (.ref a :: vs) H2 Q (E σ)
structure MetG (P : Program) (w : World) (K : PySem.W.Frag) (mg : Str → Option Value) (base : Heap) (CX : CXT) (k : Nat) (C : Addr) (m : Str) (f : Addr) (fd : FuncData) (ps : List Str) (sp : Sp) : Prop where
  c : Cls K C
  m : Meth K C m f
  fn : FnG P w K mg base CX k f fd ps sp
  b : ∀ (s : Shared) (us : List Value), us.length = ps.length → BindsTo s fd ⟨us, []⟩ (ps.zip us)
theorem pe_meG {pl : Sem Bool} {E : L2.St → XK} (he : PE X o ta) (M : MetG X.prog X.w X.K X.mg X.base CX k C m f fd ps sp) (hr : Room k X.A) (hG : X.A.guards = some []) (hx : ∀ σ, PassesAt CX X σ (E σ)) (ha : PA X (e :: es) t)
    (hst : starEach (e :: es) X.env = (false, eval e X.env) :: starEach es X.env := by rfl) (hpl : (backTo pos (starEach es X.env)).any (·.1) = false := by rfl)
    (ht : eval (.Call (.Attribute o m apos) (e :: es) [] pos) X.env = (do
      let ov ← eval o X.env
      standAt apos.atName
      let (f, first) ← holding [ov] (getMethod ov m pl)
      callWith pos f first (backTo pos (starEach (e :: es) X.env)) (backToKw pos (keywordEach [] X.env))) := by rfl) :
    PE X (.Call (.Attribute o m apos) (e :: es) [] pos) (tMeG C m sp E ta t) := by
  refine ⟨fun pins s σ H Q I h => ?_⟩
  refine PySem.W.methodCall_KW (pl := pl) (thn (he.run pins s σ H _ I h) fun u s1 ⟨x, H1, I1, rx, a, dx, fs, ex, ea, l, q⟩ => ?_) ht
  subst ex
  obtain rfl : u = Value.ref a := rx
  refine getmeth_ok I1 ea M.c M.m l ?_
  refine PySem.W.callWith_K (first := [.ref a]) (h₀ := X.base) I.ok.mod.kin M.m.kp (thn (ha.run pos pins s1 σ H1 _ I1 q) fun us s2 ⟨vs, H2, I2, r, q2⟩ => ⟨I2.kIn, ?_⟩) hst hpl
  have r' : Vals (V.ref a :: vs) (Value.ref a :: us) := .cons rfl r
  exact run_g (ar := ⟨.ref a :: us, []⟩) M.fn hr hG (hx σ) I2 (M.b s2 _ ((Paired.length r').symm.trans (M.fn.size _ _ _ _ q2))) r' q2
theorem pe_meG0 {pl : Sem Bool} {E : L2.St → XK} (he : PE X o ta) (M : MetG X.prog X.w X.K X.mg X.base CX k C m f fd ps sp) (hr : Room k X.A) (hG : X.A.guards = some []) (hx : ∀ σ, PassesAt CX X σ (E σ))
    (ht : eval (.Call (.Attribute o m apos) [] [] pos) X.env = (do
      let ov ← eval o X.env
      standAt apos.atName
      let (f, first) ← holding [ov] (getMethod ov m pl)
      callWith pos f first (backTo pos (starEach [] X.env)) (backToKw pos (keywordEach [] X.env))) := by rfl) :
    PE X (.Call (.Attribute o m apos) [] [] pos) (tMeG C m sp E ta tNil) := by
  refine ⟨fun pins s σ H Q I h => ?_⟩
  refine PySem.W.methodCall_KW (pl := pl) (thn (he.run pins s σ H _ I h) fun u s1 ⟨x, H1, I1, rx, a, dx, fs, ex, ea, l, q⟩ => ?_) ht
  subst ex
  obtain rfl : u = Value.ref a := rx
  refine getmeth_ok I1 ea M.c M.m l ?_
  have r' : Vals [V.ref a] [Value.ref a] := .cons rfl .nil
  exact PySem.W.callWith_K0 (first := [.ref a]) I1.kIn M.m.kp (run_g (ar := ⟨[.ref a], []⟩) M.fn hr hG (hx σ) I1 (M.b s1 _ ((Paired.length r').symm.trans (M.fn.size _ _ _ _ q))) r' q)
end
section
variable {P : Program} {w : World} {K : PySem.W.Frag} {mg : Str → Option Value} {base : Heap} {CX : CXT} {k : Nat} {f : Addr} {fd : FuncData} {ps : List Str} {sp : Sp} {x qual : Str} {st : Stmt} {N : List Str} {dvs : List V} {kws : List (Str × V)}
/-- a def with defaults, by its body -/
theorem GfunDX (F : FunD K x qual (defArgs st) (defBody st) (defScope st) dvs kws f fd) (S : FnScope N ps (defScope st)) (size : ∀ vs H Q E, sp vs H Q E → vs.length = ps.length)
    (body : ∀ (cdv : Value) (B : Around) (out : List Env) (s : Shared) (H : Hp) (vs : List V) (Q : VK) (E : XK), B.guards = some [] →
      Room k (B.deeper (envOfC qual (defScope st) s.heap.objs.size f cdv)) → sp vs H Q E →
      ∃ t, PSs (cxOf CX P w K mg base N qual (defScope st) f cdv B out s H E) (defBody st) t ∧
        t { nx := fun _ H' => Q .non H', rt := Q } (start N vs) H) : FnG P w K mg base CX (k + 1) f fd ps sp := by
  obtain ⟨oc, od, dV, kV, doc, pm, an, cdv, ct, osl, rfl, lk, hcd, _, _⟩ := F.ex
  refine ⟨size, fun B out s H ar us vs Q E hr hg e0 hb r hs => ?_⟩
  have old : ∀ b o, base.get? b = some o → s.heap.get? b = some o := fun b o e => (e0.bs b o e).1
  have kin : K.In s.heap := e0.mod.kin.keeps old
  refine codeAny_call_function hr.depth (kin _ _ lk) rfl S.co S.gen rfl (PySem.W.codeRec_of kin hcd) (hb _ _ _ _ ?_)
  refine wpAny_newFunctionEnv_cells S.kind (fun ⟨n, v⟩ hy => ?_) fun env he s1 x => ?_
  · rcases S.par n (List.of_mem_zip hy).1 with q | q
    · exact Or.inl q
    · exact Or.inr ⟨q, PySem.W.cellsFrom_some _ _ _ (Or.inl q)⟩
  · subst he
    refine ⟨(e0.mod.nolimit.keeps old).keeps x.toInCall.keep, codeAny_func ?_⟩
    obtain ⟨t, ht, hq⟩ := body cdv B out s H vs Q E hg (hr.deeper _) hs
    have I := inv_start (CX := CX) (N := N) (qual := qual) (cd := cdv) (E := E) S hr.hd e0 (size _ _ _ _ hs) r x
    refine wpAny_mono (ht.run [] s1 (start N vs) H _ I hq) (fun fl s' hs' => ?_) fun e s' z => z
    cases fl with
    | ret u =>
      obtain ⟨v, σ', H', J, rv, q⟩ := hs'
      exact ⟨v, H', J.os, J.bare, J.base, J.hok, rv, q⟩
    | next =>
      obtain ⟨σ', H', J, q⟩ := hs'
      exact ⟨V.non, H', J.os, J.bare, J.base, J.hok, rfl, q⟩
    | brk =>
      obtain ⟨_, _, _, q⟩ := hs'
      exact q.elim
    | cont =>
      obtain ⟨_, _, _, q⟩ := hs'
      exact q.elim
end
end Lf

set_option Elab.async false
set_option linter.all false
set_option maxRecDepth 100000
set_option maxHeartbeats 4000000
set_option exponentiation.threshold 3000
namespace Lf
open PySem PySem.Spec PyProof.Rows L2
section
variable {P : Program} {w : World} {K : PySem.W.Frag} {mg : Str → Option Value} {base : Heap} {c0 c1 cw : Addr}

/-! ### first_wrong -/
abbrev s_first_wrong : Stmt := topS 24
theorem sc_first_wrong : FnScope ["name", "measures", "flour", "water", "salt", "word", "measure"] ["name", "measures"] (defScope s_first_wrong) := ⟨rfl, rfl, rfl, by decide +kernel, rfl, by decide +kernel, by decide +kernel⟩
/-- the five words -/
def words : List Str := ["flour", "water", "salt", "thirst", "price"]
/-- the first of the five measures that is not as told, from the i-th on -/
def fwM (ds : List PyData) : Nat → Nat → Option Str
  | 0, _ => none
  | n + 1, i => if isM (ds.getD i .none) = false then words[i]? else
      if i = 2 ∧ tooM (top2 (ds.getD 0 .none)) (top2 (ds.getD 1 .none)) (top2 (ds.getD 2 .none)) = true then words[i]? else fwM ds n (i + 1)
/-- the first of the six that is not as told -/
def fwR (dn : PyData) (ds : List PyData) : Option Str := if isNm dn = false then some ("name" : Str) else fwM ds 5 0
/-- a word or None -/
def optV : Option Str → V
  | some x => .str x
  | none => .non
def sp_fw (K : PySem.W.Frag) : Sp := fun vs H Q _ => ∃ (vn : V) (p : Addr) (dn : PyData) (xs : List V) (ds : List PyData), vs = [vn, .ref p] ∧ Dq K H vn dn ∧ (∀ z, dn = .str z → z.length ≤ 1000) ∧ SqT K H p xs ∧ xs.length = 5 ∧ DqAll K H xs ds ∧
  (∀ i, i < 3 → isM (ds.getD i .none) = true → Bt 290 (top2 (ds.getD i .none))) ∧ ∀ H', Same H H' → Q (optV (fwR dn ds)) H'
theorem fw_len {dn : PyData} {ds : List PyData} {wd : Str} (h : fwR dn ds = some wd) : wd.length ≤ 1000 := by
  have key : ∀ n i, fwM ds n i = some wd → wd ∈ words := by
    intro n
    induction n with
    | zero => intro i e; cases e
    | succ n ih =>
      intro i e
      unfold fwM at e
      by_cases h1 : isM (ds.getD i .none) = false
      · rw [if_pos h1] at e
        exact List.mem_of_getElem? e
      · rw [if_neg h1] at e
        by_cases h2 : i = 2 ∧ tooM (top2 (ds.getD 0 .none)) (top2 (ds.getD 1 .none)) (top2 (ds.getD 2 .none)) = true
        · rw [if_pos h2] at e
          exact List.mem_of_getElem? e
        · rw [if_neg h2] at e
          exact ih _ e
  have all : ∀ z ∈ (("name" : Str) :: words), z.length ≤ 1000 := by decide +kernel
  unfold fwR at h
  by_cases h1 : isNm dn = false
  · rw [if_pos h1] at h
    cases h
    exact all _ (List.mem_cons_self ..)
  · rw [if_neg h1] at h
    exact all _ (List.mem_cons_of_mem _ (key _ _ h))
theorem meas {H : Hp} {v : V} {d : PyData} (h : Dq K H v d) (m : isM d = true) : ∃ p, v = .ref p ∧ SqT K H p [.int (top2 d).1, .int (top2 d).2] ∧ IsF (top2 d) := by
  unfold isM at m
  rw [Bool.and_eq_true] at m
  obtain ⟨a, b, rfl, hl⟩ := isFr_inv m.1
  obtain ⟨p, xs, ds, rfl, ed, hS, hA, _⟩ := h.tup rfl
  cases ed
  cases hA with
  | cons h1 r =>
    cases h1
    cases r with
    | cons h2 r =>
      cases h2
      cases r
      exact ⟨p, rfl, hS, hl⟩
theorem five_of {H : Hp} {x0 x1 x2 x3 x4 : V} {ds : List PyData} (h : DqAll K H [x0, x1, x2, x3, x4] ds) : ∃ d0 d1 d2 d3 d4, ds = [d0, d1, d2, d3, d4] ∧ Dq K H x0 d0 ∧ Dq K H x1 d1 ∧ Dq K H x2 d2 ∧ Dq K H x3 d3 ∧ Dq K H x4 d4 := by
  cases h with | cons h0 r => cases r with | cons h1 r => cases r with | cons h2 r => cases r with | cons h3 r => cases r with | cons h4 r => cases r; exact ⟨_, _, _, _, _, rfl, h0, h1, h2, h3, h4⟩
theorem ok_fw {f : Addr} {fd : FuncData} (Mz : mg "zip" = none) (T : Cst K mg c0 c1 cw) (F : Fun K "first_wrong" "first_wrong" s_first_wrong f fd) (C_is_name : Cal P w K mg base CX0 2 "is_name" ["thing"] (sp_isnm K)) (C_is_measure : Cal P w K mg base CX0 3 "is_measure" ["thing"] (sp_isM K))
    (C_are_too_much : Cal P w K mg base CX0 7 "are_too_much" ["flour", "water", "salt"] (sp_too K)) : FnG P w K mg base CX0 8 f fd ["name", "measures"] (sp_fw K) := by
  refine Gfun F sc_first_wrong (fun vs H Q E h => ?_) (fun cdv A outer s H vs Q E hg hr h => ?_)
  · obtain ⟨vn, p, dn, xs, ds, rfl, _⟩ := h
    rfl
  · obtain ⟨vn, p, dn, xs, ds, rfl, hn, hz, hp, hl, hA, hB, k⟩ := h
    refine ⟨_, (pss_cons (ps_if (pt_not (pt_val (pe_g C_is_name (hr.mono (by decide)) hg (pa_cons (pv 0) pa_nil))))
      (pss_one (ps_ret pe_str))
      pss_nil)
      (pss_cons (ps_asg (pe_slice sl_tup (pv 1) po_none (po_some pe_int)) (pg_tup rfl (pgs_cons (pg_name (i := 2) sc_first_wrong.nd rfl (.inl rfl)) (pgs_cons (pg_name (i := 3) sc_first_wrong.nd rfl (.inl rfl)) (pgs_cons (pg_name (i := 4) sc_first_wrong.nd rfl (.inl rfl)) pgs_nil)))))
      (pss_cons (ps_for PassesOwn.never rfl (RZ.pi_zipA rfl Mz (pa_cons (pe_glob (v := .ref cw) rfl T.gw rfl) (pa_cons (pv 1) pa_nil))) (pg_tup rfl (pgs_cons (pg_name (i := 5) sc_first_wrong.nd rfl (.inl rfl)) (pgs_cons (pg_name (i := 6) sc_first_wrong.nd rfl (.inl rfl)) pgs_nil)))
      (pss_cons (ps_if (pt_not (pt_val (pe_g C_is_measure (hr.mono (by decide)) hg (pa_cons (pv 6) pa_nil))))
      (pss_one (ps_ret (pv 5)))
      pss_nil)
      (pss_one (ps_if (PW.pt (pw_and (pt_cmpR op_eq (pv 5) pe_str (nomark _)) (pw_and1 (pt_val (pe_g C_are_too_much (hr.mono (by decide)) hg (pa_cons (pv 2) (pa_cons (pv 3) (pa_cons (pv 4) pa_nil))))))))
      (pss_one (ps_ret (pv 5)))
      pss_nil))))
      (pss_one (ps_ret pe_non))))), ?_⟩
    refine ⟨_, rfl, vn, dn, rfl, hn, hz, fun H1 s1 => ⟨_, rfl, ite2 (fun e => ?_) (fun e => ?_)⟩⟩
    · have en : isNm dn = false := by cases h : isNm dn <;> simp_all
      have ef : fwR dn ds = some ("name" : Str) := by unfold fwR; rw [if_pos en]
      have k' := k H1 s1
      rw [ef] at k'
      exact k'
    · have en : isNm dn = true := by cases h : isNm dn <;> simp_all
      have ef : fwR dn ds = fwM ds 5 0 := by unfold fwR; rw [if_neg (by rw [en]; decide)]
      rw [ef] at k
      match xs, hl with
      | [x0, x1, x2, x3, x4], _ =>
        refine ⟨_, rfl, _, rfl, p, _, rfl, sm_t s1 hp, by simp [HT.sIx], fun q hq => ?_⟩
        have sq : Same H1 (upd H1 q (HO.tup (cutV [x0, x1, x2, x3, x4] none (some 3)))) := same_new hq
        generalize hH2 : upd H1 q (HO.tup (cutV [x0, x1, x2, x3, x4] none (some 3))) = H2 at sq ⊢
        have sH2 : Same H H2 := s1.trans sq
        have tq : SqT K H2 q [x0, x1, x2] := .inl (.inl (by rw [← hH2]; exact upd_same))
        refine ⟨q, _, rfl, tq, rfl, _, _, rfl, _, _, rfl, _, _, rfl, rfl, ?_⟩
        obtain ⟨d0, d1, d2, d3, d4, rfl, h0, h1, h2, h3, h4⟩ := five_of hA
        have tw : ∀ H, SqT K H cw (words.map V.str) := T.tw
        refine ⟨_, rfl, cw, p, words.map V.str, [x0, x1, x2, x3, x4], rfl, .inr ⟨tw H2, sm_t sH2 hp, ?_⟩⟩
        refine RZ.for_zipT (xs := words.map V.str) (ys := [x0, x1, x2, x3, x4]) rfl (fun i σ H' => Same H H' ∧ (∃ a b, σ = [some vn, some (.ref p), some x0, some x1, some x2, a, b]) ∧ fwM [d0, d1, d2, d3, d4] 5 0 = fwM [d0, d1, d2, d3, d4] (5 - i) i ∧ ∀ j, j < i → isM ([d0, d1, d2, d3, d4].getD j .none) = true)
          ⟨sH2, ⟨_, _, rfl⟩, rfl, fun j hj => absurd hj (Nat.not_lt_zero _)⟩ (fun i σ H' h => ⟨tw H', sm_t h.1 hp⟩) ?_ ?_
        · rintro i x y T' σ H' hx hy ⟨sH, ⟨a, b, rfl⟩, hf, hM⟩ hT
          have sT : Same H' (upd H' T' (.tup [x, y])) := same_new hT
          have tT : SqT K (upd H' T' (.tup [x, y])) T' [x, y] := .inl (.inl upd_same)
          generalize upd H' T' (.tup [x, y]) = H3 at sT tT ⊢
          refine ⟨T', _, rfl, tT, rfl, _, _, rfl, _, _, rfl, rfl, ?_⟩
          have sH3 := sH.trans sT
          have hA' : DqAll K H3 [x0, x1, x2, x3, x4] [d0, d1, d2, d3, d4] := DqAll.same sH3 (.cons h0 (.cons h1 (.cons h2 (.cons h3 (.cons h4 .nil)))))
          obtain ⟨d, hd, hq'⟩ := hA'.get hy
          have hi : i < 5 := by
            have := (List.getElem?_eq_some_iff.mp hy).1
            exact this
          have hx' : ∃ wd, words[i]? = some wd ∧ x = .str wd := by
            rw [List.getElem?_map] at hx
            cases hw : words[i]? with
            | none => rw [hw] at hx; cases hx
            | some wd => rw [hw] at hx; exact ⟨wd, rfl, (Option.some.inj hx).symm⟩
          obtain ⟨wd, hw, rfl⟩ := hx'
          have hdg : [d0, d1, d2, d3, d4].getD i .none = d := by rw [List.getD_eq_getElem?_getD, hd]; rfl
          have hstep : fwM [d0, d1, d2, d3, d4] (5 - i) i = if isM d = false then words[i]? else
              if i = 2 ∧ tooM (top2 d0) (top2 d1) (top2 d2) = true then words[i]? else fwM [d0, d1, d2, d3, d4] (5 - (i + 1)) (i + 1) := by
            rw [show 5 - i = (5 - (i + 1)) + 1 by omega]
            show (if isM ([d0, d1, d2, d3, d4].getD i .none) = false then _ else _) = _
            rw [hdg]
            rfl
          have ret : fwM [d0, d1, d2, d3, d4] 5 0 = some wd → ∀ H4, Same H H4 → Q (.str wd) H4 := fun e H4 s4 => by
            have k' := k H4 s4
            rw [e] at k'
            exact k'
          refine ⟨_, rfl, y, d, rfl, hq', ⟨_, rfl, ite2 (fun e => ?_) (fun e => ?_)⟩⟩
          · have em : isM d = false := by cases h : isM d <;> simp_all
            refine ⟨_, rfl, ret ?_ H3 sH3⟩
            rw [hf, hstep, if_pos em, hw]
          · have em : isM d = true := by cases h : isM d <;> simp_all
            have hM' : ∀ j, j < i + 1 → isM ([d0, d1, d2, d3, d4].getD j .none) = true := fun j hj => by
              by_cases h : j = i
              · rw [h, hdg]; exact em
              · exact hM j (by omega)
            refine ⟨_, rfl, rfl, _, rfl, ite2 (fun e2 => ?_) (fun e2 => ?_)⟩
            · have ei : i = 2 := by
                have := V.str.inj (of_decide_eq_true e2)
                match i, hi, hw with
                | 0, _, hw => cases hw; exact absurd this (by decide)
                | 1, _, hw => cases hw; exact absurd this (by decide)
                | 2, _, _ => rfl
                | 3, _, hw => cases hw; exact absurd this (by decide)
                | 4, _, hw => cases hw; exact absurd this (by decide)
              subst ei
              have m0 : isM d0 = true := hM' 0 (by decide)
              have m1 : isM d1 = true := hM' 1 (by decide)
              have m2 : isM d2 = true := hM' 2 (by decide)
              obtain ⟨p0, rfl, t0, f0⟩ := meas (h0.same sH3) m0
              obtain ⟨p1, rfl, t1, f1⟩ := meas (h1.same sH3) m1
              obtain ⟨p2, rfl, t2, f2⟩ := meas (h2.same sH3) m2
              refine ⟨_, rfl, _, rfl, _, rfl, p0, p1, p2, top2 d0, top2 d1, top2 d2, rfl, t0, t1, t2, f0, f1, f2, hB 0 (by decide) m0, hB 1 (by decide) m1, hB 2 (by decide) m2, fun H4 s4 => ⟨_, rfl, ite2 (fun e3 => ?_) (fun e3 => ?_)⟩⟩
              · refine ⟨_, rfl, ret ?_ H4 (sH3.trans s4)⟩
                rw [hf, hstep, if_neg (by rw [em]; decide), if_pos ⟨rfl, e3⟩, hw]
              · refine ⟨sH3.trans s4, ⟨_, _, rfl⟩, ?_, hM'⟩
                rw [hf, hstep, if_neg (by rw [em]; decide), if_neg (fun z => e3 z.2)]
            · have ei : i ≠ 2 := fun z => by
                subst z
                cases hw
                exact e2 (by decide)
              refine ⟨sH3, ⟨_, _, rfl⟩, ?_, hM'⟩
              rw [hf, hstep, if_neg (by rw [em]; decide), if_neg (fun z => ei z.1)]
        · rintro σ H' ⟨sH, ⟨a, b, rfl⟩, hf, hM⟩
          have hf' : fwM [d0, d1, d2, d3, d4] 5 0 = none := hf
          have k' := k H' sH
          rw [hf'] at k'
          exact k'
end
end Lf

set_option Elab.async false
set_option linter.all false
set_option maxRecDepth 100000
set_option maxHeartbeats 4000000
set_option exponentiation.threshold 3000
namespace Lf
open PySem PySem.Spec PyProof.Rows L2 NdefX
def inCls (st : Stmt) (j : Nat) : Stmt := match st with
  | .ClassDef (body := b) .. => b.getD j (.Pass ⟨0, 0, 0, 0⟩)
  | _ => .Pass ⟨0, 0, 0, 0⟩
section
variable {P : Program} {w : World} {K : PySem.W.Frag} {mg : Str → Option Value} {base : Heap} {c0 c1 cw : Addr}
/-! ### NoStuff.__init__ -/
abbrev sNoStuff : Stmt := inCls (topS 3) 0
theorem scNoStuff : NScope ["self", "field", "__class__"] ["self", "field"] ["__class__"] (defScope sNoStuff) := nscope_by (by decide +kernel)
def sp_nostuff (D : Addr) : Sp := fun vs H Q _ => ∃ (a : Addr) (x : Str), vs = [.ref a, .str x] ∧ x.length ≤ 1000 ∧ H a = some (exo a D none) ∧ ∀ dx, H dx = none → dx ≠ a → Q .non (upd (upd H dx (exd dx [("field", .str x)])) a (exo a D (some dx)))
theorem ok_nostuff {D f cc cda : Addr} {fd : FuncData} (F : XFun P K "NoStuff.__init__" sNoStuff D f fd cc cda) (T : OexC K D) (hm : mg "super" = none) (hno : PySem.W.findIn K (.ref D) "field" = some none) :
    FnOk P w K mg base CX0 1 f fd ["self", "field"] (sp_nostuff D) := by
  refine xok F T hm scNoStuff (fun vs H Q E h => ?_) rfl rfl rfl rfl rfl (fun L => ⟨_, rfl⟩) (fun L => rfl) (fun L => rfl) (fun L => rfl) (fun A outer s H vs Q E hr h => ?_)
  · obtain ⟨a, x, rfl, _⟩ := h
    rfl
  · obtain ⟨a, x, rfl, hx, ha, k⟩ := h
    refine ⟨_, _, pa_cons (pe_joined (PJ.cons pe_str (PJ.cons (pe_fmt (pv 1)) PJ.nil))) pa_nil, pss_one (ps_ost (pv 0) (pv 1)), a, rfl, ha, ?_⟩
    refine ⟨_, rfl, ?_, _, rfl, .inl ⟨x, rfl, Nat.le_trans hx (by decide), x, rfl, ?_, ?_⟩⟩
    · decide +kernel
    · refine Nat.le_trans (Nat.le_of_eq (PySem.Str.length_append _ _)) ?_
      exact Nat.le_trans (Nat.add_le_add (show Str.length (Str.empty ++ Str.ofString "no stuff has such a ") ≤ 1000 by decide +kernel) hx) (by decide +kernel)
    · refine ⟨by show 1 ≤ 1000; decide, ha, _, rfl, _, rfl, a, D, rfl, T, hno, .inl ⟨ha, fun dx n1 n2 => k dx n1 n2⟩⟩
end
end Lf

set_option Elab.async false
set_option linter.all false
set_option maxRecDepth 100000
set_option maxHeartbeats 4000000
set_option exponentiation.threshold 3000
namespace Lf
open PySem PySem.Spec PyProof.Rows L2
/-- an own exception with one field, under its name -/
structure XT (P : Program) (K : PySem.W.Frag) (mg : Str → Option Value) (x qual fld : Str) (st : Stmt) (D fI : Addr) (fdI : FuncData) (cc cda : Addr) : Prop where
  g : mg x = some (.ref D)
  T : OexC K D
  iC : PySem.W.findIn K (.ref D) "__init__" = some (some (.ref fI))
  tI : PySem.W.typeIn K (.ref fI) = some (.type "function")
  F : XFun P K qual st D fI fdI cc cda
  b : Binds K fdI ["self", fld] []
  sup : mg "super" = none
  no : PySem.W.findIn K (.ref D) fld = some none
section
variable {P : Program} {w : World} {K : PySem.W.Frag} {mg : Str → Option Value} {base : Heap}
/-! ### Stuff.__init__ -/
abbrev s_init : Stmt := inCls (topS 25) 0
theorem sc_init : FnScope ["self", "name", "flour", "water", "salt", "thirst", "price", "measures", "wrong", "given"] ["self", "name", "flour", "water", "salt", "thirst", "price"] (defScope s_init) := ⟨rfl, rfl, rfl, by decide +kernel, rfl, by decide +kernel, by decide +kernel⟩
/-- a made stuff: its fields -/
def StO (K : PySem.W.Frag) (H : Hp) (C x : Addr) (vn : V) (dn : PyData) (ds : List PyData) : Prop :=
  ∃ (dx pm : Addr) (xs : List V), H x = some (.ins C dx [("own_name", vn), ("measures", .ref pm)]) ∧ Dq K H vn dn ∧ SqT K H pm xs ∧ DqAll K H xs ds
/-- H0: the heap ahead of the object -/
def sp_init (K : PySem.W.Frag) (C D : Addr) : Sp := fun vs H Q E => ∃ (x dx : Addr) (H0 : Hp) (vn : V) (dn : PyData) (ms : List V) (ds : List PyData), vs = .ref x :: vn :: ms ∧ ms.length = 5 ∧ H0 x = none ∧ H0 dx = none ∧ dx ≠ x ∧ H = upd (upd H0 dx (.own x)) x (.ins C dx []) ∧
  Dq K H0 vn dn ∧ (∀ z, dn = .str z → z.length ≤ 1000) ∧ DqAll K H0 ms ds ∧ (∀ i, i < 3 → isM (orNone (ds.getD i .none)) = true → Bt 290 (top2 (orNone (ds.getD i .none)))) ∧
  (match fwR dn (ds.map orNone) with
   | none => ∀ H', Same H0 H' → StO K H' C x vn dn (ds.map orNone) → Q .non H'
   | some wd => ∀ H' d, Same H0 H' → H' d = some (.xd [("field", .str wd)]) → E (.ref D) (some d) H')
theorem ok_init {C D f fI cc cda c0 c1 cw : Addr} {fd fdI : FuncData} {dvs : List V} {kws : List (Str × V)} (M : Blt mg) (Mx : Bltx mg) (T : XT P K mg "NoStuff" "NoStuff.__init__" "field" sNoStuff D fI fdI cc cda) (c : Cls K C) (n1 : NoAttr K C "own_name") (n2 : NoAttr K C "measures")
    (F : FunD K "__init__" "Stuff.__init__" (defArgs s_init) (defBody s_init) (defScope s_init) dvs kws f fd) (C_measure_or_none_of_it : Cal P w K mg base CX0 1 "measure_or_none_of_it" ["measure"] (sp_orNone K)) (C_first_wrong : Cal P w K mg base CX0 8 "first_wrong" ["name", "measures"] (sp_fw K)) :
    FnG P w K mg base (L2.CX P w) 9 f fd ["self", "name", "flour", "water", "salt", "thirst", "price"] (sp_init K C D) := by
  refine GfunDX F sc_init (fun vs H Q E h => ?_) (fun cdv A outer s H vs Q E hg hr h => ?_)
  · obtain ⟨x, dx, H0, vn, dn, ms, ds, rfl, hl, _⟩ := h
    show ms.length + 2 = 7
    omega
  · obtain ⟨x, dx, H0, vn, dn, ms, ds, rfl, hl, nx, nd, hdx, rfl, hn, hz, hA, hB, k⟩ := h
    match ms, hl with
    | [m0, m1, m2, m3, m4], _ =>
    refine ⟨_, (pss_cons (ps_set (i := 7) sc_init.nd rfl (.inl rfl) (pe_callTy call_tuple_of rfl Mx.tuple bt_tuple (pa_cons (pe_lc (own := [("given", 9)]) (g := gName 9) (tt := tYes) rfl sc_init.nd (pi_tup (pe_tup (pa_cons (pv 2) (pa_cons (pv 3) (pa_cons (pv 4) (pa_cons (pv 5) (pa_cons (pv 6) pa_nil))))))) (blkOk_by (N := ["self", "name", "flour", "water", "salt", "thirst", "price", "measures", "wrong", "given"]) (sc := defScope s_init) (by decide +kernel)) (fun _ _ _ _ _ => pg_name (i := 9) sc_init.nd rfl (Or.inl rfl)) (fun _ _ _ _ _ => pts_nil) (fun _ _ _ _ _ => (pe_g C_measure_or_none_of_it (hr.mono (by decide)) hg (pa_cons (pv 9) pa_nil)))) pa_nil)))
      (pss_cons (ps_set (i := 8) sc_init.nd rfl (.inl rfl) (pe_g C_first_wrong (hr.mono (by decide)) hg (pa_cons (pv 1) (pa_cons (pv 7) pa_nil))))
      (pss_cons (ps_if (pt_cmp (pc_notN (pv 8)))
      (pss_one (ps_raise rfl (takes_of rfl rfl rfl rfl) (pmk_oex T.T T.iC T.tI (ok_nostuff T.F T.T T.sup T.no) (hr.mono (by decide)) T.b .nil pass0 rfl T.g (pa_cons (pv 8) pa_nil))))
      pss_nil)
      (pss_cons (ps_fld (pv 0) (pv 1) rfl)
      (pss_one (ps_fld (pv 0) (pv 7) rfl)))))), ?_⟩
    have s01 : Same H0 (upd (upd H0 dx (.own x)) x (.ins C dx [])) := fun b o e => by
      rw [upd_ne (ne_of_none e nx), upd_ne (ne_of_none e nd)]
      exact e
    have hx1 : upd (upd H0 dx (.own x)) x (.ins C dx []) x = some (.ins C dx []) := upd_same
    generalize upd (upd H0 dx (.own x)) x (.ins C dx []) = H1 at s01 hx1 ⊢
    refine ⟨_, rfl, _, rfl, _, rfl, _, rfl, _, rfl, by show 5 ≤ sizeLine; decide, fun p hp => ⟨p, rfl, ⟨_, .inl (.inl upd_same)⟩, fun Dl hD => ?_⟩⟩
    have s12 : Same H1 (upd H1 p (.tup [m0, m1, m2, m3, m4])) := same_new hp
    have tp : SqT K (upd H1 p (.tup [m0, m1, m2, m3, m4])) p [m0, m1, m2, m3, m4] := .inl (.inl upd_same)
    generalize upd H1 p (.tup [m0, m1, m2, m3, m4]) = H2 at s12 tp hD ⊢
    have s02 := s01.trans s12
    refine lc_tup (xs := [m0, m1, m2, m3, m4]) (fun i H' => Same H2 H' ∧ ∃ acc, H' Dl = some (.lst acc) ∧ DqAll K H0 acc ((ds.map orNone).take i)) ⟨same_new hD, [], upd_same, .nil⟩ (fun i H' _ h => sm_t h.1 tp) ?_ ?_
    · rintro i y H' hy ⟨sH, acc, hacc, hAc⟩
      obtain ⟨d, hd, hq⟩ := hA.get hy
      refine ⟨rfl, _, rfl, y, d, rfl, hq.same (s02.trans sH), fun v' hv => ⟨acc, hacc, ?_, fun b o e => ?_, acc ++ [v'], upd_same, ?_⟩⟩
      · have := hAc.length
        rw [List.length_take] at this
        have h5 : i < 5 := (List.getElem?_eq_some_iff.mp hy).1
        rw [sizeLine_eq]
        omega
      · rw [upd_ne (ne_of_none e hD)]
        exact sH _ _ e
      · rw [List.take_succ, List.getElem?_map, hd]
        exact hAc.app (.cons (hv H0 hq) .nil)
    · rintro H3 ⟨s23, acc, hacc, hAc⟩
      have s03 := s02.trans s23
      obtain ⟨d0, d1, d2, d3, d4, rfl, _⟩ := five_of hA
      have hAc' : DqAll K H0 acc ([d0, d1, d2, d3, d4].map orNone) := hAc
      clear hAc
      have hl5 : acc.length = 5 := hAc'.length
      refine ⟨Dl, acc, rfl, .inl ⟨.inl (.inl hacc), fun l hl => ?_⟩⟩
      have s34 : Same H3 (upd H3 l (.tup acc)) := same_new hl
      have tl : SqT K (upd H3 l (.tup acc)) l acc := .inl (.inl upd_same)
      generalize upd H3 l (.tup acc) = H4 at s34 tl ⊢
      have s04 := s03.trans s34
      refine ⟨_, rfl, _, rfl, vn, l, dn, acc, [d0, d1, d2, d3, d4].map orNone, rfl, hn.same s04, hz, tl, hl5, DqAll.same s04 hAc', ?_, fun H5 s45 => ?_⟩
      · intro i hi
        match i, hi with
        | 0, _ => exact hB 0 (by decide)
        | 1, _ => exact hB 1 (by decide)
        | 2, _ => exact hB 2 (by decide)
      have s05 := s04.trans s45
      have hx5 : H5 x = some (.ins C dx []) := (((s12.trans s23).trans s34).trans s45) _ _ hx1
      have tl5 := sm_t s45 tl
      cases hfw : fwR dn ([d0, d1, d2, d3, d4].map orNone) with
      | none =>
        rw [hfw] at k
        refine ⟨_, rfl, _, rfl, ite2 (fun e => absurd e (by decide)) (fun _ => ?_)⟩
        refine ⟨_, rfl, _, rfl, x, C, dx, [], rfl, hx5, c, n1, by decide, ?_⟩
        refine ⟨_, rfl, _, rfl, x, C, dx, _, rfl, upd_same, c, n2, by show 1 < 1000; decide, ?_⟩
        have s06 : Same H0 (upd (upd H5 x (.ins C dx (putF "own_name" vn []))) x (.ins C dx (putF "measures" (.ref l) (putF "own_name" vn [])))) := fun b o e => by
          rw [upd_ne (ne_of_none e nx), upd_ne (ne_of_none e nx)]
          exact s05 _ _ e
        have tl6 : SqT K (upd (upd H5 x (.ins C dx (putF "own_name" vn []))) x (.ins C dx (putF "measures" (.ref l) (putF "own_name" vn [])))) l acc := by
          rcases tl5 with (h | ⟨o, h⟩) | h
          · have ne : l ≠ x := fun z => by rw [z, hx5] at h; cases h
            exact .inl (.inl (by rw [upd_ne ne, upd_ne ne]; exact h))
          · have ne : l ≠ x := fun z => by rw [z, hx5] at h; cases h
            exact .inl (.inr ⟨o, by rw [upd_ne ne, upd_ne ne]; exact h⟩)
          · exact .inr h
        exact k _ s06 ⟨dx, l, acc, upd_same, hn.same s06, tl6, DqAll.same s06 hAc'⟩
      | some wd =>
        rw [hfw] at k
        refine ⟨_, rfl, _, rfl, iteT ?_⟩
        refine ⟨_, rfl, by show 1 ≤ 1000; decide, fun a ha => ⟨a, wd, rfl, fw_len hfw, upd_same, fun dx' e1 e2 => ⟨rfl, dx', [(("field" : Str), .str wd)], upd_same, ?_, ?_, ?_⟩⟩⟩
        · rw [upd_ne e2, upd_same]
        · rw [upd_ne e2] at e1
          exact e1
        · refine k _ dx' (fun b o e => ?_) upd_same
          have h5 := s05 _ _ e
          have nb1 : b ≠ a := ne_of_none h5 ha
          have nb2 : b ≠ dx' := ne_of_none h5 (by rw [upd_ne e2] at e1; exact e1)
          rw [upd_ne nb2, del_ne nb1, upd_ne nb1, upd_ne nb2, upd_ne nb1]
          exact h5
end
end Lf

set_option Elab.async false
set_option linter.all false
set_option maxRecDepth 100000
set_option maxHeartbeats 4000000
set_option exponentiation.threshold 3000
namespace Lf
open PySem PySem.Spec PyProof.Rows L2
theorem sm_l {K : PySem.W.Frag} {H H' : Hp} {a : Addr} {xs : List V} (s : Same H H') (h : SqL K H a xs) : SqL K H' a xs := s.seq h
theorem small30 {n : Int} (h : 0 ≤ n) (h2 : n < 2147483648) : Sm n := Nat.lt_of_lt_of_le (show n.natAbs < 2 ^ 31 by omega) (Nat.pow_le_pow_right (by decide) (by decide))
section
variable {P : Program} {w : World} {K : PySem.W.Frag} {mg : Str → Option Value} {base : Heap}

/-! ### _law_cell -/
abbrev s__law_cell : Stmt := topS 27
theorem sc__law_cell : FnScope ["_law_script", "_law_k"] ["_law_script", "_law_k"] (defScope s__law_cell) := ⟨rfl, rfl, rfl, by decide +kernel, rfl, by decide +kernel, by decide +kernel⟩
def sp_cell (K : PySem.W.Frag) : Sp := fun vs H Q _ => ∃ (a : Addr) (ns : List Int) (k : Nat), vs = [.ref a, .int k] ∧ SqL K H a (ns.map V.int) ∧ k < 2 ^ 62 ∧ ∀ n : Int, Q (.int n) H
theorem ok_cell {f : Addr} {fd : FuncData} (M : Blt mg) (F : Fun K "_law_cell" "_law_cell" s__law_cell f fd) : FnG P w K mg base CX0 1 f fd ["_law_script", "_law_k"] (sp_cell K) := by
  refine Gfun F sc__law_cell (fun vs H Q E h => ?_) (fun cdv A outer s H vs Q E hg hr h => ?_)
  · obtain ⟨a, ns, k, rfl, _⟩ := h
    rfl
  · obtain ⟨a, ns, k, rfl, hS, hk, q⟩ := h
    refine ⟨_, (pss_one (ps_ret (pe_ifExp (pt_cmpR op_lt (pv 1) (pe_callB call_len_seq rfl M.len bt_len (pa_cons (pv 0) pa_nil)) (nomark _)) (pe_ix ix_list (pv 0) (pv 1) (fun _ _ => rfl)) pe_int))), ?_⟩
    refine ⟨_, rfl, _, rfl, a, _, rfl, .inl hS, _, _, rfl, rfl, _, rfl, ite2 (fun e => ?_) (fun e => ?_)⟩
    · have e' : (k : Int) < (((ns.map V.int).length : Nat) : Int) := of_decide_eq_true e
      rw [List.length_map] at e'
      have hlt : k < ns.length := by omega
      refine ⟨_, rfl, _, rfl, a, _, _, .int ns[k], rfl, rfl, hS, atI_nat ?_, q _⟩
      rw [List.getElem?_map, List.getElem?_eq_getElem hlt]
      rfl
    · exact q 0

/-! ### _law_pot -/
abbrev s__law_pot : Stmt := topS 28
theorem sc__law_pot : FnScope ["_law_cell_here"] ["_law_cell_here"] (defScope s__law_pot) := ⟨rfl, rfl, rfl, by decide +kernel, rfl, by decide +kernel, by decide +kernel⟩
def sp_pot : Sp := fun vs H Q _ => ∃ n : Int, vs = [.int n] ∧ ∀ (x y : Int) (p : Addr), 0 ≤ y → y < 2147483648 → H p = none → Q (.ref p) (upd H p (.lst [.int x, .int y]))
theorem ok_pot {f : Addr} {fd : FuncData} (M : Blt mg) (F : Fun K "_law_pot" "_law_pot" s__law_pot f fd) : FnG P w K mg base CX0 1 f fd ["_law_cell_here"] sp_pot := by
  refine Gfun F sc__law_pot (fun vs H Q E h => ?_) (fun cdv A outer s H vs Q E hg hr h => ?_)
  · obtain ⟨n, rfl, _⟩ := h
    rfl
  · obtain ⟨n, rfl, q⟩ := h
    refine ⟨_, (pss_one (ps_ret (pe_lst (pa_cons (pe_callB (call_max2 rfl) rfl M.max bt_max (pa_cons pe_int (pa_cons (pe_op op_sub (pv 0) (pe_op op_pow pe_int pe_int)) pa_nil))) (pa_cons (pe_op op_mod (pe_op op_add (pe_op op_mulW (pe_op op_mod (pv 0) pe_int) pe_int) pe_int) pe_int) pa_nil))))), ?_⟩
    refine ⟨_, rfl, 10, 18, rfl, rfl, ⟨by decide, by decide, by decide⟩, _, _, rfl, rfl, _, _, rfl, ?_⟩
    have h1 := Int.emod_nonneg n (show (2147483629 : Int) ≠ 0 by decide)
    have h2 := Int.emod_lt_of_pos n (show (0 : Int) < 2147483629 by decide)
    refine ⟨_, rfl, _, _, rfl, rfl, (by show (0 : Int) < 2147483629; decide), _, _, rfl, rfl, Sm.mulW (small30 h1 (by omega)) (small30 (by decide) (by decide)), _, _, rfl, rfl, _, _, rfl, rfl, (by show (0 : Int) < 2147483647; decide), lst2 fun p hp => ?_⟩
    have h3 := Int.emod_nonneg (n % 2147483629 * 48271 + 7919) (show (2147483647 : Int) ≠ 0 by decide)
    have h4 := Int.emod_lt_of_pos (n % 2147483629 * 48271 + 7919) (show (0 : Int) < 2147483647 by decide)
    exact q _ _ p h3 (by omega) hp

/-! ### _law_draw -/
abbrev s__law_draw : Stmt := topS 29
theorem sc__law_draw : FnScope ["_law_pot_here", "_law_many", "_law_digit"] ["_law_pot_here", "_law_many"] (defScope s__law_draw) := ⟨rfl, rfl, rfl, by decide +kernel, rfl, by decide +kernel, by decide +kernel⟩
/-- all but the pot at q stands as before -/
def But (q : Addr) (H H' : Hp) : Prop := ∀ b o, b ≠ q → H b = some o → H' b = some o
theorem But.rfl {q : Addr} {H : Hp} : But q H H := fun _ _ _ e => e
theorem But.trans {q : Addr} {H H1 H2 : Hp} (h : But q H H1) (k : But q H1 H2) : But q H H2 := fun b o n e => k b o n (h b o n e)
theorem But.same {q : Addr} {H H1 H2 : Hp} (h : But q H H1) (k : Same H1 H2) : But q H H2 := fun b o n e => k b o (h b o n e)
/-- a pot of draws at q -/
def Pot (H : Hp) (q : Addr) : Prop := ∃ x y : Int, 0 ≤ y ∧ y < 2147483648 ∧ H q = some (.lst [.int x, .int y])
def Drawn (H : Hp) (q : Addr) (Q : VK) (m : Int) : Prop := ∀ (r : Int) (H' : Hp), 0 ≤ r → r < m → Pot H' q → But q H H' → Q (.int r) H'
def sp_draw : Sp := fun vs H Q _ => ∃ (q : Addr) (m : Int), vs = [.ref q, .int m] ∧ 0 < m ∧ m.natAbs < 2 ^ 900 ∧ Pot H q ∧ Drawn H q Q m
theorem ok_draw {f : Addr} {fd : FuncData} (M : Blt mg) (F : Fun K "_law_draw" "_law_draw" s__law_draw f fd) : FnG P w K mg base CX0 1 f fd ["_law_pot_here", "_law_many"] sp_draw := by
  refine Gfun F sc__law_draw (fun vs H Q E h => ?_) (fun cdv A outer s H vs Q E hg hr h => ?_)
  · obtain ⟨q, m, rfl, _⟩ := h
    rfl
  · obtain ⟨q, m, rfl, hm, hm2, ⟨x, y, hy0, hy1, hP⟩, k⟩ := h
    refine ⟨_, (pss_cons (ps_if (pt_cmpR op_gt (pe_ix ix_list (pv 0) pe_int (fun _ _ => rfl)) pe_int (nomark _))
      (pss_cons (ps_asg (pe_callB call_divmodW rfl M.divmod bt_divmod (pa_cons (pe_ix ix_list (pv 0) pe_int (fun _ _ => rfl)) (pa_cons (pv 1) pa_nil))) (pg_tup rfl (pgs_cons (pg_sub (pv 0) pe_int set_list) (pgs_cons (pg_name (i := 2) sc__law_draw.nd rfl (.inl rfl)) pgs_nil))))
      (pss_one (ps_ret (pv 2))))
      pss_nil)
      (pss_cons (ps_asg (pe_op op_mod (pe_op op_add (pe_op op_mulW (pe_ix ix_list (pv 0) pe_int (fun _ _ => rfl)) pe_int) pe_int) pe_int) (pg_sub (pv 0) pe_int set_list))
      (pss_one (ps_ret (pe_op op_mod (pe_op op_fdivN (pe_op op_mod (pe_op op_mulW (pe_ix ix_list (pv 0) pe_int (fun _ _ => rfl)) (pe_ix ix_list (pv 0) pe_int (fun _ _ => rfl))) pe_int) pe_int) (pv 1)))))), ?_⟩
    refine ⟨_, rfl, q, _, _, _, rfl, rfl, .inl (.inl hP), rfl, _, _, rfl, rfl, _, rfl, ite2 (fun e => ?_) (fun e => ?_)⟩
    · refine ⟨_, rfl, q, _, _, _, rfl, rfl, .inl (.inl hP), rfl, _, rfl, x, m, rfl, ⟨hm, PyProof.noPylong_of_log2 (Nat.lt_of_lt_of_le (PySem.Flt.log2_lt_of (by decide) hm2) (by decide))⟩, fun p hp => ?_⟩
      have nq : q ≠ p := ne_of_none hP hp
      have hP2 : upd H p (.tup [.int (x / m), .int (x % m)]) q = some (.lst [.int x, .int y]) := by
        rw [upd_ne nq]
        exact hP
      refine ⟨p, _, rfl, .inl (.inl upd_same), rfl, _, _, rfl, ?_⟩
      refine ⟨_, rfl, q, _, _, _, rfl, rfl, hP2, rfl, ?_⟩
      refine ⟨_, _, rfl, rfl, ?_⟩
      refine ⟨_, rfl, k (x % m) _ (Int.emod_nonneg _ (by omega)) (Int.emod_lt_of_pos _ hm) ⟨x / m, y, hy0, hy1, upd_same⟩ fun b o nb eb => ?_⟩
      rw [upd_ne nb, upd_ne (ne_of_none eb hp)]
      exact eb
    · refine ⟨_, rfl, q, _, _, _, rfl, rfl, .inl (.inl hP), rfl, _, _, rfl, rfl, Sm.mulW (small30 hy0 hy1) (small30 (by decide) (by decide)), _, _, rfl, rfl, _, _, rfl, rfl, (by show (0 : Int) < 2147483587; decide), ?_⟩
      refine ⟨_, rfl, q, _, _, _, rfl, rfl, hP, rfl, ?_⟩
      have h3 := Int.emod_nonneg (y * 39373 + 8191) (show (2147483587 : Int) ≠ 0 by decide)
      have h4 := Int.emod_lt_of_pos (y * 39373 + 8191) (show (0 : Int) < 2147483587 by decide)
      have sz : Sm ((y * 39373 + 8191) % 2147483587) := small30 h3 (by omega)
      refine ⟨_, rfl, q, _, _, _, rfl, rfl, .inl (.inl upd_same), rfl, _, rfl, q, _, _, _, rfl, rfl, .inl (.inl upd_same), rfl, _, _, rfl, rfl, Sm.mulW sz sz, _, _, rfl, rfl, (by show (0 : Int) < 2147483543; decide), ?_⟩
      refine ⟨_, _, rfl, rfl, ⟨by decide, by decide⟩, _, rfl, _, _, rfl, rfl, hm, ?_⟩
      refine k _ _ (Int.emod_nonneg _ (by omega)) (Int.emod_lt_of_pos _ hm) ⟨x, _, h3, by omega, upd_same⟩ fun b o nb eb => ?_
      rw [upd_ne nb]
      exact eb

/-! ### _law_low -/
abbrev s__law_low : Stmt := topS 30
theorem sc__law_low : FnScope ["_law_top", "_law_bottom", "_law_one", "_law_other_here"] ["_law_top", "_law_bottom"] (defScope s__law_low) := ⟨rfl, rfl, rfl, by decide +kernel, rfl, by decide +kernel, by decide +kernel⟩
def sp_low : Sp := fun vs H Q _ => ∃ (n d : Int), vs = [.int n, .int d] ∧ d ≠ 0 ∧ Mid d ∧ Two H Q (low n d)
theorem ok_low {f : Addr} {fd : FuncData} (M : Blt mg) (F : Fun K "_law_low" "_law_low" s__law_low f fd) : FnG P w K mg base CX0 1 f fd ["_law_top", "_law_bottom"] sp_low := by
  refine Gfun F sc__law_low (fun vs H Q E h => ?_) (fun cdv A outer s H vs Q E hg hr h => ?_)
  · obtain ⟨n, d, rfl, _⟩ := h
    rfl
  · obtain ⟨n, d, rfl, hd, hd2, q⟩ := h
    refine ⟨_, (pss_cons (ps_par (i := 2) (j := 3) rfl sc__law_low.nd rfl rfl (by decide) rfl rfl (pa_cons (pe_callB call_abs rfl M.abs bt_abs (pa_cons (pv 0) pa_nil)) (pa_cons (pe_callB call_abs rfl M.abs bt_abs (pa_cons (pv 1) pa_nil)) pa_nil)) (by rfl))
      (pss_cons (ps_while PassesOwn.never (pt_cmpR op_gt (pv 3) pe_int (nomark _))
      (pss_one (ps_par (i := 2) (j := 3) rfl sc__law_low.nd rfl rfl (by decide) rfl rfl (pa_cons (pv 3) (pa_cons (pe_op op_mod (pv 2) (pv 3)) pa_nil)) (by rfl))))
      (pss_cons (ps_if (pt_cmpR op_lt (pv 1) pe_int (nomark _))
      (pss_one (ps_set (i := 2) sc__law_low.nd rfl (.inl rfl) (pe_un un_neg (pv 2))))
      pss_nil)
      (pss_one (ps_ret (pe_tup (pa_cons (pe_op op_fdivN (pv 0) (pv 2)) (pa_cons (pe_op op_fdivN (pv 1) (pv 2)) pa_nil)))))))), ?_⟩
    refine ⟨_, rfl, _, rfl, _, rfl, _, rfl, _, _, rfl, ?_⟩
    refine while_by (fun σ H' => ∃ x y : Int, σ = [some (.int n), some (.int d), some (.int x), some (.int y)] ∧ 0 ≤ x ∧ 0 ≤ y ∧ Nat.gcd x.natAbs y.natAbs = Nat.gcd n.natAbs d.natAbs ∧ H' = H)
      (fun σ _ => match σ with | [_, _, _, some (.int y)] => y.toNat | _ => 0) ⟨_, _, rfl, ?_, ?_, ?_, rfl⟩ ?_ ?_
    · rw [abs_is]
      omega
    · rw [abs_is]
      omega
    · rw [abs_is, abs_is, Int.natAbs_natCast, Int.natAbs_natCast]
    · rintro σ H1 ⟨x, y, rfl, hx, hy, hgc, rfl⟩
      refine ⟨_, rfl, _, _, rfl, rfl, _, rfl, ite2 (fun e => ?_) (fun e => ?_)⟩
      · have hyp : 0 < y := of_decide_eq_true e
        refine ⟨_, rfl, _, rfl, _, rfl, x, y, rfl, rfl, hyp, _, _, rfl, ⟨y, x % y, rfl, hy, Int.emod_nonneg _ (by omega), (gcd_step x y hyp hx).trans hgc, rfl⟩, ?_⟩
        show (x % y).toNat < y.toNat
        have := Int.emod_lt_of_pos x hyp
        omega
      · have hy0 : y = 0 := by
          have : ¬ 0 < y := fun z => e (decide_eq_true z)
          omega
        subst hy0
        rw [Int.natAbs_zero, Nat.gcd_zero_right] at hgc
        have ex : x = ((Nat.gcd n.natAbs d.natAbs : Nat) : Int) := by omega
        subst ex
        have hgz : ((Nat.gcd n.natAbs d.natAbs : Nat) : Int) ≠ 0 := by
          have := gcd_pos (n := n) hd
          omega
        have hlg := (gcd_mid (n := n) hd hd2).log
        refine ⟨_, rfl, _, _, rfl, rfl, _, rfl, ite2 (fun e => ?_) (fun e => ?_)⟩
        · have e' : d < 0 := of_decide_eq_true e
          have hm : ∀ i, CDivN i (-((Nat.gcd n.natAbs d.natAbs : Nat) : Int)) := fun i => ⟨by omega, by rw [Int.natAbs_neg]; exact hlg⟩
          refine ⟨_, rfl, _, rfl, _, rfl, _, rfl, n, _, rfl, rfl, hm n, _, rfl, _, rfl, d, _, rfl, rfl, hm d, (by show 2 ≤ sizeLine; decide), fun p hp => ?_⟩
          refine q _ p (same_new hp) ?_
          rw [← low_fdiv_neg (n := n) e']
          exact upd_same
        · have e' : 0 < d := by
            have : ¬ d < 0 := fun z => e (decide_eq_true z)
            omega
          have hm : ∀ i, CDivN i ((Nat.gcd n.natAbs d.natAbs : Nat) : Int) := fun i => ⟨hgz, hlg⟩
          refine ⟨_, rfl, _, rfl, n, _, rfl, rfl, hm n, _, rfl, _, rfl, d, _, rfl, rfl, hm d, (by show 2 ≤ sizeLine; decide), fun p hp => ?_⟩
          refine q _ p (same_new hp) ?_
          rw [← low_fdiv_pos (n := n) e']
          exact upd_same
    · rintro σ H1 Q1 Q2 hq ⟨u, hu, i, j, h1, h2, k, h3, h4⟩
      exact ⟨u, hu, i, j, h1, h2, k, h3, hq _ _ h4⟩

end
end Lf

set_option Elab.async false
set_option linter.all false
set_option maxRecDepth 100000
set_option maxHeartbeats 4000000
set_option exponentiation.threshold 3000
namespace Lf
open PySem PySem.Spec PyProof.Rows L2
theorem op_notInK {X : Cx} {K : PySem.W.Frag} (h : X.A.units + 65 < cLine) (hK : X.K = K := by rfl) : OpR X (compareOp .NotIn) (rNotInD K) := by
  subst hK
  exact op_notInD h
def AllL (z : Str) : Prop := ∀ c ∈ z.cps.toList, inL c = true
theorem al_app {x y : Str} (h : AllL x) (k : AllL y) : AllL (x ++ y) := by
  intro c hc
  have e : (x ++ y).cps.toList = x.cps.toList ++ y.cps.toList := by
    rw [show (x ++ y).cps = x.cps ++ y.cps from rfl, Array.toList_append]
  rw [e] at hc
  rcases List.mem_append.mp hc with q | q
  · exact h c q
  · exact k c q
theorem nm_join : ∀ ys : List Str, (∀ y ∈ ys, y.length = 1 ∧ AllL y) → ys ≠ [] → (Str.join (Str.ofString "") ys).length = ys.length ∧ AllL (Str.join (Str.ofString "") ys)
  | [], _, h => absurd rfl h
  | [x], h, _ => h x List.mem_cons_self
  | x :: y :: r, h, _ => by
    obtain ⟨l, a⟩ := nm_join (y :: r) (fun z hz => h z (List.mem_cons_of_mem _ hz)) (by simp)
    obtain ⟨l1, a1⟩ := h x List.mem_cons_self
    have e : Str.join (Str.ofString "") (x :: y :: r) = x ++ Str.ofString "" ++ Str.join (Str.ofString "") (y :: r) := rfl
    have e0 : AllL (Str.ofString "") := fun c hc => by
      have : (Str.ofString "").cps.toList = [] := by decide +kernel
      rw [this] at hc
      cases hc
    rw [e]
    refine ⟨?_, al_app (al_app a1 e0) a⟩
    rw [PySem.Str.length_append, PySem.Str.length_append, l1, l, show (Str.ofString "").length = 0 by decide +kernel, List.length_cons (a := x)]
    omega
theorem pot_same {H H' : Hp} {q : Addr} (h : Pot H q) (s : Same H H') : Pot H' q := by
  obtain ⟨x, y, a, b, e⟩ := h
  exact ⟨x, y, a, b, s _ _ e⟩
theorem inL_lt {c : Nat} (h : inL c = true) : c < 0x110000 := by
  have hc : c ∈ lets.cps.toList := of_decide_eq_true h
  have all : ∀ x ∈ lets.cps.toList, x < 0x110000 := by decide +kernel
  exact all c hc
theorem al_cut {z : Str} (lo hi : Option Int) (h : AllL z) : AllL (cutS z lo hi) := fun c hc => h c (List.mem_of_mem_drop (List.mem_of_mem_take (show c ∈ ((z.cps.toList.drop _).take _) by simpa [cutS] using hc)))
theorem al_shaped {z : Str} (h : AllL z) : SeqAt.shaped (.str z) = true := by
  unfold SeqAt.shaped
  rw [Bool.and_eq_true]
  refine ⟨?_, decide_eq_true ?_⟩
  · simp only [PyData.canLay0, PyData.strOk]
    simp
    intro c hc
    exact inL_lt (h _ (by simp))
  · simp only [PyData.depth]
    omega
theorem sq_but {K : PySem.W.Frag} {H H' : Hp} {q t : Addr} {xs : List V} (b : But q H H') (n : t ≠ q) (h : SqL K H t xs) : SqL K H' t xs := by
  rcases h with (h | ⟨o, h⟩) | h
  · exact .inl (.inl (b _ _ n h))
  · exact .inl (.inr ⟨o, b _ _ n h⟩)
  · exact .inr h
theorem ones_sum : ∀ ys : List Str, (∀ y ∈ ys, y.length = 1 ∧ AllL y) → (ys.map (·.length)).sum = ys.length
  | [], _ => rfl
  | y :: r, h => by
    rw [List.map_cons, List.sum_cons, (h y List.mem_cons_self).1, ones_sum r fun z hz => h z (List.mem_cons_of_mem _ hz), List.length_cons]
    omega
/-- the letter at a place -/
def letC (i : Nat) : Nat := ((Str.ofString "abcdefghijklmnopqrstuvwxyz").cps[i]?).getD 0
/-- the i-th of the other names that are tried -/
def cand (z : Str) (i : Nat) : Str := cutS z none (some 8) ++ ⟨#[letC i]⟩ ++ Str.ofString "q"
theorem cand_inj {z : Str} {i j : Nat} (hi : i < 26) (hj : j < 26) (e : cand z i = cand z j) : i = j := by
  have e2 := congrArg (fun x : Str => x.cps.toList) e
  have tl : ∀ k, (cand z k).cps.toList = (cutS z none (some 8)).cps.toList ++ [letC k] ++ (Str.ofString "q").cps.toList := fun k => by
    unfold cand
    rw [show ∀ x y : Str, (x ++ y).cps = x.cps ++ y.cps from fun _ _ => rfl, Array.toList_append, show ∀ x y : Str, (x ++ y).cps = x.cps ++ y.cps from fun _ _ => rfl, Array.toList_append]
  simp only [tl] at e2
  have e3 := List.append_cancel_left (List.append_cancel_right e2)
  have e4 : letC i = letC j := (List.cons.inj e3).1
  have all : ∀ a < 26, ∀ b < 26, letC a = letC b → a = b := by decide +kernel
  exact all i hi j hj e4
theorem nodup_le {α : Type} [DecidableEq α] : ∀ (l m : List α), l.Nodup → (∀ x ∈ l, x ∈ m) → l.length ≤ m.length
  | [], _, _, _ => Nat.zero_le _
  | x :: l, m, hn, h => by
    have hx := h x List.mem_cons_self
    have r := nodup_le l (m.erase x) (List.nodup_cons.mp hn).2 fun y hy => by
      have ny : y ≠ x := fun z => (List.nodup_cons.mp hn).1 (by rw [← z]; exact hy)
      exact (List.mem_erase_of_ne ny).mpr (h y (List.mem_cons_of_mem _ hy))
    rw [List.length_erase_of_mem hx] at r
    have : 0 < m.length := List.length_pos_of_mem hx
    rw [List.length_cons]
    omega
/-- one of the names that are tried is not taken -/
theorem one_free {z : Str} {ts : List Str} (h : ts.length ≤ 25) : ∃ i, i < 26 ∧ cand z i ∉ ts := by
  apply Classical.byContradiction
  intro no
  have all : ∀ i, i < 26 → cand z i ∈ ts := fun i hi => Classical.byContradiction fun q => no ⟨i, hi, q⟩
  have nd : ((List.range 26).map (cand z)).Nodup := by
    refine List.Pairwise.map _ ?_ (List.Pairwise.and_mem.mp (List.nodup_range (n := 26)))
    rintro a b ⟨ha, hb, hab⟩ e
    exact hab (cand_inj (List.mem_range.mp ha) (List.mem_range.mp hb) e)
  have := nodup_le _ ts nd fun x hx => by
    obtain ⟨i, hi, rfl⟩ := List.mem_map.mp hx
    exact all i (List.mem_range.mp hi)
  rw [List.length_map, List.length_range] at this
  omega
theorem strs_dp {K : PySem.W.Frag} {H : Hp} : ∀ ts : List Str, DpAll K H (ts.map V.str) (ts.map PyData.str)
  | [] => .nil
  | t :: ts => .cons (.str t) (strs_dp ts)
theorem strs_shaped {ts : List Str} (h : ∀ t ∈ ts, AllL t) : SeqAt.shaped (.list (ts.map PyData.str)) = true := by
  have key : ∀ ts : List Str, (∀ t ∈ ts, AllL t) → PyData.canLayAll0 (ts.map PyData.str) = true ∧ PyData.depthAll (ts.map PyData.str) = 0 := by
    intro ts
    induction ts with
    | nil => exact fun _ => ⟨by simp only [List.map_nil, PyData.canLayAll0], by simp only [List.map_nil, PyData.depthAll]⟩
    | cons t ts ih =>
      intro h
      obtain ⟨i1, i2⟩ := ih fun x hx => h x (List.mem_cons_of_mem _ hx)
      have a := SeqAt.canLay_of_shaped (al_shaped (h t List.mem_cons_self))
      exact ⟨by simp only [List.map_cons, PyData.canLayAll0, i1, a, Bool.and_self], by simp only [List.map_cons, PyData.depthAll, PyData.depth, i2, Nat.max_self]⟩
  obtain ⟨i1, i2⟩ := key ts h
  unfold SeqAt.shaped
  rw [Bool.and_eq_true]
  refine ⟨by simp only [PyData.canLay0]; exact i1, decide_eq_true ?_⟩
  simp only [PyData.depth, i2]
  omega
theorem strs_any (y : Str) : ∀ ts : List Str, ((ts.map PyData.str).any fun d => PyData.eqv d (.str y)) = decide (y ∈ ts)
  | [] => by simp
  | t :: ts => by
    rw [List.map_cons, List.any_cons, strs_any y ts]
    have e : PyData.eqv (.str t) (.str y) = decide (t = y) := by
      simp only [PyData.eqv]
      by_cases h : t = y
      · subst h
        simp
      · simp [h]
    rw [e]
    by_cases h : t = y
    · subst h
      simp
    · have h' : ¬ y = t := fun z => h z.symm
      simp [h, h']
theorem nm_al {z : Str} (h : isNm (.str z) = true) : AllL z ∧ 1 ≤ z.length ∧ z.length ≤ 10 := by
  have h' : (decide (1 ≤ z.length) && decide (z.length ≤ 10) && List.all z.cps.toList inL) = true := h
  rw [Bool.and_eq_true, Bool.and_eq_true] at h'
  exact ⟨fun c hc => List.all_eq_true.mp h'.2 c hc, of_decide_eq_true h'.1.1, of_decide_eq_true h'.1.2⟩
theorem al_nm {z : Str} (h : AllL z) (h1 : 1 ≤ z.length) (h2 : z.length ≤ 10) : isNm (.str z) = true := by
  show (decide (1 ≤ _) && decide (_ ≤ 10) && List.all _ inL) = true
  rw [decide_eq_true h1, decide_eq_true h2, Bool.and_self, Bool.true_and, List.all_eq_true]
  exact h
section
variable {P : Program} {w : World} {K : PySem.W.Frag} {mg : Str → Option Value} {base : Heap}

/-! ### _law_name -/
abbrev s__law_name : Stmt := topS 31
theorem sc__law_name : FnScope ["_law_pot_here", "_law_taken", "_law_letters", "_law_size", "_law_text", "_law_some_here", "_law_k", "_law_one"] ["_law_pot_here", "_law_taken"] (defScope s__law_name) := ⟨rfl, rfl, rfl, by decide +kernel, rfl, by decide +kernel, by decide +kernel⟩
/-- a name: one to ten small letters -/
def sp_name (K : PySem.W.Frag) : Sp := fun vs H Q _ => ∃ (q t : Addr) (ts : List Str), vs = [.ref q, .ref t] ∧ t ≠ q ∧ Pot H q ∧ SqL K H t (ts.map V.str) ∧ ts.length ≤ 25 ∧ (∀ x ∈ ts, AllL x) ∧ ∀ (z : Str) (H' : Hp), isNm (.str z) = true → z.length ≤ 10 → z ∉ ts → Pot H' q → But q H H' → Q (.str z) H'
theorem ok_name {f : Addr} {fd : FuncData} (M : Blt mg) (F : Fun K "_law_name" "_law_name" s__law_name f fd) (C__law_draw : Cal P w K mg base CX0 1 "_law_draw" ["_law_pot_here", "_law_many"] sp_draw) : FnG P w K mg base CX0 2 f fd ["_law_pot_here", "_law_taken"] (sp_name K) := by
  refine Gfun F sc__law_name (fun vs H Q E h => ?_) (fun cdv A outer s H vs Q E hg hr h => ?_)
  · obtain ⟨q, t, ts, rfl, _⟩ := h
    rfl
  · obtain ⟨q, t, ts, rfl, ntq, hP, ht, h25, hts, k⟩ := h
    refine ⟨_, (pss_cons (ps_set (i := 2) sc__law_name.nd rfl (.inr rfl) pe_str)
      (pss_cons (ps_set (i := 3) sc__law_name.nd rfl (by first | exact .inl rfl | exact .inr rfl) (pe_op op_add pe_int (pe_g C__law_draw (hr.mono (by decide)) hg (pa_cons (pv 0) (pa_cons (pe_ix ix_list (pe_lst (pa_cons pe_int (pa_cons pe_int (pa_cons pe_int pa_nil)))) (pe_g C__law_draw (hr.mono (by decide)) hg (pa_cons (pv 0) (pa_cons pe_int pa_nil))) (fun _ _ => rfl)) pa_nil)))))
      (pss_cons (ps_set (i := 4) sc__law_name.nd rfl (.inr rfl) (pe_bm PySem.F.plainAttrs_str PySem.F.slot_str_join PySem.F.type_str_join mt_join pe_str (pa_cons (pe_lc (own := [("_law_k", 6)]) (g := gName 6) (tt := tYes) rfl sc__law_name.nd (pi_range1 rfl M.range (pa_cons (pv 3) pa_nil)) (blkOk_by (N := ["_law_pot_here", "_law_taken", "_law_letters", "_law_size", "_law_text", "_law_some_here", "_law_k", "_law_one"]) (sc := defScope s__law_name) (by decide +kernel)) (fun _ _ _ _ _ => pg_name (i := 6) sc__law_name.nd rfl (Or.inl rfl)) (fun _ _ _ _ _ => pts_nil) (fun _ _ _ _ _ => (pe_item_str (pv 2) (pe_g C__law_draw (hr.mono (by decide)) hg (pa_cons (pv 0) (pa_cons pe_int pa_nil))) (fun _ _ => rfl)))) pa_nil)))
      (pss_cons (ps_set (i := 5) sc__law_name.nd rfl (by first | exact .inl rfl | exact .inr rfl) (pe_op op_cat (pe_lst (pa_cons (pv 4) pa_nil)) (pe_lc (own := [("_law_k", 6)]) (g := gName 6) (tt := tYes) rfl sc__law_name.nd (pi_range1 rfl M.range (pa_cons pe_int pa_nil)) (blkOk_by (N := ["_law_pot_here", "_law_taken", "_law_letters", "_law_size", "_law_text", "_law_some_here", "_law_k", "_law_one"]) (sc := defScope s__law_name) (by decide +kernel)) (fun _ _ _ _ _ => pg_name (i := 6) sc__law_name.nd rfl (Or.inl rfl)) (fun _ _ _ _ _ => pts_nil) (fun _ _ _ _ _ => (pe_op op_add_str (pe_op op_add_str (pe_slice sl_str (pv 4) po_none (po_some pe_int)) (pe_item_str (pv 2) (pv 6) (fun _ _ => rfl))) pe_str)))))
      (pss_one (ps_ret (pe_ix ix_list (pe_lc (own := [("_law_one", 7)]) (g := gName 7) rfl sc__law_name.nd (pi_list (pv 5)) (blkOk_by (N := ["_law_pot_here", "_law_taken", "_law_letters", "_law_size", "_law_text", "_law_some_here", "_law_k", "_law_one"]) (sc := defScope s__law_name) (by decide +kernel)) (fun _ _ _ _ _ => pg_name (i := 7) sc__law_name.nd rfl (Or.inl rfl)) (fun _ _ _ _ _ => (pts_one (pt_cmpR (op_notInK (K := K) (by exact u65 hr)) (pv 7) (pv 1) rfl))) (fun _ _ _ _ _ => (pv 7))) pe_int (fun _ _ => rfl)))))))), ?_⟩
    refine ⟨_, rfl, by decide, fun p3 hp3 => ⟨_, rfl, q, 3, rfl, by decide, by decide, ?_, fun r1 H1 r10 r11 hP1 b1 => ?_⟩⟩
    · exact pot_same hP (same_new hp3)
    have b01 : But q H H1 := fun b o nb e => b1 _ _ nb (by rw [upd_ne (ne_of_none e hp3)]; exact e)
    have np3 : p3 ≠ q := fun z => by
      obtain ⟨x, y, _, _, e⟩ := hP
      rw [← z, hp3] at e
      cases e
    have e3 : H1 p3 = some (.lst [.int 1, .int 3, .int 10]) := b1 _ _ np3 upd_same
    obtain ⟨m, hm1, hm2, hat⟩ : ∃ m : Int, 1 ≤ m ∧ m ≤ 10 ∧ atI [V.int 1, V.int 3, V.int 10] r1 = some (.int m) := by
      have h3 : r1 = 0 ∨ r1 = 1 ∨ r1 = 2 := by omega
      rcases h3 with rfl | rfl | rfl
      · exact ⟨1, by decide, by decide, rfl⟩
      · exact ⟨3, by decide, by decide, rfl⟩
      · exact ⟨10, by decide, by decide, rfl⟩
    refine ⟨p3, _, r1, _, rfl, rfl, .inl (.inl e3), hat, q, m, rfl, by omega, ?_, hP1, fun r2 H2 r20 r21 hP2 b2 => ?_⟩
    · exact Nat.lt_of_lt_of_le (show m.natAbs < 2 ^ 5 by show m.natAbs < 32; omega) (Nat.pow_le_pow_right (by decide) (by decide))
    have b02 : But q H H2 := fun b o nb e => b2 _ _ nb (b01 _ _ nb e)
    refine ⟨_, _, rfl, rfl, rfl, _, rfl, _, rfl, by omega, by omega, fun D hD => ?_⟩
    have nDq : D ≠ q := fun z => by
      obtain ⟨x, y, _, _, e⟩ := hP2
      rw [← z, hD] at e
      cases e
    have hl26 : (Str.ofString "abcdefghijklmnopqrstuvwxyz").length = 26 := by decide +kernel
    have keepD : ∀ b o, b ≠ q → H b = some o → b ≠ D := fun b o nb eb z => by
      have := b02 _ _ nb eb
      rw [z, hD] at this
      cases this
    refine lc_range (lo := 0) (n := (1 + r2).toNat) (fun i H' => ∃ ys : List Str, H' D = some (.lst (ys.map V.str)) ∧ ys.length = i ∧ (∀ y ∈ ys, y.length = 1 ∧ AllL y) ∧ Pot H' q ∧ But q H H')
      ⟨[], upd_same, rfl, (fun y h => nomatch h), pot_same hP2 (same_new hD), fun b o nb e => by rw [upd_ne (keepD b o nb e)]; exact b02 _ _ nb e⟩ ?_ ?_
    · rintro i H5 hi ⟨ys, eD, hl, hy, hP5, b5⟩
      refine ⟨rfl, _, rfl, _, rfl, q, 26, rfl, by decide, by decide, hP5, fun r6 H6 r60 r61 hP6 b6 => ?_⟩
      have hlt : r6.toNat < (Str.ofString "abcdefghijklmnopqrstuvwxyz").cps.size := by
        show r6.toNat < (Str.ofString "abcdefghijklmnopqrstuvwxyz").length
        omega
      obtain ⟨c6, hgc⟩ : ∃ c6, (Str.ofString "abcdefghijklmnopqrstuvwxyz").cps[r6.toNat]? = some c6 := ⟨_, Array.getElem?_eq_getElem hlt⟩
      refine ⟨_, r6, c6, rfl, rfl, r60, by omega, by omega, hgc, ys.map V.str, b6 _ _ nDq eD, ?_, ys ++ [⟨#[c6]⟩], ?_, ?_, ?_, ?_, ?_⟩
      · rw [List.length_map, sizeLine_eq]
        omega
      · rw [upd_same, List.map_append]
        rfl
      · rw [List.length_append, hl]
        rfl
      · intro y h
        rcases List.mem_append.mp h with z | z
        · exact hy y z
        · rw [List.mem_singleton.mp z]
          refine ⟨rfl, fun c hc => ?_⟩
          have : c = c6 := by simpa using hc
          rw [this]
          exact decide_eq_true (List.mem_of_getElem? (by rw [Array.getElem?_toList]; exact hgc))
      · obtain ⟨x, y, y0, y1, eP⟩ := hP6
        refine ⟨x, y, y0, y1, ?_⟩
        rw [upd_ne nDq.symm]
        exact eP
      · intro b o nb eb
        rw [upd_ne (keepD b o nb eb)]
        exact b6 _ _ nb (b5 _ _ nb eb)
    rintro H5 ⟨ys, eD, hl, hy, hP5, b5⟩
    have ne : ys ≠ [] := fun z => by
      rw [z] at hl
      have : (0 : Nat) = (1 + r2).toNat := hl
      omega
    obtain ⟨jl, ja⟩ := nm_join ys hy ne
    rw [← StrLaws.glued_eq_join] at jl ja
    have jl' : (Txt.join (Str.ofString "") ys).length = (1 + r2).toNat := jl.trans hl
    refine ⟨_, D, ys, rfl, rfl, .inl (.inl (.inl eD)), ?_, ?_⟩
    · rw [ones_sum ys hy, show (Str.ofString "").length = 0 by decide +kernel, Nat.mul_zero]
      omega
    have hnm : isNm (.str (Txt.join (Str.ofString "") ys)) = true := by
      show (decide (1 ≤ _) && decide (_ ≤ 10) && List.all _ inL) = true
      rw [decide_eq_true (by omega), decide_eq_true (by omega), Bool.and_self, Bool.true_and, List.all_eq_true]
      exact ja
    have hle : (Txt.join (Str.ofString "") ys).length ≤ 10 := by omega
    have hal : AllL (Txt.join (Str.ofString "") ys) := ja
    generalize Txt.join (Str.ofString "") ys = z at hnm hle hal ⊢
    refine ⟨_, rfl, by show 1 ≤ sizeLine; decide, fun l1 hl1 => ⟨_, rfl, by decide, by decide, fun D2 hD2 => ?_⟩⟩
    have s56 : Same H5 (upd H5 l1 (.lst [.str z])) := same_new hl1
    have e6 : upd H5 l1 (.lst [.str z]) l1 = some (.lst [.str z]) := upd_same
    generalize upd H5 l1 (.lst [.str z]) = H6 at s56 e6 hD2 ⊢
    refine lc_range (lo := 0) (n := 26) (fun i H' => ∃ zs : List Str, H' D2 = some (.lst (zs.map V.str)) ∧ zs.length = i ∧ zs = (List.range i).map (cand z) ∧ (∀ y ∈ zs, AllL y ∧ 1 ≤ y.length ∧ y.length ≤ 10) ∧ Same H6 H') ⟨[], upd_same, rfl, rfl, (fun y h => nomatch h), same_new hD2⟩ ?_ ?_
    · rintro i H7 hi ⟨zs, eD2, hl2, hz2, hy2, s67⟩
      have hlt : i < (Str.ofString "abcdefghijklmnopqrstuvwxyz").cps.size := by
        show i < (Str.ofString "abcdefghijklmnopqrstuvwxyz").length
        omega
      obtain ⟨c7, hgc⟩ : ∃ c7, (Str.ofString "abcdefghijklmnopqrstuvwxyz").cps[i]? = some c7 := ⟨_, Array.getElem?_eq_getElem hlt⟩
      have c1 := cutS_length z none (some 8)
      have l1' : (⟨#[c7]⟩ : Str).length = 1 := rfl
      have lq : (Str.ofString "q").length = 1 := by decide +kernel
      have zl := sizeLine_eq
      have ea : ((0 : Int) + (i : Int)).toNat = i := by omega
      refine ⟨rfl, _, rfl, 8, rfl, _, rfl, by omega, _, rfl, _, rfl, _, _, c7, rfl, rfl, by omega, by omega, by omega, by rw [ea]; exact hgc, _, _, rfl, rfl, by omega, _, _, rfl, rfl, ?_, zs.map V.str, eD2, ?_, zs ++ [cutS z none (some 8) ++ ⟨#[c7]⟩ ++ Str.ofString "q"], ?_, ?_, ?_, ?_, ?_⟩
      · rw [PySem.Str.length_append]
        omega
      · rw [List.length_map]
        omega
      · rw [upd_same, List.map_append]
        rfl
      · rw [List.length_append, hl2]
        rfl
      · rw [List.range_succ, List.map_append, ← hz2]
        have e7 : letC i = c7 := by
          unfold letC
          rw [hgc]
          rfl
        show zs ++ [_] = zs ++ [cand z i]
        unfold cand
        rw [e7]
      · intro y h
        rcases List.mem_append.mp h with zz | zz
        · exact hy2 y zz
        · rw [List.mem_singleton.mp zz]
          have c8 : (cutS z none (some 8)).length ≤ 8 := by
            have hh : HT.sIx z.length z.length (some 8) ≤ 8 := by
              unfold HT.sIx
              simp
              omega
            have h0 : HT.sIx z.length 0 none = 0 := by simp [HT.sIx]
            show ((z.cps.toList.drop _).take _).toArray.size ≤ 8
            simp
            omega
          refine ⟨?_, by rw [PySem.Str.length_append, PySem.Str.length_append]; omega, by rw [PySem.Str.length_append, PySem.Str.length_append]; omega⟩
          refine al_app (al_app (al_cut _ _ hal) fun c hc => ?_) fun c hc => ?_
          · have : c = c7 := by simpa using hc
            rw [this]
            exact decide_eq_true (List.mem_of_getElem? (by rw [Array.getElem?_toList]; exact hgc))
          · have : (Str.ofString "q").cps.toList = [113] := by decide +kernel
            rw [this] at hc
            rw [List.mem_singleton.mp hc]
            decide +kernel
      · intro b o e
        rw [upd_ne (ne_of_none e hD2)]
        exact s67 _ _ e
    rintro H7 ⟨zs, eD2, hl2, hz2, hy2, s67⟩
    refine ⟨l1, D2, [.str z], zs.map V.str, rfl, rfl, s67 _ _ e6, eD2, by rw [List.length_map, hl2, sizeLine_eq]; show 1 + 26 ≤ 16777216; decide, fun l2 hl2' => ?_⟩
    have s78 : Same H7 (upd H7 l2 (.lst ([.str z] ++ zs.map V.str))) := same_new hl2'
    have e8 : upd H7 l2 (.lst ([.str z] ++ zs.map V.str)) l2 = some (.lst ((z :: zs).map V.str)) := upd_same
    generalize upd H7 l2 (.lst ([.str z] ++ zs.map V.str)) = H8 at s78 e8 ⊢
    have s58 := (s56.trans s67).trans s78
    refine ⟨_, rfl, l2, rfl, ⟨_, .inl (.inl e8)⟩, fun D3 hD3 => ?_⟩
    have nD3 : ∀ b o, H8 b = some o → b ≠ D3 := fun b o e => ne_of_none e hD3
    refine lc_list (xs := (z :: zs).map V.str) (fun i H' => Same H8 H' ∧ H' D3 = some (.lst ((((z :: zs).take i).filter fun y => !decide (y ∈ ts)).map V.str))) ⟨same_new hD3, upd_same⟩ (fun i H' _ h => .inl (.inl (h.1 _ _ e8))) ?_ ?_
    · rintro i y H9 hy9 ⟨s89, e9⟩
      rw [List.getElem?_map] at hy9
      obtain ⟨y', hy', rfl⟩ : ∃ y', (z :: zs)[i]? = some y' ∧ y = .str y' := by
        cases h : (z :: zs)[i]? with
        | none => rw [h] at hy9; cases hy9
        | some y' => rw [h] at hy9; exact ⟨y', rfl, (Option.some.inj hy9).symm⟩
      have aly : AllL y' := by
        rcases List.mem_cons.mp (List.mem_of_getElem? hy') with rfl | h
        · exact hal
        · exact (hy2 y' h).1
      have ht9 : SqL K H9 t (ts.map V.str) := sm_l (s58.trans s89) (sq_but b5 ntq ht)
      have hi : i < (z :: zs).length := (List.getElem?_eq_some_iff.mp hy').1
      rw [List.length_cons, hl2] at hi
      refine ⟨rfl, _, rfl, _, rfl, .str y', ts.map PyData.str, .str _, .lst ht9 (strs_dp ts), al_shaped aly, strs_shaped hts, _, rfl, ?_⟩
      rw [strs_any]
      refine ite2 (fun c => ?_) (fun c => ?_)
      · refine ⟨_, rfl, _, e9, ?_, fun b o e => ?_, ?_⟩
        · have := List.length_filter_le (fun y => !decide (y ∈ ts)) ((z :: zs).take i)
          rw [List.length_take] at this
          rw [List.length_map, sizeLine_eq]
          omega
        · rw [upd_ne (nD3 b o e)]
          exact s89 _ _ e
        · rw [upd_same, List.take_succ, hy', Option.toList_some, List.filter_append, List.filter_cons, c, if_pos rfl, List.map_append]
          rfl
      · refine ⟨s89, ?_⟩
        rw [e9, List.take_succ, hy', Option.toList_some, List.filter_append, List.filter_cons, if_neg c, List.filter_nil, List.append_nil]
    · rintro H9 ⟨s89, e9⟩
      rw [List.length_map, List.take_length] at e9
      have hb9 : But q H H9 := fun b o nb e => (s58.trans s89) _ _ (b5 _ _ nb e)
      obtain ⟨y, hy, hyt⟩ : ∃ y ∈ z :: zs, y ∉ ts := by
        obtain ⟨i, hi, hn⟩ := one_free (z := z) h25
        exact ⟨cand z i, List.mem_cons_of_mem _ (by rw [hz2]; exact List.mem_map_of_mem (List.mem_range.mpr hi)), hn⟩
      have hm : y ∈ (z :: zs).filter fun y => !decide (y ∈ ts) := List.mem_filter.mpr ⟨hy, by simp [hyt]⟩
      cases hf : (z :: zs).filter fun y => !decide (y ∈ ts) with
      | nil => rw [hf] at hm; cases hm
      | cons x r =>
        rw [hf] at e9
        have hx : x ∈ (z :: zs).filter fun y => !decide (y ∈ ts) := by rw [hf]; exact List.mem_cons_self
        obtain ⟨hx1, hx2⟩ := List.mem_filter.mp hx
        have hxt : x ∉ ts := by simpa using hx2
        have hxn : isNm (.str x) = true ∧ x.length ≤ 10 := by
          rcases List.mem_cons.mp hx1 with rfl | h
          · exact ⟨hnm, hle⟩
          · obtain ⟨a1, a2, a3⟩ := hy2 x h
            exact ⟨al_nm a1 a2 a3, a3⟩
        exact ⟨D3, _, 0, _, rfl, rfl, .inl (.inl e9), atI_nat (j := 0) rfl, k x H9 hxn.1 hxn.2 hxt (pot_same hP5 (s58.trans s89)) hb9⟩
end
end Lf

set_option Elab.async false
set_option linter.all false
set_option maxRecDepth 100000
set_option maxHeartbeats 4000000
set_option exponentiation.threshold 3000
namespace Lf
open PySem PySem.Spec PyProof.Rows L2
/-- a fraction from 0 on, told in a tuple -/
structure Fr0 (f : Int × Int) : Prop where
  lo : IsF f
  nn : 0 ≤ f.1
  bt : Bt 41 f
theorem fr0_low {n d : Int} (hn : 0 ≤ n) (hd : 0 < d) (bn : n < 2 ^ 41) (bd : d < 2 ^ 41) : Fr0 (low n d) := by
  refine ⟨low_f (by omega), ?_, low_bt (by omega) (by omega) (by omega)⟩
  have c := low_cross (n := n) (d := d) (by omega)
  have h2 : 0 < (low n d).2 := (low_f (n := n) (d := d) (by omega)).1
  have h3 : 0 ≤ n * (low n d).2 := Int.mul_nonneg hn (by omega)
  rw [← c] at h3
  rcases Int.lt_or_le (low n d).1 0 with h | h
  · exact absurd h3 (by have := Int.mul_neg_of_neg_of_pos h hd; omega)
  · exact h
theorem cross_add {x y : Int × Int} {f w b : Int} (hx : IsF x) (hy : IsF y) (e1 : x.1 * b = f * x.2) (e2 : y.1 * b = w * y.2) : (fadd x y).1 * b = (f + w) * (fadd x y).2 := by
  have hne : x.2 * y.2 ≠ 0 := Int.mul_ne_zero hx.ne hy.ne
  have c : (fadd x y).1 * (x.2 * y.2) = (x.1 * y.2 + y.1 * x.2) * (fadd x y).2 := low_cross hne
  apply Int.eq_of_mul_eq_mul_right hne
  generalize (fadd x y).1 = F1 at c ⊢
  generalize (fadd x y).2 = F2 at c ⊢
  obtain ⟨x1, x2⟩ := x
  obtain ⟨y1, y2⟩ := y
  simp only at *
  calc F1 * b * (x2 * y2) = (F1 * (x2 * y2)) * b := by grind
    _ = ((x1 * y2 + y1 * x2) * F2) * b := by rw [c]
    _ = (x1 * b * y2 + y1 * b * x2) * F2 := by grind
    _ = (f * x2 * y2 + w * y2 * x2) * F2 := by rw [e1, e2]
    _ = (f + w) * F2 * (x2 * y2) := by grind
theorem too_low {f w s b : Int} (hf : 0 ≤ f) (hw : 0 ≤ w) (hs : 0 ≤ s) (h : f + w + s ≤ b) (hb : 0 < b) : tooM (low f b) (low w b) (low s b) = false := by
  have nb : b ≠ 0 := by omega
  have c1 := cross_add (low_f (n := f) nb) (low_f (n := w) nb) (low_cross nb) (low_cross nb)
  have f1 := fadd_f (low_f (n := f) nb) (low_f (n := w) nb)
  have c2 := cross_add f1 (low_f (n := s) nb) c1 (low_cross nb)
  have f2 := fadd_f f1 (low_f (n := s) nb)
  unfold tooM
  generalize fadd (fadd (low f b) (low w b)) (low s b) = g at c2 f2 ⊢
  refine decide_eq_false fun z => ?_
  have p2 : 0 < g.2 := f2.1
  have l1 : (f + w + s) * g.2 ≤ b * g.2 := Int.mul_le_mul_of_nonneg_right h (by omega)
  rw [← c2, Int.mul_comm b g.2] at l1
  have := Int.le_of_mul_le_mul_right l1 hb
  omega
section
variable {P : Program} {w : World} {K : PySem.W.Frag} {mg : Str → Option Value} {base : Heap}

/-! ### _law_some -/
abbrev s__law_some : Stmt := topS 32
theorem sc__law_some : FnScope ["_law_pot_here", "_law_least", "_law_most"] ["_law_pot_here", "_law_least", "_law_most"] (defScope s__law_some) := ⟨rfl, rfl, rfl, by decide +kernel, rfl, by decide +kernel, by decide +kernel⟩
def Gives (H : Hp) (q : Addr) (Q : VK) : Prop := ∀ (p : Addr) (f : Int × Int) (H' : Hp), Fr0 f → H' p = some (.tup [.int f.1, .int f.2]) → Pot H' q → But q H H' → Q (.ref p) H'
def sp_some : Sp := fun vs H Q _ => ∃ q : Addr, vs = [.ref q, .int 0, .int 50] ∧ Pot H q ∧ Gives H q Q
theorem ok_some {f : Addr} {fd : FuncData} (F : Fun K "_law_some" "_law_some" s__law_some f fd) (C__law_draw : Cal P w K mg base CX0 1 "_law_draw" ["_law_pot_here", "_law_many"] sp_draw) (C__law_low : Cal P w K mg base CX0 1 "_law_low" ["_law_top", "_law_bottom"] sp_low) : FnG P w K mg base CX0 2 f fd ["_law_pot_here", "_law_least", "_law_most"] sp_some := by
  refine Gfun F sc__law_some (fun vs H Q E h => ?_) (fun cdv A outer s H vs Q E hg hr h => ?_)
  · obtain ⟨q, rfl, _⟩ := h
    rfl
  · obtain ⟨q, rfl, hP, k⟩ := h
    refine ⟨_, (pss_cons (ps_if (pt_cmpR op_eq (pe_g C__law_draw (hr.mono (by decide)) hg (pa_cons (pv 0) (pa_cons pe_int pa_nil))) pe_int (nomark _))
      (pss_one (ps_ret (pe_g C__law_low (hr.mono (by decide)) hg (pa_cons (pe_op op_add (pv 1) (pe_g C__law_draw (hr.mono (by decide)) hg (pa_cons (pv 0) (pa_cons (pe_op op_sub (pe_op op_pow pe_int pe_int) pe_int) pa_nil)))) (pa_cons (pe_op op_add pe_int (pe_g C__law_draw (hr.mono (by decide)) hg (pa_cons (pv 0) (pa_cons (pe_op op_sub (pe_op op_pow pe_int pe_int) pe_int) pa_nil)))) pa_nil)))))
      pss_nil)
      (pss_one (ps_ret (pe_g C__law_low (hr.mono (by decide)) hg (pa_cons (pe_op op_add (pv 1) (pe_g C__law_draw (hr.mono (by decide)) hg (pa_cons (pv 0) (pa_cons (pv 2) pa_nil)))) (pa_cons (pe_op op_add pe_int (pe_g C__law_draw (hr.mono (by decide)) hg (pa_cons (pv 0) (pa_cons pe_int pa_nil)))) pa_nil)))))), ?_⟩
    have mid : ∀ n : Int, 0 ≤ n → n < 2 ^ 41 → Mid n := fun n h0 h1 => Nat.lt_of_lt_of_le (show n.natAbs < 2 ^ 41 by omega) (Nat.pow_le_pow_right (by decide) (by decide))
    refine ⟨_, rfl, q, 3, rfl, by decide, by decide, hP, fun r1 H1 r10 r11 hP1 b1 => ⟨rfl, _, rfl, ite2 (fun e => ?_) (fun e => ?_)⟩⟩
    · refine ⟨_, rfl, _, rfl, _, _, rfl, rfl, ⟨by decide, by decide, by decide⟩, _, _, rfl, rfl, q, _, rfl, by decide, by decide, hP1, fun r2 H2 r20 r21 hP2 b2 => ?_⟩
      have r21' : r2 < 10 ^ 12 - 1 := r21
      refine ⟨_, _, rfl, rfl, _, rfl, _, _, rfl, rfl, ⟨by decide, by decide, by decide⟩, _, _, rfl, rfl, q, _, rfl, by decide, by decide, hP2, fun r3 H3 r30 r31 hP3 b3 => ?_⟩
      have r31' : r3 < 10 ^ 12 - 1 := r31
      refine ⟨_, _, rfl, rfl, _, _, rfl, by omega, mid _ (by omega) (by omega), fun H4 p4 s4 e4 => ?_⟩
      exact k p4 _ H4 (fr0_low (by omega) (by omega) (by omega) (by omega)) e4 (pot_same hP3 s4) (((b1.trans b2).trans b3).same s4)
    · refine ⟨_, rfl, _, rfl, _, rfl, q, 50, rfl, by decide, by decide, hP1, fun r2 H2 r20 r21 hP2 b2 => ?_⟩
      refine ⟨_, _, rfl, rfl, _, rfl, q, 9, rfl, by decide, by decide, hP2, fun r3 H3 r30 r31 hP3 b3 => ?_⟩
      refine ⟨_, _, rfl, rfl, _, _, rfl, by omega, mid _ (by omega) (by omega), fun H4 p4 s4 e4 => ?_⟩
      exact k p4 _ H4 (fr0_low (by omega) (by omega) (by omega) (by omega)) e4 (pot_same hP3 s4) (((b1.trans b2).trans b3).same s4)
end
end Lf

set_option Elab.async false
set_option linter.all false
set_option maxRecDepth 100000
set_option maxHeartbeats 4000000
set_option exponentiation.threshold 3000
namespace Lf
open PySem PySem.Spec PyProof.Rows L2
section
variable {P : Program} {w : World} {K : PySem.W.Frag} {mg : Str → Option Value} {base : Heap}

/-! ### _law_stuff -/
abbrev s__law_stuff : Stmt := topS 33
theorem sc__law_stuff : FnScope ["_law_pot_here", "_law_text", "_law_kind", "_law_bottom", "_law_first", "_law_second", "_law_third", "_law_three", "_law_fourth", "_law_one"] ["_law_pot_here", "_law_text"] (defScope s__law_stuff) := ⟨rfl, rfl, rfl, by decide +kernel, rfl, by decide +kernel, by decide +kernel⟩
/-- a row of a stuff: a name and five fractions -/
structure StRow (K : PySem.W.Frag) (H : Hp) (p : Addr) (z : Str) (gs : List (Int × Int)) : Prop where
  ex : ∃ as : List Addr, H p = some (.tup (.str z :: as.map V.ref)) ∧ as.length = 5 ∧ gs.length = 5 ∧ ∀ (i : Nat) (a : Addr) (g : Int × Int), as[i]? = some a → gs[i]? = some g → SqT K H a [.int g.1, .int g.2]
  fr : ∀ g ∈ gs, Fr0 g
  ok : tooM (gs.getD 0 (0, 1)) (gs.getD 1 (0, 1)) (gs.getD 2 (0, 1)) = false
def sp_stuff (K : PySem.W.Frag) : Sp := fun vs H Q _ => ∃ (q : Addr) (z : Str), vs = [.ref q, .str z] ∧ Pot H q ∧ ∀ p gs H', StRow K H' p z gs → Pot H' q → But q H H' → Q (.ref p) H'
theorem ok_stuff {f : Addr} {fd : FuncData} (M : Blt mg) (Mx : Bltx mg) (F : Fun K "_law_stuff" "_law_stuff" s__law_stuff f fd) (C__law_draw : Cal P w K mg base CX0 1 "_law_draw" ["_law_pot_here", "_law_many"] sp_draw) (C__law_low : Cal P w K mg base CX0 1 "_law_low" ["_law_top", "_law_bottom"] sp_low) (C__law_some : Cal P w K mg base CX0 2 "_law_some" ["_law_pot_here", "_law_least", "_law_most"] sp_some) : FnG P w K mg base CX0 3 f fd ["_law_pot_here", "_law_text"] (sp_stuff K) := by
  refine Gfun F sc__law_stuff (fun vs H Q E h => ?_) (fun cdv A outer s H vs Q E hg hr h => ?_)
  · obtain ⟨q, z, rfl, _⟩ := h
    rfl
  · obtain ⟨q, z, rfl, hP, k⟩ := h
    refine ⟨_, (pss_cons (ps_set (i := 2) sc__law_stuff.nd rfl (by first | exact .inl rfl | exact .inr rfl) (pe_g C__law_draw (hr.mono (by decide)) hg (pa_cons (pv 0) (pa_cons pe_int pa_nil))))
      (pss_cons (ps_set (i := 3) sc__law_stuff.nd rfl (.inr rfl) (pe_op op_add pe_int (pe_g C__law_draw (hr.mono (by decide)) hg (pa_cons (pv 0) (pa_cons pe_int pa_nil)))))
      (pss_cons (ps_set (i := 4) sc__law_stuff.nd rfl (by first | exact .inl rfl | exact .inr rfl) (pe_g C__law_draw (hr.mono (by decide)) hg (pa_cons (pv 0) (pa_cons (pe_op op_add (pv 3) pe_int) pa_nil))))
      (pss_cons (ps_set (i := 5) sc__law_stuff.nd rfl (by first | exact .inl rfl | exact .inr rfl) (pe_g C__law_draw (hr.mono (by decide)) hg (pa_cons (pv 0) (pa_cons (pe_op op_sub (pe_op op_add (pv 3) pe_int) (pv 4)) pa_nil))))
      (pss_cons (ps_set (i := 6) sc__law_stuff.nd rfl (by first | exact .inl rfl | exact .inr rfl) (pe_g C__law_draw (hr.mono (by decide)) hg (pa_cons (pv 0) (pa_cons (pe_op op_sub (pe_op op_sub (pe_op op_add (pv 3) pe_int) (pv 4)) (pv 5)) pa_nil))))
      (pss_cons (ps_setLc (i := 7) (own := [("_law_one", 9)]) (g := gName 9) (tt := tYes) rfl sc__law_stuff.nd rfl rfl (sw_true rfl rfl rfl (by decide +kernel)) (pi_tup (pe_tup (pa_cons (pv 4) (pa_cons (pv 5) (pa_cons (pv 6) pa_nil))))) (blkOk_by (N := ["_law_pot_here", "_law_text", "_law_kind", "_law_bottom", "_law_first", "_law_second", "_law_third", "_law_three", "_law_fourth", "_law_one"]) (sc := defScope s__law_stuff) (by decide +kernel)) (fun _ _ _ _ _ => pg_name (i := 9) sc__law_stuff.nd rfl (Or.inl rfl)) (fun _ _ _ _ _ => pts_nil) (fun _ _ _ _ _ => (pe_g C__law_low (hr.mono (by decide)) hg (pa_cons (pv 9) (pa_cons (pv 3) pa_nil)))))
      (pss_mid (ps_if (pt_cmpR op_lt (pv 2) pe_int (nomark _))
      (pss_one (ps_set (i := 7) sc__law_stuff.nd rfl (by first | exact .inl rfl | exact .inr rfl) (pe_lst (pa_cons (pe_tup (pa_cons (pe_callTy call_int1 rfl M.int bt_int (pa_cons (pe_cmpR op_in_seq (pv 2) (pe_tup (pa_cons pe_int (pa_cons pe_int pa_nil))) rfl) pa_nil)) (pa_cons pe_int pa_nil))) (pa_cons (pe_tup (pa_cons (pe_callTy call_int1 rfl M.int bt_int (pa_cons (pe_cmpR op_eq (pv 2) pe_int (nomark _)) pa_nil)) (pa_cons pe_int pa_nil))) (pa_cons (pe_tup (pa_cons (pe_callTy call_int1 rfl M.int bt_int (pa_cons (pe_cmpR op_eq (pv 2) pe_int (nomark _)) pa_nil)) (pa_cons pe_int pa_nil))) pa_nil))))))
      pss_nil)
      (pss_cons (ps_set (i := 8) sc__law_stuff.nd rfl (by first | exact .inl rfl | exact .inr rfl) (pe_ix ix_list (pe_lst (pa_cons (pe_tup (pa_cons pe_int (pa_cons pe_int pa_nil))) (pa_cons (pe_g C__law_low (hr.mono (by decide)) hg (pa_cons (pe_op op_add pe_int (pe_g C__law_draw (hr.mono (by decide)) hg (pa_cons (pv 0) (pa_cons pe_int pa_nil)))) (pa_cons (pe_op op_add pe_int (pe_g C__law_draw (hr.mono (by decide)) hg (pa_cons (pv 0) (pa_cons pe_int pa_nil)))) pa_nil))) pa_nil))) (pe_callTy call_int1 rfl M.int bt_int (pa_cons (pe_cmpR op_gt (pe_ix ix_tup (pe_ix ix_list (pv 7) pe_int (fun _ _ => rfl)) pe_int (fun _ _ => rfl)) pe_int (nomark _)) pa_nil)) (fun _ _ => rfl)))
      (pss_one (ps_ret (pe_op op_catT (pe_op op_catT (pe_tup (pa_cons (pv 1) pa_nil)) (pe_callTy call_tuple_of rfl Mx.tuple bt_tuple (pa_cons (pv 7) pa_nil))) (pe_tup (pa_cons (pv 8) (pa_cons (pe_g C__law_some (hr.mono (by decide)) hg (pa_cons (pv 0) (pa_cons pe_int (pa_cons pe_int pa_nil)))) pa_nil)))))))))))))), ?_⟩
    refine ⟨_, rfl, q, 6, rfl, by decide, by decide, hP, fun kind H1 k0 k1 hP1 b1 => ?_⟩
    refine ⟨_, rfl, q, 20, rfl, by decide, by decide, hP1, fun r2 H2 r20 r21 hP2 b2 => ⟨_, _, rfl, rfl, ?_⟩⟩
    have sm : ∀ n : Int, 0 ≤ n → n ≤ 100 → n.natAbs < 2 ^ 900 := fun n h0 h1 => Nat.lt_of_lt_of_le (show n.natAbs < 2 ^ 7 by show n.natAbs < 128; omega) (Nat.pow_le_pow_right (by decide) (by decide))
    refine ⟨_, rfl, _, rfl, _, _, rfl, rfl, q, _, rfl, by omega, sm _ (by omega) (by omega), hP2, fun fl H3 f0 f1 hP3 b3 => ?_⟩
    refine ⟨_, rfl, _, rfl, _, _, rfl, rfl, _, rfl, _, _, rfl, rfl, q, _, rfl, by omega, sm _ (by omega) (by omega), hP3, fun wa H4 w0 w1 hP4 b4 => ?_⟩
    refine ⟨_, rfl, _, rfl, _, _, rfl, rfl, _, rfl, _, _, rfl, rfl, _, rfl, _, _, rfl, rfl, q, _, rfl, by omega, sm _ (by omega) (by omega), hP4, fun sa H5 s0 s1 hP5 b5 => ?_⟩
    have b05 : But q H H5 := (((b1.trans b2).trans b3).trans b4).trans b5
    refine ⟨_, rfl, _, rfl, _, rfl, by show 3 ≤ sizeLine; decide, fun pt hpt => ⟨pt, rfl, ⟨_, .inl (.inl upd_same)⟩, fun Dl hD => ?_⟩⟩
    have s56 : Same H5 (upd H5 pt (.tup [.int fl, .int wa, .int sa])) := same_new hpt
    have t6 : SqT K (upd H5 pt (.tup [.int fl, .int wa, .int sa])) pt [.int fl, .int wa, .int sa] := .inl (.inl upd_same)
    generalize upd H5 pt (.tup [.int fl, .int wa, .int sa]) = H6 at s56 t6 hD ⊢
    have mid : ∀ n : Int, 0 ≤ n → n ≤ 100 → Mid n := fun n h0 h1 => Nat.lt_of_lt_of_le (show n.natAbs < 2 ^ 7 by show n.natAbs < 128; omega) (Nat.pow_le_pow_right (by decide) (by decide))
    refine lc_tup (xs := [.int fl, .int wa, .int sa]) (fun i H' => Same H6 H' ∧ ∃ as : List Addr, H' Dl = some (.lst (as.map V.ref)) ∧ as.length = i ∧ ∀ j a, as[j]? = some a → SqT K H' a [.int (low ([fl, wa, sa].getD j 0) (1 + r2)).1, .int (low ([fl, wa, sa].getD j 0) (1 + r2)).2])
      ⟨same_new hD, [], upd_same, rfl, fun j a e => by cases e⟩ (fun i H' _ h => sm_t h.1 t6) ?_ ?_
    · rintro i x H7 hx ⟨s67, as, eD, hl7, hall⟩
      have hi3 : i < 3 := (List.getElem?_eq_some_iff.mp hx).1
      obtain ⟨n, hn, rfl⟩ : ∃ n, [fl, wa, sa].getD i 0 = n ∧ x = .int n := by
        match i, hi3, hx with
        | 0, _, hx => cases hx; exact ⟨fl, rfl, rfl⟩
        | 1, _, hx => cases hx; exact ⟨wa, rfl, rfl⟩
        | 2, _, hx => cases hx; exact ⟨sa, rfl, rfl⟩
      refine ⟨rfl, _, rfl, _, rfl, n, 1 + r2, rfl, by omega, mid _ (by omega) (by omega), fun H8 a s78 e8 => ?_⟩
      have eD8 := s78 _ _ eD
      have stay : ∀ (b : Addr) (zs ws : List V), SqT K H8 b zs → SqT K (upd H8 Dl (.lst ws)) b zs := by
        intro b zs ws h
        rcases h with (h | ⟨o, h⟩) | h
        · exact .inl (.inl (by rw [upd_ne (fun z => by rw [z, eD8] at h; cases h)]; exact h))
        · exact .inl (.inr ⟨o, by rw [upd_ne (fun z => by rw [z, eD8] at h; cases h)]; exact h⟩)
        · exact .inr h
      refine ⟨as.map V.ref, eD8, by rw [List.length_map, hl7, sizeLine_eq]; omega, fun b o e => ?_, as ++ [a], ?_, ?_, fun j b e => ?_⟩
      · rw [upd_ne (ne_of_none e hD)]
        exact s78 _ _ (s67 _ _ e)
      · rw [upd_same, List.map_append]
        rfl
      · rw [List.length_append, hl7]
        rfl
      · by_cases hj : j < as.length
        · rw [List.getElem?_append_left hj] at e
          exact stay _ _ _ (sm_t s78 (hall j b e))
        · rw [List.getElem?_append_right (by omega)] at e
          have hji : j = i := by
            have := (List.getElem?_eq_some_iff.mp e).1
            rw [List.length_singleton] at this
            omega
          subst hji
          rw [hl7, Nat.sub_self] at e
          cases e
          rw [hn]
          exact stay _ _ _ (.inl (.inl e8))
    rintro H7 ⟨s67, as, eD, hl7, hall⟩
    obtain ⟨a0, a1, a2, rfl⟩ : ∃ a0 a1 a2, as = [a0, a1, a2] := by
      match as, hl7 with
      | [a0, a1, a2], _ => exact ⟨a0, a1, a2, rfl⟩
    have s57 := s56.trans s67
    have hP7 := pot_same hP5 s57
    have b07 := b05.same s57
    refine ⟨fun σ' H' => ∃ (l a0 a1 a2 : Addr) (g0 g1 g2 : Int × Int) (c8 c9 : Option V), σ' = [some (.ref q), some (.str z), some (.int kind), some (.int (1 + r2)), some (.int fl), some (.int wa), some (.int sa), some (.ref l), c8, c9] ∧ H' l = some (.lst [.ref a0, .ref a1, .ref a2]) ∧
      SqT K H' a0 [.int g0.1, .int g0.2] ∧ SqT K H' a1 [.int g1.1, .int g1.2] ∧ SqT K H' a2 [.int g2.1, .int g2.2] ∧ Fr0 g0 ∧ Fr0 g1 ∧ Fr0 g2 ∧ tooM g0 g1 g2 = false ∧ Pot H' q ∧ But q H H', ?_, ?_⟩
    · refine ⟨_, rfl, _, _, rfl, rfl, _, rfl, ite2 (fun e => ?_) (fun e => ?_)⟩
      · have hk : kind = 0 ∨ kind = 1 ∨ kind = 2 ∨ kind = 3 := by
          have : kind < 4 := of_decide_eq_true e
          omega
        have two : ∀ i : Int, (i = 0 ∨ i = 1) → Fr0 (i, 1) := fun i h => by
          rcases h with rfl | rfl
          · exact ⟨⟨by decide, by decide⟩, by decide, ⟨by decide, by decide⟩⟩
          · exact ⟨⟨by decide, by decide⟩, by decide, ⟨by decide, by decide⟩⟩
        have zo : ∀ b : Bool, (if b = true then (1 : Int) else 0) = 0 ∨ (if b = true then (1 : Int) else 0) = 1 := fun b => by cases b <;> simp
        refine ⟨_, rfl, by show 2 ≤ sizeLine; decide, fun p1 hp1 => ⟨p1, [.int 0, .int 3], rfl, .inr (.inl (.inl upd_same)), rfl, rfl, .inr ⟨_, rfl, by show 2 ≤ sizeLine; decide, fun t0 ht0 => ?_⟩⟩⟩
        have s1' := (same_new (o := .tup [.int 0, .int 3]) hp1).trans (same_new (o := .tup [.int (if inV (.int kind) [.int 0, .int 3] = true then 1 else 0), .int 1]) ht0)
        refine ⟨_, rfl, rfl, .inr ⟨_, rfl, by show 2 ≤ sizeLine; decide, fun t1 ht1 => ⟨_, rfl, rfl, .inr ⟨_, rfl, by show 2 ≤ sizeLine; decide, fun t2 ht2 => ⟨by show 3 ≤ sizeLine; decide, fun l hl => ?_⟩⟩⟩⟩⟩
        refine ⟨l, t0, t1, t2, (if inV (.int kind) [.int 0, .int 3] = true then 1 else 0, 1), (if decide (V.int kind = V.int 1) = true then 1 else 0, 1), (if decide (V.int kind = V.int 2) = true then 1 else 0, 1), _, _, rfl, upd_same, ?_, ?_, ?_, two _ (zo _), two _ (zo _), two _ (zo _), ?_, ?_, ?_⟩
        · exact sm_t ((same_new ht1).trans ((same_new ht2).trans (same_new hl))) (.inl (.inl upd_same))
        · exact sm_t ((same_new ht2).trans (same_new hl)) (.inl (.inl upd_same))
        · exact sm_t (same_new hl) (.inl (.inl upd_same))
        · rcases hk with rfl | rfl | rfl | rfl <;> decide +kernel
        · exact pot_same hP7 (s1'.trans ((same_new ht1).trans ((same_new ht2).trans (same_new hl))))
        · exact b07.same (s1'.trans ((same_new ht1).trans ((same_new ht2).trans (same_new hl))))
      · exact ⟨Dl, a0, a1, a2, low fl (1 + r2), low wa (1 + r2), low sa (1 + r2), _, _, rfl, eD, hall 0 a0 rfl, hall 1 a1 rfl, hall 2 a2 rfl, fr0_low f0 (by omega) (by omega) (by omega), fr0_low w0 (by omega) (by omega) (by omega), fr0_low s0 (by omega) (by omega) (by omega),
          too_low f0 w0 s0 (by omega) (by omega), hP7, b07⟩
    · rintro σ' H8 ⟨l, a0, a1, a2, g0, g1, g2, c8, c9, rfl, el, t0, t1, t2, F0, F1, F2, hT, hP8, b08⟩
      refine ⟨by show 2 ≤ sizeLine; decide, fun t3 ht3 => ?_⟩
      have s89 : Same H8 (upd H8 t3 (.tup [.int 0, .int 1])) := same_new ht3
      have e3 : upd H8 t3 (.tup [.int 0, .int 1]) t3 = some (.tup [.int 0, .int 1]) := upd_same
      generalize upd H8 t3 (.tup [.int 0, .int 1]) = H9 at s89 e3 ⊢
      have nq : ∀ (Ha : Hp) (a : Addr) (xs : List V), Pot Ha q → SqT K Ha a xs → ∀ (Hb : Hp), But q Ha Hb → SqT K Hb a xs := by
        intro Ha a xs hP' h Hb b'
        obtain ⟨x, y, _, _, eq⟩ := hP'
        rcases h with (h | ⟨o, h⟩) | h
        · exact .inl (.inl (b' _ _ (fun z => by rw [z, eq] at h; cases h) h))
        · exact .inl (.inr ⟨o, b' _ _ (fun z => by rw [z, eq] at h; cases h) h⟩)
        · exact .inr h
      have hP9 := pot_same hP8 s89
      refine ⟨_, rfl, q, 12, rfl, by decide, by decide, hP9, fun r6 H10 r60 r61 hP10 b10 => ⟨_, _, rfl, rfl, _, rfl, q, 12, rfl, by decide, by decide, hP10, fun r7 H11 r70 r71 hP11 b11 => ⟨_, _, rfl, rfl, _, _, rfl, by omega, mid _ (by omega) (by omega), fun H12 p12 s12 e12 => ⟨by show 2 ≤ sizeLine; decide, fun l4 hl4 => ?_⟩⟩⟩⟩
      have b8 : But q H8 H12 := ((But.rfl.same s89).trans (b10.trans b11)).same s12
      have hP12 := pot_same hP11 s12
      have lq : l ≠ q := fun z => by
        obtain ⟨x, y, _, _, eq⟩ := hP8
        rw [z, eq] at el
        cases el
      have el12 : H12 l = some (.lst [.ref a0, .ref a1, .ref a2]) := b8 _ _ lq el
      have t0' := nq _ _ _ hP8 t0 _ b8
      have t1' := nq _ _ _ hP8 t1 _ b8
      have t2' := nq _ _ _ hP8 t2 _ b8
      have t3' : SqT K H12 t3 [.int 0, .int 1] := nq _ _ _ hP9 (.inl (.inl e3)) _ ((b10.trans b11).same s12)
      have s13 : Same H12 (upd H12 l4 (.lst [.ref t3, .ref p12])) := same_new hl4
      have e4 : upd H12 l4 (.lst [.ref t3, .ref p12]) l4 = some (.lst [.ref t3, .ref p12]) := upd_same
      generalize upd H12 l4 (.lst [.ref t3, .ref p12]) = H13 at s13 e4 ⊢
      have F3a : Fr0 (0, 1) := ⟨⟨by decide, by decide⟩, by decide, ⟨by decide, by decide⟩⟩
      have F3b : Fr0 (low (1 + r6) (1 + r7)) := fr0_low (by omega) (by omega) (by omega) (by omega)
      refine ⟨_, rfl, l, _, _, _, rfl, rfl, .inl (.inl (s13 _ _ el12)), atI_nat (j := 0) rfl, a0, _, _, _, rfl, rfl, sm_t s13 t0', atI_nat (j := 0) rfl, _, _, rfl, rfl, .inr ⟨_, rfl, ?_⟩⟩
      have pick : ∃ (a3 : Addr) (g3 : Int × Int), atI [V.ref t3, V.ref p12] (if decide (0 < g0.1) = true then 1 else 0) = some (.ref a3) ∧ Fr0 g3 ∧ SqT K H13 a3 [.int g3.1, .int g3.2] := by
        cases decide (0 < g0.1)
        · exact ⟨t3, (0, 1), rfl, F3a, sm_t s13 t3'⟩
        · exact ⟨p12, low (1 + r6) (1 + r7), rfl, F3b, sm_t s13 (.inl (.inl e12))⟩
      obtain ⟨a3, g3, hat, F3, t3f⟩ := pick
      refine ⟨l4, _, _, _, rfl, rfl, .inl (.inl e4), hat, ?_⟩
      have el13 := s13 _ _ el12
      refine ⟨_, rfl, by show 1 ≤ sizeLine; decide, fun t5 ht5 => ?_⟩
      have s14 : Same H13 (upd H13 t5 (.tup [.str z])) := same_new ht5
      have e5 : upd H13 t5 (.tup [.str z]) t5 = some (.tup [.str z]) := upd_same
      generalize upd H13 t5 (.tup [.str z]) = H14 at s14 e5 ⊢
      refine ⟨_, rfl, l, _, rfl, .inl ⟨.inl (.inl (s14 _ _ el13)), fun t6 ht6 => ?_⟩⟩
      have s15 : Same H14 (upd H14 t6 (.tup [.ref a0, .ref a1, .ref a2])) := same_new ht6
      have e6 : upd H14 t6 (.tup [.ref a0, .ref a1, .ref a2]) t6 = some (.tup [.ref a0, .ref a1, .ref a2]) := upd_same
      generalize upd H14 t6 (.tup [.ref a0, .ref a1, .ref a2]) = H15 at s15 e6 ⊢
      refine ⟨t5, t6, _, _, rfl, rfl, .inl (.inl (s15 _ _ e5)), .inl (.inl e6), by simp, by show 1 + 3 ≤ sizeLine; decide, (fun z => by cases z), fun _ p7 hp7 => ?_⟩
      have s16 : Same H15 (upd H15 p7 (.tup ([.str z] ++ [.ref a0, .ref a1, .ref a2]))) := same_new hp7
      have e7 : upd H15 p7 (.tup ([.str z] ++ [.ref a0, .ref a1, .ref a2])) p7 = some (.tup [.str z, .ref a0, .ref a1, .ref a2]) := upd_same
      generalize upd H15 p7 (.tup ([.str z] ++ [.ref a0, .ref a1, .ref a2])) = H16 at s16 e7 ⊢
      have s1216 := ((s13.trans s14).trans s15).trans s16
      have hP16 := pot_same hP12 s1216
      refine ⟨_, rfl, _, rfl, q, rfl, hP16, fun p8 g4 H17 F4 e8 hP17 b17 => ⟨by show 2 ≤ sizeLine; decide, fun t8 ht8 => ?_⟩⟩
      have e7' : SqT K H17 p7 [.str z, .ref a0, .ref a1, .ref a2] := nq _ _ _ hP16 (.inl (.inl e7)) _ b17
      have u0 := nq _ _ _ hP16 (sm_t s1216 t0') _ b17
      have u1 := nq _ _ _ hP16 (sm_t s1216 t1') _ b17
      have u2 := nq _ _ _ hP16 (sm_t s1216 t2') _ b17
      have u3 := nq _ _ _ hP16 (sm_t ((s14.trans s15).trans s16) t3f) _ b17
      have s18 : Same H17 (upd H17 t8 (.tup [.ref a3, .ref p8])) := same_new ht8
      have e9 : upd H17 t8 (.tup [.ref a3, .ref p8]) t8 = some (.tup [.ref a3, .ref p8]) := upd_same
      generalize upd H17 t8 (.tup [.ref a3, .ref p8]) = H18 at s18 e9 ⊢
      refine ⟨p7, t8, _, _, rfl, rfl, sm_t s18 e7', .inl (.inl e9), by simp, by show 4 + 2 ≤ sizeLine; decide, (fun z => by cases z), fun _ p9 hp9 => ?_⟩
      have s19 := s18.trans (same_new (o := .tup ([.str z, .ref a0, .ref a1, .ref a2] ++ [.ref a3, .ref p8])) hp9)
      refine k p9 [g0, g1, g2, g3, g4] _ ⟨⟨[a0, a1, a2, a3, p8], upd_same, rfl, rfl, ?_⟩, ?_, hT⟩ (pot_same hP17 s19) ((((b08.trans b8).same s1216).trans b17).same s19)
      · intro i a g ha hgg
        match i, ha, hgg with
        | 0, ha, hgg => cases ha; cases hgg; exact sm_t s19 u0
        | 1, ha, hgg => cases ha; cases hgg; exact sm_t s19 u1
        | 2, ha, hgg => cases ha; cases hgg; exact sm_t s19 u2
        | 3, ha, hgg => cases ha; cases hgg; exact sm_t s19 u3
        | 4, ha, hgg => cases ha; cases hgg; exact sm_t s19 (.inl (.inl e8))
      · intro g hgm
        simp only [List.mem_cons, List.not_mem_nil, or_false] at hgm
        rcases hgm with rfl | rfl | rfl | rfl | rfl
        · exact F0
        · exact F1
        · exact F2
        · exact F3
        · exact F4
end
end Lf

set_option Elab.async false
set_option linter.all false
set_option maxRecDepth 100000
set_option maxHeartbeats 4000000
set_option exponentiation.threshold 3000
/-! repr of data with dicts at any depth: of what stands for d in a heap, and what repr tells of it. -/
namespace Lf
open PySem PySem.Spec PyProof.Rows L2
section
variable {P : Program} {w : World} {h : Heap}
/-- a row's texts can be told, none of them within one of the row's own objects -/
def RowSays (P : Program) (w : World) (h : Heap) (us : List Value) (ds : List PyData) : Prop :=
  PyData.showableAll ds = true → (∀ t ∈ PyData.shownAll ds, t.length ≤ sizeLine) → ∃ bs, ReadAtMost h (PyData.depthAll ds) bs ∧ ReprAllK P w bs h (PyData.depthAll ds) us (PyData.shownAll ds)
structure Row (P : Program) (w : World) (h : Heap) (us : List Value) (ds : List PyData) : Prop where
  rd : ∃ as, ReadsAll h us ds as
  say : RowSays P w h us ds
/-- u stands for d: it is read so, told so within another one, and, where it is an object, by its type's own repr -/
structure One (P : Program) (w : World) (h : Heap) (u : Value) (d : PyData) : Prop where
  rd : ∃ as, Reads h u d as
  say : d.showable = true → d.shown.length ≤ sizeLine → ∃ bs, ReadAtMost h d.depth bs ∧ ReprK P w bs h d.depth u d.shown
  top : d.showable = true → d.shown.length ≤ sizeLine → ∀ a, u = .ref a → ∃ T idr, ShowsBy P w h a d T idr
theorem One.plain {u : Value} {d : PyData} {as : List Addr} (r : Reads h u d as) (n : d.hasDict = false) : One P w h u d :=
  ⟨⟨as, r⟩, fun a b => ReprK.of_reads r a (PyData.noDict_hsm n) b, fun a b c e => showsBy_of_reads (e ▸ r) a (PyData.noDict_hsm n) b⟩
theorem Row.nil : Row P w h [] [] := ⟨⟨[], .nil⟩, fun _ _ => ⟨[], fun b hb => absurd hb List.not_mem_nil, by unfold PyData.shownAll; exact .nil⟩⟩
theorem Row.cons {u : Value} {us : List Value} {d : PyData} {ds : List PyData} (a : One P w h u d) (r : Row P w h us ds) : Row P w h (u :: us) (d :: ds) where
  rd := a.rd.elim fun _ ra => r.rd.elim fun _ rr => ⟨_, .cons ra rr⟩
  say := fun hs hz => by
    unfold PyData.showableAll at hs
    unfold PyData.shownAll at hz
    have both := Bool.and_eq_true_iff.mp hs
    obtain ⟨b1, m1, k1⟩ := a.say both.1 (hz d.shown (List.Mem.head _))
    obtain ⟨b2, m2, k2⟩ := r.say both.2 fun t ht => hz t (List.Mem.tail _ ht)
    have e : PyData.depthAll (d :: ds) = max d.depth (PyData.depthAll ds) := by rw [PyData.depthAll]
    refine ⟨b1 ++ b2, ?_, ?_⟩
    · rw [e]
      exact (m1.mono (Nat.le_max_left ..)).append (m2.mono (Nat.le_max_right ..))
    · rw [e]
      unfold PyData.shownAll
      refine .cons (ReprK.level_le (k1.more fun b hb => List.mem_append.mpr (.inl hb)) (Nat.le_max_left ..)) ?_
      exact ReprAllK.more_le (fun b hb => List.mem_append.mpr (.inr hb)) (Nat.le_max_right ..) k2
section
variable {a : Addr} {o : Obj} {n : Nat} {us : List Value} {ds : List PyData} {kvs : List (PyData × PyData)} {es : Array DictEntry}
/-- what a list's and a tuple's parts have to be -/
theorem parts_fit {f : List Str → Str} (hf : ∀ ts t, t ∈ ts → t.length ≤ (f ts).length) (hz : (f (PyData.shownAll ds)).length ≤ sizeLine) : ∀ t ∈ PyData.shownAll ds, t.length ≤ sizeLine := fun t ht => Nat.le_trans (hf _ _ ht) hz
theorem One.lst (ho : h.get? a = some o) (hc : o.cls = .type "list") (hd : o.data = .seq us.toArray n) (r : Row P w h us ds) : One P w h (.ref a) (.list ds) := by
  obtain ⟨as, ra⟩ := r.rd
  have ro : Reads h (.ref a) (.list ds) (a :: as) := .list ho hc hd ra
  have e1 : PyData.depth (.list ds) = PyData.depthAll ds + 1 := by unfold PyData.depth; rfl
  have e2 : PyData.shown (.list ds) = listText (PyData.shownAll ds) := by unfold PyData.shown; rfl
  have e3 : PyData.showable (.list ds) = PyData.showableAll ds := by unfold PyData.showable; rfl
  have in_ : PyData.showable (.list ds) = true → (PyData.shown (.list ds)).length ≤ sizeLine → ∃ bs, ReadAtMost h (PyData.depthAll ds) bs ∧ ReprAllK P w bs h (PyData.depthAll ds) us (PyData.shownAll ds) := fun hs hz => by
    rw [e3] at hs
    rw [e2] at hz
    exact r.say hs (parts_fit (fun _ _ => listText_mem_le) hz)
  have out : ∀ bs, ReadAtMost h (PyData.depthAll ds) bs → a ∉ bs := fun bs hb => not_mem_of_deeper ro (by rw [e1]; exact Nat.lt_succ_self _) hb
  cases us with
  | nil =>
    have e4 : ds = [] := by cases ra; rfl
    subst e4
    have e5 : PyData.hasDict (.list []) = false := by unfold PyData.hasDict PyData.hasDictAll; rfl
    exact One.plain ro e5
  | cons u us =>
    refine ⟨⟨_, ro⟩, fun hs hz => ?_, fun hs hz c ec => ?_⟩
    · obtain ⟨bs, hb, hk⟩ := in_ hs hz
      refine ⟨a :: bs, ReadAtMost.cons ro (by rw [e1]; exact Nat.le_succ _) hb, ?_⟩
      rw [e1, e2]
      exact ReprK.list ho hc hd (out bs hb) (by rw [List.size_toArray]; exact hk.length_eq) fun i y q => hk.item i y (by rw [List.getElem?_toArray] at q; exact q)
    · cases ec
      obtain ⟨bs, hb, hk⟩ := in_ hs hz
      rw [e2] at hz
      refine ⟨"list", "list.__repr__", ⟨F.slot_list_repr.toG, F.slot_list_str, F.slot_list_format, fun s k0 => ⟨o, k0 _ _ ho, hc⟩, fun A E s Q hg hu k0 q => ?_⟩⟩
      rw [e1] at hu
      rw [e2] at q
      exact call_list_reprK ho hc hd (out bs hb) (by rw [List.size_toArray]; exact hk.length_eq) (fun i y q => hk.item i y (by rw [List.getElem?_toArray] at q; exact q)) hg (fun b _ => Clear.nil b) hu k0 q hz
theorem One.tup (ho : h.get? a = some o) (hc : o.cls = .type "tuple") (hd : o.data = .seq us.toArray n) (r : Row P w h us ds) : One P w h (.ref a) (.tuple ds) := by
  obtain ⟨as, ra⟩ := r.rd
  have ro : Reads h (.ref a) (.tuple ds) as := .tuple ho hc hd ra
  have e1 : PyData.depth (.tuple ds) = PyData.depthAll ds + 1 := by unfold PyData.depth; rfl
  have e2 : PyData.shown (.tuple ds) = tupleText (PyData.shownAll ds) := by unfold PyData.shown; rfl
  have e3 : PyData.showable (.tuple ds) = PyData.showableAll ds := by unfold PyData.showable; rfl
  have in_ : PyData.showable (.tuple ds) = true → (PyData.shown (.tuple ds)).length ≤ sizeLine → ∃ bs, a ∉ bs ∧ ReadAtMost h (PyData.depthAll ds) bs ∧ ReprAllK P w bs h (PyData.depthAll ds) us (PyData.shownAll ds) := fun hs hz => by
    rw [e3] at hs
    rw [e2] at hz
    obtain ⟨bs, hb, hk⟩ := r.say hs (parts_fit (fun _ _ => tupleText_mem_le) hz)
    exact ⟨bs, not_mem_of_deeper ro (by rw [e1]; exact Nat.lt_succ_self _) hb, hb, hk⟩
  refine ⟨⟨_, ro⟩, fun hs hz => ?_, fun hs hz c ec => ?_⟩
  · obtain ⟨bs, na, hb, hk⟩ := in_ hs hz
    refine ⟨a :: bs, ReadAtMost.cons ro (by rw [e1]; exact Nat.le_succ _) hb, ?_⟩
    rw [e1, e2]
    exact ReprK.tuple ho hc hd na hk
  · cases ec
    obtain ⟨bs, na, hb, hk⟩ := in_ hs hz
    rw [e2] at hz
    refine ⟨"tuple", "tuple.__repr__", ⟨F.slot_tuple_repr, F.slot_tuple_str, F.slot_tuple_format, fun s k0 => ⟨o, k0 _ _ ho, hc⟩, fun A E s Q hg hu k0 q => ?_⟩⟩
    rw [e1] at hu
    rw [e2] at q
    exact call_tuple_reprK ho hc hd na hk hg (fun b _ => Clear.nil b) hu k0 q hz
theorem One.dic (ho : h.get? a = some o) (hc : o.cls = .type "dict") (hd : o.data = .dict es n) (sys : (a == sysModules) = false) (rk : Row P w h (es.toList.map (·.key)) (kvs.map (·.1))) (rv : Row P w h (es.toList.map (·.val)) (kvs.map (·.2))) : One P w h (.ref a) (.dict kvs) := by
  obtain ⟨as, ra⟩ := rk.rd
  obtain ⟨cs, rc⟩ := rv.rd
  have ro : Reads h (.ref a) (.dict kvs) (a :: as ++ cs) := .dict ho hc hd ra rc
  have e1 : PyData.depth (.dict kvs) = PyData.depthKv kvs + 1 := by unfold PyData.depth; rfl
  have e2 : PyData.shown (.dict kvs) = dictText (PyData.shownKv kvs) := by unfold PyData.shown; rfl
  have e3 : PyData.showable (.dict kvs) = PyData.showableKv kvs := by unfold PyData.showable; rfl
  have in_ : PyData.showable (.dict kvs) = true → (PyData.shown (.dict kvs)).length ≤ sizeLine → ∃ bs, a ∉ bs ∧ ReadAtMost h (PyData.depthKv kvs) bs ∧ ReprEntriesK P w bs h (PyData.depthKv kvs) es.toList (PyData.shownKv kvs) := fun hs hz => by
    rw [e3] at hs
    rw [e2] at hz
    have two := PyData.showableKv_split kvs hs
    have fits : ∀ t p : Str, p ∈ PyData.shownKv kvs → t.length ≤ p.length → t.length ≤ sizeLine := fun t p hp hl => Nat.le_trans hl (Nat.le_trans (dictText_mem_le hp) hz)
    obtain ⟨b1, m1, k1⟩ := rk.say two.1 fun t ht => by
      obtain ⟨p, hp, hl⟩ := PyData.shownKv_key_le kvs t ht
      exact fits t p hp hl
    obtain ⟨b2, m2, k2⟩ := rv.say two.2 fun t ht => by
      obtain ⟨p, hp, hl⟩ := PyData.shownKv_val_le kvs t ht
      exact fits t p hp hl
    have hb := (m1.mono (PyData.depthAll_keys_le kvs)).append (m2.mono (PyData.depthAll_vals_le kvs))
    refine ⟨b1 ++ b2, not_mem_of_deeper ro (by rw [e1]; exact Nat.lt_succ_self _) hb, hb, ?_⟩
    rw [PyData.shownKv_eq]
    refine ReprEntriesK.of_two _ _ _ (ReprAllK.more_le ?_ (PyData.depthAll_keys_le kvs) k1) (ReprAllK.more_le ?_ (PyData.depthAll_vals_le kvs) k2)
    · exact fun b hb => List.mem_append.mpr (.inl hb)
    · exact fun b hb => List.mem_append.mpr (.inr hb)
  refine ⟨⟨_, ro⟩, fun hs hz => ?_, fun hs hz c ec => ?_⟩
  · obtain ⟨bs, na, hb, hk⟩ := in_ hs hz
    refine ⟨a :: bs, ReadAtMost.cons ro (by rw [e1]; exact Nat.le_succ _) hb, ?_⟩
    rw [e1, e2]
    exact ReprK.dict ho hc hd sys na hk
  · cases ec
    obtain ⟨bs, na, hb, hk⟩ := in_ hs hz
    rw [e2] at hz
    refine ⟨"dict", "dict.__repr__", ⟨F.slot_dict_repr, F.slot_dict_str, F.slot_dict_format, fun s k0 => ⟨o, k0 _ _ ho, hc⟩, fun A E s Q hg hu k0 q => ?_⟩⟩
    rw [e1] at hu
    rw [e2] at q
    exact call_dict_reprK ho hc hd sys na hk hg (fun b _ => Clear.nil b) hu k0 q hz
end
end
/-! ### data of the abstract heap, dicts among them -/
mutual
inductive Dg (K : PySem.W.Frag) (H : Hp) : V → PyData → Prop
  | non : Dg K H .non .none
  | bl (b : Bool) : Dg K H (.bl b) (.bool b)
  | int (i : Int) : Dg K H (.int i) (.int i)
  | str (x : Str) : Dg K H (.str x) (.str x)
  | lst {a : Addr} {xs : List V} {ds : List PyData} : SqL K H a xs → DgAll K H xs ds → Dg K H (.ref a) (.list ds)
  | tup {a : Addr} {xs : List V} {ds : List PyData} : SqT K H a xs → DgAll K H xs ds → Dg K H (.ref a) (.tuple ds)
  | dk {a : Addr} {kvs : List (Key × V)} {ds : List (PyData × PyData)} : H a = some (.dK kvs) → DgKv K H kvs ds → Dg K H (.ref a) (.dict ds)
  | dt {a : Addr} {kvs : List (List Key × V)} {ds : List (PyData × PyData)} : H a = some (.dT kvs) → DgKt K H kvs ds → Dg K H (.ref a) (.dict ds)
inductive DgAll (K : PySem.W.Frag) (H : Hp) : List V → List PyData → Prop
  | nil : DgAll K H [] []
  | cons {v : V} {vs : List V} {d : PyData} {ds : List PyData} : Dg K H v d → DgAll K H vs ds → DgAll K H (v :: vs) (d :: ds)
inductive DgKv (K : PySem.W.Frag) (H : Hp) : List (Key × V) → List (PyData × PyData) → Prop
  | nil : DgKv K H [] []
  | cons {k : Key} {v : V} {vs : List (Key × V)} {d : PyData} {ds : List (PyData × PyData)} : Dg K H v d → DgKv K H vs ds → DgKv K H ((k, v) :: vs) ((kD k, d) :: ds)
inductive DgKt (K : PySem.W.Frag) (H : Hp) : List (List Key × V) → List (PyData × PyData) → Prop
  | nil : DgKt K H [] []
  | cons {k : List Key} {v : V} {vs : List (List Key × V)} {d : PyData} {ds : List (PyData × PyData)} : Dg K H v d → DgKt K H vs ds → DgKt K H ((k, v) :: vs) ((.tuple (k.map kD), d) :: ds)
end
mutual
theorem Dg.of {K : PySem.W.Frag} {H : Hp} : ∀ {d : PyData} {v : V}, Dp K H v d → Dg K H v d
  | _, _, .non => .non
  | _, _, .bl b => .bl b
  | _, _, .int i => .int i
  | _, _, .str x => .str x
  | _, _, .lst h r => .lst h (DgAll.of r)
  | _, _, .tup h r => .tup h (DgAll.of r)
theorem DgAll.of {K : PySem.W.Frag} {H : Hp} : ∀ {ds : List PyData} {vs : List V}, DpAll K H vs ds → DgAll K H vs ds
  | _, _, .nil => .nil
  | _, _, .cons a r => .cons (Dg.of a) (DgAll.of r)
end
theorem sqT_same {K : PySem.W.Frag} {H H' : Hp} (s : Same H H') {a : Addr} {xs : List V} (h : SqT K H a xs) : SqT K H' a xs := by
  rcases h with (h | ⟨o, h⟩) | h
  · exact .inl (.inl (s _ _ h))
  · exact .inl (.inr ⟨o, s _ _ h⟩)
  · exact .inr h
mutual
theorem Dg.same {K : PySem.W.Frag} {H H' : Hp} (s : Same H H') : ∀ {d : PyData} {v : V}, Dg K H v d → Dg K H' v d
  | _, _, .non => .non
  | _, _, .bl b => .bl b
  | _, _, .int i => .int i
  | _, _, .str x => .str x
  | _, _, .lst h r => .lst (s.seq h) (DgAll.same s r)
  | _, _, .tup h r => .tup (sqT_same s h) (DgAll.same s r)
  | _, _, .dk h r => .dk (s _ _ h) (DgKv.same s r)
  | _, _, .dt h r => .dt (s _ _ h) (DgKt.same s r)
theorem DgAll.same {K : PySem.W.Frag} {H H' : Hp} (s : Same H H') : ∀ {ds : List PyData} {vs : List V}, DgAll K H vs ds → DgAll K H' vs ds
  | _, _, .nil => .nil
  | _, _, .cons a r => .cons (Dg.same s a) (DgAll.same s r)
theorem DgKv.same {K : PySem.W.Frag} {H H' : Hp} (s : Same H H') : ∀ {ds : List (PyData × PyData)} {vs : List (Key × V)}, DgKv K H vs ds → DgKv K H' vs ds
  | _, _, .nil => .nil
  | _, _, .cons a r => .cons (Dg.same s a) (DgKv.same s r)
theorem DgKt.same {K : PySem.W.Frag} {H H' : Hp} (s : Same H H') : ∀ {ds : List (PyData × PyData)} {vs : List (List Key × V)}, DgKt K H vs ds → DgKt K H' vs ds
  | _, _, .nil => .nil
  | _, _, .cons a r => .cons (Dg.same s a) (DgKt.same s r)
end
section
variable {X : Cx} {pins : List (Addr × Obj)} {σ : L2.St} {H : Hp} {s : Shared}
theorem key_one {P : Program} {w : World} {h : Heap} {k : Key} {u : Value} (hk : keyIs k u = true) : One P w h u (kD k) := by
  rcases keyIs_shape hk with ⟨i, t, e1, e2⟩ | ⟨x, t, e1, e2⟩
  · rw [e1, e2]
    exact .plain (.int i t) (by unfold kD PyData.hasDict; rfl)
  · rw [e1, e2]
    exact .plain (.str x t) (by unfold kD PyData.hasDict; rfl)
theorem key_row {P : Program} {w : World} {h : Heap} : ∀ (ks : List Key) (us : List Value), Vals (ks.map kV) us → Row P w h us (ks.map kD)
  | [], _, r => by
    cases r
    exact .nil
  | .inl i :: ks, _, r => by
    cases r with
    | cons r1 r2 =>
      obtain ⟨t, rfl⟩ := r1
      exact .cons (.plain (.int i t) (by unfold kD PyData.hasDict; rfl)) (key_row ks _ r2)
  | .inr x :: ks, _, r => by
    cases r with
    | cons r1 r2 =>
      obtain ⟨t, rfl⟩ := r1
      exact .cons (.plain (.str x t) (by unfold kD PyData.hasDict; rfl)) (key_row ks _ r2)
mutual
theorem Dg.one (I : Inv X pins σ H s) : ∀ {d : PyData} {v : V} {u : Value}, Dg X.K H v d → RelV v u → One X.prog X.w s.heap u d
  | _, _, _, .non, r => by cases r; exact .plain .none (by unfold PyData.hasDict; rfl)
  | _, _, _, .bl b, r => by cases r; exact .plain (.bool b) (by unfold PyData.hasDict; rfl)
  | _, _, _, .int i, r => by obtain ⟨t, rfl⟩ := r; exact .plain (.int i t) (by unfold PyData.hasDict; rfl)
  | _, _, _, .str x, r => by obtain ⟨t, rfl⟩ := r; exact .plain (.str x t) (by unfold PyData.hasDict; rfl)
  | _, _, _, .lst h q, r => by
    cases r
    obtain ⟨its, rv, ⟨o, n, ho, hc, _, hd⟩, _⟩ := I.list h
    exact .lst ho hc hd (DgAll.row I q rv)
  | _, _, _, .tup h q, r => by
    cases r
    obtain ⟨its, rv, ⟨o, ho, hc, n, hd⟩, _⟩ := I.tuple h
    exact .tup ho hc hd (DgAll.row I q rv)
  | _, _, _, .dk (a := a) (kvs := kvs) h q, r => by
    cases r
    obtain ⟨_, sys, vs, kv, o, es, ep, h1, h2, h3, h4, h5, h6⟩ := (show ObjOk X.prog X.w H s.heap a (.dK kvs) from I.hok a _ h)
    obtain ⟨i1, i2⟩ := DgKv.rows I h5 kv q
    exact .dic h1 h2.1 h3 sys i1 i2
  | _, _, _, .dt (a := a) (kvs := kvs) h q, r => by
    cases r
    obtain ⟨_, sys, xs, hp, o, es, ep, h1, h2, h3, h4, h5⟩ := (show ObjOk X.prog X.w H s.heap a (.dT kvs) from I.hok a _ h)
    obtain ⟨i1, i2⟩ := DgKt.rows I q hp
    refine .dic h1 h2.1 h3 sys ?_ ?_
    · rw [h4, List.map_map]
      exact i1
    · rw [h4, List.map_map]
      exact i2
theorem DgAll.row (I : Inv X pins σ H s) : ∀ {ds : List PyData} {vs : List V} {us : List Value}, DgAll X.K H vs ds → Vals vs us → Row X.prog X.w s.heap us ds
  | _, _, _, .nil, r => by cases r; exact .nil
  | _, _, _, .cons a q, r => by
    cases r with
    | cons r1 r2 => exact .cons (Dg.one I a r1) (DgAll.row I q r2)
theorem DgKv.rows (I : Inv X pins σ H s) : ∀ {ds : List (PyData × PyData)} {kvs : List (Key × V)} {es : List DictEntry} {vs : List (Key × Value)}, Pairs (mixKind X.prog X.w) es vs → KV kvs vs → DgKv X.K H kvs ds →
    Row X.prog X.w s.heap (es.map (·.key)) (ds.map (·.1)) ∧ Row X.prog X.w s.heap (es.map (·.val)) (ds.map (·.2))
  | _, _, _, _, p, kv, .nil => by
    cases kv
    cases p
    exact ⟨.nil, .nil⟩
  | _, _, _, _, p, kv, .cons a q => by
    cases kv with
    | cons z kv =>
      cases p with
      | cons hk hv p =>
        obtain ⟨i1, i2⟩ := DgKv.rows I p kv q
        obtain ⟨z1, z2⟩ := z
        refine ⟨.cons ?_ i1, .cons ?_ i2⟩
        · simp only at z1
          rw [z1]
          exact key_one hk
        · show One _ _ _ (DictEntry.val _) _
          rw [hv]
          exact Dg.one I a z2
theorem DgKt.rows (I : Inv X pins σ H s) : ∀ {ds : List (PyData × PyData)} {kvs : List (List Key × V)} {xs : List (List Key × Addr × Value)}, DgKt X.K H kvs ds → Paired (fun (p : List Key × V) (q : List Key × Addr × Value) => p.1 = q.1 ∧ H q.2.1 = some (.tup (p.1.map kV)) ∧ RelV p.2 q.2.2) kvs xs →
    Row X.prog X.w s.heap (xs.map ((·.key) ∘ entryOfKey (tupleKind (mixKind X.prog X.w)))) (ds.map (·.1)) ∧ Row X.prog X.w s.heap (xs.map ((·.val) ∘ entryOfKey (tupleKind (mixKind X.prog X.w)))) (ds.map (·.2))
  | _, _, _, .nil, p => by
    cases p
    exact ⟨.nil, .nil⟩
  | _, _, _, .cons (k := k) a q, p => by
    cases p with
    | cons z p =>
      obtain ⟨i1, i2⟩ := DgKt.rows I q p
      obtain ⟨z1, z2, z3⟩ := z
      refine ⟨.cons ?_ i1, .cons (Dg.one I a z3) i2⟩
      have hk : ∀ {c : Addr}, H c = some (.tup (k.map kV)) → One X.prog X.w s.heap (.ref c) (.tuple (k.map kD)) := fun {c} e => by
        obtain ⟨its, rv, ⟨o, ho, hc, n, hd⟩, _⟩ := I.tuple (.inl (.inl e))
        exact .tup ho hc hd (key_row k its rv)
      exact hk z2
end
def rShowG (K : PySem.W.Frag) : List V → Hp → VK → Prop := fun xs H Q => ∃ (v : V) (d : PyData), xs = [v] ∧ Dg K H v d ∧
  d.showable = true ∧ d.depth ≤ 30 ∧ d.shown.length ≤ sizeLine ∧ Q (.str d.shown) H
/-- repr of data, dicts let -/
theorem call_showG (hG : X.A.guards = some []) {k : Nat} (hr : Room k X.A) : CallR X (.builtin "repr") (rShowG X.K) := by
  intro pins s σ H xs us Q I r h
  obtain ⟨v, d, rfl, hd, hs, h30, hz, q⟩ := h
  obtain ⟨u, rfl, r1⟩ := vals1 r
  have on := hd.one I r1
  have hu := hr.units
  have obj : ∀ a, u = .ref a → wpAny (model X.prog X.w) X.A (call (.builtin "repr") [u]) (EP X pins σ Q) X.xe s := fun a e => by
    subst e
    obtain ⟨T, idr, S⟩ := on.top hs hz a rfl
    refine call_repr_slot (by omega) (S.typeIs s fun _ _ z => z) S.slotRepr (S.call X.A.in1 _ s _ hG ?_ (fun _ _ z => z) fun h' u tk hk => ⟨_, _, rfl, ⟨.str _, H, I.kept hk, ⟨u, rfl⟩, q⟩⟩)
    show X.A.units + 1 + _ < cLine
    omega
  cases hd with
  | non =>
    cases r1
    unfold PyData.shown at q
    exact PySem.P.repr_of_none ⟨.str _, H, I.tok _, ⟨_, rfl⟩, q⟩
  | bl b =>
    cases r1
    unfold PyData.shown at q
    exact PySem.P.repr_of_bool ⟨.str _, H, I.tok _, ⟨_, rfl⟩, q⟩
  | int i =>
    obtain ⟨t, rfl⟩ := r1
    unfold PyData.shown at q
    unfold PyData.showable at hs
    exact PySem.P.repr_of_int (of_decide_eq_true hs) ⟨.str _, H, I.tok _, ⟨_, rfl⟩, q⟩
  | str x =>
    obtain ⟨t, rfl⟩ := r1
    unfold PyData.shown at q hz
    exact PySem.P.repr_of_str ⟨.str _, H, I.tok _, ⟨_, rfl⟩, q⟩ hz
  | lst _ _ => exact obj _ r1
  | tup _ _ => exact obj _ r1
  | dk _ _ => exact obj _ r1
  | dt _ _ => exact obj _ r1
/-- the same, the module's part given -/
theorem call_showK {K : PySem.W.Frag} (hG : X.A.guards = some []) {k : Nat} (hr : Room k X.A) (hK : X.K = K := by rfl) : CallR X (.builtin "repr") (rShowG K) := by
  subst hK
  exact call_showG hG hr
end
/-- what repr asks of a thing, dicts let -/
structure ShowG (d : PyData) : Prop where
  sh : d.showable = true
  dp : d.depth ≤ 30
  ln : d.shown.length ≤ sizeLine
theorem Ft.g {w k : Nat} {d : PyData} (h : Ft w k d) (hk : k ≤ 30 := by decide) (hw : w ≤ 16000 := by decide) : ShowG d := by
  have := h.showy hk hw
  exact ⟨this.sh, this.dp, this.ln⟩
/-- data that fits, dicts let -/
structure Fg (w k : Nat) (d : PyData) : Prop where
  sh : d.showable = true
  dp : d.depth ≤ k
  lv : d.leavesShort 1000 = true
  wt : d.weight ≤ w
structure FgA (w k : Nat) (ds : List PyData) : Prop where
  sh : PyData.showableAll ds = true
  dp : PyData.depthAll ds ≤ k
  lv : PyData.leavesShortAll 1000 ds = true
  wt : PyData.weightAll ds ≤ w
structure FgK (w k : Nat) (ds : List (PyData × PyData)) : Prop where
  sh : PyData.showableKv ds = true
  dp : PyData.depthKv ds ≤ k
  lv : PyData.leavesShortKv 1000 ds = true
  wt : PyData.weightKv ds ≤ w
theorem Ft.fg {w k : Nat} {d : PyData} (h : Ft w k d) : Fg w k d := ⟨h.sh, h.dp, h.lv, h.wt⟩
theorem FtA.fg {w k : Nat} {ds : List PyData} (h : FtA w k ds) : FgA w k ds := ⟨h.sh, h.dp, h.lv, h.wt⟩
theorem Fg.le {w k w' k' : Nat} {d : PyData} (h : Fg w k d) (hw : w ≤ w') (hk : k ≤ k') : Fg w' k' d := ⟨h.sh, Nat.le_trans h.dp hk, h.lv, Nat.le_trans h.wt hw⟩
theorem FgA.le {w k w' k' : Nat} {ds : List PyData} (h : FgA w k ds) (hw : w ≤ w') (hk : k ≤ k') : FgA w' k' ds := ⟨h.sh, Nat.le_trans h.dp hk, h.lv, Nat.le_trans h.wt hw⟩
theorem FgA.nil : FgA 0 0 [] := FtA.nil.fg
theorem FgA.cons {w k w' k' : Nat} {d : PyData} {ds : List PyData} (h : Fg w k d) (r : FgA w' k' ds) : FgA (w + 1 + w') (max k k') (d :: ds) := by
  refine ⟨?_, ?_, ?_, ?_⟩
  · simp only [PyData.showableAll, h.sh, r.sh, Bool.and_self]
  · simp only [PyData.depthAll]
    have := h.dp
    have := r.dp
    omega
  · simp only [PyData.leavesShortAll, h.lv, r.lv, Bool.and_self]
  · simp only [PyData.weightAll]
    have := h.wt
    have := r.wt
    omega
theorem FgA.all {w k : Nat} : ∀ {ds : List PyData}, (∀ d ∈ ds, Fg w k d) → FgA ((w + 1) * ds.length) k ds
  | [], _ => FgA.nil.le (Nat.zero_le _) (Nat.zero_le _)
  | d :: ds, h => by
    have r := FgA.cons (h d List.mem_cons_self) (FgA.all fun x hx => h x (List.mem_cons_of_mem _ hx))
    refine r.le ?_ (by omega)
    rw [List.length_cons, Nat.mul_succ]
    omega
theorem Fg.list {w k : Nat} {ds : List PyData} (r : FgA w k ds) : Fg w (k + 1) (.list ds) :=
  ⟨by simp only [PyData.showable]; exact r.sh, by simp only [PyData.depth]; exact Nat.succ_le_succ r.dp, by simp only [PyData.leavesShort]; exact r.lv, by simp only [PyData.weight]; exact r.wt⟩
theorem Fg.tuple {w k : Nat} {ds : List PyData} (r : FgA w k ds) : Fg w (k + 1) (.tuple ds) :=
  ⟨by simp only [PyData.showable]; exact r.sh, by simp only [PyData.depth]; exact Nat.succ_le_succ r.dp, by simp only [PyData.leavesShort]; exact r.lv, by simp only [PyData.weight]; exact r.wt⟩
theorem FgK.nil : FgK 0 0 [] := ⟨by simp only [PyData.showableKv], by simp only [PyData.depthKv, Nat.le_refl], by simp only [PyData.leavesShortKv], by simp only [PyData.weightKv, Nat.le_refl]⟩
theorem FgK.cons {w k w1 k1 w' k' : Nat} {d e : PyData} {ds : List (PyData × PyData)} (h : Fg w k d) (h1 : Fg w1 k1 e) (r : FgK w' k' ds) : FgK (w + w1 + 2 + w') (max (max k k1) k') ((d, e) :: ds) := by
  refine ⟨?_, ?_, ?_, ?_⟩
  · simp only [PyData.showableKv, h.sh, h1.sh, r.sh, Bool.and_self]
  · simp only [PyData.depthKv]
    have := h.dp
    have := h1.dp
    have := r.dp
    omega
  · simp only [PyData.leavesShortKv, h.lv, h1.lv, r.lv, Bool.and_self]
  · simp only [PyData.weightKv]
    have := h.wt
    have := h1.wt
    have := r.wt
    omega
theorem Fg.dict {w k : Nat} {ds : List (PyData × PyData)} (r : FgK w k ds) : Fg w (k + 1) (.dict ds) :=
  ⟨by simp only [PyData.showable]; exact r.sh, by simp only [PyData.depth]; exact Nat.succ_le_succ r.dp, by simp only [PyData.leavesShort]; exact r.lv, by simp only [PyData.weight]; exact r.wt⟩
theorem Fg.g {w k : Nat} {d : PyData} (h : Fg w k d) (hk : k ≤ 30 := by decide) (hw : w ≤ 16000 := by decide) : ShowG d := by
  refine ⟨h.sh, Nat.le_trans h.dp hk, ?_⟩
  have e := PyData.shown_le 1000 (by decide) d h.lv
  have e2 := h.wt
  have e3 : (1000 + 2) * d.weight ≤ 1002 * 16000 := Nat.mul_le_mul (Nat.le_refl _) (Nat.le_trans e2 hw)
  have e4 := sizeLine_eq
  omega
end Lf

set_option Elab.async false
set_option linter.all false
set_option maxRecDepth 100000
set_option maxHeartbeats 4000000
set_option exponentiation.threshold 3000
/-! == by an own __eq__ that tells True or False, repr by an own __repr__, where no guard stands. -/
namespace Lf
open PySem PySem.Spec PyProof.Rows L2
/-- the special method m of the class at C, and what it promises -/
structure OwnM (P : Program) (w : World) (K : PySem.W.Frag) (mg : Str → Option Value) (base : Heap) (k : Nat) (C : Addr) (m : Str) (f : Addr) (fd : FuncData) (ps : List Str) (sp : Sp) : Prop where
  at_ : PySem.W.findIn K (.ref C) m = some (some (.ref f))
  isf : PySem.W.isFn K (.ref f) = true
  fn : FnG P w K mg base CX0 k f fd ps sp
  b : ∀ (s : Shared) (us : List Value), us.length = ps.length → BindsTo s fd ⟨us, []⟩ (ps.zip us)
section
variable {X : Cx} {k : Nat} {f C : Addr} {fd : FuncData} {ps : List Str} {sp : Sp} {m : Str}
/-- a special method runs on an object, in the caller's around or just below it -/
theorem OwnM.run (M : OwnM X.prog X.w X.K X.mg X.base k C m f fd ps sp) {B : Around} (hr : Room k B) (hG : B.guards = some []) (hf : B.frames = X.A.frames) {pins : List (Addr × Obj)} {σ : L2.St} {H : Hp} {s : Shared} {Q : VK} {us : List Value} {vs : List V}
    (I : Inv X pins σ H s) (r : Vals vs us) (h : sp vs H Q E0) : wpAny (model X.prog X.w) B (call (.ref f) us) (EP X pins σ Q) X.xe s := by
  have e := I.env0
  have e0 : Env0 X.prog X.w X.K X.mg X.base B X.stack s H := { frames := hf ▸ e.frames, mod := e.mod, bs := e.bs, bsz := e.bsz, funs := e.funs, frf := e.frf, hok := e.hok, bare := e.bare }
  have hl : us.length = ps.length := r.length ▸ M.fn.size _ _ _ _ h
  refine wpAny_call (codeAny_mono (M.fn.goes B X.stack s H ⟨us, []⟩ us vs Q E0 hr hG e0 (M.b s us hl) r h) fun z s' q => ?_)
  match z, q with
  | .ok (.ret u), q => exact I.after q
/-- the object's class, as the library looks at it -/
theorem ins_at {pins : List (Addr × Obj)} {σ : L2.St} {H : Hp} {s : Shared} {a dx : Addr} {fs : List (Str × V)} (I : Inv X pins σ H s) (e : H a = some (.ins C dx fs)) : ∃ od, PySem.W.InstAt s.heap a (PySem.W.instObj C dx) C (some od) := by
  obtain ⟨mA, J, _⟩ := ins_get I.hok e
  obtain ⟨od, J, _⟩ := J.look
  exact ⟨od, J⟩
/-- x == y, x an object of the class at C -/
def rEqO (K : PySem.W.Frag) (C : Addr) (sp : Sp) : R2 := fun x y H Q => ∃ (a dx : Addr) (fs : List (Str × V)) (t : Value), x = .ref a ∧ H a = some (.ins C dx fs) ∧ TyX K H y t ∧ PySem.W.notFirst K C t = true ∧ sp [x, y] H (fun v H' => ∃ b, v = .bl b ∧ Q (.bl b) H') E0
theorem op_eqO (M : OwnM X.prog X.w X.K X.mg X.base k C "__eq__" f fd ps sp) (hr : Room k X.A) (hG : X.A.guards = some []) : OpR X (compareOp .Eq) (rEqO X.K C sp) := by
  rintro pins s σ H x y v u Q I rx ry ⟨a, dx, fs, t, rfl, ea, ty, hn, q⟩
  cases (show v = Value.ref a from rx)
  obtain ⟨od, J⟩ := ins_at I ea
  obtain ⟨m, hF⟩ := I.fr
  obtain ⟨T, kit, hT, _⟩ := kit_of I ry ty
  refine PySem.W.cmp_K (op := .Eq) hr.units0 hF I.ok.mod.kin J (kit.ty _ _ I.kIn hT) hn M.at_ M.isf ?_
  refine wpAny_mono (M.run (vs := [V.ref a, y]) hr hG rfl I (.cons rfl (.cons ry .nil)) q) (fun z s' hz => ?_) fun _ _ e => e
  obtain ⟨zv, H', I', rz, b, rfl, hq⟩ := hz
  cases rz
  exact ⟨.bl b, H', I', rfl, hq⟩
/-- the same, the module's part given -/
theorem op_eqOK {K : PySem.W.Frag} (M : OwnM X.prog X.w X.K X.mg X.base k C "__eq__" f fd ps sp) (hr : Room k X.A) (hG : X.A.guards = some []) (hK : X.K = K := by rfl) : OpR X (compareOp .Eq) (rEqO K C sp) := hK ▸ op_eqO M hr hG
/-- repr(x), x an object of the class at C -/
def rReprO (C : Addr) (sp : Sp) : List V → Hp → VK → Prop := fun xs H Q => ∃ (a dx : Addr) (fs : List (Str × V)), xs = [.ref a] ∧ H a = some (.ins C dx fs) ∧ sp [.ref a] H (fun v H' => ∃ t, v = .str t ∧ Q (.str t) H') E0
theorem call_reprO (M : OwnM X.prog X.w X.K X.mg X.base k C "__repr__" f fd ps sp) (hr : Room (k + 1) X.A) (hG : X.A.guards = some []) : CallR X (.builtin "repr") (rReprO C sp) := by
  rintro pins s σ H xs us Q I r ⟨a, dx, fs, rfl, ea, q⟩
  obtain ⟨u, rfl, r1⟩ := vals1 r
  cases (show u = Value.ref a from r1)
  obtain ⟨od, J⟩ := ins_at I ea
  obtain ⟨m, hF⟩ := I.fr
  refine PySem.W.repr_K hr.in1.units0 hF I.ok.mod.kin J M.at_ M.isf ?_
  refine wpAny_mono (M.run (vs := [V.ref a]) hr.in1 hG rfl I (.cons rfl .nil) q) (fun z s' hz => ?_) fun _ _ e => e
  obtain ⟨zv, H', I', rz, t, rfl, hq⟩ := hz
  obtain ⟨tk, rfl⟩ := rz
  exact ⟨.str t, H', I', ⟨tk, rfl⟩, hq⟩
/-- o.m(k = e, ..): by names alone, in the parameters' order -/
theorem pe_meGK {pl : Sem Bool} {ks : List Str} {o : Expr} {kws : List Keyword} {ta : TE} {tk : TA} {pos apos : Pos} (he : PE X o ta) (M : MetG X.prog X.w X.K X.mg X.base CX0 k C m f fd ps sp) (hb : ∀ (s : Shared) (u : Value) (us : List Value), us.length = ks.length → BindsTo s fd ⟨[u], ks.zip us⟩ (ps.zip (u :: us))) (hr : Room k X.A) (hG : X.A.guards = some []) (hp : ps.length = ks.length + 1)
    (hk : PK X kws tk) (hks : (backToKw pos (keywordEach kws X.env)).filterMap (·.1) = ks := by rfl) (hall : (backToKw pos (keywordEach kws X.env)).all (·.1.isSome) = true := by rfl)
    (hpl : ((backTo pos (starEach [] X.env)).any (·.1) || (backToKw pos (keywordEach kws X.env)).any (·.1.isNone)) = false := by rfl)
    (ht : eval (.Call (.Attribute o m apos) [] kws pos) X.env = (do
      let ov ← eval o X.env
      standAt apos.atName
      let (g, first) ← holding [ov] (getMethod ov m pl)
      callWith pos g first (backTo pos (starEach [] X.env)) (backToKw pos (keywordEach kws X.env))) := by rfl) : PE X (.Call (.Attribute o m apos) [] kws pos) (tMeG C m sp (fun _ => E0) ta tk) := by
  refine ⟨fun pins s σ H Q I h => PySem.W.methodCall_KW (pl := pl) (thn (he.run pins s σ H _ I h) fun u s1 ⟨x, H1, I1, rx, a, dx, fs, ex, ea, l, q⟩ => ?_) ht⟩
  subst ex
  cases (show u = Value.ref a from rx)
  refine getmeth_ok I1 ea M.c M.m l (PySem.W.callWith_KW0 (first := [.ref a]) (h₀ := X.base) I.ok.mod.kin M.m.kp hall (thn (hk.run pos pins s1 σ H1 _ I1 q) fun us s2 ⟨vs, H2, I2, r, q2⟩ => ⟨I2.kIn, ?_⟩) hpl)
  rw [hks]
  have hl := M.fn.size _ _ _ _ q2
  have hl2 : us.length = ks.length := by
    have := r.length
    rw [List.length_cons] at hl
    omega
  exact run_g (ar := ⟨[.ref a], ks.zip us⟩) (us := .ref a :: us) (vs := .ref a :: vs) M.fn hr hG pass_no I2 (hb s2 (.ref a) us hl2) (.cons rfl r) q2
end
end Lf

set_option Elab.async false
set_option linter.all false
set_option maxRecDepth 100000
set_option maxHeartbeats 4000000
set_option exponentiation.threshold 3000
/-! Rows of fractions as data: shown, compared. -/
namespace Lf
open PySem PySem.Spec PyProof.Rows L2
section
variable {K : PySem.W.Frag}
theorem tD_shaped (f : Int × Int) : SeqAt.shaped (tD f) = true := by
  unfold SeqAt.shaped
  rw [Bool.and_eq_true]
  refine ⟨by simp only [tD, PyData.canLay0, PyData.canLayAll0, Bool.and_self], decide_eq_true ?_⟩
  simp only [tD, PyData.depth, PyData.depthAll]
  omega
theorem AtK.dp {H : Hp} {v : V} {f : Int × Int} (h : AtK K H v f) : Dp K H v (tD f) := by
  obtain ⟨p, rfl, hp⟩ := h
  exact dp2 hp
theorem AtKs.dpAll {H : Hp} : ∀ {vs : List V} {fs : List (Int × Int)}, AtKs K H vs fs → DpAll K H vs (fs.map tD)
  | _, _, .nil => .nil
  | _, _, .cons ⟨p, e, h⟩ r => by
    subst e
    exact .cons (dp2 h) (AtKs.dpAll r)
theorem row_lay : ∀ fs : List (Int × Int), PyData.canLayAll0 (fs.map tD) = true ∧ PyData.depthAll (fs.map tD) ≤ 1
  | [] => ⟨by simp only [List.map_nil, PyData.canLayAll0], by simp only [List.map_nil, PyData.depthAll]; omega⟩
  | f :: fs => by
    obtain ⟨i1, i2⟩ := row_lay fs
    refine ⟨?_, ?_⟩
    · simp only [List.map_cons, PyData.canLayAll0, i1, tD, PyData.canLay0, Bool.and_self]
    · simp only [List.map_cons, PyData.depthAll, tD, PyData.depth]
      omega
theorem row_shaped (fs : List (Int × Int)) : SeqAt.shaped (.list (fs.map tD)) = true := by
  obtain ⟨i1, i2⟩ := row_lay fs
  unfold SeqAt.shaped
  rw [Bool.and_eq_true]
  refine ⟨by simp only [PyData.canLay0]; exact i1, decide_eq_true ?_⟩
  simp only [PyData.depth]
  omega
theorem eqv_tD (f g : Int × Int) : PyData.eqv (tD f) (tD g) = decide (f = g) := by
  obtain ⟨a, b⟩ := f
  obtain ⟨c, d⟩ := g
  simp only [tD, PyData.eqv, PyData.eqvAll, Bool.and_true]
  by_cases h : (a, b) = (c, d)
  · rw [decide_eq_true h]
    cases h
    simp
  · rw [decide_eq_false h]
    by_cases h1 : a = c
    · by_cases h2 : b = d
      · exact absurd (by rw [h1, h2]) h
      · simp [h2]
    · simp [h1]
theorem row_eqv : ∀ fs : List (Int × Int), PyData.eqvAll (fs.map tD) (fs.map tD) = true
  | [] => by simp only [List.map_nil, PyData.eqvAll]
  | f :: fs => by simp only [List.map_cons, PyData.eqvAll, eqv_tD, row_eqv fs, decide_true, Bool.and_self]
theorem rowD_eqv (fs : List (Int × Int)) : PyData.eqv (.list (fs.map tD)) (.list (fs.map tD)) = true := by
  simp only [PyData.eqv]
  exact row_eqv fs
theorem Ft.intB {k : Nat} {n : Int} (h : n.natAbs < 2 ^ k) (hk : k ≤ 900) (h0 : 0 < k) : Ft k 0 (.int n) := by
  have f := Ft.int (n := n) (Nat.lt_of_lt_of_le h (Nat.pow_le_pow_right (by decide) hk))
  refine ⟨f.sh, f.nd, f.dp, f.lv, ?_⟩
  simp only [PyData.weight]
  have := PySem.Flt.log2_lt_of (by omega) h
  split <;> omega
theorem row_ft {k : Nat} (hk : k ≤ 900) (h0 : 0 < k) : ∀ fs : List (Int × Int), (∀ f ∈ fs, Bt k f) → FtA ((2 * k + 3) * fs.length) 1 (fs.map tD)
  | [], _ => by
    have := FtA.nil
    exact ⟨this.sh, this.nd, Nat.le_trans this.dp (by decide), this.lv, by simpa using this.wt⟩
  | f :: fs, h => by
    have hb := h f List.mem_cons_self
    have f1 : Ft _ _ (tD f) := Ft.tuple (.cons (Ft.intB hb.1 hk h0) (.cons (Ft.intB hb.2 hk h0) .nil))
    have r := FtA.cons f1 (row_ft hk h0 fs fun g hg => h g (List.mem_cons_of_mem _ hg))
    rw [List.map_cons]
    refine ⟨r.sh, r.nd, Nat.le_trans r.dp (by decide), r.lv, Nat.le_trans r.wt ?_⟩
    rw [List.length_cons, Nat.mul_succ]
    omega
theorem cut_last (ys : List V) (x : V) : cutV (ys ++ [x]) none (some (-1)) = ys := by
  unfold cutV
  have h1 : HT.sIx (ys ++ [x]).length 0 none = 0 := by simp [HT.sIx]
  have h2 : HT.sIx (ys ++ [x]).length (ys ++ [x]).length (some (-1)) = ys.length := by
    simp [HT.sIx]
    omega
  rw [h1, h2]
  simp
theorem rowD {H : Hp} {l : Addr} {xs : List V} {fs : List (Int × Int)} (h : SqL K H l xs) (a : AtKs K H xs fs) : Dp K H (.ref l) (.list (fs.map tD)) := .lst h a.dpAll
theorem pg_tupK {X : Cx} {K : PySem.W.Frag} {es : List Expr} {k : Nat} {t : TGs} {n : Nat} {pos : Pos} (hc : X.calm = true) (h : PGs X es t)
    (hn : (assignEach es X.env).length = n := by rfl) (hst : (assignEach es X.env).findIdx? (·.1) = none := by rfl) (hK : X.K = K := by rfl) : PG X (.Tuple es k pos) (gTup K n t) := hK ▸ pg_tup hc h hn hst
end
end Lf

set_option Elab.async false
set_option linter.all false
set_option maxRecDepth 100000
set_option maxHeartbeats 4000000
set_option exponentiation.threshold 3000
namespace Lf
open PySem PySem.Spec PyProof.Rows L2
section
variable {P : Program} {w : World} {K : PySem.W.Frag} {mg : Str → Option Value} {base : Heap}
/-- a stuff of the name z and the measures fs -/
def Stf (K : PySem.W.Frag) (H : Hp) (C x : Addr) (z : Str) (fs : List (Int × Int)) : Prop := ∃ (dx pm : Addr) (xs : List V), H x = some (.ins C dx [("own_name", .str z), ("measures", .ref pm)]) ∧ SqT K H pm xs ∧ AtKs K H xs fs
theorem Stf.same {H H' : Hp} {C x : Addr} {z : Str} {fs : List (Int × Int)} (s : Same H H') (h : Stf K H C x z fs) : Stf K H' C x z fs := by
  obtain ⟨dx, pm, xs, h1, h2, h3⟩ := h
  exact ⟨dx, pm, xs, s _ _ h1, sm_t s h2, h3.same s⟩
theorem inV_str (z : Str) : ∀ ts : List Str, inV (.str z) (ts.map V.str) = decide (z ∈ ts)
  | [] => by simp [inV]
  | t :: ts => by
    have ih := inV_str z ts
    unfold inV at ih ⊢
    rw [List.map_cons, List.any_cons, ih]
    show ((t == z) || _) = _
    by_cases h : t = z
    · subst h
      simp
    · have h' : ¬ z = t := fun q => h q.symm
      simp [h, h']
theorem flat_str (ts : List Str) : (ts.map V.str).all flatV = true := by
  rw [List.all_eq_true]
  intro v hv
  obtain ⟨t, _, rfl⟩ := List.mem_map.mp hv
  rfl

/-! ### is_one_of -/
abbrev s_is_one_of : Stmt := topS 18
theorem sc_is_one_of : FnScope ["thing", "names"] ["thing", "names"] (defScope s_is_one_of) := ⟨rfl, rfl, rfl, by decide +kernel, rfl, by decide +kernel, by decide +kernel⟩
/-- a text, and a tuple of texts -/
def sp_oneof (K : PySem.W.Frag) : Sp := fun vs H Q _ => ∃ (z : Str) (p : Addr) (ts : List Str), vs = [.str z, .ref p] ∧ SqT K H p (ts.map V.str) ∧ Q (.bl (decide (z ∈ ts))) H
theorem ok_oneof {f : Addr} {fd : FuncData} (M : Blt mg) (Mx : Bltx mg) (F : Fun K "is_one_of" "is_one_of" s_is_one_of f fd) : FnG P w K mg base CX0 1 f fd ["thing", "names"] (sp_oneof K) := by
  refine Gfun F sc_is_one_of (fun vs H Q E h => ?_) (fun cdv A outer s H vs Q E hg hr h => ?_)
  · obtain ⟨z, p, ts, rfl, _⟩ := h
    rfl
  · obtain ⟨z, p, ts, rfl, hp, k⟩ := h
    refine ⟨_, (pss_one (ps_ret (pe_and (pe_callB call_isi rfl Mx.isinstance bt_isinstance (pa_cons (pv 0) (pa_cons (pe_bltn (v := .ty "str") rfl M.str bt_str rfl) pa_nil))) (pe_one (pe_cmpR op_in_seq (pv 0) (pv 1) rfl))))), ?_⟩
    refine ⟨_, rfl, _, _, _, _, _, rfl, .ty "str", .base (.str z), kit_ty (show kitB "str" "str" = some true by decide +kernel), _, rfl, iteT ?_⟩
    refine ⟨_, rfl, _, rfl, p, _, rfl, .inr hp, rfl, flat_str ts, ?_⟩
    rw [inV_str]
    exact k

/-! ### Stuff.name -/
abbrev s_mname : Stmt := inCls (topS 25) 3
theorem sc_mname : FnScope ["self"] ["self"] (defScope s_mname) := ⟨rfl, rfl, rfl, by decide +kernel, rfl, by decide +kernel, by decide +kernel⟩
def sp_mname (K : PySem.W.Frag) (C : Addr) : Sp := fun vs H Q _ => ∃ (x : Addr) (z : Str) (fs : List (Int × Int)), vs = [.ref x] ∧ Stf K H C x z fs ∧ Q (.str z) H
theorem ok_mname {C f : Addr} {fd : FuncData} (c : Cls K C) (n1 : NoAttr K C "own_name") (F : Fun K "name" "Stuff.name" s_mname f fd) : FnG P w K mg base CX0 1 f fd ["self"] (sp_mname K C) := by
  refine Gfun F sc_mname (fun vs H Q E h => ?_) (fun cdv A outer s H vs Q E hg hr h => ?_)
  · obtain ⟨x, z, fs, rfl, _⟩ := h
    rfl
  · obtain ⟨x, z, fs, rfl, ⟨dx, pm, xs, h1, h2, h3⟩, k⟩ := h
    exact ⟨_, (pss_one (ps_ret (pe_fld (pv 0) rfl))), _, rfl, x, C, dx, _, _, rfl, h1, c, n1, rfl, k⟩

/-! ### Stuff.measure -/
abbrev s_measure : Stmt := inCls (topS 25) 9
theorem sc_measure : FnScope ["self", "word"] ["self", "word"] (defScope s_measure) := ⟨rfl, rfl, rfl, by decide +kernel, rfl, by decide +kernel, by decide +kernel⟩
def sp_measure (K : PySem.W.Frag) (C : Addr) : Sp := fun vs H Q _ => ∃ (x : Addr) (z wd : Str) (fs : List (Int × Int)) (i : Nat) (f : Int × Int), vs = [.ref x, .str wd] ∧ Stf K H C x z fs ∧ words[i]? = some wd ∧ fs[i]? = some f ∧ ∀ v, AtK K H v f → Q v H
theorem ok_measure {C f cw : Addr} {fd : FuncData} (c : Cls K C) (n2 : NoAttr K C "measures") (gw : mg "WORDS" = some (.ref cw)) (tw : ∀ H, SqT K H cw (words.map V.str)) (kw : ∃ o, K.lookup cw = some o ∧ o.cls = .type "tuple" ∧ o.dict = none) (F : Fun K "measure" "Stuff.measure" s_measure f fd) (C_is_one_of : Cal P w K mg base CX0 1 "is_one_of" ["thing", "names"] (sp_oneof K)) : FnG P w K mg base CX0 2 f fd ["self", "word"] (sp_measure K C) := by
  refine Gfun F sc_measure (fun vs H Q E h => ?_) (fun cdv A outer s H vs Q E hg hr h => ?_)
  · obtain ⟨x, z, wd, fs, i, f, rfl, _⟩ := h
    rfl
  · obtain ⟨x, z, wd, fs, i, f, rfl, ⟨dx, pm, xs, h1, h2, h3⟩, hw, hf, k⟩ := h
    refine ⟨_, (pss_cons (ps_if (pt_not (pt_val (pe_g C_is_one_of (hr.mono (by decide)) hg (pa_cons (pv 1) (pa_cons (pe_glob (v := .ref cw) rfl gw rfl) pa_nil)))))
      (pss_one ps_dead)
      pss_nil)
      (pss_one (ps_ret (pe_ix ix_tup (pe_fld (pv 0) rfl) (pe_bm PySem.F.plainAttrs_tuple PySem.F.slot_tuple_index PySem.F.type_tuple_index mt_tup_index (pe_glob (v := .ref cw) rfl gw rfl) (pa_cons (pv 1) pa_nil)) (fun _ _ => rfl))))), ?_⟩
    refine ⟨_, rfl, wd, cw, words, rfl, tw H, _, rfl, ?_⟩
    have hin : wd ∈ words := List.mem_of_getElem? hw
    rw [decide_eq_true hin]
    refine iteF ?_
    obtain ⟨v, hv, hat⟩ := h3.getF hf
    have uniq : ∀ m, m < i → words[m]? ≠ some wd := by
      have hi5 : i < 5 := (List.getElem?_eq_some_iff.mp hw).1
      have all : ∀ a < 5, ∀ b < a, words[b]? ≠ words[a]? := by decide +kernel
      intro m hm e
      exact all i hi5 m hm (by rw [e, hw])
    refine ⟨_, rfl, x, C, dx, _, _, rfl, h1, c, n2, rfl, ?_⟩
    refine ⟨.inr (.inl ⟨rfl, kw⟩), _, rfl, cw, words, wd, i, rfl, rfl, tw H, hw, uniq, ?_⟩
    exact ⟨pm, _, _, v, rfl, rfl, h2, atI_nat hv, k v hat⟩

def sp_one (K : PySem.W.Frag) (C : Addr) (i : Nat) : Sp := fun vs H Q _ => ∃ (x : Addr) (z : Str) (fs : List (Int × Int)) (f : Int × Int), vs = [.ref x] ∧ Stf K H C x z fs ∧ fs[i]? = some f ∧ ∀ v, AtK K H v f → Q v H
/-! ### Stuff.flour -/
abbrev s_m_flour : Stmt := inCls (topS 25) 4
theorem sc_m_flour : FnScope ["self"] ["self"] (defScope s_m_flour) := ⟨rfl, rfl, rfl, by decide +kernel, rfl, by decide +kernel, by decide +kernel⟩
theorem ok_m_flour {C f fm : Addr} {fd fdm : FuncData} (MM : MetG P w K mg base CX0 2 C "measure" fm fdm ["self", "word"] (sp_measure K C)) (F : Fun K "flour" "Stuff.flour" s_m_flour f fd) : FnG P w K mg base CX0 3 f fd ["self"] (sp_one K C 0) := by
  refine Gfun F sc_m_flour (fun vs H Q E h => ?_) (fun cdv A outer s H vs Q E hg hr h => ?_)
  · obtain ⟨x, z, fs, f, rfl, _⟩ := h
    rfl
  · obtain ⟨x, z, fs, f, rfl, S, hf, k⟩ := h
    obtain ⟨dx, pm, xs, h1, h2, h3⟩ := id S
    exact ⟨_, (pss_one (ps_ret (pe_meG (pv 0) MM (hr.mono (by decide)) hg (fun _ => pass_no) (pa_cons pe_str pa_nil)))), _, rfl, x, dx, _, rfl, h1, rfl, x, z, "flour", fs, 0, f, rfl, S, rfl, hf, k⟩

/-! ### Stuff.water -/
abbrev s_m_water : Stmt := inCls (topS 25) 5
theorem sc_m_water : FnScope ["self"] ["self"] (defScope s_m_water) := ⟨rfl, rfl, rfl, by decide +kernel, rfl, by decide +kernel, by decide +kernel⟩
theorem ok_m_water {C f fm : Addr} {fd fdm : FuncData} (MM : MetG P w K mg base CX0 2 C "measure" fm fdm ["self", "word"] (sp_measure K C)) (F : Fun K "water" "Stuff.water" s_m_water f fd) : FnG P w K mg base CX0 3 f fd ["self"] (sp_one K C 1) := by
  refine Gfun F sc_m_water (fun vs H Q E h => ?_) (fun cdv A outer s H vs Q E hg hr h => ?_)
  · obtain ⟨x, z, fs, f, rfl, _⟩ := h
    rfl
  · obtain ⟨x, z, fs, f, rfl, S, hf, k⟩ := h
    obtain ⟨dx, pm, xs, h1, h2, h3⟩ := id S
    exact ⟨_, (pss_one (ps_ret (pe_meG (pv 0) MM (hr.mono (by decide)) hg (fun _ => pass_no) (pa_cons pe_str pa_nil)))), _, rfl, x, dx, _, rfl, h1, rfl, x, z, "water", fs, 1, f, rfl, S, rfl, hf, k⟩

/-! ### Stuff.salt -/
abbrev s_m_salt : Stmt := inCls (topS 25) 6
theorem sc_m_salt : FnScope ["self"] ["self"] (defScope s_m_salt) := ⟨rfl, rfl, rfl, by decide +kernel, rfl, by decide +kernel, by decide +kernel⟩
theorem ok_m_salt {C f fm : Addr} {fd fdm : FuncData} (MM : MetG P w K mg base CX0 2 C "measure" fm fdm ["self", "word"] (sp_measure K C)) (F : Fun K "salt" "Stuff.salt" s_m_salt f fd) : FnG P w K mg base CX0 3 f fd ["self"] (sp_one K C 2) := by
  refine Gfun F sc_m_salt (fun vs H Q E h => ?_) (fun cdv A outer s H vs Q E hg hr h => ?_)
  · obtain ⟨x, z, fs, f, rfl, _⟩ := h
    rfl
  · obtain ⟨x, z, fs, f, rfl, S, hf, k⟩ := h
    obtain ⟨dx, pm, xs, h1, h2, h3⟩ := id S
    exact ⟨_, (pss_one (ps_ret (pe_meG (pv 0) MM (hr.mono (by decide)) hg (fun _ => pass_no) (pa_cons pe_str pa_nil)))), _, rfl, x, dx, _, rfl, h1, rfl, x, z, "salt", fs, 2, f, rfl, S, rfl, hf, k⟩

/-! ### Stuff.thirst -/
abbrev s_m_thirst : Stmt := inCls (topS 25) 7
theorem sc_m_thirst : FnScope ["self"] ["self"] (defScope s_m_thirst) := ⟨rfl, rfl, rfl, by decide +kernel, rfl, by decide +kernel, by decide +kernel⟩
theorem ok_m_thirst {C f fm : Addr} {fd fdm : FuncData} (MM : MetG P w K mg base CX0 2 C "measure" fm fdm ["self", "word"] (sp_measure K C)) (F : Fun K "thirst" "Stuff.thirst" s_m_thirst f fd) : FnG P w K mg base CX0 3 f fd ["self"] (sp_one K C 3) := by
  refine Gfun F sc_m_thirst (fun vs H Q E h => ?_) (fun cdv A outer s H vs Q E hg hr h => ?_)
  · obtain ⟨x, z, fs, f, rfl, _⟩ := h
    rfl
  · obtain ⟨x, z, fs, f, rfl, S, hf, k⟩ := h
    obtain ⟨dx, pm, xs, h1, h2, h3⟩ := id S
    exact ⟨_, (pss_one (ps_ret (pe_meG (pv 0) MM (hr.mono (by decide)) hg (fun _ => pass_no) (pa_cons pe_str pa_nil)))), _, rfl, x, dx, _, rfl, h1, rfl, x, z, "thirst", fs, 3, f, rfl, S, rfl, hf, k⟩

/-! ### Stuff.price -/
abbrev s_m_price : Stmt := inCls (topS 25) 8
theorem sc_m_price : FnScope ["self"] ["self"] (defScope s_m_price) := ⟨rfl, rfl, rfl, by decide +kernel, rfl, by decide +kernel, by decide +kernel⟩
theorem ok_m_price {C f fm : Addr} {fd fdm : FuncData} (MM : MetG P w K mg base CX0 2 C "measure" fm fdm ["self", "word"] (sp_measure K C)) (F : Fun K "price" "Stuff.price" s_m_price f fd) : FnG P w K mg base CX0 3 f fd ["self"] (sp_one K C 4) := by
  refine Gfun F sc_m_price (fun vs H Q E h => ?_) (fun cdv A outer s H vs Q E hg hr h => ?_)
  · obtain ⟨x, z, fs, f, rfl, _⟩ := h
    rfl
  · obtain ⟨x, z, fs, f, rfl, S, hf, k⟩ := h
    obtain ⟨dx, pm, xs, h1, h2, h3⟩ := id S
    exact ⟨_, (pss_one (ps_ret (pe_meG (pv 0) MM (hr.mono (by decide)) hg (fun _ => pass_no) (pa_cons pe_str pa_nil)))), _, rfl, x, dx, _, rfl, h1, rfl, x, z, "price", fs, 4, f, rfl, S, rfl, hf, k⟩

/-! ### Stuff.__eq__ -/
abbrev s_eq : Stmt := inCls (topS 25) 1
theorem sc_eq : FnScope ["self", "other"] ["self", "other"] (defScope s_eq) := ⟨rfl, rfl, rfl, by decide +kernel, rfl, by decide +kernel, by decide +kernel⟩
/-- what is no stuff -/
def Alien (K : PySem.W.Frag) (H : Hp) (C : Addr) (y : V) : Prop := ∃ T : String, TyX K H y (.type T) ∧ PySem.W.kitOne K (.type T) (.ref C) = some false ∧ PySem.W.notFirst K C (.type T) = true
/-- the class at C, as isinstance asks it -/
structure ClsX (K : PySem.W.Frag) (C : Addr) : Prop where
  c : Cls K C
  ha : PySem.W.findIn K (.ref C) "__class__" = some (some (.builtin "object.__class__"))
  hn : PySem.W.specialIn K (.builtin "object.__class__") "__get__" = some (some (.builtin "getset_descriptor.__get__"))
  ht : PySem.W.takesIn K (.builtin "object.__class__") = some true
  hm : PySem.W.mroIn K C (.type "object") = some true
theorem ClsX.ty {H : Hp} {C a dx : Addr} {fs : List (Str × V)} (c : ClsX K C) (e : H a = some (.ins C dx fs)) : TyX K H (.ref a) (.ref C) := .base (.ins e c.c c.ha c.hn c.ht c.hm)
theorem kit_self (C : Addr) : PySem.W.kitOne K (.ref C) (.ref C) = some true := by unfold PySem.W.kitOne; rw [if_pos (by simp)]
def sp_seq (K : PySem.W.Frag) (C : Addr) : Sp := fun vs H Q _ => ∃ (x : Addr) (y : V) (z : Str) (fs : List (Int × Int)), vs = [.ref x, y] ∧ Stf K H C x z fs ∧
  ((Alien K H C y ∧ Q (.bl false) H) ∨ ∃ (x' : Addr) (z' : Str) (fs' : List (Int × Int)), y = .ref x' ∧ Stf K H C x' z' fs' ∧ Q (.bl (decide (z = z' ∧ fs = fs'))) H)
theorem tup_shaped (fs : List (Int × Int)) : SeqAt.shaped (.tuple (fs.map tD)) = true := by
  obtain ⟨i1, i2⟩ := row_lay fs
  unfold SeqAt.shaped
  rw [Bool.and_eq_true]
  refine ⟨by simp only [PyData.canLay0]; exact i1, decide_eq_true ?_⟩
  simp only [PyData.depth]
  omega
theorem rows_eqv : ∀ fs gs : List (Int × Int), PyData.eqvAll (fs.map tD) (gs.map tD) = decide (fs = gs)
  | [], [] => by simp [PyData.eqvAll]
  | [], _ :: _ => by simp [PyData.eqvAll]
  | _ :: _, [] => by simp [PyData.eqvAll]
  | f :: fs, g :: gs => by
    rw [List.map_cons, List.map_cons, PyData.eqvAll, eqv_tD, rows_eqv fs gs]
    by_cases h : f = g
    · subst h
      simp
    · simp [h]
theorem ok_seq {C f : Addr} {fd : FuncData} (Mx : Bltx mg) (X : ClsX K C) (n1 : NoAttr K C "own_name") (n2 : NoAttr K C "measures") (gS : mg "Stuff" = some (.ref C)) (F : Fun K "__eq__" "Stuff.__eq__" s_eq f fd) : FnG P w K mg base CX0 1 f fd ["self", "other"] (sp_seq K C) := by
  refine Gfun F sc_eq (fun vs H Q E h => ?_) (fun cdv A outer s H vs Q E hg hr h => ?_)
  · obtain ⟨x, y, z, fs, rfl, _⟩ := h
    rfl
  · obtain ⟨x, y, z, fs, rfl, ⟨dx, pm, xs, h1, h2, h3⟩, k⟩ := h
    refine ⟨_, (pss_one (ps_ret (pe_and (pe_callB call_isi rfl Mx.isinstance bt_isinstance (pa_cons (pv 1) (pa_cons (pe_glob (v := .ref C) rfl gS rfl) pa_nil))) (pe_and (pe_cmpR op_eq (pe_fld (pv 0) rfl) (pe_fld (pv 1) rfl) (nomark _)) (pe_one (pe_cmpR (op_eqD hr.units) (pe_fld (pv 0) rfl) (pe_fld (pv 1) rfl) (nomark _))))))), ?_⟩
    rcases k with ⟨⟨T, hT, hk, _⟩, k⟩ | ⟨x', z', fs', rfl, ⟨dx', pm', xs', h1', h2', h3'⟩, k⟩
    · exact ⟨_, rfl, _, _, _, _, _, rfl, .own C, hT, hk, _, rfl, iteF k⟩
    · refine ⟨_, rfl, _, _, _, _, _, rfl, .own C, X.ty h1', kit_self C, _, rfl, iteT ?_⟩
      refine ⟨_, rfl, x, C, dx, _, _, rfl, h1, X.c, n1, rfl, _, rfl, x', C, dx', _, _, rfl, h1', X.c, n1, rfl, rfl, _, rfl, ite2 (fun e => ?_) (fun e => ?_)⟩
      · have ez : z = z' := V.str.inj (of_decide_eq_true e)
        refine ⟨_, rfl, x, C, dx, _, _, rfl, h1, X.c, n2, rfl, _, rfl, x', C, dx', _, _, rfl, h1', X.c, n2, rfl, ?_⟩
        refine ⟨_, _, .tup h2 (AtKs.dpAll h3), .tup h2' (AtKs.dpAll h3'), tup_shaped fs, tup_shaped fs', ?_⟩
        have e2 : PyData.eqv (.tuple (fs.map tD)) (.tuple (fs'.map tD)) = decide (fs = fs') := by
          simp only [PyData.eqv]
          exact rows_eqv fs fs'
        rw [e2]
        have e3 : decide (z = z' ∧ fs = fs') = decide (fs = fs') := by
          by_cases q : fs = fs' <;> simp [ez, q]
        rw [e3] at k
        exact k
      · have nz : ¬ z = z' := fun q => e (decide_eq_true (by rw [q]))
        rw [decide_eq_false (fun q => nz q.1)] at k
        exact k

/-! ### Stuff.__repr__ -/
abbrev s_repr : Stmt := inCls (topS 25) 2
theorem sc_repr : FnScope ["self", "words", "told"] ["self"] (defScope s_repr) := ⟨rfl, rfl, rfl, by decide +kernel, rfl, by decide +kernel, by decide +kernel⟩
/-- the texts of a stuff's six -/
def stfWords (z : Str) (fs : List (Int × Int)) : List Str := reprText z :: fs.map fun f => (tD f).shown
def stfText (z : Str) (fs : List (Int × Int)) : Str := Str.ofString "Stuff(" ++ Txt.join (Str.ofString ", ") (stfWords z fs) ++ Str.ofString ")"

theorem empty_app (x : Str) : Str.empty ++ x = x := by
  show (⟨#[] ++ x.cps⟩ : Str) = x
  simp
theorem shown_len {w k : Nat} {d : PyData} (h : Ft w k d) : d.shown.length ≤ 1002 * w + 1000 := by
  have e := PyData.shown_le 1000 (by decide) d h.lv
  have e2 : (1000 + 2) * d.weight ≤ 1002 * w := Nat.mul_le_mul (Nat.le_refl _) h.wt
  omega
theorem al_sg {z : Str} (h : AllL z) : Sg z := fun c hc => Nat.lt_of_lt_of_le (inL_lt (h c hc)) (by decide)
/-- what can be told of a stuff -/
structure StOk (z : Str) (fs : List (Int × Int)) : Prop where
  nm : AllL z
  le : z.length ≤ 10
  n5 : fs.length = 5
  bt : ∀ f ∈ fs, Bt 60 f
theorem StOk.ftz {z : Str} {fs : List (Int × Int)} (h : StOk z fs) : Ft 10 0 (.str z) := Ft.str (al_sg h.nm) h.le
theorem bt_ft {f : Int × Int} (h : Bt 60 f) : Ft 122 1 (tD f) := Ft.tuple (.cons (Ft.intB h.1 (by decide) (by decide)) (.cons (Ft.intB h.2 (by decide) (by decide)) .nil))
theorem words_len {z : Str} {fs : List (Int × Int)} (h : StOk z fs) : ∀ t ∈ stfWords z fs, t.length ≤ 123300 := by
  intro t ht
  rcases List.mem_cons.mp ht with rfl | ht
  · have := shown_len h.ftz
    simp only [PyData.shown] at this
    omega
  · obtain ⟨f, hf, rfl⟩ := List.mem_map.mp ht
    have := shown_len (bt_ft (h.bt f hf))
    omega
theorem sum_len_le {b : Nat} : ∀ ts : List Str, (∀ t ∈ ts, t.length ≤ b) → (ts.map (·.length)).sum ≤ b * ts.length
  | [], _ => by simp
  | t :: ts, h => by
    have := sum_len_le ts fun x hx => h x (List.mem_cons_of_mem _ hx)
    have h1 := h t List.mem_cons_self
    rw [List.map_cons, List.sum_cons, List.length_cons, Nat.mul_succ]
    omega
theorem join_len : ∀ (ts : List Str), (Str.join (Str.ofString ", ") ts).length ≤ (ts.map (·.length)).sum + 2 * ts.length
  | [] => by decide
  | [x] => by
    show x.length ≤ _
    simp
  | x :: y :: r => by
    have e : Str.join (Str.ofString ", ") (x :: y :: r) = x ++ Str.ofString ", " ++ Str.join (Str.ofString ", ") (y :: r) := rfl
    have := join_len (y :: r)
    rw [e, PySem.Str.length_append, PySem.Str.length_append, List.map_cons, List.sum_cons, List.length_cons, show (Str.ofString ", ").length = 2 by decide +kernel]
    omega
theorem words_n {z : Str} {fs : List (Int × Int)} (h : StOk z fs) : (stfWords z fs).length = 6 := by
  unfold stfWords
  rw [List.length_cons, List.length_map, h.n5]
theorem words_sum {z : Str} {fs : List (Int × Int)} (h : StOk z fs) : ((stfWords z fs).map (·.length)).sum ≤ 739800 := by
  have := sum_len_le (b := 123300) _ (words_len h)
  rw [words_n h] at this
  omega
theorem joined_len {z : Str} {fs : List (Int × Int)} (h : StOk z fs) : (Txt.join (Str.ofString ", ") (stfWords z fs)).length ≤ 739812 := by
  have h1 := join_len (stfWords z fs)
  have h2 := words_sum h
  rw [words_n h] at h1
  have e : Txt.join (Str.ofString ", ") (stfWords z fs) = Str.join (Str.ofString ", ") (stfWords z fs) := StrLaws.glued_eq_join _ _
  rw [e]
  omega
def sp_srepr (K : PySem.W.Frag) (C : Addr) : Sp := fun vs H Q _ => ∃ (x : Addr) (z : Str) (fs : List (Int × Int)), vs = [.ref x] ∧ Stf K H C x z fs ∧ StOk z fs ∧ ∀ H', Same H H' → Q (.str (stfText z fs)) H'
/-- the six of a stuff, told one by one -/
inductive SixD (K : PySem.W.Frag) (H : Hp) : List V → List PyData → Prop
  | nil : SixD K H [] []
  | cons {v : V} {vs : List V} {d : PyData} {ds : List PyData} : Dp K H v d → (∃ w, Ft w 1 d ∧ w ≤ 122) → SixD K H vs ds → SixD K H (v :: vs) (d :: ds)
theorem SixD.get {H : Hp} : ∀ {vs : List V} {ds : List PyData} {i : Nat} {v : V}, SixD K H vs ds → vs[i]? = some v → ∃ d, ds[i]? = some d ∧ Dp K H v d ∧ ∃ w, Ft w 1 d ∧ w ≤ 122
  | _, _, _, _, .nil, e => by simp at e
  | _, _, 0, _, .cons a b _, e => by
    simp at e
    subst e
    exact ⟨_, rfl, a, b⟩
  | _, _, i + 1, v, .cons _ _ r, e => by
    obtain ⟨d, h1, h2⟩ := SixD.get (i := i) (v := v) r (by simpa using e)
    exact ⟨d, by simpa using h1, h2⟩
theorem SixD.of {H : Hp} : ∀ {vs : List V} {fs : List (Int × Int)}, AtKs K H vs fs → (∀ f ∈ fs, Bt 60 f) → SixD K H vs (fs.map tD)
  | _, _, .nil, _ => .nil
  | _, _, .cons a r, h => by
    obtain ⟨p, rfl, hp⟩ := a
    exact .cons (dp2 hp) ⟨122, bt_ft (h _ List.mem_cons_self), Nat.le_refl _⟩ (SixD.of r fun f hf => h f (List.mem_cons_of_mem _ hf))
theorem words_map (z : Str) (fs : List (Int × Int)) : (PyData.str z :: fs.map tD).map PyData.shown = stfWords z fs := by
  unfold stfWords
  rw [List.map_cons, List.map_map]
  simp only [PyData.shown]
  rfl
theorem ok_srepr {C f : Addr} {fd : FuncData} (M : Blt mg) (c : Cls K C) (n1 : NoAttr K C "own_name") (n2 : NoAttr K C "measures") (F : Fun K "__repr__" "Stuff.__repr__" s_repr f fd) : FnG P w K mg base CX0 1 f fd ["self"] (sp_srepr K C) := by
  refine Gfun F sc_repr (fun vs H Q E h => ?_) (fun cdv A outer s H vs Q E hg hr h => ?_)
  · obtain ⟨x, z, fs, rfl, _⟩ := h
    rfl
  · obtain ⟨x, z, fs, rfl, ⟨dx, pm, xs, h1, h2, h3⟩, ok, k⟩ := h
    refine ⟨_, (pss_cons (ps_setLc (i := 1) (own := [("told", 2)]) (g := gName 2) (tt := tYes) rfl sc_repr.nd rfl rfl (sw_true rfl rfl rfl (by decide +kernel)) (pi_tup (pe_tup (pa_cons (pe_fld (pv 0) rfl) (StX.pa_star (pe_fld (pv 0) rfl) pa_nil)))) (blkOk_by (N := ["self", "words", "told"]) (sc := defScope s_repr) (by decide +kernel)) (fun _ _ _ _ _ => pg_name (i := 2) sc_repr.nd rfl (Or.inl rfl)) (fun _ _ _ _ _ => pts_nil) (fun _ _ _ _ _ => (pe_callB (call_showK (K := K) hg hr) rfl M.repr bt_repr (pa_cons (pv 2) pa_nil))))
      (pss_one (ps_ret (pe_joined (PJ.cons pe_str (PJ.cons (pe_fmt (pe_bm PySem.F.plainAttrs_str PySem.F.slot_str_join PySem.F.type_str_join mt_join pe_str (pa_cons (pv 1) pa_nil))) (PJ.cons pe_str PJ.nil))))))), ?_⟩
    have hxl := h3.length
    have h5 := ok.n5
    refine ⟨_, rfl, x, C, dx, _, _, rfl, h1, c, n1, rfl, _, rfl, x, C, dx, _, _, rfl, h1, c, n2, rfl, pm, xs, rfl, .inl h2, ?_, fun p hp => ?_⟩
    · rw [List.append_nil, List.length_cons, sizeLine_eq]
      omega
    rw [List.append_nil]
    have s1 : Same H (L2.upd H p (.tup (.str z :: xs))) := same_new hp
    have t1 : SqT K (L2.upd H p (.tup (.str z :: xs))) p (.str z :: xs) := .inl (.inl upd_same)
    generalize L2.upd H p (.tup (.str z :: xs)) = H1 at s1 t1 ⊢
    have six : SixD K H1 (.str z :: xs) (PyData.str z :: fs.map tD) := .cons (.str z) ⟨10, ⟨ok.ftz.sh, ok.ftz.nd, Nat.le_trans ok.ftz.dp (by decide), ok.ftz.lv, ok.ftz.wt⟩, by decide⟩ (SixD.of (h3.same s1) ok.bt)
    refine ⟨p, rfl, ⟨_, t1⟩, fun D hD => lc_tup (xs := .str z :: xs) (fun i H' => Same H1 H' ∧ H' D = some (.lst (((stfWords z fs).take i).map V.str))) ⟨same_new hD, upd_same⟩ (fun i H' _ h => sm_t h.1 t1) ?_ ?_⟩
    · rintro i y H2 hy ⟨s2, e2⟩
      obtain ⟨d, hd, hdp, w, hw, hw2⟩ := six.get hy
      have hi := (List.getElem?_eq_some_iff.mp hy).1
      rw [List.length_cons] at hi
      have sh := hw.g (by decide) (by omega)
      refine ⟨rfl, _, rfl, y, d, rfl, .of (Dp.same s2 _ _ hdp), sh.sh, sh.dp, sh.ln, _, e2, ?_, fun b o e => ?_, ?_⟩
      · rw [List.length_map, List.length_take, sizeLine_eq]
        omega
      · rw [upd_ne (ne_of_none e hD)]
        exact s2 _ _ e
      · have hg2 : (stfWords z fs)[i]? = some d.shown := by rw [← words_map, List.getElem?_map, hd]; rfl
        rw [upd_same, List.take_succ, hg2, List.map_append]
        rfl
    · rintro H2 ⟨s2, e2⟩
      rw [List.take_of_length_le (by rw [words_n ok, List.length_cons]; omega)] at e2
      have zl := sizeLine_eq
      have jl := joined_len ok
      have l1 : (Str.ofString "Stuff(").length = 6 := by decide +kernel
      have l2 : (Str.ofString ")").length = 1 := by decide +kernel
      refine ⟨Str.ofString "Stuff(", rfl, ?_, ?_⟩
      · rw [empty_app]
        omega
      rw [empty_app]
      refine ⟨rfl, _, rfl, _, D, stfWords z fs, rfl, rfl, .inl (.inl (.inl e2)), ?_, .inl ⟨_, rfl, by omega, _, rfl, ?_, Str.ofString ")", rfl, ?_, k H2 (s1.trans s2)⟩⟩
      · have := words_sum ok
        rw [words_n ok, show (Str.ofString ", ").length = 2 by decide +kernel]
        omega
      · rw [PySem.Str.length_append]
        omega
      · rw [PySem.Str.length_append, PySem.Str.length_append]
        omega

end
end Lf

set_option Elab.async false
set_option linter.all false
set_option maxRecDepth 100000
set_option maxHeartbeats 4000000
/-! xs[i] += e of a list; promises of defs that let nothing out. -/
namespace Lf
open PySem PySem.Spec PyProof.Rows L2
def rGetN (K : PySem.W.Frag) : V → V → Hp → VK → Prop := fun x y H Q => ∃ (p : Addr) (xs : List V) (n : Nat) (v : V), x = .ref p ∧ y = .int n ∧ SqL K H p xs ∧ xs[n]? = some v ∧ n < 2 ^ 60 ∧ Q v H
theorem get_listN {X : Cx} : PGet X (rGetN X.K) := by
  intro pins s σ H o i ov iv Q I ro ri h
  obtain ⟨p, xs, n, v, rfl, rfl, hq, he, hn, q⟩ := h
  cases ro
  obtain ⟨t, rfl⟩ := ri
  obtain ⟨its, r, pl, hz⟩ := I.list hq
  obtain ⟨w, ew, rw'⟩ := r.get he
  exact getItem_listL (x := w) pl.isList (by omega) (by omega) (by simpa using ew) ⟨v, H, I, rw', q⟩
/-- a promise of more -/
theorem FnG.imp {P : Program} {w : World} {K : PySem.W.Frag} {mg : Str → Option Value} {base : Heap} {CX : CXT} {k : Nat} {f : Addr} {fd : FuncData} {ps : List Str} {sp sq : Sp} (F : FnG P w K mg base CX k f fd ps sp) (h : ∀ vs H Q E, sq vs H Q E → sp vs H Q E) : FnG P w K mg base CX k f fd ps sq :=
  ⟨fun vs H Q E q => F.size vs H Q E (h _ _ _ _ q), fun B out s H ar us vs Q E r hg e0 hb hv q => F.goes B out s H ar us vs Q E r hg e0 hb hv (h _ _ _ _ q)⟩
theorem Cal.imp {P : Program} {w : World} {K : PySem.W.Frag} {mg : Str → Option Value} {base : Heap} {CX : CXT} {k : Nat} {x : Str} {ps : List Str} {sp sq : Sp} (C : Cal P w K mg base CX k x ps sp) (h : ∀ vs H Q E, sq vs H Q E → sp vs H Q E) : Cal P w K mg base CX k x ps sq := by
  obtain ⟨f, fd, F, a, b, c, d, e⟩ := C.ex
  exact ⟨f, fd, F.imp h, a, b, c, d, e⟩
/-- where nothing is let out -/
theorem FnG.calm {P : Program} {w : World} {K : PySem.W.Frag} {mg : Str → Option Value} {base : Heap} {k : Nat} {f : Addr} {fd : FuncData} {ps : List Str} {sp : Sp} (F : FnG P w K mg base (L2.CX P w) k f fd ps sp) : FnG P w K mg base CX0 k f fd ps (fun vs H Q _ => sp vs H Q E0) := by
  refine ⟨fun vs H Q E q => F.size vs H Q E0 q, fun B out s H ar us vs Q E r hg e0 hb hv q => ?_⟩
  refine codeAny_mono (F.goes B out s H ar us vs Q E0 r hg e0 hb hv q) fun z s' hz => ?_
  cases z with
  | error e =>
    obtain ⟨_, _, _, _, _, _, _, _, _, _, _, _, z⟩ := (show L2.CX P w out H s E0 e s' from hz)
    exact z.elim
  | ok fl =>
    cases fl with
    | ret u => exact hz
    | next => exact False.elim hz
    | brk => exact False.elim hz
    | cont => exact False.elim hz
theorem Cal.calm {P : Program} {w : World} {K : PySem.W.Frag} {mg : Str → Option Value} {base : Heap} {k : Nat} {x : Str} {ps : List Str} {sp : Sp} (C : Cal P w K mg base (L2.CX P w) k x ps sp) : Cal P w K mg base CX0 k x ps (fun vs H Q _ => sp vs H Q E0) := by
  obtain ⟨f, fd, F, a, b, c, d, e⟩ := C.ex
  exact ⟨f, fd, F.calm, a, b, c, d, e⟩
theorem Cal.or {P : Program} {w : World} {K : PySem.W.Frag} {mg : Str → Option Value} {base : Heap} {CX : CXT} {k : Nat} {x : Str} {ps : List Str} {sp sq : Sp} {f : Addr} {fd : FuncData} (F : FnG P w K mg base CX k f fd ps sp) (G : FnG P w K mg base CX k f fd ps sq) :
    FnG P w K mg base CX k f fd ps (fun vs H Q E => sp vs H Q E ∨ sq vs H Q E) :=
  ⟨fun vs H Q E h => h.elim (F.size vs H Q E) (G.size vs H Q E), fun B out s H ar us vs Q E r hg e0 hb hv h => h.elim (F.goes B out s H ar us vs Q E r hg e0 hb hv) (G.goes B out s H ar us vs Q E r hg e0 hb hv)⟩
end Lf

set_option Elab.async false
set_option linter.all false
set_option maxRecDepth 100000
set_option maxHeartbeats 4000000
set_option exponentiation.threshold 3000
namespace Lf
open PySem PySem.Spec PyProof.Rows L2
section
variable {P : Program} {w : World} {K : PySem.W.Frag} {mg : Str → Option Value} {base : Heap}
/-- a measure -/
structure Fr6 (f : Int × Int) : Prop where
  lo : IsF f
  nn : 0 ≤ f.1
  bt : Bt 60 f
theorem Fr0.six {f : Int × Int} (h : Fr0 f) : Fr6 f := ⟨h.lo, h.nn, h.bt.mono (by decide)⟩
theorem f0_six : Fr6 f0 := ⟨f0_f, by decide, ⟨by decide, by decide⟩⟩
theorem fr6_isM {g : Int × Int} (h : Fr6 g) : isM (tD g) = true := by
  unfold isM
  rw [Bool.and_eq_true]
  refine ⟨?_, decide_eq_true h.nn⟩
  show (decide (0 < g.2) && decide (Nat.gcd g.1.natAbs g.2.natAbs = 1)) = true
  rw [decide_eq_true h.lo.1, decide_eq_true h.lo.2]
  rfl
/-- a name and five measures that make a stuff -/
structure StV (z : Str) (gs : List (Int × Int)) : Prop where
  nm : isNm (.str z) = true
  n5 : gs.length = 5
  fr : ∀ g ∈ gs, Fr6 g
  ok : tooM (gs.getD 0 (0, 1)) (gs.getD 1 (0, 1)) (gs.getD 2 (0, 1)) = false
theorem StV.sok {z : Str} {gs : List (Int × Int)} (h : StV z gs) : StOk z gs := ⟨(nm_al h.nm).1, (nm_al h.nm).2.2, h.n5, fun g hg => (h.fr g hg).bt⟩
theorem StV.right {z : Str} {gs : List (Int × Int)} (h : StV z gs) : fwR (.str z) (gs.map tD) = none := by
  match gs, h.n5, h with
  | [g0, g1, g2, g3, g4], _, h =>
    have m : ∀ g ∈ [g0, g1, g2, g3, g4], isM (tD g) = true := fun g hg => fr6_isM (h.fr g hg)
    have ok : tooM g0 g1 g2 = false := h.ok
    have i0 := m g0 (by simp)
    have i1 := m g1 (by simp)
    have i2 := m g2 (by simp)
    have i3 := m g3 (by simp)
    have i4 := m g4 (by simp)
    have t0 : top2 (tD g0) = g0 := rfl
    have t1 : top2 (tD g1) = g1 := rfl
    have t2 : top2 (tD g2) = g2 := rfl
    unfold fwR
    rw [if_neg (by rw [h.nm]; decide)]
    simp [fwM, i0, i1, i2, i3, i4, t0, t1, t2, ok]
/-- a measure handed in: itself, or None for none of it -/
def MsV (K : PySem.W.Frag) (H : Hp) (v : V) (g : Int × Int) : Prop := (v = .non ∧ g = f0) ∨ AtK K H v g
theorem MsV.same {H H' : Hp} {v : V} {g : Int × Int} (s : Same H H') (h : MsV K H v g) : MsV K H' v g := h.imp id fun a => a.same s
inductive MsVs (K : PySem.W.Frag) (H : Hp) : List V → List (Int × Int) → Prop
  | nil : MsVs K H [] []
  | cons {v : V} {vs : List V} {g : Int × Int} {gs : List (Int × Int)} : MsV K H v g → MsVs K H vs gs → MsVs K H (v :: vs) (g :: gs)
theorem MsVs.len {H : Hp} : ∀ {vs : List V} {gs : List (Int × Int)}, MsVs K H vs gs → vs.length = gs.length
  | _, _, .nil => rfl
  | _, _, .cons _ r => congrArg Nat.succ r.len
/-- as data -/
theorem MsVs.dq {H : Hp} : ∀ {vs : List V} {gs : List (Int × Int)}, MsVs K H vs gs → ∃ ds, DqAll K H vs ds ∧ ds.map orNone = gs.map tD
  | _, _, .nil => ⟨[], .nil, rfl⟩
  | _, _, .cons (g := g) h r => by
    obtain ⟨ds, h1, h2⟩ := r.dq
    rcases h with ⟨rfl, rfl⟩ | h
    · exact ⟨.none :: ds, .cons (.dp .non (by rfl)) h1, by rw [List.map_cons, h2]; rfl⟩
    · obtain ⟨p, rfl, hp⟩ := h
      exact ⟨tD g :: ds, .cons (.dp (dp2 hp) (by rfl)) h1, by rw [List.map_cons, h2]; rfl⟩
theorem dq_tD {H : Hp} {v : V} {g : Int × Int} (h : Dq K H v (tD g)) : AtK K H v g := by
  cases h with
  | dp h _ =>
    cases h with
    | tup hS hA =>
      cases hA with
      | cons a r =>
        cases r with
        | cons b r =>
          cases r
          cases a
          cases b
          exact ⟨_, rfl, hS⟩
theorem dq_tDs {H : Hp} : ∀ {vs : List V} {gs : List (Int × Int)}, DqAll K H vs (gs.map tD) → AtKs K H vs gs
  | [], [], _ => .nil
  | [], _ :: _, h => nomatch h
  | _ :: _, [], h => nomatch h
  | v :: vs, g :: gs, h => by
    cases h with
    | cons a r => exact .cons (dq_tD a) (dq_tDs r)
/-- a stuff is made -/
def sp_mk (K : PySem.W.Frag) (C : Addr) : Sp := fun vs H Q _ => ∃ (x dx : Addr) (H0 : Hp) (z : Str) (ms : List V) (gs : List (Int × Int)), vs = .ref x :: .str z :: ms ∧ H0 x = none ∧ H0 dx = none ∧ dx ≠ x ∧ H = upd (upd H0 dx (.own x)) x (.ins C dx []) ∧
  StV z gs ∧ MsVs K H0 ms gs ∧ ∀ H', Same H0 H' → Stf K H' C x z gs → Q .non H'
theorem mk_of {C D f : Addr} {fd : FuncData} {ps : List Str} (F : FnG P w K mg base (L2.CX P w) 9 f fd ps (sp_init K C D)) : FnG P w K mg base CX0 9 f fd ps (sp_mk K C) := by
  refine F.calm.imp fun vs H Q E h => ?_
  obtain ⟨x, dx, H0, z, ms, gs, rfl, nx, nd, ne, rfl, V_, hm, k⟩ := h
  obtain ⟨ds, hd, he⟩ := hm.dq
  refine ⟨x, dx, H0, .str z, .str z, ms, ds, rfl, by rw [hm.len, V_.n5], nx, nd, ne, rfl, .dp (.str z) (by rfl), (fun z' e => ?_), hd, (fun i hi hM => ?_), ?_⟩
  · cases e
    have := (nm_al V_.nm).2.2
    omega
  · have e : orNone (ds.getD i .none) = (ds.map orNone).getD i (orNone .none) := by
      rw [List.getD_eq_getElem?_getD, List.getD_eq_getElem?_getD, List.getElem?_map]
      cases ds[i]? <;> rfl
    have hl : i < gs.length := by rw [V_.n5]; omega
    rw [e, he]
    have e2 : (gs.map tD).getD i (orNone .none) = tD gs[i] := by
      rw [List.getD_eq_getElem?_getD, List.getElem?_map, List.getElem?_eq_getElem hl]
      rfl
    rw [e2]
    exact ((V_.fr gs[i] (List.getElem_mem hl)).bt).mono (by decide)
  · rw [he, V_.right]
    intro H' s hS
    obtain ⟨dx', pm, xs, h1, h2, h3, h4⟩ := hS
    exact k H' s ⟨dx', pm, xs, h1, h3, dq_tDs h4⟩

end
end Lf

set_option Elab.async false
set_option linter.all false
set_option maxRecDepth 100000
set_option maxHeartbeats 4000000
set_option exponentiation.threshold 3000
namespace Lf
open PySem PySem.Spec PyProof.Rows L2
/-! how a stuff's arguments come to their places -/
/-- the things at these places -/
def pick {α : Type} (l : List α) : List Nat → List α
  | [] => []
  | i :: is => (match l[i]? with | some x => [x] | none => []) ++ pick l is
def gAll {α : Type} (us _ _ : List α) : List α := us
def gNam {α : Type} (us _ ws : List α) : List α := us ++ pick ws [1, 3, 5, 2, 4, 0]
def gMix {α : Type} (us _ ws : List α) : List α := us ++ pick ws [2, 1, 4, 0, 3]
def gOne {α : Type} (us ds _ : List α) : List α := us ++ ds
def gThi {α : Type} (us ds ws : List α) : List α := us ++ (pick ds [0, 1, 2] ++ (ws ++ pick ds [4]))
def gTwo {α : Type} (us ds _ : List α) : List α := us ++ pick ds [1, 2, 3, 4]
def gSal {α : Type} (us ds ws : List α) : List α := us ++ (pick ws [1] ++ (pick ds [0, 1] ++ (pick ws [0] ++ (pick ds [3] ++ pick ws [2]))))
theorem pick_rel {vs : List V} {us : List Value} (r : Vals vs us) : ∀ is, Vals (pick vs is) (pick us is)
  | [] => .nil
  | i :: is => by
    have ih := pick_rel r is
    unfold pick
    by_cases h : i < vs.length
    · obtain ⟨u, hu, ru⟩ := r.get (List.getElem?_eq_getElem h)
      rw [List.getElem?_eq_getElem h, hu]
      exact .cons ru ih
    · have h2 : us[i]? = none := List.getElem?_eq_none (by have := r.length; omega)
      rw [List.getElem?_eq_none (by omega), h2]
      exact ih
def nons : List V := [.non, .non, .non, .non, .non]
/-- all the ways a stuff's arguments are bound -/
structure Ways (K : PySem.W.Frag) (fd : FuncData) : Prop where
  all : ∃ g, KBn K fd ["self", "name", "flour", "water", "salt", "thirst", "price"] (6 + 1) [] g (fun vs zs => gAll vs nons zs)
  nam : ∃ g, KBn K fd ["self", "name", "flour", "water", "salt", "thirst", "price"] (0 + 1) ["price", "name", "salt", "flour", "thirst", "water"] g (fun vs zs => gNam vs nons zs)
  mix : ∃ g, KBn K fd ["self", "name", "flour", "water", "salt", "thirst", "price"] (1 + 1) ["thirst", "water", "flour", "price", "salt"] g (fun vs zs => gMix vs nons zs)
  one : ∃ g, KBn K fd ["self", "name", "flour", "water", "salt", "thirst", "price"] (1 + 1) [] g (fun vs zs => gOne vs nons zs)
  thi : ∃ g, KBn K fd ["self", "name", "flour", "water", "salt", "thirst", "price"] (1 + 1) ["thirst"] g (fun vs zs => gThi vs nons zs)
  two : ∃ g, KBn K fd ["self", "name", "flour", "water", "salt", "thirst", "price"] (2 + 1) [] g (fun vs zs => gTwo vs nons zs)
  sal : ∃ g, KBn K fd ["self", "name", "flour", "water", "salt", "thirst", "price"] (0 + 1) ["salt", "name", "price"] g (fun vs zs => gSal vs nons zs)
theorem ways_of {K : PySem.W.Frag} {f : Addr} {fd : FuncData} (F : FunD K "__init__" "Stuff.__init__" (defArgs s_init) (defBody s_init) (defScope s_init) nons [] f fd) : Ways K fd := by
  refine ⟨?_, ?_, ?_, ?_, ?_, ?_, ?_⟩
  · obtain ⟨its, hb⟩ := L2.FunD.kbindsD (ps := ["self", "name", "flour", "water", "salt", "thirst", "price"]) F (6 + 1) [] (fun us ds ws => gAll us ds ws) (fun z => nomatch z) (fun r1 r2 r3 => r1) (fun T kV doc pm an cdv ct us its ws h1 h2 h3 => by
      match us, its, ws, h1, h2, h3 with
      | [_, _, _, _, _, _, _], [_, _, _, _, _], [], _, _, _ => exact ⟨_, rfl, rfl⟩)
    exact ⟨_, hb⟩
  · obtain ⟨its, hb⟩ := L2.FunD.kbindsD (ps := ["self", "name", "flour", "water", "salt", "thirst", "price"]) F (0 + 1) ["price", "name", "salt", "flour", "thirst", "water"] (fun us ds ws => gNam us ds ws) (fun z => nomatch z) (fun r1 r2 r3 => r1.append (pick_rel r3 _)) (fun T kV doc pm an cdv ct us its ws h1 h2 h3 => by
      match us, its, ws, h1, h2, h3 with
      | [_], [_, _, _, _, _], [_, _, _, _, _, _], _, _, _ => exact ⟨_, rfl, rfl⟩)
    exact ⟨_, hb⟩
  · obtain ⟨its, hb⟩ := L2.FunD.kbindsD (ps := ["self", "name", "flour", "water", "salt", "thirst", "price"]) F (1 + 1) ["thirst", "water", "flour", "price", "salt"] (fun us ds ws => gMix us ds ws) (fun z => nomatch z) (fun r1 r2 r3 => r1.append (pick_rel r3 _)) (fun T kV doc pm an cdv ct us its ws h1 h2 h3 => by
      match us, its, ws, h1, h2, h3 with
      | [_, _], [_, _, _, _, _], [_, _, _, _, _], _, _, _ => exact ⟨_, rfl, rfl⟩)
    exact ⟨_, hb⟩
  · obtain ⟨its, hb⟩ := L2.FunD.kbindsD (ps := ["self", "name", "flour", "water", "salt", "thirst", "price"]) F (1 + 1) [] (fun us ds ws => gOne us ds ws) (fun z => nomatch z) (fun r1 r2 r3 => r1.append r2) (fun T kV doc pm an cdv ct us its ws h1 h2 h3 => by
      match us, its, ws, h1, h2, h3 with
      | [_, _], [_, _, _, _, _], [], _, _, _ => exact ⟨_, rfl, rfl⟩)
    exact ⟨_, hb⟩
  · obtain ⟨its, hb⟩ := L2.FunD.kbindsD (ps := ["self", "name", "flour", "water", "salt", "thirst", "price"]) F (1 + 1) ["thirst"] (fun us ds ws => gThi us ds ws) (fun z => nomatch z) (fun r1 r2 r3 => r1.append ((pick_rel r2 _).append (r3.append (pick_rel r2 _)))) (fun T kV doc pm an cdv ct us its ws h1 h2 h3 => by
      match us, its, ws, h1, h2, h3 with
      | [_, _], [_, _, _, _, _], [_], _, _, _ => exact ⟨_, rfl, rfl⟩)
    exact ⟨_, hb⟩
  · obtain ⟨its, hb⟩ := L2.FunD.kbindsD (ps := ["self", "name", "flour", "water", "salt", "thirst", "price"]) F (2 + 1) [] (fun us ds ws => gTwo us ds ws) (fun z => nomatch z) (fun r1 r2 r3 => r1.append (pick_rel r2 _)) (fun T kV doc pm an cdv ct us its ws h1 h2 h3 => by
      match us, its, ws, h1, h2, h3 with
      | [_, _, _], [_, _, _, _, _], [], _, _, _ => exact ⟨_, rfl, rfl⟩)
    exact ⟨_, hb⟩
  · obtain ⟨its, hb⟩ := L2.FunD.kbindsD (ps := ["self", "name", "flour", "water", "salt", "thirst", "price"]) F (0 + 1) ["salt", "name", "price"] (fun us ds ws => gSal us ds ws) (fun z => nomatch z) (fun r1 r2 r3 => r1.append ((pick_rel r3 _).append ((pick_rel r2 _).append ((pick_rel r3 _).append ((pick_rel r2 _).append (pick_rel r3 _)))))) (fun T kV doc pm an cdv ct us its ws h1 h2 h3 => by
      match us, its, ws, h1, h2, h3 with
      | [_], [_, _, _, _, _], [_, _, _], _, _, _ => exact ⟨_, rfl, rfl⟩)
    exact ⟨_, hb⟩
section
variable {P : Program} {w : World} {K : PySem.W.Frag} {mg : Str → Option Value} {base : Heap}
/-- a row: a name and five fractions in a tuple -/
def RowV (K : PySem.W.Frag) (H : Hp) (p : Addr) (z : Str) (gs : List (Int × Int)) : Prop := ∃ xs, SqT K H p (.str z :: xs) ∧ AtKs K H xs gs
theorem RowV.same {H H' : Hp} {p : Addr} {z : Str} {gs : List (Int × Int)} (s : Same H H') (h : RowV K H p z gs) : RowV K H' p z gs := by
  obtain ⟨xs, h1, h2⟩ := h
  exact ⟨xs, sm_t s h1, h2.same s⟩
theorem atks5 {H : Hp} {xs : List V} {gs : List (Int × Int)} (h : AtKs K H xs gs) (h5 : gs.length = 5) : ∃ v0 v1 v2 v3 v4 g0 g1 g2 g3 g4, xs = [v0, v1, v2, v3, v4] ∧ gs = [g0, g1, g2, g3, g4] ∧ AtK K H v0 g0 ∧ AtK K H v1 g1 ∧ AtK K H v2 g2 ∧ AtK K H v3 g3 ∧ AtK K H v4 g4 := by
  match gs, h5 with
  | [g0, g1, g2, g3, g4], _ =>
    cases h with | cons a0 h =>
    cases h with | cons a1 h =>
    cases h with | cons a2 h =>
    cases h with | cons a3 h =>
    cases h with | cons a4 h =>
    cases h
    exact ⟨_, _, _, _, _, _, _, _, _, _, rfl, rfl, a0, a1, a2, a3, a4⟩

/-! ### _law_none -/
abbrev s__law_none : Stmt := topS 34
theorem sc__law_none : FnScope ["_law_one"] ["_law_one"] (defScope s__law_none) := ⟨rfl, rfl, rfl, by decide +kernel, rfl, by decide +kernel, by decide +kernel⟩
def sp_none (K : PySem.W.Frag) : Sp := fun vs H Q _ => ∃ (v : V) (g : Int × Int), vs = [v] ∧ AtK K H v g ∧ ∀ v' H', Same H H' → ((v' = .non ∧ g = f0) ∨ v' = v) → Q v' H'
theorem ok_none {f : Addr} {fd : FuncData} (M : Blt mg) (F : Fun K "_law_none" "_law_none" s__law_none f fd) : FnG P w K mg base CX0 1 f fd ["_law_one"] (sp_none K) := by
  refine Gfun F sc__law_none (fun vs H Q E h => ?_) (fun cdv A outer s H vs Q E hg hr h => ?_)
  · obtain ⟨v, g, rfl, _⟩ := h
    rfl
  · obtain ⟨v, g, rfl, ⟨p, rfl, hp⟩, k⟩ := h
    refine ⟨_, (pss_one (ps_ret (pe_ix ix_list (pe_lst (pa_cons (pv 0) (pa_cons pe_non pa_nil))) (pe_callTy call_int1 rfl M.int bt_int (pa_cons (pe_cmpR (op_eqD hr.units) (pv 0) (pe_tup (pa_cons pe_int (pa_cons pe_int pa_nil))) (nomark _)) pa_nil)) (fun _ _ => rfl)))), ?_⟩
    refine ⟨_, rfl, len_show (Nat.le_of_ble_eq_true rfl), fun l1 n1 => ?_⟩
    have s1 : Same H (L2.upd H l1 (.lst [.ref p, .non])) := same_new n1
    have e1 : L2.upd H l1 (.lst [.ref p, .non]) l1 = some (.lst [.ref p, .non]) := upd_same
    generalize L2.upd H l1 (.lst [.ref p, .non]) = H1 at s1 e1 ⊢
    refine ⟨_, rfl, len_show (Nat.le_of_ble_eq_true rfl), fun p2 n2 => ?_⟩
    have s2 : Same H1 (L2.upd H1 p2 (.tup [.int 0, .int 1])) := same_new n2
    have e2 : L2.upd H1 p2 (.tup [.int 0, .int 1]) p2 = some (.tup [.int 0, .int 1]) := upd_same
    generalize L2.upd H1 p2 (.tup [.int 0, .int 1]) = H2 at s2 e2 ⊢
    have s02 := s1.trans s2
    refine ⟨_, _, dp2 (sm_t s02 hp), dp2' (t := (0, 1)) e2, by rfl, by rfl, .inr ⟨_, rfl, ?_⟩⟩
    rw [eqv_tD]
    by_cases z : g = (0, 1)
    · rw [decide_eq_true z]
      exact ⟨l1, _, _, _, rfl, rfl, .inl (.inl (s2 _ _ e1)), rfl, k .non H2 s02 (.inl ⟨rfl, z⟩)⟩
    · rw [decide_eq_false z]
      exact ⟨l1, _, _, _, rfl, rfl, .inl (.inl (s2 _ _ e1)), rfl, k _ H2 s02 (.inr rfl)⟩

end
end Lf

set_option Elab.async false
set_option linter.all false
set_option maxRecDepth 100000
set_option maxHeartbeats 4000000
set_option exponentiation.threshold 3000
namespace Lf
open PySem PySem.Spec PyProof.Rows L2
section
variable {P : Program} {w : World} {K : PySem.W.Frag} {mg : Str → Option Value} {base : Heap}
theorem MsV.at {H : Hp} {v : V} {g : Int × Int} (h : AtK K H v g) : MsV K H v g := .inr h
theorem MsVs.same {H H' : Hp} (s : Same H H') : ∀ {vs : List V} {gs : List (Int × Int)}, MsVs K H vs gs → MsVs K H' vs gs
  | _, _, .nil => .nil
  | _, _, .cons a r => .cons (a.same s) (r.same s)
theorem MsVs.app {H : Hp} : ∀ {vs us : List V} {gs fs : List (Int × Int)}, MsVs K H vs gs → MsVs K H us fs → MsVs K H (vs ++ us) (gs ++ fs)
  | _, _, _, _, .nil, h => h
  | _, _, _, _, .cons a r, h => .cons a (r.app h)
theorem msv5 {H : Hp} {xs : List V} {g0 g1 g2 g3 g4 : Int × Int} (h : MsVs K H xs [g0, g1, g2, g3, g4]) : ∃ v0 v1 v2 v3 v4, xs = [v0, v1, v2, v3, v4] ∧ MsV K H v0 g0 ∧ MsV K H v1 g1 ∧ MsV K H v2 g2 ∧ MsV K H v3 g3 ∧ MsV K H v4 g4 := by
  cases h with | cons a0 h =>
  cases h with | cons a1 h =>
  cases h with | cons a2 h =>
  cases h with | cons a3 h =>
  cases h with | cons a4 h =>
  cases h
  exact ⟨_, _, _, _, _, rfl, a0, a1, a2, a3, a4⟩

/-! ### _law_made -/
abbrev s__law_made : Stmt := topS 35
theorem sc__law_made : FnScope ["_law_row", "_law_some_here", "_law_made_here", "_law_one"] ["_law_row"] (defScope s__law_made) := ⟨rfl, rfl, rfl, by decide +kernel, rfl, by decide +kernel, by decide +kernel⟩
def sp_made (K : PySem.W.Frag) (C : Addr) : Sp := fun vs H Q _ => ∃ (p : Addr) (z : Str) (gs : List (Int × Int)), vs = [.ref p] ∧ RowV K H p z gs ∧ StV z gs ∧ ∀ H' l x0 x1 x2 x3, Same H H' → H' l = some (.lst [.ref x0, .ref x1, .ref x2, .ref x3]) → Stf K H' C x0 z gs → Stf K H' C x1 z gs → Stf K H' C x2 z gs → Stf K H' C x3 z gs → Q (.ref l) H'
theorem Stf.lst {H : Hp} {C x l : Addr} {ys ys' : List V} {z : Str} {fs : List (Int × Int)} (e : H l = some (.lst ys)) (h : Stf K H C x z fs) : Stf K (L2.upd H l (.lst ys')) C x z fs := by
  obtain ⟨dx, pm, xs, h1, h2, h3⟩ := h
  have sq : ∀ {a : Addr} {zs : List V}, SqT K H a zs → SqT K (L2.upd H l (.lst ys')) a zs := fun {a zs} q => by
    rcases q with (q | ⟨ob, q⟩) | q
    · have ne : a ≠ l := fun z => by rw [z, e] at q; cases q
      exact .inl (.inl (by rw [upd_ne ne]; exact q))
    · have ne : a ≠ l := fun z => by rw [z, e] at q; cases q
      exact .inl (.inr ⟨ob, by rw [upd_ne ne]; exact q⟩)
    · exact .inr q
  refine ⟨dx, pm, xs, ?_, sq h2, h3.map fun v f hv => ?_⟩
  · have ne : x ≠ l := fun z => by rw [z, e] at h1; cases h1
    rw [upd_ne ne]
    exact h1
  · obtain ⟨q, rfl, hq⟩ := hv
    exact ⟨q, rfl, sq hq⟩
set_option maxHeartbeats 8000000 in
theorem ok_made {f C fS : Addr} {fd fdS : FuncData} (M : Blt mg) (W : Ways K fdS) (MS : MakG P w K mg base CX0 9 "Stuff" C fS fdS ["self", "name", "flour", "water", "salt", "thirst", "price"] (sp_mk K C)) (F : Fun K "_law_made" "_law_made" s__law_made f fd) (C__law_none : Cal P w K mg base CX0 1 "_law_none" ["_law_one"] (sp_none K)) : FnG P w K mg base CX0 11 f fd ["_law_row"] (sp_made K C) := by
  obtain ⟨_, h_all⟩ := W.all
  obtain ⟨_, h_nam⟩ := W.nam
  obtain ⟨_, h_mix⟩ := W.mix
  refine Gfun F sc__law_made (fun vs H Q E h => ?_) (fun cdv A outer s H vs Q E hg hr h => ?_)
  · obtain ⟨p, z, gs, rfl, _⟩ := h
    rfl
  · obtain ⟨p, z, gs, rfl, ⟨xs, hp, hxs⟩, V_, k⟩ := h
    refine ⟨_, (pss_cons (ps_setLc (i := 1) (own := [("_law_one", 3)]) (g := gName 3) (tt := tYes) rfl sc__law_made.nd rfl rfl (sw_true rfl rfl rfl (by decide +kernel)) (pi_tup (pe_slice sl_tup (pv 0) (po_some pe_int) po_none)) (blkOk_by (N := ["_law_row", "_law_some_here", "_law_made_here", "_law_one"]) (sc := defScope s__law_made) (by decide +kernel)) (fun _ _ _ _ _ => pg_name (i := 3) sc__law_made.nd rfl (Or.inl rfl)) (fun _ _ _ _ _ => pts_nil) (fun _ _ _ _ _ => (pe_g C__law_none (hr.mono (by decide)) hg (pa_cons (pv 3) pa_nil))))
      (pss_cons (ps_set (i := 2) sc__law_made.nd rfl (.inl rfl) (pe_lst (pa_cons (pe_mkG MS h_all (hr.mono (by decide)) hg (fun _ => pass_no) (pa_cons (pe_ix ix_tup (pv 0) pe_int (fun _ _ => rfl)) (pa_cons (pe_ix ix_tup (pv 0) pe_int (fun _ _ => rfl)) (pa_cons (pe_ix ix_tup (pv 0) pe_int (fun _ _ => rfl)) (pa_cons (pe_ix ix_tup (pv 0) pe_int (fun _ _ => rfl)) (pa_cons (pe_ix ix_tup (pv 0) pe_int (fun _ _ => rfl)) (pa_cons (pe_ix ix_tup (pv 0) pe_int (fun _ _ => rfl)) pa_nil))))))) pa_nil)))
      (pss_cons (ps_expr (pe_bm PySem.F.plainAttrs_list PySem.F.slot_list_append PySem.F.type_list_append mt_append (pv 2) (pa_cons (pe_mkGN MS h_nam (hr.mono (by decide)) hg (fun _ => pass_no) (pk_cons (pe_ix ix_tup (pv 0) pe_int (fun _ _ => rfl)) (pk_cons (pe_ix ix_tup (pv 0) pe_int (fun _ _ => rfl)) (pk_cons (pe_ix ix_tup (pv 0) pe_int (fun _ _ => rfl)) (pk_cons (pe_ix ix_tup (pv 0) pe_int (fun _ _ => rfl)) (pk_cons (pe_ix ix_tup (pv 0) pe_int (fun _ _ => rfl)) (pk_cons (pe_ix ix_tup (pv 0) pe_int (fun _ _ => rfl)) pk_nil))))))) pa_nil)))
      (pss_cons (ps_expr (pe_bm PySem.F.plainAttrs_list PySem.F.slot_list_append PySem.F.type_list_append mt_append (pv 2) (pa_cons (pe_mkG MS h_all (hr.mono (by decide)) hg (fun _ => pass_no) (pa_cons (pe_ix ix_tup (pv 0) pe_int (fun _ _ => rfl)) (pa_cons (pe_ix ix_list (pv 1) pe_int (fun _ _ => rfl)) (pa_cons (pe_ix ix_list (pv 1) pe_int (fun _ _ => rfl)) (pa_cons (pe_ix ix_list (pv 1) pe_int (fun _ _ => rfl)) (pa_cons (pe_ix ix_list (pv 1) pe_int (fun _ _ => rfl)) (pa_cons (pe_ix ix_list (pv 1) pe_int (fun _ _ => rfl)) pa_nil))))))) pa_nil)))
      (pss_cons (ps_expr (pe_bm PySem.F.plainAttrs_list PySem.F.slot_list_append PySem.F.type_list_append mt_append (pv 2) (pa_cons (pe_mkGK MS h_mix (hr.mono (by decide)) hg (fun _ => pass_no) (pa_cons (pe_ix ix_tup (pv 0) pe_int (fun _ _ => rfl)) pa_nil) (pk_cons (pe_ix ix_list (pv 1) pe_int (fun _ _ => rfl)) (pk_cons (pe_ix ix_list (pv 1) pe_int (fun _ _ => rfl)) (pk_cons (pe_ix ix_list (pv 1) pe_int (fun _ _ => rfl)) (pk_cons (pe_ix ix_list (pv 1) pe_int (fun _ _ => rfl)) (pk_cons (pe_ix ix_list (pv 1) pe_int (fun _ _ => rfl)) pk_nil)))))) pa_nil)))
      (pss_one (ps_ret (pv 2)))))))), ?_⟩
    obtain ⟨v0, v1, v2, v3, v4, g0, g1, g2, g3, g4, rfl, rfl, a0, a1, a2, a3, a4⟩ := atks5 hxs V_.n5
    -- the five, None for none of it
    refine ⟨_, rfl, _, rfl, p, _, rfl, hp, ?_, fun p1 n1 => ?_⟩
    · rintro ⟨q, _⟩
      exact absurd q (by show ¬ HT.sIx 6 0 (some 1) = 0; decide)
    have s1 : Same H (L2.upd H p1 (.tup (cutV [.str z, v0, v1, v2, v3, v4] (some 1) none))) := same_new n1
    have t1 : SqT K (L2.upd H p1 (.tup (cutV [.str z, v0, v1, v2, v3, v4] (some 1) none))) p1 [v0, v1, v2, v3, v4] := .inl (.inl upd_same)
    generalize L2.upd H p1 (.tup (cutV [.str z, v0, v1, v2, v3, v4] (some 1) none)) = H1 at s1 t1 ⊢
    refine ⟨p1, rfl, ⟨_, t1⟩, fun Ds hDs => lc_tup (xs := [v0, v1, v2, v3, v4]) (fun i H' => Same H1 H' ∧ ∃ acc, H' Ds = some (.lst acc) ∧ MsVs K H acc ([g0, g1, g2, g3, g4].take i)) ⟨same_new hDs, [], upd_same, .nil⟩ (fun i H' _ h => sm_t h.1 t1) ?_ ?_⟩
    · rintro i y H2 hy ⟨s2, acc, eacc, hacc⟩
      obtain ⟨g, hgi, hga⟩ := AtKs.get (show AtKs K H [v0, v1, v2, v3, v4] [g0, g1, g2, g3, g4] from .cons a0 (.cons a1 (.cons a2 (.cons a3 (.cons a4 .nil))))) hy
      have hi : i < 5 := (List.getElem?_eq_some_iff.mp hy).1
      refine ⟨rfl, _, rfl, y, g, rfl, (hga.same s1).same s2, fun v' H3 s3 hv => ⟨acc, s3 _ _ eacc, ?_, ?_, acc ++ [v'], upd_same, ?_⟩⟩
      · have := hacc.len
        rw [List.length_take] at this
        rw [sizeLine_eq]
        omega
      · intro b o e
        rw [upd_ne (ne_of_none e hDs)]
        exact s3 _ _ (s2 _ _ e)
      · rw [List.take_succ, hgi]
        refine hacc.app (.cons ?_ .nil)
        rcases hv with ⟨h1, h2⟩ | h1
        · exact .inl ⟨h1, h2⟩
        · rw [h1]
          exact .inr hga
    rintro H2 ⟨s2, acc, eacc, hacc⟩
    have hacc' : MsVs K H acc [g0, g1, g2, g3, g4] := hacc
    clear hacc
    obtain ⟨u0, u1, u2, u3, u4, rfl, m0, m1, m2, m3, m4⟩ := msv5 hacc'
    have s02 := s1.trans s2
    have hp2 := sm_t s02 hp
    -- by places
    refine ⟨_, rfl, p, _, _, _, rfl, rfl, hp2, atI_nat (j := 0) rfl, _, rfl, p, _, _, _, rfl, rfl, hp2, atI_nat (j := 1) rfl, _, rfl, p, _, _, _, rfl, rfl, hp2, atI_nat (j := 2) rfl, _, rfl, p, _, _, _, rfl, rfl, hp2, atI_nat (j := 3) rfl, _, rfl, p, _, _, _, rfl, rfl, hp2, atI_nat (j := 4) rfl, _, rfl, p, _, _, _, rfl, rfl, hp2, atI_nat (j := 5) rfl, rfl, rfl, fun x0 dx0 nx nd ne => ?_⟩
    refine ⟨x0, dx0, H2, z, [v0, v1, v2, v3, v4], [g0, g1, g2, g3, g4], rfl, nx, nd, ne, rfl, V_, .cons (.inr (a0.same s02)) (.cons (.inr (a1.same s02)) (.cons (.inr (a2.same s02)) (.cons (.inr (a3.same s02)) (.cons (.inr (a4.same s02)) .nil)))), fun H3 s3 S0 => ⟨rfl, len_show (Nat.le_of_ble_eq_true rfl), fun l n4 => ?_⟩⟩
    have s4 : Same H3 (L2.upd H3 l (.lst [.ref x0])) := same_new n4
    have e4 : L2.upd H3 l (.lst [.ref x0]) l = some (.lst [.ref x0]) := upd_same
    generalize L2.upd H3 l (.lst [.ref x0]) = H4 at s4 e4 ⊢
    have s04 := (s02.trans s3).trans s4
    have S04 := S0.same s4
    have hp4 := sm_t s04 hp
    have nl : ∀ b o, H b = some o → b ≠ l := fun b o e => ne_of_none (s3 _ _ (s02 _ _ e)) n4
    -- by names
    refine ⟨_, rfl, .inl ⟨rfl, _, .inl (.inl e4)⟩, _, rfl, p, _, _, _, rfl, rfl, hp4, atI_nat (j := 5) rfl, _, rfl, p, _, _, _, rfl, rfl, hp4, atI_nat (j := 0) rfl, _, rfl, p, _, _, _, rfl, rfl, hp4, atI_nat (j := 3) rfl, _, rfl, p, _, _, _, rfl, rfl, hp4, atI_nat (j := 1) rfl, _, rfl, p, _, _, _, rfl, rfl, hp4, atI_nat (j := 4) rfl, _, rfl, p, _, _, _, rfl, rfl, hp4, atI_nat (j := 2) rfl, rfl, rfl, fun x1 dx1 nx nd ne => ?_⟩
    refine ⟨x1, dx1, H4, z, [v0, v1, v2, v3, v4], [g0, g1, g2, g3, g4], rfl, nx, nd, ne, rfl, V_, .cons (.inr (a0.same s04)) (.cons (.inr (a1.same s04)) (.cons (.inr (a2.same s04)) (.cons (.inr (a3.same s04)) (.cons (.inr (a4.same s04)) .nil)))), fun H5 s5 S1 => ⟨rfl, l, _, _, rfl, rfl, s5 _ _ e4, len_show (Nat.le_of_ble_eq_true rfl), ?_⟩⟩
    have S05 := (S04.same s5).lst (ys' := [.ref x0] ++ [.ref x1]) (s5 _ _ e4)
    have S15 := S1.lst (ys' := [.ref x0] ++ [.ref x1]) (s5 _ _ e4)
    have s05 : Same H (L2.upd H5 l (.lst ([.ref x0] ++ [.ref x1]))) := fun b o e => by rw [upd_ne (nl b o e)]; exact s5 _ _ (s04 _ _ e)
    have d5 : L2.upd H5 l (.lst ([.ref x0] ++ [.ref x1])) Ds = some (.lst [u0, u1, u2, u3, u4]) := by rw [upd_ne (ne_of_none (s3 _ _ eacc) n4)]; exact s5 _ _ (s4 _ _ (s3 _ _ eacc))
    have e5 : L2.upd H5 l (.lst ([.ref x0] ++ [.ref x1])) l = some (.lst [.ref x0, .ref x1]) := upd_same
    generalize L2.upd H5 l (.lst ([.ref x0] ++ [.ref x1])) = H6 at s05 d5 e5 S05 S15 ⊢
    have hp6 := sm_t s05 hp
    have nDl : Ds ≠ l := fun z => by rw [z, e5] at d5; cases d5
    -- with None
    refine ⟨_, rfl, .inl ⟨rfl, _, .inl (.inl e5)⟩, _, rfl, p, _, _, _, rfl, rfl, hp6, atI_nat (j := 0) rfl, _, rfl, Ds, _, _, _, rfl, rfl, .inl (.inl d5), atI_nat (j := 0) rfl, _, rfl, Ds, _, _, _, rfl, rfl, .inl (.inl d5), atI_nat (j := 1) rfl, _, rfl, Ds, _, _, _, rfl, rfl, .inl (.inl d5), atI_nat (j := 2) rfl, _, rfl, Ds, _, _, _, rfl, rfl, .inl (.inl d5), atI_nat (j := 3) rfl, _, rfl, Ds, _, _, _, rfl, rfl, .inl (.inl d5), atI_nat (j := 4) rfl, rfl, rfl, fun x2 dx2 nx nd ne => ?_⟩
    refine ⟨x2, dx2, H6, z, [u0, u1, u2, u3, u4], [g0, g1, g2, g3, g4], rfl, nx, nd, ne, rfl, V_, (.cons m0 (.cons m1 (.cons m2 (.cons m3 (.cons m4 .nil)))) : MsVs K H _ _).same s05, fun H7 s7 S2 => ⟨rfl, l, _, _, rfl, rfl, s7 _ _ e5, len_show (Nat.le_of_ble_eq_true rfl), ?_⟩⟩
    have S07 := (S05.same s7).lst (ys' := [.ref x0, .ref x1] ++ [.ref x2]) (s7 _ _ e5)
    have S17 := (S15.same s7).lst (ys' := [.ref x0, .ref x1] ++ [.ref x2]) (s7 _ _ e5)
    have S27 := S2.lst (ys' := [.ref x0, .ref x1] ++ [.ref x2]) (s7 _ _ e5)
    have s07 : Same H (L2.upd H7 l (.lst ([.ref x0, .ref x1] ++ [.ref x2]))) := fun b o e => by rw [upd_ne (nl b o e)]; exact s7 _ _ (s05 _ _ e)
    have d7 : L2.upd H7 l (.lst ([.ref x0, .ref x1] ++ [.ref x2])) Ds = some (.lst [u0, u1, u2, u3, u4]) := by rw [upd_ne nDl]; exact s7 _ _ d5
    have e7 : L2.upd H7 l (.lst ([.ref x0, .ref x1] ++ [.ref x2])) l = some (.lst [.ref x0, .ref x1, .ref x2]) := upd_same
    generalize L2.upd H7 l (.lst ([.ref x0, .ref x1] ++ [.ref x2])) = H8 at s07 d7 e7 S07 S17 S27 ⊢
    have hp8 := sm_t s07 hp
    refine ⟨_, rfl, .inl ⟨rfl, _, .inl (.inl e7)⟩, _, rfl, p, _, _, _, rfl, rfl, hp8, atI_nat (j := 0) rfl, _, rfl, Ds, _, _, _, rfl, rfl, .inl (.inl d7), atI_nat (j := 3) rfl, _, rfl, Ds, _, _, _, rfl, rfl, .inl (.inl d7), atI_nat (j := 1) rfl, _, rfl, Ds, _, _, _, rfl, rfl, .inl (.inl d7), atI_nat (j := 0) rfl, _, rfl, Ds, _, _, _, rfl, rfl, .inl (.inl d7), atI_nat (j := 4) rfl, _, rfl, Ds, _, _, _, rfl, rfl, .inl (.inl d7), atI_nat (j := 2) rfl, rfl, rfl, fun x3 dx3 nx nd ne => ?_⟩
    refine ⟨x3, dx3, H8, z, [u0, u1, u2, u3, u4], [g0, g1, g2, g3, g4], rfl, nx, nd, ne, rfl, V_, (.cons m0 (.cons m1 (.cons m2 (.cons m3 (.cons m4 .nil)))) : MsVs K H _ _).same s07, fun H9 s9 S3 => ⟨rfl, l, _, _, rfl, rfl, s9 _ _ e7, len_show (Nat.le_of_ble_eq_true rfl), ?_⟩⟩
    refine ⟨_, rfl, k _ l x0 x1 x2 x3 (fun b o e => by rw [upd_ne (nl b o e)]; exact s9 _ _ (s07 _ _ e)) upd_same ?_ ?_ ?_ ?_⟩
    · exact (S07.same s9).lst (s9 _ _ e7)
    · exact (S17.same s9).lst (s9 _ _ e7)
    · exact (S27.same s9).lst (s9 _ _ e7)
    · exact S3.lst (s9 _ _ e7)

end
end Lf

set_option Elab.async false
set_option linter.all false
set_option maxRecDepth 100000
set_option maxHeartbeats 4000000
set_option exponentiation.threshold 3000
namespace Lf
open PySem PySem.Spec PyProof.Rows L2
theorem bt_list : bootBuiltins "list" = some (.type "list") := by decide +kernel
section
variable {P : Program} {w : World} {K : PySem.W.Frag} {mg : Str → Option Value} {base : Heap}
theorem sqT_lst {H : Hp} {a l : Addr} {zs ys ys' : List V} (e : H l = some (.lst ys)) (q : SqT K H a zs) : SqT K (L2.upd H l (.lst ys')) a zs := by
  rcases q with (q | ⟨ob, q⟩) | q
  · have ne : a ≠ l := fun z => by rw [z, e] at q; cases q
    exact .inl (.inl (by rw [upd_ne ne]; exact q))
  · have ne : a ≠ l := fun z => by rw [z, e] at q; cases q
    exact .inl (.inr ⟨ob, by rw [upd_ne ne]; exact q⟩)
  · exact .inr q
theorem AtK.lst {H : Hp} {l : Addr} {ys ys' : List V} {v : V} {f : Int × Int} (e : H l = some (.lst ys)) (h : AtK K H v f) : AtK K (L2.upd H l (.lst ys')) v f := by
  obtain ⟨q, rfl, hq⟩ := h
  exact ⟨q, rfl, sqT_lst e hq⟩
theorem DpAll.app {H : Hp} : ∀ {vs us : List V} {ds es : List PyData}, DpAll K H vs ds → DpAll K H us es → DpAll K H (vs ++ us) (ds ++ es)
  | _, _, _, _, .nil, h => h
  | _, _, _, _, .cons a r, h => .cons a (DpAll.app r h)
/-- what all a stuff tells -/
def toldD (z : Str) (fs : List (Int × Int)) : List PyData := (.str z :: fs.map tD) ++ fs.map tD ++ [tD (fs.getD 4 f0)]
theorem told_show {z : Str} {fs : List (Int × Int)} (h : StOk z fs) : ShowG (.list (toldD z fs)) := by
  have fa : FgA _ _ (toldD z fs) := FgA.all (w := 122) (k := 1) fun d hd => by
    have tds : ∀ d ∈ fs.map tD, Fg 122 1 d := fun d hd => by
      obtain ⟨f, hf, rfl⟩ := List.mem_map.mp hd
      exact (bt_ft (h.bt f hf)).fg
    rcases List.mem_append.mp hd with hd | hd
    · rcases List.mem_append.mp hd with hd | hd
      · rcases List.mem_cons.mp hd with rfl | hd
        · exact h.ftz.fg.le (by decide) (by decide)
        · exact tds d hd
      · exact tds d hd
    · rw [List.mem_singleton.mp hd]
      have : fs.getD 4 f0 ∈ fs := by
        rw [List.getD_eq_getElem?_getD, List.getElem?_eq_getElem (by have := h.n5; omega)]
        exact List.getElem_mem _
      exact (bt_ft (h.bt _ this)).fg
  have hl : (toldD z fs).length = 12 := by
    unfold toldD
    have := h.n5
    simp
    omega
  rw [hl] at fa
  exact (Fg.list fa).g

/-! ### _law_told -/
abbrev s__law_told : Stmt := topS 36
theorem sc__law_told : FnScope ["_law_stuff_here", "_law_words", "_law_told_here", "_law_one"] ["_law_stuff_here"] (defScope s__law_told) := ⟨rfl, rfl, rfl, by decide +kernel, rfl, by decide +kernel, by decide +kernel⟩
def sp_told (K : PySem.W.Frag) (C : Addr) : Sp := fun vs H Q _ => ∃ (x : Addr) (z : Str) (fs : List (Int × Int)), vs = [.ref x] ∧ Stf K H C x z fs ∧ fs.length = 5 ∧ ∀ H' l ys, Same H H' → H' l = some (.lst ys) → DpAll K H' ys (toldD z fs) → Q (.ref l) H'
set_option maxHeartbeats 8000000 in
theorem ok_told {f C fn fm : Addr} {fd fdn fdm : FuncData} (Mn : MetG P w K mg base CX0 1 C "name" fn fdn ["self"] (sp_mname K C)) {f0 : Addr} {fd0 : FuncData} (M0 : MetG P w K mg base CX0 3 C "flour" f0 fd0 ["self"] (sp_one K C 0)) {f1 : Addr} {fd1 : FuncData} (M1 : MetG P w K mg base CX0 3 C "water" f1 fd1 ["self"] (sp_one K C 1)) {f2 : Addr} {fd2 : FuncData} (M2 : MetG P w K mg base CX0 3 C "salt" f2 fd2 ["self"] (sp_one K C 2)) {f3 : Addr} {fd3 : FuncData} (M3 : MetG P w K mg base CX0 3 C "thirst" f3 fd3 ["self"] (sp_one K C 3)) {f4 : Addr} {fd4 : FuncData} (M4 : MetG P w K mg base CX0 3 C "price" f4 fd4 ["self"] (sp_one K C 4)) (MM : MetG P w K mg base CX0 2 C "measure" fm fdm ["self", "word"] (sp_measure K C))
    (kbM : ∀ (s : Shared) (u : Value) (us : List Value), us.length = 1 → BindsTo s fdm ⟨[u], ([("word" : Str)] : List Str).zip us⟩ (([("self" : Str), ("word" : Str)] : List Str).zip (u :: us))) (F : Fun K "_law_told" "_law_told" s__law_told f fd) : FnG P w K mg base CX0 4 f fd ["_law_stuff_here"] (sp_told K C) := by
  refine Gfun F sc__law_told (fun vs H Q E h => ?_) (fun cdv A outer s H vs Q E hg hr h => ?_)
  · obtain ⟨x, z, fs, rfl, _⟩ := h
    rfl
  · obtain ⟨x, z, fs, rfl, S, n5, k⟩ := h
    refine ⟨_, (pss_cons (ps_set (i := 1) sc__law_told.nd rfl (.inl rfl) (pe_lst (pa_cons pe_str (pa_cons pe_str (pa_cons pe_str (pa_cons pe_str (pa_cons pe_str pa_nil)))))))
      (pss_cons (ps_set (i := 2) sc__law_told.nd rfl (.inl rfl) (pe_lst (pa_cons (pe_meG0 (pv 0) Mn (hr.mono (by decide)) hg (fun _ => pass_no)) (pa_cons (pe_meG0 (pv 0) M0 (hr.mono (by decide)) hg (fun _ => pass_no)) (pa_cons (pe_meG0 (pv 0) M1 (hr.mono (by decide)) hg (fun _ => pass_no)) (pa_cons (pe_meG0 (pv 0) M2 (hr.mono (by decide)) hg (fun _ => pass_no)) (pa_cons (pe_meG0 (pv 0) M3 (hr.mono (by decide)) hg (fun _ => pass_no)) (pa_cons (pe_meG0 (pv 0) M4 (hr.mono (by decide)) hg (fun _ => pass_no)) pa_nil))))))))
      (pss_one (ps_ret (pe_op op_cat (pe_op op_cat (pv 2) (pe_lc (own := [("_law_one", 3)]) (g := gName 3) (tt := tYes) rfl sc__law_told.nd (pi_list (pv 1)) (blkOk_by (N := ["_law_stuff_here", "_law_words", "_law_told_here", "_law_one"]) (sc := defScope s__law_told) (by decide +kernel)) (fun _ _ _ _ _ => pg_name (i := 3) sc__law_told.nd rfl (Or.inl rfl)) (fun _ _ _ _ _ => pts_nil) (fun _ _ _ _ _ => (pe_meG (pv 0) MM (hr.mono (by decide)) hg (fun _ => pass_no) (pa_cons (pv 3) pa_nil))))) (pe_lst (pa_cons (pe_meGK (ks := ["word"]) (pv 0) MM kbM (hr.mono (by decide)) hg rfl (pk_cons (pe_ix ix_list (pv 1) pe_int (fun _ _ => rfl)) pk_nil)) pa_nil))))))), ?_⟩
    obtain ⟨g0, g1, g2, g3, g4, rfl⟩ : ∃ g0 g1 g2 g3 g4, fs = [g0, g1, g2, g3, g4] := by
      match fs, n5 with
      | [g0, g1, g2, g3, g4], _ => exact ⟨g0, g1, g2, g3, g4, rfl⟩
    refine ⟨len_show (Nat.le_of_ble_eq_true rfl), fun l1 n1 => ?_⟩
    have s1 : Same H (L2.upd H l1 (.lst [.str "flour", .str "water", .str "salt", .str "thirst", .str "price"])) := same_new n1
    have e1 : L2.upd H l1 (.lst [.str "flour", .str "water", .str "salt", .str "thirst", .str "price"]) l1 = some (.lst [.str "flour", .str "water", .str "salt", .str "thirst", .str "price"]) := upd_same
    generalize L2.upd H l1 (.lst [.str "flour", .str "water", .str "salt", .str "thirst", .str "price"]) = H1 at s1 e1 ⊢
    have S1 := S.same s1
    obtain ⟨dx, pm, xs, i1, i2, i3⟩ := id S1
    refine ⟨_, rfl, x, dx, _, rfl, i1, rfl, x, z, _, rfl, S1, ?_⟩
    refine ⟨_, rfl, x, dx, _, rfl, i1, rfl, x, z, _, g0, rfl, S1, rfl, fun w0 b0 => ?_⟩
    refine ⟨_, rfl, x, dx, _, rfl, i1, rfl, x, z, _, g1, rfl, S1, rfl, fun w1 b1 => ?_⟩
    refine ⟨_, rfl, x, dx, _, rfl, i1, rfl, x, z, _, g2, rfl, S1, rfl, fun w2 b2 => ?_⟩
    refine ⟨_, rfl, x, dx, _, rfl, i1, rfl, x, z, _, g3, rfl, S1, rfl, fun w3 b3 => ?_⟩
    refine ⟨_, rfl, x, dx, _, rfl, i1, rfl, x, z, _, g4, rfl, S1, rfl, fun w4 b4 => ?_⟩
    refine ⟨len_show (Nat.le_of_ble_eq_true rfl), fun l2 n2 => ?_⟩
    have s2 : Same H1 (L2.upd H1 l2 (.lst [.str z, w0, w1, w2, w3, w4])) := same_new n2
    have e2 : L2.upd H1 l2 (.lst [.str z, w0, w1, w2, w3, w4]) l2 = some (.lst [.str z, w0, w1, w2, w3, w4]) := upd_same
    generalize L2.upd H1 l2 (.lst [.str z, w0, w1, w2, w3, w4]) = H2 at s2 e2 ⊢
    have e12 := s2 _ _ e1
    have S2 := S1.same s2
    refine ⟨_, rfl, _, rfl, l1, rfl, ⟨_, .inl (.inl e12)⟩, fun D hD => lc_list (xs := [.str "flour", .str "water", .str "salt", .str "thirst", .str "price"]) (fun i H' => Same H2 H' ∧ ∃ acc, H' D = some (.lst acc) ∧ AtKs K H' acc ([g0, g1, g2, g3, g4].take i)) ⟨same_new hD, [], upd_same, .nil⟩ (fun i H' _ h => .inl (.inl (h.1 _ _ e12))) ?_ ?_⟩
    · rintro i y H3 hy ⟨s3, acc, eacc, hacc⟩
      have hi : i < 5 := (List.getElem?_eq_some_iff.mp hy).1
      have S3 := S2.same s3
      obtain ⟨dx3, pm3, xs3, j1, j2, j3⟩ := id S3
      obtain ⟨wd, hwd, rfl⟩ : ∃ wd, words[i]? = some wd ∧ y = .str wd := by
        have hm : (words.map V.str)[i]? = some y := hy
        rw [List.getElem?_map] at hm
        cases q : words[i]? with
        | none => rw [q] at hm; cases hm
        | some wd => rw [q] at hm; exact ⟨wd, rfl, (Option.some.inj hm).symm⟩
      obtain ⟨g, hgi⟩ : ∃ g, [g0, g1, g2, g3, g4][i]? = some g := ⟨_, List.getElem?_eq_getElem hi⟩
      refine ⟨rfl, _, rfl, x, dx3, _, rfl, j1, rfl, _, rfl, x, z, wd, _, i, g, rfl, S3, hwd, hgi, fun v hv => ⟨acc, eacc, ?_, ?_, acc ++ [v], upd_same, ?_⟩⟩
      · have := hacc.length
        rw [List.length_take] at this
        rw [sizeLine_eq]
        omega
      · intro b o e
        rw [upd_ne (ne_of_none e hD)]
        exact s3 _ _ e
      · rw [List.take_succ, hgi]
        exact (hacc.map fun v f hv => AtK.lst eacc hv).app (.cons (AtK.lst eacc hv) .nil)
    · rintro H3 ⟨s3, acc, eacc, hacc⟩
      have hacc' : AtKs K H3 acc [g0, g1, g2, g3, g4] := hacc
      clear hacc
      have hal := hacc'.length
      have hal' : acc.length = 5 := hal
      refine ⟨l2, D, _, _, rfl, rfl, s3 _ _ e2, eacc, by rw [sizeLine_eq, hal']; show 6 + 5 ≤ 16777216; decide, fun l4 n4 => ?_⟩
      have s4 : Same H3 (L2.upd H3 l4 (.lst ([.str z, w0, w1, w2, w3, w4] ++ acc))) := same_new n4
      have e4 : L2.upd H3 l4 (.lst ([.str z, w0, w1, w2, w3, w4] ++ acc)) l4 = some (.lst ([.str z, w0, w1, w2, w3, w4] ++ acc)) := upd_same
      generalize L2.upd H3 l4 (.lst ([.str z, w0, w1, w2, w3, w4] ++ acc)) = H4 at s4 e4 ⊢
      have s24 := s3.trans s4
      have S4 := S2.same s24
      obtain ⟨dx4, pm4, xs4, j1, j2, j3⟩ := id S4
      refine ⟨_, rfl, x, dx4, _, rfl, j1, rfl, _, rfl, l1, _, _, _, rfl, rfl, .inl (.inl (s24 _ _ e12)), atI_nat (j := 4) rfl, x, z, _, _, 4, g4, rfl, S4, rfl, rfl, fun v hv => ?_⟩
      refine ⟨len_show (Nat.le_of_ble_eq_true rfl), fun l5 n5 => ?_⟩
      have s5 : Same H4 (L2.upd H4 l5 (.lst [v])) := same_new n5
      have e5 : L2.upd H4 l5 (.lst [v]) l5 = some (.lst [v]) := upd_same
      generalize L2.upd H4 l5 (.lst [v]) = H5 at s5 e5 ⊢
      refine ⟨l4, l5, _, _, rfl, rfl, s5 _ _ e4, e5, by rw [sizeLine_eq, List.length_append, hal']; show 6 + 5 + 1 ≤ 16777216; decide, fun l6 n6 => ?_⟩
      have s6 : Same H5 (L2.upd H5 l6 (.lst ([.str z, w0, w1, w2, w3, w4] ++ acc ++ [v]))) := same_new n6
      have s46 := s5.trans s6
      have s36 := s4.trans s46
      have s16 := (s2.trans s3).trans s36
      refine k _ l6 _ (s1.trans s16) upd_same ?_
      refine DpAll.app (DpAll.app (.cons (.str z) (.cons (b0.same s16).dp (.cons (b1.same s16).dp (.cons (b2.same s16).dp (.cons (b3.same s16).dp (.cons (b4.same s16).dp .nil)))))) (AtKs.dpAll (hacc'.same s36))) (.cons ?_ .nil)
      exact (hv.same s46).dp

/-! ### _law_is_right -/
abbrev s__law_is_right : Stmt := topS 37
theorem sc__law_is_right : FnScope ["_law_stuff_here", "_law_row", "_law_due", "_law_shown", "_law_one"] ["_law_stuff_here", "_law_row"] (defScope s__law_is_right) := ⟨rfl, rfl, rfl, by decide +kernel, rfl, by decide +kernel, by decide +kernel⟩
def sp_isright (K : PySem.W.Frag) (C : Addr) : Sp := fun vs H Q _ => ∃ (x p : Addr) (z : Str) (fs : List (Int × Int)), vs = [.ref x, .ref p] ∧ Stf K H C x z fs ∧ RowV K H p z fs ∧ StOk z fs ∧ ∀ H', Same H H' → Q (.bl true) H'
set_option maxHeartbeats 8000000 in
theorem ok_isright {f C fr : Addr} {fd fdr : FuncData} (M : Blt mg) (ml : mg "list" = none) (MR : OwnM P w K mg base 1 C "__repr__" fr fdr ["self"] (sp_srepr K C)) (F : Fun K "_law_is_right" "_law_is_right" s__law_is_right f fd) (C__law_told : Cal P w K mg base CX0 4 "_law_told" ["_law_stuff_here"] (sp_told K C)) : FnG P w K mg base CX0 5 f fd ["_law_stuff_here", "_law_row"] (sp_isright K C) := by
  refine Gfun F sc__law_is_right (fun vs H Q E h => ?_) (fun cdv A outer s H vs Q E hg hr h => ?_)
  · obtain ⟨x, p, z, fs, rfl, _⟩ := h
    rfl
  · obtain ⟨x, p, z, fs, rfl, S, ⟨xs, hp, hxs⟩, ok, k⟩ := h
    refine ⟨_, (pss_cons (ps_set (i := 2) sc__law_is_right.nd rfl (.inl rfl) (pe_op op_cat (pe_op op_cat (pe_callTy call_list_of rfl ml bt_list (pa_cons (pv 1) pa_nil)) (pe_callTy call_list_of rfl ml bt_list (pa_cons (pe_slice sl_tup (pv 1) (po_some pe_int) po_none) pa_nil))) (pe_lst (pa_cons (pe_ix ix_tup (pv 1) pe_int (fun _ _ => rfl)) pa_nil))))
      (pss_cons (ps_set (i := 3) sc__law_is_right.nd rfl (.inl rfl) (pe_op op_add_str (pe_op op_add_str pe_str (pe_bm PySem.F.plainAttrs_str PySem.F.slot_str_join PySem.F.type_str_join mt_join pe_str (pa_cons (pe_lc (own := [("_law_one", 4)]) (g := gName 4) (tt := tYes) rfl sc__law_is_right.nd (pi_tup (pv 1)) (blkOk_by (N := ["_law_stuff_here", "_law_row", "_law_due", "_law_shown", "_law_one"]) (sc := defScope s__law_is_right) (by decide +kernel)) (fun _ _ _ _ _ => pg_name (i := 4) sc__law_is_right.nd rfl (Or.inl rfl)) (fun _ _ _ _ _ => pts_nil) (fun _ _ _ _ _ => (pe_callB (call_showK (K := K) hg hr) rfl M.repr bt_repr (pa_cons (pv 4) pa_nil)))) pa_nil))) pe_str))
      (pss_one (ps_ret (pe_and (pe_cmpR op_eq (pe_callB (call_showG hg hr) rfl M.repr bt_repr (pa_cons (pe_g C__law_told (hr.mono (by decide)) hg (pa_cons (pv 0) pa_nil)) pa_nil)) (pe_callB (call_showG hg hr) rfl M.repr bt_repr (pa_cons (pv 2) pa_nil)) (nomark _)) (pe_one (pe_cmpR op_eq (pe_callB (call_reprO MR (hr.mono (by decide)) hg) rfl M.repr bt_repr (pa_cons (pv 0) pa_nil)) (pv 3) (nomark _)))))))), ?_⟩
    obtain ⟨v0, v1, v2, v3, v4, g0, g1, g2, g3, g4, rfl, rfl, a0, a1, a2, a3, a4⟩ := atks5 hxs ok.n5
    refine ⟨_, rfl, p, _, rfl, .inr hp, fun l1 n1 => ?_⟩
    have s1 : Same H (L2.upd H l1 (.lst [.str z, v0, v1, v2, v3, v4])) := same_new n1
    have e1 : L2.upd H l1 (.lst [.str z, v0, v1, v2, v3, v4]) l1 = some (.lst [.str z, v0, v1, v2, v3, v4]) := upd_same
    generalize L2.upd H l1 (.lst [.str z, v0, v1, v2, v3, v4]) = H1 at s1 e1 ⊢
    refine ⟨_, rfl, _, rfl, p, _, rfl, sm_t s1 hp, ?_, fun p2 n2 => ?_⟩
    · rintro ⟨q, _⟩
      exact absurd q (by show ¬ HT.sIx 6 0 (some 1) = 0; decide)
    have s2 : Same H1 (L2.upd H1 p2 (.tup (cutV [.str z, v0, v1, v2, v3, v4] (some 1) none))) := same_new n2
    have t2 : SqT K (L2.upd H1 p2 (.tup (cutV [.str z, v0, v1, v2, v3, v4] (some 1) none))) p2 [v0, v1, v2, v3, v4] := .inl (.inl upd_same)
    generalize L2.upd H1 p2 (.tup (cutV [.str z, v0, v1, v2, v3, v4] (some 1) none)) = H2 at s2 t2 ⊢
    refine ⟨p2, _, rfl, .inr t2, fun l3 n3 => ?_⟩
    have s3 : Same H2 (L2.upd H2 l3 (.lst [v0, v1, v2, v3, v4])) := same_new n3
    have e3 : L2.upd H2 l3 (.lst [v0, v1, v2, v3, v4]) l3 = some (.lst [v0, v1, v2, v3, v4]) := upd_same
    generalize L2.upd H2 l3 (.lst [v0, v1, v2, v3, v4]) = H3 at s3 e3 ⊢
    have s13 := s2.trans s3
    refine ⟨l1, l3, _, _, rfl, rfl, s13 _ _ e1, e3, len_show (Nat.le_of_ble_eq_true rfl), fun l4 n4 => ?_⟩
    have s4 : Same H3 (L2.upd H3 l4 (.lst ([.str z, v0, v1, v2, v3, v4] ++ [v0, v1, v2, v3, v4]))) := same_new n4
    have e4 : L2.upd H3 l4 (.lst ([.str z, v0, v1, v2, v3, v4] ++ [v0, v1, v2, v3, v4])) l4 = some (.lst ([.str z, v0, v1, v2, v3, v4] ++ [v0, v1, v2, v3, v4])) := upd_same
    generalize L2.upd H3 l4 (.lst ([.str z, v0, v1, v2, v3, v4] ++ [v0, v1, v2, v3, v4])) = H4 at s4 e4 ⊢
    have s04 := (s1.trans s13).trans s4
    refine ⟨_, rfl, p, _, _, _, rfl, rfl, sm_t s04 hp, atI_nat (j := 5) rfl, len_show (Nat.le_of_ble_eq_true rfl), fun l5 n5 => ?_⟩
    have s5 : Same H4 (L2.upd H4 l5 (.lst [v4])) := same_new n5
    have e5 : L2.upd H4 l5 (.lst [v4]) l5 = some (.lst [v4]) := upd_same
    generalize L2.upd H4 l5 (.lst [v4]) = H5 at s5 e5 ⊢
    refine ⟨l4, l5, _, _, rfl, rfl, s5 _ _ e4, e5, len_show (Nat.le_of_ble_eq_true rfl), fun l6 n6 => ?_⟩
    have s6 : Same H5 (L2.upd H5 l6 (.lst ([.str z, v0, v1, v2, v3, v4] ++ [v0, v1, v2, v3, v4] ++ [v4]))) := same_new n6
    have e6 : L2.upd H5 l6 (.lst ([.str z, v0, v1, v2, v3, v4] ++ [v0, v1, v2, v3, v4] ++ [v4])) l6 = some (.lst ([.str z, v0, v1, v2, v3, v4] ++ [v0, v1, v2, v3, v4] ++ [v4])) := upd_same
    generalize L2.upd H5 l6 (.lst ([.str z, v0, v1, v2, v3, v4] ++ [v0, v1, v2, v3, v4] ++ [v4])) = H6 at s6 e6 ⊢
    have s06 := (s04.trans s5).trans s6
    have hx6 : AtKs K H6 [v0, v1, v2, v3, v4] [g0, g1, g2, g3, g4] := hxs.same s06
    have due6 : ∀ H', Same H6 H' → Dp K H' (.ref l6) (.list (toldD z [g0, g1, g2, g3, g4])) := fun H' sm => by
      have hx := AtKs.dpAll (hx6.same sm)
      refine .lst (.inl (.inl (sm _ _ e6))) (DpAll.app (DpAll.app (.cons (.str z) hx) hx) (.cons ?_ .nil))
      exact ((a4.same s06).same sm).dp
    -- the text
    have hp6 := sm_t s06 hp
    have six : SixD K H6 [.str z, v0, v1, v2, v3, v4] (PyData.str z :: [g0, g1, g2, g3, g4].map tD) := .cons (.str z) ⟨10, ⟨ok.ftz.sh, ok.ftz.nd, Nat.le_trans ok.ftz.dp (by decide), ok.ftz.lv, ok.ftz.wt⟩, by decide⟩ (SixD.of hx6 ok.bt)
    refine ⟨rfl, _, rfl, p, rfl, ⟨_, hp6⟩, fun D hD => lc_tup (xs := [.str z, v0, v1, v2, v3, v4]) (fun i H' => Same H6 H' ∧ H' D = some (.lst (((stfWords z [g0, g1, g2, g3, g4]).take i).map V.str))) ⟨same_new hD, upd_same⟩ (fun i H' _ h => sm_t h.1 hp6) ?_ ?_⟩
    · rintro i y H7 hy ⟨s7, e7⟩
      obtain ⟨d, hd, hdp, w, hw, hw2⟩ := six.get hy
      have hi : i < 6 := (List.getElem?_eq_some_iff.mp hy).1
      have sh := hw.g (by decide) (by omega)
      refine ⟨rfl, _, rfl, y, d, rfl, .of (Dp.same s7 _ _ hdp), sh.sh, sh.dp, sh.ln, _, e7, ?_, fun b o e => ?_, ?_⟩
      · rw [List.length_map, List.length_take, sizeLine_eq]
        omega
      · rw [upd_ne (ne_of_none e hD)]
        exact s7 _ _ e
      · have hg2 : (stfWords z [g0, g1, g2, g3, g4])[i]? = some d.shown := by rw [← words_map, List.getElem?_map, hd]; rfl
        rw [upd_same, List.take_succ, hg2, List.map_append]
        rfl
    · rintro H7 ⟨s7, e7⟩
      rw [List.take_of_length_le (by rw [words_n ok]; exact Nat.le_refl 6)] at e7
      have zl := sizeLine_eq
      have jl := joined_len ok
      have ws := words_sum ok
      have l1 : (Str.ofString "Stuff(").length = 6 := by decide +kernel
      have l2 : (Str.ofString ")").length = 1 := by decide +kernel
      refine ⟨_, D, stfWords z [g0, g1, g2, g3, g4], rfl, rfl, .inl (.inl (.inl e7)), ?_, _, _, rfl, rfl, ?_, _, _, rfl, rfl, ?_, ?_⟩
      · rw [words_n ok, show (Str.ofString ", ").length = 2 by decide +kernel]
        omega
      · omega
      · rw [PySem.Str.length_append]
        omega
      have s07 := s06.trans s7
      refine ⟨_, rfl, x, z, _, rfl, S.same s07, ok.n5, fun H8 l8 ys s8 e8 hy8 => ?_⟩
      have sh := told_show ok
      obtain ⟨td, htd⟩ : ∃ td, td = PyData.list (toldD z [g0, g1, g2, g3, g4]) := ⟨_, rfl⟩
      have d8 : Dp K H8 (.ref l8) td := by rw [htd]; exact .lst (.inl (.inl e8)) hy8
      have d6 : Dp K H8 (.ref l6) td := by rw [htd]; exact due6 H8 (s7.trans s8)
      rw [← htd] at sh
      refine ⟨.ref l8, td, rfl, .of d8, sh.sh, sh.dp, sh.ln, ?_⟩
      refine ⟨_, rfl, .ref l6, td, rfl, .of d6, sh.sh, sh.dp, sh.ln, ?_⟩
      refine ⟨rfl, _, rfl, ?_⟩
      rw [decide_eq_true rfl]
      refine iteT ?_
      have s08 := s07.trans s8
      have S8 := S.same s08
      obtain ⟨dx, pm, ms, i1, i2, i3⟩ := id S8
      refine ⟨_, rfl, x, dx, _, rfl, i1, x, z, _, rfl, S8, ok, fun H9 s9 => ⟨_, rfl, _, rfl, rfl, ?_⟩⟩
      have e9 : decide (V.str (stfText z [g0, g1, g2, g3, g4]) = V.str (Str.ofString "Stuff(" ++ Txt.join (Str.ofString ", ") (stfWords z [g0, g1, g2, g3, g4]) ++ Str.ofString ")")) = true := decide_eq_true rfl
      rw [e9]
      exact k H9 (s08.trans s9)

end
end Lf

set_option Elab.async false
set_option linter.all false
set_option maxRecDepth 100000
set_option maxHeartbeats 4000000
set_option exponentiation.threshold 3000
/-! Weights, steps, how often a step goes into weights, aims. -/
namespace Lf
theorem low_b {n d : Int} (hd : 0 < d) : 0 < (low n d).2 := (low_is (n := n) (by omega)).1
theorem low_top_pos {n d : Int} (hd : 0 < d) (hn : 0 < n) : 0 < (low n d).1 := by
  have h := low_cross (n := n) (d := d) (by omega)
  have hb := low_b (n := n) hd
  have : 0 < (low n d).1 * d := by rw [h]; exact Int.mul_pos hn hb
  exact Int.pos_of_mul_pos_left this hd
theorem low_top_nn {n d : Int} (hd : 0 < d) (hn : 0 ≤ n) : 0 ≤ (low n d).1 := by
  have h := low_cross (n := n) (d := d) (by omega)
  have hb := low_b (n := n) hd
  have h2 : 0 ≤ (low n d).1 * d := by rw [h]; exact Int.mul_nonneg hn (Int.le_of_lt hb)
  exact Int.nonneg_of_mul_nonneg_left h2 hd
theorem fdiv_pos_eq {a b : Int} (h : 0 < b) : a.fdiv b = a / b := Int.fdiv_eq_ediv_of_nonneg a (Int.le_of_lt h)
theorem low_fl {n d : Int} (hd : 0 < d) : (low n d).1.fdiv (low n d).2 = n.fdiv d := by
  have h := low_cross (n := n) (d := d) (by omega)
  have hb := low_b (n := n) hd
  rw [fdiv_pos_eq hb, fdiv_pos_eq hd]
  have e1 : d * (low n d).1 / (d * (low n d).2) = (low n d).1 / (low n d).2 := Int.mul_ediv_mul_of_pos _ _ hd
  have e2 : (low n d).2 * n / ((low n d).2 * d) = n / d := Int.mul_ediv_mul_of_pos _ _ hb
  rw [← e1, ← e2, Int.mul_comm d (low n d).1, h, Int.mul_comm n, Int.mul_comm d]
/-- at most c -/
def Vb (c : Int) (f : Int × Int) : Prop := f.1 ≤ c * f.2
theorem vb_low {n d c : Int} (hd : 0 < d) (h : n ≤ c * d) : Vb c (low n d) := by
  have hc := low_cross (n := n) (d := d) (by omega)
  have hb := low_b (n := n) hd
  unfold Vb
  have h1 : (low n d).1 * d ≤ (c * (low n d).2) * d := by
    rw [hc]
    have := Int.mul_le_mul_of_nonneg_right h (Int.le_of_lt hb)
    have e : c * d * (low n d).2 = c * (low n d).2 * d := by grind
    omega
  exact Int.le_of_mul_le_mul_right h1 hd
theorem vb_add {f g : Int × Int} {c e : Int} (hf : IsF f) (hg : IsF g) (h : Vb c f) (k : Vb e g) : Vb (c + e) (fadd f g) := by
  have h2 : 0 < f.2 := hf.1
  have k2 : 0 < g.2 := hg.1
  refine vb_low (Int.mul_pos h2 k2) ?_
  have a := Int.mul_le_mul_of_nonneg_right h (Int.le_of_lt k2)
  have b := Int.mul_le_mul_of_nonneg_right k (Int.le_of_lt h2)
  have e1 : c * f.2 * g.2 + e * g.2 * f.2 = (c + e) * (f.2 * g.2) := by grind
  omega
theorem vb_fold {C : Int} : ∀ (l : List (Int × Int)) (c : Int) (a : Int × Int), IsF a → AllF l → Vb c a → (∀ f ∈ l, Vb C f) → Vb (c + C * l.length) (l.foldl fadd a)
  | [], c, a, _, _, h, _ => by simpa using h
  | f :: l, c, a, ha, h, hk, hb => by
    have := vb_fold l (c + C) (fadd a f) (fadd_f ha h.hd) h.tl (vb_add ha h.hd hk (hb f List.mem_cons_self)) (fun g hg => hb g (List.mem_cons_of_mem _ hg))
    rw [List.length_cons]
    have e : c + C + C * (l.length : Int) = c + C * ((l.length + 1 : Nat) : Int) := by
      rw [Int.natCast_add, Int.mul_add]
      omega
    rw [← e]
    exact this
/-- a weight -/
structure Wt (f : Int × Int) : Prop where
  lo : IsF f
  po : 0 < f.1
  bt : Bt 41 f
theorem Wt.vb {f : Int × Int} (h : Wt f) : Vb (2 ^ 41) f := by
  unfold Vb
  have h1 := h.bt.1
  have h2 : 0 < f.2 := h.lo.1
  have h3 : f.1 < 2 ^ 41 := by
    have := h.po
    omega
  have : (2 : Int) ^ 41 * 1 ≤ 2 ^ 41 * f.2 := Int.mul_le_mul_of_nonneg_left (by omega) (by decide)
  omega
/-- weights -/
structure Wts (fs : List (Int × Int)) : Prop where
  all : ∀ f ∈ fs, Wt f
  one : 1 ≤ fs.length
  few : fs.length ≤ 12
theorem Wts.f {fs : List (Int × Int)} (h : Wts fs) : AllF fs := fun f hf => (h.all f hf).lo
theorem Wts.b {fs : List (Int × Int)} (h : Wts fs) : AllB 41 fs := fun f hf => (h.all f hf).bt
def tot (fs : List (Int × Int)) : Int × Int := fs.foldl fadd f0
theorem tot_f {fs : List (Int × Int)} (h : AllF fs) : IsF (tot fs) := (sum_fold fs f0 f0_f h).1
theorem tot_bt {fs : List (Int × Int)} (h : Wts fs) : Bt 505 (tot fs) := by
  have := add_bt (b := 41) fs 1 f0 f0_f h.f bt01.1 h.b
  refine this.mono ?_
  have := h.few
  omega
theorem fold_pos : ∀ (l : List (Int × Int)) (a : Int × Int), IsF a → AllF l → (∀ f ∈ l, 0 < f.1) → 0 ≤ a.1 → (l ≠ [] ∨ 0 < a.1) → 0 < (l.foldl fadd a).1
  | [], a, _, _, _, _, h => h.elim (fun z => absurd rfl z) id
  | f :: l, a, ha, hF, hp, h0, _ => by
    have h2 : 0 < a.2 := ha.1
    have k2 : 0 < f.2 := hF.hd.1
    have hpos : 0 < (fadd a f).1 := by
      refine low_top_pos (Int.mul_pos h2 k2) ?_
      have a1 := Int.mul_nonneg h0 (Int.le_of_lt k2)
      have a2 := Int.mul_pos (hp f List.mem_cons_self) h2
      omega
    exact fold_pos l (fadd a f) (fadd_f ha hF.hd) hF.tl (fun g hg => hp g (List.mem_cons_of_mem _ hg)) (Int.le_of_lt hpos) (.inr hpos)
theorem tot_pos {fs : List (Int × Int)} (h : Wts fs) : 0 < (tot fs).1 := by
  refine fold_pos fs f0 f0_f h.f (fun f hf => (h.all f hf).po) (by decide) (.inl fun z => ?_)
  have := h.one
  rw [z] at this
  cases this
theorem tot_vb {fs : List (Int × Int)} (h : Wts fs) : Vb (2 ^ 45) (tot fs) := by
  have v := vb_fold (C := 2 ^ 41) fs 0 f0 f0_f h.f (by unfold Vb; decide) (fun f hf => (h.all f hf).vb)
  unfold Vb at v ⊢
  have hb : 0 < (tot fs).2 := (tot_f h.f).1
  have h12 : (0 : Int) + 2 ^ 41 * (fs.length : Int) ≤ 2 ^ 45 := by
    have := h.few
    omega
  have := Int.mul_le_mul_of_nonneg_right h12 (Int.le_of_lt hb)
  show (tot fs).1 ≤ _
  have v' : (tot fs).1 ≤ (0 + 2 ^ 41 * (fs.length : Int)) * (tot fs).2 := v
  omega
/-- how often the step goes into the weights -/
def many (fs : List (Int × Int)) (st : Int × Int) : Int := ((tot fs).1 * st.2).fdiv ((tot fs).2 * st.1)
theorem many_nn {fs : List (Int × Int)} {st : Int × Int} (h : Wts fs) (hs : Wt st) : 0 ≤ many fs st := by
  have hb : 0 < (tot fs).2 := (tot_f h.f).1
  have hd := Int.mul_pos hb hs.po
  unfold many
  rw [fdiv_pos_eq hd]
  exact Int.ediv_nonneg (Int.mul_nonneg (Int.le_of_lt (tot_pos h)) (Int.le_of_lt hs.lo.1)) (Int.le_of_lt hd)
theorem many_lt {fs : List (Int × Int)} {st : Int × Int} (h : Wts fs) (hs : Wt st) : (many fs st).natAbs < 2 ^ 90 := by
  have hb : 0 < (tot fs).2 := (tot_f h.f).1
  have hd := Int.mul_pos hb hs.po
  have h0 := many_nn h hs
  have hv : (tot fs).1 ≤ 2 ^ 45 * (tot fs).2 := tot_vb h
  have s2 : 0 < st.2 := hs.lo.1
  have s1 := hs.po
  have key : many fs st ≤ 2 ^ 45 * st.2 := by
    unfold many
    rw [fdiv_pos_eq hd]
    refine Int.ediv_le_of_le_mul hd ?_
    have a := Int.mul_le_mul_of_nonneg_right hv (Int.le_of_lt s2)
    have b : 2 ^ 45 * (tot fs).2 * st.2 * 1 ≤ 2 ^ 45 * (tot fs).2 * st.2 * st.1 := Int.mul_le_mul_of_nonneg_left (by omega) (Int.mul_nonneg (Int.mul_nonneg (by decide) (Int.le_of_lt hb)) (Int.le_of_lt s2))
    have e : 2 ^ 45 * (tot fs).2 * st.2 * st.1 = 2 ^ 45 * st.2 * ((tot fs).2 * st.1) := by grind
    omega
  have hb2 := hs.bt.2
  omega
theorem many_is {fs : List (Int × Int)} {st : Int × Int} (h : Wts fs) (hs : Wt st) : (fdiv (tot fs) st).1.fdiv (fdiv (tot fs) st).2 = many fs st := low_fl (Int.mul_pos (tot_f h.f).1 hs.po)
/-- all weights by how many steps -/
def factor (fs : List (Int × Int)) (st : Int × Int) : Int × Int := fdiv (many fs st, 1) (tot fs)
theorem m1_f (m : Int) : IsF (m, 1) := ⟨by show (0 : Int) < 1; decide, by show Nat.Coprime m.natAbs 1; exact Nat.coprime_one_right _⟩
theorem factor_f {fs : List (Int × Int)} {st : Int × Int} (h : Wts fs) : IsF (factor fs st) := fdiv_f (m1_f _) (by have := tot_pos h; omega)
theorem many_bt {fs : List (Int × Int)} {st : Int × Int} (h : Wts fs) (hs : Wt st) : Bt 90 (many fs st, 1) := ⟨many_lt h hs, by show (1 : Int).natAbs < 2 ^ 90; decide⟩
theorem factor_bt {fs : List (Int × Int)} {st : Int × Int} (h : Wts fs) (hs : Wt st) : Bt 595 (factor fs st) := fdiv_bt (m1_f _) (by have := tot_pos h; omega) (many_bt h hs) (tot_bt h)
def aim (fs : List (Int × Int)) (st f : Int × Int) : Int × Int := fmul f (factor fs st)
theorem aim_f {fs : List (Int × Int)} {st f : Int × Int} (h : Wts fs) (hf : Wt f) : IsF (aim fs st f) := fmul_f hf.lo (factor_f h)
theorem aim_bt {fs : List (Int × Int)} {st f : Int × Int} (h : Wts fs) (hs : Wt st) (hf : Wt f) : Bt 636 (aim fs st f) := fmul_bt hf.lo (factor_f h) hf.bt (factor_bt h hs)
/-- the aim as the law reckons it -/
theorem aim_low {fs : List (Int × Int)} {st f : Int × Int} (h : Wts fs) (hf : Wt f) : aim fs st f = low (f.1 * (tot fs).2 * many fs st) (f.2 * (tot fs).1) := by
  have t1 : (tot fs).1 ≠ 0 := by have := tot_pos h; omega
  have hd : f.2 * (tot fs).1 ≠ 0 := Int.mul_ne_zero hf.lo.ne t1
  refine rv_inj (aim_f h hf) (low_f hd) ?_
  have e : rv (aim fs st f) = rv f * rv (factor fs st) := rv_mul hf.lo (factor_f (st := st) h)
  have e2 : rv (factor fs st) = rv (many fs st, 1) * (rv (tot fs))⁻¹ := rv_div (m1_f _) t1
  rw [e, e2, rv_low hd]
  unfold rv
  rw [Rat.inv_divInt, Rat.divInt_mul_divInt, Rat.divInt_mul_divInt]
  congr 1 <;> grind
end Lf

set_option Elab.async false
set_option linter.all false
/-! The order of fractions as that of rationals. -/
namespace Lf
theorem rv_le {f g : Int × Int} (hf : IsF f) (hg : IsF g) : rv f ≤ rv g ↔ f.1 * g.2 ≤ g.1 * f.2 := by
  have h1 : 0 < f.2 := hf.1
  have h2 : 0 < g.2 := hg.1
  rw [Rat.le_iff_sub_nonneg, ← rv_sub hg hf]
  unfold fsub
  rw [rv_low (Int.mul_ne_zero hg.ne hf.ne), Rat.divInt_nonneg_iff_of_pos_right (Int.mul_pos h2 h1)]
  omega
theorem rv_lt {f g : Int × Int} (hf : IsF f) (hg : IsF g) : rv f < rv g ↔ f.1 * g.2 < g.1 * f.2 := by
  rw [← Rat.not_le, rv_le hg hf]
  omega
theorem rv_nn {f : Int × Int} (hf : IsF f) : 0 ≤ rv f ↔ 0 ≤ f.1 := by
  have h1 : 0 < f.2 := hf.1
  unfold rv
  rw [Rat.divInt_nonneg_iff_of_pos_right h1]
theorem rv_le1 {f : Int × Int} (hf : IsF f) : rv f ≤ 1 ↔ f.1 ≤ f.2 := by
  rw [← rv1, rv_le hf f1_f]
  show f.1 * 1 ≤ 1 * f.2 ↔ _
  omega
/-- half of it -/
def half (f : Int × Int) : Int × Int := low f.1 (2 * f.2)
theorem half_f {f : Int × Int} (hf : IsF f) : IsF (half f) := low_f (by have := hf.ne; omega)
theorem half_cross {f : Int × Int} (hf : IsF f) : (half f).1 * (2 * f.2) = f.1 * (half f).2 := low_cross (by have := hf.ne; omega)
theorem half_nn {f : Int × Int} (hf : IsF f) (h : 0 ≤ f.1) : 0 ≤ (half f).1 := low_top_nn (by have := hf.1; omega) h
theorem half_le {f : Int × Int} (hf : IsF f) (h : 0 ≤ f.1) : rv (half f) ≤ rv f := by
  rw [rv_le (half_f hf) hf, ← half_cross hf]
  have h1 : 0 ≤ (half f).1 * f.2 := Int.mul_nonneg (half_nn hf h) (Int.le_of_lt hf.1)
  have e : (half f).1 * (2 * f.2) = 2 * ((half f).1 * f.2) := by rw [Int.mul_left_comm]
  omega
theorem half_ne {f : Int × Int} (hf : IsF f) (h : f.1 ≠ 0) : half f ≠ f := by
  intro e
  have c := half_cross hf
  rw [e] at c
  have e2 : f.1 * (2 * f.2) = 2 * (f.1 * f.2) := by rw [Int.mul_left_comm]
  have : f.1 * f.2 ≠ 0 := Int.mul_ne_zero h hf.ne
  omega
end Lf

set_option Elab.async false
set_option linter.all false
set_option maxRecDepth 100000
set_option maxHeartbeats 4000000
set_option exponentiation.threshold 3000
namespace Lf
open PySem PySem.Spec PyProof.Rows L2
theorem ix_tupK {X : Cx} {K : PySem.W.Frag} (hK : X.K = K := by rfl) : IxR X (rIxT K) := hK ▸ ix_tup
theorem op_neK {X : Cx} {K : PySem.W.Frag} (h : X.A.units + 64 < cLine) (hK : X.K = K := by rfl) : OpR X (compareOp .NotEq) (rNeD K) := hK ▸ op_neD h
section
variable {P : Program} {w : World} {K : PySem.W.Frag} {mg : Str → Option Value} {base : Heap}
theorem pot_ne {q p : Addr} {H : Hp} (h : Pot H q) (n : H p = none) : p ≠ q := fun z => by
  obtain ⟨x, y, _, _, e⟩ := h
  rw [z, e] at n
  cases n
theorem too_iff {f g h : Int × Int} (hf : IsF f) (hg : IsF g) (hh : IsF h) : tooM f g h = false ↔ rv f + rv g + rv h ≤ 1 := by
  have F := fadd_f (fadd_f hf hg) hh
  have e : rv (fadd (fadd f g) h) = rv f + rv g + rv h := by rw [rv_add (fadd_f hf hg) hh, rv_add hf hg]
  rw [← e, rv_le1 F]
  unfold tooM
  rw [decide_eq_false_iff_not]
  omega
theorem RowV.but {q p : Addr} {H H' : Hp} {z : Str} {gs : List (Int × Int)} (b : But q H H') (hP : Pot H q) (h : RowV K H p z gs) : RowV K H' p z gs := by
  obtain ⟨x, y, _, _, eq⟩ := hP
  have sq : ∀ {a : Addr} {zs : List V}, SqT K H a zs → SqT K H' a zs := fun {a zs} r => by
    rcases r with (r | ⟨ob, r⟩) | r
    · exact .inl (.inl (b _ _ (fun z => by rw [z, eq] at r; cases r) r))
    · exact .inl (.inr ⟨ob, b _ _ (fun z => by rw [z, eq] at r; cases r) r⟩)
    · exact .inr r
  obtain ⟨xs, h1, h2⟩ := h
  refine ⟨xs, sq h1, h2.map fun v f hv => ?_⟩
  obtain ⟨c, rfl, hc⟩ := hv
  exact ⟨c, rfl, sq hc⟩
/-- a row as the law draws it -/
structure StW (z : Str) (gs : List (Int × Int)) : Prop where
  v : StV z gs
  fr : ∀ g ∈ gs, Fr0 g
theorem StV.swap {z : Str} {gs hs : List (Int × Int)} (h : StV z gs) (n5 : hs.length = 5) (fr : ∀ g ∈ hs, Fr6 g) (ok : rv (hs.getD 0 (0, 1)) + rv (hs.getD 1 (0, 1)) + rv (hs.getD 2 (0, 1)) ≤ rv (gs.getD 0 (0, 1)) + rv (gs.getD 1 (0, 1)) + rv (gs.getD 2 (0, 1))) : StV z hs := by
  have at_ : ∀ l : List (Int × Int), l.length = 5 → (∀ g ∈ l, Fr6 g) → ∀ i, i < 5 → IsF (l.getD i (0, 1)) := fun l hl hf i hi => by
    rw [List.getD_eq_getElem?_getD, List.getElem?_eq_getElem (by omega)]
    exact (hf _ (List.getElem_mem _)).lo
  refine ⟨h.nm, n5, fr, ?_⟩
  have k := h.ok
  rw [too_iff (at_ _ h.n5 h.fr 0 (by decide)) (at_ _ h.n5 h.fr 1 (by decide)) (at_ _ h.n5 h.fr 2 (by decide))] at k
  rw [too_iff (at_ _ n5 fr 0 (by decide)) (at_ _ n5 fr 1 (by decide)) (at_ _ n5 fr 2 (by decide))]
  exact Rat.le_trans ok k
theorem half_six {f : Int × Int} (h : Fr0 f) : Fr6 (half f) := by
  refine ⟨half_f h.lo, half_nn h.lo h.nn, low_bt (by have := h.lo.ne; omega) ?_ ?_⟩
  · exact Nat.lt_of_lt_of_le h.bt.1 (Nat.pow_le_pow_right (by decide) (by decide))
  · have := h.bt.2
    have e : (2 * f.2).natAbs = 2 * f.2.natAbs := by rw [Int.natAbs_mul]; rfl
    rw [e]
    have : 2 * f.2.natAbs < 2 ^ 42 := by omega
    exact Nat.lt_of_lt_of_le this (Nat.pow_le_pow_right (by decide) (by decide))

/-! ### _law_other -/
abbrev s__law_other : Stmt := topS 38
theorem sc__law_other : FnScope ["_law_pot_here", "_law_row", "_law_at", "_law_pairs", "_law_j", "_law_k"] ["_law_pot_here", "_law_row"] (defScope s__law_other) := ⟨rfl, rfl, rfl, by decide +kernel, rfl, by decide +kernel, by decide +kernel⟩
/-- a pair of places whose fractions differ -/
def GoodP (g0 g1 g2 : Int × Int) (q : Int × Int) : Prop := (q = (1, 2) ∧ g0 ≠ g1) ∨ (q = (1, 3) ∧ g0 ≠ g2) ∨ (q = (2, 3) ∧ g1 ≠ g2)
def sp_other (K : PySem.W.Frag) : Sp := fun vs H Q _ => ∃ (q p : Addr) (z : Str) (gs : List (Int × Int)), vs = [.ref q, .ref p] ∧ Pot H q ∧ RowV K H p z gs ∧ StW z gs ∧ ∀ H' p' z' gs', RowV K H' p' z' gs' → StV z' gs' → ¬ (z' = z ∧ gs' = gs) → Pot H' q → But q H H' → Q (.ref p') H'
theorem ps_ne {K : PySem.W.Frag} (ps : List (Int × Int)) : PyData.eqv (.list (ps.map tD)) (.list []) = decide (ps = []) := by
  cases ps <;> simp [PyData.eqv, PyData.eqvAll]
set_option maxHeartbeats 16000000 in
theorem ok_other {f : Addr} {fd : FuncData} (M : Blt mg) (F : Fun K "_law_other" "_law_other" s__law_other f fd) (C__law_draw : Cal P w K mg base CX0 1 "_law_draw" ["_law_pot_here", "_law_many"] sp_draw) (C__law_low : Cal P w K mg base CX0 1 "_law_low" ["_law_top", "_law_bottom"] sp_low) (C__law_name : Cal P w K mg base CX0 2 "_law_name" ["_law_pot_here", "_law_taken"] (sp_name K)) : FnG P w K mg base CX0 3 f fd ["_law_pot_here", "_law_row"] (sp_other K) := by
  refine Gfun F sc__law_other (fun vs H Q E h => ?_) (fun cdv A outer s H vs Q E hg hr h => ?_)
  · obtain ⟨q, p, z, gs, rfl, _⟩ := h
    rfl
  · obtain ⟨q, p, z, gs, rfl, hP, R0, W, k⟩ := h
    refine ⟨_, (pss_cons (ps_set (i := 2) sc__law_other.nd rfl (.inl rfl) (pe_g C__law_draw (hr.mono (by decide)) hg (pa_cons (pv 0) (pa_cons pe_int pa_nil))))
      (pss_cons (ps_if (pt_cmpR op_eq (pv 2) pe_int (nomark _))
      (pss_one (ps_ret (pe_op op_catT (pe_tup (pa_cons (pe_g C__law_name (hr.mono (by decide)) hg (pa_cons (pv 0) (pa_cons (pe_lst (pa_cons (pe_ix ix_tup (pv 1) pe_int (fun _ _ => rfl)) pa_nil)) pa_nil))) pa_nil)) (pe_slice sl_tup (pv 1) (po_some pe_int) po_none))))
      pss_nil)
      (pss_cons (ps_setLc (i := 3) (own := [("_law_j", 4), ("_law_k", 5)]) (g := gTup K 2 (gCons (gName 4) (gCons (gName 5) (gNil)))) rfl sc__law_other.nd rfl rfl (sw_true rfl rfl rfl (by decide +kernel)) (pi_list (pe_lst (pa_cons (pe_tup (pa_cons pe_int (pa_cons pe_int pa_nil))) (pa_cons (pe_tup (pa_cons pe_int (pa_cons pe_int pa_nil))) (pa_cons (pe_tup (pa_cons pe_int (pa_cons pe_int pa_nil))) pa_nil))))) (blkOk_by (N := ["_law_pot_here", "_law_row", "_law_at", "_law_pairs", "_law_j", "_law_k"]) (sc := defScope s__law_other) (by decide +kernel)) (fun _ _ _ _ _ => pg_tupK (K := K) rfl (pgs_cons (pg_name (i := 4) sc__law_other.nd rfl (Or.inl rfl)) (pgs_cons (pg_name (i := 5) sc__law_other.nd rfl (Or.inl rfl)) pgs_nil))) (fun _ _ _ _ _ => (pts_one (pt_cmpR (op_neK (K := K) (by exact hr.units)) (pe_ix (ix_tupK (K := K)) (pv 1) (pv 4) (fun _ _ => rfl)) (pe_ix (ix_tupK (K := K)) (pv 1) (pv 5) (fun _ _ => rfl)) (nomark _)))) (fun _ _ _ _ _ => (pe_tup (pa_cons (pv 4) (pa_cons (pv 5) pa_nil)))))
      (pss_mid (ps_if (PW.pt (pw_and (pt_cmpR op_gt (pv 2) pe_int (nomark _)) (pw_and1 (pt_cmpR (op_neD hr.units) (pv 3) (pe_lst pa_nil) (nomark _)))))
      (pss_cons (ps_asg (pe_ix ix_list (pv 3) (pe_g C__law_draw (hr.mono (by decide)) hg (pa_cons (pv 0) (pa_cons (pe_callB call_len_seq rfl M.len bt_len (pa_cons (pv 3) pa_nil)) pa_nil))) (fun _ _ => rfl)) (pg_tup rfl (pgs_cons (pg_name (i := 4) sc__law_other.nd rfl (.inl rfl)) (pgs_cons (pg_name (i := 5) sc__law_other.nd rfl (.inl rfl)) pgs_nil))))
      (pss_one (ps_ret (pe_op op_catT (pe_op op_catT (pe_op op_catT (pe_op op_catT (pe_slice sl_tup (pv 1) po_none (po_some (pv 4))) (pe_tup (pa_cons (pe_ix ix_tup (pv 1) (pv 5) (fun _ _ => rfl)) pa_nil))) (pe_slice sl_tup (pv 1) (po_some (pe_op op_add (pv 4) pe_int)) (po_some (pv 5)))) (pe_tup (pa_cons (pe_ix ix_tup (pv 1) (pv 4) (fun _ _ => rfl)) pa_nil))) (pe_slice sl_tup (pv 1) (po_some (pe_op op_add (pv 5) pe_int)) po_none)))))
      pss_nil)
      (pss_mid (ps_if (PW.pt (pw_and (pt_cmpR op_lt (pv 2) pe_int (nomark _)) (pw_and1 (pt_cmpR (op_neD hr.units) (pe_ix ix_tup (pv 1) (pv 2) (fun _ _ => rfl)) (pe_tup (pa_cons pe_int (pa_cons pe_int pa_nil))) (nomark _)))))
      (pss_one (ps_ret (pe_op op_catT (pe_op op_catT (pe_slice sl_tup (pv 1) po_none (po_some (pv 2))) (pe_tup (pa_cons (pe_g C__law_low (hr.mono (by decide)) hg (pa_cons (pe_ix ix_tup (pe_ix ix_tup (pv 1) (pv 2) (fun _ _ => rfl)) pe_int (fun _ _ => rfl)) (pa_cons (pe_op op_mulW pe_int (pe_ix ix_tup (pe_ix ix_tup (pv 1) (pv 2) (fun _ _ => rfl)) pe_int (fun _ _ => rfl))) pa_nil))) pa_nil))) (pe_slice sl_tup (pv 1) (po_some (pe_op op_add (pv 2) pe_int)) po_none))))
      pss_nil)
      (pss_cons (ps_set (i := 2) sc__law_other.nd rfl (.inl rfl) (pe_ix ix_list (pe_lst (pa_cons pe_int (pa_cons pe_int pa_nil))) (pe_op op_mod (pv 2) pe_int) (fun _ _ => rfl)))
      (pss_one (ps_ret (pe_op op_catT (pe_op op_catT (pe_slice sl_tup (pv 1) po_none (po_some (pv 2))) (pe_tup (pa_cons (pe_ix ix_list (pe_lst (pa_cons (pe_tup (pa_cons pe_int (pa_cons pe_int pa_nil))) (pa_cons (pe_tup (pa_cons pe_int (pa_cons pe_int pa_nil))) pa_nil))) (pe_callTy call_int1 rfl M.int bt_int (pa_cons (pe_cmpR (op_eqD hr.units) (pe_ix ix_tup (pv 1) (pv 2) (fun _ _ => rfl)) (pe_tup (pa_cons pe_int (pa_cons pe_int pa_nil))) (nomark _)) pa_nil)) (fun _ _ => rfl)) pa_nil))) (pe_slice sl_tup (pv 1) (po_some (pe_op op_add (pv 2) pe_int)) po_none)))))))))), ?_⟩
    have V_ := W.v
    refine ⟨_, rfl, q, 9, rfl, by decide, by decide, hP, fun at_ H1 w0 w1 P1 b1 => ?_⟩
    obtain ⟨xs, hp, hxs⟩ := R0.but b1 hP
    obtain ⟨v0, v1, v2, v3, v4, g0, g1, g2, g3, g4, rfl, rfl, a0, a1, a2, a3, a4⟩ := atks5 hxs V_.n5
    have fin : ∀ (H' : Hp) (p' : Addr) (z' : Str) (gs' : List (Int × Int)) (ys : List V), SqT K H' p' (.str z' :: ys) → AtKs K H' ys gs' → StV z' gs' → ¬ (z' = z ∧ gs' = [g0, g1, g2, g3, g4]) → Pot H' q → But q H1 H' → Q (.ref p') H' := fun H' p' z' gs' ys h1 h2 h3 h4 h5 h6 => k H' p' z' gs' ⟨ys, h1, h2⟩ h3 h4 h5 (b1.trans h6)
    refine ⟨_, rfl, rfl, _, rfl, ite2 (fun c => ?_) (fun c => ?_)⟩
    · -- another name
      refine ⟨_, rfl, _, rfl, p, _, _, _, rfl, rfl, hp, atI_nat (j := 0) rfl, len_show (Nat.le_of_ble_eq_true rfl), fun l2 n2 => ?_⟩
      have s2 : Same H1 (L2.upd H1 l2 (.lst [.str z])) := same_new n2
      have e2 : L2.upd H1 l2 (.lst [.str z]) l2 = some (.lst [.str z]) := upd_same
      have nl2 := pot_ne P1 n2
      generalize L2.upd H1 l2 (.lst [.str z]) = H2 at s2 e2 ⊢
      have P2 := pot_same P1 s2
      refine ⟨q, l2, [z], rfl, nl2, P2, .inl (.inl e2), Nat.le_of_ble_eq_true rfl, (fun x hx => by rw [List.mem_singleton.mp hx]; exact (nm_al V_.nm).1), fun z' H3 hnm hle hnt P3 b3 => ?_⟩
      have R3 : RowV K H3 p z [g0, g1, g2, g3, g4] := RowV.but b3 P2 ⟨_, sm_t s2 hp, hxs.same s2⟩
      obtain ⟨xs3, hp3', hxs3⟩ := R3
      obtain ⟨v0, v1, v2, v3, v4, _, _, _, _, _, rfl, e5, c0, c1, c2, c3, c4⟩ := atks5 hxs3 V_.n5
      cases e5
      have hp3 := hp3'
      refine ⟨len_show (Nat.le_of_ble_eq_true rfl), fun p101 n101 => ?_⟩
      have s101 : Same H3 (L2.upd H3 p101 (.tup [.str z'])) := same_new n101
      have t101 : SqT K (L2.upd H3 p101 (.tup [.str z'])) p101 [.str z'] := .inl (.inl upd_same)
      generalize L2.upd H3 p101 (.tup [.str z']) = G101 at s101 t101 ⊢
      refine ⟨_, rfl, _, rfl, p, _, rfl, (sm_t s101 hp3), (fun q => absurd q (by show ¬ (HT.sIx 6 0 (some 1) = 0 ∧ HT.sIx 6 6 none = 6); decide)), fun p102 n102 => ?_⟩
      have s102 : Same G101 (L2.upd G101 p102 (.tup (cutV [.str z, v0, v1, v2, v3, v4] (some 1) none))) := same_new n102
      have t102 : SqT K (L2.upd G101 p102 (.tup (cutV [.str z, v0, v1, v2, v3, v4] (some 1) none))) p102 [v0, v1, v2, v3, v4] := .inl (.inl upd_same)
      generalize L2.upd G101 p102 (.tup (cutV [.str z, v0, v1, v2, v3, v4] (some 1) none)) = G102 at s102 t102 ⊢
      refine ⟨p101, p102, _, _, rfl, rfl, (sm_t s102 t101), t102, (fun z => nomatch z), len_show (Nat.le_of_ble_eq_true rfl), (fun z => nomatch z), fun _ => fun p103 n103 => ?_⟩
      have s103 : Same G102 (L2.upd G102 p103 (.tup ([.str z'] ++ [v0, v1, v2, v3, v4]))) := same_new n103
      have t103 : SqT K (L2.upd G102 p103 (.tup ([.str z'] ++ [v0, v1, v2, v3, v4]))) p103 [.str z', v0, v1, v2, v3, v4] := .inl (.inl upd_same)
      generalize L2.upd G102 p103 (.tup ([.str z'] ++ [v0, v1, v2, v3, v4])) = G103 at s103 t103 ⊢
      exact fin G103 p103 z' [g0, g1, g2, g3, g4] [v0, v1, v2, v3, v4] t103 (.cons (c0.same (s101.trans (s102.trans s103))) (.cons (c1.same (s101.trans (s102.trans s103))) (.cons (c2.same (s101.trans (s102.trans s103))) (.cons (c3.same (s101.trans (s102.trans s103))) (.cons (c4.same (s101.trans (s102.trans s103))) .nil))))) ⟨hnm, V_.n5, V_.fr, V_.ok⟩ (fun e => hnt (by rw [e.1]; exact List.mem_singleton.mpr rfl)) (pot_same P3 (s101.trans (s102.trans s103))) (((But.same But.rfl s2).trans b3).same (s101.trans (s102.trans s103)))
    -- the pairs
    have nat0 : at_ ≠ 0 := fun z => c (decide_eq_true (by rw [z]))
    refine ⟨len_show (Nat.le_of_ble_eq_true rfl), fun k1 m1 => ?_⟩
    have sa : Same H1 (L2.upd H1 k1 (.tup [.int 1, .int 2])) := same_new m1
    have ea : L2.upd H1 k1 (.tup [.int 1, .int 2]) k1 = some (.tup [.int 1, .int 2]) := upd_same
    generalize L2.upd H1 k1 (.tup [.int 1, .int 2]) = Ha at sa ea ⊢
    refine ⟨len_show (Nat.le_of_ble_eq_true rfl), fun k2 m2 => ?_⟩
    have sb : Same Ha (L2.upd Ha k2 (.tup [.int 1, .int 3])) := same_new m2
    have eb : L2.upd Ha k2 (.tup [.int 1, .int 3]) k2 = some (.tup [.int 1, .int 3]) := upd_same
    generalize L2.upd Ha k2 (.tup [.int 1, .int 3]) = Hb at sb eb ⊢
    refine ⟨len_show (Nat.le_of_ble_eq_true rfl), fun k3 m3 => ?_⟩
    have sc : Same Hb (L2.upd Hb k3 (.tup [.int 2, .int 3])) := same_new m3
    have ec : L2.upd Hb k3 (.tup [.int 2, .int 3]) k3 = some (.tup [.int 2, .int 3]) := upd_same
    generalize L2.upd Hb k3 (.tup [.int 2, .int 3]) = Hc at sc ec ⊢
    refine ⟨len_show (Nat.le_of_ble_eq_true rfl), fun lp nlp => ?_⟩
    have sd : Same Hc (L2.upd Hc lp (.lst [.ref k1, .ref k2, .ref k3])) := same_new nlp
    have ed : L2.upd Hc lp (.lst [.ref k1, .ref k2, .ref k3]) lp = some (.lst [.ref k1, .ref k2, .ref k3]) := upd_same
    have ek1 := sd _ _ (sc _ _ (sb _ _ ea))
    have ek2 := sd _ _ (sc _ _ eb)
    have ek3 := sd _ _ ec
    generalize L2.upd Hc lp (.lst [.ref k1, .ref k2, .ref k3]) = H4 at sd ed ek1 ek2 ek3 ⊢
    have s14 := ((sa.trans sb).trans sc).trans sd
    have hp4 := sm_t s14 hp
    have A0 : ∀ H', Same H4 H' → AtK K H' v0 g0 := fun H' sm => (a0.same s14).same sm
    have A1 : ∀ H', Same H4 H' → AtK K H' v1 g1 := fun H' sm => (a1.same s14).same sm
    have A2 : ∀ H', Same H4 H' → AtK K H' v2 g2 := fun H' sm => (a2.same s14).same sm
    have P4 := pot_same P1 s14
    refine ⟨lp, rfl, ⟨_, .inl (.inl ed)⟩, fun D hD => lc_list (xs := [.ref k1, .ref k2, .ref k3]) (fun i H' => Same H4 H' ∧ ∃ (acc : List V) (ps : List (Int × Int)), H' D = some (.lst acc) ∧ AtKs K H' acc ps ∧ acc.length ≤ i ∧ ∀ qq ∈ ps, GoodP g0 g1 g2 qq) ⟨same_new hD, [], [], upd_same, .nil, Nat.le_refl _, fun _ h => nomatch h⟩ (fun i H' _ h => .inl (.inl (h.1 _ _ ed))) ?_ ?_⟩
    · rintro i y HL hy ⟨sm, acc, ps, eacc, hacc, hal, hgood⟩
      have hi : i < 3 := (List.getElem?_eq_some_iff.mp hy).1
      obtain rfl | rfl | rfl : i = 0 ∨ i = 1 ∨ i = 2 := by omega
      · have ck : SqT K HL k1 [.int 1, .int 2] := .inl (.inl (sm _ _ ek1))
        have ey : y = .ref k1 := (Option.some.inj hy).symm
        subst ey
        refine ⟨k1, _, rfl, ck, rfl, _, _, rfl, _, _, rfl, rfl, rfl, _, rfl, _, rfl, p, _, _, _, rfl, rfl, sm_t sm hp4, atI_nat (j := 1) rfl, _, rfl, _, rfl, p, _, _, _, rfl, rfl, sm_t sm hp4, atI_nat (j := 2) rfl, _, _, ((A0 HL sm).dp), ((A1 HL sm).dp), by rfl, by rfl, _, rfl, ?_⟩
        rw [eqv_tD]
        refine ite2 (fun c3 => ?_) (fun c3 => ?_)
        · refine ⟨_, rfl, _, rfl, len_show (Nat.le_of_ble_eq_true rfl), fun p9 n9 => ?_⟩
          have s9 : Same HL (L2.upd HL p9 (.tup [.int 1, .int 2])) := same_new n9
          have e9 : L2.upd HL p9 (.tup [.int 1, .int 2]) p9 = some (.tup [.int 1, .int 2]) := upd_same
          generalize L2.upd HL p9 (.tup [.int 1, .int 2]) = HM at s9 e9 ⊢
          refine ⟨acc, s9 _ _ eacc, by rw [sizeLine_eq]; omega, fun b o e => ?_, acc ++ [.ref p9], ps ++ [(1, 2)], upd_same, ?_, ?_, ?_⟩
          · rw [upd_ne (ne_of_none e hD)]
            exact s9 _ _ (sm _ _ e)
          · exact (hacc.map fun v f hv => AtK.lst (s9 _ _ eacc) (hv.same s9)).app (.cons (AtK.lst (s9 _ _ eacc) (AtK.of e9)) .nil)
          · rw [List.length_append]
            show acc.length + 1 ≤ 0 + 1
            omega
          · intro qq hq
            rcases List.mem_append.mp hq with h | h
            · exact hgood qq h
            · rw [List.mem_singleton.mp h]
              exact .inl ⟨rfl, by simpa using c3⟩
        · exact ⟨sm, acc, ps, eacc, hacc, by omega, hgood⟩
      · have ck : SqT K HL k2 [.int 1, .int 3] := .inl (.inl (sm _ _ ek2))
        have ey : y = .ref k2 := (Option.some.inj hy).symm
        subst ey
        refine ⟨k2, _, rfl, ck, rfl, _, _, rfl, _, _, rfl, rfl, rfl, _, rfl, _, rfl, p, _, _, _, rfl, rfl, sm_t sm hp4, atI_nat (j := 1) rfl, _, rfl, _, rfl, p, _, _, _, rfl, rfl, sm_t sm hp4, atI_nat (j := 3) rfl, _, _, ((A0 HL sm).dp), ((A2 HL sm).dp), by rfl, by rfl, _, rfl, ?_⟩
        rw [eqv_tD]
        refine ite2 (fun c3 => ?_) (fun c3 => ?_)
        · refine ⟨_, rfl, _, rfl, len_show (Nat.le_of_ble_eq_true rfl), fun p9 n9 => ?_⟩
          have s9 : Same HL (L2.upd HL p9 (.tup [.int 1, .int 3])) := same_new n9
          have e9 : L2.upd HL p9 (.tup [.int 1, .int 3]) p9 = some (.tup [.int 1, .int 3]) := upd_same
          generalize L2.upd HL p9 (.tup [.int 1, .int 3]) = HM at s9 e9 ⊢
          refine ⟨acc, s9 _ _ eacc, by rw [sizeLine_eq]; omega, fun b o e => ?_, acc ++ [.ref p9], ps ++ [(1, 3)], upd_same, ?_, ?_, ?_⟩
          · rw [upd_ne (ne_of_none e hD)]
            exact s9 _ _ (sm _ _ e)
          · exact (hacc.map fun v f hv => AtK.lst (s9 _ _ eacc) (hv.same s9)).app (.cons (AtK.lst (s9 _ _ eacc) (AtK.of e9)) .nil)
          · rw [List.length_append]
            show acc.length + 1 ≤ 1 + 1
            omega
          · intro qq hq
            rcases List.mem_append.mp hq with h | h
            · exact hgood qq h
            · rw [List.mem_singleton.mp h]
              exact .inr (.inl ⟨rfl, by simpa using c3⟩)
        · exact ⟨sm, acc, ps, eacc, hacc, by omega, hgood⟩
      · have ck : SqT K HL k3 [.int 2, .int 3] := .inl (.inl (sm _ _ ek3))
        have ey : y = .ref k3 := (Option.some.inj hy).symm
        subst ey
        refine ⟨k3, _, rfl, ck, rfl, _, _, rfl, _, _, rfl, rfl, rfl, _, rfl, _, rfl, p, _, _, _, rfl, rfl, sm_t sm hp4, atI_nat (j := 2) rfl, _, rfl, _, rfl, p, _, _, _, rfl, rfl, sm_t sm hp4, atI_nat (j := 3) rfl, _, _, ((A1 HL sm).dp), ((A2 HL sm).dp), by rfl, by rfl, _, rfl, ?_⟩
        rw [eqv_tD]
        refine ite2 (fun c3 => ?_) (fun c3 => ?_)
        · refine ⟨_, rfl, _, rfl, len_show (Nat.le_of_ble_eq_true rfl), fun p9 n9 => ?_⟩
          have s9 : Same HL (L2.upd HL p9 (.tup [.int 2, .int 3])) := same_new n9
          have e9 : L2.upd HL p9 (.tup [.int 2, .int 3]) p9 = some (.tup [.int 2, .int 3]) := upd_same
          generalize L2.upd HL p9 (.tup [.int 2, .int 3]) = HM at s9 e9 ⊢
          refine ⟨acc, s9 _ _ eacc, by rw [sizeLine_eq]; omega, fun b o e => ?_, acc ++ [.ref p9], ps ++ [(2, 3)], upd_same, ?_, ?_, ?_⟩
          · rw [upd_ne (ne_of_none e hD)]
            exact s9 _ _ (sm _ _ e)
          · exact (hacc.map fun v f hv => AtK.lst (s9 _ _ eacc) (hv.same s9)).app (.cons (AtK.lst (s9 _ _ eacc) (AtK.of e9)) .nil)
          · rw [List.length_append]
            show acc.length + 1 ≤ 2 + 1
            omega
          · intro qq hq
            rcases List.mem_append.mp hq with h | h
            · exact hgood qq h
            · rw [List.mem_singleton.mp h]
              exact .inr (.inr ⟨rfl, by simpa using c3⟩)
        · exact ⟨sm, acc, ps, eacc, hacc, by omega, hgood⟩
    rintro H5 ⟨s45, acc, ps, eacc, hacc, hal, hgood⟩
    have nDq := pot_ne P4 hD
    have P5 := pot_same P4 s45
    have s15 := s14.trans s45
    have hal3 : acc.length ≤ 3 := hal
    have psl := hacc.length
    -- two of them exchanged
    refine ⟨fun σ H' => σ = [some (.ref q), some (.ref p), some (.int at_), some (.ref D), none, none] ∧ Same H5 H', ?_, ?_⟩
    · refine ⟨_, rfl, _, _, rfl, rfl, _, rfl, ite2 (fun c4 => ?_) (fun c4 => ⟨rfl, same_rfl⟩)⟩
      refine ⟨_, rfl, len_show (Nat.le_of_ble_eq_true rfl), fun l6 n6 => ?_⟩
      have s6 : Same H5 (L2.upd H5 l6 (.lst [])) := same_new n6
      have e6 : L2.upd H5 l6 (.lst []) l6 = some (.lst []) := upd_same
      generalize L2.upd H5 l6 (.lst []) = H6 at s6 e6 ⊢
      refine ⟨_, _, .lst (.inl (.inl (s6 _ _ eacc))) (AtKs.dpAll (hacc.same s6)), .lst (.inl (.inl e6)) .nil, row_shaped ps, by rfl, _, rfl, ?_⟩
      rw [ps_ne (K := K)]
      refine ite2 (fun c5 => ?_) (fun c5 => ⟨rfl, s6⟩)
      have hps : ps ≠ [] := by simpa using c5
      have hpl : 0 < ps.length := List.length_pos_iff.mpr hps
      refine ⟨_, rfl, _, rfl, _, rfl, D, _, rfl, .inl (.inl (.inl (s6 _ _ eacc))), q, _, rfl, by omega, ?_, pot_same P5 s6, fun r H7 r0 r1 P7 b7 => ?_⟩
      · exact Nat.lt_of_lt_of_le (show (acc.length : Int).natAbs < 2 ^ 5 by show (acc.length : Int).natAbs < 32; omega) (Nat.pow_le_pow_right (by decide) (by decide))
      obtain ⟨ri, rfl⟩ : ∃ ri : Nat, r = (ri : Int) := ⟨r.toNat, by omega⟩
      obtain ⟨yv, hyv⟩ : ∃ yv, acc[ri]? = some yv := ⟨_, List.getElem?_eq_getElem (by omega)⟩
      obtain ⟨jk, hjk, hat⟩ := hacc.get hyv
      have good := hgood jk (List.mem_of_getElem? hjk)
      have b57 : But q H5 H7 := (But.same But.rfl s6).trans b7
      have b17 : But q H1 H7 := (But.same But.rfl s15).trans b57
      have R7 : RowV K H7 p z [g0, g1, g2, g3, g4] := RowV.but b17 P1 ⟨_, hp, hxs⟩
      obtain ⟨xs7, hp7, hxs7⟩ := R7
      obtain ⟨v0, v1, v2, v3, v4, _, _, _, _, _, rfl, e5, a0, a1, a2, a3, a4⟩ := atks5 hxs7 V_.n5
      cases e5
      have s17 : Same H7 H7 := same_rfl
      have hat7 : AtK K H7 yv jk := by
        obtain ⟨pp, rfl, hpp⟩ := hat
        obtain ⟨x, y, _, _, eq⟩ := P5
        refine ⟨pp, rfl, ?_⟩
        rcases hpp with (r | ⟨ob, r⟩) | r
        · exact .inl (.inl (b57 _ _ (fun z => by rw [z, eq] at r; cases r) r))
        · exact .inl (.inr ⟨ob, b57 _ _ (fun z => by rw [z, eq] at r; cases r) r⟩)
        · exact .inr r
      obtain ⟨py, rfl, hpy'⟩ := hat7
      obtain ⟨jj, kk⟩ := jk
      have hpy : SqT K H7 py [.int jj, .int kk] := hpy'
      unfold GoodP at good
      simp only [Prod.mk.injEq] at good
      refine ⟨D, _, _, _, rfl, rfl, .inl (.inl (b57 _ _ nDq eacc)), atI_nat hyv, py, _, rfl, hpy, rfl, _, _, rfl, _, _, rfl, rfl, ?_⟩
      rcases good with ⟨⟨rfl, rfl⟩, hne⟩ | ⟨⟨rfl, rfl⟩, hne⟩ | ⟨⟨rfl, rfl⟩, hne⟩
      · skip
        have V12 : StV z [g1, g0, g2, g3, g4] := V_.swap rfl (fun g hg => V_.fr g (by simp only [List.mem_cons, List.not_mem_nil, or_false] at hg ⊢; rcases hg with h | h | h | h | h <;> simp [h])) (by
          show rv g1 + rv g0 + rv g2 ≤ rv g0 + rv g1 + rv g2
          have : rv g1 + rv g0 + rv g2 = rv g0 + rv g1 + rv g2 := by grind
          rw [this]
          exact Rat.le_refl)
        have D12 : ¬ (z = z ∧ [g1, g0, g2, g3, g4] = [g0, g1, g2, g3, g4]) := fun e => hne (by
          have := e.2
          simp only [List.cons.injEq] at this
          grind)
        refine ⟨_, rfl, _, rfl, _, rfl, p, _, rfl, hp7, (fun q => absurd q (by show ¬ (HT.sIx 6 0 none = 0 ∧ HT.sIx 6 6 (some 1) = 6); decide)), fun p101 n101 => ?_⟩
        have s101 : Same H7 (L2.upd H7 p101 (.tup (cutV [.str z, v0, v1, v2, v3, v4] none (some 1)))) := same_new n101
        have t101 : SqT K (L2.upd H7 p101 (.tup (cutV [.str z, v0, v1, v2, v3, v4] none (some 1)))) p101 [.str z] := .inl (.inl upd_same)
        generalize L2.upd H7 p101 (.tup (cutV [.str z, v0, v1, v2, v3, v4] none (some 1))) = G101 at s101 t101 ⊢
        refine ⟨_, rfl, _, rfl, p, _, _, _, rfl, rfl, (sm_t s101 hp7), atI_nat (j := 2) rfl, len_show (Nat.le_of_ble_eq_true rfl), fun p102 n102 => ?_⟩
        have s102 : Same G101 (L2.upd G101 p102 (.tup [v1])) := same_new n102
        have t102 : SqT K (L2.upd G101 p102 (.tup [v1])) p102 [v1] := .inl (.inl upd_same)
        generalize L2.upd G101 p102 (.tup [v1]) = G102 at s102 t102 ⊢
        refine ⟨p101, p102, _, _, rfl, rfl, (sm_t s102 t101), t102, (fun z => nomatch z), len_show (Nat.le_of_ble_eq_true rfl), (fun z => nomatch z), fun _ => fun p103 n103 => ?_⟩
        have s103 : Same G102 (L2.upd G102 p103 (.tup ([.str z] ++ [v1]))) := same_new n103
        have t103 : SqT K (L2.upd G102 p103 (.tup ([.str z] ++ [v1]))) p103 [.str z, v1] := .inl (.inl upd_same)
        generalize L2.upd G102 p103 (.tup ([.str z] ++ [v1])) = G103 at s103 t103 ⊢
        refine ⟨_, rfl, _, rfl, _, _, rfl, rfl, _, rfl, _, rfl, _, rfl, p, _, rfl, (sm_t s103 (sm_t s102 (sm_t s101 hp7))), (fun q => absurd q (by show ¬ (HT.sIx 6 0 (some 2) = 0 ∧ HT.sIx 6 6 (some 2) = 6); decide)), fun p104 n104 => ?_⟩
        have s104 : Same G103 (L2.upd G103 p104 (.tup (cutV [.str z, v0, v1, v2, v3, v4] (some (1 + 1)) (some 2)))) := same_new n104
        have t104 : SqT K (L2.upd G103 p104 (.tup (cutV [.str z, v0, v1, v2, v3, v4] (some (1 + 1)) (some 2)))) p104 [] := .inl (.inl upd_same)
        generalize L2.upd G103 p104 (.tup (cutV [.str z, v0, v1, v2, v3, v4] (some (1 + 1)) (some 2))) = G104 at s104 t104 ⊢
        refine ⟨p103, p104, _, _, rfl, rfl, (sm_t s104 t103), t104, (fun z => nomatch z), len_show (Nat.le_of_ble_eq_true rfl), fun _ => ?_, fun z => absurd rfl z⟩
        refine ⟨_, rfl, _, rfl, p, _, _, _, rfl, rfl, (sm_t s104 (sm_t s103 (sm_t s102 (sm_t s101 hp7)))), atI_nat (j := 1) rfl, len_show (Nat.le_of_ble_eq_true rfl), fun p105 n105 => ?_⟩
        have s105 : Same G104 (L2.upd G104 p105 (.tup [v0])) := same_new n105
        have t105 : SqT K (L2.upd G104 p105 (.tup [v0])) p105 [v0] := .inl (.inl upd_same)
        generalize L2.upd G104 p105 (.tup [v0]) = G105 at s105 t105 ⊢
        refine ⟨p103, p105, _, _, rfl, rfl, (sm_t s105 (sm_t s104 t103)), t105, (fun z => nomatch z), len_show (Nat.le_of_ble_eq_true rfl), (fun z => nomatch z), fun _ => fun p106 n106 => ?_⟩
        have s106 : Same G105 (L2.upd G105 p106 (.tup ([.str z, v1] ++ [v0]))) := same_new n106
        have t106 : SqT K (L2.upd G105 p106 (.tup ([.str z, v1] ++ [v0]))) p106 [.str z, v1, v0] := .inl (.inl upd_same)
        generalize L2.upd G105 p106 (.tup ([.str z, v1] ++ [v0])) = G106 at s106 t106 ⊢
        refine ⟨_, rfl, _, rfl, _, _, rfl, rfl, _, rfl, p, _, rfl, (sm_t s106 (sm_t s105 (sm_t s104 (sm_t s103 (sm_t s102 (sm_t s101 hp7)))))), (fun q => absurd q (by show ¬ (HT.sIx 6 0 (some 3) = 0 ∧ HT.sIx 6 6 none = 6); decide)), fun p107 n107 => ?_⟩
        have s107 : Same G106 (L2.upd G106 p107 (.tup (cutV [.str z, v0, v1, v2, v3, v4] (some (2 + 1)) none))) := same_new n107
        have t107 : SqT K (L2.upd G106 p107 (.tup (cutV [.str z, v0, v1, v2, v3, v4] (some (2 + 1)) none))) p107 [v2, v3, v4] := .inl (.inl upd_same)
        generalize L2.upd G106 p107 (.tup (cutV [.str z, v0, v1, v2, v3, v4] (some (2 + 1)) none)) = G107 at s107 t107 ⊢
        refine ⟨p106, p107, _, _, rfl, rfl, (sm_t s107 t106), t107, (fun z => nomatch z), len_show (Nat.le_of_ble_eq_true rfl), (fun z => nomatch z), fun _ => fun p108 n108 => ?_⟩
        have s108 : Same G107 (L2.upd G107 p108 (.tup ([.str z, v1, v0] ++ [v2, v3, v4]))) := same_new n108
        have t108 : SqT K (L2.upd G107 p108 (.tup ([.str z, v1, v0] ++ [v2, v3, v4]))) p108 [.str z, v1, v0, v2, v3, v4] := .inl (.inl upd_same)
        generalize L2.upd G107 p108 (.tup ([.str z, v1, v0] ++ [v2, v3, v4])) = G108 at s108 t108 ⊢
        exact fin G108 p108 z [g1, g0, g2, g3, g4] [v1, v0, v2, v3, v4] t108 (.cons (a1.same (s17.trans (s101.trans (s102.trans (s103.trans (s104.trans (s105.trans (s106.trans (s107.trans s108))))))))) (.cons (a0.same (s17.trans (s101.trans (s102.trans (s103.trans (s104.trans (s105.trans (s106.trans (s107.trans s108))))))))) (.cons (a2.same (s17.trans (s101.trans (s102.trans (s103.trans (s104.trans (s105.trans (s106.trans (s107.trans s108))))))))) (.cons (a3.same (s17.trans (s101.trans (s102.trans (s103.trans (s104.trans (s105.trans (s106.trans (s107.trans s108))))))))) (.cons (a4.same (s17.trans (s101.trans (s102.trans (s103.trans (s104.trans (s105.trans (s106.trans (s107.trans s108))))))))) (.nil)))))) V12 D12 (pot_same P7 (s101.trans (s102.trans (s103.trans (s104.trans (s105.trans (s106.trans (s107.trans s108)))))))) (b17.same (s101.trans (s102.trans (s103.trans (s104.trans (s105.trans (s106.trans (s107.trans s108))))))))
      · skip
        have V13 : StV z [g2, g1, g0, g3, g4] := V_.swap rfl (fun g hg => V_.fr g (by simp only [List.mem_cons, List.not_mem_nil, or_false] at hg ⊢; rcases hg with h | h | h | h | h <;> simp [h])) (by
          show rv g2 + rv g1 + rv g0 ≤ rv g0 + rv g1 + rv g2
          have : rv g2 + rv g1 + rv g0 = rv g0 + rv g1 + rv g2 := by grind
          rw [this]
          exact Rat.le_refl)
        have D13 : ¬ (z = z ∧ [g2, g1, g0, g3, g4] = [g0, g1, g2, g3, g4]) := fun e => hne (by
          have := e.2
          simp only [List.cons.injEq] at this
          grind)
        refine ⟨_, rfl, _, rfl, _, rfl, p, _, rfl, hp7, (fun q => absurd q (by show ¬ (HT.sIx 6 0 none = 0 ∧ HT.sIx 6 6 (some 1) = 6); decide)), fun p101 n101 => ?_⟩
        have s101 : Same H7 (L2.upd H7 p101 (.tup (cutV [.str z, v0, v1, v2, v3, v4] none (some 1)))) := same_new n101
        have t101 : SqT K (L2.upd H7 p101 (.tup (cutV [.str z, v0, v1, v2, v3, v4] none (some 1)))) p101 [.str z] := .inl (.inl upd_same)
        generalize L2.upd H7 p101 (.tup (cutV [.str z, v0, v1, v2, v3, v4] none (some 1))) = G101 at s101 t101 ⊢
        refine ⟨_, rfl, _, rfl, p, _, _, _, rfl, rfl, (sm_t s101 hp7), atI_nat (j := 3) rfl, len_show (Nat.le_of_ble_eq_true rfl), fun p102 n102 => ?_⟩
        have s102 : Same G101 (L2.upd G101 p102 (.tup [v2])) := same_new n102
        have t102 : SqT K (L2.upd G101 p102 (.tup [v2])) p102 [v2] := .inl (.inl upd_same)
        generalize L2.upd G101 p102 (.tup [v2]) = G102 at s102 t102 ⊢
        refine ⟨p101, p102, _, _, rfl, rfl, (sm_t s102 t101), t102, (fun z => nomatch z), len_show (Nat.le_of_ble_eq_true rfl), (fun z => nomatch z), fun _ => fun p103 n103 => ?_⟩
        have s103 : Same G102 (L2.upd G102 p103 (.tup ([.str z] ++ [v2]))) := same_new n103
        have t103 : SqT K (L2.upd G102 p103 (.tup ([.str z] ++ [v2]))) p103 [.str z, v2] := .inl (.inl upd_same)
        generalize L2.upd G102 p103 (.tup ([.str z] ++ [v2])) = G103 at s103 t103 ⊢
        refine ⟨_, rfl, _, rfl, _, _, rfl, rfl, _, rfl, _, rfl, _, rfl, p, _, rfl, (sm_t s103 (sm_t s102 (sm_t s101 hp7))), (fun q => absurd q (by show ¬ (HT.sIx 6 0 (some 2) = 0 ∧ HT.sIx 6 6 (some 3) = 6); decide)), fun p104 n104 => ?_⟩
        have s104 : Same G103 (L2.upd G103 p104 (.tup (cutV [.str z, v0, v1, v2, v3, v4] (some (1 + 1)) (some 3)))) := same_new n104
        have t104 : SqT K (L2.upd G103 p104 (.tup (cutV [.str z, v0, v1, v2, v3, v4] (some (1 + 1)) (some 3)))) p104 [v1] := .inl (.inl upd_same)
        generalize L2.upd G103 p104 (.tup (cutV [.str z, v0, v1, v2, v3, v4] (some (1 + 1)) (some 3))) = G104 at s104 t104 ⊢
        refine ⟨p103, p104, _, _, rfl, rfl, (sm_t s104 t103), t104, (fun z => nomatch z), len_show (Nat.le_of_ble_eq_true rfl), (fun z => nomatch z), fun _ => fun p105 n105 => ?_⟩
        have s105 : Same G104 (L2.upd G104 p105 (.tup ([.str z, v2] ++ [v1]))) := same_new n105
        have t105 : SqT K (L2.upd G104 p105 (.tup ([.str z, v2] ++ [v1]))) p105 [.str z, v2, v1] := .inl (.inl upd_same)
        generalize L2.upd G104 p105 (.tup ([.str z, v2] ++ [v1])) = G105 at s105 t105 ⊢
        refine ⟨_, rfl, _, rfl, p, _, _, _, rfl, rfl, (sm_t s105 (sm_t s104 (sm_t s103 (sm_t s102 (sm_t s101 hp7))))), atI_nat (j := 1) rfl, len_show (Nat.le_of_ble_eq_true rfl), fun p106 n106 => ?_⟩
        have s106 : Same G105 (L2.upd G105 p106 (.tup [v0])) := same_new n106
        have t106 : SqT K (L2.upd G105 p106 (.tup [v0])) p106 [v0] := .inl (.inl upd_same)
        generalize L2.upd G105 p106 (.tup [v0]) = G106 at s106 t106 ⊢
        refine ⟨p105, p106, _, _, rfl, rfl, (sm_t s106 t105), t106, (fun z => nomatch z), len_show (Nat.le_of_ble_eq_true rfl), (fun z => nomatch z), fun _ => fun p107 n107 => ?_⟩
        have s107 : Same G106 (L2.upd G106 p107 (.tup ([.str z, v2, v1] ++ [v0]))) := same_new n107
        have t107 : SqT K (L2.upd G106 p107 (.tup ([.str z, v2, v1] ++ [v0]))) p107 [.str z, v2, v1, v0] := .inl (.inl upd_same)
        generalize L2.upd G106 p107 (.tup ([.str z, v2, v1] ++ [v0])) = G107 at s107 t107 ⊢
        refine ⟨_, rfl, _, rfl, _, _, rfl, rfl, _, rfl, p, _, rfl, (sm_t s107 (sm_t s106 (sm_t s105 (sm_t s104 (sm_t s103 (sm_t s102 (sm_t s101 hp7))))))), (fun q => absurd q (by show ¬ (HT.sIx 6 0 (some 4) = 0 ∧ HT.sIx 6 6 none = 6); decide)), fun p108 n108 => ?_⟩
        have s108 : Same G107 (L2.upd G107 p108 (.tup (cutV [.str z, v0, v1, v2, v3, v4] (some (3 + 1)) none))) := same_new n108
        have t108 : SqT K (L2.upd G107 p108 (.tup (cutV [.str z, v0, v1, v2, v3, v4] (some (3 + 1)) none))) p108 [v3, v4] := .inl (.inl upd_same)
        generalize L2.upd G107 p108 (.tup (cutV [.str z, v0, v1, v2, v3, v4] (some (3 + 1)) none)) = G108 at s108 t108 ⊢
        refine ⟨p107, p108, _, _, rfl, rfl, (sm_t s108 t107), t108, (fun z => nomatch z), len_show (Nat.le_of_ble_eq_true rfl), (fun z => nomatch z), fun _ => fun p109 n109 => ?_⟩
        have s109 : Same G108 (L2.upd G108 p109 (.tup ([.str z, v2, v1, v0] ++ [v3, v4]))) := same_new n109
        have t109 : SqT K (L2.upd G108 p109 (.tup ([.str z, v2, v1, v0] ++ [v3, v4]))) p109 [.str z, v2, v1, v0, v3, v4] := .inl (.inl upd_same)
        generalize L2.upd G108 p109 (.tup ([.str z, v2, v1, v0] ++ [v3, v4])) = G109 at s109 t109 ⊢
        exact fin G109 p109 z [g2, g1, g0, g3, g4] [v2, v1, v0, v3, v4] t109 (.cons (a2.same (s17.trans (s101.trans (s102.trans (s103.trans (s104.trans (s105.trans (s106.trans (s107.trans (s108.trans s109)))))))))) (.cons (a1.same (s17.trans (s101.trans (s102.trans (s103.trans (s104.trans (s105.trans (s106.trans (s107.trans (s108.trans s109)))))))))) (.cons (a0.same (s17.trans (s101.trans (s102.trans (s103.trans (s104.trans (s105.trans (s106.trans (s107.trans (s108.trans s109)))))))))) (.cons (a3.same (s17.trans (s101.trans (s102.trans (s103.trans (s104.trans (s105.trans (s106.trans (s107.trans (s108.trans s109)))))))))) (.cons (a4.same (s17.trans (s101.trans (s102.trans (s103.trans (s104.trans (s105.trans (s106.trans (s107.trans (s108.trans s109)))))))))) (.nil)))))) V13 D13 (pot_same P7 (s101.trans (s102.trans (s103.trans (s104.trans (s105.trans (s106.trans (s107.trans (s108.trans s109))))))))) (b17.same (s101.trans (s102.trans (s103.trans (s104.trans (s105.trans (s106.trans (s107.trans (s108.trans s109)))))))))
      · skip
        have V23 : StV z [g0, g2, g1, g3, g4] := V_.swap rfl (fun g hg => V_.fr g (by simp only [List.mem_cons, List.not_mem_nil, or_false] at hg ⊢; rcases hg with h | h | h | h | h <;> simp [h])) (by
          show rv g0 + rv g2 + rv g1 ≤ rv g0 + rv g1 + rv g2
          have : rv g0 + rv g2 + rv g1 = rv g0 + rv g1 + rv g2 := by grind
          rw [this]
          exact Rat.le_refl)
        have D23 : ¬ (z = z ∧ [g0, g2, g1, g3, g4] = [g0, g1, g2, g3, g4]) := fun e => hne (by
          have := e.2
          simp only [List.cons.injEq] at this
          grind)
        refine ⟨_, rfl, _, rfl, _, rfl, p, _, rfl, hp7, (fun q => absurd q (by show ¬ (HT.sIx 6 0 none = 0 ∧ HT.sIx 6 6 (some 2) = 6); decide)), fun p101 n101 => ?_⟩
        have s101 : Same H7 (L2.upd H7 p101 (.tup (cutV [.str z, v0, v1, v2, v3, v4] none (some 2)))) := same_new n101
        have t101 : SqT K (L2.upd H7 p101 (.tup (cutV [.str z, v0, v1, v2, v3, v4] none (some 2)))) p101 [.str z, v0] := .inl (.inl upd_same)
        generalize L2.upd H7 p101 (.tup (cutV [.str z, v0, v1, v2, v3, v4] none (some 2))) = G101 at s101 t101 ⊢
        refine ⟨_, rfl, _, rfl, p, _, _, _, rfl, rfl, (sm_t s101 hp7), atI_nat (j := 3) rfl, len_show (Nat.le_of_ble_eq_true rfl), fun p102 n102 => ?_⟩
        have s102 : Same G101 (L2.upd G101 p102 (.tup [v2])) := same_new n102
        have t102 : SqT K (L2.upd G101 p102 (.tup [v2])) p102 [v2] := .inl (.inl upd_same)
        generalize L2.upd G101 p102 (.tup [v2]) = G102 at s102 t102 ⊢
        refine ⟨p101, p102, _, _, rfl, rfl, (sm_t s102 t101), t102, (fun z => nomatch z), len_show (Nat.le_of_ble_eq_true rfl), (fun z => nomatch z), fun _ => fun p103 n103 => ?_⟩
        have s103 : Same G102 (L2.upd G102 p103 (.tup ([.str z, v0] ++ [v2]))) := same_new n103
        have t103 : SqT K (L2.upd G102 p103 (.tup ([.str z, v0] ++ [v2]))) p103 [.str z, v0, v2] := .inl (.inl upd_same)
        generalize L2.upd G102 p103 (.tup ([.str z, v0] ++ [v2])) = G103 at s103 t103 ⊢
        refine ⟨_, rfl, _, rfl, _, _, rfl, rfl, _, rfl, _, rfl, _, rfl, p, _, rfl, (sm_t s103 (sm_t s102 (sm_t s101 hp7))), (fun q => absurd q (by show ¬ (HT.sIx 6 0 (some 3) = 0 ∧ HT.sIx 6 6 (some 3) = 6); decide)), fun p104 n104 => ?_⟩
        have s104 : Same G103 (L2.upd G103 p104 (.tup (cutV [.str z, v0, v1, v2, v3, v4] (some (2 + 1)) (some 3)))) := same_new n104
        have t104 : SqT K (L2.upd G103 p104 (.tup (cutV [.str z, v0, v1, v2, v3, v4] (some (2 + 1)) (some 3)))) p104 [] := .inl (.inl upd_same)
        generalize L2.upd G103 p104 (.tup (cutV [.str z, v0, v1, v2, v3, v4] (some (2 + 1)) (some 3))) = G104 at s104 t104 ⊢
        refine ⟨p103, p104, _, _, rfl, rfl, (sm_t s104 t103), t104, (fun z => nomatch z), len_show (Nat.le_of_ble_eq_true rfl), fun _ => ?_, fun z => absurd rfl z⟩
        refine ⟨_, rfl, _, rfl, p, _, _, _, rfl, rfl, (sm_t s104 (sm_t s103 (sm_t s102 (sm_t s101 hp7)))), atI_nat (j := 2) rfl, len_show (Nat.le_of_ble_eq_true rfl), fun p105 n105 => ?_⟩
        have s105 : Same G104 (L2.upd G104 p105 (.tup [v1])) := same_new n105
        have t105 : SqT K (L2.upd G104 p105 (.tup [v1])) p105 [v1] := .inl (.inl upd_same)
        generalize L2.upd G104 p105 (.tup [v1]) = G105 at s105 t105 ⊢
        refine ⟨p103, p105, _, _, rfl, rfl, (sm_t s105 (sm_t s104 t103)), t105, (fun z => nomatch z), len_show (Nat.le_of_ble_eq_true rfl), (fun z => nomatch z), fun _ => fun p106 n106 => ?_⟩
        have s106 : Same G105 (L2.upd G105 p106 (.tup ([.str z, v0, v2] ++ [v1]))) := same_new n106
        have t106 : SqT K (L2.upd G105 p106 (.tup ([.str z, v0, v2] ++ [v1]))) p106 [.str z, v0, v2, v1] := .inl (.inl upd_same)
        generalize L2.upd G105 p106 (.tup ([.str z, v0, v2] ++ [v1])) = G106 at s106 t106 ⊢
        refine ⟨_, rfl, _, rfl, _, _, rfl, rfl, _, rfl, p, _, rfl, (sm_t s106 (sm_t s105 (sm_t s104 (sm_t s103 (sm_t s102 (sm_t s101 hp7)))))), (fun q => absurd q (by show ¬ (HT.sIx 6 0 (some 4) = 0 ∧ HT.sIx 6 6 none = 6); decide)), fun p107 n107 => ?_⟩
        have s107 : Same G106 (L2.upd G106 p107 (.tup (cutV [.str z, v0, v1, v2, v3, v4] (some (3 + 1)) none))) := same_new n107
        have t107 : SqT K (L2.upd G106 p107 (.tup (cutV [.str z, v0, v1, v2, v3, v4] (some (3 + 1)) none))) p107 [v3, v4] := .inl (.inl upd_same)
        generalize L2.upd G106 p107 (.tup (cutV [.str z, v0, v1, v2, v3, v4] (some (3 + 1)) none)) = G107 at s107 t107 ⊢
        refine ⟨p106, p107, _, _, rfl, rfl, (sm_t s107 t106), t107, (fun z => nomatch z), len_show (Nat.le_of_ble_eq_true rfl), (fun z => nomatch z), fun _ => fun p108 n108 => ?_⟩
        have s108 : Same G107 (L2.upd G107 p108 (.tup ([.str z, v0, v2, v1] ++ [v3, v4]))) := same_new n108
        have t108 : SqT K (L2.upd G107 p108 (.tup ([.str z, v0, v2, v1] ++ [v3, v4]))) p108 [.str z, v0, v2, v1, v3, v4] := .inl (.inl upd_same)
        generalize L2.upd G107 p108 (.tup ([.str z, v0, v2, v1] ++ [v3, v4])) = G108 at s108 t108 ⊢
        exact fin G108 p108 z [g0, g2, g1, g3, g4] [v0, v2, v1, v3, v4] t108 (.cons (a0.same (s17.trans (s101.trans (s102.trans (s103.trans (s104.trans (s105.trans (s106.trans (s107.trans s108))))))))) (.cons (a2.same (s17.trans (s101.trans (s102.trans (s103.trans (s104.trans (s105.trans (s106.trans (s107.trans s108))))))))) (.cons (a1.same (s17.trans (s101.trans (s102.trans (s103.trans (s104.trans (s105.trans (s106.trans (s107.trans s108))))))))) (.cons (a3.same (s17.trans (s101.trans (s102.trans (s103.trans (s104.trans (s105.trans (s106.trans (s107.trans s108))))))))) (.cons (a4.same (s17.trans (s101.trans (s102.trans (s103.trans (s104.trans (s105.trans (s106.trans (s107.trans s108))))))))) (.nil)))))) V23 D23 (pot_same P7 (s101.trans (s102.trans (s103.trans (s104.trans (s105.trans (s106.trans (s107.trans s108)))))))) (b17.same (s101.trans (s102.trans (s103.trans (s104.trans (s105.trans (s106.trans (s107.trans s108))))))))
    rintro σ H6 ⟨rfl, s56⟩
    have s16 := s15.trans s56
    have hp6 := sm_t s16 hp
    have W0 := W.fr g0 (by simp)
    have W1 := W.fr g1 (by simp)
    have W2 := W.fr g2 (by simp)
    have P6 := pot_same P5 s56
    -- a half of one
    refine ⟨fun σ H' => σ = [some (.ref q), some (.ref p), some (.int at_), some (.ref D), none, none] ∧ Same H6 H', ?_, ?_⟩
    · refine ⟨_, rfl, _, _, rfl, rfl, _, rfl, ite2 (fun c6 => ?_) (fun c6 => ⟨rfl, same_rfl⟩)⟩
      have lt4 : at_ < 4 := of_decide_eq_true c6
      obtain rfl | rfl | rfl : at_ = 1 ∨ at_ = 2 ∨ at_ = 3 := by omega
      · refine ⟨_, rfl, _, rfl, p, _, _, _, rfl, rfl, hp6, atI_nat (j := 1) rfl, len_show (Nat.le_of_ble_eq_true rfl), fun p8 n8 => ?_⟩
        have s8 : Same H6 (L2.upd H6 p8 (.tup [.int 0, .int 1])) := same_new n8
        have e8 : L2.upd H6 p8 (.tup [.int 0, .int 1]) p8 = some (.tup [.int 0, .int 1]) := upd_same
        generalize L2.upd H6 p8 (.tup [.int 0, .int 1]) = H8 at s8 e8 ⊢
        have s18 := s16.trans s8
        have hp8 := sm_t s18 hp
        have P8 := pot_same P6 s8
        have b18 : But q H1 H8 := But.same But.rfl s18
        have B0 := a0
        have B1 := a1
        have B2 := a2
        have B3 := a3
        have B4 := a4
        refine ⟨_, _, (a0.same s18).dp, dp2' (t := (0, 1)) e8, by rfl, by rfl, _, rfl, ?_⟩
        rw [eqv_tD]
        refine ite2 (fun c7 => ?_) (fun c7 => ⟨rfl, s8⟩)
        · skip
          have hg0 : g0 ≠ (0, 1) := by simpa using c7
          have n0 : g0.1 ≠ 0 := fun e => hg0 ((is0 W0.lo).mp e)
          have hl := half_le W0.lo W0.nn
          have VH : StV z [half g0, g1, g2, g3, g4] := V_.swap rfl (fun g hg => by
            simp only [List.mem_cons, List.not_mem_nil, or_false] at hg
            rcases hg with h | h | h | h | h
            all_goals first
              | (rw [h]; exact half_six W0)
              | (rw [h]; exact V_.fr _ (by simp))) (by
            show rv (half g0) + rv g1 + rv g2 ≤ rv g0 + rv g1 + rv g2
            rw [Rat.le_iff_sub_nonneg] at hl ⊢
            have e : rv g0 + rv g1 + rv g2 - (rv (half g0) + rv g1 + rv g2) = rv g0 - rv (half g0) := by grind
            rw [e]
            exact hl)
          have DH : ¬ (z = z ∧ [half g0, g1, g2, g3, g4] = [g0, g1, g2, g3, g4]) := fun e => half_ne W0.lo n0 (by
            have := e.2
            simp only [List.cons.injEq] at this
            grind)
          refine ⟨_, rfl, _, rfl, _, rfl, p, _, rfl, hp8, (fun q => absurd q (by show ¬ (HT.sIx 6 0 none = 0 ∧ HT.sIx 6 6 (some 1) = 6); decide)), fun p101 n101 => ?_⟩
          have s101 : Same H8 (L2.upd H8 p101 (.tup (cutV [.str z, v0, v1, v2, v3, v4] none (some 1)))) := same_new n101
          have t101 : SqT K (L2.upd H8 p101 (.tup (cutV [.str z, v0, v1, v2, v3, v4] none (some 1)))) p101 [.str z] := .inl (.inl upd_same)
          generalize L2.upd H8 p101 (.tup (cutV [.str z, v0, v1, v2, v3, v4] none (some 1))) = G101 at s101 t101 ⊢
          obtain ⟨pe, epe, hpe⟩ := a0.same (s18.trans s101)
          refine ⟨_, rfl, _, rfl, p, _, _, _, rfl, rfl, (sm_t s101 hp8), atI_nat (j := 1) rfl, pe, _, _, _, epe, rfl, hpe, atI_nat (j := 0) rfl, _, rfl, _, rfl, p, _, _, _, rfl, rfl, (sm_t s101 hp8), atI_nat (j := 1) rfl, pe, _, _, _, epe, rfl, hpe, atI_nat (j := 1) rfl, _, _, rfl, rfl, wide_mul (a := 2) (b := 41) (by decide) W0.bt.2 (by decide) (by decide) (by decide), _, _, rfl, by have := W0.lo.ne; omega, ?_, fun HL pl sl el => ?_⟩
          · exact Nat.lt_of_lt_of_le (show (2 * g0.2).natAbs < 2 ^ 42 by have := W0.bt.2; omega) (Nat.pow_le_pow_right (by decide) (by decide))
          refine ⟨len_show (Nat.le_of_ble_eq_true rfl), fun p102 n102 => ?_⟩
          have s102 : Same HL (L2.upd HL p102 (.tup [.ref pl])) := same_new n102
          have t102 : SqT K (L2.upd HL p102 (.tup [.ref pl])) p102 [.ref pl] := .inl (.inl upd_same)
          generalize L2.upd HL p102 (.tup [.ref pl]) = G102 at s102 t102 ⊢
          refine ⟨p101, p102, _, _, rfl, rfl, (sm_t s102 (sm_t sl t101)), t102, (fun z => nomatch z), len_show (Nat.le_of_ble_eq_true rfl), (fun z => nomatch z), fun _ => fun p103 n103 => ?_⟩
          have s103 : Same G102 (L2.upd G102 p103 (.tup ([.str z] ++ [.ref pl]))) := same_new n103
          have t103 : SqT K (L2.upd G102 p103 (.tup ([.str z] ++ [.ref pl]))) p103 [.str z, .ref pl] := .inl (.inl upd_same)
          generalize L2.upd G102 p103 (.tup ([.str z] ++ [.ref pl])) = G103 at s103 t103 ⊢
          refine ⟨_, rfl, _, rfl, _, _, rfl, rfl, _, rfl, p, _, rfl, (sm_t s103 (sm_t s102 (sm_t sl (sm_t s101 hp8)))), (fun q => absurd q (by show ¬ (HT.sIx 6 0 (some 2) = 0 ∧ HT.sIx 6 6 none = 6); decide)), fun p104 n104 => ?_⟩
          have s104 : Same G103 (L2.upd G103 p104 (.tup (cutV [.str z, v0, v1, v2, v3, v4] (some (1 + 1)) none))) := same_new n104
          have t104 : SqT K (L2.upd G103 p104 (.tup (cutV [.str z, v0, v1, v2, v3, v4] (some (1 + 1)) none))) p104 [v1, v2, v3, v4] := .inl (.inl upd_same)
          generalize L2.upd G103 p104 (.tup (cutV [.str z, v0, v1, v2, v3, v4] (some (1 + 1)) none)) = G104 at s104 t104 ⊢
          refine ⟨p103, p104, _, _, rfl, rfl, (sm_t s104 t103), t104, (fun z => nomatch z), len_show (Nat.le_of_ble_eq_true rfl), (fun z => nomatch z), fun _ => fun p105 n105 => ?_⟩
          have s105 : Same G104 (L2.upd G104 p105 (.tup ([.str z, .ref pl] ++ [v1, v2, v3, v4]))) := same_new n105
          have t105 : SqT K (L2.upd G104 p105 (.tup ([.str z, .ref pl] ++ [v1, v2, v3, v4]))) p105 [.str z, .ref pl, v1, v2, v3, v4] := .inl (.inl upd_same)
          generalize L2.upd G104 p105 (.tup ([.str z, .ref pl] ++ [v1, v2, v3, v4])) = G105 at s105 t105 ⊢
          exact fin G105 p105 z [half g0, g1, g2, g3, g4] [.ref pl, v1, v2, v3, v4] t105 (.cons (AtK.same ((s102.trans (s103.trans (s104.trans s105)))) (AtK.of el)) (.cons (B1.same (s18.trans (s101.trans (sl.trans (s102.trans (s103.trans (s104.trans s105))))))) (.cons (B2.same (s18.trans (s101.trans (sl.trans (s102.trans (s103.trans (s104.trans s105))))))) (.cons (B3.same (s18.trans (s101.trans (sl.trans (s102.trans (s103.trans (s104.trans s105))))))) (.cons (B4.same (s18.trans (s101.trans (sl.trans (s102.trans (s103.trans (s104.trans s105))))))) (.nil)))))) VH DH (pot_same P8 (s101.trans (sl.trans (s102.trans (s103.trans (s104.trans s105)))))) (b18.same (s101.trans (sl.trans (s102.trans (s103.trans (s104.trans s105))))))
      · refine ⟨_, rfl, _, rfl, p, _, _, _, rfl, rfl, hp6, atI_nat (j := 2) rfl, len_show (Nat.le_of_ble_eq_true rfl), fun p8 n8 => ?_⟩
        have s8 : Same H6 (L2.upd H6 p8 (.tup [.int 0, .int 1])) := same_new n8
        have e8 : L2.upd H6 p8 (.tup [.int 0, .int 1]) p8 = some (.tup [.int 0, .int 1]) := upd_same
        generalize L2.upd H6 p8 (.tup [.int 0, .int 1]) = H8 at s8 e8 ⊢
        have s18 := s16.trans s8
        have hp8 := sm_t s18 hp
        have P8 := pot_same P6 s8
        have b18 : But q H1 H8 := But.same But.rfl s18
        have B0 := a0
        have B1 := a1
        have B2 := a2
        have B3 := a3
        have B4 := a4
        refine ⟨_, _, (a1.same s18).dp, dp2' (t := (0, 1)) e8, by rfl, by rfl, _, rfl, ?_⟩
        rw [eqv_tD]
        refine ite2 (fun c7 => ?_) (fun c7 => ⟨rfl, s8⟩)
        · skip
          have hg0 : g1 ≠ (0, 1) := by simpa using c7
          have n0 : g1.1 ≠ 0 := fun e => hg0 ((is0 W1.lo).mp e)
          have hl := half_le W1.lo W1.nn
          have VH : StV z [g0, half g1, g2, g3, g4] := V_.swap rfl (fun g hg => by
            simp only [List.mem_cons, List.not_mem_nil, or_false] at hg
            rcases hg with h | h | h | h | h
            all_goals first
              | (rw [h]; exact half_six W1)
              | (rw [h]; exact V_.fr _ (by simp))) (by
            show rv g0 + rv (half g1) + rv g2 ≤ rv g0 + rv g1 + rv g2
            rw [Rat.le_iff_sub_nonneg] at hl ⊢
            have e : rv g0 + rv g1 + rv g2 - (rv g0 + rv (half g1) + rv g2) = rv g1 - rv (half g1) := by grind
            rw [e]
            exact hl)
          have DH : ¬ (z = z ∧ [g0, half g1, g2, g3, g4] = [g0, g1, g2, g3, g4]) := fun e => half_ne W1.lo n0 (by
            have := e.2
            simp only [List.cons.injEq] at this
            grind)
          refine ⟨_, rfl, _, rfl, _, rfl, p, _, rfl, hp8, (fun q => absurd q (by show ¬ (HT.sIx 6 0 none = 0 ∧ HT.sIx 6 6 (some 2) = 6); decide)), fun p101 n101 => ?_⟩
          have s101 : Same H8 (L2.upd H8 p101 (.tup (cutV [.str z, v0, v1, v2, v3, v4] none (some 2)))) := same_new n101
          have t101 : SqT K (L2.upd H8 p101 (.tup (cutV [.str z, v0, v1, v2, v3, v4] none (some 2)))) p101 [.str z, v0] := .inl (.inl upd_same)
          generalize L2.upd H8 p101 (.tup (cutV [.str z, v0, v1, v2, v3, v4] none (some 2))) = G101 at s101 t101 ⊢
          obtain ⟨pe, epe, hpe⟩ := a1.same (s18.trans s101)
          refine ⟨_, rfl, _, rfl, p, _, _, _, rfl, rfl, (sm_t s101 hp8), atI_nat (j := 2) rfl, pe, _, _, _, epe, rfl, hpe, atI_nat (j := 0) rfl, _, rfl, _, rfl, p, _, _, _, rfl, rfl, (sm_t s101 hp8), atI_nat (j := 2) rfl, pe, _, _, _, epe, rfl, hpe, atI_nat (j := 1) rfl, _, _, rfl, rfl, wide_mul (a := 2) (b := 41) (by decide) W1.bt.2 (by decide) (by decide) (by decide), _, _, rfl, by have := W1.lo.ne; omega, ?_, fun HL pl sl el => ?_⟩
          · exact Nat.lt_of_lt_of_le (show (2 * g1.2).natAbs < 2 ^ 42 by have := W1.bt.2; omega) (Nat.pow_le_pow_right (by decide) (by decide))
          refine ⟨len_show (Nat.le_of_ble_eq_true rfl), fun p102 n102 => ?_⟩
          have s102 : Same HL (L2.upd HL p102 (.tup [.ref pl])) := same_new n102
          have t102 : SqT K (L2.upd HL p102 (.tup [.ref pl])) p102 [.ref pl] := .inl (.inl upd_same)
          generalize L2.upd HL p102 (.tup [.ref pl]) = G102 at s102 t102 ⊢
          refine ⟨p101, p102, _, _, rfl, rfl, (sm_t s102 (sm_t sl t101)), t102, (fun z => nomatch z), len_show (Nat.le_of_ble_eq_true rfl), (fun z => nomatch z), fun _ => fun p103 n103 => ?_⟩
          have s103 : Same G102 (L2.upd G102 p103 (.tup ([.str z, v0] ++ [.ref pl]))) := same_new n103
          have t103 : SqT K (L2.upd G102 p103 (.tup ([.str z, v0] ++ [.ref pl]))) p103 [.str z, v0, .ref pl] := .inl (.inl upd_same)
          generalize L2.upd G102 p103 (.tup ([.str z, v0] ++ [.ref pl])) = G103 at s103 t103 ⊢
          refine ⟨_, rfl, _, rfl, _, _, rfl, rfl, _, rfl, p, _, rfl, (sm_t s103 (sm_t s102 (sm_t sl (sm_t s101 hp8)))), (fun q => absurd q (by show ¬ (HT.sIx 6 0 (some 3) = 0 ∧ HT.sIx 6 6 none = 6); decide)), fun p104 n104 => ?_⟩
          have s104 : Same G103 (L2.upd G103 p104 (.tup (cutV [.str z, v0, v1, v2, v3, v4] (some (2 + 1)) none))) := same_new n104
          have t104 : SqT K (L2.upd G103 p104 (.tup (cutV [.str z, v0, v1, v2, v3, v4] (some (2 + 1)) none))) p104 [v2, v3, v4] := .inl (.inl upd_same)
          generalize L2.upd G103 p104 (.tup (cutV [.str z, v0, v1, v2, v3, v4] (some (2 + 1)) none)) = G104 at s104 t104 ⊢
          refine ⟨p103, p104, _, _, rfl, rfl, (sm_t s104 t103), t104, (fun z => nomatch z), len_show (Nat.le_of_ble_eq_true rfl), (fun z => nomatch z), fun _ => fun p105 n105 => ?_⟩
          have s105 : Same G104 (L2.upd G104 p105 (.tup ([.str z, v0, .ref pl] ++ [v2, v3, v4]))) := same_new n105
          have t105 : SqT K (L2.upd G104 p105 (.tup ([.str z, v0, .ref pl] ++ [v2, v3, v4]))) p105 [.str z, v0, .ref pl, v2, v3, v4] := .inl (.inl upd_same)
          generalize L2.upd G104 p105 (.tup ([.str z, v0, .ref pl] ++ [v2, v3, v4])) = G105 at s105 t105 ⊢
          exact fin G105 p105 z [g0, half g1, g2, g3, g4] [v0, .ref pl, v2, v3, v4] t105 (.cons (B0.same (s18.trans (s101.trans (sl.trans (s102.trans (s103.trans (s104.trans s105))))))) (.cons (AtK.same ((s102.trans (s103.trans (s104.trans s105)))) (AtK.of el)) (.cons (B2.same (s18.trans (s101.trans (sl.trans (s102.trans (s103.trans (s104.trans s105))))))) (.cons (B3.same (s18.trans (s101.trans (sl.trans (s102.trans (s103.trans (s104.trans s105))))))) (.cons (B4.same (s18.trans (s101.trans (sl.trans (s102.trans (s103.trans (s104.trans s105))))))) (.nil)))))) VH DH (pot_same P8 (s101.trans (sl.trans (s102.trans (s103.trans (s104.trans s105)))))) (b18.same (s101.trans (sl.trans (s102.trans (s103.trans (s104.trans s105))))))
      · refine ⟨_, rfl, _, rfl, p, _, _, _, rfl, rfl, hp6, atI_nat (j := 3) rfl, len_show (Nat.le_of_ble_eq_true rfl), fun p8 n8 => ?_⟩
        have s8 : Same H6 (L2.upd H6 p8 (.tup [.int 0, .int 1])) := same_new n8
        have e8 : L2.upd H6 p8 (.tup [.int 0, .int 1]) p8 = some (.tup [.int 0, .int 1]) := upd_same
        generalize L2.upd H6 p8 (.tup [.int 0, .int 1]) = H8 at s8 e8 ⊢
        have s18 := s16.trans s8
        have hp8 := sm_t s18 hp
        have P8 := pot_same P6 s8
        have b18 : But q H1 H8 := But.same But.rfl s18
        have B0 := a0
        have B1 := a1
        have B2 := a2
        have B3 := a3
        have B4 := a4
        refine ⟨_, _, (a2.same s18).dp, dp2' (t := (0, 1)) e8, by rfl, by rfl, _, rfl, ?_⟩
        rw [eqv_tD]
        refine ite2 (fun c7 => ?_) (fun c7 => ⟨rfl, s8⟩)
        · skip
          have hg0 : g2 ≠ (0, 1) := by simpa using c7
          have n0 : g2.1 ≠ 0 := fun e => hg0 ((is0 W2.lo).mp e)
          have hl := half_le W2.lo W2.nn
          have VH : StV z [g0, g1, half g2, g3, g4] := V_.swap rfl (fun g hg => by
            simp only [List.mem_cons, List.not_mem_nil, or_false] at hg
            rcases hg with h | h | h | h | h
            all_goals first
              | (rw [h]; exact half_six W2)
              | (rw [h]; exact V_.fr _ (by simp))) (by
            show rv g0 + rv g1 + rv (half g2) ≤ rv g0 + rv g1 + rv g2
            rw [Rat.le_iff_sub_nonneg] at hl ⊢
            have e : rv g0 + rv g1 + rv g2 - (rv g0 + rv g1 + rv (half g2)) = rv g2 - rv (half g2) := by grind
            rw [e]
            exact hl)
          have DH : ¬ (z = z ∧ [g0, g1, half g2, g3, g4] = [g0, g1, g2, g3, g4]) := fun e => half_ne W2.lo n0 (by
            have := e.2
            simp only [List.cons.injEq] at this
            grind)
          refine ⟨_, rfl, _, rfl, _, rfl, p, _, rfl, hp8, (fun q => absurd q (by show ¬ (HT.sIx 6 0 none = 0 ∧ HT.sIx 6 6 (some 3) = 6); decide)), fun p101 n101 => ?_⟩
          have s101 : Same H8 (L2.upd H8 p101 (.tup (cutV [.str z, v0, v1, v2, v3, v4] none (some 3)))) := same_new n101
          have t101 : SqT K (L2.upd H8 p101 (.tup (cutV [.str z, v0, v1, v2, v3, v4] none (some 3)))) p101 [.str z, v0, v1] := .inl (.inl upd_same)
          generalize L2.upd H8 p101 (.tup (cutV [.str z, v0, v1, v2, v3, v4] none (some 3))) = G101 at s101 t101 ⊢
          obtain ⟨pe, epe, hpe⟩ := a2.same (s18.trans s101)
          refine ⟨_, rfl, _, rfl, p, _, _, _, rfl, rfl, (sm_t s101 hp8), atI_nat (j := 3) rfl, pe, _, _, _, epe, rfl, hpe, atI_nat (j := 0) rfl, _, rfl, _, rfl, p, _, _, _, rfl, rfl, (sm_t s101 hp8), atI_nat (j := 3) rfl, pe, _, _, _, epe, rfl, hpe, atI_nat (j := 1) rfl, _, _, rfl, rfl, wide_mul (a := 2) (b := 41) (by decide) W2.bt.2 (by decide) (by decide) (by decide), _, _, rfl, by have := W2.lo.ne; omega, ?_, fun HL pl sl el => ?_⟩
          · exact Nat.lt_of_lt_of_le (show (2 * g2.2).natAbs < 2 ^ 42 by have := W2.bt.2; omega) (Nat.pow_le_pow_right (by decide) (by decide))
          refine ⟨len_show (Nat.le_of_ble_eq_true rfl), fun p102 n102 => ?_⟩
          have s102 : Same HL (L2.upd HL p102 (.tup [.ref pl])) := same_new n102
          have t102 : SqT K (L2.upd HL p102 (.tup [.ref pl])) p102 [.ref pl] := .inl (.inl upd_same)
          generalize L2.upd HL p102 (.tup [.ref pl]) = G102 at s102 t102 ⊢
          refine ⟨p101, p102, _, _, rfl, rfl, (sm_t s102 (sm_t sl t101)), t102, (fun z => nomatch z), len_show (Nat.le_of_ble_eq_true rfl), (fun z => nomatch z), fun _ => fun p103 n103 => ?_⟩
          have s103 : Same G102 (L2.upd G102 p103 (.tup ([.str z, v0, v1] ++ [.ref pl]))) := same_new n103
          have t103 : SqT K (L2.upd G102 p103 (.tup ([.str z, v0, v1] ++ [.ref pl]))) p103 [.str z, v0, v1, .ref pl] := .inl (.inl upd_same)
          generalize L2.upd G102 p103 (.tup ([.str z, v0, v1] ++ [.ref pl])) = G103 at s103 t103 ⊢
          refine ⟨_, rfl, _, rfl, _, _, rfl, rfl, _, rfl, p, _, rfl, (sm_t s103 (sm_t s102 (sm_t sl (sm_t s101 hp8)))), (fun q => absurd q (by show ¬ (HT.sIx 6 0 (some 4) = 0 ∧ HT.sIx 6 6 none = 6); decide)), fun p104 n104 => ?_⟩
          have s104 : Same G103 (L2.upd G103 p104 (.tup (cutV [.str z, v0, v1, v2, v3, v4] (some (3 + 1)) none))) := same_new n104
          have t104 : SqT K (L2.upd G103 p104 (.tup (cutV [.str z, v0, v1, v2, v3, v4] (some (3 + 1)) none))) p104 [v3, v4] := .inl (.inl upd_same)
          generalize L2.upd G103 p104 (.tup (cutV [.str z, v0, v1, v2, v3, v4] (some (3 + 1)) none)) = G104 at s104 t104 ⊢
          refine ⟨p103, p104, _, _, rfl, rfl, (sm_t s104 t103), t104, (fun z => nomatch z), len_show (Nat.le_of_ble_eq_true rfl), (fun z => nomatch z), fun _ => fun p105 n105 => ?_⟩
          have s105 : Same G104 (L2.upd G104 p105 (.tup ([.str z, v0, v1, .ref pl] ++ [v3, v4]))) := same_new n105
          have t105 : SqT K (L2.upd G104 p105 (.tup ([.str z, v0, v1, .ref pl] ++ [v3, v4]))) p105 [.str z, v0, v1, .ref pl, v3, v4] := .inl (.inl upd_same)
          generalize L2.upd G104 p105 (.tup ([.str z, v0, v1, .ref pl] ++ [v3, v4])) = G105 at s105 t105 ⊢
          exact fin G105 p105 z [g0, g1, half g2, g3, g4] [v0, v1, .ref pl, v3, v4] t105 (.cons (B0.same (s18.trans (s101.trans (sl.trans (s102.trans (s103.trans (s104.trans s105))))))) (.cons (B1.same (s18.trans (s101.trans (sl.trans (s102.trans (s103.trans (s104.trans s105))))))) (.cons (AtK.same ((s102.trans (s103.trans (s104.trans s105)))) (AtK.of el)) (.cons (B3.same (s18.trans (s101.trans (sl.trans (s102.trans (s103.trans (s104.trans s105))))))) (.cons (B4.same (s18.trans (s101.trans (sl.trans (s102.trans (s103.trans (s104.trans s105))))))) (.nil)))))) VH DH (pot_same P8 (s101.trans (sl.trans (s102.trans (s103.trans (s104.trans s105)))))) (b18.same (s101.trans (sl.trans (s102.trans (s103.trans (s104.trans s105))))))
    rintro σ H7 ⟨rfl, s67⟩
    have s17 := s16.trans s67
    have hp7' := sm_t s17 hp
    have P7' := pot_same P6 s67
    -- thirst or price
    refine ⟨len_show (Nat.le_of_ble_eq_true rfl), fun l8 n8 => ?_⟩
    have s8 : Same H7 (L2.upd H7 l8 (.lst [.int 4, .int 5])) := same_new n8
    have e8 : L2.upd H7 l8 (.lst [.int 4, .int 5]) l8 = some (.lst [.int 4, .int 5]) := upd_same
    generalize L2.upd H7 l8 (.lst [.int 4, .int 5]) = H7 at s8 e8 ⊢
    have s17 := s17.trans s8
    have hp7 := sm_t s17 hp
    have P7 := pot_same P7' s8
    have b17 : But q H1 H7 := But.same But.rfl s17
    have B0 := a0
    have B1 := a1
    have B2 := a2
    have B3 := a3
    have B4 := a4
    have hm2 : at_ % 2 = 0 ∨ at_ % 2 = 1 := by omega
    rcases hm2 with hm | hm
    · refine ⟨_, rfl, _, _, rfl, rfl, (by show (0 : Int) < 2; decide), l8, _, _, _, rfl, rfl, .inl (.inl e8), (by rw [hm]; rfl : atI [V.int 4, V.int 5] (at_ % 2) = some (.int 4)), ?_⟩
      · skip
        refine ⟨_, rfl, _, rfl, _, rfl, p, _, rfl, hp7, (fun q => absurd q (by show ¬ (HT.sIx 6 0 none = 0 ∧ HT.sIx 6 6 (some 4) = 6); decide)), fun p101 n101 => ?_⟩
        have s101 : Same H7 (L2.upd H7 p101 (.tup (cutV [.str z, v0, v1, v2, v3, v4] none (some 4)))) := same_new n101
        have t101 : SqT K (L2.upd H7 p101 (.tup (cutV [.str z, v0, v1, v2, v3, v4] none (some 4)))) p101 [.str z, v0, v1, v2] := .inl (.inl upd_same)
        generalize L2.upd H7 p101 (.tup (cutV [.str z, v0, v1, v2, v3, v4] none (some 4))) = G101 at s101 t101 ⊢
        refine ⟨len_show (Nat.le_of_ble_eq_true rfl), fun p102 n102 => ?_⟩
        have s102 : Same G101 (L2.upd G101 p102 (.tup [.int 1, .int 1])) := same_new n102
        have t102 : SqT K (L2.upd G101 p102 (.tup [.int 1, .int 1])) p102 [.int 1, .int 1] := .inl (.inl upd_same)
        generalize L2.upd G101 p102 (.tup [.int 1, .int 1]) = G102 at s102 t102 ⊢
        refine ⟨len_show (Nat.le_of_ble_eq_true rfl), fun p103 n103 => ?_⟩
        have s103 : Same G102 (L2.upd G102 p103 (.tup [.int 2, .int 1])) := same_new n103
        have t103 : SqT K (L2.upd G102 p103 (.tup [.int 2, .int 1])) p103 [.int 2, .int 1] := .inl (.inl upd_same)
        generalize L2.upd G102 p103 (.tup [.int 2, .int 1]) = G103 at s103 t103 ⊢
        refine ⟨len_show (Nat.le_of_ble_eq_true rfl), fun p104 n104 => ?_⟩
        have s104 : Same G103 (L2.upd G103 p104 (.lst [.ref p102, .ref p103])) := same_new n104
        have e104 : L2.upd G103 p104 (.lst [.ref p102, .ref p103]) p104 = some (.lst [.ref p102, .ref p103]) := upd_same
        generalize L2.upd G103 p104 (.lst [.ref p102, .ref p103]) = G104 at s104 e104 ⊢
        refine ⟨_, rfl, _, rfl, p, _, _, _, rfl, rfl, (sm_t s104 (sm_t s103 (sm_t s102 (sm_t s101 hp7)))), atI_nat (j := 4) rfl, ?_⟩
        refine ⟨len_show (Nat.le_of_ble_eq_true rfl), fun p105 n105 => ?_⟩
        have s105 : Same G104 (L2.upd G104 p105 (.tup [.int 1, .int 1])) := same_new n105
        have t105 : SqT K (L2.upd G104 p105 (.tup [.int 1, .int 1])) p105 [.int 1, .int 1] := .inl (.inl upd_same)
        generalize L2.upd G104 p105 (.tup [.int 1, .int 1]) = G105 at s105 t105 ⊢
        refine ⟨_, _, (B3.same (s17.trans (s101.trans (s102.trans (s103.trans (s104.trans s105)))))).dp, dp2 (x := 1) (y := 1) t105, by rfl, by rfl, .inr ⟨_, rfl, ?_⟩⟩
        rw [show tD (1, 1) = tD f1 from rfl, eqv_tD]
        obtain ⟨pn, fn, hfn, hat, hfv, hne⟩ : ∃ (pn : Addr) (fn : Int × Int), AtK K G105 (.ref pn) fn ∧ atI [V.ref p102, V.ref p103] (if decide (g3 = f1) = true then 1 else 0) = some (.ref pn) ∧ Fr6 fn ∧ fn ≠ g3 := by
          by_cases hq : g3 = f1
          · refine ⟨p103, (2, 1), ⟨_, rfl, (sm_t s105 (sm_t s104 t103))⟩, by rw [decide_eq_true hq]; rfl, ⟨⟨by decide, by decide⟩, by decide, ⟨by decide, by decide⟩⟩, fun z => ?_⟩
            rw [hq] at z
            exact absurd z (by decide)
          · refine ⟨p102, (1, 1), ⟨_, rfl, (sm_t s105 (sm_t s104 (sm_t s103 t102)))⟩, by rw [decide_eq_false hq]; rfl, ⟨f1_f, by decide, ⟨by decide, by decide⟩⟩, fun z => hq z.symm⟩
        refine ⟨p104, _, _, _, rfl, rfl, .inl (.inl (s105 _ _ (e104))), hat, len_show (Nat.le_of_ble_eq_true rfl), fun p106 n106 => ?_⟩
        have s106 : Same G105 (L2.upd G105 p106 (.tup [.ref pn])) := same_new n106
        have t106 : SqT K (L2.upd G105 p106 (.tup [.ref pn])) p106 [.ref pn] := .inl (.inl upd_same)
        generalize L2.upd G105 p106 (.tup [.ref pn]) = G106 at s106 t106 ⊢
        refine ⟨p101, p106, _, _, rfl, rfl, (sm_t s106 (sm_t s105 (sm_t s104 (sm_t s103 (sm_t s102 t101))))), t106, (fun z => nomatch z), len_show (Nat.le_of_ble_eq_true rfl), (fun z => nomatch z), fun _ => fun p107 n107 => ?_⟩
        have s107 : Same G106 (L2.upd G106 p107 (.tup ([.str z, v0, v1, v2] ++ [.ref pn]))) := same_new n107
        have t107 : SqT K (L2.upd G106 p107 (.tup ([.str z, v0, v1, v2] ++ [.ref pn]))) p107 [.str z, v0, v1, v2, .ref pn] := .inl (.inl upd_same)
        generalize L2.upd G106 p107 (.tup ([.str z, v0, v1, v2] ++ [.ref pn])) = G107 at s107 t107 ⊢
        refine ⟨_, rfl, _, rfl, _, _, rfl, rfl, _, rfl, p, _, rfl, (sm_t s107 (sm_t s106 (sm_t s105 (sm_t s104 (sm_t s103 (sm_t s102 (sm_t s101 hp7))))))), (fun q => absurd q (by show ¬ (HT.sIx 6 0 (some 5) = 0 ∧ HT.sIx 6 6 none = 6); decide)), fun p108 n108 => ?_⟩
        have s108 : Same G107 (L2.upd G107 p108 (.tup (cutV [.str z, v0, v1, v2, v3, v4] (some (4 + 1)) none))) := same_new n108
        have t108 : SqT K (L2.upd G107 p108 (.tup (cutV [.str z, v0, v1, v2, v3, v4] (some (4 + 1)) none))) p108 [v4] := .inl (.inl upd_same)
        generalize L2.upd G107 p108 (.tup (cutV [.str z, v0, v1, v2, v3, v4] (some (4 + 1)) none)) = G108 at s108 t108 ⊢
        refine ⟨p107, p108, _, _, rfl, rfl, (sm_t s108 t107), t108, (fun z => nomatch z), len_show (Nat.le_of_ble_eq_true rfl), (fun z => nomatch z), fun _ => fun p109 n109 => ?_⟩
        have s109 : Same G108 (L2.upd G108 p109 (.tup ([.str z, v0, v1, v2, .ref pn] ++ [v4]))) := same_new n109
        have t109 : SqT K (L2.upd G108 p109 (.tup ([.str z, v0, v1, v2, .ref pn] ++ [v4]))) p109 [.str z, v0, v1, v2, .ref pn, v4] := .inl (.inl upd_same)
        generalize L2.upd G108 p109 (.tup ([.str z, v0, v1, v2, .ref pn] ++ [v4])) = G109 at s109 t109 ⊢
        have VH : StV z [g0, g1, g2, fn, g4] := V_.swap rfl (fun g hg => by
          simp only [List.mem_cons, List.not_mem_nil, or_false] at hg
          rcases hg with h | h | h | h | h
          all_goals first
            | (rw [h]; exact hfv)
            | (rw [h]; exact V_.fr _ (by simp))) Rat.le_refl
        have DH : ¬ (z = z ∧ [g0, g1, g2, fn, g4] = [g0, g1, g2, g3, g4]) := fun e => hne (by
          have := e.2
          simp only [List.cons.injEq] at this
          grind)
        exact fin G109 p109 z [g0, g1, g2, fn, g4] [v0, v1, v2, .ref pn, v4] t109 (.cons (B0.same (s17.trans (s101.trans (s102.trans (s103.trans (s104.trans (s105.trans (s106.trans (s107.trans (s108.trans s109)))))))))) (.cons (B1.same (s17.trans (s101.trans (s102.trans (s103.trans (s104.trans (s105.trans (s106.trans (s107.trans (s108.trans s109)))))))))) (.cons (B2.same (s17.trans (s101.trans (s102.trans (s103.trans (s104.trans (s105.trans (s106.trans (s107.trans (s108.trans s109)))))))))) (.cons (hfn.same (s106.trans (s107.trans (s108.trans s109)))) (.cons (B4.same (s17.trans (s101.trans (s102.trans (s103.trans (s104.trans (s105.trans (s106.trans (s107.trans (s108.trans s109)))))))))) (.nil)))))) VH DH (pot_same P7 (s101.trans (s102.trans (s103.trans (s104.trans (s105.trans (s106.trans (s107.trans (s108.trans s109))))))))) (b17.same (s101.trans (s102.trans (s103.trans (s104.trans (s105.trans (s106.trans (s107.trans (s108.trans s109)))))))))
    · refine ⟨_, rfl, _, _, rfl, rfl, (by show (0 : Int) < 2; decide), l8, _, _, _, rfl, rfl, .inl (.inl e8), (by rw [hm]; rfl : atI [V.int 4, V.int 5] (at_ % 2) = some (.int 5)), ?_⟩
      · skip
        refine ⟨_, rfl, _, rfl, _, rfl, p, _, rfl, hp7, (fun q => absurd q (by show ¬ (HT.sIx 6 0 none = 0 ∧ HT.sIx 6 6 (some 5) = 6); decide)), fun p101 n101 => ?_⟩
        have s101 : Same H7 (L2.upd H7 p101 (.tup (cutV [.str z, v0, v1, v2, v3, v4] none (some 5)))) := same_new n101
        have t101 : SqT K (L2.upd H7 p101 (.tup (cutV [.str z, v0, v1, v2, v3, v4] none (some 5)))) p101 [.str z, v0, v1, v2, v3] := .inl (.inl upd_same)
        generalize L2.upd H7 p101 (.tup (cutV [.str z, v0, v1, v2, v3, v4] none (some 5))) = G101 at s101 t101 ⊢
        refine ⟨len_show (Nat.le_of_ble_eq_true rfl), fun p102 n102 => ?_⟩
        have s102 : Same G101 (L2.upd G101 p102 (.tup [.int 1, .int 1])) := same_new n102
        have t102 : SqT K (L2.upd G101 p102 (.tup [.int 1, .int 1])) p102 [.int 1, .int 1] := .inl (.inl upd_same)
        generalize L2.upd G101 p102 (.tup [.int 1, .int 1]) = G102 at s102 t102 ⊢
        refine ⟨len_show (Nat.le_of_ble_eq_true rfl), fun p103 n103 => ?_⟩
        have s103 : Same G102 (L2.upd G102 p103 (.tup [.int 2, .int 1])) := same_new n103
        have t103 : SqT K (L2.upd G102 p103 (.tup [.int 2, .int 1])) p103 [.int 2, .int 1] := .inl (.inl upd_same)
        generalize L2.upd G102 p103 (.tup [.int 2, .int 1]) = G103 at s103 t103 ⊢
        refine ⟨len_show (Nat.le_of_ble_eq_true rfl), fun p104 n104 => ?_⟩
        have s104 : Same G103 (L2.upd G103 p104 (.lst [.ref p102, .ref p103])) := same_new n104
        have e104 : L2.upd G103 p104 (.lst [.ref p102, .ref p103]) p104 = some (.lst [.ref p102, .ref p103]) := upd_same
        generalize L2.upd G103 p104 (.lst [.ref p102, .ref p103]) = G104 at s104 e104 ⊢
        refine ⟨_, rfl, _, rfl, p, _, _, _, rfl, rfl, (sm_t s104 (sm_t s103 (sm_t s102 (sm_t s101 hp7)))), atI_nat (j := 5) rfl, ?_⟩
        refine ⟨len_show (Nat.le_of_ble_eq_true rfl), fun p105 n105 => ?_⟩
        have s105 : Same G104 (L2.upd G104 p105 (.tup [.int 1, .int 1])) := same_new n105
        have t105 : SqT K (L2.upd G104 p105 (.tup [.int 1, .int 1])) p105 [.int 1, .int 1] := .inl (.inl upd_same)
        generalize L2.upd G104 p105 (.tup [.int 1, .int 1]) = G105 at s105 t105 ⊢
        refine ⟨_, _, (B4.same (s17.trans (s101.trans (s102.trans (s103.trans (s104.trans s105)))))).dp, dp2 (x := 1) (y := 1) t105, by rfl, by rfl, .inr ⟨_, rfl, ?_⟩⟩
        rw [show tD (1, 1) = tD f1 from rfl, eqv_tD]
        obtain ⟨pn, fn, hfn, hat, hfv, hne⟩ : ∃ (pn : Addr) (fn : Int × Int), AtK K G105 (.ref pn) fn ∧ atI [V.ref p102, V.ref p103] (if decide (g4 = f1) = true then 1 else 0) = some (.ref pn) ∧ Fr6 fn ∧ fn ≠ g4 := by
          by_cases hq : g4 = f1
          · refine ⟨p103, (2, 1), ⟨_, rfl, (sm_t s105 (sm_t s104 t103))⟩, by rw [decide_eq_true hq]; rfl, ⟨⟨by decide, by decide⟩, by decide, ⟨by decide, by decide⟩⟩, fun z => ?_⟩
            rw [hq] at z
            exact absurd z (by decide)
          · refine ⟨p102, (1, 1), ⟨_, rfl, (sm_t s105 (sm_t s104 (sm_t s103 t102)))⟩, by rw [decide_eq_false hq]; rfl, ⟨f1_f, by decide, ⟨by decide, by decide⟩⟩, fun z => hq z.symm⟩
        refine ⟨p104, _, _, _, rfl, rfl, .inl (.inl (s105 _ _ (e104))), hat, len_show (Nat.le_of_ble_eq_true rfl), fun p106 n106 => ?_⟩
        have s106 : Same G105 (L2.upd G105 p106 (.tup [.ref pn])) := same_new n106
        have t106 : SqT K (L2.upd G105 p106 (.tup [.ref pn])) p106 [.ref pn] := .inl (.inl upd_same)
        generalize L2.upd G105 p106 (.tup [.ref pn]) = G106 at s106 t106 ⊢
        refine ⟨p101, p106, _, _, rfl, rfl, (sm_t s106 (sm_t s105 (sm_t s104 (sm_t s103 (sm_t s102 t101))))), t106, (fun z => nomatch z), len_show (Nat.le_of_ble_eq_true rfl), (fun z => nomatch z), fun _ => fun p107 n107 => ?_⟩
        have s107 : Same G106 (L2.upd G106 p107 (.tup ([.str z, v0, v1, v2, v3] ++ [.ref pn]))) := same_new n107
        have t107 : SqT K (L2.upd G106 p107 (.tup ([.str z, v0, v1, v2, v3] ++ [.ref pn]))) p107 [.str z, v0, v1, v2, v3, .ref pn] := .inl (.inl upd_same)
        generalize L2.upd G106 p107 (.tup ([.str z, v0, v1, v2, v3] ++ [.ref pn])) = G107 at s107 t107 ⊢
        refine ⟨_, rfl, _, rfl, _, _, rfl, rfl, _, rfl, p, _, rfl, (sm_t s107 (sm_t s106 (sm_t s105 (sm_t s104 (sm_t s103 (sm_t s102 (sm_t s101 hp7))))))), (fun q => absurd q (by show ¬ (HT.sIx 6 0 (some 6) = 0 ∧ HT.sIx 6 6 none = 6); decide)), fun p108 n108 => ?_⟩
        have s108 : Same G107 (L2.upd G107 p108 (.tup (cutV [.str z, v0, v1, v2, v3, v4] (some (5 + 1)) none))) := same_new n108
        have t108 : SqT K (L2.upd G107 p108 (.tup (cutV [.str z, v0, v1, v2, v3, v4] (some (5 + 1)) none))) p108 [] := .inl (.inl upd_same)
        generalize L2.upd G107 p108 (.tup (cutV [.str z, v0, v1, v2, v3, v4] (some (5 + 1)) none)) = G108 at s108 t108 ⊢
        refine ⟨p107, p108, _, _, rfl, rfl, (sm_t s108 t107), t108, (fun z => nomatch z), len_show (Nat.le_of_ble_eq_true rfl), fun _ => ?_, fun z => absurd rfl z⟩
        have VH : StV z [g0, g1, g2, g3, fn] := V_.swap rfl (fun g hg => by
          simp only [List.mem_cons, List.not_mem_nil, or_false] at hg
          rcases hg with h | h | h | h | h
          all_goals first
            | (rw [h]; exact hfv)
            | (rw [h]; exact V_.fr _ (by simp))) Rat.le_refl
        have DH : ¬ (z = z ∧ [g0, g1, g2, g3, fn] = [g0, g1, g2, g3, g4]) := fun e => hne (by
          have := e.2
          simp only [List.cons.injEq] at this
          grind)
        exact fin G108 p107 z [g0, g1, g2, g3, fn] [v0, v1, v2, v3, .ref pn] (sm_t s108 t107) (.cons (B0.same (s17.trans (s101.trans (s102.trans (s103.trans (s104.trans (s105.trans (s106.trans (s107.trans s108))))))))) (.cons (B1.same (s17.trans (s101.trans (s102.trans (s103.trans (s104.trans (s105.trans (s106.trans (s107.trans s108))))))))) (.cons (B2.same (s17.trans (s101.trans (s102.trans (s103.trans (s104.trans (s105.trans (s106.trans (s107.trans s108))))))))) (.cons (B3.same (s17.trans (s101.trans (s102.trans (s103.trans (s104.trans (s105.trans (s106.trans (s107.trans s108))))))))) (.cons (hfn.same (s106.trans (s107.trans s108))) (.nil)))))) VH DH (pot_same P7 (s101.trans (s102.trans (s103.trans (s104.trans (s105.trans (s106.trans (s107.trans s108)))))))) (b17.same (s101.trans (s102.trans (s103.trans (s104.trans (s105.trans (s106.trans (s107.trans s108))))))))

end
end Lf

set_option Elab.async false
set_option linter.all false
set_option maxRecDepth 100000
set_option maxHeartbeats 4000000
set_option exponentiation.threshold 3000
namespace Lf
open PySem PySem.Spec PyProof.Rows L2
theorem ix_listK {X : Cx} {K : PySem.W.Frag} (hK : X.K = K := by rfl) : IxR X (rIxL K) := hK ▸ ix_list
section
variable {P : Program} {w : World} {K : PySem.W.Frag} {mg : Str → Option Value} {base : Heap}
theorem row_of {H : Hp} {p : Addr} {z : Str} {gs : List (Int × Int)} (h : StRow K H p z gs) (hN : isNm (.str z) = true) : RowV K H p z gs ∧ StW z gs := by
  obtain ⟨as, h1, h2, h3, h4⟩ := h.ex
  refine ⟨⟨as.map V.ref, .inl (.inl h1), ?_⟩, ⟨⟨hN, h3, fun g hg => (h.fr g hg).six, h.ok⟩, h.fr⟩⟩
  have key : ∀ (as : List Addr) (gs : List (Int × Int)), as.length = gs.length → (∀ (i : Nat) (a : Addr) (g : Int × Int), as[i]? = some a → gs[i]? = some g → SqT K H a [.int g.1, .int g.2]) → AtKs K H (as.map V.ref) gs := by
    intro as
    induction as with
    | nil =>
      intro gs hl _
      cases gs with
      | nil => exact .nil
      | cons _ _ => cases hl
    | cons a as ih =>
      intro gs hl hh
      cases gs with
      | nil => cases hl
      | cons g gs => exact .cons ⟨a, rfl, hh 0 a g rfl rfl⟩ (ih gs (Nat.succ.inj hl) fun i a' g' e1 e2 => hh (i + 1) a' g' e1 e2)
  exact key as gs (by omega) h4
/-- what is of one of these types is no stuff -/
structure Alns (K : PySem.W.Frag) (C : Addr) : Prop where
  no : ∀ T ∈ ["NoneType", "int", "str", "list", "tuple"], PySem.W.kitOne K (.type T) (.ref C) = some false ∧ PySem.W.notFirst K C (.type T) = true
theorem Alns.al {H : Hp} {C : Addr} {y : V} {T : String} (h : Alns K C) (t : TyX K H y (.type T)) (m : T ∈ ["NoneType", "int", "str", "list", "tuple"]) : Alien K H C y := ⟨T, t, (h.no T m).1, (h.no T m).2⟩
theorem rv_swap4 {a b : Rat} : a + b = b + a := Rat.add_comm a b

/-! ### _law_right -/
abbrev s__law_right : Stmt := topS 39
theorem sc__law_right : FnScope ["_law_pot_here", "_law_row", "_law_other_here", "_law_made_here", "_law_beside", "_law_thing", "_law_one", "_law_stuff_here"] ["_law_pot_here"] (defScope s__law_right) := ⟨rfl, rfl, rfl, by decide +kernel, rfl, by decide +kernel, by decide +kernel⟩
def sp_right : Sp := fun vs H Q _ => ∃ (q : Addr), vs = [.ref q] ∧ Pot H q ∧ ∀ H', Pot H' q → But q H H' → Q (.bl true) H'
set_option maxHeartbeats 16000000 in
theorem ok_right {f C fS fe : Addr} {fd fdS fde : FuncData} (M : Blt mg) (XC : ClsX K C) (AL : Alns K C) (W : Ways K fdS) (MS : MakG P w K mg base CX0 9 "Stuff" C fS fdS ["self", "name", "flour", "water", "salt", "thirst", "price"] (sp_mk K C)) (ME : OwnM P w K mg base 1 C "__eq__" fe fde ["self", "other"] (sp_seq K C)) (F : Fun K "_law_right" "_law_right" s__law_right f fd)
    (C__law_draw : Cal P w K mg base CX0 1 "_law_draw" ["_law_pot_here", "_law_many"] sp_draw) (C__law_name : Cal P w K mg base CX0 2 "_law_name" ["_law_pot_here", "_law_taken"] (sp_name K)) (C__law_stuff : Cal P w K mg base CX0 3 "_law_stuff" ["_law_pot_here", "_law_text"] (sp_stuff K)) (C__law_some : Cal P w K mg base CX0 2 "_law_some" ["_law_pot_here", "_law_least", "_law_most"] sp_some)
    (C__law_other : Cal P w K mg base CX0 3 "_law_other" ["_law_pot_here", "_law_row"] (sp_other K)) (C__law_made : Cal P w K mg base CX0 11 "_law_made" ["_law_row"] (sp_made K C)) (C__law_is_right : Cal P w K mg base CX0 5 "_law_is_right" ["_law_stuff_here", "_law_row"] (sp_isright K C)) : FnG P w K mg base CX0 12 f fd ["_law_pot_here"] sp_right := by
  obtain ⟨_, h_all⟩ := W.all
  refine Gfun F sc__law_right (fun vs H Q E h => ?_) (fun cdv A outer s H vs Q E hg hr h => ?_)
  · obtain ⟨q, rfl, _⟩ := h
    rfl
  · obtain ⟨q, rfl, hP, k⟩ := h
    refine ⟨_, (pss_cons (ps_set (i := 1) sc__law_right.nd rfl (.inr rfl) (pe_g C__law_stuff (hr.mono (by decide)) hg (pa_cons (pv 0) (pa_cons (pe_g C__law_name (hr.mono (by decide)) hg (pa_cons (pv 0) (pa_cons (pe_lst pa_nil) pa_nil))) pa_nil))))
      (pss_mid (ps_if (pt_cmpR op_eq (pe_g C__law_draw (hr.mono (by decide)) hg (pa_cons (pv 0) (pa_cons pe_int pa_nil))) pe_int (nomark _))
      (pss_one (ps_set (i := 1) sc__law_right.nd rfl (.inr rfl) (pe_op op_catT (pe_slice sl_tup (pv 1) po_none (po_some pe_int)) (pe_tup (pa_cons (pe_g C__law_some (hr.mono (by decide)) hg (pa_cons (pv 0) (pa_cons pe_int (pa_cons pe_int pa_nil)))) (pa_cons (pe_ix ix_tup (pv 1) pe_int (fun _ _ => rfl)) pa_nil))))))
      pss_nil)
      (pss_cons (ps_set (i := 2) sc__law_right.nd rfl (by first | exact .inl rfl | exact .inr rfl) (pe_g C__law_other (hr.mono (by decide)) hg (pa_cons (pv 0) (pa_cons (pv 1) pa_nil))))
      (pss_cons (ps_set (i := 3) sc__law_right.nd rfl (.inr rfl) (pe_g C__law_made (hr.mono (by decide)) hg (pa_cons (pv 1) pa_nil)))
      (pss_cons (ps_set (i := 4) sc__law_right.nd rfl (by first | exact .inl rfl | exact .inr rfl) (pe_mkG MS h_all (hr.mono (by decide)) hg (fun _ => pass_no) (pa_cons (pe_ix ix_tup (pv 2) pe_int (fun _ _ => rfl)) (pa_cons (pe_ix ix_tup (pv 2) pe_int (fun _ _ => rfl)) (pa_cons (pe_ix ix_tup (pv 2) pe_int (fun _ _ => rfl)) (pa_cons (pe_ix ix_tup (pv 2) pe_int (fun _ _ => rfl)) (pa_cons (pe_ix ix_tup (pv 2) pe_int (fun _ _ => rfl)) (pa_cons (pe_ix ix_tup (pv 2) pe_int (fun _ _ => rfl)) pa_nil))))))))
      (pss_cons (ps_if (PW.pt (pw_or (pt_not (pt_val (pe_callB (cr_all rfl) rfl M.all bt_all (pa_cons (pe_lc (own := [("_law_stuff_here", 7)]) (g := gName 7) (tt := tYes) rfl sc__law_right.nd (pi_list (pv 3)) (blkOk_by (N := ["_law_pot_here", "_law_row", "_law_other_here", "_law_made_here", "_law_beside", "_law_thing", "_law_one", "_law_stuff_here"]) (sc := defScope s__law_right) (by decide +kernel)) (fun _ _ _ _ _ => pg_name (i := 7) sc__law_right.nd rfl (Or.inl rfl)) (fun _ _ _ _ _ => pts_nil) (fun _ _ _ _ _ => (pe_g C__law_is_right (hr.mono (by decide)) hg (pa_cons (pv 7) (pa_cons (pv 1) pa_nil))))) pa_nil)))) (pw_or1 (pt_not (pt_val (pe_g C__law_is_right (hr.mono (by decide)) hg (pa_cons (pv 4) (pa_cons (pv 2) pa_nil))))))))
      (pss_one (ps_ret pe_bl))
      pss_nil)
      (pss_cons (ps_if (pt_not (pt_val (pe_callB (cr_all rfl) rfl M.all bt_all (pa_cons (pe_lc (own := [("_law_one", 6)]) (g := gName 6) (tt := tYes) rfl sc__law_right.nd (pi_list (pv 3)) (blkOk_by (N := ["_law_pot_here", "_law_row", "_law_other_here", "_law_made_here", "_law_beside", "_law_thing", "_law_one", "_law_stuff_here"]) (sc := defScope s__law_right) (by decide +kernel)) (fun _ _ _ _ _ => pg_name (i := 6) sc__law_right.nd rfl (Or.inl rfl)) (fun _ _ _ _ _ => pts_nil) (fun _ _ _ _ _ => (pe_and (pe_cmpR op_is_bl (pe_cmpR (op_eqOK (K := K) ME (hr.mono (by decide)) hg) (pv 6) (pe_ix (ix_listK (K := K)) (pv 3) pe_int (fun _ _ => rfl)) (nomark _)) pe_bl (nomark _)) (pe_one (pe_cmpR op_is_bl (pe_cmpR (op_eqOK (K := K) ME (hr.mono (by decide)) hg) (pe_ix (ix_listK (K := K)) (pv 3) pe_int (fun _ _ => rfl)) (pv 6) (nomark _)) pe_bl (nomark _)))))) pa_nil))))
      (pss_one (ps_ret pe_bl))
      pss_nil)
      (pss_cons (ps_if (pt_cmpR (op_neD hr.units) (pe_lc (own := [("_law_thing", 5)]) (g := gName 5) rfl sc__law_right.nd (pi_list (pe_lst (pa_cons (pv 4) (pa_cons (pv 1) (pa_cons (pe_ix ix_tup (pv 1) pe_int (fun _ _ => rfl)) (pa_cons pe_non (pa_cons pe_int (pa_cons (pe_lst pa_nil) pa_nil)))))))) (blkOk_by (N := ["_law_pot_here", "_law_row", "_law_other_here", "_law_made_here", "_law_beside", "_law_thing", "_law_one", "_law_stuff_here"]) (sc := defScope s__law_right) (by decide +kernel)) (fun _ _ _ _ _ => pg_name (i := 5) sc__law_right.nd rfl (Or.inl rfl)) (fun _ _ _ _ _ => (pts_one (pt_cmpR op_isnot_bl (pe_cmpR (op_eqOK (K := K) ME (hr.mono (by decide)) hg) (pe_ix (ix_listK (K := K)) (pv 3) pe_int (fun _ _ => rfl)) (pv 5) (nomark _)) pe_bl (nomark _)))) (fun _ _ _ _ _ => (pv 5))) (pe_lst pa_nil) (nomark _))
      (pss_one (ps_ret pe_bl))
      pss_nil)
      (pss_one (ps_ret (pe_g C__law_is_right (hr.mono (by decide)) hg (pa_cons (pe_ix ix_list (pv 3) pe_int (fun _ _ => rfl)) (pa_cons (pv 1) pa_nil))))))))))))), ?_⟩
    refine ⟨_, rfl, _, rfl, len_show (Nat.le_of_ble_eq_true rfl), fun t nt => ?_⟩
    have s0 : Same H (L2.upd H t (.lst [])) := same_new nt
    have ht : SqL K (L2.upd H t (.lst [])) t (([] : List Str).map V.str) := .inl (.inl upd_same)
    have tne : t ≠ q := pot_ne hP nt
    generalize L2.upd H t (.lst []) = H0 at s0 ht ⊢
    have P0 := pot_same hP s0
    refine ⟨q, t, [], rfl, tne, P0, ht, by decide, (fun x hx => nomatch hx), fun z H1 hN hz _ P1 b1 => ?_⟩
    refine ⟨q, z, rfl, P1, fun p gs H2 R2 P2 b2 => ?_⟩
    have b02 : But q H H2 := ((But.same But.rfl s0).trans b1).trans b2
    obtain ⟨RV2, W2⟩ := row_of R2 hN
    -- perhaps another thirst
    refine ⟨fun σ H' => ∃ (p' : Addr) (gs' : List (Int × Int)), σ = [some (.ref q), some (.ref p'), none, none, none, none, none, none] ∧ RowV K H' p' z gs' ∧ StW z gs' ∧ Pot H' q ∧ But q H H', ?_, ?_⟩
    · refine ⟨_, rfl, q, 2, rfl, by decide, by decide, P2, fun r H3 r0 r1 P3 b3 => ⟨rfl, _, rfl, ite2 (fun c => ?_) (fun c => ?_)⟩⟩
      · have b03 := b02.trans b3
        obtain ⟨xs, hp, hxs⟩ := RV2.but b3 P2
        obtain ⟨v0, v1, v2, v3, v4, g0, g1, g2, g3, g4, rfl, rfl, a0, a1, a2, a3, a4⟩ := atks5 hxs W2.v.n5
        refine ⟨_, rfl, _, rfl, p, _, rfl, hp, (fun q => absurd q (by show ¬ (HT.sIx 6 0 none = 0 ∧ HT.sIx 6 6 (some 4) = 6); decide)), fun p4 n4 => ?_⟩
        have s4 : Same H3 (L2.upd H3 p4 (.tup (cutV [.str z, v0, v1, v2, v3, v4] none (some 4)))) := same_new n4
        have t4 : SqT K (L2.upd H3 p4 (.tup (cutV [.str z, v0, v1, v2, v3, v4] none (some 4)))) p4 [.str z, v0, v1, v2] := .inl (.inl upd_same)
        have q4 := pot_ne P3 n4
        generalize L2.upd H3 p4 (.tup (cutV [.str z, v0, v1, v2, v3, v4] none (some 4))) = H4 at s4 t4 ⊢
        have P4 := pot_same P3 s4
        refine ⟨_, rfl, q, rfl, P4, fun p5 f5 H5 F5 e5 P5 b5 => ?_⟩
        have R5 : RowV K H5 p z [g0, g1, g2, g3, g4] := RowV.but b5 P4 ⟨_, sm_t s4 hp, hxs.same s4⟩
        have t5' : RowV K H5 p4 z [g0, g1, g2] := RowV.but b5 P4 ⟨[v0, v1, v2], t4, .cons (a0.same s4) (.cons (a1.same s4) (.cons (a2.same s4) .nil))⟩
        obtain ⟨ys5, hp5, hys5⟩ := R5
        obtain ⟨u0, u1, u2, u3, u4, _, _, _, _, _, rfl, e6, c0, c1, c2, c3, c4⟩ := atks5 hys5 W2.v.n5
        cases e6
        obtain ⟨zs5, t5, hzs5⟩ := t5'
        refine ⟨_, rfl, p, _, _, _, rfl, rfl, hp5, atI_nat (j := 5) rfl, len_show (Nat.le_of_ble_eq_true rfl), fun p6 n6 => ?_⟩
        have s6 : Same H5 (L2.upd H5 p6 (.tup [.ref p5, u4])) := same_new n6
        have t6 : SqT K (L2.upd H5 p6 (.tup [.ref p5, u4])) p6 [.ref p5, u4] := .inl (.inl upd_same)
        generalize L2.upd H5 p6 (.tup [.ref p5, u4]) = H6 at s6 t6 ⊢
        have hzl : zs5.length = 3 := hzs5.length
        refine ⟨p4, p6, _, _, rfl, rfl, sm_t s6 t5, t6, (fun z => nomatch z), by rw [List.length_cons, hzl, sizeLine_eq]; show 3 + 1 + 2 ≤ 16777216; decide, (fun z => nomatch z), fun _ p7 n7 => ?_⟩
        have s7 : Same H6 (L2.upd H6 p7 (.tup ((.str z :: zs5) ++ [.ref p5, u4]))) := same_new n7
        have s57 := s6.trans s7
        refine ⟨p7, [g0, g1, g2, f5, g4], rfl, ⟨zs5 ++ [.ref p5, u4], .inl (.inl upd_same), AtKs.app (hzs5.same s57) (.cons (AtK.same s57 (AtK.of e5)) (.cons (c4.same s57) .nil))⟩, ?_, pot_same P5 s57, ((b03.same s4).trans b5).same s57⟩
        have fr : ∀ g ∈ [g0, g1, g2, f5, g4], Fr0 g := fun g hg => by
          simp only [List.mem_cons, List.not_mem_nil, or_false] at hg
          rcases hg with h | h | h | h | h
          all_goals first
            | (rw [h]; exact F5)
            | (rw [h]; exact W2.fr _ (by simp))
        exact ⟨⟨hN, rfl, fun g hg => (fr g hg).six, W2.v.ok⟩, fr⟩
      · exact ⟨p, gs, rfl, RV2.but b3 P2, W2, P3, b02.trans b3⟩
    rintro σ H3 ⟨p, gs, rfl, RV3, W3, P3, b03⟩
    refine ⟨_, rfl, _, rfl, q, p, z, gs, rfl, P3, RV3, W3, fun H4 po zo gso RO4 VO no P4 b4 => ?_⟩
    have RV4 := RV3.but b4 P3
    have b04 := b03.trans b4
    refine ⟨_, rfl, p, z, gs, rfl, RV4, W3.v, fun H5 l x0 x1 x2 x3 s45 e5 S0 S1 S2 S3 => ?_⟩
    have RO5 := RO4.same s45
    have RV5 := RV4.same s45
    obtain ⟨xo, hpo, hxo⟩ := RO5
    obtain ⟨v0, v1, v2, v3, v4, g0, g1, g2, g3, g4, rfl, rfl, a0, a1, a2, a3, a4⟩ := atks5 hxo VO.n5
    refine ⟨_, rfl, po, _, _, _, rfl, rfl, hpo, atI_nat (j := 0) rfl, _, rfl, po, _, _, _, rfl, rfl, hpo, atI_nat (j := 1) rfl, _, rfl, po, _, _, _, rfl, rfl, hpo, atI_nat (j := 2) rfl, _, rfl, po, _, _, _, rfl, rfl, hpo, atI_nat (j := 3) rfl, _, rfl, po, _, _, _, rfl, rfl, hpo, atI_nat (j := 4) rfl, _, rfl, po, _, _, _, rfl, rfl, hpo, atI_nat (j := 5) rfl, rfl, rfl, fun xb dxb nx nd ne => ?_⟩
    refine ⟨xb, dxb, H5, zo, [v0, v1, v2, v3, v4], [g0, g1, g2, g3, g4], rfl, nx, nd, ne, rfl, VO, .cons (.inr a0) (.cons (.inr a1) (.cons (.inr a2) (.cons (.inr a3) (.cons (.inr a4) .nil)))), fun H6 s56 SB => ⟨rfl, ?_⟩⟩
    have e6 := s56 _ _ e5
    have RV6 := RV5.same s56
    have RO6 : RowV K H6 po zo [g0, g1, g2, g3, g4] := ⟨_, sm_t s56 hpo, hxo.same s56⟩
    have all4 : ∀ (H' : Hp), Same H6 H' → ∀ x ∈ [x0, x1, x2, x3], Stf K H' C x z gs := fun H' sm x hx => by
      simp only [List.mem_cons, List.not_mem_nil, or_false] at hx
      rcases hx with rfl | rfl | rfl | rfl
      · exact (S0.same s56).same sm
      · exact (S1.same s56).same sm
      · exact (S2.same s56).same sm
      · exact (S3.same s56).same sm
    have okz := W3.v.sok
    -- each tells what it was made of
    refine ⟨_, rfl, l, rfl, ⟨_, .inl (.inl e6)⟩, fun D hD => lc_list (xs := [.ref x0, .ref x1, .ref x2, .ref x3]) (fun i H' => H' D = some (.lst (List.replicate i (.bl true))) ∧ Same H6 H') ⟨upd_same, same_new hD⟩ (fun i H' _ h => .inl (.inl (h.2 _ _ e6))) ?_ ?_⟩
    · rintro i y H7 hy ⟨e7, s7⟩
      have hi : i < 4 := (List.getElem?_eq_some_iff.mp hy).1
      have hm := List.mem_of_getElem? hy
      obtain ⟨x, hx, rfl⟩ : ∃ x ∈ [x0, x1, x2, x3], y = .ref x := by
        simp only [List.mem_cons, List.not_mem_nil, or_false] at hm
        rcases hm with rfl | rfl | rfl | rfl
        · exact ⟨x0, by simp, rfl⟩
        · exact ⟨x1, by simp, rfl⟩
        · exact ⟨x2, by simp, rfl⟩
        · exact ⟨x3, by simp, rfl⟩
      refine ⟨rfl, _, rfl, _, rfl, x, p, z, gs, rfl, all4 H7 s7 x hx, RV6.same s7, okz, fun H8 s8 => ⟨_, s8 _ _ e7, ?_, ?_, fun b o e => ?_⟩⟩
      · rw [List.length_replicate, sizeLine_eq]
        omega
      · rw [upd_same, List.replicate_succ']
      · rw [upd_ne (ne_of_none e hD)]
        exact s8 _ _ (s7 _ _ e)
    rintro H7 ⟨e7, s67⟩
    refine ⟨D, List.replicate 4 true, rfl, .inl (.inl (by rw [e7]; rfl)), _, rfl, iteF ?_⟩
    refine ⟨_, rfl, _, rfl, xb, po, zo, _, rfl, SB.same s67, RO6.same s67, VO.sok, fun H8 s78 => ⟨_, rfl, iteF ?_⟩⟩
    have s68 := s67.trans s78
    have e8 := s68 _ _ e6
    -- they are equal
    refine ⟨_, rfl, l, rfl, ⟨_, .inl (.inl e8)⟩, fun D2 hD2 => lc_list (xs := [.ref x0, .ref x1, .ref x2, .ref x3]) (fun i H' => H' D2 = some (.lst (List.replicate i (.bl true))) ∧ Same H8 H') ⟨upd_same, same_new hD2⟩ (fun i H' _ h => .inl (.inl (h.2 _ _ e8))) ?_ ?_⟩
    · rintro i y H9 hy ⟨e9, s9⟩
      have hi : i < 4 := (List.getElem?_eq_some_iff.mp hy).1
      have hm := List.mem_of_getElem? hy
      have s69 := s68.trans s9
      obtain ⟨x, hx, rfl⟩ : ∃ x ∈ [x0, x1, x2, x3], y = .ref x := by
        simp only [List.mem_cons, List.not_mem_nil, or_false] at hm
        rcases hm with rfl | rfl | rfl | rfl
        · exact ⟨x0, by simp, rfl⟩
        · exact ⟨x1, by simp, rfl⟩
        · exact ⟨x2, by simp, rfl⟩
        · exact ⟨x3, by simp, rfl⟩
      have Sx := all4 H9 s69 x hx
      have Sa := all4 H9 s69 x0 (by simp)
      have Sb := all4 H9 s69 x1 (by simp)
      obtain ⟨dx, pm, ms, i1, i2, i3⟩ := id Sx
      obtain ⟨dxa, pma, msa, j1, j2, j3⟩ := id Sa
      obtain ⟨dxb', pmb, msb, k1, k2, k3⟩ := id Sb
      have nf : PySem.W.notFirst K C (.ref C) = true := by simp [PySem.W.notFirst]
      refine ⟨rfl, _, rfl, _, rfl, l, _, _, _, rfl, rfl, .inl (.inl (s9 _ _ e8)), atI_nat (j := 0) rfl, x, dx, _, _, rfl, i1, XC.ty j1, nf, x, .ref x0, z, gs, rfl, Sx, .inr ⟨x0, z, gs, rfl, Sa, _, rfl, ?_⟩⟩
      rw [decide_eq_true (show z = z ∧ gs = gs from ⟨rfl, rfl⟩)]
      refine ⟨_, _, rfl, rfl, _, rfl, iteT ?_⟩
      refine ⟨_, rfl, l, _, _, _, rfl, rfl, .inl (.inl (s9 _ _ e8)), atI_nat (j := 1) rfl, _, rfl, x1, dxb', _, _, rfl, k1, XC.ty i1, nf, x1, .ref x, z, gs, rfl, Sb, .inr ⟨x, z, gs, rfl, Sx, _, rfl, ?_⟩⟩
      rw [decide_eq_true (show z = z ∧ gs = gs from ⟨rfl, rfl⟩)]
      refine ⟨_, _, rfl, rfl, ?_⟩
      refine ⟨_, e9, ?_, ?_, fun b o e => ?_⟩
      · rw [List.length_replicate, sizeLine_eq]
        omega
      · rw [upd_same, List.replicate_succ']
        rfl
      · rw [upd_ne (ne_of_none e hD2)]
        exact s9 _ _ e
    rintro H9 ⟨e9, s89⟩
    refine ⟨D2, List.replicate 4 true, rfl, .inl (.inl (by rw [e9]; rfl)), _, rfl, iteF ?_⟩
    have s69 := s68.trans s89
    have RV9 := RV6.same s69
    obtain ⟨xr, hpr, hxr⟩ := id RV9
    -- nothing else is equal
    refine ⟨_, rfl, _, rfl, _, rfl, p, _, _, _, rfl, rfl, hpr, atI_nat (j := 0) rfl, len_show (Nat.le_of_ble_eq_true rfl), fun lE nE => ?_⟩
    have sE : Same H9 (L2.upd H9 lE (.lst [])) := same_new nE
    have eE : L2.upd H9 lE (.lst []) lE = some (.lst []) := upd_same
    generalize L2.upd H9 lE (.lst []) = HE at sE eE ⊢
    refine ⟨len_show (Nat.le_of_ble_eq_true rfl), fun lA nA => ?_⟩
    have sA : Same HE (L2.upd HE lA (.lst [.ref xb, .ref p, .str z, .non, .int 7, .ref lE])) := same_new nA
    have eA : L2.upd HE lA (.lst [.ref xb, .ref p, .str z, .non, .int 7, .ref lE]) lA = some (.lst [.ref xb, .ref p, .str z, .non, .int 7, .ref lE]) := upd_same
    generalize L2.upd HE lA (.lst [.ref xb, .ref p, .str z, .non, .int 7, .ref lE]) = HA at sA eA ⊢
    have s9A := sE.trans sA
    have s6A := s69.trans s9A
    have eEA := sA _ _ eE
    refine ⟨lA, rfl, ⟨_, .inl (.inl eA)⟩, fun D3 hD3 => lc_list (xs := [.ref xb, .ref p, .str z, .non, .int 7, .ref lE]) (fun i H' => H' D3 = some (.lst []) ∧ Same HA H') ⟨upd_same, same_new hD3⟩ (fun i H' _ h => .inl (.inl (h.2 _ _ eA))) ?_ ?_⟩
    · rintro i y HB hy ⟨eB, sB⟩
      have hm := List.mem_of_getElem? hy
      have s6B := s6A.trans sB
      have Sa := all4 HB s6B x0 (by simp)
      obtain ⟨dxa, pma, msa, j1, j2, j3⟩ := id Sa
      have lB := sB _ _ (s9A _ _ (s89 _ _ e8))
      have un : Alien K HB C y ∨ ∃ (x' : Addr) (z' : Str) (fs' : List (Int × Int)), y = .ref x' ∧ Stf K HB C x' z' fs' ∧ decide (z = z' ∧ gs = fs') = false := by
        simp only [List.mem_cons, List.not_mem_nil, or_false] at hm
        rcases hm with rfl | rfl | rfl | rfl | rfl | rfl
        · exact .inr ⟨xb, zo, _, rfl, SB.same s6B, decide_eq_false fun e => no ⟨e.1.symm, e.2.symm⟩⟩
        · refine .inl (AL.al ?_ (by simp : "tuple" ∈ _))
          have hq := sm_t (s9A.trans sB) hpr
          rcases hq with (r | ⟨ob, r⟩) | ⟨ob, arr, n, hk, hc, _⟩
          · exact .base (.tup r)
          · exact .fTuple r
          · exact .kTuple hk hc
        · exact .inl (AL.al (.base (.str z)) (by simp : "str" ∈ _))
        · exact .inl (AL.al (.base .non) (by simp : "NoneType" ∈ _))
        · exact .inl (AL.al (.base (.int 7)) (by simp : "int" ∈ _))
        · exact .inl (AL.al (.base (.lst (sB _ _ eEA))) (by simp : "list" ∈ _))
      have nf : PySem.W.notFirst K C (.ref C) = true := by simp [PySem.W.notFirst]
      refine ⟨rfl, _, rfl, l, _, _, _, rfl, rfl, .inl (.inl lB), atI_nat (j := 0) rfl, _, rfl, ?_⟩
      rcases un with al | ⟨x', z', fs', rfl, S', hd⟩
      · obtain ⟨T, hT, hk, hnf⟩ := id al
        refine ⟨x0, dxa, _, _, rfl, j1, hT, hnf, x0, y, z, gs, rfl, Sa, .inl ⟨al, _, rfl, ?_⟩⟩
        exact ⟨_, _, rfl, rfl, _, rfl, iteF ⟨eB, sB⟩⟩
      · obtain ⟨dx', pm', ms', i1, i2, i3⟩ := id S'
        refine ⟨x0, dxa, _, _, rfl, j1, XC.ty i1, nf, x0, .ref x', z, gs, rfl, Sa, .inr ⟨x', z', fs', rfl, S', _, rfl, ?_⟩⟩
        rw [hd]
        exact ⟨_, _, rfl, rfl, _, rfl, iteF ⟨eB, sB⟩⟩
    rintro HB ⟨eB, sB⟩
    refine ⟨len_show (Nat.le_of_ble_eq_true rfl), fun lF nF => ?_⟩
    have sF : Same HB (L2.upd HB lF (.lst [])) := same_new nF
    have eF : L2.upd HB lF (.lst []) lF = some (.lst []) := upd_same
    generalize L2.upd HB lF (.lst []) = HF at sF eF ⊢
    refine ⟨_, _, .lst (.inl (.inl (sF _ _ eB))) .nil, .lst (.inl (.inl eF)) .nil, by rfl, by rfl, _, rfl, ?_⟩
    rw [show PyData.eqv (.list []) (.list []) = true by rfl]
    refine iteF ?_
    have s6F := (s6A.trans sB).trans sF
    have b0F : But q H HF := ((b04.same s45).same s56).same s6F
    have PF := pot_same (pot_same (pot_same P4 s45) s56) s6F
    refine ⟨_, rfl, l, _, _, _, rfl, rfl, .inl (.inl (s6F _ _ e6)), atI_nat (j := 0) rfl, _, rfl, x0, p, z, gs, rfl, all4 HF s6F x0 (by simp), RV6.same s6F, okz, fun HG sG => ?_⟩
    exact k HG (pot_same PF sG) (b0F.same sG)

end
end Lf

set_option Elab.async false
set_option linter.all false
set_option maxRecDepth 100000
set_option maxHeartbeats 4000000
set_option exponentiation.threshold 3000
namespace Lf
open PySem PySem.Spec PyProof.Rows L2
section
variable {P : Program} {w : World} {K : PySem.W.Frag} {mg : Str → Option Value} {base : Heap}
theorem add3_le {a b c x y z : Rat} (h1 : a ≤ x) (h2 : b ≤ y) (h3 : c ≤ z) : a + b + c ≤ x + y + z :=
  Rat.le_trans (Rat.add_le_add_right.mpr (Rat.le_trans (Rat.add_le_add_right.mpr h1) (Rat.add_le_add_left.mpr h2))) (Rat.add_le_add_left.mpr h3)

/-! ### _law_left_out -/
abbrev s__law_left_out : Stmt := topS 40
theorem sc__law_left_out : FnScope ["_law_pot_here", "_law_row", "_law_nought", "_law_made_here", "_law_due", "_law_one", "_law_other_here"] ["_law_pot_here"] (defScope s__law_left_out) := ⟨rfl, rfl, rfl, by decide +kernel, rfl, by decide +kernel, by decide +kernel⟩
set_option maxHeartbeats 16000000 in
theorem ok_left {f C fS : Addr} {fd fdS : FuncData} (M : Blt mg) (Mz : mg "zip" = none) (W : Ways K fdS) (MS : MakG P w K mg base CX0 9 "Stuff" C fS fdS ["self", "name", "flour", "water", "salt", "thirst", "price"] (sp_mk K C)) (F : Fun K "_law_left_out" "_law_left_out" s__law_left_out f fd)
    (C__law_name : Cal P w K mg base CX0 2 "_law_name" ["_law_pot_here", "_law_taken"] (sp_name K)) (C__law_stuff : Cal P w K mg base CX0 3 "_law_stuff" ["_law_pot_here", "_law_text"] (sp_stuff K)) (C__law_is_right : Cal P w K mg base CX0 5 "_law_is_right" ["_law_stuff_here", "_law_row"] (sp_isright K C)) : FnG P w K mg base CX0 12 f fd ["_law_pot_here"] sp_right := by
  obtain ⟨_, h_one⟩ := W.one
  obtain ⟨_, h_thi⟩ := W.thi
  obtain ⟨_, h_two⟩ := W.two
  obtain ⟨_, h_sal⟩ := W.sal
  refine Gfun F sc__law_left_out (fun vs H Q E h => ?_) (fun cdv A outer s H vs Q E hg hr h => ?_)
  · obtain ⟨q, rfl, _⟩ := h
    rfl
  · obtain ⟨q, rfl, hP, k⟩ := h
    refine ⟨_, (pss_cons (ps_set (i := 1) sc__law_left_out.nd rfl (.inl rfl) (pe_g C__law_stuff (hr.mono (by decide)) hg (pa_cons (pv 0) (pa_cons (pe_g C__law_name (hr.mono (by decide)) hg (pa_cons (pv 0) (pa_cons (pe_lst pa_nil) pa_nil))) pa_nil))))
      (pss_cons (ps_set (i := 2) sc__law_left_out.nd rfl (.inl rfl) (pe_tup (pa_cons pe_int (pa_cons pe_int pa_nil))))
      (pss_cons (ps_set (i := 3) sc__law_left_out.nd rfl (.inl rfl) (pe_lst (pa_cons (pe_mkG MS h_one (hr.mono (by decide)) hg (fun _ => pass_no) (pa_cons (pe_ix ix_tup (pv 1) pe_int (fun _ _ => rfl)) pa_nil)) (pa_cons (pe_mkGK MS h_thi (hr.mono (by decide)) hg (fun _ => pass_no) (pa_cons (pe_ix ix_tup (pv 1) pe_int (fun _ _ => rfl)) pa_nil) (pk_cons (pe_ix ix_tup (pv 1) pe_int (fun _ _ => rfl)) pk_nil)) (pa_cons (pe_mkG MS h_two (hr.mono (by decide)) hg (fun _ => pass_no) (pa_cons (pe_ix ix_tup (pv 1) pe_int (fun _ _ => rfl)) (pa_cons (pe_ix ix_tup (pv 1) pe_int (fun _ _ => rfl)) pa_nil))) pa_nil)))))
      (pss_cons (ps_expr (pe_bm PySem.F.plainAttrs_list PySem.F.slot_list_append PySem.F.type_list_append mt_append (pv 3) (pa_cons (pe_mkGN MS h_sal (hr.mono (by decide)) hg (fun _ => pass_no) (pk_cons (pe_ix ix_tup (pv 1) pe_int (fun _ _ => rfl)) (pk_cons (pe_ix ix_tup (pv 1) pe_int (fun _ _ => rfl)) (pk_cons (pe_ix ix_tup (pv 1) pe_int (fun _ _ => rfl)) pk_nil)))) pa_nil)))
      (pss_cons (ps_set (i := 4) sc__law_left_out.nd rfl (.inl rfl) (pe_lst (pa_cons (pe_op op_catT (pe_tup (pa_cons (pe_ix ix_tup (pv 1) pe_int (fun _ _ => rfl)) pa_nil)) (pe_op op_repT (pe_tup (pa_cons (pv 2) pa_nil)) pe_int)) (pa_cons (pe_op op_catT (pe_op op_catT (pe_tup (pa_cons (pe_ix ix_tup (pv 1) pe_int (fun _ _ => rfl)) pa_nil)) (pe_op op_repT (pe_tup (pa_cons (pv 2) pa_nil)) pe_int)) (pe_tup (pa_cons (pe_ix ix_tup (pv 1) pe_int (fun _ _ => rfl)) (pa_cons (pv 2) pa_nil)))) (pa_cons (pe_op op_catT (pe_slice sl_tup (pv 1) po_none (po_some pe_int)) (pe_op op_repT (pe_tup (pa_cons (pv 2) pa_nil)) pe_int)) pa_nil)))))
      (pss_cons (ps_expr (pe_bm PySem.F.plainAttrs_list PySem.F.slot_list_append PySem.F.type_list_append mt_append (pv 4) (pa_cons (pe_tup (pa_cons (pe_ix ix_tup (pv 1) pe_int (fun _ _ => rfl)) (pa_cons (pv 2) (pa_cons (pv 2) (pa_cons (pe_ix ix_tup (pv 1) pe_int (fun _ _ => rfl)) (pa_cons (pv 2) (pa_cons (pe_ix ix_tup (pv 1) pe_int (fun _ _ => rfl)) pa_nil))))))) pa_nil)))
      (pss_one (ps_ret (pe_callB (cr_all rfl) rfl M.all bt_all (pa_cons (pe_lc (own := [("_law_one", 5), ("_law_other_here", 6)]) (g := gTup K 2 (gCons (gName 5) (gCons (gName 6) (gNil)))) (tt := tYes) rfl sc__law_left_out.nd (pi_zip rfl Mz (pa_cons (pv 3) (pa_cons (pv 4) pa_nil))) (blkOk_by (N := ["_law_pot_here", "_law_row", "_law_nought", "_law_made_here", "_law_due", "_law_one", "_law_other_here"]) (sc := defScope s__law_left_out) (by decide +kernel)) (fun _ _ _ _ _ => pg_tupK (K := K) rfl (pgs_cons (pg_name (i := 5) sc__law_left_out.nd rfl (Or.inl rfl)) (pgs_cons (pg_name (i := 6) sc__law_left_out.nd rfl (Or.inl rfl)) pgs_nil))) (fun _ _ _ _ _ => pts_nil) (fun _ _ _ _ _ => (pe_g C__law_is_right (hr.mono (by decide)) hg (pa_cons (pv 5) (pa_cons (pv 6) pa_nil))))) pa_nil)))))))))), ?_⟩
    refine ⟨_, rfl, _, rfl, len_show (Nat.le_of_ble_eq_true rfl), fun t nt => ?_⟩
    have s0 : Same H (L2.upd H t (.lst [])) := same_new nt
    have ht : SqL K (L2.upd H t (.lst [])) t (([] : List Str).map V.str) := .inl (.inl upd_same)
    have tne : t ≠ q := pot_ne hP nt
    generalize L2.upd H t (.lst []) = H0 at s0 ht ⊢
    have P0 := pot_same hP s0
    refine ⟨q, t, [], rfl, tne, P0, ht, by decide, (fun x hx => nomatch hx), fun z H1 hN hz _ P1 b1 => ?_⟩
    refine ⟨q, z, rfl, P1, fun p gs H2 R2 P2 b2 => ?_⟩
    have b02 : But q H H2 := ((But.same But.rfl s0).trans b1).trans b2
    obtain ⟨⟨xs, hp, hxs⟩, W2⟩ := row_of R2 hN
    have V_ := W2.v
    obtain ⟨v0, v1, v2, v3, v4, g0, g1, g2, g3, g4, rfl, rfl, a0, a1, a2, a3, a4⟩ := atks5 hxs V_.n5
    have le0 : ∀ g ∈ [g0, g1, g2, g3, g4], rv f0 ≤ rv g := fun g hg => by rw [rv0]; exact (rv_nn (W2.fr g hg).lo).mpr (W2.fr g hg).nn
    have q0 := le0 g0 (by simp)
    have q1 := le0 g1 (by simp)
    have q2 := le0 g2 (by simp)
    have VA : StV z [f0, f0, f0, f0, f0] := V_.swap rfl (fun g hg => by
      simp only [List.mem_cons, List.not_mem_nil, or_false] at hg
      rcases hg with h | h | h | h | h
      all_goals first
        | (rw [h]; exact f0_six)
        | (rw [h]; exact V_.fr _ (by simp))) (add3_le q0 q1 q2)
    have VB : StV z [f0, f0, f0, g3, f0] := V_.swap rfl (fun g hg => by
      simp only [List.mem_cons, List.not_mem_nil, or_false] at hg
      rcases hg with h | h | h | h | h
      all_goals first
        | (rw [h]; exact f0_six)
        | (rw [h]; exact V_.fr _ (by simp))) (add3_le q0 q1 q2)
    have VC : StV z [g0, f0, f0, f0, f0] := V_.swap rfl (fun g hg => by
      simp only [List.mem_cons, List.not_mem_nil, or_false] at hg
      rcases hg with h | h | h | h | h
      all_goals first
        | (rw [h]; exact f0_six)
        | (rw [h]; exact V_.fr _ (by simp))) (add3_le Rat.le_refl q1 q2)
    have VD : StV z [f0, f0, g2, f0, g4] := V_.swap rfl (fun g hg => by
      simp only [List.mem_cons, List.not_mem_nil, or_false] at hg
      rcases hg with h | h | h | h | h
      all_goals first
        | (rw [h]; exact f0_six)
        | (rw [h]; exact V_.fr _ (by simp))) (add3_le q0 q1 Rat.le_refl)
    refine ⟨len_show (Nat.le_of_ble_eq_true rfl), fun p1 n1 => ?_⟩
    have s1 : Same H2 (L2.upd H2 p1 (.tup [.int 0, .int 1])) := same_new n1
    have t1 : SqT K (L2.upd H2 p1 (.tup [.int 0, .int 1])) p1 [.int 0, .int 1] := .inl (.inl upd_same)
    generalize L2.upd H2 p1 (.tup [.int 0, .int 1]) = G1 at s1 t1 ⊢
    refine ⟨_, rfl, p, _, _, _, rfl, rfl, (sm_t s1 hp), atI_nat (j := 0) rfl, rfl, rfl, fun x2 dx2 nx2 nd2 ne2 => ?_⟩
    refine ⟨x2, dx2, G1, z, [.non, .non, .non, .non, .non], [f0, f0, f0, f0, f0], rfl, nx2, nd2, ne2, rfl, VA, .cons (.inl ⟨rfl, rfl⟩) (.cons (.inl ⟨rfl, rfl⟩) (.cons (.inl ⟨rfl, rfl⟩) (.cons (.inl ⟨rfl, rfl⟩) (.cons (.inl ⟨rfl, rfl⟩) (.nil))))), fun G2 s2 S2 => ⟨rfl, ?_⟩⟩
    refine ⟨_, rfl, p, _, _, _, rfl, rfl, (sm_t s2 (sm_t s1 hp)), atI_nat (j := 0) rfl, _, rfl, p, _, _, _, rfl, rfl, (sm_t s2 (sm_t s1 hp)), atI_nat (j := 4) rfl, rfl, rfl, fun x3 dx3 nx3 nd3 ne3 => ?_⟩
    refine ⟨x3, dx3, G2, z, [.non, .non, .non, v3, .non], [f0, f0, f0, g3, f0], rfl, nx3, nd3, ne3, rfl, VB, .cons (.inl ⟨rfl, rfl⟩) (.cons (.inl ⟨rfl, rfl⟩) (.cons (.inl ⟨rfl, rfl⟩) (.cons (.inr (a3.same (s1.trans s2))) (.cons (.inl ⟨rfl, rfl⟩) (.nil))))), fun G3 s3 S3 => ⟨rfl, ?_⟩⟩
    refine ⟨_, rfl, p, _, _, _, rfl, rfl, (sm_t s3 (sm_t s2 (sm_t s1 hp))), atI_nat (j := 0) rfl, _, rfl, p, _, _, _, rfl, rfl, (sm_t s3 (sm_t s2 (sm_t s1 hp))), atI_nat (j := 1) rfl, rfl, rfl, fun x4 dx4 nx4 nd4 ne4 => ?_⟩
    refine ⟨x4, dx4, G3, z, [v0, .non, .non, .non, .non], [g0, f0, f0, f0, f0], rfl, nx4, nd4, ne4, rfl, VC, .cons (.inr (a0.same (s1.trans (s2.trans s3)))) (.cons (.inl ⟨rfl, rfl⟩) (.cons (.inl ⟨rfl, rfl⟩) (.cons (.inl ⟨rfl, rfl⟩) (.cons (.inl ⟨rfl, rfl⟩) (.nil))))), fun G4 s4 S4 => ⟨rfl, ?_⟩⟩
    refine ⟨len_show (Nat.le_of_ble_eq_true rfl), fun p5 n5 => ?_⟩
    have s5 : Same G4 (L2.upd G4 p5 (.lst [.ref x2, .ref x3, .ref x4])) := same_new n5
    have t5 : L2.upd G4 p5 (.lst [.ref x2, .ref x3, .ref x4]) p5 = some (.lst [.ref x2, .ref x3, .ref x4]) := upd_same
    generalize L2.upd G4 p5 (.lst [.ref x2, .ref x3, .ref x4]) = G5 at s5 t5 ⊢
    refine ⟨_, rfl, .inl ⟨rfl, _, .inl (.inl t5)⟩, _, rfl, p, _, _, _, rfl, rfl, (sm_t s5 (sm_t s4 (sm_t s3 (sm_t s2 (sm_t s1 hp))))), atI_nat (j := 3) rfl, _, rfl, p, _, _, _, rfl, rfl, (sm_t s5 (sm_t s4 (sm_t s3 (sm_t s2 (sm_t s1 hp))))), atI_nat (j := 0) rfl, _, rfl, p, _, _, _, rfl, rfl, (sm_t s5 (sm_t s4 (sm_t s3 (sm_t s2 (sm_t s1 hp))))), atI_nat (j := 5) rfl, rfl, rfl, fun x6 dx6 nx6 nd6 ne6 => ?_⟩
    refine ⟨x6, dx6, G5, z, [.non, .non, v2, .non, v4], [f0, f0, g2, f0, g4], rfl, nx6, nd6, ne6, rfl, VD, .cons (.inl ⟨rfl, rfl⟩) (.cons (.inl ⟨rfl, rfl⟩) (.cons (.inr (a2.same (s1.trans (s2.trans (s3.trans (s4.trans s5)))))) (.cons (.inl ⟨rfl, rfl⟩) (.cons (.inr (a4.same (s1.trans (s2.trans (s3.trans (s4.trans s5)))))) (.nil))))), fun G6 s6 S6 => ⟨rfl, ?_⟩⟩
    refine ⟨p5, _, _, rfl, rfl, (s6 _ _ t5), len_show (Nat.le_of_ble_eq_true rfl), ?_⟩
    have nlm : ∀ b o, H2 b = some o → b ≠ p5 := fun b o e => ne_of_none (s4 _ _ (s3 _ _ (s2 _ _ (s1 _ _ (e))))) n5
    have eL : G6 p5 = some (.lst [.ref x2, .ref x3, .ref x4]) := (s6 _ _ t5)
    have S_A := Stf.lst (ys' := [.ref x2, .ref x3, .ref x4] ++ [.ref x6]) eL (S2.same (s3.trans (s4.trans (s5.trans s6))))
    have S_B := Stf.lst (ys' := [.ref x2, .ref x3, .ref x4] ++ [.ref x6]) eL (S3.same (s4.trans (s5.trans s6)))
    have S_C := Stf.lst (ys' := [.ref x2, .ref x3, .ref x4] ++ [.ref x6]) eL (S4.same (s5.trans s6))
    have S_D := Stf.lst (ys' := [.ref x2, .ref x3, .ref x4] ++ [.ref x6]) eL (S6.same same_rfl)
    have sX : Same H2 (L2.upd G6 p5 (.lst ([.ref x2, .ref x3, .ref x4] ++ [.ref x6]))) := fun b o e => by rw [upd_ne (nlm b o e)]; exact (s1.trans (s2.trans (s3.trans (s4.trans (s5.trans s6))))) _ _ e
    have tN : SqT K (L2.upd G6 p5 (.lst ([.ref x2, .ref x3, .ref x4] ++ [.ref x6]))) p1 [.int 0, .int 1] := sqT_lst eL (sm_t s6 (sm_t s5 (sm_t s4 (sm_t s3 (sm_t s2 t1)))))
    have eM : L2.upd G6 p5 (.lst ([.ref x2, .ref x3, .ref x4] ++ [.ref x6])) p5 = some (.lst [.ref x2, .ref x3, .ref x4, .ref x6]) := upd_same
    generalize L2.upd G6 p5 (.lst ([.ref x2, .ref x3, .ref x4] ++ [.ref x6])) = HX at S_A S_B S_C S_D sX tN eM ⊢
    have hpX := sm_t sX hp
    have aX0 := a0.same sX
    have aX1 := a1.same sX
    have aX2 := a2.same sX
    have aX3 := a3.same sX
    have aX4 := a4.same sX
    refine ⟨_, rfl, p, _, _, _, rfl, rfl, hpX, atI_nat (j := 0) rfl, len_show (Nat.le_of_ble_eq_true rfl), fun p101 n101 => ?_⟩
    have s101 : Same HX (L2.upd HX p101 (.tup [.str z])) := same_new n101
    have t101 : SqT K (L2.upd HX p101 (.tup [.str z])) p101 [.str z] := .inl (.inl upd_same)
    generalize L2.upd HX p101 (.tup [.str z]) = G101 at s101 t101 ⊢
    refine ⟨_, rfl, len_show (Nat.le_of_ble_eq_true rfl), fun p102 n102 => ?_⟩
    have s102 : Same G101 (L2.upd G101 p102 (.tup [.ref p1])) := same_new n102
    have t102 : SqT K (L2.upd G101 p102 (.tup [.ref p1])) p102 [.ref p1] := .inl (.inl upd_same)
    generalize L2.upd G101 p102 (.tup [.ref p1]) = G102 at s102 t102 ⊢
    refine ⟨p102, _, _, rfl, rfl, t102, (fun z => nomatch z), by decide, by decide, Nat.le_of_ble_eq_true rfl, fun p103 n103 => ?_⟩
    have s103 : Same G102 (L2.upd G102 p103 (.tup (List.replicate (Int.toNat 5) [.ref p1]).flatten)) := same_new n103
    have t103 : SqT K (L2.upd G102 p103 (.tup (List.replicate (Int.toNat 5) [.ref p1]).flatten)) p103 [.ref p1, .ref p1, .ref p1, .ref p1, .ref p1] := .inl (.inl upd_same)
    generalize L2.upd G102 p103 (.tup (List.replicate (Int.toNat 5) [.ref p1]).flatten) = G103 at s103 t103 ⊢
    refine ⟨p101, p103, _, _, rfl, rfl, (sm_t s103 (sm_t s102 t101)), t103, (fun z => nomatch z), len_show (Nat.le_of_ble_eq_true rfl), (fun z => nomatch z), fun _ => fun p104 n104 => ?_⟩
    have s104 : Same G103 (L2.upd G103 p104 (.tup ([.str z] ++ [.ref p1, .ref p1, .ref p1, .ref p1, .ref p1]))) := same_new n104
    have t104 : SqT K (L2.upd G103 p104 (.tup ([.str z] ++ [.ref p1, .ref p1, .ref p1, .ref p1, .ref p1]))) p104 [.str z, .ref p1, .ref p1, .ref p1, .ref p1, .ref p1] := .inl (.inl upd_same)
    generalize L2.upd G103 p104 (.tup ([.str z] ++ [.ref p1, .ref p1, .ref p1, .ref p1, .ref p1])) = G104 at s104 t104 ⊢
    refine ⟨_, rfl, p, _, _, _, rfl, rfl, (sm_t s104 (sm_t s103 (sm_t s102 (sm_t s101 hpX)))), atI_nat (j := 0) rfl, len_show (Nat.le_of_ble_eq_true rfl), fun p105 n105 => ?_⟩
    have s105 : Same G104 (L2.upd G104 p105 (.tup [.str z])) := same_new n105
    have t105 : SqT K (L2.upd G104 p105 (.tup [.str z])) p105 [.str z] := .inl (.inl upd_same)
    generalize L2.upd G104 p105 (.tup [.str z]) = G105 at s105 t105 ⊢
    refine ⟨_, rfl, len_show (Nat.le_of_ble_eq_true rfl), fun p106 n106 => ?_⟩
    have s106 : Same G105 (L2.upd G105 p106 (.tup [.ref p1])) := same_new n106
    have t106 : SqT K (L2.upd G105 p106 (.tup [.ref p1])) p106 [.ref p1] := .inl (.inl upd_same)
    generalize L2.upd G105 p106 (.tup [.ref p1]) = G106 at s106 t106 ⊢
    refine ⟨p106, _, _, rfl, rfl, t106, (fun z => nomatch z), by decide, by decide, Nat.le_of_ble_eq_true rfl, fun p107 n107 => ?_⟩
    have s107 : Same G106 (L2.upd G106 p107 (.tup (List.replicate (Int.toNat 3) [.ref p1]).flatten)) := same_new n107
    have t107 : SqT K (L2.upd G106 p107 (.tup (List.replicate (Int.toNat 3) [.ref p1]).flatten)) p107 [.ref p1, .ref p1, .ref p1] := .inl (.inl upd_same)
    generalize L2.upd G106 p107 (.tup (List.replicate (Int.toNat 3) [.ref p1]).flatten) = G107 at s107 t107 ⊢
    refine ⟨p105, p107, _, _, rfl, rfl, (sm_t s107 (sm_t s106 t105)), t107, (fun z => nomatch z), len_show (Nat.le_of_ble_eq_true rfl), (fun z => nomatch z), fun _ => fun p108 n108 => ?_⟩
    have s108 : Same G107 (L2.upd G107 p108 (.tup ([.str z] ++ [.ref p1, .ref p1, .ref p1]))) := same_new n108
    have t108 : SqT K (L2.upd G107 p108 (.tup ([.str z] ++ [.ref p1, .ref p1, .ref p1]))) p108 [.str z, .ref p1, .ref p1, .ref p1] := .inl (.inl upd_same)
    generalize L2.upd G107 p108 (.tup ([.str z] ++ [.ref p1, .ref p1, .ref p1])) = G108 at s108 t108 ⊢
    refine ⟨_, rfl, p, _, _, _, rfl, rfl, (sm_t s108 (sm_t s107 (sm_t s106 (sm_t s105 (sm_t s104 (sm_t s103 (sm_t s102 (sm_t s101 hpX)))))))), atI_nat (j := 4) rfl, _, rfl, len_show (Nat.le_of_ble_eq_true rfl), fun p109 n109 => ?_⟩
    have s109 : Same G108 (L2.upd G108 p109 (.tup [v3, .ref p1])) := same_new n109
    have t109 : SqT K (L2.upd G108 p109 (.tup [v3, .ref p1])) p109 [v3, .ref p1] := .inl (.inl upd_same)
    generalize L2.upd G108 p109 (.tup [v3, .ref p1]) = G109 at s109 t109 ⊢
    refine ⟨p108, p109, _, _, rfl, rfl, (sm_t s109 t108), t109, (fun z => nomatch z), len_show (Nat.le_of_ble_eq_true rfl), (fun z => nomatch z), fun _ => fun p110 n110 => ?_⟩
    have s110 : Same G109 (L2.upd G109 p110 (.tup ([.str z, .ref p1, .ref p1, .ref p1] ++ [v3, .ref p1]))) := same_new n110
    have t110 : SqT K (L2.upd G109 p110 (.tup ([.str z, .ref p1, .ref p1, .ref p1] ++ [v3, .ref p1]))) p110 [.str z, .ref p1, .ref p1, .ref p1, v3, .ref p1] := .inl (.inl upd_same)
    generalize L2.upd G109 p110 (.tup ([.str z, .ref p1, .ref p1, .ref p1] ++ [v3, .ref p1])) = G110 at s110 t110 ⊢
    refine ⟨_, rfl, _, rfl, p, _, rfl, (sm_t s110 (sm_t s109 (sm_t s108 (sm_t s107 (sm_t s106 (sm_t s105 (sm_t s104 (sm_t s103 (sm_t s102 (sm_t s101 hpX)))))))))), (fun q => absurd q (by show ¬ (HT.sIx 6 0 none = 0 ∧ HT.sIx 6 6 (some 2) = 6); decide)), fun p111 n111 => ?_⟩
    have s111 : Same G110 (L2.upd G110 p111 (.tup (cutV [.str z, v0, v1, v2, v3, v4] none (some 2)))) := same_new n111
    have t111 : SqT K (L2.upd G110 p111 (.tup (cutV [.str z, v0, v1, v2, v3, v4] none (some 2)))) p111 [.str z, v0] := .inl (.inl upd_same)
    generalize L2.upd G110 p111 (.tup (cutV [.str z, v0, v1, v2, v3, v4] none (some 2))) = G111 at s111 t111 ⊢
    refine ⟨_, rfl, len_show (Nat.le_of_ble_eq_true rfl), fun p112 n112 => ?_⟩
    have s112 : Same G111 (L2.upd G111 p112 (.tup [.ref p1])) := same_new n112
    have t112 : SqT K (L2.upd G111 p112 (.tup [.ref p1])) p112 [.ref p1] := .inl (.inl upd_same)
    generalize L2.upd G111 p112 (.tup [.ref p1]) = G112 at s112 t112 ⊢
    refine ⟨p112, _, _, rfl, rfl, t112, (fun z => nomatch z), by decide, by decide, Nat.le_of_ble_eq_true rfl, fun p113 n113 => ?_⟩
    have s113 : Same G112 (L2.upd G112 p113 (.tup (List.replicate (Int.toNat 4) [.ref p1]).flatten)) := same_new n113
    have t113 : SqT K (L2.upd G112 p113 (.tup (List.replicate (Int.toNat 4) [.ref p1]).flatten)) p113 [.ref p1, .ref p1, .ref p1, .ref p1] := .inl (.inl upd_same)
    generalize L2.upd G112 p113 (.tup (List.replicate (Int.toNat 4) [.ref p1]).flatten) = G113 at s113 t113 ⊢
    refine ⟨p111, p113, _, _, rfl, rfl, (sm_t s113 (sm_t s112 t111)), t113, (fun z => nomatch z), len_show (Nat.le_of_ble_eq_true rfl), (fun z => nomatch z), fun _ => fun p114 n114 => ?_⟩
    have s114 : Same G113 (L2.upd G113 p114 (.tup ([.str z, v0] ++ [.ref p1, .ref p1, .ref p1, .ref p1]))) := same_new n114
    have t114 : SqT K (L2.upd G113 p114 (.tup ([.str z, v0] ++ [.ref p1, .ref p1, .ref p1, .ref p1]))) p114 [.str z, v0, .ref p1, .ref p1, .ref p1, .ref p1] := .inl (.inl upd_same)
    generalize L2.upd G113 p114 (.tup ([.str z, v0] ++ [.ref p1, .ref p1, .ref p1, .ref p1])) = G114 at s114 t114 ⊢
    refine ⟨len_show (Nat.le_of_ble_eq_true rfl), fun p115 n115 => ?_⟩
    have s115 : Same G114 (L2.upd G114 p115 (.lst [.ref p104, .ref p110, .ref p114])) := same_new n115
    have t115 : L2.upd G114 p115 (.lst [.ref p104, .ref p110, .ref p114]) p115 = some (.lst [.ref p104, .ref p110, .ref p114]) := upd_same
    generalize L2.upd G114 p115 (.lst [.ref p104, .ref p110, .ref p114]) = G115 at s115 t115 ⊢
    refine ⟨_, rfl, .inl ⟨rfl, _, .inl (.inl t115)⟩, _, rfl, p, _, _, _, rfl, rfl, (sm_t s115 (sm_t s114 (sm_t s113 (sm_t s112 (sm_t s111 (sm_t s110 (sm_t s109 (sm_t s108 (sm_t s107 (sm_t s106 (sm_t s105 (sm_t s104 (sm_t s103 (sm_t s102 (sm_t s101 hpX))))))))))))))), atI_nat (j := 0) rfl, _, rfl, _, rfl, _, rfl, p, _, _, _, rfl, rfl, (sm_t s115 (sm_t s114 (sm_t s113 (sm_t s112 (sm_t s111 (sm_t s110 (sm_t s109 (sm_t s108 (sm_t s107 (sm_t s106 (sm_t s105 (sm_t s104 (sm_t s103 (sm_t s102 (sm_t s101 hpX))))))))))))))), atI_nat (j := 3) rfl, _, rfl, _, rfl, p, _, _, _, rfl, rfl, (sm_t s115 (sm_t s114 (sm_t s113 (sm_t s112 (sm_t s111 (sm_t s110 (sm_t s109 (sm_t s108 (sm_t s107 (sm_t s106 (sm_t s105 (sm_t s104 (sm_t s103 (sm_t s102 (sm_t s101 hpX))))))))))))))), atI_nat (j := 5) rfl, len_show (Nat.le_of_ble_eq_true rfl), fun p116 n116 => ?_⟩
    have s116 : Same G115 (L2.upd G115 p116 (.tup [.str z, .ref p1, .ref p1, v2, .ref p1, v4])) := same_new n116
    have t116 : SqT K (L2.upd G115 p116 (.tup [.str z, .ref p1, .ref p1, v2, .ref p1, v4])) p116 [.str z, .ref p1, .ref p1, v2, .ref p1, v4] := .inl (.inl upd_same)
    generalize L2.upd G115 p116 (.tup [.str z, .ref p1, .ref p1, v2, .ref p1, v4]) = G116 at s116 t116 ⊢
    refine ⟨p115, _, _, rfl, rfl, (s116 _ _ t115), len_show (Nat.le_of_ble_eq_true rfl), ?_⟩
    have eL2 : G116 p115 = some (.lst [.ref p104, .ref p110, .ref p114]) := (s116 _ _ t115)
    have aN : AtK K G116 (.ref p1) f0 := ⟨p1, rfl, (sm_t s116 (sm_t s115 (sm_t s114 (sm_t s113 (sm_t s112 (sm_t s111 (sm_t s110 (sm_t s109 (sm_t s108 (sm_t s107 (sm_t s106 (sm_t s105 (sm_t s104 (sm_t s103 (sm_t s102 (sm_t s101 tN))))))))))))))))⟩
    have R_A : RowV K (L2.upd G116 p115 (.lst ([.ref p104, .ref p110, .ref p114] ++ [.ref p116]))) p104 z [f0, f0, f0, f0, f0] := ⟨[.ref p1, .ref p1, .ref p1, .ref p1, .ref p1], sqT_lst eL2 (sm_t s116 (sm_t s115 (sm_t s114 (sm_t s113 (sm_t s112 (sm_t s111 (sm_t s110 (sm_t s109 (sm_t s108 (sm_t s107 (sm_t s106 (sm_t s105 t104)))))))))))), .cons (AtK.lst eL2 aN) (.cons (AtK.lst eL2 aN) (.cons (AtK.lst eL2 aN) (.cons (AtK.lst eL2 aN) (.cons (AtK.lst eL2 aN) (.nil)))))⟩
    have T_A := Stf.lst (ys' := ([.ref p104, .ref p110, .ref p114] ++ [.ref p116])) eL2 (S_A.same (s101.trans (s102.trans (s103.trans (s104.trans (s105.trans (s106.trans (s107.trans (s108.trans (s109.trans (s110.trans (s111.trans (s112.trans (s113.trans (s114.trans (s115.trans s116))))))))))))))))
    have R_B : RowV K (L2.upd G116 p115 (.lst ([.ref p104, .ref p110, .ref p114] ++ [.ref p116]))) p110 z [f0, f0, f0, g3, f0] := ⟨[.ref p1, .ref p1, .ref p1, v3, .ref p1], sqT_lst eL2 (sm_t s116 (sm_t s115 (sm_t s114 (sm_t s113 (sm_t s112 (sm_t s111 t110)))))), .cons (AtK.lst eL2 aN) (.cons (AtK.lst eL2 aN) (.cons (AtK.lst eL2 aN) (.cons (AtK.lst eL2 (aX3.same (s101.trans (s102.trans (s103.trans (s104.trans (s105.trans (s106.trans (s107.trans (s108.trans (s109.trans (s110.trans (s111.trans (s112.trans (s113.trans (s114.trans (s115.trans s116))))))))))))))))) (.cons (AtK.lst eL2 aN) (.nil)))))⟩
    have T_B := Stf.lst (ys' := ([.ref p104, .ref p110, .ref p114] ++ [.ref p116])) eL2 (S_B.same (s101.trans (s102.trans (s103.trans (s104.trans (s105.trans (s106.trans (s107.trans (s108.trans (s109.trans (s110.trans (s111.trans (s112.trans (s113.trans (s114.trans (s115.trans s116))))))))))))))))
    have R_C : RowV K (L2.upd G116 p115 (.lst ([.ref p104, .ref p110, .ref p114] ++ [.ref p116]))) p114 z [g0, f0, f0, f0, f0] := ⟨[v0, .ref p1, .ref p1, .ref p1, .ref p1], sqT_lst eL2 (sm_t s116 (sm_t s115 t114)), .cons (AtK.lst eL2 (aX0.same (s101.trans (s102.trans (s103.trans (s104.trans (s105.trans (s106.trans (s107.trans (s108.trans (s109.trans (s110.trans (s111.trans (s112.trans (s113.trans (s114.trans (s115.trans s116))))))))))))))))) (.cons (AtK.lst eL2 aN) (.cons (AtK.lst eL2 aN) (.cons (AtK.lst eL2 aN) (.cons (AtK.lst eL2 aN) (.nil)))))⟩
    have T_C := Stf.lst (ys' := ([.ref p104, .ref p110, .ref p114] ++ [.ref p116])) eL2 (S_C.same (s101.trans (s102.trans (s103.trans (s104.trans (s105.trans (s106.trans (s107.trans (s108.trans (s109.trans (s110.trans (s111.trans (s112.trans (s113.trans (s114.trans (s115.trans s116))))))))))))))))
    have R_D : RowV K (L2.upd G116 p115 (.lst ([.ref p104, .ref p110, .ref p114] ++ [.ref p116]))) p116 z [f0, f0, g2, f0, g4] := ⟨[.ref p1, .ref p1, v2, .ref p1, v4], sqT_lst eL2 t116, .cons (AtK.lst eL2 aN) (.cons (AtK.lst eL2 aN) (.cons (AtK.lst eL2 (aX2.same (s101.trans (s102.trans (s103.trans (s104.trans (s105.trans (s106.trans (s107.trans (s108.trans (s109.trans (s110.trans (s111.trans (s112.trans (s113.trans (s114.trans (s115.trans s116))))))))))))))))) (.cons (AtK.lst eL2 aN) (.cons (AtK.lst eL2 (aX4.same (s101.trans (s102.trans (s103.trans (s104.trans (s105.trans (s106.trans (s107.trans (s108.trans (s109.trans (s110.trans (s111.trans (s112.trans (s113.trans (s114.trans (s115.trans s116))))))))))))))))) (.nil)))))⟩
    have T_D := Stf.lst (ys' := ([.ref p104, .ref p110, .ref p114] ++ [.ref p116])) eL2 (S_D.same (s101.trans (s102.trans (s103.trans (s104.trans (s105.trans (s106.trans (s107.trans (s108.trans (s109.trans (s110.trans (s111.trans (s112.trans (s113.trans (s114.trans (s115.trans s116))))))))))))))))
    have eM2 : L2.upd G116 p115 (.lst ([.ref p104, .ref p110, .ref p114] ++ [.ref p116])) p5 = some (.lst [.ref x2, .ref x3, .ref x4, .ref x6]) := by rw [upd_ne (ne_of_none (s114 _ _ (s113 _ _ (s112 _ _ (s111 _ _ (s110 _ _ (s109 _ _ (s108 _ _ (s107 _ _ (s106 _ _ (s105 _ _ (s104 _ _ (s103 _ _ (s102 _ _ (s101 _ _ (eM))))))))))))))) n115)]; exact (s116 _ _ (s115 _ _ (s114 _ _ (s113 _ _ (s112 _ _ (s111 _ _ (s110 _ _ (s109 _ _ (s108 _ _ (s107 _ _ (s106 _ _ (s105 _ _ (s104 _ _ (s103 _ _ (s102 _ _ (s101 _ _ eM))))))))))))))))
    have eD2 : L2.upd G116 p115 (.lst ([.ref p104, .ref p110, .ref p114] ++ [.ref p116])) p115 = some (.lst [.ref p104, .ref p110, .ref p114, .ref p116]) := upd_same
    have nld : ∀ b o, HX b = some o → b ≠ p115 := fun b o e => ne_of_none (s114 _ _ (s113 _ _ (s112 _ _ (s111 _ _ (s110 _ _ (s109 _ _ (s108 _ _ (s107 _ _ (s106 _ _ (s105 _ _ (s104 _ _ (s103 _ _ (s102 _ _ (s101 _ _ (e))))))))))))))) n115
    have sY : Same H2 (L2.upd G116 p115 (.lst ([.ref p104, .ref p110, .ref p114] ++ [.ref p116]))) := fun b o e => by rw [upd_ne (nld b o (sX _ _ e))]; exact (s101.trans (s102.trans (s103.trans (s104.trans (s105.trans (s106.trans (s107.trans (s108.trans (s109.trans (s110.trans (s111.trans (s112.trans (s113.trans (s114.trans (s115.trans s116))))))))))))))) _ _ (sX _ _ e)
    generalize L2.upd G116 p115 (.lst ([.ref p104, .ref p110, .ref p114] ++ [.ref p116])) = HY at R_A R_B R_C R_D T_A T_B T_C T_D eM2 eD2 sY ⊢
    refine ⟨_, rfl, _, rfl, p5, p115, _, _, rfl, .inl (.inl eM2), .inl (.inl eD2), fun D hD => lc_it (walk_zip (xs := [.ref x2, .ref x3, .ref x4, .ref x6]) (ys := [.ref p104, .ref p110, .ref p114, .ref p116]) (n := 4) rfl) (fun i H' => H' D = some (.lst (List.replicate i (.bl true))) ∧ Same HY H') ⟨upd_same, same_new hD⟩ (fun i H' _ h => ⟨.inl (.inl (h.2 _ _ eM2)), .inl (.inl (h.2 _ _ eD2))⟩) ?_ ?_⟩
    · rintro i y H3 H4 hi ⟨e3, s3⟩ ⟨T', x1, z1, rfl, hT, rfl, hx1, hz1⟩
      have s34 : Same H3 (L2.upd H3 T' (.tup [x1, z1])) := same_new hT
      have t4 : SqT K (L2.upd H3 T' (.tup [x1, z1])) T' [x1, z1] := .inl (.inl upd_same)
      generalize L2.upd H3 T' (.tup [x1, z1]) = H4 at s34 t4 ⊢
      have s4 := s3.trans s34
      have key : ∃ (x p' : Addr) (fs : List (Int × Int)), x1 = .ref x ∧ z1 = .ref p' ∧ Stf K H4 C x z fs ∧ RowV K H4 p' z fs ∧ StOk z fs := by
        obtain rfl | rfl | rfl | rfl : i = 0 ∨ i = 1 ∨ i = 2 ∨ i = 3 := by omega
        · have h1 : x1 = .ref x2 := (Option.some.inj (show some (V.ref x2) = some x1 from hx1)).symm
          have h2 : z1 = .ref p104 := (Option.some.inj (show some (V.ref p104) = some z1 from hz1)).symm
          exact ⟨_, _, _, h1, h2, (T_A.same s4), (R_A.same s4), VA.sok⟩
        · have h1 : x1 = .ref x3 := (Option.some.inj (show some (V.ref x3) = some x1 from hx1)).symm
          have h2 : z1 = .ref p110 := (Option.some.inj (show some (V.ref p110) = some z1 from hz1)).symm
          exact ⟨_, _, _, h1, h2, (T_B.same s4), (R_B.same s4), VB.sok⟩
        · have h1 : x1 = .ref x4 := (Option.some.inj (show some (V.ref x4) = some x1 from hx1)).symm
          have h2 : z1 = .ref p114 := (Option.some.inj (show some (V.ref p114) = some z1 from hz1)).symm
          exact ⟨_, _, _, h1, h2, (T_C.same s4), (R_C.same s4), VC.sok⟩
        · have h1 : x1 = .ref x6 := (Option.some.inj (show some (V.ref x6) = some x1 from hx1)).symm
          have h2 : z1 = .ref p116 := (Option.some.inj (show some (V.ref p116) = some z1 from hz1)).symm
          exact ⟨_, _, _, h1, h2, (T_D.same s4), (R_D.same s4), VD.sok⟩
      obtain ⟨x, p', fs, rfl, rfl, Sx, Rx, ok⟩ := key
      refine ⟨T', _, rfl, t4, rfl, _, _, rfl, _, _, rfl, rfl, rfl, _, rfl, _, rfl, x, p', z, fs, rfl, Sx, Rx, ok, fun H5 s5 => ⟨_, s5 _ _ (s34 _ _ e3), ?_, ?_, fun b o e => ?_⟩⟩
      · rw [List.length_replicate, sizeLine_eq]
        omega
      · rw [upd_same, List.replicate_succ']
      · rw [upd_ne (ne_of_none e hD)]
        exact s5 _ _ (s4 _ _ e)
    · rintro H3 ⟨e3, s3⟩
      refine ⟨D, List.replicate 4 true, rfl, .inl (.inl (by rw [e3]; rfl)), ?_⟩
      have s23 := sY.trans s3
      exact k H3 (pot_same P2 s23) (b02.same s23)

/-! ### law -/
abbrev s_law : Stmt := topS 41
theorem sc_law : FnScope ["_law_script", "_law_k", "_law_pot_here"] ["_law_script"] (defScope s_law) := ⟨rfl, rfl, rfl, by decide +kernel, rfl, by decide +kernel, by decide +kernel⟩
def sp_law (K : PySem.W.Frag) : Sp := fun vs H Q _ => ∃ (a : Addr) (ns : List Int), vs = [.ref a] ∧ SqL K H a (ns.map V.int) ∧ ns.length ≤ 63 ∧ ∀ H', Q (.bl true) H'
theorem ok_law {f : Addr} {fd : FuncData} (M : Blt mg) (F : Fun K "law" "law" s_law f fd) (C__law_cell : Cal P w K mg base CX0 1 "_law_cell" ["_law_script", "_law_k"] (sp_cell K)) (C__law_pot : Cal P w K mg base CX0 1 "_law_pot" ["_law_cell_here"] sp_pot) (C__law_right : Cal P w K mg base CX0 12 "_law_right" ["_law_pot_here"] sp_right) (C__law_left_out : Cal P w K mg base CX0 12 "_law_left_out" ["_law_pot_here"] sp_right) : FnG P w K mg base CX0 13 f fd ["_law_script"] (sp_law K) := by
  refine Gfun F sc_law (fun vs H Q E h => ?_) (fun cdv A outer s H vs Q E hg hr h => ?_)
  · obtain ⟨a, ns, rfl, _⟩ := h
    rfl
  · obtain ⟨a, ns, rfl, hS, hl, k⟩ := h
    refine ⟨_, (pss_cons (ps_for PassesOwn.never rfl (pi_range1 rfl M.range (pa_cons (pe_callB (call_max2 rfl) rfl M.max bt_max (pa_cons pe_int (pa_cons (pe_callB (call_min2 rfl) rfl M.min bt_min (pa_cons (pe_callB call_len_seq rfl M.len bt_len (pa_cons (pv 0) pa_nil)) (pa_cons pe_int pa_nil))) pa_nil))) pa_nil)) (pg_name (i := 1) sc_law.nd rfl (.inl rfl))
      (pss_cons (ps_set (i := 2) sc_law.nd rfl (.inl rfl) (pe_g C__law_pot (hr.mono (by decide)) hg (pa_cons (pe_g C__law_cell (hr.mono (by decide)) hg (pa_cons (pv 0) (pa_cons (pv 1) pa_nil))) pa_nil)))
      (pss_one (ps_if (PW.pt (pw_or (pt_not (pt_val (pe_g C__law_right (hr.mono (by decide)) hg (pa_cons (pv 2) pa_nil)))) (pw_or1 (pt_not (pt_val (pe_g C__law_left_out (hr.mono (by decide)) hg (pa_cons (pv 2) pa_nil)))))))
      (pss_one (ps_ret pe_bl))
      pss_nil))))
      (pss_one (ps_ret pe_bl))), ?_⟩
    refine ⟨_, rfl, a, _, rfl, .inl hS, _, _, rfl, _, _, rfl, _, rfl, ?_, ?_, ?_⟩
    · split <;> split <;> omega
    · split <;> split <;> omega
    generalize hN : Int.toNat _ = N
    have hN2 : N ≤ 64 := by
      rw [← hN]
      split <;> split <;> omega
    refine for_range (lo := 0) (n := N) (fun i σ H' => ∃ (y1 y2 : Option V), σ = [some (.ref a), y1, y2] ∧ Same H H') ⟨_, _, rfl, same_rfl⟩ ?_ ?_
    · rintro i σ H1 hi ⟨y1, y2, rfl, s1⟩
      refine ⟨_, rfl, _, rfl, a, ns, i, (by show [V.ref a, V.int (0 + (i : Int))] = _; rw [Int.zero_add]), sm_l s1 hS, by omega, fun c => ?_⟩
      refine ⟨c, rfl, fun x y q y0 yl nq => ?_⟩
      have P2 : Pot (L2.upd H1 q (.lst [.int x, .int y])) q := ⟨x, y, y0, yl, upd_same⟩
      have s2 : Same H1 (L2.upd H1 q (.lst [.int x, .int y])) := same_new nq
      have hq : H1 q = none := nq
      generalize L2.upd H1 q (.lst [.int x, .int y]) = H2 at P2 s2 ⊢
      refine ⟨_, rfl, q, rfl, P2, fun H3 P3 b3 => ⟨_, rfl, iteF ?_⟩⟩
      refine ⟨_, rfl, q, rfl, P3, fun H4 P4 b4 => ⟨_, rfl, iteF ?_⟩⟩
      refine ⟨_, _, rfl, s1.trans fun c o e => ?_⟩
      have nb : c ≠ q := ne_of_none e hq
      exact b4 _ _ nb (b3 _ _ nb (s2 _ _ e))
    · rintro σ H1 ⟨y1, y2, rfl, _⟩
      exact k _

end
end Lf

set_option Elab.async false
set_option linter.all false
set_option maxRecDepth 100000
set_option maxHeartbeats 8000000
namespace Lf
open PySem PySem.Spec PyProof.Rows L2
/-- a def as the top left it, and how its arguments come to it -/
structure Df (K : PySem.W.Frag) (mg : Str → Option Value) (x : Str) (st : Stmt) (ps : List Str) (f : Addr) (fd : FuncData) : Prop where
  fn : Fun K x x st f fd
  g : mg x = some (.ref f)
  b1 : ∀ (s : Shared) (us : List Value), us.length = ps.length → BindsTo s fd ⟨us, []⟩ (ps.zip us)
  b2 : ∀ (s : Shared) (us : List Value), us.length = ps.length → BindsTo s fd ⟨[], ps.zip us⟩ (ps.zip us)
  b3 : ∀ (s : Shared) (us : List Value), us.length = ps.length → BindsTo s fd ⟨[], ps.reverse.zip us⟩ (ps.zip us.reverse)
theorem Df.cal {P : Program} {w : World} {K : PySem.W.Frag} {mg : Str → Option Value} {base : Heap} {CX : CXT} {k : Nat} {x : Str} {st : Stmt} {ps : List Str} {f : Addr} {fd : FuncData} {sp : Sp} (D : Df K mg x st ps f fd) (F : FnG P w K mg base CX k f fd ps sp) : Cal P w K mg base CX k x ps sp :=
  ⟨f, fd, F, D.b1, D.b2, D.b3, D.g, D.fn.kp⟩
/-- nothing keeps the promise of nothing -/
theorem FnG.no {P : Program} {w : World} {K : PySem.W.Frag} {mg : Str → Option Value} {base : Heap} {CX : CXT} {k : Nat} {f : Addr} {fd : FuncData} {ps : List Str} : FnG P w K mg base CX k f fd ps (fun _ _ _ _ => False) :=
  ⟨fun _ _ _ _ h => h.elim, fun _ _ _ _ _ _ _ _ _ _ _ _ _ _ h => h.elim⟩
/-- an error of the class at S is what a clause of S names -/
theorem exm_self {K : PySem.W.Frag} {S : Addr} (h1 : PySem.W.subIn K (.ref S) (.type "BaseException") = some true) (h2 : PySem.W.isClsIn K S = true) (h3 : PySem.W.typeIn K (.ref S) = some (.type "type")) (h4 : PySem.W.subIn K (.ref S) (.ref S) = some true) :
    PySem.W.exmOne K (.ref S) (.ref S) = some true := by
  have e1 : (PySem.W.subIn K (.ref S) (.type "BaseException") == some true) = true := by rw [h1] <;> rfl
  have e2 : ((PySem.W.clsIn K S).isSome && PySem.W.typeIn K (.ref S) == some (.type "type")) = true := by
    have h2' : (PySem.W.clsIn K S).isSome = true := h2
    rw [h2', h3] <;> rfl
  show (if (PySem.W.subIn K (.ref S) (.type "BaseException") == some true) = true then (if ((PySem.W.clsIn K S).isSome && PySem.W.typeIn K (.ref S) == some (.type "type")) = true then PySem.W.subIn K (.ref S) (.ref S) else none) else none) = some true
  rw [if_pos e1, if_pos e2]
  exact h4

theorem df_is_whole {K : PySem.W.Frag} {h : Heap} {mg : Str → Option Value} {f : Addr} {od an : Option Addr} {sl : Array (Option Value)} {oc kV dc pm cd ct : Value} (X : K.In h) (G : h.Ns mainGlobals mg) (a : PySem.W.nsIn K mainGlobals "is_whole" = some (some (.ref f)))
    (l : K.lookup f = some ⟨oc, od, .func (PySem.W.fnOf "is_whole" "is_whole" (defArgs s_is_whole) (defBody s_is_whole) (defScope s_is_whole) .none kV dc pm an cd ct), sl⟩) (c : PySem.W.codeIn K cd "is_whole" = true) (k : PySem.W.keepIn K (.ref f) = true) :
    Df K mg "is_whole" s_is_whole ["thing"] f (PySem.W.fnOf "is_whole" "is_whole" (defArgs s_is_whole) (defBody s_is_whole) (defScope s_is_whole) .none kV dc pm an cd ct) :=
  ⟨fun_mk l c k, PySem.W.mg_of X G a, fun s us hl => .of_eq (match us, hl with | [_], _ => rfl), fun s us hl => .of_eq (match us, hl with | [_], _ => rfl), fun s us hl => .of_eq (match us, hl with | [_], _ => rfl)⟩

theorem df_common {K : PySem.W.Frag} {h : Heap} {mg : Str → Option Value} {f : Addr} {od an : Option Addr} {sl : Array (Option Value)} {oc kV dc pm cd ct : Value} (X : K.In h) (G : h.Ns mainGlobals mg) (a : PySem.W.nsIn K mainGlobals "common" = some (some (.ref f)))
    (l : K.lookup f = some ⟨oc, od, .func (PySem.W.fnOf "common" "common" (defArgs sCom) (defBody sCom) (defScope sCom) .none kV dc pm an cd ct), sl⟩) (c : PySem.W.codeIn K cd "common" = true) (k : PySem.W.keepIn K (.ref f) = true) :
    Df K mg "common" sCom ["one", "other"] f (PySem.W.fnOf "common" "common" (defArgs sCom) (defBody sCom) (defScope sCom) .none kV dc pm an cd ct) :=
  ⟨fun_mk l c k, PySem.W.mg_of X G a, fun s us hl => .of_eq (match us, hl with | [_, _], _ => rfl), fun s us hl => .of_eq (match us, hl with | [_, _], _ => rfl), fun s us hl => .of_eq (match us, hl with | [_, _], _ => rfl)⟩

theorem df_fraction {K : PySem.W.Frag} {h : Heap} {mg : Str → Option Value} {f : Addr} {od an : Option Addr} {sl : Array (Option Value)} {oc kV dc pm cd ct : Value} (X : K.In h) (G : h.Ns mainGlobals mg) (a : PySem.W.nsIn K mainGlobals "fraction" = some (some (.ref f)))
    (l : K.lookup f = some ⟨oc, od, .func (PySem.W.fnOf "fraction" "fraction" (defArgs sFrac) (defBody sFrac) (defScope sFrac) .none kV dc pm an cd ct), sl⟩) (c : PySem.W.codeIn K cd "fraction" = true) (k : PySem.W.keepIn K (.ref f) = true) :
    Df K mg "fraction" sFrac ["top", "bottom"] f (PySem.W.fnOf "fraction" "fraction" (defArgs sFrac) (defBody sFrac) (defScope sFrac) .none kV dc pm an cd ct) :=
  ⟨fun_mk l c k, PySem.W.mg_of X G a, fun s us hl => .of_eq (match us, hl with | [_, _], _ => rfl), fun s us hl => .of_eq (match us, hl with | [_, _], _ => rfl), fun s us hl => .of_eq (match us, hl with | [_, _], _ => rfl)⟩

theorem df_plus {K : PySem.W.Frag} {h : Heap} {mg : Str → Option Value} {f : Addr} {od an : Option Addr} {sl : Array (Option Value)} {oc kV dc pm cd ct : Value} (X : K.In h) (G : h.Ns mainGlobals mg) (a : PySem.W.nsIn K mainGlobals "plus" = some (some (.ref f)))
    (l : K.lookup f = some ⟨oc, od, .func (PySem.W.fnOf "plus" "plus" (defArgs s_plus) (defBody s_plus) (defScope s_plus) .none kV dc pm an cd ct), sl⟩) (c : PySem.W.codeIn K cd "plus" = true) (k : PySem.W.keepIn K (.ref f) = true) :
    Df K mg "plus" s_plus ["one", "other"] f (PySem.W.fnOf "plus" "plus" (defArgs s_plus) (defBody s_plus) (defScope s_plus) .none kV dc pm an cd ct) :=
  ⟨fun_mk l c k, PySem.W.mg_of X G a, fun s us hl => .of_eq (match us, hl with | [_, _], _ => rfl), fun s us hl => .of_eq (match us, hl with | [_, _], _ => rfl), fun s us hl => .of_eq (match us, hl with | [_, _], _ => rfl)⟩

theorem df_together {K : PySem.W.Frag} {h : Heap} {mg : Str → Option Value} {f : Addr} {od an : Option Addr} {sl : Array (Option Value)} {oc kV dc pm cd ct : Value} (X : K.In h) (G : h.Ns mainGlobals mg) (a : PySem.W.nsIn K mainGlobals "together" = some (some (.ref f)))
    (l : K.lookup f = some ⟨oc, od, .func (PySem.W.fnOf "together" "together" (defArgs s_together) (defBody s_together) (defScope s_together) .none kV dc pm an cd ct), sl⟩) (c : PySem.W.codeIn K cd "together" = true) (k : PySem.W.keepIn K (.ref f) = true) :
    Df K mg "together" s_together ["ones"] f (PySem.W.fnOf "together" "together" (defArgs s_together) (defBody s_together) (defScope s_together) .none kV dc pm an cd ct) :=
  ⟨fun_mk l c k, PySem.W.mg_of X G a, fun s us hl => .of_eq (match us, hl with | [_], _ => rfl), fun s us hl => .of_eq (match us, hl with | [_], _ => rfl), fun s us hl => .of_eq (match us, hl with | [_], _ => rfl)⟩

theorem df_is_less {K : PySem.W.Frag} {h : Heap} {mg : Str → Option Value} {f : Addr} {od an : Option Addr} {sl : Array (Option Value)} {oc kV dc pm cd ct : Value} (X : K.In h) (G : h.Ns mainGlobals mg) (a : PySem.W.nsIn K mainGlobals "is_less" = some (some (.ref f)))
    (l : K.lookup f = some ⟨oc, od, .func (PySem.W.fnOf "is_less" "is_less" (defArgs s_is_less) (defBody s_is_less) (defScope s_is_less) .none kV dc pm an cd ct), sl⟩) (c : PySem.W.codeIn K cd "is_less" = true) (k : PySem.W.keepIn K (.ref f) = true) :
    Df K mg "is_less" s_is_less ["one", "other"] f (PySem.W.fnOf "is_less" "is_less" (defArgs s_is_less) (defBody s_is_less) (defScope s_is_less) .none kV dc pm an cd ct) :=
  ⟨fun_mk l c k, PySem.W.mg_of X G a, fun s us hl => .of_eq (match us, hl with | [_, _], _ => rfl), fun s us hl => .of_eq (match us, hl with | [_, _], _ => rfl), fun s us hl => .of_eq (match us, hl with | [_, _], _ => rfl)⟩

theorem df_is_fraction {K : PySem.W.Frag} {h : Heap} {mg : Str → Option Value} {f : Addr} {od an : Option Addr} {sl : Array (Option Value)} {oc kV dc pm cd ct : Value} (X : K.In h) (G : h.Ns mainGlobals mg) (a : PySem.W.nsIn K mainGlobals "is_fraction" = some (some (.ref f)))
    (l : K.lookup f = some ⟨oc, od, .func (PySem.W.fnOf "is_fraction" "is_fraction" (defArgs s_is_fraction) (defBody s_is_fraction) (defScope s_is_fraction) .none kV dc pm an cd ct), sl⟩) (c : PySem.W.codeIn K cd "is_fraction" = true) (k : PySem.W.keepIn K (.ref f) = true) :
    Df K mg "is_fraction" s_is_fraction ["thing"] f (PySem.W.fnOf "is_fraction" "is_fraction" (defArgs s_is_fraction) (defBody s_is_fraction) (defScope s_is_fraction) .none kV dc pm an cd ct) :=
  ⟨fun_mk l c k, PySem.W.mg_of X G a, fun s us hl => .of_eq (match us, hl with | [_], _ => rfl), fun s us hl => .of_eq (match us, hl with | [_], _ => rfl), fun s us hl => .of_eq (match us, hl with | [_], _ => rfl)⟩

theorem df_is_name {K : PySem.W.Frag} {h : Heap} {mg : Str → Option Value} {f : Addr} {od an : Option Addr} {sl : Array (Option Value)} {oc kV dc pm cd ct : Value} (X : K.In h) (G : h.Ns mainGlobals mg) (a : PySem.W.nsIn K mainGlobals "is_name" = some (some (.ref f)))
    (l : K.lookup f = some ⟨oc, od, .func (PySem.W.fnOf "is_name" "is_name" (defArgs s_is_name) (defBody s_is_name) (defScope s_is_name) .none kV dc pm an cd ct), sl⟩) (c : PySem.W.codeIn K cd "is_name" = true) (k : PySem.W.keepIn K (.ref f) = true) :
    Df K mg "is_name" s_is_name ["thing"] f (PySem.W.fnOf "is_name" "is_name" (defArgs s_is_name) (defBody s_is_name) (defScope s_is_name) .none kV dc pm an cd ct) :=
  ⟨fun_mk l c k, PySem.W.mg_of X G a, fun s us hl => .of_eq (match us, hl with | [_], _ => rfl), fun s us hl => .of_eq (match us, hl with | [_], _ => rfl), fun s us hl => .of_eq (match us, hl with | [_], _ => rfl)⟩

theorem df_is_one_of {K : PySem.W.Frag} {h : Heap} {mg : Str → Option Value} {f : Addr} {od an : Option Addr} {sl : Array (Option Value)} {oc kV dc pm cd ct : Value} (X : K.In h) (G : h.Ns mainGlobals mg) (a : PySem.W.nsIn K mainGlobals "is_one_of" = some (some (.ref f)))
    (l : K.lookup f = some ⟨oc, od, .func (PySem.W.fnOf "is_one_of" "is_one_of" (defArgs s_is_one_of) (defBody s_is_one_of) (defScope s_is_one_of) .none kV dc pm an cd ct), sl⟩) (c : PySem.W.codeIn K cd "is_one_of" = true) (k : PySem.W.keepIn K (.ref f) = true) :
    Df K mg "is_one_of" s_is_one_of ["thing", "names"] f (PySem.W.fnOf "is_one_of" "is_one_of" (defArgs s_is_one_of) (defBody s_is_one_of) (defScope s_is_one_of) .none kV dc pm an cd ct) :=
  ⟨fun_mk l c k, PySem.W.mg_of X G a, fun s us hl => .of_eq (match us, hl with | [_, _], _ => rfl), fun s us hl => .of_eq (match us, hl with | [_, _], _ => rfl), fun s us hl => .of_eq (match us, hl with | [_, _], _ => rfl)⟩

theorem df_measure_or_none_of_it {K : PySem.W.Frag} {h : Heap} {mg : Str → Option Value} {f : Addr} {od an : Option Addr} {sl : Array (Option Value)} {oc kV dc pm cd ct : Value} (X : K.In h) (G : h.Ns mainGlobals mg) (a : PySem.W.nsIn K mainGlobals "measure_or_none_of_it" = some (some (.ref f)))
    (l : K.lookup f = some ⟨oc, od, .func (PySem.W.fnOf "measure_or_none_of_it" "measure_or_none_of_it" (defArgs s_measure_or_none_of_it) (defBody s_measure_or_none_of_it) (defScope s_measure_or_none_of_it) .none kV dc pm an cd ct), sl⟩) (c : PySem.W.codeIn K cd "measure_or_none_of_it" = true) (k : PySem.W.keepIn K (.ref f) = true) :
    Df K mg "measure_or_none_of_it" s_measure_or_none_of_it ["measure"] f (PySem.W.fnOf "measure_or_none_of_it" "measure_or_none_of_it" (defArgs s_measure_or_none_of_it) (defBody s_measure_or_none_of_it) (defScope s_measure_or_none_of_it) .none kV dc pm an cd ct) :=
  ⟨fun_mk l c k, PySem.W.mg_of X G a, fun s us hl => .of_eq (match us, hl with | [_], _ => rfl), fun s us hl => .of_eq (match us, hl with | [_], _ => rfl), fun s us hl => .of_eq (match us, hl with | [_], _ => rfl)⟩

theorem df_is_measure {K : PySem.W.Frag} {h : Heap} {mg : Str → Option Value} {f : Addr} {od an : Option Addr} {sl : Array (Option Value)} {oc kV dc pm cd ct : Value} (X : K.In h) (G : h.Ns mainGlobals mg) (a : PySem.W.nsIn K mainGlobals "is_measure" = some (some (.ref f)))
    (l : K.lookup f = some ⟨oc, od, .func (PySem.W.fnOf "is_measure" "is_measure" (defArgs s_is_measure) (defBody s_is_measure) (defScope s_is_measure) .none kV dc pm an cd ct), sl⟩) (c : PySem.W.codeIn K cd "is_measure" = true) (k : PySem.W.keepIn K (.ref f) = true) :
    Df K mg "is_measure" s_is_measure ["thing"] f (PySem.W.fnOf "is_measure" "is_measure" (defArgs s_is_measure) (defBody s_is_measure) (defScope s_is_measure) .none kV dc pm an cd ct) :=
  ⟨fun_mk l c k, PySem.W.mg_of X G a, fun s us hl => .of_eq (match us, hl with | [_], _ => rfl), fun s us hl => .of_eq (match us, hl with | [_], _ => rfl), fun s us hl => .of_eq (match us, hl with | [_], _ => rfl)⟩

theorem df_are_too_much {K : PySem.W.Frag} {h : Heap} {mg : Str → Option Value} {f : Addr} {od an : Option Addr} {sl : Array (Option Value)} {oc kV dc pm cd ct : Value} (X : K.In h) (G : h.Ns mainGlobals mg) (a : PySem.W.nsIn K mainGlobals "are_too_much" = some (some (.ref f)))
    (l : K.lookup f = some ⟨oc, od, .func (PySem.W.fnOf "are_too_much" "are_too_much" (defArgs s_are_too_much) (defBody s_are_too_much) (defScope s_are_too_much) .none kV dc pm an cd ct), sl⟩) (c : PySem.W.codeIn K cd "are_too_much" = true) (k : PySem.W.keepIn K (.ref f) = true) :
    Df K mg "are_too_much" s_are_too_much ["flour", "water", "salt"] f (PySem.W.fnOf "are_too_much" "are_too_much" (defArgs s_are_too_much) (defBody s_are_too_much) (defScope s_are_too_much) .none kV dc pm an cd ct) :=
  ⟨fun_mk l c k, PySem.W.mg_of X G a, fun s us hl => .of_eq (match us, hl with | [_, _, _], _ => rfl), fun s us hl => .of_eq (match us, hl with | [_, _, _], _ => rfl), fun s us hl => .of_eq (match us, hl with | [_, _, _], _ => rfl)⟩

theorem df_first_wrong {K : PySem.W.Frag} {h : Heap} {mg : Str → Option Value} {f : Addr} {od an : Option Addr} {sl : Array (Option Value)} {oc kV dc pm cd ct : Value} (X : K.In h) (G : h.Ns mainGlobals mg) (a : PySem.W.nsIn K mainGlobals "first_wrong" = some (some (.ref f)))
    (l : K.lookup f = some ⟨oc, od, .func (PySem.W.fnOf "first_wrong" "first_wrong" (defArgs s_first_wrong) (defBody s_first_wrong) (defScope s_first_wrong) .none kV dc pm an cd ct), sl⟩) (c : PySem.W.codeIn K cd "first_wrong" = true) (k : PySem.W.keepIn K (.ref f) = true) :
    Df K mg "first_wrong" s_first_wrong ["name", "measures"] f (PySem.W.fnOf "first_wrong" "first_wrong" (defArgs s_first_wrong) (defBody s_first_wrong) (defScope s_first_wrong) .none kV dc pm an cd ct) :=
  ⟨fun_mk l c k, PySem.W.mg_of X G a, fun s us hl => .of_eq (match us, hl with | [_, _], _ => rfl), fun s us hl => .of_eq (match us, hl with | [_, _], _ => rfl), fun s us hl => .of_eq (match us, hl with | [_, _], _ => rfl)⟩

theorem df__law_cell {K : PySem.W.Frag} {h : Heap} {mg : Str → Option Value} {f : Addr} {od an : Option Addr} {sl : Array (Option Value)} {oc kV dc pm cd ct : Value} (X : K.In h) (G : h.Ns mainGlobals mg) (a : PySem.W.nsIn K mainGlobals "_law_cell" = some (some (.ref f)))
    (l : K.lookup f = some ⟨oc, od, .func (PySem.W.fnOf "_law_cell" "_law_cell" (defArgs s__law_cell) (defBody s__law_cell) (defScope s__law_cell) .none kV dc pm an cd ct), sl⟩) (c : PySem.W.codeIn K cd "_law_cell" = true) (k : PySem.W.keepIn K (.ref f) = true) :
    Df K mg "_law_cell" s__law_cell ["_law_script", "_law_k"] f (PySem.W.fnOf "_law_cell" "_law_cell" (defArgs s__law_cell) (defBody s__law_cell) (defScope s__law_cell) .none kV dc pm an cd ct) :=
  ⟨fun_mk l c k, PySem.W.mg_of X G a, fun s us hl => .of_eq (match us, hl with | [_, _], _ => rfl), fun s us hl => .of_eq (match us, hl with | [_, _], _ => rfl), fun s us hl => .of_eq (match us, hl with | [_, _], _ => rfl)⟩

theorem df__law_pot {K : PySem.W.Frag} {h : Heap} {mg : Str → Option Value} {f : Addr} {od an : Option Addr} {sl : Array (Option Value)} {oc kV dc pm cd ct : Value} (X : K.In h) (G : h.Ns mainGlobals mg) (a : PySem.W.nsIn K mainGlobals "_law_pot" = some (some (.ref f)))
    (l : K.lookup f = some ⟨oc, od, .func (PySem.W.fnOf "_law_pot" "_law_pot" (defArgs s__law_pot) (defBody s__law_pot) (defScope s__law_pot) .none kV dc pm an cd ct), sl⟩) (c : PySem.W.codeIn K cd "_law_pot" = true) (k : PySem.W.keepIn K (.ref f) = true) :
    Df K mg "_law_pot" s__law_pot ["_law_cell_here"] f (PySem.W.fnOf "_law_pot" "_law_pot" (defArgs s__law_pot) (defBody s__law_pot) (defScope s__law_pot) .none kV dc pm an cd ct) :=
  ⟨fun_mk l c k, PySem.W.mg_of X G a, fun s us hl => .of_eq (match us, hl with | [_], _ => rfl), fun s us hl => .of_eq (match us, hl with | [_], _ => rfl), fun s us hl => .of_eq (match us, hl with | [_], _ => rfl)⟩

theorem df__law_draw {K : PySem.W.Frag} {h : Heap} {mg : Str → Option Value} {f : Addr} {od an : Option Addr} {sl : Array (Option Value)} {oc kV dc pm cd ct : Value} (X : K.In h) (G : h.Ns mainGlobals mg) (a : PySem.W.nsIn K mainGlobals "_law_draw" = some (some (.ref f)))
    (l : K.lookup f = some ⟨oc, od, .func (PySem.W.fnOf "_law_draw" "_law_draw" (defArgs s__law_draw) (defBody s__law_draw) (defScope s__law_draw) .none kV dc pm an cd ct), sl⟩) (c : PySem.W.codeIn K cd "_law_draw" = true) (k : PySem.W.keepIn K (.ref f) = true) :
    Df K mg "_law_draw" s__law_draw ["_law_pot_here", "_law_many"] f (PySem.W.fnOf "_law_draw" "_law_draw" (defArgs s__law_draw) (defBody s__law_draw) (defScope s__law_draw) .none kV dc pm an cd ct) :=
  ⟨fun_mk l c k, PySem.W.mg_of X G a, fun s us hl => .of_eq (match us, hl with | [_, _], _ => rfl), fun s us hl => .of_eq (match us, hl with | [_, _], _ => rfl), fun s us hl => .of_eq (match us, hl with | [_, _], _ => rfl)⟩

theorem df__law_low {K : PySem.W.Frag} {h : Heap} {mg : Str → Option Value} {f : Addr} {od an : Option Addr} {sl : Array (Option Value)} {oc kV dc pm cd ct : Value} (X : K.In h) (G : h.Ns mainGlobals mg) (a : PySem.W.nsIn K mainGlobals "_law_low" = some (some (.ref f)))
    (l : K.lookup f = some ⟨oc, od, .func (PySem.W.fnOf "_law_low" "_law_low" (defArgs s__law_low) (defBody s__law_low) (defScope s__law_low) .none kV dc pm an cd ct), sl⟩) (c : PySem.W.codeIn K cd "_law_low" = true) (k : PySem.W.keepIn K (.ref f) = true) :
    Df K mg "_law_low" s__law_low ["_law_top", "_law_bottom"] f (PySem.W.fnOf "_law_low" "_law_low" (defArgs s__law_low) (defBody s__law_low) (defScope s__law_low) .none kV dc pm an cd ct) :=
  ⟨fun_mk l c k, PySem.W.mg_of X G a, fun s us hl => .of_eq (match us, hl with | [_, _], _ => rfl), fun s us hl => .of_eq (match us, hl with | [_, _], _ => rfl), fun s us hl => .of_eq (match us, hl with | [_, _], _ => rfl)⟩

theorem df__law_name {K : PySem.W.Frag} {h : Heap} {mg : Str → Option Value} {f : Addr} {od an : Option Addr} {sl : Array (Option Value)} {oc kV dc pm cd ct : Value} (X : K.In h) (G : h.Ns mainGlobals mg) (a : PySem.W.nsIn K mainGlobals "_law_name" = some (some (.ref f)))
    (l : K.lookup f = some ⟨oc, od, .func (PySem.W.fnOf "_law_name" "_law_name" (defArgs s__law_name) (defBody s__law_name) (defScope s__law_name) .none kV dc pm an cd ct), sl⟩) (c : PySem.W.codeIn K cd "_law_name" = true) (k : PySem.W.keepIn K (.ref f) = true) :
    Df K mg "_law_name" s__law_name ["_law_pot_here", "_law_taken"] f (PySem.W.fnOf "_law_name" "_law_name" (defArgs s__law_name) (defBody s__law_name) (defScope s__law_name) .none kV dc pm an cd ct) :=
  ⟨fun_mk l c k, PySem.W.mg_of X G a, fun s us hl => .of_eq (match us, hl with | [_, _], _ => rfl), fun s us hl => .of_eq (match us, hl with | [_, _], _ => rfl), fun s us hl => .of_eq (match us, hl with | [_, _], _ => rfl)⟩

theorem df__law_some {K : PySem.W.Frag} {h : Heap} {mg : Str → Option Value} {f : Addr} {od an : Option Addr} {sl : Array (Option Value)} {oc kV dc pm cd ct : Value} (X : K.In h) (G : h.Ns mainGlobals mg) (a : PySem.W.nsIn K mainGlobals "_law_some" = some (some (.ref f)))
    (l : K.lookup f = some ⟨oc, od, .func (PySem.W.fnOf "_law_some" "_law_some" (defArgs s__law_some) (defBody s__law_some) (defScope s__law_some) .none kV dc pm an cd ct), sl⟩) (c : PySem.W.codeIn K cd "_law_some" = true) (k : PySem.W.keepIn K (.ref f) = true) :
    Df K mg "_law_some" s__law_some ["_law_pot_here", "_law_least", "_law_most"] f (PySem.W.fnOf "_law_some" "_law_some" (defArgs s__law_some) (defBody s__law_some) (defScope s__law_some) .none kV dc pm an cd ct) :=
  ⟨fun_mk l c k, PySem.W.mg_of X G a, fun s us hl => .of_eq (match us, hl with | [_, _, _], _ => rfl), fun s us hl => .of_eq (match us, hl with | [_, _, _], _ => rfl), fun s us hl => .of_eq (match us, hl with | [_, _, _], _ => rfl)⟩

theorem df__law_stuff {K : PySem.W.Frag} {h : Heap} {mg : Str → Option Value} {f : Addr} {od an : Option Addr} {sl : Array (Option Value)} {oc kV dc pm cd ct : Value} (X : K.In h) (G : h.Ns mainGlobals mg) (a : PySem.W.nsIn K mainGlobals "_law_stuff" = some (some (.ref f)))
    (l : K.lookup f = some ⟨oc, od, .func (PySem.W.fnOf "_law_stuff" "_law_stuff" (defArgs s__law_stuff) (defBody s__law_stuff) (defScope s__law_stuff) .none kV dc pm an cd ct), sl⟩) (c : PySem.W.codeIn K cd "_law_stuff" = true) (k : PySem.W.keepIn K (.ref f) = true) :
    Df K mg "_law_stuff" s__law_stuff ["_law_pot_here", "_law_text"] f (PySem.W.fnOf "_law_stuff" "_law_stuff" (defArgs s__law_stuff) (defBody s__law_stuff) (defScope s__law_stuff) .none kV dc pm an cd ct) :=
  ⟨fun_mk l c k, PySem.W.mg_of X G a, fun s us hl => .of_eq (match us, hl with | [_, _], _ => rfl), fun s us hl => .of_eq (match us, hl with | [_, _], _ => rfl), fun s us hl => .of_eq (match us, hl with | [_, _], _ => rfl)⟩

theorem df__law_none {K : PySem.W.Frag} {h : Heap} {mg : Str → Option Value} {f : Addr} {od an : Option Addr} {sl : Array (Option Value)} {oc kV dc pm cd ct : Value} (X : K.In h) (G : h.Ns mainGlobals mg) (a : PySem.W.nsIn K mainGlobals "_law_none" = some (some (.ref f)))
    (l : K.lookup f = some ⟨oc, od, .func (PySem.W.fnOf "_law_none" "_law_none" (defArgs s__law_none) (defBody s__law_none) (defScope s__law_none) .none kV dc pm an cd ct), sl⟩) (c : PySem.W.codeIn K cd "_law_none" = true) (k : PySem.W.keepIn K (.ref f) = true) :
    Df K mg "_law_none" s__law_none ["_law_one"] f (PySem.W.fnOf "_law_none" "_law_none" (defArgs s__law_none) (defBody s__law_none) (defScope s__law_none) .none kV dc pm an cd ct) :=
  ⟨fun_mk l c k, PySem.W.mg_of X G a, fun s us hl => .of_eq (match us, hl with | [_], _ => rfl), fun s us hl => .of_eq (match us, hl with | [_], _ => rfl), fun s us hl => .of_eq (match us, hl with | [_], _ => rfl)⟩

theorem df__law_made {K : PySem.W.Frag} {h : Heap} {mg : Str → Option Value} {f : Addr} {od an : Option Addr} {sl : Array (Option Value)} {oc kV dc pm cd ct : Value} (X : K.In h) (G : h.Ns mainGlobals mg) (a : PySem.W.nsIn K mainGlobals "_law_made" = some (some (.ref f)))
    (l : K.lookup f = some ⟨oc, od, .func (PySem.W.fnOf "_law_made" "_law_made" (defArgs s__law_made) (defBody s__law_made) (defScope s__law_made) .none kV dc pm an cd ct), sl⟩) (c : PySem.W.codeIn K cd "_law_made" = true) (k : PySem.W.keepIn K (.ref f) = true) :
    Df K mg "_law_made" s__law_made ["_law_row"] f (PySem.W.fnOf "_law_made" "_law_made" (defArgs s__law_made) (defBody s__law_made) (defScope s__law_made) .none kV dc pm an cd ct) :=
  ⟨fun_mk l c k, PySem.W.mg_of X G a, fun s us hl => .of_eq (match us, hl with | [_], _ => rfl), fun s us hl => .of_eq (match us, hl with | [_], _ => rfl), fun s us hl => .of_eq (match us, hl with | [_], _ => rfl)⟩

theorem df__law_told {K : PySem.W.Frag} {h : Heap} {mg : Str → Option Value} {f : Addr} {od an : Option Addr} {sl : Array (Option Value)} {oc kV dc pm cd ct : Value} (X : K.In h) (G : h.Ns mainGlobals mg) (a : PySem.W.nsIn K mainGlobals "_law_told" = some (some (.ref f)))
    (l : K.lookup f = some ⟨oc, od, .func (PySem.W.fnOf "_law_told" "_law_told" (defArgs s__law_told) (defBody s__law_told) (defScope s__law_told) .none kV dc pm an cd ct), sl⟩) (c : PySem.W.codeIn K cd "_law_told" = true) (k : PySem.W.keepIn K (.ref f) = true) :
    Df K mg "_law_told" s__law_told ["_law_stuff_here"] f (PySem.W.fnOf "_law_told" "_law_told" (defArgs s__law_told) (defBody s__law_told) (defScope s__law_told) .none kV dc pm an cd ct) :=
  ⟨fun_mk l c k, PySem.W.mg_of X G a, fun s us hl => .of_eq (match us, hl with | [_], _ => rfl), fun s us hl => .of_eq (match us, hl with | [_], _ => rfl), fun s us hl => .of_eq (match us, hl with | [_], _ => rfl)⟩

theorem df__law_is_right {K : PySem.W.Frag} {h : Heap} {mg : Str → Option Value} {f : Addr} {od an : Option Addr} {sl : Array (Option Value)} {oc kV dc pm cd ct : Value} (X : K.In h) (G : h.Ns mainGlobals mg) (a : PySem.W.nsIn K mainGlobals "_law_is_right" = some (some (.ref f)))
    (l : K.lookup f = some ⟨oc, od, .func (PySem.W.fnOf "_law_is_right" "_law_is_right" (defArgs s__law_is_right) (defBody s__law_is_right) (defScope s__law_is_right) .none kV dc pm an cd ct), sl⟩) (c : PySem.W.codeIn K cd "_law_is_right" = true) (k : PySem.W.keepIn K (.ref f) = true) :
    Df K mg "_law_is_right" s__law_is_right ["_law_stuff_here", "_law_row"] f (PySem.W.fnOf "_law_is_right" "_law_is_right" (defArgs s__law_is_right) (defBody s__law_is_right) (defScope s__law_is_right) .none kV dc pm an cd ct) :=
  ⟨fun_mk l c k, PySem.W.mg_of X G a, fun s us hl => .of_eq (match us, hl with | [_, _], _ => rfl), fun s us hl => .of_eq (match us, hl with | [_, _], _ => rfl), fun s us hl => .of_eq (match us, hl with | [_, _], _ => rfl)⟩

theorem df__law_other {K : PySem.W.Frag} {h : Heap} {mg : Str → Option Value} {f : Addr} {od an : Option Addr} {sl : Array (Option Value)} {oc kV dc pm cd ct : Value} (X : K.In h) (G : h.Ns mainGlobals mg) (a : PySem.W.nsIn K mainGlobals "_law_other" = some (some (.ref f)))
    (l : K.lookup f = some ⟨oc, od, .func (PySem.W.fnOf "_law_other" "_law_other" (defArgs s__law_other) (defBody s__law_other) (defScope s__law_other) .none kV dc pm an cd ct), sl⟩) (c : PySem.W.codeIn K cd "_law_other" = true) (k : PySem.W.keepIn K (.ref f) = true) :
    Df K mg "_law_other" s__law_other ["_law_pot_here", "_law_row"] f (PySem.W.fnOf "_law_other" "_law_other" (defArgs s__law_other) (defBody s__law_other) (defScope s__law_other) .none kV dc pm an cd ct) :=
  ⟨fun_mk l c k, PySem.W.mg_of X G a, fun s us hl => .of_eq (match us, hl with | [_, _], _ => rfl), fun s us hl => .of_eq (match us, hl with | [_, _], _ => rfl), fun s us hl => .of_eq (match us, hl with | [_, _], _ => rfl)⟩

theorem df__law_right {K : PySem.W.Frag} {h : Heap} {mg : Str → Option Value} {f : Addr} {od an : Option Addr} {sl : Array (Option Value)} {oc kV dc pm cd ct : Value} (X : K.In h) (G : h.Ns mainGlobals mg) (a : PySem.W.nsIn K mainGlobals "_law_right" = some (some (.ref f)))
    (l : K.lookup f = some ⟨oc, od, .func (PySem.W.fnOf "_law_right" "_law_right" (defArgs s__law_right) (defBody s__law_right) (defScope s__law_right) .none kV dc pm an cd ct), sl⟩) (c : PySem.W.codeIn K cd "_law_right" = true) (k : PySem.W.keepIn K (.ref f) = true) :
    Df K mg "_law_right" s__law_right ["_law_pot_here"] f (PySem.W.fnOf "_law_right" "_law_right" (defArgs s__law_right) (defBody s__law_right) (defScope s__law_right) .none kV dc pm an cd ct) :=
  ⟨fun_mk l c k, PySem.W.mg_of X G a, fun s us hl => .of_eq (match us, hl with | [_], _ => rfl), fun s us hl => .of_eq (match us, hl with | [_], _ => rfl), fun s us hl => .of_eq (match us, hl with | [_], _ => rfl)⟩

theorem df__law_left_out {K : PySem.W.Frag} {h : Heap} {mg : Str → Option Value} {f : Addr} {od an : Option Addr} {sl : Array (Option Value)} {oc kV dc pm cd ct : Value} (X : K.In h) (G : h.Ns mainGlobals mg) (a : PySem.W.nsIn K mainGlobals "_law_left_out" = some (some (.ref f)))
    (l : K.lookup f = some ⟨oc, od, .func (PySem.W.fnOf "_law_left_out" "_law_left_out" (defArgs s__law_left_out) (defBody s__law_left_out) (defScope s__law_left_out) .none kV dc pm an cd ct), sl⟩) (c : PySem.W.codeIn K cd "_law_left_out" = true) (k : PySem.W.keepIn K (.ref f) = true) :
    Df K mg "_law_left_out" s__law_left_out ["_law_pot_here"] f (PySem.W.fnOf "_law_left_out" "_law_left_out" (defArgs s__law_left_out) (defBody s__law_left_out) (defScope s__law_left_out) .none kV dc pm an cd ct) :=
  ⟨fun_mk l c k, PySem.W.mg_of X G a, fun s us hl => .of_eq (match us, hl with | [_], _ => rfl), fun s us hl => .of_eq (match us, hl with | [_], _ => rfl), fun s us hl => .of_eq (match us, hl with | [_], _ => rfl)⟩

theorem df_law {K : PySem.W.Frag} {h : Heap} {mg : Str → Option Value} {f : Addr} {od an : Option Addr} {sl : Array (Option Value)} {oc kV dc pm cd ct : Value} (X : K.In h) (G : h.Ns mainGlobals mg) (a : PySem.W.nsIn K mainGlobals "law" = some (some (.ref f)))
    (l : K.lookup f = some ⟨oc, od, .func (PySem.W.fnOf "law" "law" (defArgs s_law) (defBody s_law) (defScope s_law) .none kV dc pm an cd ct), sl⟩) (c : PySem.W.codeIn K cd "law" = true) (k : PySem.W.keepIn K (.ref f) = true) :
    Df K mg "law" s_law ["_law_script"] f (PySem.W.fnOf "law" "law" (defArgs s_law) (defBody s_law) (defScope s_law) .none kV dc pm an cd ct) :=
  ⟨fun_mk l c k, PySem.W.mg_of X G a, fun s us hl => .of_eq (match us, hl with | [_], _ => rfl), fun s us hl => .of_eq (match us, hl with | [_], _ => rfl), fun s us hl => .of_eq (match us, hl with | [_], _ => rfl)⟩

theorem all_mk {l : PySem.W.OpenLaw} {w : World} {K : PySem.W.Frag} {h : Heap} {mg : Str → Option Value} {fa C f0 f1 f2 f3 f4 f5 f6 f7 f8 f9 f10 f11 f12 f13 f14 f15 f16 f17 f18 f19 f20 f21 f22 f23 f24 f25 f26 f27 : Addr} {t_LETTERS : Tok} {t_LONGEST_NAME : Tok}  (X : K.In h) (G : h.Ns mainGlobals mg) (hfa : mg "law" = some (.ref fa)) {D fI cc cda CS fS TS kc0 kc1 kcw : Addr} {nm q : Str} {NN : Addr} {bs bm : List Value} {sn : List Str} {sub : List Value} {ab : Bool} {col : Option Bool} {dd : Option Addr} {m0 m1 m2 m3 m5 : Option Value}
    {ocI kVI dcI pmI ctI ccl cl ocS kVS dcS pmS cdS ctS tc : Value} {odI anI cdd cld odS anS td d0 d1 : Option Addr} {slI ccs csl slS tsl s0 s1 sw : Array (Option Value)} {vsA : Array Value} {file : Str} {tf t00 t01 t10 t11 tw0 tw1 tw2 tw3 tw4 : Tok} {nT n0 n1 nw_ : Nat} {f_mname : Addr} {od_mname an_mname : Option Addr} {sl_mname : Array (Option Value)} {oc_mname kV_mname dc_mname pm_mname cd_mname ct_mname : Value} {f_measure : Addr} {od_measure an_measure : Option Addr} {sl_measure : Array (Option Value)} {oc_measure kV_measure dc_measure pm_measure cd_measure ct_measure : Value} {f_m_flour : Addr} {od_m_flour an_m_flour : Option Addr} {sl_m_flour : Array (Option Value)} {oc_m_flour kV_m_flour dc_m_flour pm_m_flour cd_m_flour ct_m_flour : Value} {f_m_water : Addr} {od_m_water an_m_water : Option Addr} {sl_m_water : Array (Option Value)} {oc_m_water kV_m_water dc_m_water pm_m_water cd_m_water ct_m_water : Value} {f_m_salt : Addr} {od_m_salt an_m_salt : Option Addr} {sl_m_salt : Array (Option Value)} {oc_m_salt kV_m_salt dc_m_salt pm_m_salt cd_m_salt ct_m_salt : Value} {f_m_thirst : Addr} {od_m_thirst an_m_thirst : Option Addr} {sl_m_thirst : Array (Option Value)} {oc_m_thirst kV_m_thirst dc_m_thirst pm_m_thirst cd_m_thirst ct_m_thirst : Value} {f_m_price : Addr} {od_m_price an_m_price : Option Addr} {sl_m_price : Array (Option Value)} {oc_m_price kV_m_price dc_m_price pm_m_price cd_m_price ct_m_price : Value} {f_eq : Addr} {od_eq an_eq : Option Addr} {sl_eq : Array (Option Value)} {oc_eq kV_eq dc_eq pm_eq cd_eq ct_eq : Value} {f_repr : Addr} {od_repr an_repr : Option Addr} {sl_repr : Array (Option Value)} {oc_repr kV_repr dc_repr pm_repr cd_repr ct_repr : Value}
    {od0 an0 od1 an1 od2 an2 od3 an3 od4 an4 od5 an5 od6 an6 od7 an7 od8 an8 od9 an9 od10 an10 od11 an11 od12 an12 od13 an13 od14 an14 od15 an15 od16 an16 od17 an17 od18 an18 od19 an19 od20 an20 od21 an21 od22 an22 od23 an23 od24 an24 od25 an25 od26 an26 od27 an27 : Option Addr} {sl0 sl1 sl2 sl3 sl4 sl5 sl6 sl7 sl8 sl9 sl10 sl11 sl12 sl13 sl14 sl15 sl16 sl17 sl18 sl19 sl20 sl21 sl22 sl23 sl24 sl25 sl26 sl27 : Array (Option Value)} {oc0 kV0 dc0 pm0 cd0 ct0 oc1 kV1 dc1 pm1 cd1 ct1 oc2 kV2 dc2 pm2 cd2 ct2 oc3 kV3 dc3 pm3 cd3 ct3 oc4 kV4 dc4 pm4 cd4 ct4 oc5 kV5 dc5 pm5 cd5 ct5 oc6 kV6 dc6 pm6 cd6 ct6 oc7 kV7 dc7 pm7 cd7 ct7 oc8 kV8 dc8 pm8 cd8 ct8 oc9 kV9 dc9 pm9 cd9 ct9 oc10 kV10 dc10 pm10 cd10 ct10 oc11 kV11 dc11 pm11 cd11 ct11 oc12 kV12 dc12 pm12 cd12 ct12 oc13 kV13 dc13 pm13 cd13 ct13 oc14 kV14 dc14 pm14 cd14 ct14 oc15 kV15 dc15 pm15 cd15 ct15 oc16 kV16 dc16 pm16 cd16 ct16 oc17 kV17 dc17 pm17 cd17 ct17 oc18 kV18 dc18 pm18 cd18 ct18 oc19 kV19 dc19 pm19 cd19 ct19 oc20 kV20 dc20 pm20 cd20 ct20 oc21 kV21 dc21 pm21 cd21 ct21 oc22 kV22 dc22 pm22 cd22 ct22 oc23 kV23 dc23 pm23 cd23 ct23 oc24 kV24 dc24 pm24 cd24 ct24 oc25 kV25 dc25 pm25 cd25 ct25 oc26 kV26 dc26 pm26 cd26 ct26 oc27 kV27 dc27 pm27 cd27 ct27 : Value}
    (aC : PySem.W.nsIn K mainGlobals "NoFraction" = some (some (.ref C))) (xC : PySem.W.excIn K C [.type "ValueError", .type "Exception", .type "BaseException", .type "object"] "ValueError.__new__" = true) (kC : PySem.W.keepIn K (.ref C) = true)
    (bC : PySem.W.subIn K (.ref C) (.type "BaseException") = some true) (tC : PySem.W.typeIn K (.ref C) = some (.type "type")) (iC : PySem.W.isClsIn K C = true) (sC : PySem.W.subIn K (.ref C) (.ref C) = some true)
    (a0 : PySem.W.nsIn K mainGlobals "is_whole" = some (some (.ref f0))) (l0 : K.lookup f0 = some ⟨oc0, od0, .func (PySem.W.fnOf "is_whole" "is_whole" (defArgs s_is_whole) (defBody s_is_whole) (defScope s_is_whole) .none kV0 dc0 pm0 an0 cd0 ct0), sl0⟩) (c0 : PySem.W.codeIn K cd0 "is_whole" = true) (k0 : PySem.W.keepIn K (.ref f0) = true)
    (a1 : PySem.W.nsIn K mainGlobals "common" = some (some (.ref f1))) (l1 : K.lookup f1 = some ⟨oc1, od1, .func (PySem.W.fnOf "common" "common" (defArgs sCom) (defBody sCom) (defScope sCom) .none kV1 dc1 pm1 an1 cd1 ct1), sl1⟩) (c1 : PySem.W.codeIn K cd1 "common" = true) (k1 : PySem.W.keepIn K (.ref f1) = true)
    (a2 : PySem.W.nsIn K mainGlobals "fraction" = some (some (.ref f2))) (l2 : K.lookup f2 = some ⟨oc2, od2, .func (PySem.W.fnOf "fraction" "fraction" (defArgs sFrac) (defBody sFrac) (defScope sFrac) .none kV2 dc2 pm2 an2 cd2 ct2), sl2⟩) (c2 : PySem.W.codeIn K cd2 "fraction" = true) (k2 : PySem.W.keepIn K (.ref f2) = true)
    (a3 : PySem.W.nsIn K mainGlobals "plus" = some (some (.ref f3))) (l3 : K.lookup f3 = some ⟨oc3, od3, .func (PySem.W.fnOf "plus" "plus" (defArgs s_plus) (defBody s_plus) (defScope s_plus) .none kV3 dc3 pm3 an3 cd3 ct3), sl3⟩) (c3 : PySem.W.codeIn K cd3 "plus" = true) (k3 : PySem.W.keepIn K (.ref f3) = true)
    (a4 : PySem.W.nsIn K mainGlobals "together" = some (some (.ref f4))) (l4 : K.lookup f4 = some ⟨oc4, od4, .func (PySem.W.fnOf "together" "together" (defArgs s_together) (defBody s_together) (defScope s_together) .none kV4 dc4 pm4 an4 cd4 ct4), sl4⟩) (c4 : PySem.W.codeIn K cd4 "together" = true) (k4 : PySem.W.keepIn K (.ref f4) = true)
    (a5 : PySem.W.nsIn K mainGlobals "is_less" = some (some (.ref f5))) (l5 : K.lookup f5 = some ⟨oc5, od5, .func (PySem.W.fnOf "is_less" "is_less" (defArgs s_is_less) (defBody s_is_less) (defScope s_is_less) .none kV5 dc5 pm5 an5 cd5 ct5), sl5⟩) (c5 : PySem.W.codeIn K cd5 "is_less" = true) (k5 : PySem.W.keepIn K (.ref f5) = true)
    (a6 : PySem.W.nsIn K mainGlobals "is_fraction" = some (some (.ref f6))) (l6 : K.lookup f6 = some ⟨oc6, od6, .func (PySem.W.fnOf "is_fraction" "is_fraction" (defArgs s_is_fraction) (defBody s_is_fraction) (defScope s_is_fraction) .none kV6 dc6 pm6 an6 cd6 ct6), sl6⟩) (c6 : PySem.W.codeIn K cd6 "is_fraction" = true) (k6 : PySem.W.keepIn K (.ref f6) = true)
    (a7 : PySem.W.nsIn K mainGlobals "is_name" = some (some (.ref f7))) (l7 : K.lookup f7 = some ⟨oc7, od7, .func (PySem.W.fnOf "is_name" "is_name" (defArgs s_is_name) (defBody s_is_name) (defScope s_is_name) .none kV7 dc7 pm7 an7 cd7 ct7), sl7⟩) (c7 : PySem.W.codeIn K cd7 "is_name" = true) (k7 : PySem.W.keepIn K (.ref f7) = true)
    (a8 : PySem.W.nsIn K mainGlobals "is_one_of" = some (some (.ref f8))) (l8 : K.lookup f8 = some ⟨oc8, od8, .func (PySem.W.fnOf "is_one_of" "is_one_of" (defArgs s_is_one_of) (defBody s_is_one_of) (defScope s_is_one_of) .none kV8 dc8 pm8 an8 cd8 ct8), sl8⟩) (c8 : PySem.W.codeIn K cd8 "is_one_of" = true) (k8 : PySem.W.keepIn K (.ref f8) = true)
    (a9 : PySem.W.nsIn K mainGlobals "measure_or_none_of_it" = some (some (.ref f9))) (l9 : K.lookup f9 = some ⟨oc9, od9, .func (PySem.W.fnOf "measure_or_none_of_it" "measure_or_none_of_it" (defArgs s_measure_or_none_of_it) (defBody s_measure_or_none_of_it) (defScope s_measure_or_none_of_it) .none kV9 dc9 pm9 an9 cd9 ct9), sl9⟩) (c9 : PySem.W.codeIn K cd9 "measure_or_none_of_it" = true) (k9 : PySem.W.keepIn K (.ref f9) = true)
    (a10 : PySem.W.nsIn K mainGlobals "is_measure" = some (some (.ref f10))) (l10 : K.lookup f10 = some ⟨oc10, od10, .func (PySem.W.fnOf "is_measure" "is_measure" (defArgs s_is_measure) (defBody s_is_measure) (defScope s_is_measure) .none kV10 dc10 pm10 an10 cd10 ct10), sl10⟩) (c10 : PySem.W.codeIn K cd10 "is_measure" = true) (k10 : PySem.W.keepIn K (.ref f10) = true)
    (a11 : PySem.W.nsIn K mainGlobals "are_too_much" = some (some (.ref f11))) (l11 : K.lookup f11 = some ⟨oc11, od11, .func (PySem.W.fnOf "are_too_much" "are_too_much" (defArgs s_are_too_much) (defBody s_are_too_much) (defScope s_are_too_much) .none kV11 dc11 pm11 an11 cd11 ct11), sl11⟩) (c11 : PySem.W.codeIn K cd11 "are_too_much" = true) (k11 : PySem.W.keepIn K (.ref f11) = true)
    (a12 : PySem.W.nsIn K mainGlobals "first_wrong" = some (some (.ref f12))) (l12 : K.lookup f12 = some ⟨oc12, od12, .func (PySem.W.fnOf "first_wrong" "first_wrong" (defArgs s_first_wrong) (defBody s_first_wrong) (defScope s_first_wrong) .none kV12 dc12 pm12 an12 cd12 ct12), sl12⟩) (c12 : PySem.W.codeIn K cd12 "first_wrong" = true) (k12 : PySem.W.keepIn K (.ref f12) = true)
    (a13 : PySem.W.nsIn K mainGlobals "_law_cell" = some (some (.ref f13))) (l13 : K.lookup f13 = some ⟨oc13, od13, .func (PySem.W.fnOf "_law_cell" "_law_cell" (defArgs s__law_cell) (defBody s__law_cell) (defScope s__law_cell) .none kV13 dc13 pm13 an13 cd13 ct13), sl13⟩) (c13 : PySem.W.codeIn K cd13 "_law_cell" = true) (k13 : PySem.W.keepIn K (.ref f13) = true)
    (a14 : PySem.W.nsIn K mainGlobals "_law_pot" = some (some (.ref f14))) (l14 : K.lookup f14 = some ⟨oc14, od14, .func (PySem.W.fnOf "_law_pot" "_law_pot" (defArgs s__law_pot) (defBody s__law_pot) (defScope s__law_pot) .none kV14 dc14 pm14 an14 cd14 ct14), sl14⟩) (c14 : PySem.W.codeIn K cd14 "_law_pot" = true) (k14 : PySem.W.keepIn K (.ref f14) = true)
    (a15 : PySem.W.nsIn K mainGlobals "_law_draw" = some (some (.ref f15))) (l15 : K.lookup f15 = some ⟨oc15, od15, .func (PySem.W.fnOf "_law_draw" "_law_draw" (defArgs s__law_draw) (defBody s__law_draw) (defScope s__law_draw) .none kV15 dc15 pm15 an15 cd15 ct15), sl15⟩) (c15 : PySem.W.codeIn K cd15 "_law_draw" = true) (k15 : PySem.W.keepIn K (.ref f15) = true)
    (a16 : PySem.W.nsIn K mainGlobals "_law_low" = some (some (.ref f16))) (l16 : K.lookup f16 = some ⟨oc16, od16, .func (PySem.W.fnOf "_law_low" "_law_low" (defArgs s__law_low) (defBody s__law_low) (defScope s__law_low) .none kV16 dc16 pm16 an16 cd16 ct16), sl16⟩) (c16 : PySem.W.codeIn K cd16 "_law_low" = true) (k16 : PySem.W.keepIn K (.ref f16) = true)
    (a17 : PySem.W.nsIn K mainGlobals "_law_name" = some (some (.ref f17))) (l17 : K.lookup f17 = some ⟨oc17, od17, .func (PySem.W.fnOf "_law_name" "_law_name" (defArgs s__law_name) (defBody s__law_name) (defScope s__law_name) .none kV17 dc17 pm17 an17 cd17 ct17), sl17⟩) (c17 : PySem.W.codeIn K cd17 "_law_name" = true) (k17 : PySem.W.keepIn K (.ref f17) = true)
    (a18 : PySem.W.nsIn K mainGlobals "_law_some" = some (some (.ref f18))) (l18 : K.lookup f18 = some ⟨oc18, od18, .func (PySem.W.fnOf "_law_some" "_law_some" (defArgs s__law_some) (defBody s__law_some) (defScope s__law_some) .none kV18 dc18 pm18 an18 cd18 ct18), sl18⟩) (c18 : PySem.W.codeIn K cd18 "_law_some" = true) (k18 : PySem.W.keepIn K (.ref f18) = true)
    (a19 : PySem.W.nsIn K mainGlobals "_law_stuff" = some (some (.ref f19))) (l19 : K.lookup f19 = some ⟨oc19, od19, .func (PySem.W.fnOf "_law_stuff" "_law_stuff" (defArgs s__law_stuff) (defBody s__law_stuff) (defScope s__law_stuff) .none kV19 dc19 pm19 an19 cd19 ct19), sl19⟩) (c19 : PySem.W.codeIn K cd19 "_law_stuff" = true) (k19 : PySem.W.keepIn K (.ref f19) = true)
    (a20 : PySem.W.nsIn K mainGlobals "_law_none" = some (some (.ref f20))) (l20 : K.lookup f20 = some ⟨oc20, od20, .func (PySem.W.fnOf "_law_none" "_law_none" (defArgs s__law_none) (defBody s__law_none) (defScope s__law_none) .none kV20 dc20 pm20 an20 cd20 ct20), sl20⟩) (c20 : PySem.W.codeIn K cd20 "_law_none" = true) (k20 : PySem.W.keepIn K (.ref f20) = true)
    (a21 : PySem.W.nsIn K mainGlobals "_law_made" = some (some (.ref f21))) (l21 : K.lookup f21 = some ⟨oc21, od21, .func (PySem.W.fnOf "_law_made" "_law_made" (defArgs s__law_made) (defBody s__law_made) (defScope s__law_made) .none kV21 dc21 pm21 an21 cd21 ct21), sl21⟩) (c21 : PySem.W.codeIn K cd21 "_law_made" = true) (k21 : PySem.W.keepIn K (.ref f21) = true)
    (a22 : PySem.W.nsIn K mainGlobals "_law_told" = some (some (.ref f22))) (l22 : K.lookup f22 = some ⟨oc22, od22, .func (PySem.W.fnOf "_law_told" "_law_told" (defArgs s__law_told) (defBody s__law_told) (defScope s__law_told) .none kV22 dc22 pm22 an22 cd22 ct22), sl22⟩) (c22 : PySem.W.codeIn K cd22 "_law_told" = true) (k22 : PySem.W.keepIn K (.ref f22) = true)
    (a23 : PySem.W.nsIn K mainGlobals "_law_is_right" = some (some (.ref f23))) (l23 : K.lookup f23 = some ⟨oc23, od23, .func (PySem.W.fnOf "_law_is_right" "_law_is_right" (defArgs s__law_is_right) (defBody s__law_is_right) (defScope s__law_is_right) .none kV23 dc23 pm23 an23 cd23 ct23), sl23⟩) (c23 : PySem.W.codeIn K cd23 "_law_is_right" = true) (k23 : PySem.W.keepIn K (.ref f23) = true)
    (a24 : PySem.W.nsIn K mainGlobals "_law_other" = some (some (.ref f24))) (l24 : K.lookup f24 = some ⟨oc24, od24, .func (PySem.W.fnOf "_law_other" "_law_other" (defArgs s__law_other) (defBody s__law_other) (defScope s__law_other) .none kV24 dc24 pm24 an24 cd24 ct24), sl24⟩) (c24 : PySem.W.codeIn K cd24 "_law_other" = true) (k24 : PySem.W.keepIn K (.ref f24) = true)
    (a25 : PySem.W.nsIn K mainGlobals "_law_right" = some (some (.ref f25))) (l25 : K.lookup f25 = some ⟨oc25, od25, .func (PySem.W.fnOf "_law_right" "_law_right" (defArgs s__law_right) (defBody s__law_right) (defScope s__law_right) .none kV25 dc25 pm25 an25 cd25 ct25), sl25⟩) (c25 : PySem.W.codeIn K cd25 "_law_right" = true) (k25 : PySem.W.keepIn K (.ref f25) = true)
    (a26 : PySem.W.nsIn K mainGlobals "_law_left_out" = some (some (.ref f26))) (l26 : K.lookup f26 = some ⟨oc26, od26, .func (PySem.W.fnOf "_law_left_out" "_law_left_out" (defArgs s__law_left_out) (defBody s__law_left_out) (defScope s__law_left_out) .none kV26 dc26 pm26 an26 cd26 ct26), sl26⟩) (c26 : PySem.W.codeIn K cd26 "_law_left_out" = true) (k26 : PySem.W.keepIn K (.ref f26) = true)
    (a27 : PySem.W.nsIn K mainGlobals "law" = some (some (.ref f27))) (l27 : K.lookup f27 = some ⟨oc27, od27, .func (PySem.W.fnOf "law" "law" (defArgs s_law) (defBody s_law) (defScope s_law) .none kV27 dc27 pm27 an27 cd27 ct27), sl27⟩) (c27 : PySem.W.codeIn K cd27 "law" = true) (k27 : PySem.W.keepIn K (.ref f27) = true)
    (z_abs : PySem.W.nsIn K mainGlobals "abs" = some none)
    (z_len : PySem.W.nsIn K mainGlobals "len" = some none)
    (z_max : PySem.W.nsIn K mainGlobals "max" = some none)
    (z_min : PySem.W.nsIn K mainGlobals "min" = some none)
    (z_divmod : PySem.W.nsIn K mainGlobals "divmod" = some none)
    (z_repr : PySem.W.nsIn K mainGlobals "repr" = some none)
    (z_all : PySem.W.nsIn K mainGlobals "all" = some none)
    (z_int : PySem.W.nsIn K mainGlobals "int" = some none)
    (z_str : PySem.W.nsIn K mainGlobals "str" = some none)
    (z_range : PySem.W.nsIn K mainGlobals "range" = some none)
    (z_isinstance : PySem.W.nsIn K mainGlobals "isinstance" = some none)
    (z_bool : PySem.W.nsIn K mainGlobals "bool" = some none)
    (z_tuple : PySem.W.nsIn K mainGlobals "tuple" = some none)
    (z_list : PySem.W.nsIn K mainGlobals "list" = some none)
    (z_zip : PySem.W.nsIn K mainGlobals "zip" = some none)
    (z_super : PySem.W.nsIn K mainGlobals "super" = some none)
    (g_LETTERS : PySem.W.nsIn K mainGlobals "LETTERS" = some (some (.str (Str.ofString "abcdefghijklmnopqrstuvwxyz") t_LETTERS)))
    (g_LONGEST_NAME : PySem.W.nsIn K mainGlobals "LONGEST_NAME" = some (some (.int 10 t_LONGEST_NAME)))
    (gD : PySem.W.nsIn K mainGlobals "NoStuff" = some (some (.ref D)))
    (xD : K.lookup D = some (excClassObj nm q D NN bs bm true sn sub ab col dd m0 m1 m2 m3 m5 "ValueError.__new__"))
    (rV : PySem.HandSPX.refsVE bm = true)
    (saD : PySem.W.findIn K (.ref D) "__setattr__" = some (some (.builtin "object.__setattr__")))
    (gaD : PySem.W.findIn K (.ref D) "__getattribute__" = some (some (.builtin "BaseException.__getattribute__")))
    (ggD : PySem.W.findIn K (.ref D) "__getattr__" = some (none))
    (noD : PySem.W.findIn K (.ref D) "field" = some (none))
    (clD : PySem.W.findIn K (.ref D) "__class__" = some (some (.builtin "object.__class__")))
    (aI : PySem.W.findIn K (.ref D) "__init__" = some (some (.ref fI)))
    (tI : PySem.W.typeIn K (.ref fI) = some (.type "function"))
    (lI : K.lookup fI = some ⟨ocI, odI, .func (PySem.W.fnX "__init__" "NoStuff.__init__" (defArgs sNoStuff) (defBody sNoStuff) (defScope sNoStuff) [("__class__", cc)] .none kVI dcI pmI anI (.ref cda) ctI), slI⟩)
    (cI : PySem.W.codeIn K (.ref cda) "NoStuff.__init__" = true)
    (lc : K.lookup cda = some ⟨ccl, cdd, .fields vsA, ccs⟩)
    (v2 : vsA[2]? = some (.str file tf))
    (fe : ((l.prog.main.file : Str) == file) = true)
    (ll : K.lookup cc = some ⟨cl, cld, .cell (some (.ref D)), csl⟩)
    (su : PySem.W.ks_superIn K D D "__init__" = some (some (.builtin "ValueError.__init__")))
    (mr : PySem.W.mroIn K D (.ref D) = some true)
    (ve : PySem.W.subIn K (.ref D) (.type "ValueError") = some true)
    (stt : PySem.W.nsIn K cStatics "thirdparty.any" = some none)
    (tp : (l.prog.main.scope.names.lookup ("super" : Str)).isSome = false)
    (bD : PySem.W.subIn K (.ref D) (.type "BaseException") = some true)
    (tD_ : PySem.W.typeIn K (.ref D) = some (.type "type"))
    (kD : PySem.W.keepIn K (.ref D) = true)
    (hD : PySem.W.hasDictIn K D = true)
    (hn : PySem.W.specialIn K (.builtin "object.__class__") "__get__" = some (some (.builtin "getset_descriptor.__get__")))
    (htk : PySem.W.takesIn K (.builtin "object.__class__") = some true)
    (mo : PySem.W.mroIn K D (.type "object") = some true)
    (gS : PySem.W.nsIn K mainGlobals "Stuff" = some (some (.ref CS)))
    (mkS : PySem.W.makesIn K CS = true)
    (aS : PySem.W.findIn K (.ref CS) "__init__" = some (some (.ref fS)))
    (iS : PySem.W.isFn K (.ref fS) = true)
    (kS : PySem.W.keepIn K (.ref CS) = true)
    (lS : K.lookup fS = some ⟨ocS, odS, .func (PySem.W.fnOf "__init__" "Stuff.__init__" (defArgs s_init) (defBody s_init) (defScope s_init) (.ref TS) kVS dcS pmS anS cdS ctS), slS⟩)
    (cS : PySem.W.codeIn K cdS "Stuff.__init__" = true)
    (kfS : PySem.W.keepIn K (.ref fS) = true)
    (lT : K.lookup TS = some ⟨tc, td, .seq #[.none, .none, .none, .none, .none] nT, tsl⟩)
    (pg : PySem.W.plainGet K CS Str.empty = true)
    (hdS : PySem.W.hasDictIn K CS = true)
    (po : PySem.W.plainOver K CS = true)
    (saS : PySem.W.findIn K (.ref CS) "__setattr__" = some (some (.builtin "object.__setattr__")))
    (n1_ : PySem.W.findIn K (.ref CS) "own_name" = some (none))
    (n2_ : PySem.W.findIn K (.ref CS) "measures" = some (none))
    (gc0 : PySem.W.nsIn K mainGlobals "NONE_OF_IT" = some (some (.ref kc0)))
    (gc1 : PySem.W.nsIn K mainGlobals "ALL_OF_IT" = some (some (.ref kc1)))
    (gcw : PySem.W.nsIn K mainGlobals "WORDS" = some (some (.ref kcw)))
    (lc0 : K.lookup kc0 = some ⟨.type "tuple", d0, .seq #[.int 0 t00, .int 1 t01] n0, s0⟩)
    (lc1 : K.lookup kc1 = some ⟨.type "tuple", d1, .seq #[.int 1 t10, .int 1 t11] n1, s1⟩)
    (lcw : K.lookup kcw = some ⟨.type "tuple", none, .seq #[.str "flour" tw0, .str "water" tw1, .str "salt" tw2, .str "thirst" tw3, .str "price" tw4] nw_, sw⟩)
    (m_mname_a : PySem.W.findIn K (.ref CS) "name" = some (some (.ref f_mname)))
    (m_mname_l : K.lookup f_mname = some ⟨oc_mname, od_mname, .func (PySem.W.fnOf "name" "Stuff.name" (defArgs s_mname) (defBody s_mname) (defScope s_mname) .none kV_mname dc_mname pm_mname an_mname cd_mname ct_mname), sl_mname⟩)
    (m_mname_c : PySem.W.codeIn K cd_mname "Stuff.name" = true)
    (m_mname_k : PySem.W.keepIn K (.ref f_mname) = true)
    (m_mname_i : PySem.W.isFn K (.ref f_mname) = true)
    (m_measure_a : PySem.W.findIn K (.ref CS) "measure" = some (some (.ref f_measure)))
    (m_measure_l : K.lookup f_measure = some ⟨oc_measure, od_measure, .func (PySem.W.fnOf "measure" "Stuff.measure" (defArgs s_measure) (defBody s_measure) (defScope s_measure) .none kV_measure dc_measure pm_measure an_measure cd_measure ct_measure), sl_measure⟩)
    (m_measure_c : PySem.W.codeIn K cd_measure "Stuff.measure" = true)
    (m_measure_k : PySem.W.keepIn K (.ref f_measure) = true)
    (m_measure_i : PySem.W.isFn K (.ref f_measure) = true)
    (m_m_flour_a : PySem.W.findIn K (.ref CS) "flour" = some (some (.ref f_m_flour)))
    (m_m_flour_l : K.lookup f_m_flour = some ⟨oc_m_flour, od_m_flour, .func (PySem.W.fnOf "flour" "Stuff.flour" (defArgs s_m_flour) (defBody s_m_flour) (defScope s_m_flour) .none kV_m_flour dc_m_flour pm_m_flour an_m_flour cd_m_flour ct_m_flour), sl_m_flour⟩)
    (m_m_flour_c : PySem.W.codeIn K cd_m_flour "Stuff.flour" = true)
    (m_m_flour_k : PySem.W.keepIn K (.ref f_m_flour) = true)
    (m_m_flour_i : PySem.W.isFn K (.ref f_m_flour) = true)
    (m_m_water_a : PySem.W.findIn K (.ref CS) "water" = some (some (.ref f_m_water)))
    (m_m_water_l : K.lookup f_m_water = some ⟨oc_m_water, od_m_water, .func (PySem.W.fnOf "water" "Stuff.water" (defArgs s_m_water) (defBody s_m_water) (defScope s_m_water) .none kV_m_water dc_m_water pm_m_water an_m_water cd_m_water ct_m_water), sl_m_water⟩)
    (m_m_water_c : PySem.W.codeIn K cd_m_water "Stuff.water" = true)
    (m_m_water_k : PySem.W.keepIn K (.ref f_m_water) = true)
    (m_m_water_i : PySem.W.isFn K (.ref f_m_water) = true)
    (m_m_salt_a : PySem.W.findIn K (.ref CS) "salt" = some (some (.ref f_m_salt)))
    (m_m_salt_l : K.lookup f_m_salt = some ⟨oc_m_salt, od_m_salt, .func (PySem.W.fnOf "salt" "Stuff.salt" (defArgs s_m_salt) (defBody s_m_salt) (defScope s_m_salt) .none kV_m_salt dc_m_salt pm_m_salt an_m_salt cd_m_salt ct_m_salt), sl_m_salt⟩)
    (m_m_salt_c : PySem.W.codeIn K cd_m_salt "Stuff.salt" = true)
    (m_m_salt_k : PySem.W.keepIn K (.ref f_m_salt) = true)
    (m_m_salt_i : PySem.W.isFn K (.ref f_m_salt) = true)
    (m_m_thirst_a : PySem.W.findIn K (.ref CS) "thirst" = some (some (.ref f_m_thirst)))
    (m_m_thirst_l : K.lookup f_m_thirst = some ⟨oc_m_thirst, od_m_thirst, .func (PySem.W.fnOf "thirst" "Stuff.thirst" (defArgs s_m_thirst) (defBody s_m_thirst) (defScope s_m_thirst) .none kV_m_thirst dc_m_thirst pm_m_thirst an_m_thirst cd_m_thirst ct_m_thirst), sl_m_thirst⟩)
    (m_m_thirst_c : PySem.W.codeIn K cd_m_thirst "Stuff.thirst" = true)
    (m_m_thirst_k : PySem.W.keepIn K (.ref f_m_thirst) = true)
    (m_m_thirst_i : PySem.W.isFn K (.ref f_m_thirst) = true)
    (m_m_price_a : PySem.W.findIn K (.ref CS) "price" = some (some (.ref f_m_price)))
    (m_m_price_l : K.lookup f_m_price = some ⟨oc_m_price, od_m_price, .func (PySem.W.fnOf "price" "Stuff.price" (defArgs s_m_price) (defBody s_m_price) (defScope s_m_price) .none kV_m_price dc_m_price pm_m_price an_m_price cd_m_price ct_m_price), sl_m_price⟩)
    (m_m_price_c : PySem.W.codeIn K cd_m_price "Stuff.price" = true)
    (m_m_price_k : PySem.W.keepIn K (.ref f_m_price) = true)
    (m_m_price_i : PySem.W.isFn K (.ref f_m_price) = true)
    (m_eq_a : PySem.W.findIn K (.ref CS) "__eq__" = some (some (.ref f_eq)))
    (m_eq_l : K.lookup f_eq = some ⟨oc_eq, od_eq, .func (PySem.W.fnOf "__eq__" "Stuff.__eq__" (defArgs s_eq) (defBody s_eq) (defScope s_eq) .none kV_eq dc_eq pm_eq an_eq cd_eq ct_eq), sl_eq⟩)
    (m_eq_c : PySem.W.codeIn K cd_eq "Stuff.__eq__" = true)
    (m_eq_k : PySem.W.keepIn K (.ref f_eq) = true)
    (m_eq_i : PySem.W.isFn K (.ref f_eq) = true)
    (m_repr_a : PySem.W.findIn K (.ref CS) "__repr__" = some (some (.ref f_repr)))
    (m_repr_l : K.lookup f_repr = some ⟨oc_repr, od_repr, .func (PySem.W.fnOf "__repr__" "Stuff.__repr__" (defArgs s_repr) (defBody s_repr) (defScope s_repr) .none kV_repr dc_repr pm_repr an_repr cd_repr ct_repr), sl_repr⟩)
    (m_repr_c : PySem.W.codeIn K cd_repr "Stuff.__repr__" = true)
    (m_repr_k : PySem.W.keepIn K (.ref f_repr) = true)
    (m_repr_i : PySem.W.isFn K (.ref f_repr) = true)
    (clS : PySem.W.findIn K (.ref CS) "__class__" = some (some (.builtin "object.__class__")))
    (moS : PySem.W.mroIn K CS (.type "object") = some true)
    (al1_NoneType : PySem.W.kitOne K (.type "NoneType") (.ref CS) = some false)
    (al2_NoneType : PySem.W.notFirst K CS (.type "NoneType") = true)
    (al1_int : PySem.W.kitOne K (.type "int") (.ref CS) = some false)
    (al2_int : PySem.W.notFirst K CS (.type "int") = true)
    (al1_str : PySem.W.kitOne K (.type "str") (.ref CS) = some false)
    (al2_str : PySem.W.notFirst K CS (.type "str") = true)
    (al1_list : PySem.W.kitOne K (.type "list") (.ref CS) = some false)
    (al2_list : PySem.W.notFirst K CS (.type "list") = true)
    (al1_tuple : PySem.W.kitOne K (.type "tuple") (.ref CS) = some false)
    (al2_tuple : PySem.W.notFirst K CS (.type "tuple") = true) :
    ∃ fd : FuncData, (∀ (s : Shared) (v : Value), BindsTo s fd ⟨[v], []⟩ [("_law_script", v)]) ∧ ∀ base : Heap, K.In base → base.Ns mainGlobals mg → FnG l.prog w K mg base CX0 13 fa fd ["_law_script"] (sp_law K) := by
  have e := hfa.symm.trans (PySem.W.mg_of X G a27)
  cases e
  have T : ExT K mg "NoFraction" C := ⟨PySem.W.mg_of X G aC, xC, kC, bC, tC, exm_self bC iC tC sC⟩
  have M : Blt mg := ⟨PySem.W.mg_none_of X G z_abs, PySem.W.mg_none_of X G z_len, PySem.W.mg_none_of X G z_max, PySem.W.mg_none_of X G z_min, PySem.W.mg_none_of X G z_divmod, PySem.W.mg_none_of X G z_repr, PySem.W.mg_none_of X G z_all, PySem.W.mg_none_of X G z_int, PySem.W.mg_none_of X G z_str, PySem.W.mg_none_of X G z_range⟩
  have D0 := df_is_whole X G a0 l0 c0 k0
  have D1 := df_common X G a1 l1 c1 k1
  have D2 := df_fraction X G a2 l2 c2 k2
  have D3 := df_plus X G a3 l3 c3 k3
  have D4 := df_together X G a4 l4 c4 k4
  have D5 := df_is_less X G a5 l5 c5 k5
  have D6 := df_is_fraction X G a6 l6 c6 k6
  have D7 := df_is_name X G a7 l7 c7 k7
  have D8 := df_is_one_of X G a8 l8 c8 k8
  have D9 := df_measure_or_none_of_it X G a9 l9 c9 k9
  have D10 := df_is_measure X G a10 l10 c10 k10
  have D11 := df_are_too_much X G a11 l11 c11 k11
  have D12 := df_first_wrong X G a12 l12 c12 k12
  have D13 := df__law_cell X G a13 l13 c13 k13
  have D14 := df__law_pot X G a14 l14 c14 k14
  have D15 := df__law_draw X G a15 l15 c15 k15
  have D16 := df__law_low X G a16 l16 c16 k16
  have D17 := df__law_name X G a17 l17 c17 k17
  have D18 := df__law_some X G a18 l18 c18 k18
  have D19 := df__law_stuff X G a19 l19 c19 k19
  have D20 := df__law_none X G a20 l20 c20 k20
  have D21 := df__law_made X G a21 l21 c21 k21
  have D22 := df__law_told X G a22 l22 c22 k22
  have D23 := df__law_is_right X G a23 l23 c23 k23
  have D24 := df__law_other X G a24 l24 c24 k24
  have D25 := df__law_right X G a25 l25 c25 k25
  have D26 := df__law_left_out X G a26 l26 c26 k26
  have D27 := df_law X G a27 l27 c27 k27
  refine ⟨_, fun s v => D27.b1 s [v] rfl, fun base _ _ => ?_⟩
  have Mx : Bltx mg := ⟨PySem.W.mg_none_of X G z_isinstance, PySem.W.mg_none_of X G z_bool, PySem.W.mg_none_of X G z_tuple⟩
  have CT : Cst K mg kc0 kc1 kcw := ⟨PySem.W.mg_of X G gc0, PySem.W.mg_of X G gc1, PySem.W.mg_of X G gcw, fun H => .inr ⟨_, _, _, lc0, rfl, rfl, (by show 2 ≤ sizeLine; decide), .cons ⟨_, rfl⟩ (.cons ⟨_, rfl⟩ .nil)⟩, fun H => .inr ⟨_, _, _, lc1, rfl, rfl, (by show 2 ≤ sizeLine; decide), .cons ⟨_, rfl⟩ (.cons ⟨_, rfl⟩ .nil)⟩,
    fun H => .inr ⟨_, _, _, lcw, rfl, rfl, (by show 5 ≤ sizeLine; decide), .cons ⟨_, rfl⟩ (.cons ⟨_, rfl⟩ (.cons ⟨_, rfl⟩ (.cons ⟨_, rfl⟩ (.cons ⟨_, rfl⟩ .nil))))⟩⟩
  have OX : OexC K D := ⟨⟨nm, q, NN, bs, bm, sn, sub, ab, col, dd, m0, m1, m2, m3, m5, xD, rV⟩, saD, bD, tD_, kD⟩
  have XF : XFun l.prog K "NoStuff.__init__" sNoStuff D fI (PySem.W.fnX "__init__" "NoStuff.__init__" (defArgs sNoStuff) (defBody sNoStuff) (defScope sNoStuff) [("__class__", cc)] .none kVI dcI pmI anI (.ref cda) ctI) cc cda :=
    ⟨⟨_, _, _, _, _, _, rfl⟩, ⟨⟨_, _, _, lI⟩, ⟨_, _, _, _, _, _, lc, v2, fe⟩, ⟨_, _, _, ll⟩, su, mr, ve, stt, tp⟩, cI⟩
  have XTD : XT l.prog K mg "NoStuff" "NoStuff.__init__" "field" sNoStuff D fI _ cc cda := ⟨PySem.W.mg_of X G gD, OX, aI, tI, XF, .all (fun us hl => match us, hl with | [_, _], _ => rfl), PySem.W.mg_none_of X G z_super, noD⟩
  have FDS : FunD K "__init__" "Stuff.__init__" (defArgs s_init) (defBody s_init) (defScope s_init) [.non, .non, .non, .non, .non] [] fS _ := ⟨⟨_, _, _, _, _, _, _, _, _, _, rfl, lS, cS, .inr ⟨(fun z => nomatch z), TS, _, [.none, .none, .none, .none, .none], _, rfl, lT, rfl, .cons rfl (.cons rfl (.cons rfl (.cons rfl (.cons rfl .nil))))⟩, .inl rfl⟩, kfS⟩
  have WY := ways_of FDS
  have C1 : Cal l.prog w K mg base CX0 1 "common" ["one", "other"] spCom := D1.cal (ok_com D1.fn)
  have C2 : Cal l.prog w K mg base CX0 2 "fraction" ["top", "bottom"] (fun _ _ _ _ => False) := D2.cal FnG.no
  have C4 : Cal l.prog w K mg base CX0 4 "fraction" ["top", "bottom"] (spFrac true) := by
    have P1 : FnG l.prog w K mg base CX0 3 _ _ ["top", "bottom"] (spFrac false) := ok_frac (j := 1) false _ (fun n d H Q hd hs => by
      obtain ⟨n', d', e, _, hp, _⟩ := hs
      cases e
      have := hp rfl
      omega) M T D2.fn C1 C2
    have CR : Cal l.prog w K mg base CX0 3 "fraction" ["top", "bottom"] (spFrac false) := D2.cal P1
    exact D2.cal (ok_frac (j := 2) true _ (fun n d H Q hd hs => by
      obtain ⟨n', d', e, h0, _, h1, h2, q⟩ := hs
      cases e
      refine ⟨-n, -d, rfl, by omega, fun _ => by omega, ?_, ?_, ?_⟩
      · show (-n).natAbs < _
        rw [Int.natAbs_neg]
        exact h1
      · show (-d).natAbs < _
        rw [Int.natAbs_neg]
        exact h2
      · rw [low_neg]
        exact q) M T D2.fn C1 CR)
  have CP : Cal l.prog w K mg base CX0 5 "plus" ["one", "other"] (sp_plus K) := D3.cal (ok_plus D3.fn C4)
  have CTg : Cal l.prog w K mg base CX0 6 "together" ["ones"] (sp_togL K) := D4.cal (ok_togL CT.g0 CT.t0 D4.fn CP)
  have CL : Cal l.prog w K mg base CX0 1 "is_less" ["one", "other"] (sp_is_less K) := D5.cal (ok_is_less D5.fn)
  have CW : Cal l.prog w K mg base CX0 1 "is_whole" ["thing"] (sp_whole K) := D0.cal (ok_whole M Mx D0.fn)
  have CF : Cal l.prog w K mg base CX0 2 "is_fraction" ["thing"] (sp_isfr K) := D6.cal (ok_isfr M Mx D6.fn CW C1)
  have CN : Cal l.prog w K mg base CX0 2 "is_name" ["thing"] (sp_isnm K) := D7.cal (ok_isnm M Mx (PySem.W.mg_of X G g_LETTERS) (PySem.W.mg_of X G g_LONGEST_NAME) D7.fn)
  have CO : Cal l.prog w K mg base CX0 1 "measure_or_none_of_it" ["measure"] (sp_orNone K) := D9.cal (ok_orNone CT D9.fn)
  have CM : Cal l.prog w K mg base CX0 3 "is_measure" ["thing"] (sp_isM K) := D10.cal (ok_isM D10.fn CF)
  have CX_ : Cal l.prog w K mg base CX0 7 "are_too_much" ["flour", "water", "salt"] (sp_too K) := D11.cal (ok_too CT D11.fn CTg CL)
  have CFW : Cal l.prog w K mg base CX0 8 "first_wrong" ["name", "measures"] (sp_fw K) := D12.cal (ok_fw (PySem.W.mg_none_of X G z_zip) CT D12.fn CN CM CX_)
  have FI := ok_init (P := l.prog) (w := w) (base := base) (c0 := kc0) (c1 := kc1) (cw := kcw) M Mx XTD ⟨pg, hdS, po, saS⟩ n1_ n2_ FDS CO CFW
  have MS : MakG l.prog w K mg base CX0 9 "Stuff" CS fS _ ["self", "name", "flour", "water", "salt", "thirst", "price"] (sp_mk K CS) := ⟨⟨mkS, aS, iS, kS⟩, mk_of FI, PySem.W.mg_of X G gS⟩
  have B1 : Cal l.prog w K mg base CX0 1 "_law_cell" ["_law_script", "_law_k"] (sp_cell K) := D13.cal (ok_cell M D13.fn)
  have B2 : Cal l.prog w K mg base CX0 1 "_law_pot" ["_law_cell_here"] sp_pot := D14.cal (ok_pot M D14.fn)
  have B3 : Cal l.prog w K mg base CX0 1 "_law_draw" ["_law_pot_here", "_law_many"] sp_draw := D15.cal (ok_draw M D15.fn)
  have B4 : Cal l.prog w K mg base CX0 1 "_law_low" ["_law_top", "_law_bottom"] sp_low := D16.cal (ok_low M D16.fn)
  have XC : ClsX K CS := ⟨⟨pg, hdS, po, saS⟩, clS, hn, htk, moS⟩
  have tw : ∀ H, SqT K H kcw (words.map V.str) := CT.tw
  have OO : Cal l.prog w K mg base CX0 1 "is_one_of" ["thing", "names"] (sp_oneof K) := D8.cal (ok_oneof M Mx D8.fn)
  have Mn : MetG l.prog w K mg base CX0 1 CS "name" f_mname _ ["self"] (sp_mname K CS) := ⟨XC.c, ⟨m_mname_a, m_mname_i, m_mname_k⟩, ok_mname XC.c n1_ (fun_mk m_mname_l m_mname_c m_mname_k), fun s us hl => .of_eq (match us, hl with | [_], _ => rfl)⟩
  have MM : MetG l.prog w K mg base CX0 2 CS "measure" f_measure _ ["self", "word"] (sp_measure K CS) := ⟨XC.c, ⟨m_measure_a, m_measure_i, m_measure_k⟩, ok_measure XC.c n2_ (PySem.W.mg_of X G gcw) tw ⟨_, lcw, rfl, rfl⟩ (fun_mk m_measure_l m_measure_c m_measure_k) OO, fun s us hl => .of_eq (match us, hl with | [_, _], _ => rfl)⟩
  have M_0 : MetG l.prog w K mg base CX0 3 CS "flour" f_m_flour _ ["self"] (sp_one K CS 0) := ⟨XC.c, ⟨m_m_flour_a, m_m_flour_i, m_m_flour_k⟩, ok_m_flour MM (fun_mk m_m_flour_l m_m_flour_c m_m_flour_k), fun s us hl => .of_eq (match us, hl with | [_], _ => rfl)⟩
  have M_1 : MetG l.prog w K mg base CX0 3 CS "water" f_m_water _ ["self"] (sp_one K CS 1) := ⟨XC.c, ⟨m_m_water_a, m_m_water_i, m_m_water_k⟩, ok_m_water MM (fun_mk m_m_water_l m_m_water_c m_m_water_k), fun s us hl => .of_eq (match us, hl with | [_], _ => rfl)⟩
  have M_2 : MetG l.prog w K mg base CX0 3 CS "salt" f_m_salt _ ["self"] (sp_one K CS 2) := ⟨XC.c, ⟨m_m_salt_a, m_m_salt_i, m_m_salt_k⟩, ok_m_salt MM (fun_mk m_m_salt_l m_m_salt_c m_m_salt_k), fun s us hl => .of_eq (match us, hl with | [_], _ => rfl)⟩
  have M_3 : MetG l.prog w K mg base CX0 3 CS "thirst" f_m_thirst _ ["self"] (sp_one K CS 3) := ⟨XC.c, ⟨m_m_thirst_a, m_m_thirst_i, m_m_thirst_k⟩, ok_m_thirst MM (fun_mk m_m_thirst_l m_m_thirst_c m_m_thirst_k), fun s us hl => .of_eq (match us, hl with | [_], _ => rfl)⟩
  have M_4 : MetG l.prog w K mg base CX0 3 CS "price" f_m_price _ ["self"] (sp_one K CS 4) := ⟨XC.c, ⟨m_m_price_a, m_m_price_i, m_m_price_k⟩, ok_m_price MM (fun_mk m_m_price_l m_m_price_c m_m_price_k), fun s us hl => .of_eq (match us, hl with | [_], _ => rfl)⟩
  have ME : OwnM l.prog w K mg base 1 CS "__eq__" f_eq _ ["self", "other"] (sp_seq K CS) := ⟨m_eq_a, m_eq_i, ok_seq Mx XC n1_ n2_ (PySem.W.mg_of X G gS) (fun_mk m_eq_l m_eq_c m_eq_k), fun s us hl => .of_eq (match us, hl with | [_, _], _ => rfl)⟩
  have MR : OwnM l.prog w K mg base 1 CS "__repr__" f_repr _ ["self"] (sp_srepr K CS) := ⟨m_repr_a, m_repr_i, ok_srepr M XC.c n1_ n2_ (fun_mk m_repr_l m_repr_c m_repr_k), fun s us hl => .of_eq (match us, hl with | [_], _ => rfl)⟩
  have AL : Alns K CS := ⟨fun T hT => by
    simp only [List.mem_cons, List.not_mem_nil, or_false] at hT
    rcases hT with rfl | rfl | rfl | rfl | rfl
    · exact ⟨al1_NoneType, al2_NoneType⟩
    · exact ⟨al1_int, al2_int⟩
    · exact ⟨al1_str, al2_str⟩
    · exact ⟨al1_list, al2_list⟩
    · exact ⟨al1_tuple, al2_tuple⟩⟩
  have ml := PySem.W.mg_none_of X G z_list
  have B6 : Cal l.prog w K mg base CX0 2 "_law_name" ["_law_pot_here", "_law_taken"] (sp_name K) := D17.cal (ok_name M D17.fn B3)
  have B12 : Cal l.prog w K mg base CX0 2 "_law_some" ["_law_pot_here", "_law_least", "_law_most"] sp_some := D18.cal (ok_some D18.fn B3 B4)
  have B13 : Cal l.prog w K mg base CX0 3 "_law_stuff" ["_law_pot_here", "_law_text"] (sp_stuff K) := D19.cal (ok_stuff M Mx D19.fn B3 B4 B12)
  have B14 : Cal l.prog w K mg base CX0 1 "_law_none" ["_law_one"] (sp_none K) := D20.cal (ok_none M D20.fn)
  have B15 : Cal l.prog w K mg base CX0 11 "_law_made" ["_law_row"] (sp_made K CS) := D21.cal (ok_made M WY MS D21.fn B14)
  have B16 : Cal l.prog w K mg base CX0 4 "_law_told" ["_law_stuff_here"] (sp_told K CS) := D22.cal (ok_told Mn M_0 M_1 M_2 M_3 M_4 MM (fun s u us hl => .of_eq (match us, hl with | [_], _ => rfl)) D22.fn)
  have B17 : Cal l.prog w K mg base CX0 5 "_law_is_right" ["_law_stuff_here", "_law_row"] (sp_isright K CS) := D23.cal (ok_isright M ml MR D23.fn B16)
  have B18 : Cal l.prog w K mg base CX0 3 "_law_other" ["_law_pot_here", "_law_row"] (sp_other K) := D24.cal (ok_other M D24.fn B3 B4 B6)
  have B19 : Cal l.prog w K mg base CX0 12 "_law_right" ["_law_pot_here"] sp_right := D25.cal (ok_right M XC AL WY MS ME D25.fn B3 B6 B13 B12 B18 B15 B17)
  have B20 : Cal l.prog w K mg base CX0 12 "_law_left_out" ["_law_pot_here"] sp_right := D26.cal (ok_left M (PySem.W.mg_none_of X G z_zip) WY MS D26.fn B6 B13 B17)
  exact ok_law M D27.fn B1 B2 B19 B20
end Lf

set_option Elab.async false
set_option linter.all false
set_option maxRecDepth 100000
open PySem PySem.W PyProof.Rows
set_option maxHeartbeats 0 in
theorem PySem.Challenge.cw_loafshares_k13_stuffs_told_holds : PySem.Challenge.rw_loafshares_k13_stuffs_told.Holds := by
  w_on; o_law; k_head; (case hw => w_witness2)
  k_fill
  refine Lf.walkG (l := PySem.Challenge.rw_loafshares_k13_stuffs_told) (n := 63) (k := 13) (x := "_law_script") (sp := Lf.sp_law) rfl (by decide) rfl ⟨rfl, by decide, by decide⟩ (fun w h Y => PySem.W.kIn_of Y) ?F (fun K H a ns hl _ hS => ⟨a, ns, rfl, hS, hl, fun _ => rfl⟩)
  case F =>
    intro w mg fa h KX G hmg
    refine' Lf.all_mk KX G hmg ?aC ?xC ?kC ?bC ?tC ?iC ?sC ?a0 ?l0 ?c0 ?k0 ?a1 ?l1 ?c1 ?k1 ?a2 ?l2 ?c2 ?k2 ?a3 ?l3 ?c3 ?k3 ?a4 ?l4 ?c4 ?k4 ?a5 ?l5 ?c5 ?k5 ?a6 ?l6 ?c6 ?k6 ?a7 ?l7 ?c7 ?k7 ?a8 ?l8 ?c8 ?k8 ?a9 ?l9 ?c9 ?k9 ?a10 ?l10 ?c10 ?k10 ?a11 ?l11 ?c11 ?k11 ?a12 ?l12 ?c12 ?k12 ?a13 ?l13 ?c13 ?k13 ?a14 ?l14 ?c14 ?k14 ?a15 ?l15 ?c15 ?k15 ?a16 ?l16 ?c16 ?k16 ?a17 ?l17 ?c17 ?k17 ?a18 ?l18 ?c18 ?k18 ?a19 ?l19 ?c19 ?k19 ?a20 ?l20 ?c20 ?k20 ?a21 ?l21 ?c21 ?k21 ?a22 ?l22 ?c22 ?k22 ?a23 ?l23 ?c23 ?k23 ?a24 ?l24 ?c24 ?k24 ?a25 ?l25 ?c25 ?k25 ?a26 ?l26 ?c26 ?k26 ?a27 ?l27 ?c27 ?k27 ?z_abs ?z_len ?z_max ?z_min ?z_divmod ?z_repr ?z_all ?z_int ?z_str ?z_range ?z_isinstance ?z_bool ?z_tuple ?z_list ?z_zip ?z_super ?g_LETTERS ?g_LONGEST_NAME ?gD ?xD ?rV ?saD ?gaD ?ggD ?noD ?clD ?aI ?tI ?lI ?cI ?lc ?v2 ?fe ?ll ?su ?mr ?ve ?stt ?tp ?bD ?tD_ ?kD ?hD ?hn ?htk ?mo ?gS ?mkS ?aS ?iS ?kS ?lS ?cS ?kfS ?lT ?pg ?hdS ?po ?saS ?n1_ ?n2_ ?gc0 ?gc1 ?gcw ?lc0 ?lc1 ?lcw ?m_mname_a ?m_mname_l ?m_mname_c ?m_mname_k ?m_mname_i ?m_measure_a ?m_measure_l ?m_measure_c ?m_measure_k ?m_measure_i ?m_m_flour_a ?m_m_flour_l ?m_m_flour_c ?m_m_flour_k ?m_m_flour_i ?m_m_water_a ?m_m_water_l ?m_m_water_c ?m_m_water_k ?m_m_water_i ?m_m_salt_a ?m_m_salt_l ?m_m_salt_c ?m_m_salt_k ?m_m_salt_i ?m_m_thirst_a ?m_m_thirst_l ?m_m_thirst_c ?m_m_thirst_k ?m_m_thirst_i ?m_m_price_a ?m_m_price_l ?m_m_price_c ?m_m_price_k ?m_m_price_i ?m_eq_a ?m_eq_l ?m_eq_c ?m_eq_k ?m_eq_i ?m_repr_a ?m_repr_l ?m_repr_c ?m_repr_k ?m_repr_i ?clS ?moS ?al1_NoneType ?al2_NoneType ?al1_int ?al2_int ?al1_str ?al2_str ?al1_list ?al2_list ?al1_tuple ?al2_tuple
    (case aC => k_is); (case xC => k_exc); (case kC => k_is); (case bC => k_is); (case tC => k_is); (case iC => k_is); (case sC => first | rfl | k_is)
    (case a0 => k_is); (case l0 => k_is); (case c0 => k_is); (case k0 => k_is)
    (case a1 => k_is); (case l1 => k_is); (case c1 => k_is); (case k1 => k_is)
    (case a2 => k_is); (case l2 => k_is); (case c2 => k_is); (case k2 => k_is)
    (case a3 => k_is); (case l3 => k_is); (case c3 => k_is); (case k3 => k_is)
    (case a4 => k_is); (case l4 => k_is); (case c4 => k_is); (case k4 => k_is)
    (case a5 => k_is); (case l5 => k_is); (case c5 => k_is); (case k5 => k_is)
    (case a6 => k_is); (case l6 => k_is); (case c6 => k_is); (case k6 => k_is)
    (case a7 => k_is); (case l7 => k_is); (case c7 => k_is); (case k7 => k_is)
    (case a8 => k_is); (case l8 => k_is); (case c8 => k_is); (case k8 => k_is)
    (case a9 => k_is); (case l9 => k_is); (case c9 => k_is); (case k9 => k_is)
    (case a10 => k_is); (case l10 => k_is); (case c10 => k_is); (case k10 => k_is)
    (case a11 => k_is); (case l11 => k_is); (case c11 => k_is); (case k11 => k_is)
    (case a12 => k_is); (case l12 => k_is); (case c12 => k_is); (case k12 => k_is)
    (case a13 => k_is); (case l13 => k_is); (case c13 => k_is); (case k13 => k_is)
    (case a14 => k_is); (case l14 => k_is); (case c14 => k_is); (case k14 => k_is)
    (case a15 => k_is); (case l15 => k_is); (case c15 => k_is); (case k15 => k_is)
    (case a16 => k_is); (case l16 => k_is); (case c16 => k_is); (case k16 => k_is)
    (case a17 => k_is); (case l17 => k_is); (case c17 => k_is); (case k17 => k_is)
    (case a18 => k_is); (case l18 => k_is); (case c18 => k_is); (case k18 => k_is)
    (case a19 => k_is); (case l19 => k_is); (case c19 => k_is); (case k19 => k_is)
    (case a20 => k_is); (case l20 => k_is); (case c20 => k_is); (case k20 => k_is)
    (case a21 => k_is); (case l21 => k_is); (case c21 => k_is); (case k21 => k_is)
    (case a22 => k_is); (case l22 => k_is); (case c22 => k_is); (case k22 => k_is)
    (case a23 => k_is); (case l23 => k_is); (case c23 => k_is); (case k23 => k_is)
    (case a24 => k_is); (case l24 => k_is); (case c24 => k_is); (case k24 => k_is)
    (case a25 => k_is); (case l25 => k_is); (case c25 => k_is); (case k25 => k_is)
    (case a26 => k_is); (case l26 => k_is); (case c26 => k_is); (case k26 => k_is)
    (case a27 => k_is); (case l27 => k_is); (case c27 => k_is); (case k27 => k_is)
    (case z_abs => k_is); (case z_len => k_is); (case z_max => k_is); (case z_min => k_is); (case z_divmod => k_is); (case z_repr => k_is); (case z_all => k_is); (case z_int => k_is); (case z_str => k_is); (case z_range => k_is); (case z_isinstance => k_is); (case z_bool => k_is); (case z_tuple => k_is); (case z_list => k_is); (case z_zip => k_is); (case z_super => k_is); (case g_LETTERS => k_is); (case g_LONGEST_NAME => k_is)
    (case gD => k_is)
    (case xD => k_is)
    (case rV => decide +kernel)
    (case saD => k_is)
    (case gaD => k_is)
    (case ggD => k_is)
    (case noD => k_is)
    (case clD => k_is)
    (case aI => k_is)
    (case tI => k_is)
    (case lI => k_is)
    (case cI => k_is)
    (case lc => k_is)
    (case v2 => first | rfl | k_is)
    (case fe => first | rfl | decide +kernel | k_is)
    (case ll => k_is)
    (case su => first | ks_is | k_is)
    (case mr => first | k_is | ks_is)
    (case ve => k_is)
    (case stt => k_is)
    (case tp => first | rfl | decide +kernel)
    (case bD => k_is)
    (case tD_ => k_is)
    (case kD => k_is)
    (case hD => k_is)
    (case hn => first | k_is | rfl)
    (case htk => first | k_is | rfl)
    (case mo => first | k_is | ks_is)
    (case gS => k_is)
    (case mkS => k_is)
    (case aS => k_is)
    (case iS => k_is)
    (case kS => k_is)
    (case lS => k_is)
    (case cS => k_is)
    (case kfS => k_is)
    (case lT => k_is)
    (case pg => k_is)
    (case hdS => k_is)
    (case po => k_is)
    (case saS => k_is)
    (case n1_ => k_is)
    (case n2_ => k_is)
    (case gc0 => k_is)
    (case gc1 => k_is)
    (case gcw => k_is)
    (case lc0 => k_is)
    (case lc1 => k_is)
    (case lcw => k_is)
    (case m_mname_a => k_is)
    (case m_mname_l => k_is)
    (case m_mname_c => k_is)
    (case m_mname_k => k_is)
    (case m_mname_i => k_is)
    (case m_measure_a => k_is)
    (case m_measure_l => k_is)
    (case m_measure_c => k_is)
    (case m_measure_k => k_is)
    (case m_measure_i => k_is)
    (case m_m_flour_a => k_is)
    (case m_m_flour_l => k_is)
    (case m_m_flour_c => k_is)
    (case m_m_flour_k => k_is)
    (case m_m_flour_i => k_is)
    (case m_m_water_a => k_is)
    (case m_m_water_l => k_is)
    (case m_m_water_c => k_is)
    (case m_m_water_k => k_is)
    (case m_m_water_i => k_is)
    (case m_m_salt_a => k_is)
    (case m_m_salt_l => k_is)
    (case m_m_salt_c => k_is)
    (case m_m_salt_k => k_is)
    (case m_m_salt_i => k_is)
    (case m_m_thirst_a => k_is)
    (case m_m_thirst_l => k_is)
    (case m_m_thirst_c => k_is)
    (case m_m_thirst_k => k_is)
    (case m_m_thirst_i => k_is)
    (case m_m_price_a => k_is)
    (case m_m_price_l => k_is)
    (case m_m_price_c => k_is)
    (case m_m_price_k => k_is)
    (case m_m_price_i => k_is)
    (case m_eq_a => k_is)
    (case m_eq_l => k_is)
    (case m_eq_c => k_is)
    (case m_eq_k => k_is)
    (case m_eq_i => k_is)
    (case m_repr_a => k_is)
    (case m_repr_l => k_is)
    (case m_repr_c => k_is)
    (case m_repr_k => k_is)
    (case m_repr_i => k_is)
    (case clS => k_is)
    (case moS => first | k_is | ks_is)
    (case al1_NoneType => first | k_is | ks_is | rfl)
    (case al2_NoneType => first | k_is | ks_is | rfl | decide +kernel)
    (case al1_int => first | k_is | ks_is | rfl)
    (case al2_int => first | k_is | ks_is | rfl | decide +kernel)
    (case al1_str => first | k_is | ks_is | rfl)
    (case al2_str => first | k_is | ks_is | rfl | decide +kernel)
    (case al1_list => first | k_is | ks_is | rfl)
    (case al2_list => first | k_is | ks_is | rfl | decide +kernel)
    (case al1_tuple => first | k_is | ks_is | rfl)
    (case al2_tuple => first | k_is | ks_is | rfl | decide +kernel)
