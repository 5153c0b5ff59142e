import PyProof.Rows.All
import Wide.All
import OpenK.AllK
import Wide.FinOn
import HandS.ForExc
import HandS.Comp
import HandS.Wide
import HandS.FStr
import HandS.IsInst
import HandS.Dict
import HandS.CallLocal
import HandS.WideBits
import HandS.Text
import HandS.Steps
import HandS.Walk
import HandS.Deep
import PySem.Challenge.RW_loafshares_k12_whole_fractions_and_names
set_option Elab.async false
set_option linter.all false
set_option maxRecDepth 100000
set_option maxHeartbeats 4000000
/-! Defs that show data by repr: the promise FnG holds where nothing is being shown (no guard stands), as it is behind a law's call. -/
namespace Lf
open PySem PySem.Spec PyProof.Rows L2
/-- a def's promise where no guard stands -/
structure FnG (P : Program) (w : World) (K : PySem.W.Frag) (mg : Str → Option Value) (base : Heap) (CX : CXT) (k : Nat) (f : Addr) (fd : FuncData) (ps : List Str) (sp : Sp) : Prop where
  size : ∀ vs H Q E, sp vs H Q E → vs.length = ps.length
  goes : ∀ (B : Around) (out : List Env) (s : Shared) (H : Hp) (ar : Args) (us : List Value) (vs : List V) (Q : VK) (E : XK),
    Room k B → B.guards = some [] → Env0 P w K mg base B out s H → BindsTo s fd ar (ps.zip us) → Vals vs us → sp vs H Q E →
      codeAny (model P w) B (.call (.ref f) ar) (CR CX out P w H s Q E) s
section
variable {P : Program} {w : World} {K : PySem.W.Frag} {mg : Str → Option Value} {base : Heap} {CX : CXT} {k : Nat} {f : Addr} {fd : FuncData} {ps : List Str} {sp : Sp}
theorem FnG.mono {j : Nat} (F : FnG P w K mg base CX j f fd ps sp) (h : j ≤ k) : FnG P w K mg base CX k f fd ps sp :=
  ⟨F.size, fun B out s H ar us vs Q E r => F.goes B out s H ar us vs Q E (r.mono h)⟩
theorem FnG.of (F : FnOk P w K mg base CX k f fd ps sp) : FnG P w K mg base CX k f fd ps sp :=
  ⟨F.len, fun B out s H ar us vs Q E r _ => F.run B out s H ar us vs Q E r⟩
/-- by its body: behind the entry no guard stands either -/
theorem GfunX {x qual : Str} {st : Stmt} {N : List Str} (F : Fun K x qual st f fd) (S : FnScope N ps (defScope st)) (size : ∀ vs H Q E, sp vs H Q E → vs.length = ps.length)
    (body : ∀ (cdv : Value) (B : Around) (out : List Env) (s : Shared) (H : Hp) (vs : List V) (Q : VK) (E : XK), B.guards = some [] →
      Room k (B.deeper (envOfC qual (defScope st) s.heap.objs.size f cdv)) → sp vs H Q E →
      ∃ t, PSs (cxOf CX P w K mg base N qual (defScope st) f cdv B out s H E) (defBody st) t ∧
        t { nx := fun _ H' => Q .non H', rt := Q } (start N vs) H) : FnG P w K mg base CX (k + 1) f fd ps sp := by
  obtain ⟨oc, od, kV, doc, pm, an, cdv, ct, osl, rfl, lk, hcd⟩ := F.ex
  refine ⟨size, fun B out s H ar us vs Q E hr hg e0 hb r hs => ?_⟩
  have old : ∀ b o, base.get? b = some o → s.heap.get? b = some o := fun b o e => (e0.bs b o e).1
  have kin : K.In s.heap := e0.mod.kin.keeps old
  refine codeAny_call_function hr.depth (kin _ _ lk) rfl S.co S.gen rfl (PySem.W.codeRec_of kin hcd) (hb _ _ _ _ ?_)
  refine wpAny_newFunctionEnv_cells S.kind (fun ⟨n, v⟩ hy => ?_) fun env he s1 x => ?_
  · rcases S.par n (List.of_mem_zip hy).1 with q | q
    · exact Or.inl q
    · exact Or.inr ⟨q, PySem.W.cellsFrom_some _ _ _ (Or.inl q)⟩
  · subst he
    refine ⟨(e0.mod.nolimit.keeps old).keeps x.toInCall.keep, codeAny_func ?_⟩
    obtain ⟨t, ht, hq⟩ := body cdv B out s H vs Q E hg (hr.deeper _) hs
    have I := inv_start (CX := CX) (N := N) (qual := qual) (cd := cdv) (E := E) S hr.hd e0 (size _ _ _ _ hs) r x
    refine wpAny_mono (ht.run [] s1 (start N vs) H _ I hq) (fun fl s' hs' => ?_) fun e s' z => z
    cases fl with
    | ret u =>
      obtain ⟨v, σ', H', J, rv, q⟩ := hs'
      exact ⟨v, H', J.os, J.bare, J.base, J.hok, rv, q⟩
    | next =>
      obtain ⟨σ', H', J, q⟩ := hs'
      exact ⟨V.non, H', J.os, J.bare, J.base, J.hok, rfl, q⟩
    | brk =>
      obtain ⟨_, _, _, q⟩ := hs'
      exact q.elim
    | cont =>
      obtain ⟨_, _, _, q⟩ := hs'
      exact q.elim
theorem Gfun {x qual : Str} {st : Stmt} {N : List Str} (F : Fun K x qual st f fd) (S : FnScope N ps (defScope st)) (size : ∀ vs H Q E, sp vs H Q E → vs.length = ps.length)
    (body : ∀ (cdv : Value) (B : Around) (out : List Env) (s : Shared) (H : Hp) (vs : List V) (Q : VK) (E : XK), B.guards = some [] →
      Room k (B.deeper (envOfC qual (defScope st) s.heap.objs.size f cdv)) → sp vs H Q E →
      ∃ t, PSs (cxOf CX0 P w K mg base N qual (defScope st) f cdv B out s H E).nox (defBody st) t ∧
        t { nx := fun _ H' => Q .non H', rt := Q } (start N vs) H) : FnG P w K mg base CX0 (k + 1) f fd ps sp :=
  GfunX F S size fun cdv B out s H vs Q E hg hr hs => by
    obtain ⟨t, ht, hq⟩ := body cdv B out s H vs Q E hg hr hs
    exact ⟨t, ht.nox, hq⟩
end
/-- a def of the module's name x that keeps sp, by level k -/
structure Cal (P : Program) (w : World) (K : PySem.W.Frag) (mg : Str → Option Value) (base : Heap) (CX : CXT) (k : Nat) (x : Str) (ps : List Str) (sp : Sp) : Prop where
  ex : ∃ (f : Addr) (fd : FuncData), FnG P w K mg base CX k f fd ps sp ∧ (∀ (s : Shared) (us : List Value), us.length = ps.length → BindsTo s fd ⟨us, []⟩ (ps.zip us)) ∧
    (∀ (s : Shared) (us : List Value), us.length = ps.length → BindsTo s fd ⟨[], ps.zip us⟩ (ps.zip us)) ∧
    (∀ (s : Shared) (us : List Value), us.length = ps.length → BindsTo s fd ⟨[], ps.reverse.zip us⟩ (ps.zip us.reverse)) ∧ mg x = some (.ref f) ∧ PySem.W.keepIn K (.ref f) = true
theorem paired_rev {α β : Type} {R : α → β → Prop} : ∀ {xs : List α} {ys : List β}, Paired R xs ys → Paired R xs.reverse ys.reverse := by
  have app : ∀ {xs : List α} {ys : List β} {x : α} {y : β}, Paired R xs ys → R x y → Paired R (xs ++ [x]) (ys ++ [y]) := by
    intro xs ys x y h r
    induction h with
    | nil => exact .cons r .nil
    | cons q _ ih => exact .cons q ih
  intro xs ys h
  induction h with
  | nil => exact .nil
  | cons r _ ih =>
    rw [List.reverse_cons, List.reverse_cons]
    exact app ih r
section
variable {X : Cx} {CX : CXT} {k i : Nat} {f : Addr} {fd : FuncData} {ps : List Str} {sp : Sp} {x : Str} {p pos : Pos} {e : Expr} {es : List Expr} {kws : List Keyword} {t : TA}
/-- what is raised is wished for at the caller's slots -/
theorem run_g {pins : List (Addr × Obj)} {σ : L2.St} {H : Hp} {s : Shared} {Q : VK} {us : List Value} {vs : List V} {ar : Args} {E : XK} (F : FnG X.prog X.w X.K X.mg X.base CX k f fd ps sp) (hr : Room k X.A) (hG : X.A.guards = some [])
    (hx : PassesAt CX X σ E) (I : Inv X pins σ H s) (hb : BindsTo s fd ar (ps.zip us)) (r : Vals vs us) (h : sp vs H Q E) : wpAny (model X.prog X.w) X.A (call (.ref f) ar.pos ar.kw) (EP X pins σ Q) X.xe s := by
  refine wpAny_call (codeAny_mono (F.goes X.A X.stack s H ar us vs Q E hr hG I.env0 hb r h) fun z s' hq => ?_)
  cases z with
  | error e => exact hx pins H s e s' I hq
  | ok fl =>
    cases fl with
    | ret u => exact I.after hq
    | next => exact False.elim hq
    | brk => exact False.elim hq
    | cont => exact False.elim hq
/-- f(e, ..); E: what is wished of an exception at the slots -/
def tG (sp : Sp) (E : L2.St → XK) (t : TA) : TE := fun σ H Q => t σ H fun vs H1 => sp vs H1 Q (E σ)
theorem pe_gS {E : L2.St → XK} (C : Cal X.prog X.w X.K X.mg X.base CX k x ps sp) (hr : Room k X.A) (hG : X.A.guards = some []) (hx : ∀ σ, PassesAt CX X σ (E σ)) (ha : PA X (e :: es) t) (hg : Gl X x := by rfl)
    (hdb : (x == ("__debug__" : Str)) = false := by decide) (he : starEach (e :: es) X.env = (false, eval e X.env) :: starEach es X.env := by rfl)
    (hpl : (backTo pos (starEach es X.env)).any (·.1) = false := by rfl) : PE X (.Call (.Name x p) (e :: es) [] pos) (tG sp E t) := by
  obtain ⟨f, fd, F, hb, _, _, hm, hk⟩ := C.ex
  refine ⟨fun pins s σ H Q I h => wpAny_Call_Name_kw (ld_glob I hg hm (PySem.W.callWith_K (h₀ := X.base) I.ok.mod.kin hk
    (thn (ha.run pos pins s σ H _ I h) fun us s1 ⟨vs, H1, I1, r, q⟩ => ⟨I1.kIn, ?_⟩) he hpl) hdb)⟩
  exact run_g (ar := ⟨us, []⟩) F hr hG (hx σ) I1 (hb s1 us (r.length.symm.trans (F.size _ _ _ _ q))) r q
theorem pass_no {σ : L2.St} : PassesAt CX0 X σ E0 := fun _ _ _ _ _ _ z => z.elim
theorem pe_g (C : Cal X.prog X.w X.K X.mg X.base CX0 k x ps sp) (hr : Room k X.A) (hG : X.A.guards = some []) (ha : PA X (e :: es) t) (hg : Gl X x := by rfl)
    (hdb : (x == ("__debug__" : Str)) = false := by decide) (he : starEach (e :: es) X.env = (false, eval e X.env) :: starEach es X.env := by rfl)
    (hpl : (backTo pos (starEach es X.env)).any (·.1) = false := by rfl) : PE X (.Call (.Name x p) (e :: es) [] pos) (tG sp (fun _ => E0) t) :=
  pe_gS C hr hG (fun _ => pass_no) ha hg hdb he hpl
/-- f(a = e, ..): all by names, in the parameters' order -/
theorem pe_gk (C : Cal X.prog X.w X.K X.mg X.base CX0 k x ps sp) (hr : Room k X.A) (hG : X.A.guards = some []) (ha : PK X kws t) (hks : (backToKw pos (keywordEach kws X.env)).filterMap (·.1) = ps := by rfl) (hg : Gl X x := by rfl)
    (hall : (backToKw pos (keywordEach kws X.env)).all (·.1.isSome) = true := by rfl) (hdb : (x == ("__debug__" : Str)) = false := by decide)
    (hpl : ((backTo pos (starEach [] X.env)).any (·.1) || (backToKw pos (keywordEach kws X.env)).any (·.1.isNone)) = false := by rfl) : PE X (.Call (.Name x p) [] kws pos) (tG sp (fun _ => E0) t) := by
  obtain ⟨f, fd, F, _, hb, _, hm, hk⟩ := C.ex
  refine ⟨fun pins s σ H Q I h => wpAny_Call_Name_kw (ld_glob I hg hm (PySem.W.callWith_KW0 (h₀ := X.base) I.ok.mod.kin hk hall (thn (ha.run pos pins s σ H _ I h) fun us s1 ⟨vs, H1, I1, r, q⟩ => ⟨I1.kIn, ?_⟩) hpl) hdb)⟩
  rw [hks]
  exact run_g (ar := ⟨[], ps.zip us⟩) F hr hG pass_no I1 (hb s1 us (r.length.symm.trans (F.size _ _ _ _ q))) r q
/-- f(b = e, a = ..): all by names, from the last parameter to the first -/
def tGr (sp : Sp) (t : TA) : TE := fun σ H Q => t σ H fun vs H1 => sp vs.reverse H1 Q E0
theorem pe_gr (C : Cal X.prog X.w X.K X.mg X.base CX0 k x ps sp) (hr : Room k X.A) (hG : X.A.guards = some []) (ha : PK X kws t) (hks : (backToKw pos (keywordEach kws X.env)).filterMap (·.1) = ps.reverse := by rfl) (hg : Gl X x := by rfl)
    (hall : (backToKw pos (keywordEach kws X.env)).all (·.1.isSome) = true := by rfl) (hdb : (x == ("__debug__" : Str)) = false := by decide)
    (hpl : ((backTo pos (starEach [] X.env)).any (·.1) || (backToKw pos (keywordEach kws X.env)).any (·.1.isNone)) = false := by rfl) : PE X (.Call (.Name x p) [] kws pos) (tGr sp t) := by
  obtain ⟨f, fd, F, _, _, hb, hm, hk⟩ := C.ex
  refine ⟨fun pins s σ H Q I h => wpAny_Call_Name_kw (ld_glob I hg hm (PySem.W.callWith_KW0 (h₀ := X.base) I.ok.mod.kin hk hall (thn (ha.run pos pins s σ H _ I h) fun us s1 ⟨vs, H1, I1, r, q⟩ => ⟨I1.kIn, ?_⟩) hpl) hdb)⟩
  rw [hks]
  have hl : us.length = ps.length := r.length.symm.trans ((List.length_reverse (as := vs)).symm.trans (F.size _ _ _ _ q))
  exact run_g (ar := ⟨[], ps.reverse.zip us⟩) (us := us.reverse) (vs := vs.reverse) F hr hG pass_no I1 (hb s1 us hl) (paired_rev r) q
/-- d(e, ..) where the i-th slot holds the def of the module's name y -/
def tGl (i : Nat) (mg : Str → Option Value) (y : Str) (sp : Sp) (E : L2.St → XK) (t : TA) : TE := fun σ H Q => ∃ f, mg y = some (.ref f) ∧ σ[i]? = some (some (.ref f)) ∧ t σ H fun vs H1 => sp vs H1 Q (E σ)
theorem pe_gl {E : L2.St → XK} {y : Str} (C : Cal X.prog X.w X.K X.mg X.base CX k y ps sp) (hr : Room k X.A) (hG : X.A.guards = some []) (hx : ∀ σ, PassesAt CX X σ (E σ)) (ha : PA X (e :: es) t) (hN : X.N[i]? = some x := by rfl)
    (hv : Vis X.env.scope x := by first | exact Or.inl rfl | exact Or.inr (Or.inl rfl) | exact Or.inr (Or.inr rfl))
    (hdb : (x == ("__debug__" : Str)) = false := by decide) (hcd : (x == ("__classdict__" : Str)) = false := by decide) (he : starEach (e :: es) X.env = (false, eval e X.env) :: starEach es X.env := by rfl)
    (hpl : (backTo pos (starEach es X.env)).any (·.1) = false := by rfl) : PE X (.Call (.Name x p) (e :: es) [] pos) (tGl i X.mg y sp E t) := by
  obtain ⟨f, fd, F, hb, _, _, hm, hk⟩ := C.ex
  refine ⟨fun pins s σ H Q I h => ?_⟩
  obtain ⟨f', hf', hs, ht⟩ := h
  obtain rfl : f' = f := by
    rw [hm] at hf'
    cases hf'
    rfl
  refine wpAny_Call_Name_kw (thn ((pe_var (pos := p) hN hv hdb hcd).run pins s σ H (fun v H1 => v = .ref f' ∧ H1 = H) I ⟨.ref f', hs, rfl, rfl⟩) fun u s1 ⟨v, H1, I1, r1, q1⟩ => ?_)
  obtain ⟨rfl, rfl⟩ := q1
  cases r1
  refine PySem.W.callWith_K (h₀ := X.base) I.ok.mod.kin hk (thn (ha.run pos pins s1 σ _ _ I1 ht) fun us s2 ⟨vs, H2, I2, r, q⟩ => ⟨I2.kIn, ?_⟩) he hpl
  exact run_g (ar := ⟨us, []⟩) F hr hG (hx σ) I2 (hb s2 us (r.length.symm.trans (F.size _ _ _ _ q))) r q
end
/-! ### repr of data -/
section
variable {X : Cx}
def rShow (K : PySem.W.Frag) : List V → Hp → VK → Prop := fun xs H Q => ∃ (a : Addr) (d : PyData), xs = [.ref a] ∧ Dp K H (.ref a) d ∧
  d.showable = true ∧ d.hasDict = false ∧ d.depth ≤ 30 ∧ d.shown.length ≤ sizeLine ∧ Q (.str d.shown) H
theorem call_show (hG : X.A.guards = some []) {k : Nat} (hr : Room k X.A) : CallR X (.builtin "repr") (rShow X.K) := by
  intro pins s σ H xs us Q I r h
  obtain ⟨a, d, rfl, hd, hs, hn, h30, hz, q⟩ := h
  cases r with
  | cons r1 r2 =>
    cases r2
    obtain ⟨as, rd⟩ := Dp.reads I d _ _ hd r1
    cases r1
    have hu := hr.units
    exact repr_of_reads' rd hs (PyData.noDict_hsm hn) hG (by omega) (fun _ _ z => z) (fun h' u tk hk => ⟨.str d.shown, H, I.kept hk, ⟨u, rfl⟩, q⟩) hz
/-- // by any divisor but 0 -/
def CDivN (_ j : Int) : Prop := j ≠ 0 ∧ j.natAbs.log2 < 9000
theorem op_fdivN : OpR X (binaryOp .FloorDiv) (rI CDivN fun i j => .int (i.fdiv j)) := opI fun i j _ _ _ _ _ hc q =>
  floordiv_int hc.1 q (.inl (PyProof.noPylong_of_log2 hc.2))
end
/-! ### the end of a law's row -/
theorem at_caller {P : Program} {w : World} {K : PySem.W.Frag} {mg mb : Str → Option Value} {k : Nat} {fa a : Addr} {fd : FuncData} {x : Str} {sp : Sp} {s : Shared} {us : List Value} {ns : List Int}
    (KX : K.In s.heap) (hns : s.heap.Ns mainGlobals mg) (hb : s.heap.Ns builtinsNs mb) (hbb : ∀ x : Str, x ≠ "__name__" → mb x = bootBuiltins x) (hlim : s.heap.NoLimit) (hgen : s.gens = #[])
    (ha : s.heap.get? a = some { cls := .type "list", data := .seq us.toArray }) (hi : IntsAre us ns) (hl : ns.length ≤ sizeLine) (hr : Room k callerA)
    (F : ∀ base : Heap, K.In base → base.Ns mainGlobals mg → FnG P w K mg base CX0 k fa fd [x] sp) (hbind : ∀ (s : Shared) (u : Value), BindsTo s fd ⟨[u], []⟩ [(x, u)])
    (hsp : ∀ H : Hp, Only H → SqL K H a (ns.map V.int) → sp [.ref a] H (fun v _ => v = .bl true) E0) :
    codeAny (model P w) callerA (.call (.ref fa) ⟨[.ref a], []⟩) (fun r s' => r = .ok (.ret (.bool true)) ∧ OldK s.heap s'.heap ∧ s'.os = s.os ∧ AllBare s'.gens) s := by
  -- from a heap that tracks at most the script
  have go : ∀ H : Hp, Only H → SqL K H a (ns.map V.int) → HOk P w H s.heap → (∀ b, H b ≠ none → b = a) → (H a ≠ none → K.lookup a = none) →
      codeAny (model P w) callerA (.call (.ref fa) ⟨[.ref a], []⟩) (fun r s' => r = .ok (.ret (.bool true)) ∧ OldK s.heap s'.heap ∧ s'.os = s.os ∧ AllBare s'.gens) s := by
    intro H only sq hok one key
    have keep : ∀ {b : Addr} {o : Obj}, s.heap.get? b = some o → (∀ vs n, o.data ≠ .seq vs n) → (hidT s.heap H).get? b = some o := by
      intro b o e hd
      refine hidT_get e ?_
      cases q : H b with
      | none => rfl
      | some u =>
        obtain rfl : b = a := one b (by rw [q]; exact fun z => nomatch z)
        rw [ha] at e
        cases e
        exact absurd rfl (hd _ _)
    have names : ∀ {b : Addr} {m : Str → Option Value}, s.heap.Ns b m → (hidT s.heap H).Ns b m := by
      rintro b m ⟨o, es, ep, e, d, r⟩
      exact ⟨o, es, ep, keep e (fun vs n z => by rw [d] at z; cases z), d, r⟩
    have kin : K.In (hidT s.heap H) := by
      intro b o e
      refine hidT_get (KX b o e) ?_
      cases q : H b with
      | none => rfl
      | some u =>
        have nn : H b ≠ none := by rw [q]; exact fun z => nomatch z
        obtain rfl : b = a := one b nn
        rw [key nn] at e
        cases e
    have md : Mod K mg (hidT s.heap H) := ⟨kin, names hns, ⟨mb, names hb, hbb⟩, by obtain ⟨mc, h1, h2⟩ := hlim; exact ⟨mc, names h1, h2⟩⟩
    have none_in : ∀ b : Addr, b ∉ frs [] := fun b z => absurd (show b ∈ ([] : List Addr) from z) (by simp)
    have e0 : Env0 P w K mg (hidT s.heap H) callerA [] s H := { frames := rfl, mod := md, bs := fun b o e => of_hidT e, bsz := Nat.le_of_eq (hidT_size _ _), funs := trivial, frf := fun b z => absurd z (none_in b), hok := hok, bare := .of_eq hgen }
    refine codeAny_mono ((F _ kin (names hns)).goes callerA [] s H ⟨[.ref a], []⟩ [.ref a] [.ref a] _ _ hr rfl e0 (hbind s (.ref a)) (.cons rfl .nil) (hsp H only sq)) fun r s' h => ?_
    cases r with
    | error e => exact False.elim h
    | ok fl =>
      cases fl with
      | next => exact False.elim h
      | brk => exact False.elim h
      | cont => exact False.elim h
      | ret u =>
        obtain ⟨v, H', os, bare, un, hok', rv, q⟩ := h
        obtain rfl : v = .bl true := q
        obtain rfl : u = Value.bool true := rv
        refine ⟨rfl, OldK.of_keep fun b o e => ?_, os, bare⟩
        cases q : H b with
        | none => exact un.keep b o e q (none_in b) (by simp)
        | some y =>
          rcases only b with z | ⟨ob, xs, z⟩
          · rw [q] at z
            cases z
          · obtain ⟨e1, _⟩ := hok b _ z
            obtain ⟨e2, _⟩ := hok' b _ (un.frzs b ob _ z)
            rw [e] at e1
            cases e1
            exact e2
  have rv := vals_ints hi
  cases hk : K.lookup a with
  | some o =>
    have e := KX a o hk
    rw [ha] at e
    cases e
    exact go (fun _ => none) (fun _ => Or.inl rfl) (Or.inr ⟨_, us.toArray, _, hk, rfl, rfl, rfl, by rw [List.size_toArray, hi.length]; exact hl, by simpa using rv⟩)
      (fun b u z => by cases (show (none : Option HO) = some u from z)) (fun b z => absurd rfl z) (fun z => absurd rfl z)
  | none =>
    refine go (fun b => if b = a then some (.frz { cls := .type "list", data := .seq us.toArray } (.lst (ns.map V.int))) else none) ?_ (Or.inl (Or.inr ⟨_, if_pos rfl⟩)) ?_ ?_ (fun _ => hk)
    · intro b
      by_cases h : b = a
      · exact Or.inr ⟨_, _, if_pos h⟩
      · exact Or.inl (if_neg h)
    · intro b u z
      by_cases h : b = a
      · cases (if_pos h).symm.trans z
        subst h
        exact ⟨ha, by rw [List.length_map]; exact hl, us, _, rv, ha⟩
      · cases (if_neg h).symm.trans z
    · intro b z
      by_cases h : b = a
      · exact h
      · exact absurd (if_neg h) z
theorem walkG {l : PySem.W.OpenLaw} {n k : Nat} {q : Program} {loose : List Str} {XP : (Str → Option Value) → Heap → Prop} {YP : World → Heap → Prop} {d : DefRec} {K : Params → PySem.W.Frag} {sp : PySem.W.Frag → Sp} {x : Str}
    (hn : l.most = some n) (hn2 : n ≤ sizeLine) (hdf : d.params.defaults = []) (hr : Room k callerA) (hY : ∀ (w : World) (h : Heap), YP w h → (K w.params).In h)
    (F : ∀ (w : World) (mg : Str → Option Value) (fa : Addr) (h : Heap), (K w.params).In h → h.Ns mainGlobals mg → mg d.name = some (.ref fa) →
      ∃ fd : FuncData, (∀ (s : Shared) (u : Value), BindsTo s fd ⟨[u], []⟩ [(x, u)]) ∧ ∀ base : Heap, (K w.params).In base → base.Ns mainGlobals mg → FnG l.prog w (K w.params) mg base CX0 k fa fd [x] (sp (K w.params)))
    (hsp : ∀ (K : PySem.W.Frag) (H : Hp) (a : Addr) (ns : List Int), ns.length ≤ n → Only H → SqL K H a (ns.map V.int) → sp K [.ref a] H (fun v _ => v = .bl true) E0) :
    PySem.W.WalkO q loose XP YP l.row.toRowW d [] (fun f vs => PySem.call f vs) := by
  refine Att.attach_call hn hdf fun w s0 s mg mb fa o pm cd doc a us ns G Y ho hd hcd hmg hobj hints hlen hg => ?_
  obtain ⟨fd, hb, hF⟩ := F w mg fa _ (hY w _ Y) G.T.g hmg
  exact at_caller (hY w _ Y) G.T.g G.T.b G.T.builtins G.T.nolimit hg hobj hints (Nat.le_trans hlen hn2) hr hF hb fun H hO hS => hsp _ H a ns hlen hO hS
end Lf

set_option linter.all false
/-! Lowest terms: plain arithmetic. -/
namespace Lf
/-- the fraction of two whole numbers, d not 0 -/
def low (n d : Int) : Int × Int := ((n * d.sign) / (Nat.gcd n.natAbs d.natAbs : Nat), (d.natAbs : Int) / (Nat.gcd n.natAbs d.natAbs : Nat))
def IsLow (t b : Int) : Prop := 0 < b ∧ Nat.Coprime t.natAbs b.natAbs
theorem gcd_pos {n d : Int} (h : d ≠ 0) : 0 < Nat.gcd n.natAbs d.natAbs := Nat.gcd_pos_of_pos_right _ (by omega)
theorem low_parts {n d : Int} (h : d ≠ 0) : ∃ (u : Int) (v : Nat), n * d.sign = u * (Nat.gcd n.natAbs d.natAbs : Nat) ∧ d.natAbs = v * Nat.gcd n.natAbs d.natAbs ∧ low n d = (u, (v : Int)) ∧ 0 < v ∧ Nat.Coprime u.natAbs v := by
  have hg := gcd_pos (n := n) h
  obtain ⟨v, hv⟩ := Nat.gcd_dvd_right n.natAbs d.natAbs
  obtain ⟨u, hu⟩ : ∃ u : Int, n * d.sign = (Nat.gcd n.natAbs d.natAbs : Nat) * u := by
    obtain ⟨x, hx⟩ := Nat.gcd_dvd_left n.natAbs d.natAbs
    rcases Int.natAbs_eq n with e | e
    · exact ⟨x * d.sign, by rw [← Int.mul_assoc, ← Int.natCast_mul, ← hx, ← e]⟩
    · exact ⟨-(x : Int) * d.sign, by rw [← Int.mul_assoc, Int.mul_neg, ← Int.natCast_mul, ← hx, ← e]⟩
  have hn : n.natAbs = Nat.gcd n.natAbs d.natAbs * u.natAbs := by
    have := congrArg Int.natAbs hu
    rw [Int.natAbs_mul, Int.natAbs_mul, Int.natAbs_sign_of_ne_zero h, Nat.mul_one, Int.natAbs_natCast] at this
    exact this
  have hvp : 0 < v := by
    rcases Nat.eq_zero_or_pos v with e | e
    · rw [e, Nat.mul_zero] at hv
      omega
    · exact e
  have hgi : ((Nat.gcd n.natAbs d.natAbs : Nat) : Int) ≠ 0 := by omega
  refine ⟨u, v, by rw [hu, Int.mul_comm], by rw [Nat.mul_comm]; exact hv, ?_, hvp, ?_⟩
  · unfold low
    rw [hu, Int.mul_ediv_cancel_left _ hgi]
    have : (d.natAbs : Int) = (Nat.gcd n.natAbs d.natAbs : Nat) * (v : Int) := by rw [← Int.natCast_mul, ← hv]
    rw [this, Int.mul_ediv_cancel_left _ hgi]
  · have e : Nat.gcd n.natAbs d.natAbs = Nat.gcd n.natAbs d.natAbs * Nat.gcd u.natAbs v := by
      rw [← Nat.gcd_mul_left, ← hn, ← hv]
    have e' : Nat.gcd n.natAbs d.natAbs * 1 = Nat.gcd n.natAbs d.natAbs * Nat.gcd u.natAbs v := by rw [Nat.mul_one]; exact e
    exact (Nat.eq_of_mul_eq_mul_left hg e').symm
theorem sign_mul_natAbs' (d : Int) : d.sign * (d.natAbs : Int) = d := Int.sign_mul_natAbs d
theorem low_is {n d : Int} (h : d ≠ 0) : IsLow (low n d).1 (low n d).2 := by
  obtain ⟨u, v, _, _, e, hv, hc⟩ := low_parts (n := n) h
  rw [e]
  exact ⟨by show (0 : Int) < v; omega, hc⟩
theorem low_cross {n d : Int} (h : d ≠ 0) : (low n d).1 * d = n * (low n d).2 := by
  obtain ⟨u, v, h1, h2, e, hv, hc⟩ := low_parts (n := n) h
  rw [e]
  show u * d = n * v
  have hg := gcd_pos (n := n) h
  have hgi : ((Nat.gcd n.natAbs d.natAbs : Nat) : Int) ≠ 0 := by omega
  have hs : d.sign * d.sign = 1 := by
    rcases Int.lt_or_gt_of_ne h with q | q
    · rw [Int.sign_eq_neg_one_of_neg q]
      rfl
    · rw [Int.sign_eq_one_of_pos q]
      rfl
  have ed : d = d.sign * ((v : Int) * (Nat.gcd n.natAbs d.natAbs : Nat)) := by
    rw [← Int.natCast_mul, ← h2]
    exact (sign_mul_natAbs' d).symm
  have : (u * d) * ((Nat.gcd n.natAbs d.natAbs : Nat) : Int) = (n * v) * (Nat.gcd n.natAbs d.natAbs : Nat) := by
    have e1 : (u * d) * ((Nat.gcd n.natAbs d.natAbs : Nat) : Int) = (u * (Nat.gcd n.natAbs d.natAbs : Nat)) * d := by
      rw [Int.mul_assoc, Int.mul_assoc, Int.mul_comm d]
    rw [e1, ← h1]
    generalize hG : ((Nat.gcd n.natAbs d.natAbs : Nat) : Int) = G at *
    calc n * d.sign * d = n * d.sign * (d.sign * (v * G)) := by rw [← ed]
      _ = n * (d.sign * d.sign) * (v * G) := by simp only [Int.mul_assoc]
      _ = n * v * G := by rw [hs]; simp only [Int.mul_one, Int.mul_assoc]
  exact Int.eq_of_mul_eq_mul_right hgi this
theorem low_uniq {t b t' b' : Int} (h : IsLow t b) (h' : IsLow t' b') (e : t * b' = t' * b) : t = t' ∧ b = b' := by
  obtain ⟨hb, hc⟩ := h
  obtain ⟨hb', hc'⟩ := h'
  have e1 : t.natAbs * b'.natAbs = t'.natAbs * b.natAbs := by
    have := congrArg Int.natAbs e
    rwa [Int.natAbs_mul, Int.natAbs_mul] at this
  have d1 : b.natAbs ∣ b'.natAbs := by
    have q : b.natAbs ∣ t.natAbs * b'.natAbs := by
      rw [e1]
      exact Nat.dvd_mul_left _ _
    exact Nat.Coprime.dvd_of_dvd_mul_left hc.symm q
  have d2 : b'.natAbs ∣ b.natAbs := by
    have q : b'.natAbs ∣ t'.natAbs * b.natAbs := by
      rw [← e1]
      exact Nat.dvd_mul_left _ _
    exact Nat.Coprime.dvd_of_dvd_mul_left hc'.symm q
  have eb : b.natAbs = b'.natAbs := Nat.dvd_antisymm d1 d2
  have eb' : b = b' := by omega
  subst eb'
  exact ⟨Int.eq_of_mul_eq_mul_right (by omega) e, rfl⟩
/-- the fraction is the one in lowest terms -/
theorem low_eq {n d t b : Int} (h : d ≠ 0) (hl : IsLow t b) (e : t * d = n * b) : low n d = (t, b) := by
  have hi := low_is (n := n) h
  have hx := low_cross (n := n) h
  have key : (low n d).1 * b = t * (low n d).2 := by
    have q : ((low n d).1 * b) * d = (t * (low n d).2) * d := by
      calc ((low n d).1 * b) * d = ((low n d).1 * d) * b := by rw [Int.mul_assoc, Int.mul_comm b d, Int.mul_assoc]
        _ = (n * (low n d).2) * b := by rw [hx]
        _ = (n * b) * (low n d).2 := by rw [Int.mul_assoc, Int.mul_comm _ b, Int.mul_assoc]
        _ = (t * d) * (low n d).2 := by rw [e]
        _ = (t * (low n d).2) * d := by rw [Int.mul_assoc, Int.mul_comm d, Int.mul_assoc]
    exact Int.eq_of_mul_eq_mul_right h q
  obtain ⟨e1, e2⟩ := low_uniq hi hl key
  exact Prod.ext e1 e2
theorem low_self {t b : Int} (h : IsLow t b) : low t b = (t, b) := low_eq (by have := h.1; omega) h rfl
/-- bounds -/
theorem low_top_le {n d : Int} (h : d ≠ 0) : (low n d).1.natAbs ≤ n.natAbs := by
  obtain ⟨u, v, h1, h2, e, hv, hc⟩ := low_parts (n := n) h
  rw [e]
  show u.natAbs ≤ n.natAbs
  have hg := gcd_pos (n := n) h
  have := congrArg Int.natAbs h1
  rw [Int.natAbs_mul, Int.natAbs_mul, Int.natAbs_sign_of_ne_zero h, Nat.mul_one, Int.natAbs_natCast] at this
  rw [this]
  exact Nat.le_mul_of_pos_right _ hg
theorem low_bottom_le {n d : Int} (h : d ≠ 0) : (low n d).2.natAbs ≤ d.natAbs := by
  obtain ⟨u, v, h1, h2, e, hv, hc⟩ := low_parts (n := n) h
  rw [e]
  show (v : Int).natAbs ≤ d.natAbs
  have hg := gcd_pos (n := n) h
  rw [h2, Int.natAbs_natCast]
  exact Nat.le_mul_of_pos_right _ hg
/-- the program's way: over a bottom above 0 -/
theorem low_pos {n d : Int} (h : 0 < d) : low n d = (n / (Nat.gcd n.natAbs d.natAbs : Nat), d / (Nat.gcd n.natAbs d.natAbs : Nat)) := by
  unfold low
  rw [Int.sign_eq_one_of_pos h, Int.mul_one, show (d.natAbs : Int) = d by omega]
theorem low_neg (n d : Int) : low (-n) (-d) = low n d := by
  unfold low
  rw [Int.sign_neg, Int.natAbs_neg, Int.natAbs_neg, Int.neg_mul_neg]
/-- the law's way: by the greatest common one, below 0 where the bottom is -/
theorem low_fdiv_pos {n d : Int} (h : 0 < d) : (n.fdiv (Nat.gcd n.natAbs d.natAbs : Nat), d.fdiv (Nat.gcd n.natAbs d.natAbs : Nat)) = low n d := by
  rw [low_pos h, Int.fdiv_eq_ediv_of_nonneg _ (by omega), Int.fdiv_eq_ediv_of_nonneg _ (by omega)]
theorem low_fdiv_neg {n d : Int} (h : d < 0) : (n.fdiv (-(Nat.gcd n.natAbs d.natAbs : Nat)), d.fdiv (-(Nat.gcd n.natAbs d.natAbs : Nat))) = low n d := by
  have q := low_fdiv_pos (n := -n) (d := -d) (by omega)
  rw [Int.natAbs_neg, Int.natAbs_neg, low_neg] at q
  rw [← q, ← Int.neg_fdiv_neg, ← Int.neg_fdiv_neg d, Int.neg_neg]
/-- the sum less the other one is the one -/
theorem low_back {a b c d : Int} (hl : IsLow a b) (hd : 0 < d) :
    low ((low (a * d + c * b) (b * d)).1 * d - c * (low (a * d + c * b) (b * d)).2) ((low (a * d + c * b) (b * d)).2 * d) = (a, b) := by
  have hb := hl.1
  have h0 : b * d ≠ 0 := Int.ne_of_gt (Int.mul_pos hb hd)
  have hi := low_is (n := a * d + c * b) h0
  have hx := low_cross (n := a * d + c * b) h0
  generalize (low (a * d + c * b) (b * d)).1 = x at *
  generalize (low (a * d + c * b) (b * d)).2 = y at *
  refine low_eq (Int.ne_of_gt (Int.mul_pos hi.1 hd)) hl ?_
  have : x * (b * d) = x * d * b := by rw [Int.mul_comm b d, Int.mul_assoc]
  rw [this] at hx
  rw [Int.sub_mul, hx, Int.add_mul]
  have e1 : c * y * b = c * b * y := by rw [Int.mul_assoc, Int.mul_comm y b, Int.mul_assoc]
  have e2 : a * (y * d) = a * d * y := by rw [Int.mul_comm y d, Int.mul_assoc]
  rw [e1, e2]
  omega
/-- Euclid's steps keep the greatest common one -/
theorem gcd_step (a b : Int) (hb : 0 < b) (ha : 0 ≤ a) : Nat.gcd b.natAbs (a % b).natAbs = Nat.gcd a.natAbs b.natAbs := by
  have e : (a % b).natAbs = a.natAbs % b.natAbs := by
    rw [Int.natAbs_emod_of_nonneg ha]
  rw [e, Nat.gcd_comm b.natAbs, ← Nat.gcd_rec, Nat.gcd_comm]
end Lf

set_option Elab.async false
set_option linter.all false
set_option maxRecDepth 100000
set_option maxHeartbeats 4000000
set_option exponentiation.threshold 3000
/-! What repr shows of data, and that it fits. -/
namespace Lf
open PySem PySem.Spec PyProof.Rows L2
/-- below 2 ^ 900 -/
def Sm (n : Int) : Prop := n.natAbs < 2 ^ 900
theorem Sm.log {n : Int} (h : Sm n) : n.natAbs.log2 < 900 := PySem.Flt.log2_lt_of (by decide) h
theorem Sm.text {n : Int} (h : Sm n) : (Str.ofString (toString n)).length ≤ 901 := by
  rw [PySem.ofString_length]
  exact int_text_length_le (by decide) h.log
/-- data that can be shown: its weight, its depth -/
structure Ft (w k : Nat) (d : PyData) : Prop where
  sh : d.showable = true
  nd : d.hasDict = false
  dp : d.depth ≤ k
  lv : d.leavesShort 1000 = true
  wt : d.weight ≤ w
structure FtA (w k : Nat) (ds : List PyData) : Prop where
  sh : PyData.showableAll ds = true
  nd : PyData.hasDictAll ds = false
  dp : PyData.depthAll ds ≤ k
  lv : PyData.leavesShortAll 1000 ds = true
  wt : PyData.weightAll ds ≤ w
theorem Ft.int {n : Int} (h : Sm n) : Ft 900 0 (.int n) := by
  have hl := h.log
  refine ⟨?_, ?_, ?_, ?_, ?_⟩
  · simp only [PyData.showable, decide_eq_true_eq]
    omega
  · simp only [PyData.hasDict]
  · simp only [PyData.depth, Nat.le_refl]
  · simp only [PyData.leavesShort, decide_eq_true_eq, PyData.shown]
    exact decide_eq_true (Nat.le_trans h.text (show 901 ≤ 1000 by decide))
  · simp only [PyData.weight]
    split <;> omega
theorem Ft.bool (b : Bool) : Ft 0 0 (.bool b) := ⟨by simp only [PyData.showable], by simp only [PyData.hasDict], by simp only [PyData.depth, Nat.le_refl], by simp only [PyData.leavesShort], by simp only [PyData.weight, Nat.le_refl]⟩
theorem Ft.none : Ft 0 0 .none := ⟨by simp only [PyData.showable], by simp only [PyData.hasDict], by simp only [PyData.depth, Nat.le_refl], by simp only [PyData.leavesShort], by simp only [PyData.weight, Nat.le_refl]⟩
/-- a text whose signs are signs -/
def Sg (x : Str) : Prop := ∀ c ∈ x.cps.toList, c < 16 ^ 8
theorem Sg.of (s : String) : Sg (Str.ofString s) := by
  intro c hc
  rw [Str.ofString_eq_toList] at hc
  obtain ⟨ch, _, rfl⟩ := List.mem_map.mp (show c ∈ s.toList.map Char.toNat from hc)
  exact ch.val.toNat_lt
theorem Sg.app {x y : Str} (h : Sg x) (k : Sg y) : Sg (x ++ y) := by
  intro c hc
  have e : (x ++ y).cps.toList = x.cps.toList ++ y.cps.toList := by
    rw [show (x ++ y).cps = x.cps ++ y.cps from rfl, Array.toList_append]
  rw [e] at hc
  rcases List.mem_append.mp hc with q | q
  · exact h c q
  · exact k c q
theorem Ft.str {w : Nat} {x : Str} (h : Sg x) (hw : x.length ≤ w) : Ft w 0 (.str x) := ⟨by simp only [PyData.showable], by simp only [PyData.hasDict], by simp only [PyData.depth, Nat.le_refl],
  by simp only [PyData.leavesShort, List.all_eq_true, decide_eq_true_eq]; exact h, by simp only [PyData.weight]; exact hw⟩
theorem FtA.nil : FtA 0 0 [] := ⟨by simp only [PyData.showableAll], by simp only [PyData.hasDictAll], by simp only [PyData.depthAll, Nat.le_refl], by simp only [PyData.leavesShortAll], by simp only [PyData.weightAll, Nat.le_refl]⟩
theorem FtA.cons {w k w' k' : Nat} {d : PyData} {ds : List PyData} (h : Ft w k d) (r : FtA w' k' ds) : FtA (w + 1 + w') (max k k') (d :: ds) := by
  refine ⟨?_, ?_, ?_, ?_, ?_⟩
  · simp only [PyData.showableAll, h.sh, r.sh, Bool.and_self]
  · simp only [PyData.hasDictAll, h.nd, r.nd, Bool.or_self]
  · simp only [PyData.depthAll]
    have := h.dp
    have := r.dp
    omega
  · simp only [PyData.leavesShortAll, h.lv, r.lv, Bool.and_self]
  · simp only [PyData.weightAll]
    have := h.wt
    have := r.wt
    omega
theorem Ft.list {w k : Nat} {ds : List PyData} (r : FtA w k ds) : Ft w (k + 1) (.list ds) :=
  ⟨by simp only [PyData.showable]; exact r.sh, by simp only [PyData.hasDict]; exact r.nd, by simp only [PyData.depth]; exact Nat.succ_le_succ r.dp, by simp only [PyData.leavesShort]; exact r.lv, by simp only [PyData.weight]; exact r.wt⟩
theorem Ft.tuple {w k : Nat} {ds : List PyData} (r : FtA w k ds) : Ft w (k + 1) (.tuple ds) :=
  ⟨by simp only [PyData.showable]; exact r.sh, by simp only [PyData.hasDict]; exact r.nd, by simp only [PyData.depth]; exact Nat.succ_le_succ r.dp, by simp only [PyData.leavesShort]; exact r.lv, by simp only [PyData.weight]; exact r.wt⟩
/-- what repr asks -/
structure Showy (d : PyData) : Prop where
  sh : d.showable = true
  nd : d.hasDict = false
  dp : d.depth ≤ 30
  ln : d.shown.length ≤ sizeLine
theorem Ft.showy {w k : Nat} {d : PyData} (h : Ft w k d) (hk : k ≤ 30 := by decide) (hw : w ≤ 16000 := by decide) : Showy d := by
  refine ⟨h.sh, h.nd, Nat.le_trans h.dp hk, ?_⟩
  have e := PyData.shown_le 1000 (by decide) d h.lv
  have e2 := h.wt
  have e3 : (1000 + 2) * d.weight ≤ 1002 * 16000 := Nat.mul_le_mul (Nat.le_refl _) (Nat.le_trans e2 hw)
  have e4 := sizeLine_eq
  omega
/-- a fraction -/
def tD (t : Int × Int) : PyData := .tuple [.int t.1, .int t.2]
theorem Ft.two {t : Int × Int} (h : Sm t.1) (k : Sm t.2) : Ft 1802 1 (tD t) := Ft.tuple (.cons (.int h) (.cons (.int k) .nil))
theorem dp2 {K : PySem.W.Frag} {H : Hp} {p : Addr} {x y : Int} (h : SqT K H p [.int x, .int y]) : Dp K H (.ref p) (tD (x, y)) := .tup h (.cons (.int x) (.cons (.int y) .nil))
theorem dp2' {K : PySem.W.Frag} {H : Hp} {p : Addr} {t : Int × Int} (h : H p = some (.tup [.int t.1, .int t.2])) : Dp K H (.ref p) (tD t) := .tup (.inl (.inl h)) (.cons (.int _) (.cons (.int _) .nil))
mutual
theorem Dp.same {K : PySem.W.Frag} {H H' : Hp} (s : Same H H') : ∀ (d : PyData) (v : V), Dp K H v d → Dp K H' v d
  | .none, _, h => by cases h; exact .non
  | .bool b, _, h => by cases h; exact .bl b
  | .int i, _, h => by cases h; exact .int i
  | .str x, _, h => by cases h; exact .str x
  | .list ds, _, h => by
    cases h with
    | lst h1 h2 => exact .lst (s.seq h1) (DpAll.same s ds _ h2)
  | .tuple ds, _, h => by
    cases h with
    | tup h1 h2 =>
      refine .tup ?_ (DpAll.same s ds _ h2)
      rcases h1 with (h | ⟨o, h⟩) | h
      · exact .inl (.inl (s _ _ h))
      · exact .inl (.inr ⟨o, s _ _ h⟩)
      · exact .inr h
  | .dict _, _, h => by cases h
theorem DpAll.same {K : PySem.W.Frag} {H H' : Hp} (s : Same H H') : ∀ (ds : List PyData) (vs : List V), DpAll K H vs ds → DpAll K H' vs ds
  | [], _, h => by cases h; exact .nil
  | d :: ds, _, h => by
    cases h with
    | cons h1 h2 => exact .cons (Dp.same s d _ h1) (DpAll.same s ds _ h2)
end
end Lf

set_option Elab.async false
set_option linter.all false
set_option maxRecDepth 100000
set_option maxHeartbeats 4000000
set_option exponentiation.threshold 3000
/-! Things of any kind: data without dicts, and dicts of plain things. -/
namespace Lf
open PySem PySem.Spec PyProof.Rows L2
def kD : Key → PyData
  | .inl i => .int i
  | .inr x => .str x
inductive Sc : V → PyData → Prop
  | non : Sc .non .none
  | bl (b : Bool) : Sc (.bl b) (.bool b)
  | int (i : Int) : Sc (.int i) (.int i)
  | str (x : Str) : Sc (.str x) (.str x)
/-- a thing: data, or a dict of plain things -/
inductive Dq (K : PySem.W.Frag) (H : Hp) : V → PyData → Prop
  | dp {v : V} {d : PyData} (h : Dp K H v d) (n : d.hasDict = false) : Dq K H v d
  | dic {a : Addr} {kvs : List (Key × V)} {ds : List (PyData × PyData)} (h : H a = some (.dK kvs)) (p : Paired (fun (kv : Key × V) (d : PyData × PyData) => d.1 = kD kv.1 ∧ Sc kv.2 d.2) kvs ds) : Dq K H (.ref a) (.dict ds)
theorem Dq.same {K : PySem.W.Frag} {H H' : Hp} {v : V} {d : PyData} (s : Same H H') (h : Dq K H v d) : Dq K H' v d := by
  cases h with
  | dp h n => exact .dp (Dp.same s _ _ h) n
  | dic h p => exact .dic (s _ _ h) p
section
variable {X : Cx} {pins : List (Addr × Obj)} {σ : L2.St} {H : Hp} {s : Shared}
theorem Sc.reads {v : V} {d : PyData} {u : Value} {h : Heap} (k : Sc v d) (r : RelV v u) : Reads h u d [] := by
  cases k with
  | non => cases r; exact .none
  | bl b => cases r; exact .bool b
  | int i => obtain ⟨t, rfl⟩ := r; exact .int i t
  | str x => obtain ⟨t, rfl⟩ := r; exact .str x t
theorem dic_reads {P : Program} {w : World} {h : Heap} : ∀ {es : List DictEntry} {vs : List (Key × Value)} {kvs : List (Key × V)} {ds : List (PyData × PyData)}, Pairs (mixKind P w) es vs → KV kvs vs →
    Paired (fun (kv : Key × V) (d : PyData × PyData) => d.1 = kD kv.1 ∧ Sc kv.2 d.2) kvs ds → ReadsAll h (es.map (·.key)) (ds.map (·.1)) [] ∧ ReadsAll h (es.map (·.val)) (ds.map (·.2)) []
  | _, _, _, _, .nil, kv, p => by
    cases kv
    cases p
    exact ⟨.nil, .nil⟩
  | _, _, _, _, .cons (e := e) hk hv r, kv, p => by
    cases kv with
    | cons q kv =>
      cases p with
      | cons z p =>
        obtain ⟨i1, i2⟩ := dic_reads r kv p
        obtain ⟨q1, q2⟩ := q
        obtain ⟨z1, z2⟩ := z
        refine ⟨?_, ?_⟩
        · rw [List.map_cons, List.map_cons]
          refine ReadsAll.cons (as := []) (bs := []) ?_ i1
          rw [z1, q1]
          rcases keyIs_shape (show keyIs _ e.key = true from hk) with ⟨i, t, e1, e2⟩ | ⟨x, t, e1, e2⟩
          · rw [e1, e2]
            exact .int i t
          · rw [e1, e2]
            exact .str x t
        · rw [List.map_cons, List.map_cons]
          refine ReadsAll.cons (as := []) (bs := []) ?_ i2
          rw [hv]
          exact z2.reads q2
theorem Dq.reads (I : Inv X pins σ H s) {v : V} {d : PyData} {u : Value} (h : Dq X.K H v d) (r : RelV v u) : ∃ as, Reads s.heap u d as ∧ (d.hasDict = true → sysModules ∉ as) := by
  cases h with
  | dp h n =>
    obtain ⟨as, q⟩ := Dp.reads I d v u h r
    exact ⟨as, q, fun z => by rw [n] at z; cases z⟩
  | @dic a kvs ds h p =>
    cases r
    obtain ⟨hz, hs, vs, kv, o, es, ep, h1, h2, h3, h4, h5, h6⟩ := (show ObjOk X.prog X.w H s.heap a (.dK kvs) from I.hok a _ h)
    obtain ⟨i1, i2⟩ := dic_reads (h := s.heap) h5 kv p
    refine ⟨_, Reads.dict h1 h2.1 h3 i1 i2, fun _ hm => ?_⟩
    have : sysModules = a := by simpa using hm
    rw [this] at hs
    simp at hs
/-- the built-in type of a thing -/
def tyN : PyData → String
  | .none => "NoneType"
  | .bool _ => "bool"
  | .int _ => "int"
  | .str _ => "str"
  | .list _ => "list"
  | .tuple _ => "tuple"
  | .dict _ => "dict"
theorem Dp.ty {K : PySem.W.Frag} {v : V} {d : PyData} (h : Dp K H v d) : TyX K H v (.type (tyN d)) := by
  cases h with
  | non => exact .base .non
  | bl b => exact .base (.bl b)
  | int i => exact .base (.int i)
  | str x => exact .base (.str x)
  | lst h1 _ =>
    rcases h1 with (h | ⟨o, h⟩) | ⟨o, arr, n, hk, hc, _⟩
    · exact .base (.lst h)
    · exact .base (.frz h)
    · exact .kList hk hc
  | tup h1 _ =>
    rcases h1 with (h | ⟨o, h⟩) | ⟨o, arr, n, hk, hc, _⟩
    · exact .base (.tup h)
    · exact .fTuple h
    · exact .kTuple hk hc
theorem Dq.ty {K : PySem.W.Frag} {v : V} {d : PyData} (h : Dq K H v d) : TyX K H v (.type (tyN d)) := by
  cases h with
  | dp h _ => exact Lf.Dp.ty h
  | dic h _ => exact .base (.dK h)
/-! ### repr of a list of things -/
inductive DqAll (K : PySem.W.Frag) (H : Hp) : List V → List PyData → Prop
  | nil : DqAll K H [] []
  | cons {v : V} {vs : List V} {d : PyData} {ds : List PyData} : Dq K H v d → DqAll K H vs ds → DqAll K H (v :: vs) (d :: ds)
theorem DqAll.same {K : PySem.W.Frag} {H H' : Hp} (s : Same H H') : ∀ {vs : List V} {ds : List PyData}, DqAll K H vs ds → DqAll K H' vs ds
  | _, _, .nil => .nil
  | _, _, .cons a r => .cons (a.same s) (DqAll.same s r)
theorem DqAll.get {K : PySem.W.Frag} {H : Hp} : ∀ {vs : List V} {ds : List PyData} {i : Nat} {v : V}, DqAll K H vs ds → vs[i]? = some v → ∃ d, ds[i]? = some d ∧ Dq K H v d
  | _, _, _, _, .nil, e => by simp at e
  | _, _, 0, _, .cons a _, e => by
    simp at e
    subst e
    exact ⟨_, rfl, a⟩
  | _, _, i + 1, v, .cons _ r, e => by
    obtain ⟨d, h1, h2⟩ := DqAll.get (i := i) (v := v) r (by simpa using e)
    exact ⟨d, by simpa using h1, h2⟩
theorem DqAll.app {K : PySem.W.Frag} {H : Hp} : ∀ {vs us : List V} {ds es : List PyData}, DqAll K H vs ds → DqAll K H us es → DqAll K H (vs ++ us) (ds ++ es)
  | _, _, _, _, .nil, h => h
  | _, _, _, _, .cons a r, h => .cons a (DqAll.app r h)
theorem DqAll.length {K : PySem.W.Frag} {H : Hp} : ∀ {vs : List V} {ds : List PyData}, DqAll K H vs ds → vs.length = ds.length
  | _, _, .nil => rfl
  | _, _, .cons _ r => congrArg Nat.succ (DqAll.length r)
theorem dq_repr (I : Inv X pins σ H s) : ∀ {vs : List V} {ds : List PyData} {us : List Value}, DqAll X.K H vs ds → Vals vs us → PyData.showableAll ds = true → (∀ t ∈ PyData.shownAll ds, t.length ≤ sizeLine) →
    ∃ bs as, ReadAtMost s.heap (PyData.depthAll ds) bs ∧ ReprAllK X.prog X.w bs s.heap (PyData.depthAll ds) us (PyData.shownAll ds) ∧ ReadsAll s.heap us ds as
  | _, _, _, .nil, r, _, _ => by
    cases r
    exact ⟨[], [], (fun _ h => nomatch h), by simp only [PyData.shownAll]; exact .nil, .nil⟩
  | _, _, _, .cons (d := d) (ds := ds) a q, r, hs, hz => by
    cases r with
    | cons r1 r2 =>
      have hs' : d.showable = true ∧ PyData.showableAll ds = true := by simpa [PyData.showableAll] using hs
      have hz' : d.shown.length ≤ sizeLine ∧ ∀ t ∈ PyData.shownAll ds, t.length ≤ sizeLine := by
        simp only [PyData.shownAll] at hz
        exact ⟨hz _ List.mem_cons_self, fun t ht => hz t (List.mem_cons_of_mem _ ht)⟩
      obtain ⟨as1, rd, hsm⟩ := a.reads I r1
      obtain ⟨b1, m1, k1⟩ := ReprK.of_reads (prog := X.prog) (w := X.w) rd hs'.1 hsm hz'.1
      obtain ⟨b2, as2, m2, k2, rd2⟩ := dq_repr I q r2 hs'.2 hz'.2
      have l1 : d.depth ≤ PyData.depthAll (d :: ds) := by simp only [PyData.depthAll]; omega
      have l2 : PyData.depthAll ds ≤ PyData.depthAll (d :: ds) := by simp only [PyData.depthAll]; omega
      refine ⟨b1 ++ b2, as1 ++ as2, ?_, ?_, .cons rd rd2⟩
      · intro b hb
        rcases List.mem_append.mp hb with z | z
        · obtain ⟨d', as', r', e'⟩ := m1 b z
          exact ⟨d', as', r', Nat.le_trans e' l1⟩
        · obtain ⟨d', as', r', e'⟩ := m2 b z
          exact ⟨d', as', r', Nat.le_trans e' l2⟩
      · simp only [PyData.shownAll]
        exact .cons ((k1.more (fun b hb => List.mem_append_left _ hb)).level_le l1) (k2.more_le (fun b hb => List.mem_append_right _ hb) l2)
def rShowQ (K : PySem.W.Frag) : List V → Hp → VK → Prop := fun xs H Q => ∃ (a : Addr) (v : V) (vs : List V) (ds : List PyData), xs = [.ref a] ∧ SqL K H a (v :: vs) ∧ DqAll K H (v :: vs) ds ∧
  PyData.showableAll ds = true ∧ PyData.depthAll ds ≤ 29 ∧ (PyData.shown (.list ds)).length ≤ sizeLine ∧ Q (.str (PyData.shown (.list ds))) H
theorem call_showQ (hG : X.A.guards = some []) {k : Nat} (hr : Room k X.A) : CallR X (.builtin "repr") (rShowQ X.K) := by
  intro pins s σ H xs us Q I r h
  obtain ⟨a, v, vs, ds, rfl, hS, hd, hs, h30, hz, q⟩ := h
  cases r with
  | cons r1 r2 =>
    cases r2
    cases r1
    have hu := hr.units
    obtain ⟨its, rv, ⟨o, n, ho, hc, _, hdt⟩, _⟩ := I.list hS
    have hz' : (listText (PyData.shownAll ds)).length ≤ sizeLine := by simpa only [PyData.shown] using hz
    obtain ⟨bs, as, m, k, rd⟩ := dq_repr I hd rv hs (fun t ht => Nat.le_trans (listText_mem_le ht) hz')
    have rl : Reads s.heap (.ref a) (.list ds) (a :: as) := Reads.list ho hc hdt rd
    have hna : a ∉ bs := not_mem_of_deeper rl (by simp only [PyData.depth]; omega) m
    cases its with
    | nil => cases rv
    | cons u us' =>
      refine call_repr_slot (T := "list") (by omega) ⟨o, ho, hc⟩ F.slot_list_repr.toG ?_
      refine call_list_reprK ho hc hdt hna (by simpa using k.length_eq) (fun i y e => k.item i y (by simpa using e)) hG (fun b _ => Clear.nil b) (by show X.A.units + 1 + (PyData.depthAll ds + 1) < cLine; omega) (fun _ _ z => z) (fun h' u tk hk => ?_) hz'
      refine ⟨_, _, rfl, ⟨.str (PyData.shown (.list ds)), H, I.kept hk, ⟨u, ?_⟩, q⟩⟩
      simp only [PyData.shown]
end
/-- a statement and the rest, what follows shown once from what holds between them -/
def tMid (t u : TS) : TS := fun D σ H => ∃ Md : L2.St → Hp → Prop, t { D with nx := Md } σ H ∧ ∀ σ' H', Md σ' H' → u D σ' H'
theorem pss_mid {X : Cx} {st : Stmt} {more : List Stmt} {t u : TS} (h1 : PS X st t) (h2 : PSs X more u) : PSs X (st :: more) (tMid t u) := by
  refine ⟨fun pins s σ H D I ⟨Md, hm, hu⟩ => wpAny_execs_cons (thn (h1.run pins s σ H { D with nx := Md } I hm) fun f s1 q => ?_)⟩
  cases f with
  | next =>
    obtain ⟨σ', H', I', q⟩ := q
    exact h2.run pins s1 σ' H' D I' (hu σ' H' q)
  | ret v => exact q
  | brk => exact q
  | cont => exact q
/-- what repr asks of a list of things -/
structure ShowA (ds : List PyData) : Prop where
  sh : PyData.showableAll ds = true
  dp : PyData.depthAll ds ≤ 29
  ln : (PyData.shown (.list ds)).length ≤ sizeLine
end Lf

set_option Elab.async false
set_option linter.all false
set_option maxRecDepth 100000
set_option maxHeartbeats 4000000
set_option exponentiation.threshold 3000
namespace Lf
open PySem PySem.Spec PyProof.Rows L2
theorem same_new {H : Hp} {p : Addr} {o : HO} (h : H p = none) : Same H (upd H p o) := fun b x e => by
  rw [upd_ne (ne_of_none e h)]
  exact e
theorem same_rfl {H : Hp} : Same H H := fun _ _ e => e
theorem bt_abs : bootBuiltins "abs" = some (.builtin "abs") := by decide +kernel
theorem bt_len : bootBuiltins "len" = some (.builtin "len") := by decide +kernel
theorem bt_max : bootBuiltins "max" = some (.builtin "max") := by decide +kernel
theorem bt_min : bootBuiltins "min" = some (.builtin "min") := by decide +kernel
theorem bt_divmod : bootBuiltins "divmod" = some (.builtin "divmod") := by decide +kernel
theorem bt_repr : bootBuiltins "repr" = some (.builtin "repr") := by decide +kernel
theorem bt_all : bootBuiltins "all" = some (.builtin "all") := by decide +kernel
theorem bt_int : bootBuiltins "int" = some (.type "int") := by decide +kernel
theorem bt_str : bootBuiltins "str" = some (.type "str") := by decide +kernel
/-- the built-in names that nothing of the text hides -/
structure Blt (mg : Str → Option Value) : Prop where
  abs : mg "abs" = none
  len : mg "len" = none
  max : mg "max" = none
  min : mg "min" = none
  divmod : mg "divmod" = none
  repr : mg "repr" = none
  all : mg "all" = none
  int : mg "int" = none
  str : mg "str" = none
  range : mg "range" = none
/-- an own class under ValueError -/
structure ExT (K : PySem.W.Frag) (mg : Str → Option Value) (x : Str) (C : Addr) : Prop where
  g : mg x = some (.ref C)
  x : PySem.W.excIn K C [.type "ValueError", .type "Exception", .type "BaseException", .type "object"] "ValueError.__new__" = true
  k : PySem.W.keepIn K (.ref C) = true
  b : PySem.W.subIn K (.ref C) (.type "BaseException") = some true
  t : PySem.W.typeIn K (.ref C) = some (.type "type")
  m : PySem.W.exmOne K (.ref C) (.ref C) = some true
section
variable {K : PySem.W.Frag} {H : Hp} {p : Addr} {x y : V} {Q : VK}
theorem ixT0 (h : SqT K H p [x, y]) (q : Q x H) : rIxT K (.ref p) (.int 0) H Q := ⟨p, _, 0, _, rfl, rfl, h, rfl, q⟩
theorem ixT1 (h : SqT K H p [x, y]) (q : Q y H) : rIxT K (.ref p) (.int 1) H Q := ⟨p, _, 1, _, rfl, rfl, h, rfl, q⟩
theorem ixL0 (h : SqL K H p [x, y]) (q : Q x H) : rIxL K (.ref p) (.int 0) H Q := ⟨p, _, 0, _, rfl, rfl, h, rfl, q⟩
theorem ixL1 (h : SqL K H p [x, y]) (q : Q y H) : rIxL K (.ref p) (.int 1) H Q := ⟨p, _, 1, _, rfl, rfl, h, rfl, q⟩
theorem tup2 {a b : V} (q : ∀ p, H p = none → Q (.ref p) (upd H p (.tup [a, b]))) : [a, b].length ≤ sizeLine ∧ ∀ p, H p = none → Q (.ref p) (upd H p (.tup [a, b])) := ⟨by show 2 ≤ sizeLine; decide, q⟩
theorem lst2 {a b : V} (q : ∀ p, H p = none → Q (.ref p) (upd H p (.lst [a, b]))) : [a, b].length ≤ sizeLine ∧ ∀ p, H p = none → Q (.ref p) (upd H p (.lst [a, b])) := ⟨by show 2 ≤ sizeLine; decide, q⟩
end
theorem sm_t {K : PySem.W.Frag} {H H' : Hp} {a : Addr} {xs : List V} (s : Same H H') (h : SqT K H a xs) : SqT K H' a xs := by
  rcases h with (h | ⟨o, h⟩) | h
  · exact .inl (.inl (s _ _ h))
  · exact .inl (.inr ⟨o, s _ _ h⟩)
  · exact .inr h
def topS (i : Nat) : Stmt := PySem.Challenge.pw_loafshares_k12_whole_fractions_and_names.main.body.getD i (.Pass ⟨0, 0, 0, 0⟩)
section
variable {P : Program} {w : World} {K : PySem.W.Frag} {mg : Str → Option Value} {base : Heap}
/-! ### common -/
abbrev sCom : Stmt := topS 4
theorem scCom : FnScope ["one", "other"] ["one", "other"] (defScope sCom) := ⟨rfl, rfl, rfl, by decide +kernel, rfl, by decide +kernel, by decide +kernel⟩
def spCom : Sp := fun vs H Q _ => ∃ (a b : Int), vs = [.int a, .int b] ∧ 0 ≤ a ∧ 0 ≤ b ∧ Q (.int (Nat.gcd a.natAbs b.natAbs : Nat)) H
theorem ok_com {f : Addr} {fd : FuncData} (F : Fun K "common" "common" sCom f fd) : FnG P w K mg base CX0 1 f fd ["one", "other"] spCom := by
  refine Gfun F scCom (fun vs H Q E h => ?_) (fun cdv A outer s H vs Q E hg hr h => ?_)
  · obtain ⟨a, b, rfl, _⟩ := h
    rfl
  · obtain ⟨a, b, rfl, ha, hb, q⟩ := h
    refine ⟨_, pss_cons (ps_while PassesOwn.never (pt_cmpR op_ne (pv 1) pe_int (nomark _))
        (pss_one (ps_par (i := 0) (j := 1) rfl scCom.nd rfl rfl (by decide) rfl rfl (pa_cons (pv 1) (pa_cons (pe_op op_mod (pv 0) (pv 1)) pa_nil)) (by rfl))))
      (pss_one (ps_ret (pv 0))), ?_⟩
    refine while_by (fun σ H' => ∃ x y : Int, σ = [some (.int x), some (.int y)] ∧ 0 ≤ x ∧ 0 ≤ y ∧ Nat.gcd x.natAbs y.natAbs = Nat.gcd a.natAbs b.natAbs ∧ H' = H)
      (fun σ _ => match σ with | [_, some (.int y)] => y.toNat | _ => 0) ⟨a, b, rfl, ha, hb, rfl, rfl⟩ ?_ ?_
    · rintro σ H1 ⟨x, y, rfl, hx, hy, hg, rfl⟩
      refine ⟨_, rfl, rfl, _, rfl, ite2 (fun e => ?_) (fun e => ?_)⟩
      · have hy0 : y ≠ 0 := fun z => by
          rw [z] at e
          exact absurd e (by decide)
        have hyp : 0 < y := by omega
        refine ⟨_, rfl, _, rfl, _, rfl, x, y, rfl, rfl, hyp, _, _, rfl, ⟨y, x % y, rfl, hy, Int.emod_nonneg _ hy0, (gcd_step x y hyp hx).trans hg, rfl⟩, ?_⟩
        show (x % y).toNat < y.toNat
        have := Int.emod_lt_of_pos x hyp
        omega
      · have hy0 : y = 0 := by
          by_cases z : y = 0
          · exact z
          · exact absurd (by rw [decide_eq_false (fun q => z (V.int.inj q))]; rfl) e
        subst hy0
        refine ⟨_, rfl, ?_⟩
        rw [← hg, Int.natAbs_zero, Nat.gcd_zero_right] at q
        rw [show (x.natAbs : Int) = x by omega] at q
        exact q
    · rintro σ H1 Q1 Q2 hq ⟨u, hu, h1, h2, h3, h4⟩
      exact ⟨u, hu, h1, h2, h3, hq _ _ h4⟩
def Mid (n : Int) : Prop := n.natAbs < 2 ^ 2000
theorem Mid.log {n : Int} (h : Mid n) : n.natAbs.log2 < 9000 := Nat.lt_of_lt_of_le (PySem.Flt.log2_lt_of (by decide) h) (by decide)
def Two (H : Hp) (Q : VK) (t : Int × Int) : Prop := ∀ H' p, Same H H' → H' p = some (.tup [.int t.1, .int t.2]) → Q (.ref p) H'
theorem gcd_mid {n d : Int} (h : d ≠ 0) (hd : Mid d) : Mid ((Nat.gcd n.natAbs d.natAbs : Nat) : Int) := by
  unfold Mid at hd ⊢
  rw [Int.natAbs_natCast]
  exact Nat.lt_of_le_of_lt (Nat.le_of_dvd (by omega) (Nat.gcd_dvd_right _ _)) hd
theorem abs_is (n : Int) : (if n < 0 then -n else n) = (n.natAbs : Int) := by
  split <;> omega
theorem Sm.mid {n : Int} (h : Sm n) : Mid n := Nat.lt_of_lt_of_le h (Nat.pow_le_pow_right (by decide) (by decide))
theorem Sm.mulW {a b : Int} (ha : Sm a) (hb : Sm b) : CMulW a b := by
  have := ha.log
  have := hb.log
  unfold CMulW
  omega
theorem Sm.prod {a b : Int} (ha : Sm a) (hb : Sm b) : (a * b).natAbs < 2 ^ 1800 := by
  rw [Int.natAbs_mul, show (2 : Nat) ^ 1800 = 2 ^ 900 * 2 ^ 900 by rw [← Nat.pow_add]]
  exact Nat.mul_lt_mul'' ha hb
theorem Sm.mul {a b : Int} (ha : Sm a) (hb : Sm b) : Mid (a * b) := Nat.lt_of_lt_of_le (Sm.prod ha hb) (Nat.pow_le_pow_right (by decide) (by decide))
theorem two_pow : (2 : Nat) ^ 1800 + 2 ^ 1800 = 2 ^ 1801 := (Nat.two_pow_succ 1800).symm
theorem Sm.add {a b c d : Int} (ha : Sm a) (hb : Sm b) (hc : Sm c) (hd : Sm d) : Mid (a * b + c * d) := by
  have h1 := Sm.prod ha hb
  have h2 := Sm.prod hc hd
  have h3 := Int.natAbs_add_le (a * b) (c * d)
  have h4 : (2 : Nat) ^ 1801 ≤ 2 ^ 2000 := Nat.pow_le_pow_right (by decide) (by decide)
  have h5 := two_pow
  unfold Mid
  omega
theorem Sm.sub {a b c d : Int} (ha : Sm a) (hb : Sm b) (hc : Sm c) (hd : Sm d) : Mid (a * b - c * d) := by
  have h1 := Sm.prod ha hb
  have h2 := Sm.prod hc hd
  have h3 := Int.natAbs_sub_le (a * b) (c * d)
  have h4 : (2 : Nat) ^ 1801 ≤ 2 ^ 2000 := Nat.pow_le_pow_right (by decide) (by decide)
  have h5 := two_pow
  unfold Mid
  omega
end
end Lf

set_option Elab.async false
set_option linter.all false
set_option maxRecDepth 100000
set_option maxHeartbeats 4000000
set_option exponentiation.threshold 3000
namespace Lf
open PySem PySem.Spec PyProof.Rows L2
theorem sm_l {K : PySem.W.Frag} {H H' : Hp} {a : Addr} {xs : List V} (s : Same H H') (h : SqL K H a xs) : SqL K H' a xs := s.seq h
theorem small30 {n : Int} (h : 0 ≤ n) (h2 : n < 2147483648) : Sm n := Nat.lt_of_lt_of_le (show n.natAbs < 2 ^ 31 by omega) (Nat.pow_le_pow_right (by decide) (by decide))
section
variable {P : Program} {w : World} {K : PySem.W.Frag} {mg : Str → Option Value} {base : Heap}

/-! ### _law_cell -/
abbrev s__law_cell : Stmt := topS 8
theorem sc__law_cell : FnScope ["_law_script", "_law_k"] ["_law_script", "_law_k"] (defScope s__law_cell) := ⟨rfl, rfl, rfl, by decide +kernel, rfl, by decide +kernel, by decide +kernel⟩
def sp_cell (K : PySem.W.Frag) : Sp := fun vs H Q _ => ∃ (a : Addr) (ns : List Int) (k : Nat), vs = [.ref a, .int k] ∧ SqL K H a (ns.map V.int) ∧ k < 2 ^ 62 ∧ ∀ n : Int, Q (.int n) H
theorem ok_cell {f : Addr} {fd : FuncData} (M : Blt mg) (F : Fun K "_law_cell" "_law_cell" s__law_cell f fd) : FnG P w K mg base CX0 1 f fd ["_law_script", "_law_k"] (sp_cell K) := by
  refine Gfun F sc__law_cell (fun vs H Q E h => ?_) (fun cdv A outer s H vs Q E hg hr h => ?_)
  · obtain ⟨a, ns, k, rfl, _⟩ := h
    rfl
  · obtain ⟨a, ns, k, rfl, hS, hk, q⟩ := h
    refine ⟨_, (pss_one (ps_ret (pe_ifExp (pt_cmpR op_lt (pv 1) (pe_callB call_len_seq rfl M.len bt_len (pa_cons (pv 0) pa_nil)) (nomark _)) (pe_ix ix_list (pv 0) (pv 1) (fun _ _ => rfl)) pe_int))), ?_⟩
    refine ⟨_, rfl, _, rfl, a, _, rfl, .inl hS, _, _, rfl, rfl, _, rfl, ite2 (fun e => ?_) (fun e => ?_)⟩
    · have e' : (k : Int) < (((ns.map V.int).length : Nat) : Int) := of_decide_eq_true e
      rw [List.length_map] at e'
      have hlt : k < ns.length := by omega
      refine ⟨_, rfl, _, rfl, a, _, _, .int ns[k], rfl, rfl, hS, atI_nat ?_, q _⟩
      rw [List.getElem?_map, List.getElem?_eq_getElem hlt]
      rfl
    · exact q 0

/-! ### _law_pot -/
abbrev s__law_pot : Stmt := topS 9
theorem sc__law_pot : FnScope ["_law_cell_here"] ["_law_cell_here"] (defScope s__law_pot) := ⟨rfl, rfl, rfl, by decide +kernel, rfl, by decide +kernel, by decide +kernel⟩
def sp_pot : Sp := fun vs H Q _ => ∃ n : Int, vs = [.int n] ∧ ∀ (x y : Int) (p : Addr), 0 ≤ y → y < 2147483648 → H p = none → Q (.ref p) (upd H p (.lst [.int x, .int y]))
theorem ok_pot {f : Addr} {fd : FuncData} (M : Blt mg) (F : Fun K "_law_pot" "_law_pot" s__law_pot f fd) : FnG P w K mg base CX0 1 f fd ["_law_cell_here"] sp_pot := by
  refine Gfun F sc__law_pot (fun vs H Q E h => ?_) (fun cdv A outer s H vs Q E hg hr h => ?_)
  · obtain ⟨n, rfl, _⟩ := h
    rfl
  · obtain ⟨n, rfl, q⟩ := h
    refine ⟨_, (pss_one (ps_ret (pe_lst (pa_cons (pe_callB (call_max2 rfl) rfl M.max bt_max (pa_cons pe_int (pa_cons (pe_op op_sub (pv 0) (pe_op op_pow pe_int pe_int)) pa_nil))) (pa_cons (pe_op op_mod (pe_op op_add (pe_op op_mulW (pe_op op_mod (pv 0) pe_int) pe_int) pe_int) pe_int) pa_nil))))), ?_⟩
    refine ⟨_, rfl, 10, 18, rfl, rfl, ⟨by decide, by decide, by decide⟩, _, _, rfl, rfl, _, _, rfl, ?_⟩
    have h1 := Int.emod_nonneg n (show (2147483629 : Int) ≠ 0 by decide)
    have h2 := Int.emod_lt_of_pos n (show (0 : Int) < 2147483629 by decide)
    refine ⟨_, rfl, _, _, rfl, rfl, (by show (0 : Int) < 2147483629; decide), _, _, rfl, rfl, Sm.mulW (small30 h1 (by omega)) (small30 (by decide) (by decide)), _, _, rfl, rfl, _, _, rfl, rfl, (by show (0 : Int) < 2147483647; decide), lst2 fun p hp => ?_⟩
    have h3 := Int.emod_nonneg (n % 2147483629 * 48271 + 7919) (show (2147483647 : Int) ≠ 0 by decide)
    have h4 := Int.emod_lt_of_pos (n % 2147483629 * 48271 + 7919) (show (0 : Int) < 2147483647 by decide)
    exact q _ _ p h3 (by omega) hp

/-! ### _law_draw -/
abbrev s__law_draw : Stmt := topS 10
theorem sc__law_draw : FnScope ["_law_pot_here", "_law_many", "_law_digit"] ["_law_pot_here", "_law_many"] (defScope s__law_draw) := ⟨rfl, rfl, rfl, by decide +kernel, rfl, by decide +kernel, by decide +kernel⟩
/-- all but the pot at q stands as before -/
def But (q : Addr) (H H' : Hp) : Prop := ∀ b o, b ≠ q → H b = some o → H' b = some o
theorem But.rfl {q : Addr} {H : Hp} : But q H H := fun _ _ _ e => e
theorem But.trans {q : Addr} {H H1 H2 : Hp} (h : But q H H1) (k : But q H1 H2) : But q H H2 := fun b o n e => k b o n (h b o n e)
theorem But.same {q : Addr} {H H1 H2 : Hp} (h : But q H H1) (k : Same H1 H2) : But q H H2 := fun b o n e => k b o (h b o n e)
/-- a pot of draws at q -/
def Pot (H : Hp) (q : Addr) : Prop := ∃ x y : Int, 0 ≤ y ∧ y < 2147483648 ∧ H q = some (.lst [.int x, .int y])
def Drawn (H : Hp) (q : Addr) (Q : VK) (m : Int) : Prop := ∀ (r : Int) (H' : Hp), 0 ≤ r → r < m → Pot H' q → But q H H' → Q (.int r) H'
def sp_draw : Sp := fun vs H Q _ => ∃ (q : Addr) (m : Int), vs = [.ref q, .int m] ∧ 0 < m ∧ m.natAbs < 2 ^ 900 ∧ Pot H q ∧ Drawn H q Q m
theorem ok_draw {f : Addr} {fd : FuncData} (M : Blt mg) (F : Fun K "_law_draw" "_law_draw" s__law_draw f fd) : FnG P w K mg base CX0 1 f fd ["_law_pot_here", "_law_many"] sp_draw := by
  refine Gfun F sc__law_draw (fun vs H Q E h => ?_) (fun cdv A outer s H vs Q E hg hr h => ?_)
  · obtain ⟨q, m, rfl, _⟩ := h
    rfl
  · obtain ⟨q, m, rfl, hm, hm2, ⟨x, y, hy0, hy1, hP⟩, k⟩ := h
    refine ⟨_, (pss_cons (ps_if (pt_cmpR op_gt (pe_ix ix_list (pv 0) pe_int (fun _ _ => rfl)) pe_int (nomark _))
      (pss_cons (ps_asg (pe_callB call_divmodW rfl M.divmod bt_divmod (pa_cons (pe_ix ix_list (pv 0) pe_int (fun _ _ => rfl)) (pa_cons (pv 1) pa_nil))) (pg_tup rfl (pgs_cons (pg_sub (pv 0) pe_int set_list) (pgs_cons (pg_name (i := 2) sc__law_draw.nd rfl (.inl rfl)) pgs_nil))))
      (pss_one (ps_ret (pv 2))))
      pss_nil)
      (pss_cons (ps_asg (pe_op op_mod (pe_op op_add (pe_op op_mulW (pe_ix ix_list (pv 0) pe_int (fun _ _ => rfl)) pe_int) pe_int) pe_int) (pg_sub (pv 0) pe_int set_list))
      (pss_one (ps_ret (pe_op op_mod (pe_op op_fdivN (pe_op op_mod (pe_op op_mulW (pe_ix ix_list (pv 0) pe_int (fun _ _ => rfl)) (pe_ix ix_list (pv 0) pe_int (fun _ _ => rfl))) pe_int) pe_int) (pv 1)))))), ?_⟩
    refine ⟨_, rfl, q, _, _, _, rfl, rfl, .inl (.inl hP), rfl, _, _, rfl, rfl, _, rfl, ite2 (fun e => ?_) (fun e => ?_)⟩
    · refine ⟨_, rfl, q, _, _, _, rfl, rfl, .inl (.inl hP), rfl, _, rfl, x, m, rfl, ⟨hm, PyProof.noPylong_of_log2 (Nat.lt_of_lt_of_le (PySem.Flt.log2_lt_of (by decide) hm2) (by decide))⟩, fun p hp => ?_⟩
      have nq : q ≠ p := ne_of_none hP hp
      have hP2 : upd H p (.tup [.int (x / m), .int (x % m)]) q = some (.lst [.int x, .int y]) := by
        rw [upd_ne nq]
        exact hP
      refine ⟨p, _, rfl, .inl (.inl upd_same), rfl, _, _, rfl, ?_⟩
      refine ⟨_, rfl, q, _, _, _, rfl, rfl, hP2, rfl, ?_⟩
      refine ⟨_, _, rfl, rfl, ?_⟩
      refine ⟨_, rfl, k (x % m) _ (Int.emod_nonneg _ (by omega)) (Int.emod_lt_of_pos _ hm) ⟨x / m, y, hy0, hy1, upd_same⟩ fun b o nb eb => ?_⟩
      rw [upd_ne nb, upd_ne (ne_of_none eb hp)]
      exact eb
    · refine ⟨_, rfl, q, _, _, _, rfl, rfl, .inl (.inl hP), rfl, _, _, rfl, rfl, Sm.mulW (small30 hy0 hy1) (small30 (by decide) (by decide)), _, _, rfl, rfl, _, _, rfl, rfl, (by show (0 : Int) < 2147483587; decide), ?_⟩
      refine ⟨_, rfl, q, _, _, _, rfl, rfl, hP, rfl, ?_⟩
      have h3 := Int.emod_nonneg (y * 39373 + 8191) (show (2147483587 : Int) ≠ 0 by decide)
      have h4 := Int.emod_lt_of_pos (y * 39373 + 8191) (show (0 : Int) < 2147483587 by decide)
      have sz : Sm ((y * 39373 + 8191) % 2147483587) := small30 h3 (by omega)
      refine ⟨_, rfl, q, _, _, _, rfl, rfl, .inl (.inl upd_same), rfl, _, rfl, q, _, _, _, rfl, rfl, .inl (.inl upd_same), rfl, _, _, rfl, rfl, Sm.mulW sz sz, _, _, rfl, rfl, (by show (0 : Int) < 2147483543; decide), ?_⟩
      refine ⟨_, _, rfl, rfl, ⟨by decide, by decide⟩, _, rfl, _, _, rfl, rfl, hm, ?_⟩
      refine k _ _ (Int.emod_nonneg _ (by omega)) (Int.emod_lt_of_pos _ hm) ⟨x, _, h3, by omega, upd_same⟩ fun b o nb eb => ?_
      rw [upd_ne nb]
      exact eb

/-! ### _law_low -/
abbrev s__law_low : Stmt := topS 11
theorem sc__law_low : FnScope ["_law_top", "_law_bottom", "_law_one", "_law_other"] ["_law_top", "_law_bottom"] (defScope s__law_low) := ⟨rfl, rfl, rfl, by decide +kernel, rfl, by decide +kernel, by decide +kernel⟩
def sp_low : Sp := fun vs H Q _ => ∃ (n d : Int), vs = [.int n, .int d] ∧ d ≠ 0 ∧ Mid d ∧ Two H Q (low n d)
theorem ok_low {f : Addr} {fd : FuncData} (M : Blt mg) (F : Fun K "_law_low" "_law_low" s__law_low f fd) : FnG P w K mg base CX0 1 f fd ["_law_top", "_law_bottom"] sp_low := by
  refine Gfun F sc__law_low (fun vs H Q E h => ?_) (fun cdv A outer s H vs Q E hg hr h => ?_)
  · obtain ⟨n, d, rfl, _⟩ := h
    rfl
  · obtain ⟨n, d, rfl, hd, hd2, q⟩ := h
    refine ⟨_, (pss_cons (ps_par (i := 2) (j := 3) rfl sc__law_low.nd rfl rfl (by decide) rfl rfl (pa_cons (pe_callB call_abs rfl M.abs bt_abs (pa_cons (pv 0) pa_nil)) (pa_cons (pe_callB call_abs rfl M.abs bt_abs (pa_cons (pv 1) pa_nil)) pa_nil)) (by rfl))
      (pss_cons (ps_while PassesOwn.never (pt_cmpR op_gt (pv 3) pe_int (nomark _))
      (pss_one (ps_par (i := 2) (j := 3) rfl sc__law_low.nd rfl rfl (by decide) rfl rfl (pa_cons (pv 3) (pa_cons (pe_op op_mod (pv 2) (pv 3)) pa_nil)) (by rfl))))
      (pss_cons (ps_if (pt_cmpR op_lt (pv 1) pe_int (nomark _))
      (pss_one (ps_set (i := 2) sc__law_low.nd rfl (.inl rfl) (pe_un un_neg (pv 2))))
      pss_nil)
      (pss_one (ps_ret (pe_tup (pa_cons (pe_op op_fdivN (pv 0) (pv 2)) (pa_cons (pe_op op_fdivN (pv 1) (pv 2)) pa_nil)))))))), ?_⟩
    refine ⟨_, rfl, _, rfl, _, rfl, _, rfl, _, _, rfl, ?_⟩
    refine while_by (fun σ H' => ∃ x y : Int, σ = [some (.int n), some (.int d), some (.int x), some (.int y)] ∧ 0 ≤ x ∧ 0 ≤ y ∧ Nat.gcd x.natAbs y.natAbs = Nat.gcd n.natAbs d.natAbs ∧ H' = H)
      (fun σ _ => match σ with | [_, _, _, some (.int y)] => y.toNat | _ => 0) ⟨_, _, rfl, ?_, ?_, ?_, rfl⟩ ?_ ?_
    · rw [abs_is]
      omega
    · rw [abs_is]
      omega
    · rw [abs_is, abs_is, Int.natAbs_natCast, Int.natAbs_natCast]
    · rintro σ H1 ⟨x, y, rfl, hx, hy, hgc, rfl⟩
      refine ⟨_, rfl, _, _, rfl, rfl, _, rfl, ite2 (fun e => ?_) (fun e => ?_)⟩
      · have hyp : 0 < y := of_decide_eq_true e
        refine ⟨_, rfl, _, rfl, _, rfl, x, y, rfl, rfl, hyp, _, _, rfl, ⟨y, x % y, rfl, hy, Int.emod_nonneg _ (by omega), (gcd_step x y hyp hx).trans hgc, rfl⟩, ?_⟩
        show (x % y).toNat < y.toNat
        have := Int.emod_lt_of_pos x hyp
        omega
      · have hy0 : y = 0 := by
          have : ¬ 0 < y := fun z => e (decide_eq_true z)
          omega
        subst hy0
        rw [Int.natAbs_zero, Nat.gcd_zero_right] at hgc
        have ex : x = ((Nat.gcd n.natAbs d.natAbs : Nat) : Int) := by omega
        subst ex
        have hgz : ((Nat.gcd n.natAbs d.natAbs : Nat) : Int) ≠ 0 := by
          have := gcd_pos (n := n) hd
          omega
        have hlg := (gcd_mid (n := n) hd hd2).log
        refine ⟨_, rfl, _, _, rfl, rfl, _, rfl, ite2 (fun e => ?_) (fun e => ?_)⟩
        · have e' : d < 0 := of_decide_eq_true e
          have hm : ∀ i, CDivN i (-((Nat.gcd n.natAbs d.natAbs : Nat) : Int)) := fun i => ⟨by omega, by rw [Int.natAbs_neg]; exact hlg⟩
          refine ⟨_, rfl, _, rfl, _, rfl, _, rfl, n, _, rfl, rfl, hm n, _, rfl, _, rfl, d, _, rfl, rfl, hm d, (by show 2 ≤ sizeLine; decide), fun p hp => ?_⟩
          refine q _ p (same_new hp) ?_
          rw [← low_fdiv_neg (n := n) e']
          exact upd_same
        · have e' : 0 < d := by
            have : ¬ d < 0 := fun z => e (decide_eq_true z)
            omega
          have hm : ∀ i, CDivN i ((Nat.gcd n.natAbs d.natAbs : Nat) : Int) := fun i => ⟨hgz, hlg⟩
          refine ⟨_, rfl, _, rfl, n, _, rfl, rfl, hm n, _, rfl, _, rfl, d, _, rfl, rfl, hm d, (by show 2 ≤ sizeLine; decide), fun p hp => ?_⟩
          refine q _ p (same_new hp) ?_
          rw [← low_fdiv_pos (n := n) e']
          exact upd_same
    · rintro σ H1 Q1 Q2 hq ⟨u, hu, i, j, h1, h2, k, h3, h4⟩
      exact ⟨u, hu, i, j, h1, h2, k, h3, hq _ _ h4⟩

end
end Lf

set_option Elab.async false
set_option linter.all false
set_option maxRecDepth 100000
set_option maxHeartbeats 4000000
set_option exponentiation.threshold 3000
namespace Lf
open PySem PySem.Spec PyProof.Rows L2
theorem bt_isinstance : bootBuiltins "isinstance" = some (.builtin "isinstance") := by decide +kernel
theorem bt_bool : bootBuiltins "bool" = some (.type "bool") := by decide +kernel
theorem bt_tuple : bootBuiltins "tuple" = some (.type "tuple") := by decide +kernel
structure Bltx (mg : Str → Option Value) : Prop where
  isinstance : mg "isinstance" = none
  bool : mg "bool" = none
  tuple : mg "tuple" = none
theorem len_show {n : Nat} (h : n ≤ 1000) : n ≤ sizeLine := by
  rw [sizeLine_eq]
  omega
theorem u65 {k : Nat} {A : Around} (r : Room k A) : A.units + 65 < cLine := by
  have := r.un
  omega
theorem iteN {c A B : Prop} [Decidable c] (hc : ¬ c) (h : A) : if (!decide c) = true then A else B := by
  rw [decide_eq_false hc]
  exact iteT h
def isI : PyData → Bool
  | .int _ => true
  | .bool _ => true
  | _ => false
def isB : PyData → Bool
  | .bool _ => true
  | _ => false
def isT : PyData → Bool
  | .tuple _ => true
  | _ => false
def isS : PyData → Bool
  | .str _ => true
  | _ => false
def isW : PyData → Bool
  | .int _ => true
  | _ => false
theorem ki_none : kitB "NoneType" "int" = some false := by decide +kernel
theorem ki_bool : kitB "bool" "int" = some true := by decide +kernel
theorem ki_int : kitB "int" "int" = some true := by decide +kernel
theorem ki_str : kitB "str" "int" = some false := by decide +kernel
theorem ki_list : kitB "list" "int" = some false := by decide +kernel
theorem ki_tuple : kitB "tuple" "int" = some false := by decide +kernel
theorem ki_dict : kitB "dict" "int" = some false := by decide +kernel
theorem ki (d : PyData) : kitB (tyN d) "int" = some (isI d) :=
  match d with
  | .none => ki_none
  | .bool _ => ki_bool
  | .int _ => ki_int
  | .str _ => ki_str
  | .list _ => ki_list
  | .tuple _ => ki_tuple
  | .dict _ => ki_dict
theorem kb_none : kitB "NoneType" "bool" = some false := by decide +kernel
theorem kb_bool : kitB "bool" "bool" = some true := by decide +kernel
theorem kb_int : kitB "int" "bool" = some false := by decide +kernel
theorem kb_str : kitB "str" "bool" = some false := by decide +kernel
theorem kb_list : kitB "list" "bool" = some false := by decide +kernel
theorem kb_tuple : kitB "tuple" "bool" = some false := by decide +kernel
theorem kb_dict : kitB "dict" "bool" = some false := by decide +kernel
theorem kb (d : PyData) : kitB (tyN d) "bool" = some (isB d) :=
  match d with
  | .none => kb_none
  | .bool _ => kb_bool
  | .int _ => kb_int
  | .str _ => kb_str
  | .list _ => kb_list
  | .tuple _ => kb_tuple
  | .dict _ => kb_dict
theorem kt_none : kitB "NoneType" "tuple" = some false := by decide +kernel
theorem kt_bool : kitB "bool" "tuple" = some false := by decide +kernel
theorem kt_int : kitB "int" "tuple" = some false := by decide +kernel
theorem kt_str : kitB "str" "tuple" = some false := by decide +kernel
theorem kt_list : kitB "list" "tuple" = some false := by decide +kernel
theorem kt_tuple : kitB "tuple" "tuple" = some true := by decide +kernel
theorem kt_dict : kitB "dict" "tuple" = some false := by decide +kernel
theorem kt (d : PyData) : kitB (tyN d) "tuple" = some (isT d) :=
  match d with
  | .none => kt_none
  | .bool _ => kt_bool
  | .int _ => kt_int
  | .str _ => kt_str
  | .list _ => kt_list
  | .tuple _ => kt_tuple
  | .dict _ => kt_dict
theorem ks_none : kitB "NoneType" "str" = some false := by decide +kernel
theorem ks_bool : kitB "bool" "str" = some false := by decide +kernel
theorem ks_int : kitB "int" "str" = some false := by decide +kernel
theorem ks_str : kitB "str" "str" = some true := by decide +kernel
theorem ks_list : kitB "list" "str" = some false := by decide +kernel
theorem ks_tuple : kitB "tuple" "str" = some false := by decide +kernel
theorem ks_dict : kitB "dict" "str" = some false := by decide +kernel
theorem ks (d : PyData) : kitB (tyN d) "str" = some (isS d) :=
  match d with
  | .none => ks_none
  | .bool _ => ks_bool
  | .int _ => ks_int
  | .str _ => ks_str
  | .list _ => ks_list
  | .tuple _ => ks_tuple
  | .dict _ => ks_dict
def fr2 : PyData → PyData → Bool
  | .int a, .int b => decide (0 < b) && decide (Nat.gcd a.natAbs b.natAbs = 1)
  | _, _ => false
def frL : List PyData → Bool
  | [x, y] => fr2 x y
  | _ => false
def isFr : PyData → Bool
  | .tuple ds => frL ds
  | _ => false
def lets : Str := Str.ofString "abcdefghijklmnopqrstuvwxyz"
def inL (c : Nat) : Bool := decide (c ∈ lets.cps.toList)
def isNm : PyData → Bool
  | .str z => decide (1 ≤ z.length) && decide (z.length ≤ 10) && z.cps.toList.all inL
  | _ => false
section
variable {P : Program} {w : World} {K : PySem.W.Frag} {mg : Str → Option Value} {base : Heap}
theorem Dq.tup {H : Hp} {v : V} {d : PyData} (h : Dq K H v d) (e : isT d = true) : ∃ (a : Addr) (xs : List V) (ds : List PyData), v = .ref a ∧ d = .tuple ds ∧ SqT K H a xs ∧ DpAll K H xs ds ∧ PyData.hasDictAll ds = false := by
  cases h with
  | dp h n =>
    cases h with
    | tup h1 h2 => exact ⟨_, _, _, rfl, rfl, h1, h2, by simpa [PyData.hasDict] using n⟩
    | non => cases e
    | bl _ => cases e
    | int _ => cases e
    | str _ => cases e
    | lst _ _ => cases e
  | dic _ _ => cases e
theorem Dq.txt {H : Hp} {v : V} {d : PyData} (h : Dq K H v d) (e : isS d = true) : ∃ z, v = .str z ∧ d = .str z := by
  cases h with
  | dp h n =>
    cases h with
    | str z => exact ⟨z, rfl, rfl⟩
    | non => cases e
    | bl _ => cases e
    | int _ => cases e
    | tup _ _ => cases e
    | lst _ _ => cases e
  | dic _ _ => cases e
theorem Dq.whole {H : Hp} {v : V} {d : PyData} (h : Dq K H v d) (e : isW d = true) : ∃ i, v = .int i ∧ d = .int i := by
  cases h with
  | dp h n =>
    cases h with
    | int i => exact ⟨i, rfl, rfl⟩
    | non => cases e
    | bl _ => cases e
    | str _ => cases e
    | tup _ _ => cases e
    | lst _ _ => cases e
  | dic _ _ => cases e

def sp_whole (K : PySem.W.Frag) : Sp := fun vs H Q _ => ∃ (v : V) (d : PyData), vs = [v] ∧ Dq K H v d ∧ Q (.bl (isW d)) H
/-! ### is_whole -/
abbrev s_is_whole : Stmt := topS 3
theorem sc_is_whole : FnScope ["thing"] ["thing"] (defScope s_is_whole) := ⟨rfl, rfl, rfl, by decide +kernel, rfl, by decide +kernel, by decide +kernel⟩
theorem ok_whole {f : Addr} {fd : FuncData} (M : Blt mg) (Mx : Bltx mg) (F : Fun K "is_whole" "is_whole" s_is_whole f fd) : FnG P w K mg base CX0 1 f fd ["thing"] (sp_whole K) := by
  refine Gfun F sc_is_whole (fun vs H Q E h => ?_) (fun cdv A outer s H vs Q E hg hr h => ?_)
  · obtain ⟨v, d, rfl, _⟩ := h
    rfl
  · obtain ⟨v, d, rfl, hq, k⟩ := h
    refine ⟨_, (pss_one (ps_ret (pe_and (pe_callB call_isi rfl Mx.isinstance bt_isinstance (pa_cons (pv 0) (pa_cons (pe_bltn (v := .ty "int") rfl M.int bt_int rfl) pa_nil))) (pe_one (pe_not (pe_callB call_isi rfl Mx.isinstance bt_isinstance (pa_cons (pv 0) (pa_cons (pe_bltn (v := .ty "bool") rfl Mx.bool bt_bool rfl) pa_nil)))))))), ?_⟩
    refine ⟨_, rfl, _, _, _, _, _, rfl, .ty "int", hq.ty, kit_ty (ki d), _, rfl, ite2 (fun e => ?_) (fun e => ?_)⟩
    · refine ⟨_, rfl, _, _, _, _, _, rfl, .ty "bool", hq.ty, kit_ty (kb d), _, rfl, ?_⟩
      have : isW d = !isB d := by cases d <;> first | rfl | (cases e)
      rw [← this]
      exact k
    · have : isW d = false := by cases d <;> first | rfl | (exact absurd rfl e)
      rw [this] at k
      exact k

/-! ### _law_is_whole -/
abbrev s__law_is_whole : Stmt := topS 14
theorem sc__law_is_whole : FnScope ["_law_item"] ["_law_item"] (defScope s__law_is_whole) := ⟨rfl, rfl, rfl, by decide +kernel, rfl, by decide +kernel, by decide +kernel⟩
theorem ok_lwhole {f : Addr} {fd : FuncData} (M : Blt mg) (Mx : Bltx mg) (F : Fun K "_law_is_whole" "_law_is_whole" s__law_is_whole f fd) : FnG P w K mg base CX0 1 f fd ["_law_item"] (sp_whole K) := by
  refine Gfun F sc__law_is_whole (fun vs H Q E h => ?_) (fun cdv A outer s H vs Q E hg hr h => ?_)
  · obtain ⟨v, d, rfl, _⟩ := h
    rfl
  · obtain ⟨v, d, rfl, hq, k⟩ := h
    refine ⟨_, (pss_one (ps_ret (pe_and (pe_callB call_isi rfl Mx.isinstance bt_isinstance (pa_cons (pv 0) (pa_cons (pe_bltn (v := .ty "int") rfl M.int bt_int rfl) pa_nil))) (pe_one (pe_not (pe_callB call_isi rfl Mx.isinstance bt_isinstance (pa_cons (pv 0) (pa_cons (pe_bltn (v := .ty "bool") rfl Mx.bool bt_bool rfl) pa_nil)))))))), ?_⟩
    refine ⟨_, rfl, _, _, _, _, _, rfl, .ty "int", hq.ty, kit_ty (ki d), _, rfl, ite2 (fun e => ?_) (fun e => ?_)⟩
    · refine ⟨_, rfl, _, _, _, _, _, rfl, .ty "bool", hq.ty, kit_ty (kb d), _, rfl, ?_⟩
      have : isW d = !isB d := by cases d <;> first | rfl | (cases e)
      rw [← this]
      exact k
    · have : isW d = false := by cases d <;> first | rfl | (exact absurd rfl e)
      rw [this] at k
      exact k

/-! ### is_fraction -/
abbrev s_is_fraction : Stmt := topS 5
theorem sc_is_fraction : FnScope ["thing", "top", "bottom"] ["thing"] (defScope s_is_fraction) := ⟨rfl, rfl, rfl, by decide +kernel, rfl, by decide +kernel, by decide +kernel⟩
def sp_isfr (K : PySem.W.Frag) : Sp := fun vs H Q _ => ∃ (v : V) (d : PyData), vs = [v] ∧ Dq K H v d ∧ Q (.bl (isFr d)) H
theorem isFr_len {ds : List PyData} (h : ds.length ≠ 2) : isFr (.tuple ds) = false := by
  match ds, h with
  | [], _ => rfl
  | [_], _ => rfl
  | [_, _], h => exact absurd rfl h
  | _ :: _ :: _ :: _, _ => rfl
theorem isFr_no {d e : PyData} (h : isW d = false ∨ isW e = false) : isFr (.tuple [d, e]) = false := by
  cases d <;> cases e <;> first | rfl | (rcases h with h | h <;> cases h)
theorem isFr_two {a b : Int} : isFr (.tuple [.int a, .int b]) = (decide (0 < b) && decide (Nat.gcd a.natAbs b.natAbs = 1)) := rfl
theorem DpAll.len {H : Hp} : ∀ {vs : List V} {ds : List PyData}, DpAll K H vs ds → vs.length = ds.length
  | _, _, .nil => rfl
  | _, _, .cons _ r => congrArg Nat.succ (DpAll.len r)
theorem two_of {H : Hp} {xs : List V} {ds : List PyData} (h : DpAll K H xs ds) (hl : xs.length = 2) : ∃ x y d1 d2, xs = [x, y] ∧ ds = [d1, d2] ∧ Dp K H x d1 ∧ Dp K H y d2 := by
  match xs, ds, h, hl with
  | _, _, .cons h1 (.cons h2 .nil), _ => exact ⟨_, _, _, _, rfl, rfl, h1, h2⟩
  | _, _, .nil, e => cases e
  | _, _, .cons _ .nil, e => cases e
  | _, _, .cons _ (.cons _ (.cons _ _)), e => simp at e
theorem ok_isfr {f : Addr} {fd : FuncData} (M : Blt mg) (Mx : Bltx mg) (F : Fun K "is_fraction" "is_fraction" s_is_fraction f fd) (C_is_whole : Cal P w K mg base CX0 1 "is_whole" ["thing"] (sp_whole K)) (C_common : Cal P w K mg base CX0 1 "common" ["one", "other"] spCom) :
    FnG P w K mg base CX0 2 f fd ["thing"] (sp_isfr K) := by
  refine Gfun F sc_is_fraction (fun vs H Q E h => ?_) (fun cdv A outer s H vs Q E hg hr h => ?_)
  · obtain ⟨v, d, rfl, _⟩ := h
    rfl
  · obtain ⟨v, d, rfl, hq, k⟩ := h
    refine ⟨_, (pss_cons (ps_if (PW.pt (pw_or (pt_not (pt_val (pe_callB call_isi rfl Mx.isinstance bt_isinstance (pa_cons (pv 0) (pa_cons (pe_bltn (v := .ty "tuple") rfl Mx.tuple bt_tuple rfl) pa_nil))))) (pw_or1 (pt_cmpR op_ne (pe_callB call_len_seq rfl M.len bt_len (pa_cons (pv 0) pa_nil)) pe_int (nomark _)))))
      (pss_one (ps_ret pe_bl))
      pss_nil)
      (pss_cons (ps_asg (pv 0) (pg_tup rfl (pgs_cons (pg_name (i := 1) sc_is_fraction.nd rfl (.inl rfl)) (pgs_cons (pg_name (i := 2) sc_is_fraction.nd rfl (.inl rfl)) pgs_nil))))
      (pss_cons (ps_if (PW.pt (pw_or (pt_not (pt_val (pe_g C_is_whole (hr.mono (by decide)) hg (pa_cons (pv 1) pa_nil)))) (pw_or1 (pt_not (pt_val (pe_g C_is_whole (hr.mono (by decide)) hg (pa_cons (pv 2) pa_nil)))))))
      (pss_one (ps_ret pe_bl))
      pss_nil)
      (pss_one (ps_ret (pe_and (pe_cmpR op_gt (pv 2) pe_int (nomark _)) (pe_one (pe_cmpR op_eq (pe_g C_common (hr.mono (by decide)) hg (pa_cons (pe_callB call_abs rfl M.abs bt_abs (pa_cons (pv 1) pa_nil)) (pa_cons (pv 2) pa_nil))) pe_int (nomark _))))))))), ?_⟩
    refine ⟨_, rfl, _, _, _, _, _, rfl, .ty "tuple", hq.ty, kit_ty (kt d), _, rfl, ?_⟩
    by_cases ht : isT d = true
    · rw [ht]
      refine iteF ?_
      obtain ⟨a, xs, ds, rfl, rfl, hS, hA, hn⟩ := hq.tup ht
      refine ⟨_, rfl, a, xs, rfl, .inr hS, rfl, _, rfl, ?_⟩
      by_cases hl : xs.length = 2
      · refine iteNS (show V.int (xs.length : Int) = V.int 2 by rw [hl]; rfl) ?_
        obtain ⟨x, y, d1, d2, rfl, rfl, h1, h2⟩ := two_of hA hl
        refine ⟨_, rfl, a, _, rfl, hS, rfl, _, _, rfl, _, _, rfl, rfl, ?_⟩
        have hn' : d1.hasDict = false ∧ d2.hasDict = false := by simpa [PyData.hasDictAll] using hn
        have q1 : Dq K H x d1 := .dp h1 hn'.1
        have q2 : Dq K H y d2 := .dp h2 hn'.2
        refine ⟨_, rfl, x, d1, rfl, q1, _, rfl, ?_⟩
        by_cases w1 : isW d1 = true
        · rw [w1]
          refine iteF ?_
          refine ⟨_, rfl, y, d2, rfl, q2, _, rfl, ?_⟩
          by_cases w2 : isW d2 = true
          · rw [w2]
            refine iteF ?_
            obtain ⟨p, rfl, rfl⟩ := q1.whole w1
            obtain ⟨b, rfl, rfl⟩ := q2.whole w2
            rw [isFr_two] at k
            refine ⟨_, rfl, _, _, rfl, rfl, _, rfl, ite2 (fun e => ?_) (fun e => ?_)⟩
            · have hb : 0 < b := of_decide_eq_true e
              refine ⟨_, rfl, _, rfl, _, rfl, _, b, rfl, ?_, Int.le_of_lt hb, rfl, ?_⟩
              · rw [abs_is]
                omega
              · rw [abs_is, Int.natAbs_natCast]
                rw [decide_eq_true hb, Bool.true_and] at k
                have e2 : decide (V.int ((Nat.gcd p.natAbs b.natAbs : Nat) : Int) = V.int 1) = decide (Nat.gcd p.natAbs b.natAbs = 1) := by
                  by_cases z : Nat.gcd p.natAbs b.natAbs = 1
                  · rw [decide_eq_true z, z]
                    rfl
                  · rw [decide_eq_false z]
                    exact decide_eq_false fun q => z (by have := V.int.inj q; omega)
                rw [e2]
                exact k
            · rw [show decide (0 < b) = false from Bool.eq_false_iff.mpr e, Bool.false_and] at k
              exact k
          · have w2' : isW d2 = false := by cases h : isW d2 <;> first | rfl | exact absurd h w2
            rw [w2']
            refine iteT ?_
            rw [isFr_no (.inr w2')] at k
            exact k
        · have w1' : isW d1 = false := by cases h : isW d1 <;> first | rfl | exact absurd h w1
          rw [w1']
          refine iteT ?_
          rw [isFr_no (.inl w1')] at k
          exact k
      · refine iteN (fun z => hl (by have := V.int.inj z; omega)) ?_
        have hl2 : ds.length ≠ 2 := by rw [← DpAll.len hA]; exact hl
        rw [isFr_len hl2] at k
        exact k
    · have ht' : isT d = false := by cases h : isT d <;> first | rfl | exact absurd h ht
      rw [ht']
      refine iteT ?_
      have : isFr d = false := by
        cases d <;> first | rfl | exact absurd rfl ht
      rw [this] at k
      exact k

/-! ### is_name -/
abbrev s_is_name : Stmt := topS 6
theorem sc_is_name : FnScope ["thing", "sign"] ["thing"] (defScope s_is_name) := ⟨rfl, rfl, rfl, by decide +kernel, rfl, by decide +kernel, by decide +kernel⟩
def sp_isnm (K : PySem.W.Frag) : Sp := fun vs H Q _ => ∃ (v : V) (d : PyData), vs = [v] ∧ Dq K H v d ∧ (∀ z, d = .str z → z.length ≤ 1000) ∧ ∀ H', Same H H' → Q (.bl (isNm d)) H'
theorem isNm_no {d : PyData} (h : isS d = false) : isNm d = false := by cases d <;> first | rfl | cases h
theorem ok_isnm {f : Addr} {fd : FuncData} {tl tn : Tok} (M : Blt mg) (Mx : Bltx mg) (G_LETTERS : mg "LETTERS" = some (.str lets tl)) (G_LONGEST_NAME : mg "LONGEST_NAME" = some (.int 10 tn)) (F : Fun K "is_name" "is_name" s_is_name f fd) :
    FnG P w K mg base CX0 2 f fd ["thing"] (sp_isnm K) := by
  refine Gfun F sc_is_name (fun vs H Q E h => ?_) (fun cdv A outer s H vs Q E hg hr h => ?_)
  · obtain ⟨v, d, rfl, _⟩ := h
    rfl
  · obtain ⟨v, d, rfl, hq, hz, k⟩ := h
    refine ⟨_, (pss_cons (ps_if (PW.pt (pw_or (pt_not (pt_val (pe_callB call_isi rfl Mx.isinstance bt_isinstance (pa_cons (pv 0) (pa_cons (pe_bltn (v := .ty "str") rfl M.str bt_str rfl) pa_nil))))) (pw_or1 (pt_not (pt_chain op_le op_le pe_int (pe_callB call_len_str rfl M.len bt_len (pa_cons (pv 0) pa_nil)) (pe_glob (v := .int 10) rfl G_LONGEST_NAME ⟨_, rfl⟩))))))
      (pss_one (ps_ret pe_bl))
      pss_nil)
      (pss_one (ps_ret (pe_callB (cr_all rfl) rfl M.all bt_all (pa_cons (pe_lc (own := [("sign", 1)]) (g := gName 1) (tt := tYes) rfl sc_is_name.nd (pi_str (pv 0)) (blkOk_by (N := ["thing", "sign"]) (sc := defScope s_is_name) (by decide +kernel)) (fun _ _ _ _ _ => pg_name (i := 1) sc_is_name.nd rfl (Or.inl rfl)) (fun _ _ _ _ _ => pts_nil) (fun _ _ _ _ _ => (pe_cmpR op_inS (pv 1) (pe_glob (v := .str lets) rfl G_LETTERS ⟨_, rfl⟩) rfl))) pa_nil))))), ?_⟩
    refine ⟨_, rfl, _, _, _, _, _, rfl, .ty "str", hq.ty, kit_ty (ks d), _, rfl, ?_⟩
    by_cases ht : isS d = true
    · rw [ht]
      refine iteF ?_
      obtain ⟨z, rfl, rfl⟩ := hq.txt ht
      have hzl := hz z rfl
      have hnm : isNm (.str z) = (decide (1 ≤ z.length) && decide (z.length ≤ 10) && z.cps.toList.all inL) := rfl
      have fin : ∀ b : Bool, isNm (.str z) = b → ∀ H', Same H H' → Q (.bl b) H' := fun b e H' s => e ▸ k H' s
      refine ⟨_, rfl, z, rfl, len_show hzl, _, _, rfl, rfl, _, rfl, ?_⟩
      by_cases h1 : (1 : Int) ≤ (z.length : Int)
      · rw [decide_eq_true h1]
        refine iteT ⟨_, _, rfl, rfl, _, rfl, ?_⟩
        by_cases h2 : (z.length : Int) ≤ 10
        · rw [decide_eq_true h2]
          refine iteF ?_
          refine ⟨_, rfl, z, rfl, fun D hD => lc_it walk_str (fun i H' => H' D = some (.lst ((z.cps.toList.take i).map fun c => .bl (inL c))) ∧ Same H H') ⟨upd_same, same_new hD⟩ (fun _ _ _ _ => trivial) ?_ ?_⟩
          · rintro i x H1 H2 hi ⟨eD, sm⟩ ⟨rfl, c, hc, rfl⟩
            have hsz : z.cps.size ≤ 1000 := hzl
            refine ⟨rfl, _, rfl, c, lets, rfl, rfl, _, eD, ?_, ?_, fun b o e => ?_⟩
            · rw [List.length_map, List.length_take, sizeLine_eq]
              omega
            · rw [upd_same, List.take_add_one, Array.getElem?_toList, hc, List.map_append]
              rfl
            · rw [upd_ne (ne_of_none e hD)]
              exact sm _ _ e
          · rintro H1 ⟨eD, sm⟩
            rw [show z.cps.size = z.cps.toList.length from Array.length_toList.symm, List.take_length] at eD
            refine ⟨D, z.cps.toList.map inL, rfl, .inl (.inl ?_), ?_⟩
            · rw [eD, List.map_map]
              rfl
            · refine fin _ ?_ H1 sm
              rw [hnm, decide_eq_true (show 1 ≤ z.length by omega), decide_eq_true (show z.length ≤ 10 by omega), List.all_map]
              rfl
        · rw [decide_eq_false h2]
          refine iteT (fin false ?_ H same_rfl)
          rw [hnm, show decide (z.length ≤ 10) = false from decide_eq_false (by omega), Bool.and_false, Bool.false_and]
      · rw [decide_eq_false h1]
        refine iteF ⟨_, rfl, iteT (fin false ?_ H same_rfl)⟩
        rw [hnm, show decide (1 ≤ z.length) = false from decide_eq_false (by omega), Bool.false_and, Bool.false_and]
    · have ht' : isS d = false := by cases h : isS d <;> first | rfl | exact absurd h ht
      rw [ht']
      refine iteT ?_
      have := k H same_rfl
      rw [isNm_no ht'] at this
      exact this

/-! ### _law_is_fraction -/
abbrev s__law_is_fraction : Stmt := topS 15
theorem sc__law_is_fraction : FnScope ["_law_item"] ["_law_item"] (defScope s__law_is_fraction) := ⟨rfl, rfl, rfl, by decide +kernel, rfl, by decide +kernel, by decide +kernel⟩
def sp_lisfr (K : PySem.W.Frag) : Sp := fun vs H Q _ => ∃ (v : V) (d : PyData), vs = [v] ∧ Dq K H v d ∧ (∀ a b, d = .tuple [.int a, .int b] → Mid b) ∧ ∀ H', Same H H' → Q (.bl (isFr d)) H'
theorem low_one {a b : Int} (hb : 0 < b) : decide (low a b = (a, b)) = decide (Nat.gcd a.natAbs b.natAbs = 1) := by
  by_cases h : Nat.gcd a.natAbs b.natAbs = 1
  · rw [decide_eq_true h]
    exact decide_eq_true (low_self ⟨hb, h⟩)
  · rw [decide_eq_false h]
    refine decide_eq_false fun z => h ?_
    have := (low_is (n := a) (d := b) (by omega)).2
    rw [z] at this
    exact this
theorem eqv_tD (f g : Int × Int) : PyData.eqv (tD f) (tD g) = decide (f = g) := by
  obtain ⟨a, b⟩ := f
  obtain ⟨c, d⟩ := g
  simp only [tD, PyData.eqv, PyData.eqvAll, Bool.and_true]
  by_cases h : (a, b) = (c, d)
  · rw [decide_eq_true h]
    cases h
    simp
  · rw [decide_eq_false h]
    by_cases h1 : a = c
    · by_cases h2 : b = d
      · exact absurd (by rw [h1, h2]) h
      · simp [h2]
    · simp [h1]
theorem tD_shaped (f : Int × Int) : SeqAt.shaped (tD f) = true := by
  unfold SeqAt.shaped
  rw [Bool.and_eq_true]
  refine ⟨by simp only [tD, PyData.canLay0, PyData.canLayAll0, Bool.and_self], decide_eq_true ?_⟩
  simp only [tD, PyData.depth, PyData.depthAll]
  omega
theorem ok_lisfr {f : Addr} {fd : FuncData} (M : Blt mg) (Mx : Bltx mg) (F : Fun K "_law_is_fraction" "_law_is_fraction" s__law_is_fraction f fd) (C__law_is_whole : Cal P w K mg base CX0 1 "_law_is_whole" ["_law_item"] (sp_whole K)) (C__law_low : Cal P w K mg base CX0 1 "_law_low" ["_law_top", "_law_bottom"] sp_low) :
    FnG P w K mg base CX0 2 f fd ["_law_item"] (sp_lisfr K) := by
  refine Gfun F sc__law_is_fraction (fun vs H Q E h => ?_) (fun cdv A outer s H vs Q E hg hr h => ?_)
  · obtain ⟨v, d, rfl, _⟩ := h
    rfl
  · obtain ⟨v, d, rfl, hq, hmid, k⟩ := h
    refine ⟨_, (pss_cons (ps_if (PW.pt (pw_or (pt_not (pt_val (pe_callB call_isi rfl Mx.isinstance bt_isinstance (pa_cons (pv 0) (pa_cons (pe_bltn (v := .ty "tuple") rfl Mx.tuple bt_tuple rfl) pa_nil))))) (pw_or (pt_cmpR op_ne (pe_callB call_len_seq rfl M.len bt_len (pa_cons (pv 0) pa_nil)) pe_int (nomark _)) (pw_or (pt_not (pt_val (pe_g C__law_is_whole (hr.mono (by decide)) hg (pa_cons (pe_ix ix_tup (pv 0) pe_int (fun _ _ => rfl)) pa_nil)))) (pw_or1 (pt_not (pt_val (pe_g C__law_is_whole (hr.mono (by decide)) hg (pa_cons (pe_ix ix_tup (pv 0) pe_int (fun _ _ => rfl)) pa_nil)))))))))
      (pss_one (ps_ret pe_bl))
      pss_nil)
      (pss_one (ps_ret (pe_and (pe_cmpR op_gt (pe_ix ix_tup (pv 0) pe_int (fun _ _ => rfl)) pe_int (nomark _)) (pe_one (pe_cmpR (op_eqD hr.units) (pe_g C__law_low (hr.mono (by decide)) hg (pa_cons (pe_ix ix_tup (pv 0) pe_int (fun _ _ => rfl)) (pa_cons (pe_ix ix_tup (pv 0) pe_int (fun _ _ => rfl)) pa_nil))) (pv 0) (nomark _))))))), ?_⟩
    have fin : ∀ b : Bool, isFr d = b → ∀ H', Same H H' → Q (.bl b) H' := fun b e H' s => e ▸ k H' s
    refine ⟨_, rfl, _, _, _, _, _, rfl, .ty "tuple", hq.ty, kit_ty (kt d), _, rfl, ?_⟩
    by_cases ht : isT d = true
    · rw [ht]
      refine iteF ?_
      obtain ⟨a, xs, ds, rfl, rfl, hS, hA, hn⟩ := hq.tup ht
      refine ⟨_, rfl, a, xs, rfl, .inr hS, rfl, _, rfl, ?_⟩
      by_cases hl : xs.length = 2
      · refine iteNS (show V.int (xs.length : Int) = V.int 2 by rw [hl]; rfl) ?_
        obtain ⟨x, y, d1, d2, rfl, rfl, h1, h2⟩ := two_of hA hl
        have hn' : d1.hasDict = false ∧ d2.hasDict = false := by simpa [PyData.hasDictAll] using hn
        have q1 : Dq K H x d1 := .dp h1 hn'.1
        have q2 : Dq K H y d2 := .dp h2 hn'.2
        refine ⟨_, rfl, a, _, _, _, rfl, rfl, hS, rfl, x, d1, rfl, q1, _, rfl, ?_⟩
        by_cases w1 : isW d1 = true
        · rw [w1]
          refine iteF ?_
          refine ⟨_, rfl, a, _, _, _, rfl, rfl, hS, rfl, y, d2, rfl, q2, _, rfl, ?_⟩
          by_cases w2 : isW d2 = true
          · rw [w2]
            refine iteF ?_
            obtain ⟨p, rfl, rfl⟩ := q1.whole w1
            obtain ⟨b, rfl, rfl⟩ := q2.whole w2
            refine ⟨_, rfl, a, _, _, _, rfl, rfl, hS, rfl, _, _, rfl, rfl, _, rfl, ite2 (fun e => ?_) (fun e => ?_)⟩
            · have hb : 0 < b := of_decide_eq_true e
              refine ⟨_, rfl, a, _, _, _, rfl, rfl, hS, rfl, _, rfl, a, _, _, _, rfl, rfl, hS, rfl, p, b, rfl, by omega, hmid p b rfl, fun H2 p2 s2 e2 => ?_⟩
              refine ⟨_, rfl, tD (low p b), tD (p, b), dp2' e2, dp2 (sm_t s2 hS), tD_shaped _, tD_shaped _, ?_⟩
              rw [eqv_tD, low_one hb]
              refine fin _ ?_ H2 s2
              show (decide (0 < b) && decide (Nat.gcd p.natAbs b.natAbs = 1)) = _
              rw [decide_eq_true hb, Bool.true_and]
            · refine fin _ ?_ H same_rfl
              show (decide (0 < b) && decide (Nat.gcd p.natAbs b.natAbs = 1)) = _
              rw [show decide (0 < b) = false from Bool.eq_false_iff.mpr e, Bool.false_and]
          · have w2' : isW d2 = false := by cases h : isW d2 <;> first | rfl | exact absurd h w2
            rw [w2']
            exact iteT (fin _ (isFr_no (.inr w2')) H same_rfl)
        · have w1' : isW d1 = false := by cases h : isW d1 <;> first | rfl | exact absurd h w1
          rw [w1']
          refine iteT ?_
          exact fin _ (isFr_no (.inl w1')) H same_rfl
      · refine iteN (fun z => hl (by have := V.int.inj z; omega)) ?_
        have hl2 : ds.length ≠ 2 := by rw [← DpAll.len hA]; exact hl
        exact fin _ (isFr_len hl2) H same_rfl
    · have ht' : isT d = false := by cases h : isT d <;> first | rfl | exact absurd h ht
      rw [ht']
      refine iteT ?_
      have : isFr d = false := by
        cases d <;> first | rfl | exact absurd rfl ht
      exact fin _ this H same_rfl

/-! ### _law_is_name -/
abbrev s__law_is_name : Stmt := topS 16
theorem sc__law_is_name : FnScope ["_law_item", "_law_sign"] ["_law_item"] (defScope s__law_is_name) := ⟨rfl, rfl, rfl, by decide +kernel, rfl, by decide +kernel, by decide +kernel⟩
def sp_lisnm (K : PySem.W.Frag) : Sp := fun vs H Q _ => ∃ (v : V) (d : PyData), vs = [v] ∧ Dq K H v d ∧ (∀ z, d = .str z → z.length ≤ 1000 ∧ ∀ c ∈ z.cps.toList, c < 0x110000) ∧ ∀ H', Same H H' → Q (.bl (isNm d)) H'
theorem filt_empty (l : List Nat) : (l.filter fun c => !inL c).isEmpty = l.all inL := by
  induction l with
  | nil => rfl
  | cons c l ih =>
    rw [List.filter_cons, List.all_cons]
    cases h : inL c
    · rfl
    · simpa [h] using ih
theorem signs_dp {H : Hp} : ∀ l : List Nat, DpAll K H (l.map fun c => V.str ⟨#[c]⟩) (l.map fun c => PyData.str ⟨#[c]⟩)
  | [] => .nil
  | c :: l => .cons (.str _) (signs_dp l)
theorem signs_shaped : ∀ l : List Nat, (∀ c ∈ l, c < 0x110000) → PyData.canLayAll0 (l.map fun c => PyData.str ⟨#[c]⟩) = true ∧ PyData.depthAll (l.map fun c => PyData.str ⟨#[c]⟩) = 0
  | [], _ => ⟨by simp only [List.map_nil, PyData.canLayAll0], by simp only [List.map_nil, PyData.depthAll]⟩
  | c :: l, h => by
    obtain ⟨i1, i2⟩ := signs_shaped l fun x hx => h x (List.mem_cons_of_mem _ hx)
    have hc := h c List.mem_cons_self
    refine ⟨?_, ?_⟩
    · simp only [List.map_cons, PyData.canLayAll0, i1, PyData.canLay0, PyData.strOk, Bool.and_true]
      simp [hc]
    · simp only [List.map_cons, PyData.depthAll, i2, PyData.depth]
      rfl
theorem eqv_nils (l : List Nat) : PyData.eqv (.list (l.map fun c => PyData.str ⟨#[c]⟩)) (.list []) = l.isEmpty := by
  cases l with
  | nil => simp only [List.map_nil, PyData.eqv, PyData.eqvAll, List.isEmpty_nil]
  | cons f r => simp only [List.map_cons, PyData.eqv, PyData.eqvAll, List.isEmpty_cons]
theorem ok_lisnm {f : Addr} {fd : FuncData} (M : Blt mg) (Mx : Bltx mg) (F : Fun K "_law_is_name" "_law_is_name" s__law_is_name f fd) : FnG P w K mg base CX0 2 f fd ["_law_item"] (sp_lisnm K) := by
  refine Gfun F sc__law_is_name (fun vs H Q E h => ?_) (fun cdv A outer s H vs Q E hg hr h => ?_)
  · obtain ⟨v, d, rfl, _⟩ := h
    rfl
  · obtain ⟨v, d, rfl, hq, hz, k⟩ := h
    refine ⟨_, (pss_cons (ps_if (PW.pt (pw_or (pt_not (pt_val (pe_callB call_isi rfl Mx.isinstance bt_isinstance (pa_cons (pv 0) (pa_cons (pe_bltn (v := .ty "str") rfl M.str bt_str rfl) pa_nil))))) (pw_or (pt_cmpR op_eq (pv 0) pe_str (nomark _)) (pw_or1 (pt_cmpR op_gt (pe_callB call_len_str rfl M.len bt_len (pa_cons (pv 0) pa_nil)) pe_int (nomark _))))))
      (pss_one (ps_ret pe_bl))
      pss_nil)
      (pss_one (ps_ret (pe_cmpR (op_eqD hr.units) (pe_lc (own := [("_law_sign", 1)]) (g := gName 1) rfl sc__law_is_name.nd (pi_str (pv 0)) (blkOk_by (N := ["_law_item", "_law_sign"]) (sc := defScope s__law_is_name) (by decide +kernel)) (fun _ _ _ _ _ => pg_name (i := 1) sc__law_is_name.nd rfl (Or.inl rfl)) (fun _ _ _ _ _ => (pts_one (pt_cmpR op_notInS (pv 1) pe_str rfl))) (fun _ _ _ _ _ => (pv 1))) (pe_lst pa_nil) (nomark _))))), ?_⟩
    have fin : ∀ b : Bool, isNm d = b → ∀ H', Same H H' → Q (.bl b) H' := fun b e H' s => e ▸ k H' s
    refine ⟨_, rfl, _, _, _, _, _, rfl, .ty "str", hq.ty, kit_ty (ks d), _, rfl, ?_⟩
    by_cases ht : isS d = true
    · rw [ht]
      refine iteF ?_
      obtain ⟨z, rfl, rfl⟩ := hq.txt ht
      obtain ⟨hzl, hzc⟩ := hz z rfl
      have hnm : isNm (.str z) = (decide (1 ≤ z.length) && decide (z.length ≤ 10) && z.cps.toList.all inL) := rfl
      refine ⟨_, rfl, rfl, _, rfl, ?_⟩
      by_cases e0 : z = Str.ofString ""
      · rw [decide_eq_true (congrArg V.str e0)]
        refine iteT (iteT (fin false ?_ H same_rfl))
        rw [e0]
        decide +kernel
      · rw [decide_eq_false (fun q => e0 (V.str.inj q))]
        have h1 : 1 ≤ z.length := by
          rcases Nat.eq_zero_or_pos z.length with q | q
          · exfalso
            apply e0
            have : z.cps = #[] := Array.eq_empty_of_size_eq_zero q
            rw [show Str.ofString "" = ⟨#[]⟩ by decide +kernel]
            obtain ⟨cs⟩ := z
            simp only at this
            rw [this]
          · exact q
        refine iteF ⟨_, rfl, z, rfl, len_show hzl, _, _, rfl, rfl, _, rfl, ?_⟩
        by_cases h2 : (10 : Int) < (z.length : Int)
        · rw [decide_eq_true h2]
          refine iteT (fin false ?_ H same_rfl)
          rw [hnm, show decide (z.length ≤ 10) = false from decide_eq_false (by omega), Bool.and_false, Bool.false_and]
        · rw [decide_eq_false h2]
          refine iteF ?_
          refine ⟨_, rfl, z, rfl, fun D hD => lc_it walk_str (fun i H' => H' D = some (.lst (((z.cps.toList.take i).filter fun c => !inL c).map fun c => .str ⟨#[c]⟩)) ∧ Same H H') ⟨upd_same, same_new hD⟩ (fun _ _ _ _ => trivial) ?_ ?_⟩
          · rintro i x H1 H2 hi ⟨eD, sm⟩ ⟨rfl, c, hc, rfl⟩
            have hsz : z.cps.size ≤ 1000 := hzl
            have tk : z.cps.toList.take (i + 1) = z.cps.toList.take i ++ [c] := by
              rw [List.take_add_one, Array.getElem?_toList, hc]
              rfl
            refine ⟨rfl, _, rfl, c, lets, rfl, rfl, _, rfl, ?_⟩
            show if (!inL c) = true then _ else _
            cases hL : inL c
            · refine iteT ⟨_, rfl, _, eD, ?_, ?_, fun b o e => ?_⟩
              · rw [List.length_map, sizeLine_eq]
                have := List.length_filter_le (fun c => !inL c) (z.cps.toList.take i)
                rw [List.length_take] at this
                omega
              · rw [upd_same, tk, List.filter_append, List.map_append]
                simp [hL]
              · rw [upd_ne (ne_of_none e hD)]
                exact sm _ _ e
            · refine iteF ⟨?_, sm⟩
              rw [eD, tk, List.filter_append]
              simp [hL]
          · rintro H1 ⟨eD, sm⟩
            rw [show z.cps.size = z.cps.toList.length from Array.length_toList.symm, List.take_length] at eD
            refine ⟨len_show (Nat.le_of_ble_eq_true rfl), fun m nm => ?_⟩
            have ss := signs_shaped (z.cps.toList.filter fun c => !inL c) (fun c hc => hzc c (List.mem_filter.mp hc).1)
            have sh : SeqAt.shaped (.list ((z.cps.toList.filter fun c => !inL c).map fun c => PyData.str ⟨#[c]⟩)) = true := by
              unfold SeqAt.shaped
              rw [Bool.and_eq_true]
              refine ⟨by simp only [PyData.canLay0]; exact ss.1, decide_eq_true ?_⟩
              simp only [PyData.depth, ss.2]
              omega
            refine ⟨_, _, .lst (.inl (.inl (same_new nm _ _ eD))) (signs_dp _), .lst (.inl (.inl upd_same)) .nil, sh, (by decide), ?_⟩
            rw [eqv_nils, filt_empty]
            refine fin _ ?_ _ (sm.trans (same_new nm))
            rw [hnm, decide_eq_true h1, decide_eq_true (show z.length ≤ 10 by omega)]
            rfl
    · have ht' : isS d = false := by cases h : isS d <;> first | rfl | exact absurd h ht
      rw [ht']
      exact iteT (fin _ (isNm_no ht') H same_rfl)

end
end Lf

set_option Elab.async false
set_option linter.all false
set_option maxRecDepth 100000
set_option maxHeartbeats 4000000
set_option exponentiation.threshold 3000
namespace Lf
open PySem PySem.Spec PyProof.Rows L2
/-- a thing that can be shown and asked -/
structure Gd (d : PyData) : Prop where
  sh : d.showable = true
  dp : d.depth ≤ 5
  lv : d.leavesShort 1000 = true
  wt : d.weight ≤ 6000
  md : ∀ a b, d = .tuple [.int a, .int b] → Mid b
  tx : ∀ z, d = .str z → z.length ≤ 1000 ∧ ∀ c ∈ z.cps.toList, c < 0x110000
theorem gd_of {w k : Nat} {d : PyData} (f : Ft w k d) (hw : w ≤ 6000 := by decide) (hk : k ≤ 5 := by decide) (h1 : ∀ a b, d ≠ .tuple [.int a, .int b] := by intro a b e; cases e) (h2 : ∀ z, d ≠ .str z := by intro z e; cases e) : Gd d :=
  ⟨f.sh, Nat.le_trans f.dp hk, f.lv, Nat.le_trans f.wt hw, fun a b e => absurd e (h1 a b), fun z e => absurd e (h2 z)⟩
theorem gd_two {x y : Int} (hx : Sm x) (hy : Sm y) : Gd (.tuple [.int x, .int y]) := by
  have f : Ft _ _ (.tuple [.int x, .int y]) := Ft.tuple (.cons (.int hx) (.cons (.int hy) .nil))
  exact ⟨f.sh, Nat.le_trans f.dp (by decide), f.lv, Nat.le_trans f.wt (by decide), (fun a b e => by cases e; exact hy.mid), (fun z e => by cases e)⟩
def Gs (z : Str) : Prop := z.length ≤ 1000 ∧ ∀ c ∈ z.cps.toList, c < 0x110000
theorem gd_str {z : Str} (h : Gs z) : Gd (.str z) := by
  have f : Ft 1000 0 (.str z) := Ft.str (fun c hc => Nat.lt_trans (h.2 c hc) (by decide)) h.1
  exact ⟨f.sh, Nat.le_trans f.dp (by decide), f.lv, Nat.le_trans f.wt (by decide), (fun a b e => by cases e), (fun y e => by cases e; exact h)⟩
theorem gs_num {n : Int} (h : Sm n) : Gs (Str.ofString (toString n)) := by
  refine ⟨Nat.le_trans h.text (by decide), fun c hc => ?_⟩
  rw [Str.ofString_eq_toList] at hc
  obtain ⟨ch, _, rfl⟩ := List.mem_map.mp (show c ∈ (toString n).toList.map Char.toNat from hc)
  rcases ch.valid with h | h
  · exact Nat.lt_trans h (by decide)
  · exact h.2
theorem showA_two {d e : PyData} (h : Gd d) (k : Gd e) : ShowA [d, e] := by
  have lv : PyData.leavesShort 1000 (.list [d, e]) = true := by simp only [PyData.leavesShort, PyData.leavesShortAll, h.lv, k.lv, Bool.and_self]
  refine ⟨by simp only [PyData.showableAll, h.sh, k.sh, Bool.and_self], ?_, ?_⟩
  · have := h.dp
    have := k.dp
    simp only [PyData.depthAll]
    omega
  · have e1 := PyData.shown_le 1000 (by decide) (.list [d, e]) lv
    have e2 : (PyData.list [d, e]).weight ≤ 12002 := by
      have := h.wt
      have := k.wt
      simp only [PyData.weight, PyData.weightAll]
      omega
    have e3 : (1000 + 2) * (PyData.list [d, e]).weight ≤ 1002 * 12002 := Nat.mul_le_mul (Nat.le_refl _) e2
    have e4 := sizeLine_eq
    omega
theorem Pot.same {H H' : Hp} {q : Addr} (s : Same H H') (h : Pot H q) : Pot H' q := by
  obtain ⟨x, y, a, b, e⟩ := h
  exact ⟨x, y, a, b, s _ _ e⟩
def Tn (n : Int) : Prop := n.natAbs < 2 ^ 40
theorem Tn.sm {n : Int} (h : Tn n) : Sm n := Nat.lt_of_lt_of_le h (Nat.pow_le_pow_right (by decide) (by decide))
theorem low_tn {n d : Int} (h : d ≠ 0) (hn : Tn n) (hd : Tn d) : Tn (low n d).1 ∧ Tn (low n d).2 :=
  ⟨Nat.lt_of_le_of_lt (low_top_le h) hn, Nat.lt_of_le_of_lt (low_bottom_le h) hd⟩
section
variable {P : Program} {w : World} {K : PySem.W.Frag} {mg : Str → Option Value} {base : Heap}

/-! ### _law_thing -/
abbrev s__law_thing : Stmt := topS 12
theorem sc__law_thing : FnScope ["_law_pot_here", "_law_way", "_law_k", "_law_some", "_law_n", "_law_d"] ["_law_pot_here"] (defScope s__law_thing) := ⟨rfl, rfl, rfl, by decide +kernel, rfl, by decide +kernel, by decide +kernel⟩
/-- the heap without the pot -/
def wo (q : Addr) (H : Hp) : Hp := fun b => if b = q then none else H b
theorem wo_at {q p : Addr} {H : Hp} {o : HO} (n : p ≠ q) (e : H p = some o) : wo q H p = some o := by
  unfold wo
  rw [if_neg n]
  exact e
theorem wo_le {q : Addr} {H : Hp} : Same (wo q H) H := fun b o e => by
  unfold wo at e
  split at e
  · cases e
  · exact e
theorem wo_but {q : Addr} {H H' : Hp} (h : But q H H') : Same (wo q H) (wo q H') := fun b o e => by
  have n : b ≠ q := fun z => by
    unfold wo at e
    rw [if_pos z] at e
    cases e
  exact wo_at n (h b o n (wo_le _ _ e))
theorem pot_ne {q p : Addr} {H : Hp} (h : Pot H q) (n : H p = none) : p ≠ q := fun z => by
  obtain ⟨x, y, _, _, e⟩ := h
  rw [← z, n] at e
  cases e
theorem upd_twice {H : Hp} {a : Addr} {o o' : HO} : upd (upd H a o) a o' = upd H a o' := by
  funext b
  by_cases h : b = a
  · rw [h, upd_same, upd_same]
  · rw [upd_ne h, upd_ne h, upd_ne h]
def AllG : List PyData → Prop
  | [] => True
  | d :: ds => Gd d ∧ AllG ds
theorem AllG.get : ∀ {ds : List PyData} {i : Nat} {d : PyData}, AllG ds → ds[i]? = some d → Gd d
  | [], _, _, _, e => by simp at e
  | _ :: _, 0, _, h, e => by
    simp at e
    exact e ▸ h.1
  | _ :: _, i + 1, d, h, e => AllG.get (i := i) h.2 (by simpa using e)
theorem gd_dict0 : Gd (.dict []) := ⟨by decide +kernel, by decide +kernel, by decide +kernel, by decide +kernel, (fun a b e => by cases e), (fun z e => by cases e)⟩
theorem gd_dict1 {a b : Int} (ha : Sm a) (hb : Sm b) : Gd (.dict [(.int a, .int b)]) := by
  have fa := Ft.int ha
  have fb := Ft.int hb
  refine ⟨?_, ?_, ?_, ?_, (fun a b e => by cases e), (fun z e => by cases e)⟩
  · simp only [PyData.showable, PyData.showableKv, Bool.and_true]
    have h1 := fa.sh
    have h2 := fb.sh
    simp only [PyData.showable] at h1 h2
    rw [h1, h2]
    rfl
  · simp only [PyData.depth, PyData.depthKv]
    omega
  · simp only [PyData.leavesShort, PyData.leavesShortKv, Bool.and_true]
    have h1 := fa.lv
    have h2 := fb.lv
    simp only [PyData.leavesShort] at h1 h2
    rw [h1, h2]
    rfl
  · have h1 := fa.wt
    have h2 := fb.wt
    simp only [PyData.weight, PyData.weightKv] at h1 h2 ⊢
    omega
def sp_thing (K : PySem.W.Frag) : Sp := fun vs H Q _ => ∃ (q : Addr), vs = [.ref q] ∧ Pot H q ∧ ∀ (v : V) (d : PyData) (H' : Hp), Dq K (wo q H') v d → Gd d → Pot H' q → But q H H' → Q v H'
set_option maxHeartbeats 16000000 in
theorem ok_thing {f : Addr} {fd : FuncData} (M : Blt mg) (F : Fun K "_law_thing" "_law_thing" s__law_thing f fd) (C__law_draw : Cal P w K mg base CX0 1 "_law_draw" ["_law_pot_here", "_law_many"] sp_draw) (C__law_low : Cal P w K mg base CX0 1 "_law_low" ["_law_top", "_law_bottom"] sp_low) : FnG P w K mg base CX0 2 f fd ["_law_pot_here"] (sp_thing K) := by
  refine Gfun F sc__law_thing (fun vs H Q E h => ?_) (fun cdv A outer s H vs Q E hg hr h => ?_)
  · obtain ⟨q, rfl, _⟩ := h
    rfl
  · obtain ⟨q, rfl, hP, kk⟩ := h
    refine ⟨_, (pss_cons (ps_set (i := 1) sc__law_thing.nd rfl (.inl rfl) (pe_g C__law_draw (hr.mono (by decide)) hg (pa_cons (pv 0) (pa_cons pe_int pa_nil))))
      (pss_cons (ps_asg (pe_g C__law_low (hr.mono (by decide)) hg (pa_cons (pe_op op_add (pe_op op_sub (pe_g C__law_draw (hr.mono (by decide)) hg (pa_cons (pv 0) (pa_cons (pe_op op_sub (pe_op op_mulW pe_int (pe_op op_pow pe_int pe_int)) pe_int) pa_nil))) (pe_op op_pow pe_int pe_int)) pe_int) (pa_cons (pe_op op_add pe_int (pe_g C__law_draw (hr.mono (by decide)) hg (pa_cons (pv 0) (pa_cons (pe_op op_sub (pe_op op_pow pe_int pe_int) pe_int) pa_nil)))) pa_nil))) (pg_tup rfl (pgs_cons (pg_name (i := 4) sc__law_thing.nd rfl (.inl rfl)) (pgs_cons (pg_name (i := 5) sc__law_thing.nd rfl (.inl rfl)) pgs_nil))))
      (pss_mid (ps_if (pt_cmpR op_eq (pe_g C__law_draw (hr.mono (by decide)) hg (pa_cons (pv 0) (pa_cons pe_int pa_nil))) pe_int (nomark _))
      (pss_one (ps_asg (pe_g C__law_low (hr.mono (by decide)) hg (pa_cons (pe_op op_sub (pe_op op_mod (pv 4) pe_int) pe_int) (pa_cons (pe_op op_add (pe_op op_mod (pv 5) pe_int) pe_int) pa_nil))) (pg_tup rfl (pgs_cons (pg_name (i := 4) sc__law_thing.nd rfl (.inl rfl)) (pgs_cons (pg_name (i := 5) sc__law_thing.nd rfl (.inl rfl)) pgs_nil)))))
      pss_nil)
      (pss_cons (ps_set (i := 2) sc__law_thing.nd rfl (.inl rfl) (pe_op op_add pe_int (pe_g C__law_draw (hr.mono (by decide)) hg (pa_cons (pv 0) (pa_cons pe_int pa_nil)))))
      (pss_cons (ps_set (i := 3) sc__law_thing.nd rfl (.inl rfl) (pe_lst (pa_cons (pe_tup (pa_cons (pv 4) (pa_cons (pv 5) pa_nil))) (pa_cons (pe_lst (pa_cons (pv 4) (pa_cons (pv 5) pa_nil))) (pa_cons (pe_tup (pa_cons (pv 4) pa_nil)) (pa_cons (pe_tup (pa_cons (pv 4) (pa_cons (pv 5) (pa_cons pe_int pa_nil)))) (pa_cons (pe_tup (pa_cons (pe_op op_mulW (pv 4) (pv 2)) (pa_cons (pe_op op_mulW (pv 5) (pv 2)) pa_nil))) (pa_cons (pe_tup (pa_cons (pv 4) (pa_cons pe_int pa_nil))) (pa_cons (pe_tup (pa_cons (pv 4) (pa_cons (pe_un un_neg (pv 5)) pa_nil))) (pa_cons (pe_tup (pa_cons (pv 5) (pa_cons (pv 4) pa_nil))) (pa_cons (pe_tup (pa_cons pe_bl (pa_cons (pv 5) pa_nil))) (pa_cons (pe_tup (pa_cons (pv 4) (pa_cons pe_bl pa_nil))) (pa_cons (pe_tup (pa_cons (pe_cmpR op_eq (pv 4) pe_int (nomark _)) (pa_cons (pv 5) pa_nil))) pa_nil)))))))))))))
      (pss_cons (ps_set (i := 3) sc__law_thing.nd rfl (.inl rfl) (pe_op op_cat (pv 3) (pe_lst (pa_cons (pe_tup (pa_cons (pv 4) (pa_cons (pe_cmpR op_eq (pv 5) pe_int (nomark _)) pa_nil))) (pa_cons (pe_tup (pa_cons (pe_callTy call_str_int rfl M.str bt_str (pa_cons (pv 4) pa_nil)) (pa_cons (pv 5) pa_nil))) (pa_cons (pe_tup (pa_cons (pv 4) (pa_cons (pe_callTy call_str_int rfl M.str bt_str (pa_cons (pv 5) pa_nil)) pa_nil))) (pa_cons (pe_tup (pa_cons pe_non (pa_cons (pv 5) pa_nil))) (pa_cons (pe_tup (pa_cons (pv 4) (pa_cons pe_non pa_nil))) (pa_cons (pe_tup (pa_cons (pe_tup (pa_cons (pv 4) (pa_cons (pv 5) pa_nil))) (pa_cons (pv 5) pa_nil))) (pa_cons (pe_tup (pa_cons (pv 4) (pa_cons (pe_tup (pa_cons (pv 4) (pa_cons (pv 5) pa_nil))) pa_nil))) (pa_cons (pv 4) (pa_cons (pe_callTy call_str_int rfl M.str bt_str (pa_cons (pv 4) pa_nil)) pa_nil))))))))))))
      (pss_one (ps_ret (pe_ix ix_list (pe_op op_cat (pv 3) (pe_lst (pa_cons pe_non (pa_cons (pe_tup pa_nil) (pa_cons (pe_lst pa_nil) (pa_cons pe_dnewK (pa_cons (pe_disp (pps_cons (pv 4) (pv 5) pps_nil) rfl rfl (by decide) (by decide)) (pa_cons (pe_tup (pa_cons (pe_tup (pa_cons (pv 4) (pa_cons (pv 5) pa_nil))) (pa_cons (pe_tup (pa_cons (pv 4) (pa_cons (pv 5) pa_nil))) pa_nil))) pa_nil)))))))) (pv 1) (fun _ _ => rfl)))))))))), ?_⟩
    refine ⟨_, rfl, q, 26, rfl, by decide, by decide, hP, fun way H1 w0 w1 hP1 b1 => ?_⟩
    refine ⟨_, rfl, 10, 12, rfl, rfl, ⟨by decide, by decide, by decide⟩, 2, 1000000000000, rfl, rfl, Sm.mulW (small30 (by decide) (by decide)) (by unfold Sm; decide), _, _, rfl, rfl, q, 1999999999999, rfl, by decide, by decide, hP1, fun r1 H2 r10 r11 hP2 b2 => ?_⟩
    refine ⟨10, 12, rfl, rfl, ⟨by decide, by decide, by decide⟩, r1, 1000000000000, rfl, rfl, _, _, rfl, rfl, ?_⟩
    refine ⟨_, rfl, 10, 12, rfl, rfl, ⟨by decide, by decide, by decide⟩, 1000000000000, 1, rfl, rfl, q, 999999999999, rfl, by decide, by decide, hP2, fun r2 H3 r20 r21 hP3 b3 => ?_⟩
    have z1 : Tn (r1 - 1000000000000 + 1) := by
      show (r1 - 1000000000000 + 1).natAbs < 1099511627776
      omega
    have z2 : Tn (1 + r2) := by
      show (1 + r2).natAbs < 1099511627776
      omega
    refine ⟨1, r2, rfl, rfl, r1 - 1000000000000 + 1, 1 + r2, rfl, by omega, z2.sm.mid, fun H4 p4 s4 e4 => ?_⟩
    have t1 := low_tn (n := r1 - 1000000000000 + 1) (d := 1 + r2) (by omega) z1 z2
    have tp := (low_is (n := r1 - 1000000000000 + 1) (d := 1 + r2) (by omega)).1
    generalize low (r1 - 1000000000000 + 1) (1 + r2) = nd at e4 t1 tp
    obtain ⟨n0, d0⟩ := nd
    refine ⟨p4, _, rfl, .inl (.inl e4), rfl, _, _, rfl, _, _, rfl, rfl, ?_⟩
    have hP4 := hP3.same s4
    have b4 : But q H H4 := ((b1.trans b2).trans b3).same s4
    refine ⟨fun σ' H' => ∃ (n d : Int), σ' = [some (.ref q), some (.int way), none, none, some (.int n), some (.int d)] ∧ Tn n ∧ Tn d ∧ Pot H' q ∧ But q H H', ?_, ?_⟩
    · refine ⟨_, rfl, q, 2, rfl, by decide, by decide, hP4, fun r3 H5 r30 r31 hP5 b5 => ?_⟩
      refine ⟨rfl, _, rfl, ite2 (fun e => ?_) (fun e => ?_)⟩
      · have m1 := Int.emod_nonneg n0 (show (23 : Int) ≠ 0 by decide)
        have m2 := Int.emod_lt_of_pos n0 (show (0 : Int) < 23 by decide)
        have m3 := Int.emod_nonneg d0 (show (7 : Int) ≠ 0 by decide)
        have m4 := Int.emod_lt_of_pos d0 (show (0 : Int) < 7 by decide)
        have y1 : Tn (n0 % 23 - 11) := by
          show (n0 % 23 - 11).natAbs < 1099511627776
          omega
        have y2 : Tn (d0 % 7 + 1) := by
          show (d0 % 7 + 1).natAbs < 1099511627776
          omega
        refine ⟨_, rfl, _, _, rfl, rfl, (by show (0 : Int) < 23; decide), _, _, rfl, rfl, _, rfl, _, _, rfl, rfl, (by show (0 : Int) < 7; decide), _, _, rfl, rfl, _, _, rfl, by omega, y2.sm.mid, fun H6 p6 s6 e6 => ?_⟩
        have t2 := low_tn (n := n0 % 23 - 11) (d := d0 % 7 + 1) (by omega) y1 y2
        refine ⟨p6, _, rfl, .inl (.inl e6), rfl, _, _, rfl, _, _, rfl, rfl, ?_⟩
        exact ⟨_, _, rfl, t2.1, t2.2, hP5.same s6, (b4.trans b5).same s6⟩
      · exact ⟨n0, d0, rfl, t1.1, t1.2, hP5, b4.trans b5⟩
    rintro σ H5' ⟨n, d, rfl, hn, hd, hP5', b5'⟩
    refine ⟨_, rfl, q, 90, rfl, by decide, by decide, hP5', fun r4 H5 r40 r41 hP5 b5 => ?_⟩
    refine ⟨2, r4, rfl, rfl, ?_⟩
    have hk : Sm (2 + r4) := small30 (by omega) (by omega)
    have hkb : (2 + r4).natAbs < 2 ^ 7 := by
      show (2 + r4).natAbs < 128
      omega
    have sm0 : Sm 0 := small30 (by decide) (by decide)
    have sm1 : Sm 1 := small30 (by decide) (by decide)
    have hnk : Sm (n * (2 + r4)) := by
      show (n * (2 + r4)).natAbs < 2 ^ 900
      rw [Int.natAbs_mul]
      exact Nat.lt_of_lt_of_le (Nat.mul_lt_mul'' hn hkb) (by rw [← Nat.pow_add]; exact Nat.pow_le_pow_right (by decide) (by decide))
    have hdk : Sm (d * (2 + r4)) := by
      show (d * (2 + r4)).natAbs < 2 ^ 900
      rw [Int.natAbs_mul]
      exact Nat.lt_of_lt_of_le (Nat.mul_lt_mul'' hd hkb) (by rw [← Nat.pow_add]; exact Nat.pow_le_pow_right (by decide) (by decide))
    have hnd : Sm (-d) := by
      show (-d).natAbs < 2 ^ 900
      rw [Int.natAbs_neg]
      exact hd.sm
    have logn : n.natAbs.log2 < 1920 := Nat.lt_of_lt_of_le hn.sm.log (by decide)
    have logd : d.natAbs.log2 < 1920 := Nat.lt_of_lt_of_le hd.sm.log (by decide)
    have P0 : Pot H5 q := hP5
    refine ⟨_, rfl, _, rfl, len_show (Nat.le_of_ble_eq_true rfl), fun p1 n1 => ?_⟩
    have c1 := pot_ne P0 n1
    have s1 := same_new (o := .tup [.int n, .int d]) n1
    have P1 := P0.same s1
    have e1 := upd_same (H := H5) (a := p1) (o := .tup [.int n, .int d])
    generalize upd H5 p1 (.tup [.int n, .int d]) = J1 at s1 e1 P1 ⊢
    refine ⟨_, rfl, _, rfl, len_show (Nat.le_of_ble_eq_true rfl), fun p2 n2 => ?_⟩
    have c2 := pot_ne P1 n2
    have s2 := same_new (o := .lst [.int n, .int d]) n2
    have P2 := P1.same s2
    have e2 := upd_same (H := J1) (a := p2) (o := .lst [.int n, .int d])
    generalize upd J1 p2 (.lst [.int n, .int d]) = J2 at s2 e2 P2 ⊢
    refine ⟨_, rfl, len_show (Nat.le_of_ble_eq_true rfl), fun p3 n3 => ?_⟩
    have c3 := pot_ne P2 n3
    have s3 := same_new (o := .tup [.int n]) n3
    have P3 := P2.same s3
    have e3 := upd_same (H := J2) (a := p3) (o := .tup [.int n])
    generalize upd J2 p3 (.tup [.int n]) = J3 at s3 e3 P3 ⊢
    refine ⟨_, rfl, _, rfl, len_show (Nat.le_of_ble_eq_true rfl), fun p4 n4 => ?_⟩
    have c4 := pot_ne P3 n4
    have s4 := same_new (o := .tup [.int n, .int d, .int 1]) n4
    have P4 := P3.same s4
    have e4 := upd_same (H := J3) (a := p4) (o := .tup [.int n, .int d, .int 1])
    generalize upd J3 p4 (.tup [.int n, .int d, .int 1]) = J4 at s4 e4 P4 ⊢
    refine ⟨_, rfl, _, rfl, _, _, rfl, rfl, Sm.mulW hn.sm hk, _, rfl, _, rfl, _, _, rfl, rfl, Sm.mulW hd.sm hk, len_show (Nat.le_of_ble_eq_true rfl), fun p5 n5 => ?_⟩
    have c5 := pot_ne P4 n5
    have s5 := same_new (o := .tup [.int (n * (2 + r4)), .int (d * (2 + r4))]) n5
    have P5 := P4.same s5
    have e5 := upd_same (H := J4) (a := p5) (o := .tup [.int (n * (2 + r4)), .int (d * (2 + r4))])
    generalize upd J4 p5 (.tup [.int (n * (2 + r4)), .int (d * (2 + r4))]) = J5 at s5 e5 P5 ⊢
    refine ⟨_, rfl, len_show (Nat.le_of_ble_eq_true rfl), fun p6 n6 => ?_⟩
    have c6 := pot_ne P5 n6
    have s6 := same_new (o := .tup [.int n, .int 0]) n6
    have P6 := P5.same s6
    have e6 := upd_same (H := J5) (a := p6) (o := .tup [.int n, .int 0])
    generalize upd J5 p6 (.tup [.int n, .int 0]) = J6 at s6 e6 P6 ⊢
    refine ⟨_, rfl, _, rfl, _, rfl, len_show (Nat.le_of_ble_eq_true rfl), fun p7 n7 => ?_⟩
    have c7 := pot_ne P6 n7
    have s7 := same_new (o := .tup [.int n, .int (-d)]) n7
    have P7 := P6.same s7
    have e7 := upd_same (H := J6) (a := p7) (o := .tup [.int n, .int (-d)])
    generalize upd J6 p7 (.tup [.int n, .int (-d)]) = J7 at s7 e7 P7 ⊢
    refine ⟨_, rfl, _, rfl, len_show (Nat.le_of_ble_eq_true rfl), fun p8 n8 => ?_⟩
    have c8 := pot_ne P7 n8
    have s8 := same_new (o := .tup [.int d, .int n]) n8
    have P8 := P7.same s8
    have e8 := upd_same (H := J7) (a := p8) (o := .tup [.int d, .int n])
    generalize upd J7 p8 (.tup [.int d, .int n]) = J8 at s8 e8 P8 ⊢
    refine ⟨_, rfl, len_show (Nat.le_of_ble_eq_true rfl), fun p9 n9 => ?_⟩
    have c9 := pot_ne P8 n9
    have s9 := same_new (o := .tup [.bl true, .int d]) n9
    have P9 := P8.same s9
    have e9 := upd_same (H := J8) (a := p9) (o := .tup [.bl true, .int d])
    generalize upd J8 p9 (.tup [.bl true, .int d]) = J9 at s9 e9 P9 ⊢
    refine ⟨_, rfl, len_show (Nat.le_of_ble_eq_true rfl), fun p10 n10 => ?_⟩
    have c10 := pot_ne P9 n10
    have s10 := same_new (o := .tup [.int n, .bl true]) n10
    have P10 := P9.same s10
    have e10 := upd_same (H := J9) (a := p10) (o := .tup [.int n, .bl true])
    generalize upd J9 p10 (.tup [.int n, .bl true]) = J10 at s10 e10 P10 ⊢
    refine ⟨_, rfl, rfl, _, rfl, len_show (Nat.le_of_ble_eq_true rfl), fun p11 n11 => ?_⟩
    have c11 := pot_ne P10 n11
    have s11 := same_new (o := .tup [.bl (decide (V.int n = V.int 1)), .int d]) n11
    have P11 := P10.same s11
    have e11 := upd_same (H := J10) (a := p11) (o := .tup [.bl (decide (V.int n = V.int 1)), .int d])
    generalize upd J10 p11 (.tup [.bl (decide (V.int n = V.int 1)), .int d]) = J11 at s11 e11 P11 ⊢
    refine ⟨len_show (Nat.le_of_ble_eq_true rfl), fun p12 n12 => ?_⟩
    have c12 := pot_ne P11 n12
    have s12 := same_new (o := .lst [.ref p1, .ref p2, .ref p3, .ref p4, .ref p5, .ref p6, .ref p7, .ref p8, .ref p9, .ref p10, .ref p11]) n12
    have P12 := P11.same s12
    have e12 := upd_same (H := J11) (a := p12) (o := .lst [.ref p1, .ref p2, .ref p3, .ref p4, .ref p5, .ref p6, .ref p7, .ref p8, .ref p9, .ref p10, .ref p11])
    generalize upd J11 p12 (.lst [.ref p1, .ref p2, .ref p3, .ref p4, .ref p5, .ref p6, .ref p7, .ref p8, .ref p9, .ref p10, .ref p11]) = J12 at s12 e12 P12 ⊢
    refine ⟨_, rfl, _, rfl, _, rfl, rfl, len_show (Nat.le_of_ble_eq_true rfl), fun p13 n13 => ?_⟩
    have c13 := pot_ne P12 n13
    have s13 := same_new (o := .tup [.int n, .bl (decide (V.int d = V.int 1))]) n13
    have P13 := P12.same s13
    have e13 := upd_same (H := J12) (a := p13) (o := .tup [.int n, .bl (decide (V.int d = V.int 1))])
    generalize upd J12 p13 (.tup [.int n, .bl (decide (V.int d = V.int 1))]) = J13 at s13 e13 P13 ⊢
    refine ⟨_, rfl, _, rfl, logn, _, rfl, len_show (Nat.le_of_ble_eq_true rfl), fun p14 n14 => ?_⟩
    have c14 := pot_ne P13 n14
    have s14 := same_new (o := .tup [.str (Str.ofString (toString n)), .int d]) n14
    have P14 := P13.same s14
    have e14 := upd_same (H := J13) (a := p14) (o := .tup [.str (Str.ofString (toString n)), .int d])
    generalize upd J13 p14 (.tup [.str (Str.ofString (toString n)), .int d]) = J14 at s14 e14 P14 ⊢
    refine ⟨_, rfl, _, rfl, _, rfl, logd, len_show (Nat.le_of_ble_eq_true rfl), fun p15 n15 => ?_⟩
    have c15 := pot_ne P14 n15
    have s15 := same_new (o := .tup [.int n, .str (Str.ofString (toString d))]) n15
    have P15 := P14.same s15
    have e15 := upd_same (H := J14) (a := p15) (o := .tup [.int n, .str (Str.ofString (toString d))])
    generalize upd J14 p15 (.tup [.int n, .str (Str.ofString (toString d))]) = J15 at s15 e15 P15 ⊢
    refine ⟨_, rfl, len_show (Nat.le_of_ble_eq_true rfl), fun p16 n16 => ?_⟩
    have c16 := pot_ne P15 n16
    have s16 := same_new (o := .tup [.non, .int d]) n16
    have P16 := P15.same s16
    have e16 := upd_same (H := J15) (a := p16) (o := .tup [.non, .int d])
    generalize upd J15 p16 (.tup [.non, .int d]) = J16 at s16 e16 P16 ⊢
    refine ⟨_, rfl, len_show (Nat.le_of_ble_eq_true rfl), fun p17 n17 => ?_⟩
    have c17 := pot_ne P16 n17
    have s17 := same_new (o := .tup [.int n, .non]) n17
    have P17 := P16.same s17
    have e17 := upd_same (H := J16) (a := p17) (o := .tup [.int n, .non])
    generalize upd J16 p17 (.tup [.int n, .non]) = J17 at s17 e17 P17 ⊢
    refine ⟨_, rfl, _, rfl, len_show (Nat.le_of_ble_eq_true rfl), fun p18 n18 => ?_⟩
    have c18 := pot_ne P17 n18
    have s18 := same_new (o := .tup [.int n, .int d]) n18
    have P18 := P17.same s18
    have e18 := upd_same (H := J17) (a := p18) (o := .tup [.int n, .int d])
    generalize upd J17 p18 (.tup [.int n, .int d]) = J18 at s18 e18 P18 ⊢
    refine ⟨_, rfl, len_show (Nat.le_of_ble_eq_true rfl), fun p19 n19 => ?_⟩
    have c19 := pot_ne P18 n19
    have s19 := same_new (o := .tup [.ref p18, .int d]) n19
    have P19 := P18.same s19
    have e19 := upd_same (H := J18) (a := p19) (o := .tup [.ref p18, .int d])
    generalize upd J18 p19 (.tup [.ref p18, .int d]) = J19 at s19 e19 P19 ⊢
    refine ⟨_, rfl, _, rfl, _, rfl, len_show (Nat.le_of_ble_eq_true rfl), fun p20 n20 => ?_⟩
    have c20 := pot_ne P19 n20
    have s20 := same_new (o := .tup [.int n, .int d]) n20
    have P20 := P19.same s20
    have e20 := upd_same (H := J19) (a := p20) (o := .tup [.int n, .int d])
    generalize upd J19 p20 (.tup [.int n, .int d]) = J20 at s20 e20 P20 ⊢
    refine ⟨len_show (Nat.le_of_ble_eq_true rfl), fun p21 n21 => ?_⟩
    have c21 := pot_ne P20 n21
    have s21 := same_new (o := .tup [.int n, .ref p20]) n21
    have P21 := P20.same s21
    have e21 := upd_same (H := J20) (a := p21) (o := .tup [.int n, .ref p20])
    generalize upd J20 p21 (.tup [.int n, .ref p20]) = J21 at s21 e21 P21 ⊢
    refine ⟨_, rfl, _, rfl, _, rfl, logn, len_show (Nat.le_of_ble_eq_true rfl), fun p22 n22 => ?_⟩
    have c22 := pot_ne P21 n22
    have s22 := same_new (o := .lst [.ref p13, .ref p14, .ref p15, .ref p16, .ref p17, .ref p19, .ref p21, .int n, .str (Str.ofString (toString n))]) n22
    have P22 := P21.same s22
    have e22 := upd_same (H := J21) (a := p22) (o := .lst [.ref p13, .ref p14, .ref p15, .ref p16, .ref p17, .ref p19, .ref p21, .int n, .str (Str.ofString (toString n))])
    generalize upd J21 p22 (.lst [.ref p13, .ref p14, .ref p15, .ref p16, .ref p17, .ref p19, .ref p21, .int n, .str (Str.ofString (toString n))]) = J22 at s22 e22 P22 ⊢
    refine ⟨p12, p22, _, _, rfl, rfl, (s22 _ _ (s21 _ _ (s20 _ _ (s19 _ _ (s18 _ _ (s17 _ _ (s16 _ _ (s15 _ _ (s14 _ _ (s13 _ _ e12)))))))))), e22, len_show (Nat.le_of_ble_eq_true rfl), fun p23 n23 => ?_⟩
    have c23 := pot_ne P22 n23
    have s23 := same_new (o := .lst ([.ref p1, .ref p2, .ref p3, .ref p4, .ref p5, .ref p6, .ref p7, .ref p8, .ref p9, .ref p10, .ref p11] ++ [.ref p13, .ref p14, .ref p15, .ref p16, .ref p17, .ref p19, .ref p21, .int n, .str (Str.ofString (toString n))])) n23
    have P23 := P22.same s23
    have e23 := upd_same (H := J22) (a := p23) (o := .lst ([.ref p1, .ref p2, .ref p3, .ref p4, .ref p5, .ref p6, .ref p7, .ref p8, .ref p9, .ref p10, .ref p11] ++ [.ref p13, .ref p14, .ref p15, .ref p16, .ref p17, .ref p19, .ref p21, .int n, .str (Str.ofString (toString n))]))
    generalize upd J22 p23 (.lst ([.ref p1, .ref p2, .ref p3, .ref p4, .ref p5, .ref p6, .ref p7, .ref p8, .ref p9, .ref p10, .ref p11] ++ [.ref p13, .ref p14, .ref p15, .ref p16, .ref p17, .ref p19, .ref p21, .int n, .str (Str.ofString (toString n))])) = J23 at s23 e23 P23 ⊢
    refine ⟨_, rfl, len_show (Nat.le_of_ble_eq_true rfl), fun p24 n24 => ?_⟩
    have c24 := pot_ne P23 n24
    have s24 := same_new (o := .tup []) n24
    have P24 := P23.same s24
    have e24 := upd_same (H := J23) (a := p24) (o := .tup [])
    generalize upd J23 p24 (.tup []) = J24 at s24 e24 P24 ⊢
    refine ⟨len_show (Nat.le_of_ble_eq_true rfl), fun p25 n25 => ?_⟩
    have c25 := pot_ne P24 n25
    have s25 := same_new (o := .lst []) n25
    have P25 := P24.same s25
    have e25 := upd_same (H := J24) (a := p25) (o := .lst [])
    generalize upd J24 p25 (.lst []) = J25 at s25 e25 P25 ⊢
    refine fun p26 n26 => ?_
    have c26 := pot_ne P25 n26
    have s26 := same_new (o := .dK []) n26
    have P26 := P25.same s26
    have e26 := upd_same (H := J25) (a := p26) (o := .dK [])
    generalize upd J25 p26 (.dK []) = J26 at s26 e26 P26 ⊢
    refine fun p27 n27 => ?_
    refine ⟨_, rfl, _, rfl, upd_same, [(.inl n, .int d)], rfl, Nat.le_of_ble_eq_true rfl, ?_⟩
    rw [upd_twice]
    have c27 := pot_ne P26 n27
    have s27 := same_new (o := .dK [(.inl n, .int d)]) n27
    have P27 := P26.same s27
    have e27 := upd_same (H := J26) (a := p27) (o := .dK [(.inl n, .int d)])
    rw [show mergeK [] [((.inl n : Key), V.int d)] = [(.inl n, .int d)] from rfl]
    generalize upd J26 p27 (.dK [(.inl n, .int d)]) = J27 at s27 e27 P27 ⊢
    refine ⟨_, rfl, _, rfl, len_show (Nat.le_of_ble_eq_true rfl), fun p28 n28 => ?_⟩
    have c28 := pot_ne P27 n28
    have s28 := same_new (o := .tup [.int n, .int d]) n28
    have P28 := P27.same s28
    have e28 := upd_same (H := J27) (a := p28) (o := .tup [.int n, .int d])
    generalize upd J27 p28 (.tup [.int n, .int d]) = J28 at s28 e28 P28 ⊢
    refine ⟨_, rfl, _, rfl, len_show (Nat.le_of_ble_eq_true rfl), fun p29 n29 => ?_⟩
    have c29 := pot_ne P28 n29
    have s29 := same_new (o := .tup [.int n, .int d]) n29
    have P29 := P28.same s29
    have e29 := upd_same (H := J28) (a := p29) (o := .tup [.int n, .int d])
    generalize upd J28 p29 (.tup [.int n, .int d]) = J29 at s29 e29 P29 ⊢
    refine ⟨len_show (Nat.le_of_ble_eq_true rfl), fun p30 n30 => ?_⟩
    have c30 := pot_ne P29 n30
    have s30 := same_new (o := .tup [.ref p28, .ref p29]) n30
    have P30 := P29.same s30
    have e30 := upd_same (H := J29) (a := p30) (o := .tup [.ref p28, .ref p29])
    generalize upd J29 p30 (.tup [.ref p28, .ref p29]) = J30 at s30 e30 P30 ⊢
    refine ⟨len_show (Nat.le_of_ble_eq_true rfl), fun p31 n31 => ?_⟩
    have c31 := pot_ne P30 n31
    have s31 := same_new (o := .lst [.non, .ref p24, .ref p25, .ref p26, .ref p27, .ref p30]) n31
    have P31 := P30.same s31
    have e31 := upd_same (H := J30) (a := p31) (o := .lst [.non, .ref p24, .ref p25, .ref p26, .ref p27, .ref p30])
    generalize upd J30 p31 (.lst [.non, .ref p24, .ref p25, .ref p26, .ref p27, .ref p30]) = J31 at s31 e31 P31 ⊢
    refine ⟨p23, p31, _, _, rfl, rfl, (s31 _ _ (s30 _ _ (s29 _ _ (s28 _ _ (s27 _ _ (s26 _ _ (s25 _ _ (s24 _ _ e23)))))))), e31, len_show (Nat.le_of_ble_eq_true rfl), fun p32 n32 => ?_⟩
    have c32 := pot_ne P31 n32
    have s32 := same_new (o := .lst (([.ref p1, .ref p2, .ref p3, .ref p4, .ref p5, .ref p6, .ref p7, .ref p8, .ref p9, .ref p10, .ref p11] ++ [.ref p13, .ref p14, .ref p15, .ref p16, .ref p17, .ref p19, .ref p21, .int n, .str (Str.ofString (toString n))]) ++ [.non, .ref p24, .ref p25, .ref p26, .ref p27, .ref p30])) n32
    have P32 := P31.same s32
    have e32 := upd_same (H := J31) (a := p32) (o := .lst (([.ref p1, .ref p2, .ref p3, .ref p4, .ref p5, .ref p6, .ref p7, .ref p8, .ref p9, .ref p10, .ref p11] ++ [.ref p13, .ref p14, .ref p15, .ref p16, .ref p17, .ref p19, .ref p21, .int n, .str (Str.ofString (toString n))]) ++ [.non, .ref p24, .ref p25, .ref p26, .ref p27, .ref p30]))
    generalize upd J31 p32 (.lst (([.ref p1, .ref p2, .ref p3, .ref p4, .ref p5, .ref p6, .ref p7, .ref p8, .ref p9, .ref p10, .ref p11] ++ [.ref p13, .ref p14, .ref p15, .ref p16, .ref p17, .ref p19, .ref p21, .int n, .str (Str.ofString (toString n))]) ++ [.non, .ref p24, .ref p25, .ref p26, .ref p27, .ref p30])) = J32 at s32 e32 P32 ⊢
    have G32 : Same J32 J32 := same_rfl
    have G31 : Same J31 J32 := s32.trans G32
    have G30 : Same J30 J32 := s31.trans G31
    have G29 : Same J29 J32 := s30.trans G30
    have G28 : Same J28 J32 := s29.trans G29
    have G27 : Same J27 J32 := s28.trans G28
    have G26 : Same J26 J32 := s27.trans G27
    have G25 : Same J25 J32 := s26.trans G26
    have G24 : Same J24 J32 := s25.trans G25
    have G23 : Same J23 J32 := s24.trans G24
    have G22 : Same J22 J32 := s23.trans G23
    have G21 : Same J21 J32 := s22.trans G22
    have G20 : Same J20 J32 := s21.trans G21
    have G19 : Same J19 J32 := s20.trans G20
    have G18 : Same J18 J32 := s19.trans G19
    have G17 : Same J17 J32 := s18.trans G18
    have G16 : Same J16 J32 := s17.trans G17
    have G15 : Same J15 J32 := s16.trans G16
    have G14 : Same J14 J32 := s15.trans G15
    have G13 : Same J13 J32 := s14.trans G14
    have G12 : Same J12 J32 := s13.trans G13
    have G11 : Same J11 J32 := s12.trans G12
    have G10 : Same J10 J32 := s11.trans G11
    have G9 : Same J9 J32 := s10.trans G10
    have G8 : Same J8 J32 := s9.trans G9
    have G7 : Same J7 J32 := s8.trans G8
    have G6 : Same J6 J32 := s7.trans G7
    have G5 : Same J5 J32 := s6.trans G6
    have G4 : Same J4 J32 := s5.trans G5
    have G3 : Same J3 J32 := s4.trans G4
    have G2 : Same J2 J32 := s3.trans G3
    have G1 : Same J1 J32 := s2.trans G2
    have hq : DqAll K (wo q J32) [.ref p1, .ref p2, .ref p3, .ref p4, .ref p5, .ref p6, .ref p7, .ref p8, .ref p9, .ref p10, .ref p11, .ref p13, .ref p14, .ref p15, .ref p16, .ref p17, .ref p19, .ref p21, .int n, .str (Str.ofString (toString n)), .non, .ref p24, .ref p25, .ref p26, .ref p27, .ref p30] [.tuple [.int n, .int d], .list [.int n, .int d], .tuple [.int n], .tuple [.int n, .int d, .int 1], .tuple [.int (n * (2 + r4)), .int (d * (2 + r4))], .tuple [.int n, .int 0], .tuple [.int n, .int (-d)], .tuple [.int d, .int n], .tuple [.bool true, .int d], .tuple [.int n, .bool true], .tuple [.bool (decide (V.int n = V.int 1)), .int d], .tuple [.int n, .bool (decide (V.int d = V.int 1))], .tuple [.str (Str.ofString (toString n)), .int d], .tuple [.int n, .str (Str.ofString (toString d))], .tuple [.none, .int d], .tuple [.int n, .none], .tuple [.tuple [.int n, .int d], .int d], .tuple [.int n, .tuple [.int n, .int d]], .int n, .str (Str.ofString (toString n)), .none, .tuple [], .list [], .dict [], .dict [(.int n, .int d)], .tuple [.tuple [.int n, .int d], .tuple [.int n, .int d]]] := (.cons (.dp (.tup (.inl (.inl (wo_at c1 (G1 _ _ e1)))) (.cons (.int _) (.cons (.int _) .nil))) (by rfl)) (.cons (.dp (.lst (.inl (.inl (wo_at c2 (G2 _ _ e2)))) (.cons (.int _) (.cons (.int _) .nil))) (by rfl)) (.cons (.dp (.tup (.inl (.inl (wo_at c3 (G3 _ _ e3)))) (.cons (.int _) .nil)) (by rfl)) (.cons (.dp (.tup (.inl (.inl (wo_at c4 (G4 _ _ e4)))) (.cons (.int _) (.cons (.int _) (.cons (.int _) .nil)))) (by rfl)) (.cons (.dp (.tup (.inl (.inl (wo_at c5 (G5 _ _ e5)))) (.cons (.int _) (.cons (.int _) .nil))) (by rfl)) (.cons (.dp (.tup (.inl (.inl (wo_at c6 (G6 _ _ e6)))) (.cons (.int _) (.cons (.int _) .nil))) (by rfl)) (.cons (.dp (.tup (.inl (.inl (wo_at c7 (G7 _ _ e7)))) (.cons (.int _) (.cons (.int _) .nil))) (by rfl)) (.cons (.dp (.tup (.inl (.inl (wo_at c8 (G8 _ _ e8)))) (.cons (.int _) (.cons (.int _) .nil))) (by rfl)) (.cons (.dp (.tup (.inl (.inl (wo_at c9 (G9 _ _ e9)))) (.cons (.bl _) (.cons (.int _) .nil))) (by rfl)) (.cons (.dp (.tup (.inl (.inl (wo_at c10 (G10 _ _ e10)))) (.cons (.int _) (.cons (.bl _) .nil))) (by rfl)) (.cons (.dp (.tup (.inl (.inl (wo_at c11 (G11 _ _ e11)))) (.cons (.bl _) (.cons (.int _) .nil))) (by rfl)) (.cons (.dp (.tup (.inl (.inl (wo_at c13 (G13 _ _ e13)))) (.cons (.int _) (.cons (.bl _) .nil))) (by rfl)) (.cons (.dp (.tup (.inl (.inl (wo_at c14 (G14 _ _ e14)))) (.cons (.str _) (.cons (.int _) .nil))) (by rfl)) (.cons (.dp (.tup (.inl (.inl (wo_at c15 (G15 _ _ e15)))) (.cons (.int _) (.cons (.str _) .nil))) (by rfl)) (.cons (.dp (.tup (.inl (.inl (wo_at c16 (G16 _ _ e16)))) (.cons .non (.cons (.int _) .nil))) (by rfl)) (.cons (.dp (.tup (.inl (.inl (wo_at c17 (G17 _ _ e17)))) (.cons (.int _) (.cons .non .nil))) (by rfl)) (.cons (.dp (.tup (.inl (.inl (wo_at c19 (G19 _ _ e19)))) (.cons (.tup (.inl (.inl (wo_at c18 (G18 _ _ e18)))) (.cons (.int _) (.cons (.int _) .nil))) (.cons (.int _) .nil))) (by rfl)) (.cons (.dp (.tup (.inl (.inl (wo_at c21 (G21 _ _ e21)))) (.cons (.int _) (.cons (.tup (.inl (.inl (wo_at c20 (G20 _ _ e20)))) (.cons (.int _) (.cons (.int _) .nil))) .nil))) (by rfl)) (.cons (.dp (.int _) (by rfl)) (.cons (.dp (.str _) (by rfl)) (.cons (.dp .non (by rfl)) (.cons (.dp (.tup (.inl (.inl (wo_at c24 (G24 _ _ e24)))) .nil) (by rfl)) (.cons (.dp (.lst (.inl (.inl (wo_at c25 (G25 _ _ e25)))) .nil) (by rfl)) (.cons (.dic (wo_at c26 (G26 _ _ e26)) .nil) (.cons (.dic (wo_at c27 (G27 _ _ e27)) (.cons ⟨rfl, .int d⟩ .nil)) (.cons (.dp (.tup (.inl (.inl (wo_at c30 (G30 _ _ e30)))) (.cons (.tup (.inl (.inl (wo_at c28 (G28 _ _ e28)))) (.cons (.int _) (.cons (.int _) .nil))) (.cons (.tup (.inl (.inl (wo_at c29 (G29 _ _ e29)))) (.cons (.int _) (.cons (.int _) .nil))) .nil))) (by rfl)) .nil))))))))))))))))))))))))))
    have hg26 : AllG [.tuple [.int n, .int d], .list [.int n, .int d], .tuple [.int n], .tuple [.int n, .int d, .int 1], .tuple [.int (n * (2 + r4)), .int (d * (2 + r4))], .tuple [.int n, .int 0], .tuple [.int n, .int (-d)], .tuple [.int d, .int n], .tuple [.bool true, .int d], .tuple [.int n, .bool true], .tuple [.bool (decide (V.int n = V.int 1)), .int d], .tuple [.int n, .bool (decide (V.int d = V.int 1))], .tuple [.str (Str.ofString (toString n)), .int d], .tuple [.int n, .str (Str.ofString (toString d))], .tuple [.none, .int d], .tuple [.int n, .none], .tuple [.tuple [.int n, .int d], .int d], .tuple [.int n, .tuple [.int n, .int d]], .int n, .str (Str.ofString (toString n)), .none, .tuple [], .list [], .dict [], .dict [(.int n, .int d)], .tuple [.tuple [.int n, .int d], .tuple [.int n, .int d]]] := ⟨gd_two (hn.sm) (hd.sm), gd_of (Ft.list (.cons (.int hn.sm) (.cons (.int hd.sm) .nil))), gd_of (Ft.tuple (.cons (.int hn.sm) .nil)), gd_of (Ft.tuple (.cons (.int hn.sm) (.cons (.int hd.sm) (.cons (.int sm1) .nil)))), gd_two (hnk) (hdk), gd_two (hn.sm) (sm0), gd_two (hn.sm) (hnd), gd_two (hd.sm) (hn.sm), gd_of (Ft.tuple (.cons (.bool true) (.cons (.int hd.sm) .nil))), gd_of (Ft.tuple (.cons (.int hn.sm) (.cons (.bool true) .nil))), gd_of (Ft.tuple (.cons (.bool _) (.cons (.int hd.sm) .nil))), gd_of (Ft.tuple (.cons (.int hn.sm) (.cons (.bool _) .nil))), gd_of (Ft.tuple (.cons (.str (Sg.of _) hn.sm.text) (.cons (.int hd.sm) .nil))), gd_of (Ft.tuple (.cons (.int hn.sm) (.cons (.str (Sg.of _) hd.sm.text) .nil))), gd_of (Ft.tuple (.cons .none (.cons (.int hd.sm) .nil))), gd_of (Ft.tuple (.cons (.int hn.sm) (.cons .none .nil))), gd_of (Ft.tuple (.cons (Ft.tuple (.cons (.int hn.sm) (.cons (.int hd.sm) .nil))) (.cons (.int hd.sm) .nil))), gd_of (Ft.tuple (.cons (.int hn.sm) (.cons (Ft.tuple (.cons (.int hn.sm) (.cons (.int hd.sm) .nil))) .nil))), gd_of (Ft.int hn.sm), gd_str (gs_num hn.sm), gd_of Ft.none, gd_of (Ft.tuple .nil), gd_of (Ft.list .nil), gd_dict0, gd_dict1 hn.sm hd.sm, gd_of (Ft.tuple (.cons (Ft.tuple (.cons (.int hn.sm) (.cons (.int hd.sm) .nil))) (.cons (Ft.tuple (.cons (.int hn.sm) (.cons (.int hd.sm) .nil))) .nil))), trivial⟩
    have g : Same H5 J32 := s1.trans G1
    obtain ⟨i, rfl⟩ : ∃ i : Nat, way = (i : Int) := ⟨way.toNat, by omega⟩
    have hi : i < 26 := by omega
    obtain ⟨v, hv⟩ : ∃ v, ([.ref p1, .ref p2, .ref p3, .ref p4, .ref p5, .ref p6, .ref p7, .ref p8, .ref p9, .ref p10, .ref p11, .ref p13, .ref p14, .ref p15, .ref p16, .ref p17, .ref p19, .ref p21, .int n, .str (Str.ofString (toString n)), .non, .ref p24, .ref p25, .ref p26, .ref p27, .ref p30] : List V)[i]? = some v := by
      have hl : i < ([.ref p1, .ref p2, .ref p3, .ref p4, .ref p5, .ref p6, .ref p7, .ref p8, .ref p9, .ref p10, .ref p11, .ref p13, .ref p14, .ref p15, .ref p16, .ref p17, .ref p19, .ref p21, .int n, .str (Str.ofString (toString n)), .non, .ref p24, .ref p25, .ref p26, .ref p27, .ref p30] : List V).length := hi
      exact ⟨_, List.getElem?_eq_getElem hl⟩
    obtain ⟨dd, hdd, hqd⟩ := hq.get hv
    refine ⟨_, rfl, p32, _, (i : Int), v, rfl, rfl, .inl (.inl e32), atI_nat hv, ?_⟩
    exact kk v dd _ hqd (hg26.get hdd) (hP5.same g) ((b5'.trans b5).same g)

end
end Lf

set_option Elab.async false
set_option linter.all false
set_option maxRecDepth 100000
set_option maxHeartbeats 4000000
set_option exponentiation.threshold 3000
namespace Lf
open PySem PySem.Spec PyProof.Rows L2
def Ok1 (z : Str) : Prop := ∀ c ∈ z.cps.toList, c < 0x110000
theorem ok_lit (s : String) : Ok1 (Str.ofString s) := by
  intro c hc
  rw [Str.ofString_eq_toList] at hc
  obtain ⟨ch, _, rfl⟩ := List.mem_map.mp (show c ∈ s.toList.map Char.toNat from hc)
  rcases ch.valid with h | h
  · exact Nat.lt_trans h (by decide)
  · exact h.2
theorem ok_app {x y : Str} (h : Ok1 x) (k : Ok1 y) : Ok1 (x ++ y) := by
  intro c hc
  have e : (x ++ y).cps.toList = x.cps.toList ++ y.cps.toList := by
    rw [show (x ++ y).cps = x.cps ++ y.cps from rfl, Array.toList_append]
  rw [e] at hc
  rcases List.mem_append.mp hc with q | q
  · exact h c q
  · exact k c q
theorem ok_one {z : Str} {c : Nat} {i : Nat} (h : Ok1 z) (e : z.cps[i]? = some c) : Ok1 ⟨#[c]⟩ := by
  intro x hx
  have : x = c := by simpa using hx
  rw [this]
  exact h c (List.mem_of_getElem? (by rw [Array.getElem?_toList]; exact e))
theorem ok_cut {z : Str} (lo hi : Option Int) (h : Ok1 z) : Ok1 (cutS z lo hi) := fun c hc => h c (List.mem_of_mem_drop (List.mem_of_mem_take (show c ∈ ((z.cps.toList.drop _).take _) by simpa [cutS] using hc)))
theorem ok_join : ∀ ys : List Str, (∀ y ∈ ys, Ok1 y) → Ok1 (Str.join (Str.ofString "") ys)
  | [], _ => by
    intro c hc
    have : (Str.join (Str.ofString "") []).cps.toList = [] := by decide +kernel
    rw [this] at hc
    cases hc
  | [x], h => h x List.mem_cons_self
  | x :: y :: r, h => ok_app (ok_app (h x List.mem_cons_self) (ok_lit "")) (ok_join (y :: r) fun z hz => h z (List.mem_cons_of_mem _ hz))
theorem sum_ones : ∀ ys : List Str, (∀ y ∈ ys, y.length = 1) → (ys.map (·.length)).sum = ys.length
  | [], _ => rfl
  | y :: r, h => by
    rw [List.map_cons, List.sum_cons, h y List.mem_cons_self, sum_ones r fun z hz => h z (List.mem_cons_of_mem _ hz), List.length_cons]
    omega
theorem gs_join {ys : List Str} (h : ∀ y ∈ ys, Ok1 y ∧ y.length = 1) (hl : ys.length ≤ 13) : (Txt.join (Str.ofString "") ys).length ≤ 13 ∧ Ok1 (Txt.join (Str.ofString "") ys) := by
  have e : Txt.join (Str.ofString "") ys = Str.join (Str.ofString "") ys := StrLaws.glued_eq_join _ _
  rw [e]
  refine ⟨?_, ok_join ys fun y hy => (h y hy).1⟩
  have q := StrLaws.join_length_le (Str.ofString "") ys
  rw [sum_ones ys fun y hy => (h y hy).2, show (Str.ofString "").length = 0 by decide +kernel, Nat.mul_zero] at q
  omega
section
variable {P : Program} {w : World} {K : PySem.W.Frag} {mg : Str → Option Value} {base : Heap}

/-! ### _law_text -/
abbrev s__law_text : Stmt := topS 13
theorem sc__law_text : FnScope ["_law_pot_here", "_law_way", "_law_signs", "_law_size", "_law_at", "_law_sign", "_law_text_here", "_law_k"] ["_law_pot_here"] (defScope s__law_text) := ⟨rfl, rfl, rfl, by decide +kernel, rfl, by decide +kernel, by decide +kernel⟩
def sp_text (K : PySem.W.Frag) : Sp := fun vs H Q _ => ∃ (q : Addr), vs = [.ref q] ∧ Pot H q ∧ ∀ (v : V) (d : PyData) (H' : Hp), Dq K H' v d → Gd d → Pot H' q → But q H H' → Q v H'
theorem ok_text {f : Addr} {fd : FuncData} (M : Blt mg) (F : Fun K "_law_text" "_law_text" s__law_text f fd) (C__law_draw : Cal P w K mg base CX0 1 "_law_draw" ["_law_pot_here", "_law_many"] sp_draw) : FnG P w K mg base CX0 2 f fd ["_law_pot_here"] (sp_text K) := by
  refine Gfun F sc__law_text (fun vs H Q E h => ?_) (fun cdv A outer s H vs Q E hg hr h => ?_)
  · obtain ⟨q, rfl, _⟩ := h
    rfl
  · obtain ⟨q, rfl, hP, kk⟩ := h
    refine ⟨_, (pss_cons (ps_set (i := 1) sc__law_text.nd rfl (.inl rfl) (pe_g C__law_draw (hr.mono (by decide)) hg (pa_cons (pv 0) (pa_cons pe_int pa_nil))))
      (pss_cons (ps_if (pt_cmpR op_eq (pv 1) pe_int (nomark _))
      (pss_one (ps_ret (pe_ix ix_list (pe_lst (pa_cons pe_non (pa_cons pe_int (pa_cons pe_bl (pa_cons (pe_lst (pa_cons pe_str pa_nil)) (pa_cons (pe_tup (pa_cons pe_str pa_nil)) (pa_cons pe_dnewK (pa_cons (pe_disp (pps_cons pe_str pe_str pps_nil) rfl rfl (by decide) (by decide)) (pa_cons (pe_lst pa_nil) pa_nil))))))))) (pe_g C__law_draw (hr.mono (by decide)) hg (pa_cons (pv 0) (pa_cons pe_int pa_nil))) (fun _ _ => rfl))))
      pss_nil)
      (pss_cons (ps_set (i := 2) sc__law_text.nd rfl (.inl rfl) pe_str)
      (pss_cons (ps_set (i := 3) sc__law_text.nd rfl (.inl rfl) (pe_g C__law_draw (hr.mono (by decide)) hg (pa_cons (pv 0) (pa_cons pe_int pa_nil))))
      (pss_cons (ps_set (i := 4) sc__law_text.nd rfl (.inl rfl) (pe_g C__law_draw (hr.mono (by decide)) hg (pa_cons (pv 0) (pa_cons (pe_op op_add (pv 3) pe_int) pa_nil))))
      (pss_cons (ps_set (i := 5) sc__law_text.nd rfl (.inl rfl) (pe_item_str (pv 2) (pe_g C__law_draw (hr.mono (by decide)) hg (pa_cons (pv 0) (pa_cons (pe_callB call_len_str rfl M.len bt_len (pa_cons (pv 2) pa_nil)) pa_nil))) (fun _ _ => rfl)))
      (pss_cons (ps_set (i := 6) sc__law_text.nd rfl (.inl rfl) (pe_bm PySem.F.plainAttrs_str PySem.F.slot_str_join PySem.F.type_str_join mt_join pe_str (pa_cons (pe_lc (own := [("_law_k", 7)]) (g := gName 7) (tt := tYes) rfl sc__law_text.nd (pi_range1 rfl M.range (pa_cons (pv 3) pa_nil)) (blkOk_by (N := ["_law_pot_here", "_law_way", "_law_signs", "_law_size", "_law_at", "_law_sign", "_law_text_here", "_law_k"]) (sc := defScope s__law_text) (by decide +kernel)) (fun _ _ _ _ _ => pg_name (i := 7) sc__law_text.nd rfl (Or.inl rfl)) (fun _ _ _ _ _ => pts_nil) (fun _ _ _ _ _ => (pe_item_str pe_str (pe_g C__law_draw (hr.mono (by decide)) hg (pa_cons (pv 0) (pa_cons pe_int pa_nil))) (fun _ _ => rfl)))) pa_nil)))
      (pss_cons (ps_if (pt_cmpR op_lt (pv 1) pe_int (nomark _))
      (pss_one (ps_ret (pv 6)))
      pss_nil)
      (pss_one (ps_ret (pe_op op_add_str (pe_op op_add_str (pe_slice sl_str (pv 6) po_none (po_some (pv 4))) (pv 5)) (pe_slice sl_str (pv 6) (po_some (pe_op op_sub (pe_op op_add (pv 4) (pv 1)) pe_int)) po_none)))))))))))), ?_⟩
    refine ⟨_, rfl, q, 6, rfl, by decide, by decide, hP, fun way H1 w0 w1 hP1 b1 => ?_⟩
    refine ⟨_, rfl, rfl, _, rfl, ite2 (fun e => ?_) (fun e => ?_)⟩
    · refine ⟨len_show (Nat.le_of_ble_eq_true rfl), fun p1 n1 => ?_⟩
      have s1 := same_new (o := .lst [.str (Str.ofString "a")]) n1
      have e1 := upd_same (H := H1) (a := p1) (o := .lst [.str (Str.ofString "a")])
      generalize upd H1 p1 (.lst [.str (Str.ofString "a")]) = J1 at s1 e1 ⊢
      refine ⟨len_show (Nat.le_of_ble_eq_true rfl), fun p2 n2 => ?_⟩
      have s2 := same_new (o := .tup [.str (Str.ofString "a")]) n2
      have e2 := upd_same (H := J1) (a := p2) (o := .tup [.str (Str.ofString "a")])
      generalize upd J1 p2 (.tup [.str (Str.ofString "a")]) = J2 at s2 e2 ⊢
      refine fun p3 n3 => ?_
      have s3 := same_new (o := .dK []) n3
      have e3 := upd_same (H := J2) (a := p3) (o := .dK [])
      generalize upd J2 p3 (.dK []) = J3 at s3 e3 ⊢
      refine fun p4 n4 => ?_
      refine ⟨upd_same, [(.inr (Str.ofString "a"), .str (Str.ofString "b"))], rfl, Nat.le_of_ble_eq_true rfl, ?_⟩
      rw [upd_twice]
      rw [show mergeK [] [((.inr (Str.ofString "a") : Key), V.str (Str.ofString "b"))] = [(.inr (Str.ofString "a"), .str (Str.ofString "b"))] from rfl]
      have s4 := same_new (o := .dK [(.inr (Str.ofString "a"), .str (Str.ofString "b"))]) n4
      have e4 := upd_same (H := J3) (a := p4) (o := .dK [(.inr (Str.ofString "a"), .str (Str.ofString "b"))])
      generalize upd J3 p4 (.dK [(.inr (Str.ofString "a"), .str (Str.ofString "b"))]) = J4 at s4 e4 ⊢
      refine ⟨len_show (Nat.le_of_ble_eq_true rfl), fun p5 n5 => ?_⟩
      have s5 := same_new (o := .lst []) n5
      have e5 := upd_same (H := J4) (a := p5) (o := .lst [])
      generalize upd J4 p5 (.lst []) = J5 at s5 e5 ⊢
      refine ⟨len_show (Nat.le_of_ble_eq_true rfl), fun p6 n6 => ?_⟩
      have s6 := same_new (o := .lst [.non, .int 7, .bl true, .ref p1, .ref p2, .ref p3, .ref p4, .ref p5]) n6
      have e6 := upd_same (H := J5) (a := p6) (o := .lst [.non, .int 7, .bl true, .ref p1, .ref p2, .ref p3, .ref p4, .ref p5])
      generalize upd J5 p6 (.lst [.non, .int 7, .bl true, .ref p1, .ref p2, .ref p3, .ref p4, .ref p5]) = J6 at s6 e6 ⊢
      have g : Same H1 J6 := ((((s1.trans s2).trans s3).trans s4).trans s5).trans s6
      refine ⟨_, rfl, q, 8, rfl, by decide, by decide, hP1.same g, fun r H2 r0 r1 hP2 b2 => ?_⟩
      have hPJ := hP1.same g
      have nb : ∀ {p : Addr} {o : HO}, J6 p = some o → (∀ x y, o ≠ .lst [.int x, .int y]) → H2 p = some o := fun {p o} e hne => b2 _ _ (fun z => by
        obtain ⟨x, y, _, _, eP⟩ := hPJ
        rw [z, eP] at e
        exact hne x y (Option.some.inj e).symm) e
      have hq : DqAll K H2 [.non, .int 7, .bl true, .ref p1, .ref p2, .ref p3, .ref p4, .ref p5] [.none, .int 7, .bool true, .list [.str (Str.ofString "a")], .tuple [.str (Str.ofString "a")], .dict [], .dict [(.str (Str.ofString "a"), .str (Str.ofString "b"))], .list []] :=
        .cons (.dp .non (by rfl)) (.cons (.dp (.int 7) (by rfl)) (.cons (.dp (.bl true) (by rfl))
          (.cons (.dp (.lst (.inl (.inl (nb (s6 _ _ (s5 _ _ (s4 _ _ (s3 _ _ (s2 _ _ e1))))) (fun x y z => by cases z)))) (.cons (.str _) .nil)) (by rfl))
          (.cons (.dp (.tup (.inl (.inl (nb (s6 _ _ (s5 _ _ (s4 _ _ (s3 _ _ e2)))) (fun x y z => by cases z)))) (.cons (.str _) .nil)) (by rfl))
          (.cons (.dic (nb (s6 _ _ (s5 _ _ (s4 _ _ e3))) (fun x y z => by cases z)) .nil)
          (.cons (.dic (nb (s6 _ _ (s5 _ _ e4)) (fun x y z => by cases z)) (.cons ⟨rfl, .str _⟩ .nil))
          (.cons (.dp (.lst (.inl (.inl (nb (s6 _ _ e5) (fun x y z => by cases z)))) .nil) (by rfl)) .nil)))))))
      have sa : Ft 1 0 (.str (Str.ofString "a")) := Ft.str (Sg.of _) (by decide +kernel)
      have hg8 : AllG [.none, .int 7, .bool true, .list [.str (Str.ofString "a")], .tuple [.str (Str.ofString "a")], .dict [], .dict [(.str (Str.ofString "a"), .str (Str.ofString "b"))], .list []] :=
        ⟨gd_of Ft.none, gd_of (Ft.int (small30 (by decide) (by decide))), gd_of (Ft.bool true), gd_of (Ft.list (.cons sa .nil)), gd_of (Ft.tuple (.cons sa .nil)), gd_dict0,
          ⟨by decide +kernel, by decide +kernel, by decide +kernel, by decide +kernel, (fun a b e => by cases e), (fun z e => by cases e)⟩, gd_of (Ft.list .nil), trivial⟩
      obtain ⟨i, rfl⟩ : ∃ i : Nat, r = (i : Int) := ⟨r.toNat, by omega⟩
      have hi : i < 8 := by omega
      obtain ⟨v, hv⟩ : ∃ v, ([.non, .int 7, .bl true, .ref p1, .ref p2, .ref p3, .ref p4, .ref p5] : List V)[i]? = some v := by
        have hl : i < ([.non, .int 7, .bl true, .ref p1, .ref p2, .ref p3, .ref p4, .ref p5] : List V).length := hi
        exact ⟨_, List.getElem?_eq_getElem hl⟩
      obtain ⟨dd, hdd, hqd⟩ := hq.get hv
      refine ⟨p6, _, (i : Int), v, rfl, rfl, .inl (.inl (nb e6 (fun x y z => by cases z))), atI_nat hv, ?_⟩
      exact kk v dd _ hqd (hg8.get hdd) hP2 ((b1.same g).trans b2)
    · -- a text
      refine ⟨_, rfl, q, 13, rfl, by decide, by decide, hP1, fun size H2 z0 z1 hP2 b2 => ?_⟩
      refine ⟨_, rfl, _, rfl, _, _, rfl, rfl, q, _, rfl, by omega, ?_, hP2, fun att H3 a0 a1 hP3 b3 => ?_⟩
      · show (size + 1).natAbs < 2 ^ 900
        exact Nat.lt_of_lt_of_le (show (size + 1).natAbs < 2 ^ 5 by show (size + 1).natAbs < 32; omega) (Nat.pow_le_pow_right (by decide) (by decide))
      refine ⟨_, rfl, _, rfl, _, rfl, _, rfl, len_show (by decide +kernel), q, _, rfl, by decide +kernel, by decide +kernel, hP3, fun r4 H4 r40 r41 hP4 b4 => ?_⟩
      obtain ⟨c, hc⟩ : ∃ c, (Str.ofString " !\"#$&'()*+,-./0123456789:;<=>?@ABCDEFGHIJKLMNOPQRSTUVWXYZ[\\]^_`{|}~\n").cps[r4.toNat]? = some c := by
        have hl : r4.toNat < (Str.ofString " !\"#$&'()*+,-./0123456789:;<=>?@ABCDEFGHIJKLMNOPQRSTUVWXYZ[\\]^_`{|}~\n").cps.size := by
          have : r4 < ((Str.ofString " !\"#$&'()*+,-./0123456789:;<=>?@ABCDEFGHIJKLMNOPQRSTUVWXYZ[\\]^_`{|}~\n").length : Int) := r41
          show r4.toNat < (Str.ofString " !\"#$&'()*+,-./0123456789:;<=>?@ABCDEFGHIJKLMNOPQRSTUVWXYZ[\\]^_`{|}~\n").length
          omega
        exact ⟨_, Array.getElem?_eq_getElem hl⟩
      refine ⟨_, r4, c, rfl, rfl, r40, ?_, r41, hc, ?_⟩
      · have : r4 < ((Str.ofString " !\"#$&'()*+,-./0123456789:;<=>?@ABCDEFGHIJKLMNOPQRSTUVWXYZ[\\]^_`{|}~\n").length : Int) := r41
        have h2 : ((Str.ofString " !\"#$&'()*+,-./0123456789:;<=>?@ABCDEFGHIJKLMNOPQRSTUVWXYZ[\\]^_`{|}~\n").length : Int) < 2 ^ 63 := by decide +kernel
        omega
      have okc := ok_one (ok_lit _) hc
      refine ⟨rfl, _, rfl, _, rfl, by omega, by omega, fun D hD => ?_⟩
      have nDq : D ≠ q := fun z => by
        obtain ⟨x, y, _, _, e⟩ := hP4
        rw [← z, hD] at e
        cases e
      have hl26 : (Str.ofString "abcdefghijklmnopqrstuvwxyz").length = 26 := by decide +kernel
      have b14 : But q H H4 := ((b1.trans b2).trans b3).trans b4
      refine lc_range (lo := 0) (n := size.toNat) (fun i H' => ∃ ys : List Str, H' D = some (.lst (ys.map V.str)) ∧ ys.length = i ∧ (∀ y ∈ ys, Ok1 y ∧ y.length = 1) ∧ Pot H' q ∧ But q H H')
        ⟨[], upd_same, rfl, (fun y h => nomatch h), hP4.same (same_new hD), b14.same (same_new hD)⟩ ?_ ?_
      · rintro i H5 hi ⟨ys, eD, hl, hy, hP5, b5⟩
        refine ⟨rfl, _, rfl, q, 26, rfl, by decide, by decide, hP5, fun r6 H6 r60 r61 hP6 b6 => ?_⟩
        have hlt : r6.toNat < (Str.ofString "abcdefghijklmnopqrstuvwxyz").cps.size := by
          show r6.toNat < (Str.ofString "abcdefghijklmnopqrstuvwxyz").length
          omega
        obtain ⟨c6, hgc⟩ : ∃ c6, (Str.ofString "abcdefghijklmnopqrstuvwxyz").cps[r6.toNat]? = some c6 := ⟨_, Array.getElem?_eq_getElem hlt⟩
        refine ⟨_, r6, c6, rfl, rfl, r60, by omega, by omega, hgc, ys.map V.str, b6 _ _ nDq eD, ?_, ys ++ [⟨#[c6]⟩], ?_, ?_, ?_, ?_, ?_⟩
        · rw [List.length_map, sizeLine_eq]
          omega
        · rw [upd_same, List.map_append]
          rfl
        · rw [List.length_append, hl]
          rfl
        · intro y h
          rcases List.mem_append.mp h with z | z
          · exact hy y z
          · rw [List.mem_singleton.mp z]
            exact ⟨ok_one (ok_lit _) hgc, rfl⟩
        · obtain ⟨x, y, y0, y1, eP⟩ := hP6
          refine ⟨x, y, y0, y1, ?_⟩
          rw [upd_ne nDq.symm]
          exact eP
        · intro b o nb eb
          rw [upd_ne (fun z => ?_)]
          · exact b6 _ _ nb (b5 _ _ nb eb)
          · have := b14 _ _ nb eb
            rw [z, hD] at this
            cases this
      rintro H5 ⟨ys, eD, hl, hy, hP5, b5⟩
      have hj := gs_join hy (by omega)
      refine ⟨_, D, ys, rfl, rfl, .inl (.inl (.inl eD)), ?_, ?_⟩
      · rw [sum_ones ys fun y h => (hy y h).2, show (Str.ofString "").length = 0 by decide +kernel, Nat.mul_zero]
        omega
      refine ⟨_, rfl, _, _, rfl, rfl, _, rfl, ite2 (fun e => ?_) (fun e => ?_)⟩
      · exact ⟨_, rfl, kk _ _ _ (.dp (.str _) (by rfl)) (gd_str ⟨by omega, hj.2⟩) hP5 b5⟩
      · have c1 := cutS_length (Txt.join (Str.ofString "") ys) none (some att)
        have c2 := cutS_length (Txt.join (Str.ofString "") ys) (some (att + way - 3)) none
        have o1 := ok_cut none (some att) hj.2
        have o2 := ok_cut (some (att + way - 3)) none hj.2
        have l1 : (⟨#[c]⟩ : Str).length = 1 := rfl
        have z := sizeLine_eq
        refine ⟨_, rfl, _, rfl, att, rfl, _, rfl, by omega, _, rfl, _, _, rfl, rfl, by omega, ?_⟩
        refine ⟨_, rfl, _, rfl, _, rfl, _, _, rfl, rfl, _, _, rfl, rfl, _, rfl, _, rfl, by omega, _, _, rfl, rfl, ?_, ?_⟩
        · rw [strLen_append]
          omega
        refine kk _ _ _ (.dp (.str _) (by rfl)) (gd_str ⟨?_, ok_app (ok_app o1 okc) o2⟩) hP5 b5
        rw [strLen_append, strLen_append]
        omega

/-! ### _law_right -/
abbrev s__law_right : Stmt := topS 17
theorem sc__law_right : FnScope ["_law_pot_here", "_law_turn", "_law_kept", "_law_due", "_law_again", "_law_item", "_law_word", "_law_found"] ["_law_pot_here"] (defScope s__law_right) := ⟨rfl, rfl, rfl, by decide +kernel, rfl, by decide +kernel, by decide +kernel⟩
def sp_right : Sp := fun vs H Q _ => ∃ (q : Addr), vs = [.ref q] ∧ Pot H q ∧ ∀ H', But q H H' → Q (.bl true) H'
theorem ok_right {f : Addr} {fd : FuncData} (M : Blt mg) (F : Fun K "_law_right" "_law_right" s__law_right f fd)
    (C__law_thing : Cal P w K mg base CX0 2 "_law_thing" ["_law_pot_here"] (sp_thing K)) (C__law_text : Cal P w K mg base CX0 2 "_law_text" ["_law_pot_here"] (sp_text K)) (C__law_is_fraction : Cal P w K mg base CX0 2 "_law_is_fraction" ["_law_item"] (sp_lisfr K)) (C__law_is_name : Cal P w K mg base CX0 2 "_law_is_name" ["_law_item"] (sp_lisnm K)) (C_is_fraction : Cal P w K mg base CX0 2 "is_fraction" ["thing"] (sp_isfr K)) (C_is_name : Cal P w K mg base CX0 2 "is_name" ["thing"] (sp_isnm K)) :
    FnG P w K mg base CX0 3 f fd ["_law_pot_here"] sp_right := by
  refine Gfun F sc__law_right (fun vs H Q E h => ?_) (fun cdv A outer s H vs Q E hg hr h => ?_)
  · obtain ⟨q, rfl, _⟩ := h
    rfl
  · obtain ⟨q, rfl, hP, kk⟩ := h
    refine ⟨_, (pss_cons (ps_for PassesOwn.never rfl (pi_range1 rfl M.range (pa_cons pe_int pa_nil)) (pg_name (i := 1) sc__law_right.nd rfl (.inl rfl))
      (pss_cons (ps_par (i := 5) (j := 6) rfl sc__law_right.nd rfl rfl (by decide) rfl rfl (pa_cons (pe_g C__law_thing (hr.mono (by decide)) hg (pa_cons (pv 0) pa_nil)) (pa_cons (pe_g C__law_text (hr.mono (by decide)) hg (pa_cons (pv 0) pa_nil)) pa_nil)) (by rfl))
      (pss_cons (ps_set (i := 2) sc__law_right.nd rfl (.inl rfl) (pe_callB (call_showQ hg hr) rfl M.repr bt_repr (pa_cons (pe_lst (pa_cons (pv 5) (pa_cons (pv 6) pa_nil))) pa_nil)))
      (pss_cons (ps_set (i := 3) sc__law_right.nd rfl (.inl rfl) (pe_lst (pa_cons (pe_g C__law_is_fraction (hr.mono (by decide)) hg (pa_cons (pv 5) pa_nil)) (pa_cons (pe_g C__law_is_name (hr.mono (by decide)) hg (pa_cons (pv 6) pa_nil)) (pa_cons (pe_g C__law_is_name (hr.mono (by decide)) hg (pa_cons (pv 5) pa_nil)) (pa_cons (pe_g C__law_is_fraction (hr.mono (by decide)) hg (pa_cons (pv 6) pa_nil)) pa_nil))))))
      (pss_one (ps_for PassesOwn.never rfl (pi_range1 rfl M.range (pa_cons pe_int pa_nil)) (pg_name (i := 4) sc__law_right.nd rfl (.inl rfl))
      (pss_cons (ps_set (i := 7) sc__law_right.nd rfl (.inl rfl) (pe_lst (pa_cons (pe_g C_is_fraction (hr.mono (by decide)) hg (pa_cons (pv 5) pa_nil)) (pa_cons (pe_gk C_is_name (hr.mono (by decide)) hg (pk_cons (pv 6) pk_nil)) (pa_cons (pe_g C_is_name (hr.mono (by decide)) hg (pa_cons (pv 5) pa_nil)) (pa_cons (pe_gk C_is_fraction (hr.mono (by decide)) hg (pk_cons (pv 6) pk_nil)) pa_nil))))))
      (pss_one (ps_if (PW.pt (pw_or (pt_cmpR op_ne (pe_callB (call_show hg hr) rfl M.repr bt_repr (pa_cons (pv 7) pa_nil)) (pe_callB (call_show hg hr) rfl M.repr bt_repr (pa_cons (pv 3) pa_nil)) (nomark _)) (pw_or1 (pt_cmpR op_ne (pe_callB (call_showQ hg hr) rfl M.repr bt_repr (pa_cons (pe_lst (pa_cons (pv 5) (pa_cons (pv 6) pa_nil))) pa_nil)) (pv 2) (nomark _)))))
      (pss_one (ps_ret pe_bl))
      pss_nil)))))))))
      (pss_one (ps_ret pe_bl))), ?_⟩
    refine ⟨2, rfl, by decide, by decide, for_range (lo := 0) (n := 2) (fun i σ H' => ∃ (y1 y2 y3 y4 y5 y6 y7 : Option V), σ = [some (.ref q), y1, y2, y3, y4, y5, y6, y7] ∧ Pot H' q ∧ But q H H') ⟨_, _, _, _, _, _, _, rfl, hP, But.rfl⟩ ?_ ?_⟩
    · rintro i σ H1 hi ⟨y1, y2, y3, y4, y5, y6, y7, rfl, hP1, b1⟩
      refine ⟨_, rfl, q, rfl, hP1, fun v d H2 hq1 g1 hP2 b2 => ?_⟩
      refine ⟨_, rfl, q, rfl, hP2, fun u e H3 hq2 g2 hP3 b3 => ?_⟩
      have hq1' : Dq K H3 v d := (hq1.same (wo_but b3)).same wo_le
      refine ⟨_, _, rfl, ?_⟩
      have S := showA_two g1 g2
      refine ⟨_, rfl, _, rfl, len_show (Nat.le_of_ble_eq_true rfl), fun m1 n1 => ?_⟩
      have s4 := same_new (o := .lst [v, u]) n1
      have q1 := hq1'.same s4
      have q2 := hq2.same s4
      refine ⟨m1, v, [u], _, rfl, .inl (.inl upd_same), .cons q1 (.cons q2 .nil), S.sh, S.dp, S.ln, ?_⟩
      generalize upd H3 m1 (.lst [v, u]) = H4 at s4 q1 q2 ⊢
      refine ⟨_, rfl, v, d, rfl, q1, g1.md, fun H5 s5 => ?_⟩
      refine ⟨_, rfl, u, e, rfl, q2.same s5, g2.tx, fun H6 s6 => ?_⟩
      refine ⟨_, rfl, v, d, rfl, (q1.same s5).same s6, g1.tx, fun H7 s7 => ?_⟩
      refine ⟨_, rfl, u, e, rfl, ((q2.same s5).same s6).same s7, g2.md, fun H8 s8 => ?_⟩
      refine ⟨len_show (Nat.le_of_ble_eq_true rfl), fun m2 n2 => ?_⟩
      have s9 := same_new (o := .lst [.bl (isFr d), .bl (isNm e), .bl (isNm d), .bl (isFr e)]) n2
      have e9 := upd_same (H := H8) (a := m2) (o := .lst [.bl (isFr d), .bl (isNm e), .bl (isNm d), .bl (isFr e)])
      generalize upd H8 m2 (.lst [.bl (isFr d), .bl (isNm e), .bl (isNm d), .bl (isFr e)]) = H9 at s9 e9 ⊢
      have s49 : Same H4 H9 := (((s5.trans s6).trans s7).trans s8).trans s9
      have b9 : But q H H9 := (((b1.trans b2).trans b3).same s4).same s49
      have hP9 := (hP3.same s4).same s49
      have S4 : Showy (.list [.bool (isFr d), .bool (isNm e), .bool (isNm d), .bool (isFr e)]) := (Ft.list (.cons (.bool _) (.cons (.bool _) (.cons (.bool _) (.cons (.bool _) .nil))))).showy
      refine ⟨2, rfl, by decide, by decide, for_range (lo := 0) (n := 2) (fun j σ H' => ∃ (y1 y4 y7 : Option V), σ = [some (.ref q), y1, some (.str (PyData.shown (.list [d, e]))), some (.ref m2), y4, some v, some u, y7] ∧ Same H9 H') ⟨_, _, _, rfl, same_rfl⟩ ?_ ?_⟩
      · rintro j σ G1 hj ⟨x1, x4, x7, rfl, t1⟩
        have r1 := (q1.same s49).same t1
        have r2 := (q2.same s49).same t1
        refine ⟨_, rfl, v, d, rfl, r1, ?_⟩
        refine ⟨_, rfl, u, e, rfl, r2, (fun z h => (g2.tx z h).1), fun G2 t2 => ?_⟩
        refine ⟨_, rfl, v, d, rfl, r1.same t2, (fun z h => (g1.tx z h).1), fun G3 t3 => ?_⟩
        refine ⟨_, rfl, u, e, rfl, (r2.same t2).same t3, ?_⟩
        refine ⟨len_show (Nat.le_of_ble_eq_true rfl), fun m3 n3 => ?_⟩
        have t4 := same_new (o := .lst [.bl (isFr d), .bl (isNm e), .bl (isNm d), .bl (isFr e)]) n3
        have f4 := upd_same (H := G3) (a := m3) (o := .lst [.bl (isFr d), .bl (isNm e), .bl (isNm d), .bl (isFr e)])
        generalize upd G3 m3 (.lst [.bl (isFr d), .bl (isNm e), .bl (isNm d), .bl (isFr e)]) = G4 at t4 f4 ⊢
        have t14 : Same G1 G4 := (t2.trans t3).trans t4
        refine ⟨_, rfl, m3, _, rfl, .lst (.inl (.inl f4)) (.cons (.bl _) (.cons (.bl _) (.cons (.bl _) (.cons (.bl _) .nil)))), S4.sh, S4.nd, S4.dp, S4.ln, ?_⟩
        refine ⟨_, rfl, m2, _, rfl, .lst (.inl (.inl (t14 _ _ (t1 _ _ e9)))) (.cons (.bl _) (.cons (.bl _) (.cons (.bl _) (.cons (.bl _) .nil)))), S4.sh, S4.nd, S4.dp, S4.ln, rfl, _, rfl, iteNS rfl ?_⟩
        refine ⟨_, rfl, _, rfl, len_show (Nat.le_of_ble_eq_true rfl), fun m4 n4 => ?_⟩
        have t5 := same_new (o := .lst [v, u]) n4
        refine ⟨m4, v, [u], _, rfl, .inl (.inl upd_same), .cons ((r1.same t14).same t5) (.cons ((r2.same t14).same t5) .nil), S.sh, S.dp, S.ln, ?_⟩
        refine ⟨_, rfl, rfl, _, rfl, iteNS rfl ?_⟩
        exact ⟨_, _, _, rfl, (t1.trans t14).trans t5⟩
      · rintro σ G1 ⟨x1, x4, x7, rfl, t1⟩
        exact ⟨_, _, _, _, _, _, _, rfl, hP9.same t1, b9.same t1⟩
    · rintro σ H1 ⟨y1, y2, y3, y4, y5, y6, y7, rfl, hP1, b1⟩
      exact kk _ b1

/-! ### law -/
abbrev s_law : Stmt := topS 18
theorem sc_law : FnScope ["_law_script", "_law_k"] ["_law_script"] (defScope s_law) := ⟨rfl, rfl, rfl, by decide +kernel, rfl, by decide +kernel, by decide +kernel⟩
def sp_law (K : PySem.W.Frag) : Sp := fun vs H Q _ => ∃ (a : Addr) (ns : List Int), vs = [.ref a] ∧ SqL K H a (ns.map V.int) ∧ ns.length ≤ 63 ∧ ∀ H', Q (.bl true) H'
theorem all_true : ∀ n : Nat, (List.replicate n true).all id = true
  | 0 => rfl
  | n + 1 => by rw [List.replicate_succ, List.all_cons, all_true n]; rfl
theorem ok_law {f : Addr} {fd : FuncData} (M : Blt mg) (F : Fun K "law" "law" s_law f fd) (C__law_cell : Cal P w K mg base CX0 1 "_law_cell" ["_law_script", "_law_k"] (sp_cell K)) (C__law_pot : Cal P w K mg base CX0 1 "_law_pot" ["_law_cell_here"] sp_pot)
    (C__law_right : Cal P w K mg base CX0 3 "_law_right" ["_law_pot_here"] sp_right) : FnG P w K mg base CX0 4 f fd ["_law_script"] (sp_law K) := by
  refine Gfun F sc_law (fun vs H Q E h => ?_) (fun cdv A outer s H vs Q E hg hr h => ?_)
  · obtain ⟨a, ns, rfl, _⟩ := h
    rfl
  · obtain ⟨a, ns, rfl, hS, hl, k⟩ := h
    refine ⟨_, (pss_one (ps_ret (pe_callB (cr_all rfl) rfl M.all bt_all (pa_cons (pe_lc (own := [("_law_k", 1)]) (g := gName 1) (tt := tYes) rfl sc_law.nd (pi_range1 rfl M.range (pa_cons (pe_callB (call_max2 rfl) rfl M.max bt_max (pa_cons pe_int (pa_cons (pe_callB (call_min2 rfl) rfl M.min bt_min (pa_cons (pe_callB call_len_seq rfl M.len bt_len (pa_cons (pv 0) pa_nil)) (pa_cons pe_int pa_nil))) pa_nil))) pa_nil)) (blkOk_by (N := ["_law_script", "_law_k"]) (sc := defScope s_law) (by decide +kernel)) (fun _ _ _ _ _ => pg_name (i := 1) sc_law.nd rfl (Or.inl rfl)) (fun _ _ _ _ _ => pts_nil) (fun _ _ _ _ _ => (pe_g C__law_right (hr.mono (by decide)) hg (pa_cons (pe_g C__law_pot (hr.mono (by decide)) hg (pa_cons (pe_g C__law_cell (hr.mono (by decide)) hg (pa_cons (pv 0) (pa_cons (pv 1) pa_nil))) pa_nil)) pa_nil)))) pa_nil)))), ?_⟩
    refine ⟨_, rfl, a, _, rfl, .inl hS, _, _, rfl, _, _, rfl, _, rfl, ?_, ?_, fun D hD => ?_⟩
    · split <;> split <;> omega
    · split <;> split <;> omega
    generalize hN : Int.toNat _ = N
    have hN2 : N ≤ 20 := by
      rw [← hN]
      split <;> split <;> omega
    refine lc_range (lo := 0) (n := N) (fun i H' => H' D = some (.lst (List.replicate i (.bl true))) ∧ Same H H') ⟨upd_same, same_new hD⟩ ?_ ?_
    · rintro i H1 hi ⟨hD1, sm1⟩
      refine ⟨rfl, _, rfl, _, rfl, a, ns, i, (by show [V.ref a, V.int (0 + (i : Int))] = _; rw [Int.zero_add]), sm1.seq hS, by omega, fun c => ?_⟩
      refine ⟨c, rfl, fun x y p y0 y1 np => ?_⟩
      refine ⟨p, rfl, ⟨x, y, y0, y1, upd_same⟩, fun H2 bt => ?_⟩
      have sm : Same H1 H2 := fun b o e => bt b o (ne_of_none e np) (by rw [upd_ne (ne_of_none e np)]; exact e)
      refine ⟨List.replicate i (.bl true), sm _ _ hD1, ?_, ?_, fun b o e => ?_⟩
      · rw [List.length_replicate, sizeLine_eq]
        omega
      · rw [upd_same, List.replicate_succ']
      · rw [upd_ne (ne_of_none e hD)]
        exact sm _ _ (sm1 _ _ e)
    · rintro H1 ⟨hD1, _⟩
      refine ⟨D, List.replicate N true, rfl, .inl (.inl ?_), ?_⟩
      · rw [hD1, List.map_replicate]
      · rw [all_true]
        exact k _

end
end Lf

set_option Elab.async false
set_option linter.all false
set_option maxRecDepth 100000
set_option maxHeartbeats 8000000
namespace Lf
open PySem PySem.Spec PyProof.Rows L2
/-- a def as the top left it, and how its arguments come to it -/
structure Df (K : PySem.W.Frag) (mg : Str → Option Value) (x : Str) (st : Stmt) (ps : List Str) (f : Addr) (fd : FuncData) : Prop where
  fn : Fun K x x st f fd
  g : mg x = some (.ref f)
  b1 : ∀ (s : Shared) (us : List Value), us.length = ps.length → BindsTo s fd ⟨us, []⟩ (ps.zip us)
  b2 : ∀ (s : Shared) (us : List Value), us.length = ps.length → BindsTo s fd ⟨[], ps.zip us⟩ (ps.zip us)
  b3 : ∀ (s : Shared) (us : List Value), us.length = ps.length → BindsTo s fd ⟨[], ps.reverse.zip us⟩ (ps.zip us.reverse)
theorem Df.cal {P : Program} {w : World} {K : PySem.W.Frag} {mg : Str → Option Value} {base : Heap} {CX : CXT} {k : Nat} {x : Str} {st : Stmt} {ps : List Str} {f : Addr} {fd : FuncData} {sp : Sp} (D : Df K mg x st ps f fd) (F : FnG P w K mg base CX k f fd ps sp) : Cal P w K mg base CX k x ps sp :=
  ⟨f, fd, F, D.b1, D.b2, D.b3, D.g, D.fn.kp⟩
/-- nothing keeps the promise of nothing -/
theorem FnG.no {P : Program} {w : World} {K : PySem.W.Frag} {mg : Str → Option Value} {base : Heap} {CX : CXT} {k : Nat} {f : Addr} {fd : FuncData} {ps : List Str} : FnG P w K mg base CX k f fd ps (fun _ _ _ _ => False) :=
  ⟨fun _ _ _ _ h => h.elim, fun _ _ _ _ _ _ _ _ _ _ _ _ _ _ h => h.elim⟩
/-- an error of the class at S is what a clause of S names -/
theorem exm_self {K : PySem.W.Frag} {S : Addr} (h1 : PySem.W.subIn K (.ref S) (.type "BaseException") = some true) (h2 : PySem.W.isClsIn K S = true) (h3 : PySem.W.typeIn K (.ref S) = some (.type "type")) (h4 : PySem.W.subIn K (.ref S) (.ref S) = some true) :
    PySem.W.exmOne K (.ref S) (.ref S) = some true := by
  have e1 : (PySem.W.subIn K (.ref S) (.type "BaseException") == some true) = true := by rw [h1] <;> rfl
  have e2 : ((PySem.W.clsIn K S).isSome && PySem.W.typeIn K (.ref S) == some (.type "type")) = true := by
    have h2' : (PySem.W.clsIn K S).isSome = true := h2
    rw [h2', h3] <;> rfl
  show (if (PySem.W.subIn K (.ref S) (.type "BaseException") == some true) = true then (if ((PySem.W.clsIn K S).isSome && PySem.W.typeIn K (.ref S) == some (.type "type")) = true then PySem.W.subIn K (.ref S) (.ref S) else none) else none) = some true
  rw [if_pos e1, if_pos e2]
  exact h4

theorem df_is_whole {K : PySem.W.Frag} {h : Heap} {mg : Str → Option Value} {f : Addr} {od an : Option Addr} {sl : Array (Option Value)} {oc kV dc pm cd ct : Value} (X : K.In h) (G : h.Ns mainGlobals mg) (a : PySem.W.nsIn K mainGlobals "is_whole" = some (some (.ref f)))
    (l : K.lookup f = some ⟨oc, od, .func (PySem.W.fnOf "is_whole" "is_whole" (defArgs s_is_whole) (defBody s_is_whole) (defScope s_is_whole) .none kV dc pm an cd ct), sl⟩) (c : PySem.W.codeIn K cd "is_whole" = true) (k : PySem.W.keepIn K (.ref f) = true) :
    Df K mg "is_whole" s_is_whole ["thing"] f (PySem.W.fnOf "is_whole" "is_whole" (defArgs s_is_whole) (defBody s_is_whole) (defScope s_is_whole) .none kV dc pm an cd ct) :=
  ⟨fun_mk l c k, PySem.W.mg_of X G a, fun s us hl => .of_eq (match us, hl with | [_], _ => rfl), fun s us hl => .of_eq (match us, hl with | [_], _ => rfl), fun s us hl => .of_eq (match us, hl with | [_], _ => rfl)⟩

theorem df_common {K : PySem.W.Frag} {h : Heap} {mg : Str → Option Value} {f : Addr} {od an : Option Addr} {sl : Array (Option Value)} {oc kV dc pm cd ct : Value} (X : K.In h) (G : h.Ns mainGlobals mg) (a : PySem.W.nsIn K mainGlobals "common" = some (some (.ref f)))
    (l : K.lookup f = some ⟨oc, od, .func (PySem.W.fnOf "common" "common" (defArgs sCom) (defBody sCom) (defScope sCom) .none kV dc pm an cd ct), sl⟩) (c : PySem.W.codeIn K cd "common" = true) (k : PySem.W.keepIn K (.ref f) = true) :
    Df K mg "common" sCom ["one", "other"] f (PySem.W.fnOf "common" "common" (defArgs sCom) (defBody sCom) (defScope sCom) .none kV dc pm an cd ct) :=
  ⟨fun_mk l c k, PySem.W.mg_of X G a, fun s us hl => .of_eq (match us, hl with | [_, _], _ => rfl), fun s us hl => .of_eq (match us, hl with | [_, _], _ => rfl), fun s us hl => .of_eq (match us, hl with | [_, _], _ => rfl)⟩

theorem df_is_fraction {K : PySem.W.Frag} {h : Heap} {mg : Str → Option Value} {f : Addr} {od an : Option Addr} {sl : Array (Option Value)} {oc kV dc pm cd ct : Value} (X : K.In h) (G : h.Ns mainGlobals mg) (a : PySem.W.nsIn K mainGlobals "is_fraction" = some (some (.ref f)))
    (l : K.lookup f = some ⟨oc, od, .func (PySem.W.fnOf "is_fraction" "is_fraction" (defArgs s_is_fraction) (defBody s_is_fraction) (defScope s_is_fraction) .none kV dc pm an cd ct), sl⟩) (c : PySem.W.codeIn K cd "is_fraction" = true) (k : PySem.W.keepIn K (.ref f) = true) :
    Df K mg "is_fraction" s_is_fraction ["thing"] f (PySem.W.fnOf "is_fraction" "is_fraction" (defArgs s_is_fraction) (defBody s_is_fraction) (defScope s_is_fraction) .none kV dc pm an cd ct) :=
  ⟨fun_mk l c k, PySem.W.mg_of X G a, fun s us hl => .of_eq (match us, hl with | [_], _ => rfl), fun s us hl => .of_eq (match us, hl with | [_], _ => rfl), fun s us hl => .of_eq (match us, hl with | [_], _ => rfl)⟩

theorem df_is_name {K : PySem.W.Frag} {h : Heap} {mg : Str → Option Value} {f : Addr} {od an : Option Addr} {sl : Array (Option Value)} {oc kV dc pm cd ct : Value} (X : K.In h) (G : h.Ns mainGlobals mg) (a : PySem.W.nsIn K mainGlobals "is_name" = some (some (.ref f)))
    (l : K.lookup f = some ⟨oc, od, .func (PySem.W.fnOf "is_name" "is_name" (defArgs s_is_name) (defBody s_is_name) (defScope s_is_name) .none kV dc pm an cd ct), sl⟩) (c : PySem.W.codeIn K cd "is_name" = true) (k : PySem.W.keepIn K (.ref f) = true) :
    Df K mg "is_name" s_is_name ["thing"] f (PySem.W.fnOf "is_name" "is_name" (defArgs s_is_name) (defBody s_is_name) (defScope s_is_name) .none kV dc pm an cd ct) :=
  ⟨fun_mk l c k, PySem.W.mg_of X G a, fun s us hl => .of_eq (match us, hl with | [_], _ => rfl), fun s us hl => .of_eq (match us, hl with | [_], _ => rfl), fun s us hl => .of_eq (match us, hl with | [_], _ => rfl)⟩

theorem df__law_cell {K : PySem.W.Frag} {h : Heap} {mg : Str → Option Value} {f : Addr} {od an : Option Addr} {sl : Array (Option Value)} {oc kV dc pm cd ct : Value} (X : K.In h) (G : h.Ns mainGlobals mg) (a : PySem.W.nsIn K mainGlobals "_law_cell" = some (some (.ref f)))
    (l : K.lookup f = some ⟨oc, od, .func (PySem.W.fnOf "_law_cell" "_law_cell" (defArgs s__law_cell) (defBody s__law_cell) (defScope s__law_cell) .none kV dc pm an cd ct), sl⟩) (c : PySem.W.codeIn K cd "_law_cell" = true) (k : PySem.W.keepIn K (.ref f) = true) :
    Df K mg "_law_cell" s__law_cell ["_law_script", "_law_k"] f (PySem.W.fnOf "_law_cell" "_law_cell" (defArgs s__law_cell) (defBody s__law_cell) (defScope s__law_cell) .none kV dc pm an cd ct) :=
  ⟨fun_mk l c k, PySem.W.mg_of X G a, fun s us hl => .of_eq (match us, hl with | [_, _], _ => rfl), fun s us hl => .of_eq (match us, hl with | [_, _], _ => rfl), fun s us hl => .of_eq (match us, hl with | [_, _], _ => rfl)⟩

theorem df__law_pot {K : PySem.W.Frag} {h : Heap} {mg : Str → Option Value} {f : Addr} {od an : Option Addr} {sl : Array (Option Value)} {oc kV dc pm cd ct : Value} (X : K.In h) (G : h.Ns mainGlobals mg) (a : PySem.W.nsIn K mainGlobals "_law_pot" = some (some (.ref f)))
    (l : K.lookup f = some ⟨oc, od, .func (PySem.W.fnOf "_law_pot" "_law_pot" (defArgs s__law_pot) (defBody s__law_pot) (defScope s__law_pot) .none kV dc pm an cd ct), sl⟩) (c : PySem.W.codeIn K cd "_law_pot" = true) (k : PySem.W.keepIn K (.ref f) = true) :
    Df K mg "_law_pot" s__law_pot ["_law_cell_here"] f (PySem.W.fnOf "_law_pot" "_law_pot" (defArgs s__law_pot) (defBody s__law_pot) (defScope s__law_pot) .none kV dc pm an cd ct) :=
  ⟨fun_mk l c k, PySem.W.mg_of X G a, fun s us hl => .of_eq (match us, hl with | [_], _ => rfl), fun s us hl => .of_eq (match us, hl with | [_], _ => rfl), fun s us hl => .of_eq (match us, hl with | [_], _ => rfl)⟩

theorem df__law_draw {K : PySem.W.Frag} {h : Heap} {mg : Str → Option Value} {f : Addr} {od an : Option Addr} {sl : Array (Option Value)} {oc kV dc pm cd ct : Value} (X : K.In h) (G : h.Ns mainGlobals mg) (a : PySem.W.nsIn K mainGlobals "_law_draw" = some (some (.ref f)))
    (l : K.lookup f = some ⟨oc, od, .func (PySem.W.fnOf "_law_draw" "_law_draw" (defArgs s__law_draw) (defBody s__law_draw) (defScope s__law_draw) .none kV dc pm an cd ct), sl⟩) (c : PySem.W.codeIn K cd "_law_draw" = true) (k : PySem.W.keepIn K (.ref f) = true) :
    Df K mg "_law_draw" s__law_draw ["_law_pot_here", "_law_many"] f (PySem.W.fnOf "_law_draw" "_law_draw" (defArgs s__law_draw) (defBody s__law_draw) (defScope s__law_draw) .none kV dc pm an cd ct) :=
  ⟨fun_mk l c k, PySem.W.mg_of X G a, fun s us hl => .of_eq (match us, hl with | [_, _], _ => rfl), fun s us hl => .of_eq (match us, hl with | [_, _], _ => rfl), fun s us hl => .of_eq (match us, hl with | [_, _], _ => rfl)⟩

theorem df__law_low {K : PySem.W.Frag} {h : Heap} {mg : Str → Option Value} {f : Addr} {od an : Option Addr} {sl : Array (Option Value)} {oc kV dc pm cd ct : Value} (X : K.In h) (G : h.Ns mainGlobals mg) (a : PySem.W.nsIn K mainGlobals "_law_low" = some (some (.ref f)))
    (l : K.lookup f = some ⟨oc, od, .func (PySem.W.fnOf "_law_low" "_law_low" (defArgs s__law_low) (defBody s__law_low) (defScope s__law_low) .none kV dc pm an cd ct), sl⟩) (c : PySem.W.codeIn K cd "_law_low" = true) (k : PySem.W.keepIn K (.ref f) = true) :
    Df K mg "_law_low" s__law_low ["_law_top", "_law_bottom"] f (PySem.W.fnOf "_law_low" "_law_low" (defArgs s__law_low) (defBody s__law_low) (defScope s__law_low) .none kV dc pm an cd ct) :=
  ⟨fun_mk l c k, PySem.W.mg_of X G a, fun s us hl => .of_eq (match us, hl with | [_, _], _ => rfl), fun s us hl => .of_eq (match us, hl with | [_, _], _ => rfl), fun s us hl => .of_eq (match us, hl with | [_, _], _ => rfl)⟩

theorem df__law_thing {K : PySem.W.Frag} {h : Heap} {mg : Str → Option Value} {f : Addr} {od an : Option Addr} {sl : Array (Option Value)} {oc kV dc pm cd ct : Value} (X : K.In h) (G : h.Ns mainGlobals mg) (a : PySem.W.nsIn K mainGlobals "_law_thing" = some (some (.ref f)))
    (l : K.lookup f = some ⟨oc, od, .func (PySem.W.fnOf "_law_thing" "_law_thing" (defArgs s__law_thing) (defBody s__law_thing) (defScope s__law_thing) .none kV dc pm an cd ct), sl⟩) (c : PySem.W.codeIn K cd "_law_thing" = true) (k : PySem.W.keepIn K (.ref f) = true) :
    Df K mg "_law_thing" s__law_thing ["_law_pot_here"] f (PySem.W.fnOf "_law_thing" "_law_thing" (defArgs s__law_thing) (defBody s__law_thing) (defScope s__law_thing) .none kV dc pm an cd ct) :=
  ⟨fun_mk l c k, PySem.W.mg_of X G a, fun s us hl => .of_eq (match us, hl with | [_], _ => rfl), fun s us hl => .of_eq (match us, hl with | [_], _ => rfl), fun s us hl => .of_eq (match us, hl with | [_], _ => rfl)⟩

theorem df__law_text {K : PySem.W.Frag} {h : Heap} {mg : Str → Option Value} {f : Addr} {od an : Option Addr} {sl : Array (Option Value)} {oc kV dc pm cd ct : Value} (X : K.In h) (G : h.Ns mainGlobals mg) (a : PySem.W.nsIn K mainGlobals "_law_text" = some (some (.ref f)))
    (l : K.lookup f = some ⟨oc, od, .func (PySem.W.fnOf "_law_text" "_law_text" (defArgs s__law_text) (defBody s__law_text) (defScope s__law_text) .none kV dc pm an cd ct), sl⟩) (c : PySem.W.codeIn K cd "_law_text" = true) (k : PySem.W.keepIn K (.ref f) = true) :
    Df K mg "_law_text" s__law_text ["_law_pot_here"] f (PySem.W.fnOf "_law_text" "_law_text" (defArgs s__law_text) (defBody s__law_text) (defScope s__law_text) .none kV dc pm an cd ct) :=
  ⟨fun_mk l c k, PySem.W.mg_of X G a, fun s us hl => .of_eq (match us, hl with | [_], _ => rfl), fun s us hl => .of_eq (match us, hl with | [_], _ => rfl), fun s us hl => .of_eq (match us, hl with | [_], _ => rfl)⟩

theorem df__law_is_whole {K : PySem.W.Frag} {h : Heap} {mg : Str → Option Value} {f : Addr} {od an : Option Addr} {sl : Array (Option Value)} {oc kV dc pm cd ct : Value} (X : K.In h) (G : h.Ns mainGlobals mg) (a : PySem.W.nsIn K mainGlobals "_law_is_whole" = some (some (.ref f)))
    (l : K.lookup f = some ⟨oc, od, .func (PySem.W.fnOf "_law_is_whole" "_law_is_whole" (defArgs s__law_is_whole) (defBody s__law_is_whole) (defScope s__law_is_whole) .none kV dc pm an cd ct), sl⟩) (c : PySem.W.codeIn K cd "_law_is_whole" = true) (k : PySem.W.keepIn K (.ref f) = true) :
    Df K mg "_law_is_whole" s__law_is_whole ["_law_item"] f (PySem.W.fnOf "_law_is_whole" "_law_is_whole" (defArgs s__law_is_whole) (defBody s__law_is_whole) (defScope s__law_is_whole) .none kV dc pm an cd ct) :=
  ⟨fun_mk l c k, PySem.W.mg_of X G a, fun s us hl => .of_eq (match us, hl with | [_], _ => rfl), fun s us hl => .of_eq (match us, hl with | [_], _ => rfl), fun s us hl => .of_eq (match us, hl with | [_], _ => rfl)⟩

theorem df__law_is_fraction {K : PySem.W.Frag} {h : Heap} {mg : Str → Option Value} {f : Addr} {od an : Option Addr} {sl : Array (Option Value)} {oc kV dc pm cd ct : Value} (X : K.In h) (G : h.Ns mainGlobals mg) (a : PySem.W.nsIn K mainGlobals "_law_is_fraction" = some (some (.ref f)))
    (l : K.lookup f = some ⟨oc, od, .func (PySem.W.fnOf "_law_is_fraction" "_law_is_fraction" (defArgs s__law_is_fraction) (defBody s__law_is_fraction) (defScope s__law_is_fraction) .none kV dc pm an cd ct), sl⟩) (c : PySem.W.codeIn K cd "_law_is_fraction" = true) (k : PySem.W.keepIn K (.ref f) = true) :
    Df K mg "_law_is_fraction" s__law_is_fraction ["_law_item"] f (PySem.W.fnOf "_law_is_fraction" "_law_is_fraction" (defArgs s__law_is_fraction) (defBody s__law_is_fraction) (defScope s__law_is_fraction) .none kV dc pm an cd ct) :=
  ⟨fun_mk l c k, PySem.W.mg_of X G a, fun s us hl => .of_eq (match us, hl with | [_], _ => rfl), fun s us hl => .of_eq (match us, hl with | [_], _ => rfl), fun s us hl => .of_eq (match us, hl with | [_], _ => rfl)⟩

theorem df__law_is_name {K : PySem.W.Frag} {h : Heap} {mg : Str → Option Value} {f : Addr} {od an : Option Addr} {sl : Array (Option Value)} {oc kV dc pm cd ct : Value} (X : K.In h) (G : h.Ns mainGlobals mg) (a : PySem.W.nsIn K mainGlobals "_law_is_name" = some (some (.ref f)))
    (l : K.lookup f = some ⟨oc, od, .func (PySem.W.fnOf "_law_is_name" "_law_is_name" (defArgs s__law_is_name) (defBody s__law_is_name) (defScope s__law_is_name) .none kV dc pm an cd ct), sl⟩) (c : PySem.W.codeIn K cd "_law_is_name" = true) (k : PySem.W.keepIn K (.ref f) = true) :
    Df K mg "_law_is_name" s__law_is_name ["_law_item"] f (PySem.W.fnOf "_law_is_name" "_law_is_name" (defArgs s__law_is_name) (defBody s__law_is_name) (defScope s__law_is_name) .none kV dc pm an cd ct) :=
  ⟨fun_mk l c k, PySem.W.mg_of X G a, fun s us hl => .of_eq (match us, hl with | [_], _ => rfl), fun s us hl => .of_eq (match us, hl with | [_], _ => rfl), fun s us hl => .of_eq (match us, hl with | [_], _ => rfl)⟩

theorem df__law_right {K : PySem.W.Frag} {h : Heap} {mg : Str → Option Value} {f : Addr} {od an : Option Addr} {sl : Array (Option Value)} {oc kV dc pm cd ct : Value} (X : K.In h) (G : h.Ns mainGlobals mg) (a : PySem.W.nsIn K mainGlobals "_law_right" = some (some (.ref f)))
    (l : K.lookup f = some ⟨oc, od, .func (PySem.W.fnOf "_law_right" "_law_right" (defArgs s__law_right) (defBody s__law_right) (defScope s__law_right) .none kV dc pm an cd ct), sl⟩) (c : PySem.W.codeIn K cd "_law_right" = true) (k : PySem.W.keepIn K (.ref f) = true) :
    Df K mg "_law_right" s__law_right ["_law_pot_here"] f (PySem.W.fnOf "_law_right" "_law_right" (defArgs s__law_right) (defBody s__law_right) (defScope s__law_right) .none kV dc pm an cd ct) :=
  ⟨fun_mk l c k, PySem.W.mg_of X G a, fun s us hl => .of_eq (match us, hl with | [_], _ => rfl), fun s us hl => .of_eq (match us, hl with | [_], _ => rfl), fun s us hl => .of_eq (match us, hl with | [_], _ => rfl)⟩

theorem df_law {K : PySem.W.Frag} {h : Heap} {mg : Str → Option Value} {f : Addr} {od an : Option Addr} {sl : Array (Option Value)} {oc kV dc pm cd ct : Value} (X : K.In h) (G : h.Ns mainGlobals mg) (a : PySem.W.nsIn K mainGlobals "law" = some (some (.ref f)))
    (l : K.lookup f = some ⟨oc, od, .func (PySem.W.fnOf "law" "law" (defArgs s_law) (defBody s_law) (defScope s_law) .none kV dc pm an cd ct), sl⟩) (c : PySem.W.codeIn K cd "law" = true) (k : PySem.W.keepIn K (.ref f) = true) :
    Df K mg "law" s_law ["_law_script"] f (PySem.W.fnOf "law" "law" (defArgs s_law) (defBody s_law) (defScope s_law) .none kV dc pm an cd ct) :=
  ⟨fun_mk l c k, PySem.W.mg_of X G a, fun s us hl => .of_eq (match us, hl with | [_], _ => rfl), fun s us hl => .of_eq (match us, hl with | [_], _ => rfl), fun s us hl => .of_eq (match us, hl with | [_], _ => rfl)⟩

theorem all_mk {l : PySem.W.OpenLaw} {w : World} {K : PySem.W.Frag} {h : Heap} {mg : Str → Option Value} {fa f0 f1 f2 f3 f4 f5 f6 f7 f8 f9 f10 f11 f12 f13 f14 : Addr} {t_LETTERS : Tok} {t_LONGEST_NAME : Tok}  (X : K.In h) (G : h.Ns mainGlobals mg) (hfa : mg "law" = some (.ref fa))
    {od0 an0 od1 an1 od2 an2 od3 an3 od4 an4 od5 an5 od6 an6 od7 an7 od8 an8 od9 an9 od10 an10 od11 an11 od12 an12 od13 an13 od14 an14 : Option Addr} {sl0 sl1 sl2 sl3 sl4 sl5 sl6 sl7 sl8 sl9 sl10 sl11 sl12 sl13 sl14 : Array (Option Value)} {oc0 kV0 dc0 pm0 cd0 ct0 oc1 kV1 dc1 pm1 cd1 ct1 oc2 kV2 dc2 pm2 cd2 ct2 oc3 kV3 dc3 pm3 cd3 ct3 oc4 kV4 dc4 pm4 cd4 ct4 oc5 kV5 dc5 pm5 cd5 ct5 oc6 kV6 dc6 pm6 cd6 ct6 oc7 kV7 dc7 pm7 cd7 ct7 oc8 kV8 dc8 pm8 cd8 ct8 oc9 kV9 dc9 pm9 cd9 ct9 oc10 kV10 dc10 pm10 cd10 ct10 oc11 kV11 dc11 pm11 cd11 ct11 oc12 kV12 dc12 pm12 cd12 ct12 oc13 kV13 dc13 pm13 cd13 ct13 oc14 kV14 dc14 pm14 cd14 ct14 : Value}
    (a0 : PySem.W.nsIn K mainGlobals "is_whole" = some (some (.ref f0))) (l0 : K.lookup f0 = some ⟨oc0, od0, .func (PySem.W.fnOf "is_whole" "is_whole" (defArgs s_is_whole) (defBody s_is_whole) (defScope s_is_whole) .none kV0 dc0 pm0 an0 cd0 ct0), sl0⟩) (c0 : PySem.W.codeIn K cd0 "is_whole" = true) (k0 : PySem.W.keepIn K (.ref f0) = true)
    (a1 : PySem.W.nsIn K mainGlobals "common" = some (some (.ref f1))) (l1 : K.lookup f1 = some ⟨oc1, od1, .func (PySem.W.fnOf "common" "common" (defArgs sCom) (defBody sCom) (defScope sCom) .none kV1 dc1 pm1 an1 cd1 ct1), sl1⟩) (c1 : PySem.W.codeIn K cd1 "common" = true) (k1 : PySem.W.keepIn K (.ref f1) = true)
    (a2 : PySem.W.nsIn K mainGlobals "is_fraction" = some (some (.ref f2))) (l2 : K.lookup f2 = some ⟨oc2, od2, .func (PySem.W.fnOf "is_fraction" "is_fraction" (defArgs s_is_fraction) (defBody s_is_fraction) (defScope s_is_fraction) .none kV2 dc2 pm2 an2 cd2 ct2), sl2⟩) (c2 : PySem.W.codeIn K cd2 "is_fraction" = true) (k2 : PySem.W.keepIn K (.ref f2) = true)
    (a3 : PySem.W.nsIn K mainGlobals "is_name" = some (some (.ref f3))) (l3 : K.lookup f3 = some ⟨oc3, od3, .func (PySem.W.fnOf "is_name" "is_name" (defArgs s_is_name) (defBody s_is_name) (defScope s_is_name) .none kV3 dc3 pm3 an3 cd3 ct3), sl3⟩) (c3 : PySem.W.codeIn K cd3 "is_name" = true) (k3 : PySem.W.keepIn K (.ref f3) = true)
    (a4 : PySem.W.nsIn K mainGlobals "_law_cell" = some (some (.ref f4))) (l4 : K.lookup f4 = some ⟨oc4, od4, .func (PySem.W.fnOf "_law_cell" "_law_cell" (defArgs s__law_cell) (defBody s__law_cell) (defScope s__law_cell) .none kV4 dc4 pm4 an4 cd4 ct4), sl4⟩) (c4 : PySem.W.codeIn K cd4 "_law_cell" = true) (k4 : PySem.W.keepIn K (.ref f4) = true)
    (a5 : PySem.W.nsIn K mainGlobals "_law_pot" = some (some (.ref f5))) (l5 : K.lookup f5 = some ⟨oc5, od5, .func (PySem.W.fnOf "_law_pot" "_law_pot" (defArgs s__law_pot) (defBody s__law_pot) (defScope s__law_pot) .none kV5 dc5 pm5 an5 cd5 ct5), sl5⟩) (c5 : PySem.W.codeIn K cd5 "_law_pot" = true) (k5 : PySem.W.keepIn K (.ref f5) = true)
    (a6 : PySem.W.nsIn K mainGlobals "_law_draw" = some (some (.ref f6))) (l6 : K.lookup f6 = some ⟨oc6, od6, .func (PySem.W.fnOf "_law_draw" "_law_draw" (defArgs s__law_draw) (defBody s__law_draw) (defScope s__law_draw) .none kV6 dc6 pm6 an6 cd6 ct6), sl6⟩) (c6 : PySem.W.codeIn K cd6 "_law_draw" = true) (k6 : PySem.W.keepIn K (.ref f6) = true)
    (a7 : PySem.W.nsIn K mainGlobals "_law_low" = some (some (.ref f7))) (l7 : K.lookup f7 = some ⟨oc7, od7, .func (PySem.W.fnOf "_law_low" "_law_low" (defArgs s__law_low) (defBody s__law_low) (defScope s__law_low) .none kV7 dc7 pm7 an7 cd7 ct7), sl7⟩) (c7 : PySem.W.codeIn K cd7 "_law_low" = true) (k7 : PySem.W.keepIn K (.ref f7) = true)
    (a8 : PySem.W.nsIn K mainGlobals "_law_thing" = some (some (.ref f8))) (l8 : K.lookup f8 = some ⟨oc8, od8, .func (PySem.W.fnOf "_law_thing" "_law_thing" (defArgs s__law_thing) (defBody s__law_thing) (defScope s__law_thing) .none kV8 dc8 pm8 an8 cd8 ct8), sl8⟩) (c8 : PySem.W.codeIn K cd8 "_law_thing" = true) (k8 : PySem.W.keepIn K (.ref f8) = true)
    (a9 : PySem.W.nsIn K mainGlobals "_law_text" = some (some (.ref f9))) (l9 : K.lookup f9 = some ⟨oc9, od9, .func (PySem.W.fnOf "_law_text" "_law_text" (defArgs s__law_text) (defBody s__law_text) (defScope s__law_text) .none kV9 dc9 pm9 an9 cd9 ct9), sl9⟩) (c9 : PySem.W.codeIn K cd9 "_law_text" = true) (k9 : PySem.W.keepIn K (.ref f9) = true)
    (a10 : PySem.W.nsIn K mainGlobals "_law_is_whole" = some (some (.ref f10))) (l10 : K.lookup f10 = some ⟨oc10, od10, .func (PySem.W.fnOf "_law_is_whole" "_law_is_whole" (defArgs s__law_is_whole) (defBody s__law_is_whole) (defScope s__law_is_whole) .none kV10 dc10 pm10 an10 cd10 ct10), sl10⟩) (c10 : PySem.W.codeIn K cd10 "_law_is_whole" = true) (k10 : PySem.W.keepIn K (.ref f10) = true)
    (a11 : PySem.W.nsIn K mainGlobals "_law_is_fraction" = some (some (.ref f11))) (l11 : K.lookup f11 = some ⟨oc11, od11, .func (PySem.W.fnOf "_law_is_fraction" "_law_is_fraction" (defArgs s__law_is_fraction) (defBody s__law_is_fraction) (defScope s__law_is_fraction) .none kV11 dc11 pm11 an11 cd11 ct11), sl11⟩) (c11 : PySem.W.codeIn K cd11 "_law_is_fraction" = true) (k11 : PySem.W.keepIn K (.ref f11) = true)
    (a12 : PySem.W.nsIn K mainGlobals "_law_is_name" = some (some (.ref f12))) (l12 : K.lookup f12 = some ⟨oc12, od12, .func (PySem.W.fnOf "_law_is_name" "_law_is_name" (defArgs s__law_is_name) (defBody s__law_is_name) (defScope s__law_is_name) .none kV12 dc12 pm12 an12 cd12 ct12), sl12⟩) (c12 : PySem.W.codeIn K cd12 "_law_is_name" = true) (k12 : PySem.W.keepIn K (.ref f12) = true)
    (a13 : PySem.W.nsIn K mainGlobals "_law_right" = some (some (.ref f13))) (l13 : K.lookup f13 = some ⟨oc13, od13, .func (PySem.W.fnOf "_law_right" "_law_right" (defArgs s__law_right) (defBody s__law_right) (defScope s__law_right) .none kV13 dc13 pm13 an13 cd13 ct13), sl13⟩) (c13 : PySem.W.codeIn K cd13 "_law_right" = true) (k13 : PySem.W.keepIn K (.ref f13) = true)
    (a14 : PySem.W.nsIn K mainGlobals "law" = some (some (.ref f14))) (l14 : K.lookup f14 = some ⟨oc14, od14, .func (PySem.W.fnOf "law" "law" (defArgs s_law) (defBody s_law) (defScope s_law) .none kV14 dc14 pm14 an14 cd14 ct14), sl14⟩) (c14 : PySem.W.codeIn K cd14 "law" = true) (k14 : PySem.W.keepIn K (.ref f14) = true)
    (z_abs : PySem.W.nsIn K mainGlobals "abs" = some none)
    (z_len : PySem.W.nsIn K mainGlobals "len" = some none)
    (z_max : PySem.W.nsIn K mainGlobals "max" = some none)
    (z_min : PySem.W.nsIn K mainGlobals "min" = some none)
    (z_divmod : PySem.W.nsIn K mainGlobals "divmod" = some none)
    (z_repr : PySem.W.nsIn K mainGlobals "repr" = some none)
    (z_all : PySem.W.nsIn K mainGlobals "all" = some none)
    (z_int : PySem.W.nsIn K mainGlobals "int" = some none)
    (z_str : PySem.W.nsIn K mainGlobals "str" = some none)
    (z_range : PySem.W.nsIn K mainGlobals "range" = some none)
    (z_isinstance : PySem.W.nsIn K mainGlobals "isinstance" = some none)
    (z_bool : PySem.W.nsIn K mainGlobals "bool" = some none)
    (z_tuple : PySem.W.nsIn K mainGlobals "tuple" = some none)
    (g_LETTERS : PySem.W.nsIn K mainGlobals "LETTERS" = some (some (.str (Str.ofString "abcdefghijklmnopqrstuvwxyz") t_LETTERS)))
    (g_LONGEST_NAME : PySem.W.nsIn K mainGlobals "LONGEST_NAME" = some (some (.int 10 t_LONGEST_NAME))) :
    ∃ fd : FuncData, (∀ (s : Shared) (v : Value), BindsTo s fd ⟨[v], []⟩ [("_law_script", v)]) ∧ ∀ base : Heap, K.In base → base.Ns mainGlobals mg → FnG l.prog w K mg base CX0 4 fa fd ["_law_script"] (sp_law K) := by
  have e := hfa.symm.trans (PySem.W.mg_of X G a14)
  cases e

  have M : Blt mg := ⟨PySem.W.mg_none_of X G z_abs, PySem.W.mg_none_of X G z_len, PySem.W.mg_none_of X G z_max, PySem.W.mg_none_of X G z_min, PySem.W.mg_none_of X G z_divmod, PySem.W.mg_none_of X G z_repr, PySem.W.mg_none_of X G z_all, PySem.W.mg_none_of X G z_int, PySem.W.mg_none_of X G z_str, PySem.W.mg_none_of X G z_range⟩
  have D0 := df_is_whole X G a0 l0 c0 k0
  have D1 := df_common X G a1 l1 c1 k1
  have D2 := df_is_fraction X G a2 l2 c2 k2
  have D3 := df_is_name X G a3 l3 c3 k3
  have D4 := df__law_cell X G a4 l4 c4 k4
  have D5 := df__law_pot X G a5 l5 c5 k5
  have D6 := df__law_draw X G a6 l6 c6 k6
  have D7 := df__law_low X G a7 l7 c7 k7
  have D8 := df__law_thing X G a8 l8 c8 k8
  have D9 := df__law_text X G a9 l9 c9 k9
  have D10 := df__law_is_whole X G a10 l10 c10 k10
  have D11 := df__law_is_fraction X G a11 l11 c11 k11
  have D12 := df__law_is_name X G a12 l12 c12 k12
  have D13 := df__law_right X G a13 l13 c13 k13
  have D14 := df_law X G a14 l14 c14 k14
  refine ⟨_, fun s v => D14.b1 s [v] rfl, fun base _ _ => ?_⟩
  have Mx : Bltx mg := ⟨PySem.W.mg_none_of X G z_isinstance, PySem.W.mg_none_of X G z_bool, PySem.W.mg_none_of X G z_tuple⟩
  have C1 : Cal l.prog w K mg base CX0 1 "common" ["one", "other"] spCom := D1.cal (ok_com D1.fn)
  have C2 : Cal l.prog w K mg base CX0 1 "is_whole" ["thing"] (sp_whole K) := D0.cal (ok_whole M Mx D0.fn)
  have C3 : Cal l.prog w K mg base CX0 2 "is_fraction" ["thing"] (sp_isfr K) := D2.cal (ok_isfr M Mx D2.fn C2 C1)
  have C4 : Cal l.prog w K mg base CX0 2 "is_name" ["thing"] (sp_isnm K) := D3.cal (ok_isnm M Mx (PySem.W.mg_of X G g_LETTERS) (PySem.W.mg_of X G g_LONGEST_NAME) D3.fn)
  have B1 : Cal l.prog w K mg base CX0 1 "_law_cell" ["_law_script", "_law_k"] (sp_cell K) := D4.cal (ok_cell M D4.fn)
  have B2 : Cal l.prog w K mg base CX0 1 "_law_pot" ["_law_cell_here"] sp_pot := D5.cal (ok_pot M D5.fn)
  have B3 : Cal l.prog w K mg base CX0 1 "_law_draw" ["_law_pot_here", "_law_many"] sp_draw := D6.cal (ok_draw M D6.fn)
  have B4 : Cal l.prog w K mg base CX0 1 "_law_low" ["_law_top", "_law_bottom"] sp_low := D7.cal (ok_low M D7.fn)
  have B5 : Cal l.prog w K mg base CX0 2 "_law_thing" ["_law_pot_here"] (sp_thing K) := D8.cal (ok_thing M D8.fn B3 B4)
  have B6 : Cal l.prog w K mg base CX0 2 "_law_text" ["_law_pot_here"] (sp_text K) := D9.cal (ok_text M D9.fn B3)
  have B7 : Cal l.prog w K mg base CX0 1 "_law_is_whole" ["_law_item"] (sp_whole K) := D10.cal (ok_lwhole M Mx D10.fn)
  have B8 : Cal l.prog w K mg base CX0 2 "_law_is_fraction" ["_law_item"] (sp_lisfr K) := D11.cal (ok_lisfr M Mx D11.fn B7 B4)
  have B9 : Cal l.prog w K mg base CX0 2 "_law_is_name" ["_law_item"] (sp_lisnm K) := D12.cal (ok_lisnm M Mx D12.fn)
  have B10 : Cal l.prog w K mg base CX0 3 "_law_right" ["_law_pot_here"] sp_right := D13.cal (ok_right M D13.fn B5 B6 B8 B9 C3 C4)
  exact ok_law M D14.fn B1 B2 B10
end Lf
open PySem PySem.W PyProof.Rows
set_option maxHeartbeats 0 in
theorem PySem.Challenge.cw_loafshares_k12_whole_fractions_and_names_holds : PySem.Challenge.rw_loafshares_k12_whole_fractions_and_names.Holds := by
  w_on; o_law; k_head; (case hw => w_witness2)
  k_fill
  refine Lf.walkG (l := PySem.Challenge.rw_loafshares_k12_whole_fractions_and_names) (n := 63) (k := 4) (x := "_law_script") (sp := Lf.sp_law) rfl (by decide) rfl ⟨rfl, by decide, by decide⟩ (fun w h Y => PySem.W.kIn_of Y) ?F (fun K H a ns hl _ hS => ⟨a, ns, rfl, hS, hl, fun _ => rfl⟩)
  case F =>
    intro w mg fa h KX G hmg
    refine' Lf.all_mk KX G hmg ?a0 ?l0 ?c0 ?k0 ?a1 ?l1 ?c1 ?k1 ?a2 ?l2 ?c2 ?k2 ?a3 ?l3 ?c3 ?k3 ?a4 ?l4 ?c4 ?k4 ?a5 ?l5 ?c5 ?k5 ?a6 ?l6 ?c6 ?k6 ?a7 ?l7 ?c7 ?k7 ?a8 ?l8 ?c8 ?k8 ?a9 ?l9 ?c9 ?k9 ?a10 ?l10 ?c10 ?k10 ?a11 ?l11 ?c11 ?k11 ?a12 ?l12 ?c12 ?k12 ?a13 ?l13 ?c13 ?k13 ?a14 ?l14 ?c14 ?k14 ?z_abs ?z_len ?z_max ?z_min ?z_divmod ?z_repr ?z_all ?z_int ?z_str ?z_range ?z_isinstance ?z_bool ?z_tuple ?g_LETTERS ?g_LONGEST_NAME

    (case a0 => k_is); (case l0 => k_is); (case c0 => k_is); (case k0 => k_is)
    (case a1 => k_is); (case l1 => k_is); (case c1 => k_is); (case k1 => k_is)
    (case a2 => k_is); (case l2 => k_is); (case c2 => k_is); (case k2 => k_is)
    (case a3 => k_is); (case l3 => k_is); (case c3 => k_is); (case k3 => k_is)
    (case a4 => k_is); (case l4 => k_is); (case c4 => k_is); (case k4 => k_is)
    (case a5 => k_is); (case l5 => k_is); (case c5 => k_is); (case k5 => k_is)
    (case a6 => k_is); (case l6 => k_is); (case c6 => k_is); (case k6 => k_is)
    (case a7 => k_is); (case l7 => k_is); (case c7 => k_is); (case k7 => k_is)
    (case a8 => k_is); (case l8 => k_is); (case c8 => k_is); (case k8 => k_is)
    (case a9 => k_is); (case l9 => k_is); (case c9 => k_is); (case k9 => k_is)
    (case a10 => k_is); (case l10 => k_is); (case c10 => k_is); (case k10 => k_is)
    (case a11 => k_is); (case l11 => k_is); (case c11 => k_is); (case k11 => k_is)
    (case a12 => k_is); (case l12 => k_is); (case c12 => k_is); (case k12 => k_is)
    (case a13 => k_is); (case l13 => k_is); (case c13 => k_is); (case k13 => k_is)
    (case a14 => k_is); (case l14 => k_is); (case c14 => k_is); (case k14 => k_is)
    (case z_abs => k_is); (case z_len => k_is); (case z_max => k_is); (case z_min => k_is); (case z_divmod => k_is); (case z_repr => k_is); (case z_all => k_is); (case z_int => k_is); (case z_str => k_is); (case z_range => k_is); (case z_isinstance => k_is); (case z_bool => k_is); (case z_tuple => k_is); (case g_LETTERS => k_is); (case g_LONGEST_NAME => k_is)
