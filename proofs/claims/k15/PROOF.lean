import PyProof.Rows.All
import Wide.All
import OpenK.AllK
import Wide.FinOn
import HandS.ForExc
import HandS.Comp
import HandS.Wide
import HandS.FStr
import HandS.CallLocal
import HandS.WideBits
import HandS.Text
import HandS.Deep
import PySem.Challenge.RW_loafshares_k15_whole_sums_in_any_order
set_option Elab.async false
set_option linter.all false
set_option maxRecDepth 100000
set_option maxHeartbeats 4000000
/-! Defs that show data by repr: the promise FnG holds where nothing is being shown (no guard stands), as it is behind a law's call. -/
namespace Lf
open PySem PySem.Spec PyProof.Rows L2
/-- a def's promise where no guard stands -/
structure FnG (P : Program) (w : World) (K : PySem.W.Frag) (mg : Str → Option Value) (base : Heap) (CX : CXT) (k : Nat) (f : Addr) (fd : FuncData) (ps : List Str) (sp : Sp) : Prop where
  size : ∀ vs H Q E, sp vs H Q E → vs.length = ps.length
  goes : ∀ (B : Around) (out : List Env) (s : Shared) (H : Hp) (ar : Args) (us : List Value) (vs : List V) (Q : VK) (E : XK),
    Room k B → B.guards = some [] → Env0 P w K mg base B out s H → BindsTo s fd ar (ps.zip us) → Vals vs us → sp vs H Q E →
      codeAny (model P w) B (.call (.ref f) ar) (CR CX out P w H s Q E) s
section
variable {P : Program} {w : World} {K : PySem.W.Frag} {mg : Str → Option Value} {base : Heap} {CX : CXT} {k : Nat} {f : Addr} {fd : FuncData} {ps : List Str} {sp : Sp}
theorem FnG.mono {j : Nat} (F : FnG P w K mg base CX j f fd ps sp) (h : j ≤ k) : FnG P w K mg base CX k f fd ps sp :=
  ⟨F.size, fun B out s H ar us vs Q E r => F.goes B out s H ar us vs Q E (r.mono h)⟩
theorem FnG.of (F : FnOk P w K mg base CX k f fd ps sp) : FnG P w K mg base CX k f fd ps sp :=
  ⟨F.len, fun B out s H ar us vs Q E r _ => F.run B out s H ar us vs Q E r⟩
/-- by its body: behind the entry no guard stands either -/
theorem GfunX {x qual : Str} {st : Stmt} {N : List Str} (F : Fun K x qual st f fd) (S : FnScope N ps (defScope st)) (size : ∀ vs H Q E, sp vs H Q E → vs.length = ps.length)
    (body : ∀ (cdv : Value) (B : Around) (out : List Env) (s : Shared) (H : Hp) (vs : List V) (Q : VK) (E : XK), B.guards = some [] →
      Room k (B.deeper (envOfC qual (defScope st) s.heap.objs.size f cdv)) → sp vs H Q E →
      ∃ t, PSs (cxOf CX P w K mg base N qual (defScope st) f cdv B out s H E) (defBody st) t ∧
        t { nx := fun _ H' => Q .non H', rt := Q } (start N vs) H) : FnG P w K mg base CX (k + 1) f fd ps sp := by
  obtain ⟨oc, od, kV, doc, pm, an, cdv, ct, osl, rfl, lk, hcd⟩ := F.ex
  refine ⟨size, fun B out s H ar us vs Q E hr hg e0 hb r hs => ?_⟩
  have old : ∀ b o, base.get? b = some o → s.heap.get? b = some o := fun b o e => (e0.bs b o e).1
  have kin : K.In s.heap := e0.mod.kin.keeps old
  refine codeAny_call_function hr.depth (kin _ _ lk) rfl S.co S.gen rfl (PySem.W.codeRec_of kin hcd) (hb _ _ _ _ ?_)
  refine wpAny_newFunctionEnv_cells S.kind (fun ⟨n, v⟩ hy => ?_) fun env he s1 x => ?_
  · rcases S.par n (List.of_mem_zip hy).1 with q | q
    · exact Or.inl q
    · exact Or.inr ⟨q, PySem.W.cellsFrom_some _ _ _ (Or.inl q)⟩
  · subst he
    refine ⟨(e0.mod.nolimit.keeps old).keeps x.toInCall.keep, codeAny_func ?_⟩
    obtain ⟨t, ht, hq⟩ := body cdv B out s H vs Q E hg (hr.deeper _) hs
    have I := inv_start (CX := CX) (N := N) (qual := qual) (cd := cdv) (E := E) S hr.hd e0 (size _ _ _ _ hs) r x
    refine wpAny_mono (ht.run [] s1 (start N vs) H _ I hq) (fun fl s' hs' => ?_) fun e s' z => z
    cases fl with
    | ret u =>
      obtain ⟨v, σ', H', J, rv, q⟩ := hs'
      exact ⟨v, H', J.os, J.bare, J.base, J.hok, rv, q⟩
    | next =>
      obtain ⟨σ', H', J, q⟩ := hs'
      exact ⟨V.non, H', J.os, J.bare, J.base, J.hok, rfl, q⟩
    | brk =>
      obtain ⟨_, _, _, q⟩ := hs'
      exact q.elim
    | cont =>
      obtain ⟨_, _, _, q⟩ := hs'
      exact q.elim
theorem Gfun {x qual : Str} {st : Stmt} {N : List Str} (F : Fun K x qual st f fd) (S : FnScope N ps (defScope st)) (size : ∀ vs H Q E, sp vs H Q E → vs.length = ps.length)
    (body : ∀ (cdv : Value) (B : Around) (out : List Env) (s : Shared) (H : Hp) (vs : List V) (Q : VK) (E : XK), B.guards = some [] →
      Room k (B.deeper (envOfC qual (defScope st) s.heap.objs.size f cdv)) → sp vs H Q E →
      ∃ t, PSs (cxOf CX0 P w K mg base N qual (defScope st) f cdv B out s H E).nox (defBody st) t ∧
        t { nx := fun _ H' => Q .non H', rt := Q } (start N vs) H) : FnG P w K mg base CX0 (k + 1) f fd ps sp :=
  GfunX F S size fun cdv B out s H vs Q E hg hr hs => by
    obtain ⟨t, ht, hq⟩ := body cdv B out s H vs Q E hg hr hs
    exact ⟨t, ht.nox, hq⟩
end
/-- a def of the module's name x that keeps sp, by level k -/
structure Cal (P : Program) (w : World) (K : PySem.W.Frag) (mg : Str → Option Value) (base : Heap) (CX : CXT) (k : Nat) (x : Str) (ps : List Str) (sp : Sp) : Prop where
  ex : ∃ (f : Addr) (fd : FuncData), FnG P w K mg base CX k f fd ps sp ∧ (∀ (s : Shared) (us : List Value), us.length = ps.length → BindsTo s fd ⟨us, []⟩ (ps.zip us)) ∧
    (∀ (s : Shared) (us : List Value), us.length = ps.length → BindsTo s fd ⟨[], ps.zip us⟩ (ps.zip us)) ∧
    (∀ (s : Shared) (us : List Value), us.length = ps.length → BindsTo s fd ⟨[], ps.reverse.zip us⟩ (ps.zip us.reverse)) ∧ mg x = some (.ref f) ∧ PySem.W.keepIn K (.ref f) = true
theorem paired_rev {α β : Type} {R : α → β → Prop} : ∀ {xs : List α} {ys : List β}, Paired R xs ys → Paired R xs.reverse ys.reverse := by
  have app : ∀ {xs : List α} {ys : List β} {x : α} {y : β}, Paired R xs ys → R x y → Paired R (xs ++ [x]) (ys ++ [y]) := by
    intro xs ys x y h r
    induction h with
    | nil => exact .cons r .nil
    | cons q _ ih => exact .cons q ih
  intro xs ys h
  induction h with
  | nil => exact .nil
  | cons r _ ih =>
    rw [List.reverse_cons, List.reverse_cons]
    exact app ih r
section
variable {X : Cx} {CX : CXT} {k i : Nat} {f : Addr} {fd : FuncData} {ps : List Str} {sp : Sp} {x : Str} {p pos : Pos} {e : Expr} {es : List Expr} {kws : List Keyword} {t : TA}
/-- what is raised is wished for at the caller's slots -/
theorem run_g {pins : List (Addr × Obj)} {σ : L2.St} {H : Hp} {s : Shared} {Q : VK} {us : List Value} {vs : List V} {ar : Args} {E : XK} (F : FnG X.prog X.w X.K X.mg X.base CX k f fd ps sp) (hr : Room k X.A) (hG : X.A.guards = some [])
    (hx : PassesAt CX X σ E) (I : Inv X pins σ H s) (hb : BindsTo s fd ar (ps.zip us)) (r : Vals vs us) (h : sp vs H Q E) : wpAny (model X.prog X.w) X.A (call (.ref f) ar.pos ar.kw) (EP X pins σ Q) X.xe s := by
  refine wpAny_call (codeAny_mono (F.goes X.A X.stack s H ar us vs Q E hr hG I.env0 hb r h) fun z s' hq => ?_)
  cases z with
  | error e => exact hx pins H s e s' I hq
  | ok fl =>
    cases fl with
    | ret u => exact I.after hq
    | next => exact False.elim hq
    | brk => exact False.elim hq
    | cont => exact False.elim hq
/-- f(e, ..); E: what is wished of an exception at the slots -/
def tG (sp : Sp) (E : L2.St → XK) (t : TA) : TE := fun σ H Q => t σ H fun vs H1 => sp vs H1 Q (E σ)
theorem pe_gS {E : L2.St → XK} (C : Cal X.prog X.w X.K X.mg X.base CX k x ps sp) (hr : Room k X.A) (hG : X.A.guards = some []) (hx : ∀ σ, PassesAt CX X σ (E σ)) (ha : PA X (e :: es) t) (hg : Gl X x := by rfl)
    (hdb : (x == ("__debug__" : Str)) = false := by decide) (he : starEach (e :: es) X.env = (false, eval e X.env) :: starEach es X.env := by rfl)
    (hpl : (backTo pos (starEach es X.env)).any (·.1) = false := by rfl) : PE X (.Call (.Name x p) (e :: es) [] pos) (tG sp E t) := by
  obtain ⟨f, fd, F, hb, _, _, hm, hk⟩ := C.ex
  refine ⟨fun pins s σ H Q I h => wpAny_Call_Name_kw (ld_glob I hg hm (PySem.W.callWith_K (h₀ := X.base) I.ok.mod.kin hk
    (thn (ha.run pos pins s σ H _ I h) fun us s1 ⟨vs, H1, I1, r, q⟩ => ⟨I1.kIn, ?_⟩) he hpl) hdb)⟩
  exact run_g (ar := ⟨us, []⟩) F hr hG (hx σ) I1 (hb s1 us (r.length.symm.trans (F.size _ _ _ _ q))) r q
theorem pass_no {σ : L2.St} : PassesAt CX0 X σ E0 := fun _ _ _ _ _ _ z => z.elim
theorem pe_g (C : Cal X.prog X.w X.K X.mg X.base CX0 k x ps sp) (hr : Room k X.A) (hG : X.A.guards = some []) (ha : PA X (e :: es) t) (hg : Gl X x := by rfl)
    (hdb : (x == ("__debug__" : Str)) = false := by decide) (he : starEach (e :: es) X.env = (false, eval e X.env) :: starEach es X.env := by rfl)
    (hpl : (backTo pos (starEach es X.env)).any (·.1) = false := by rfl) : PE X (.Call (.Name x p) (e :: es) [] pos) (tG sp (fun _ => E0) t) :=
  pe_gS C hr hG (fun _ => pass_no) ha hg hdb he hpl
/-- f(a = e, ..): all by names, in the parameters' order -/
theorem pe_gk (C : Cal X.prog X.w X.K X.mg X.base CX0 k x ps sp) (hr : Room k X.A) (hG : X.A.guards = some []) (ha : PK X kws t) (hks : (backToKw pos (keywordEach kws X.env)).filterMap (·.1) = ps := by rfl) (hg : Gl X x := by rfl)
    (hall : (backToKw pos (keywordEach kws X.env)).all (·.1.isSome) = true := by rfl) (hdb : (x == ("__debug__" : Str)) = false := by decide)
    (hpl : ((backTo pos (starEach [] X.env)).any (·.1) || (backToKw pos (keywordEach kws X.env)).any (·.1.isNone)) = false := by rfl) : PE X (.Call (.Name x p) [] kws pos) (tG sp (fun _ => E0) t) := by
  obtain ⟨f, fd, F, _, hb, _, hm, hk⟩ := C.ex
  refine ⟨fun pins s σ H Q I h => wpAny_Call_Name_kw (ld_glob I hg hm (PySem.W.callWith_KW0 (h₀ := X.base) I.ok.mod.kin hk hall (thn (ha.run pos pins s σ H _ I h) fun us s1 ⟨vs, H1, I1, r, q⟩ => ⟨I1.kIn, ?_⟩) hpl) hdb)⟩
  rw [hks]
  exact run_g (ar := ⟨[], ps.zip us⟩) F hr hG pass_no I1 (hb s1 us (r.length.symm.trans (F.size _ _ _ _ q))) r q
/-- f(b = e, a = ..): all by names, from the last parameter to the first -/
def tGr (sp : Sp) (t : TA) : TE := fun σ H Q => t σ H fun vs H1 => sp vs.reverse H1 Q E0
theorem pe_gr (C : Cal X.prog X.w X.K X.mg X.base CX0 k x ps sp) (hr : Room k X.A) (hG : X.A.guards = some []) (ha : PK X kws t) (hks : (backToKw pos (keywordEach kws X.env)).filterMap (·.1) = ps.reverse := by rfl) (hg : Gl X x := by rfl)
    (hall : (backToKw pos (keywordEach kws X.env)).all (·.1.isSome) = true := by rfl) (hdb : (x == ("__debug__" : Str)) = false := by decide)
    (hpl : ((backTo pos (starEach [] X.env)).any (·.1) || (backToKw pos (keywordEach kws X.env)).any (·.1.isNone)) = false := by rfl) : PE X (.Call (.Name x p) [] kws pos) (tGr sp t) := by
  obtain ⟨f, fd, F, _, _, hb, hm, hk⟩ := C.ex
  refine ⟨fun pins s σ H Q I h => wpAny_Call_Name_kw (ld_glob I hg hm (PySem.W.callWith_KW0 (h₀ := X.base) I.ok.mod.kin hk hall (thn (ha.run pos pins s σ H _ I h) fun us s1 ⟨vs, H1, I1, r, q⟩ => ⟨I1.kIn, ?_⟩) hpl) hdb)⟩
  rw [hks]
  have hl : us.length = ps.length := r.length.symm.trans ((List.length_reverse (as := vs)).symm.trans (F.size _ _ _ _ q))
  exact run_g (ar := ⟨[], ps.reverse.zip us⟩) (us := us.reverse) (vs := vs.reverse) F hr hG pass_no I1 (hb s1 us hl) (paired_rev r) q
/-- d(e, ..) where the i-th slot holds the def of the module's name y -/
def tGl (i : Nat) (mg : Str → Option Value) (y : Str) (sp : Sp) (E : L2.St → XK) (t : TA) : TE := fun σ H Q => ∃ f, mg y = some (.ref f) ∧ σ[i]? = some (some (.ref f)) ∧ t σ H fun vs H1 => sp vs H1 Q (E σ)
theorem pe_gl {E : L2.St → XK} {y : Str} (C : Cal X.prog X.w X.K X.mg X.base CX k y ps sp) (hr : Room k X.A) (hG : X.A.guards = some []) (hx : ∀ σ, PassesAt CX X σ (E σ)) (ha : PA X (e :: es) t) (hN : X.N[i]? = some x := by rfl)
    (hv : Vis X.env.scope x := by first | exact Or.inl rfl | exact Or.inr (Or.inl rfl) | exact Or.inr (Or.inr rfl))
    (hdb : (x == ("__debug__" : Str)) = false := by decide) (hcd : (x == ("__classdict__" : Str)) = false := by decide) (he : starEach (e :: es) X.env = (false, eval e X.env) :: starEach es X.env := by rfl)
    (hpl : (backTo pos (starEach es X.env)).any (·.1) = false := by rfl) : PE X (.Call (.Name x p) (e :: es) [] pos) (tGl i X.mg y sp E t) := by
  obtain ⟨f, fd, F, hb, _, _, hm, hk⟩ := C.ex
  refine ⟨fun pins s σ H Q I h => ?_⟩
  obtain ⟨f', hf', hs, ht⟩ := h
  obtain rfl : f' = f := by
    rw [hm] at hf'
    cases hf'
    rfl
  refine wpAny_Call_Name_kw (thn ((pe_var (pos := p) hN hv hdb hcd).run pins s σ H (fun v H1 => v = .ref f' ∧ H1 = H) I ⟨.ref f', hs, rfl, rfl⟩) fun u s1 ⟨v, H1, I1, r1, q1⟩ => ?_)
  obtain ⟨rfl, rfl⟩ := q1
  cases r1
  refine PySem.W.callWith_K (h₀ := X.base) I.ok.mod.kin hk (thn (ha.run pos pins s1 σ _ _ I1 ht) fun us s2 ⟨vs, H2, I2, r, q⟩ => ⟨I2.kIn, ?_⟩) he hpl
  exact run_g (ar := ⟨us, []⟩) F hr hG (hx σ) I2 (hb s2 us (r.length.symm.trans (F.size _ _ _ _ q))) r q
end
/-! ### repr of data -/
section
variable {X : Cx}
def rShow (K : PySem.W.Frag) : List V → Hp → VK → Prop := fun xs H Q => ∃ (a : Addr) (d : PyData), xs = [.ref a] ∧ Dp K H (.ref a) d ∧
  d.showable = true ∧ d.hasDict = false ∧ d.depth ≤ 30 ∧ d.shown.length ≤ sizeLine ∧ Q (.str d.shown) H
theorem call_show (hG : X.A.guards = some []) {k : Nat} (hr : Room k X.A) : CallR X (.builtin "repr") (rShow X.K) := by
  intro pins s σ H xs us Q I r h
  obtain ⟨a, d, rfl, hd, hs, hn, h30, hz, q⟩ := h
  cases r with
  | cons r1 r2 =>
    cases r2
    obtain ⟨as, rd⟩ := Dp.reads I d _ _ hd r1
    cases r1
    have hu := hr.units
    exact repr_of_reads' rd hs (PyData.noDict_hsm hn) hG (by omega) (fun _ _ z => z) (fun h' u tk hk => ⟨.str d.shown, H, I.kept hk, ⟨u, rfl⟩, q⟩) hz
/-- // by any divisor but 0 -/
def CDivN (_ j : Int) : Prop := j ≠ 0 ∧ j.natAbs.log2 < 9000
theorem op_fdivN : OpR X (binaryOp .FloorDiv) (rI CDivN fun i j => .int (i.fdiv j)) := opI fun i j _ _ _ _ _ hc q =>
  floordiv_int hc.1 q (.inl (PyProof.noPylong_of_log2 hc.2))
end
/-! ### the end of a law's row -/
theorem at_caller {P : Program} {w : World} {K : PySem.W.Frag} {mg mb : Str → Option Value} {k : Nat} {fa a : Addr} {fd : FuncData} {x : Str} {sp : Sp} {s : Shared} {us : List Value} {ns : List Int}
    (KX : K.In s.heap) (hns : s.heap.Ns mainGlobals mg) (hb : s.heap.Ns builtinsNs mb) (hbb : ∀ x : Str, x ≠ "__name__" → mb x = bootBuiltins x) (hlim : s.heap.NoLimit) (hgen : s.gens = #[])
    (ha : s.heap.get? a = some { cls := .type "list", data := .seq us.toArray }) (hi : IntsAre us ns) (hl : ns.length ≤ sizeLine) (hr : Room k callerA)
    (F : ∀ base : Heap, K.In base → base.Ns mainGlobals mg → FnG P w K mg base CX0 k fa fd [x] sp) (hbind : ∀ (s : Shared) (u : Value), BindsTo s fd ⟨[u], []⟩ [(x, u)])
    (hsp : ∀ H : Hp, Only H → SqL K H a (ns.map V.int) → sp [.ref a] H (fun v _ => v = .bl true) E0) :
    codeAny (model P w) callerA (.call (.ref fa) ⟨[.ref a], []⟩) (fun r s' => r = .ok (.ret (.bool true)) ∧ OldK s.heap s'.heap ∧ s'.os = s.os ∧ AllBare s'.gens) s := by
  -- from a heap that tracks at most the script
  have go : ∀ H : Hp, Only H → SqL K H a (ns.map V.int) → HOk P w H s.heap → (∀ b, H b ≠ none → b = a) → (H a ≠ none → K.lookup a = none) →
      codeAny (model P w) callerA (.call (.ref fa) ⟨[.ref a], []⟩) (fun r s' => r = .ok (.ret (.bool true)) ∧ OldK s.heap s'.heap ∧ s'.os = s.os ∧ AllBare s'.gens) s := by
    intro H only sq hok one key
    have keep : ∀ {b : Addr} {o : Obj}, s.heap.get? b = some o → (∀ vs n, o.data ≠ .seq vs n) → (hidT s.heap H).get? b = some o := by
      intro b o e hd
      refine hidT_get e ?_
      cases q : H b with
      | none => rfl
      | some u =>
        obtain rfl : b = a := one b (by rw [q]; exact fun z => nomatch z)
        rw [ha] at e
        cases e
        exact absurd rfl (hd _ _)
    have names : ∀ {b : Addr} {m : Str → Option Value}, s.heap.Ns b m → (hidT s.heap H).Ns b m := by
      rintro b m ⟨o, es, ep, e, d, r⟩
      exact ⟨o, es, ep, keep e (fun vs n z => by rw [d] at z; cases z), d, r⟩
    have kin : K.In (hidT s.heap H) := by
      intro b o e
      refine hidT_get (KX b o e) ?_
      cases q : H b with
      | none => rfl
      | some u =>
        have nn : H b ≠ none := by rw [q]; exact fun z => nomatch z
        obtain rfl : b = a := one b nn
        rw [key nn] at e
        cases e
    have md : Mod K mg (hidT s.heap H) := ⟨kin, names hns, ⟨mb, names hb, hbb⟩, by obtain ⟨mc, h1, h2⟩ := hlim; exact ⟨mc, names h1, h2⟩⟩
    have none_in : ∀ b : Addr, b ∉ frs [] := fun b z => absurd (show b ∈ ([] : List Addr) from z) (by simp)
    have e0 : Env0 P w K mg (hidT s.heap H) callerA [] s H := { frames := rfl, mod := md, bs := fun b o e => of_hidT e, bsz := Nat.le_of_eq (hidT_size _ _), funs := trivial, frf := fun b z => absurd z (none_in b), hok := hok, bare := .of_eq hgen }
    refine codeAny_mono ((F _ kin (names hns)).goes callerA [] s H ⟨[.ref a], []⟩ [.ref a] [.ref a] _ _ hr rfl e0 (hbind s (.ref a)) (.cons rfl .nil) (hsp H only sq)) fun r s' h => ?_
    cases r with
    | error e => exact False.elim h
    | ok fl =>
      cases fl with
      | next => exact False.elim h
      | brk => exact False.elim h
      | cont => exact False.elim h
      | ret u =>
        obtain ⟨v, H', os, bare, un, hok', rv, q⟩ := h
        obtain rfl : v = .bl true := q
        obtain rfl : u = Value.bool true := rv
        refine ⟨rfl, OldK.of_keep fun b o e => ?_, os, bare⟩
        cases q : H b with
        | none => exact un.keep b o e q (none_in b) (by simp)
        | some y =>
          rcases only b with z | ⟨ob, xs, z⟩
          · rw [q] at z
            cases z
          · obtain ⟨e1, _⟩ := hok b _ z
            obtain ⟨e2, _⟩ := hok' b _ (un.frzs b ob _ z)
            rw [e] at e1
            cases e1
            exact e2
  have rv := vals_ints hi
  cases hk : K.lookup a with
  | some o =>
    have e := KX a o hk
    rw [ha] at e
    cases e
    exact go (fun _ => none) (fun _ => Or.inl rfl) (Or.inr ⟨_, us.toArray, _, hk, rfl, rfl, rfl, by rw [List.size_toArray, hi.length]; exact hl, by simpa using rv⟩)
      (fun b u z => by cases (show (none : Option HO) = some u from z)) (fun b z => absurd rfl z) (fun z => absurd rfl z)
  | none =>
    refine go (fun b => if b = a then some (.frz { cls := .type "list", data := .seq us.toArray } (.lst (ns.map V.int))) else none) ?_ (Or.inl (Or.inr ⟨_, if_pos rfl⟩)) ?_ ?_ (fun _ => hk)
    · intro b
      by_cases h : b = a
      · exact Or.inr ⟨_, _, if_pos h⟩
      · exact Or.inl (if_neg h)
    · intro b u z
      by_cases h : b = a
      · cases (if_pos h).symm.trans z
        subst h
        exact ⟨ha, by rw [List.length_map]; exact hl, us, _, rv, ha⟩
      · cases (if_neg h).symm.trans z
    · intro b z
      by_cases h : b = a
      · exact h
      · exact absurd (if_neg h) z
theorem walkG {l : PySem.W.OpenLaw} {n k : Nat} {q : Program} {loose : List Str} {XP : (Str → Option Value) → Heap → Prop} {YP : World → Heap → Prop} {d : DefRec} {K : Params → PySem.W.Frag} {sp : PySem.W.Frag → Sp} {x : Str}
    (hn : l.most = some n) (hn2 : n ≤ sizeLine) (hdf : d.params.defaults = []) (hr : Room k callerA) (hY : ∀ (w : World) (h : Heap), YP w h → (K w.params).In h)
    (F : ∀ (w : World) (mg : Str → Option Value) (fa : Addr) (h : Heap), (K w.params).In h → h.Ns mainGlobals mg → mg d.name = some (.ref fa) →
      ∃ fd : FuncData, (∀ (s : Shared) (u : Value), BindsTo s fd ⟨[u], []⟩ [(x, u)]) ∧ ∀ base : Heap, (K w.params).In base → base.Ns mainGlobals mg → FnG l.prog w (K w.params) mg base CX0 k fa fd [x] (sp (K w.params)))
    (hsp : ∀ (K : PySem.W.Frag) (H : Hp) (a : Addr) (ns : List Int), ns.length ≤ n → Only H → SqL K H a (ns.map V.int) → sp K [.ref a] H (fun v _ => v = .bl true) E0) :
    PySem.W.WalkO q loose XP YP l.row.toRowW d [] (fun f vs => PySem.call f vs) := by
  refine Att.attach_call hn hdf fun w s0 s mg mb fa o pm cd doc a us ns G Y ho hd hcd hmg hobj hints hlen hg => ?_
  obtain ⟨fd, hb, hF⟩ := F w mg fa _ (hY w _ Y) G.T.g hmg
  exact at_caller (hY w _ Y) G.T.g G.T.b G.T.builtins G.T.nolimit hg hobj hints (Nat.le_trans hlen hn2) hr hF hb fun H hO hS => hsp _ H a ns hlen hO hS
end Lf

set_option linter.all false
/-! Lowest terms: plain arithmetic. -/
namespace Lf
/-- the fraction of two whole numbers, d not 0 -/
def low (n d : Int) : Int × Int := ((n * d.sign) / (Nat.gcd n.natAbs d.natAbs : Nat), (d.natAbs : Int) / (Nat.gcd n.natAbs d.natAbs : Nat))
def IsLow (t b : Int) : Prop := 0 < b ∧ Nat.Coprime t.natAbs b.natAbs
theorem gcd_pos {n d : Int} (h : d ≠ 0) : 0 < Nat.gcd n.natAbs d.natAbs := Nat.gcd_pos_of_pos_right _ (by omega)
theorem low_parts {n d : Int} (h : d ≠ 0) : ∃ (u : Int) (v : Nat), n * d.sign = u * (Nat.gcd n.natAbs d.natAbs : Nat) ∧ d.natAbs = v * Nat.gcd n.natAbs d.natAbs ∧ low n d = (u, (v : Int)) ∧ 0 < v ∧ Nat.Coprime u.natAbs v := by
  have hg := gcd_pos (n := n) h
  obtain ⟨v, hv⟩ := Nat.gcd_dvd_right n.natAbs d.natAbs
  obtain ⟨u, hu⟩ : ∃ u : Int, n * d.sign = (Nat.gcd n.natAbs d.natAbs : Nat) * u := by
    obtain ⟨x, hx⟩ := Nat.gcd_dvd_left n.natAbs d.natAbs
    rcases Int.natAbs_eq n with e | e
    · exact ⟨x * d.sign, by rw [← Int.mul_assoc, ← Int.natCast_mul, ← hx, ← e]⟩
    · exact ⟨-(x : Int) * d.sign, by rw [← Int.mul_assoc, Int.mul_neg, ← Int.natCast_mul, ← hx, ← e]⟩
  have hn : n.natAbs = Nat.gcd n.natAbs d.natAbs * u.natAbs := by
    have := congrArg Int.natAbs hu
    rw [Int.natAbs_mul, Int.natAbs_mul, Int.natAbs_sign_of_ne_zero h, Nat.mul_one, Int.natAbs_natCast] at this
    exact this
  have hvp : 0 < v := by
    rcases Nat.eq_zero_or_pos v with e | e
    · rw [e, Nat.mul_zero] at hv
      omega
    · exact e
  have hgi : ((Nat.gcd n.natAbs d.natAbs : Nat) : Int) ≠ 0 := by omega
  refine ⟨u, v, by rw [hu, Int.mul_comm], by rw [Nat.mul_comm]; exact hv, ?_, hvp, ?_⟩
  · unfold low
    rw [hu, Int.mul_ediv_cancel_left _ hgi]
    have : (d.natAbs : Int) = (Nat.gcd n.natAbs d.natAbs : Nat) * (v : Int) := by rw [← Int.natCast_mul, ← hv]
    rw [this, Int.mul_ediv_cancel_left _ hgi]
  · have e : Nat.gcd n.natAbs d.natAbs = Nat.gcd n.natAbs d.natAbs * Nat.gcd u.natAbs v := by
      rw [← Nat.gcd_mul_left, ← hn, ← hv]
    have e' : Nat.gcd n.natAbs d.natAbs * 1 = Nat.gcd n.natAbs d.natAbs * Nat.gcd u.natAbs v := by rw [Nat.mul_one]; exact e
    exact (Nat.eq_of_mul_eq_mul_left hg e').symm
theorem sign_mul_natAbs' (d : Int) : d.sign * (d.natAbs : Int) = d := Int.sign_mul_natAbs d
theorem low_is {n d : Int} (h : d ≠ 0) : IsLow (low n d).1 (low n d).2 := by
  obtain ⟨u, v, _, _, e, hv, hc⟩ := low_parts (n := n) h
  rw [e]
  exact ⟨by show (0 : Int) < v; omega, hc⟩
theorem low_cross {n d : Int} (h : d ≠ 0) : (low n d).1 * d = n * (low n d).2 := by
  obtain ⟨u, v, h1, h2, e, hv, hc⟩ := low_parts (n := n) h
  rw [e]
  show u * d = n * v
  have hg := gcd_pos (n := n) h
  have hgi : ((Nat.gcd n.natAbs d.natAbs : Nat) : Int) ≠ 0 := by omega
  have hs : d.sign * d.sign = 1 := by
    rcases Int.lt_or_gt_of_ne h with q | q
    · rw [Int.sign_eq_neg_one_of_neg q]
      rfl
    · rw [Int.sign_eq_one_of_pos q]
      rfl
  have ed : d = d.sign * ((v : Int) * (Nat.gcd n.natAbs d.natAbs : Nat)) := by
    rw [← Int.natCast_mul, ← h2]
    exact (sign_mul_natAbs' d).symm
  have : (u * d) * ((Nat.gcd n.natAbs d.natAbs : Nat) : Int) = (n * v) * (Nat.gcd n.natAbs d.natAbs : Nat) := by
    have e1 : (u * d) * ((Nat.gcd n.natAbs d.natAbs : Nat) : Int) = (u * (Nat.gcd n.natAbs d.natAbs : Nat)) * d := by
      rw [Int.mul_assoc, Int.mul_assoc, Int.mul_comm d]
    rw [e1, ← h1]
    generalize hG : ((Nat.gcd n.natAbs d.natAbs : Nat) : Int) = G at *
    calc n * d.sign * d = n * d.sign * (d.sign * (v * G)) := by rw [← ed]
      _ = n * (d.sign * d.sign) * (v * G) := by simp only [Int.mul_assoc]
      _ = n * v * G := by rw [hs]; simp only [Int.mul_one, Int.mul_assoc]
  exact Int.eq_of_mul_eq_mul_right hgi this
theorem low_uniq {t b t' b' : Int} (h : IsLow t b) (h' : IsLow t' b') (e : t * b' = t' * b) : t = t' ∧ b = b' := by
  obtain ⟨hb, hc⟩ := h
  obtain ⟨hb', hc'⟩ := h'
  have e1 : t.natAbs * b'.natAbs = t'.natAbs * b.natAbs := by
    have := congrArg Int.natAbs e
    rwa [Int.natAbs_mul, Int.natAbs_mul] at this
  have d1 : b.natAbs ∣ b'.natAbs := by
    have q : b.natAbs ∣ t.natAbs * b'.natAbs := by
      rw [e1]
      exact Nat.dvd_mul_left _ _
    exact Nat.Coprime.dvd_of_dvd_mul_left hc.symm q
  have d2 : b'.natAbs ∣ b.natAbs := by
    have q : b'.natAbs ∣ t'.natAbs * b.natAbs := by
      rw [← e1]
      exact Nat.dvd_mul_left _ _
    exact Nat.Coprime.dvd_of_dvd_mul_left hc'.symm q
  have eb : b.natAbs = b'.natAbs := Nat.dvd_antisymm d1 d2
  have eb' : b = b' := by omega
  subst eb'
  exact ⟨Int.eq_of_mul_eq_mul_right (by omega) e, rfl⟩
/-- the fraction is the one in lowest terms -/
theorem low_eq {n d t b : Int} (h : d ≠ 0) (hl : IsLow t b) (e : t * d = n * b) : low n d = (t, b) := by
  have hi := low_is (n := n) h
  have hx := low_cross (n := n) h
  have key : (low n d).1 * b = t * (low n d).2 := by
    have q : ((low n d).1 * b) * d = (t * (low n d).2) * d := by
      calc ((low n d).1 * b) * d = ((low n d).1 * d) * b := by rw [Int.mul_assoc, Int.mul_comm b d, Int.mul_assoc]
        _ = (n * (low n d).2) * b := by rw [hx]
        _ = (n * b) * (low n d).2 := by rw [Int.mul_assoc, Int.mul_comm _ b, Int.mul_assoc]
        _ = (t * d) * (low n d).2 := by rw [e]
        _ = (t * (low n d).2) * d := by rw [Int.mul_assoc, Int.mul_comm d, Int.mul_assoc]
    exact Int.eq_of_mul_eq_mul_right h q
  obtain ⟨e1, e2⟩ := low_uniq hi hl key
  exact Prod.ext e1 e2
theorem low_self {t b : Int} (h : IsLow t b) : low t b = (t, b) := low_eq (by have := h.1; omega) h rfl
/-- bounds -/
theorem low_top_le {n d : Int} (h : d ≠ 0) : (low n d).1.natAbs ≤ n.natAbs := by
  obtain ⟨u, v, h1, h2, e, hv, hc⟩ := low_parts (n := n) h
  rw [e]
  show u.natAbs ≤ n.natAbs
  have hg := gcd_pos (n := n) h
  have := congrArg Int.natAbs h1
  rw [Int.natAbs_mul, Int.natAbs_mul, Int.natAbs_sign_of_ne_zero h, Nat.mul_one, Int.natAbs_natCast] at this
  rw [this]
  exact Nat.le_mul_of_pos_right _ hg
theorem low_bottom_le {n d : Int} (h : d ≠ 0) : (low n d).2.natAbs ≤ d.natAbs := by
  obtain ⟨u, v, h1, h2, e, hv, hc⟩ := low_parts (n := n) h
  rw [e]
  show (v : Int).natAbs ≤ d.natAbs
  have hg := gcd_pos (n := n) h
  rw [h2, Int.natAbs_natCast]
  exact Nat.le_mul_of_pos_right _ hg
/-- the program's way: over a bottom above 0 -/
theorem low_pos {n d : Int} (h : 0 < d) : low n d = (n / (Nat.gcd n.natAbs d.natAbs : Nat), d / (Nat.gcd n.natAbs d.natAbs : Nat)) := by
  unfold low
  rw [Int.sign_eq_one_of_pos h, Int.mul_one, show (d.natAbs : Int) = d by omega]
theorem low_neg (n d : Int) : low (-n) (-d) = low n d := by
  unfold low
  rw [Int.sign_neg, Int.natAbs_neg, Int.natAbs_neg, Int.neg_mul_neg]
/-- the law's way: by the greatest common one, below 0 where the bottom is -/
theorem low_fdiv_pos {n d : Int} (h : 0 < d) : (n.fdiv (Nat.gcd n.natAbs d.natAbs : Nat), d.fdiv (Nat.gcd n.natAbs d.natAbs : Nat)) = low n d := by
  rw [low_pos h, Int.fdiv_eq_ediv_of_nonneg _ (by omega), Int.fdiv_eq_ediv_of_nonneg _ (by omega)]
theorem low_fdiv_neg {n d : Int} (h : d < 0) : (n.fdiv (-(Nat.gcd n.natAbs d.natAbs : Nat)), d.fdiv (-(Nat.gcd n.natAbs d.natAbs : Nat))) = low n d := by
  have q := low_fdiv_pos (n := -n) (d := -d) (by omega)
  rw [Int.natAbs_neg, Int.natAbs_neg, low_neg] at q
  rw [← q, ← Int.neg_fdiv_neg, ← Int.neg_fdiv_neg d, Int.neg_neg]
/-- the sum less the other one is the one -/
theorem low_back {a b c d : Int} (hl : IsLow a b) (hd : 0 < d) :
    low ((low (a * d + c * b) (b * d)).1 * d - c * (low (a * d + c * b) (b * d)).2) ((low (a * d + c * b) (b * d)).2 * d) = (a, b) := by
  have hb := hl.1
  have h0 : b * d ≠ 0 := Int.ne_of_gt (Int.mul_pos hb hd)
  have hi := low_is (n := a * d + c * b) h0
  have hx := low_cross (n := a * d + c * b) h0
  generalize (low (a * d + c * b) (b * d)).1 = x at *
  generalize (low (a * d + c * b) (b * d)).2 = y at *
  refine low_eq (Int.ne_of_gt (Int.mul_pos hi.1 hd)) hl ?_
  have : x * (b * d) = x * d * b := by rw [Int.mul_comm b d, Int.mul_assoc]
  rw [this] at hx
  rw [Int.sub_mul, hx, Int.add_mul]
  have e1 : c * y * b = c * b * y := by rw [Int.mul_assoc, Int.mul_comm y b, Int.mul_assoc]
  have e2 : a * (y * d) = a * d * y := by rw [Int.mul_comm y d, Int.mul_assoc]
  rw [e1, e2]
  omega
/-- Euclid's steps keep the greatest common one -/
theorem gcd_step (a b : Int) (hb : 0 < b) (ha : 0 ≤ a) : Nat.gcd b.natAbs (a % b).natAbs = Nat.gcd a.natAbs b.natAbs := by
  have e : (a % b).natAbs = a.natAbs % b.natAbs := by
    rw [Int.natAbs_emod_of_nonneg ha]
  rw [e, Nat.gcd_comm b.natAbs, ← Nat.gcd_rec, Nat.gcd_comm]
end Lf

set_option Elab.async false
set_option linter.all false
set_option maxRecDepth 100000
set_option maxHeartbeats 4000000
set_option exponentiation.threshold 3000
/-! What repr shows of data, and that it fits. -/
namespace Lf
open PySem PySem.Spec PyProof.Rows L2
/-- below 2 ^ 900 -/
def Sm (n : Int) : Prop := n.natAbs < 2 ^ 900
theorem Sm.log {n : Int} (h : Sm n) : n.natAbs.log2 < 900 := PySem.Flt.log2_lt_of (by decide) h
theorem Sm.text {n : Int} (h : Sm n) : (Str.ofString (toString n)).length ≤ 901 := by
  rw [PySem.ofString_length]
  exact int_text_length_le (by decide) h.log
/-- data that can be shown: its weight, its depth -/
structure Ft (w k : Nat) (d : PyData) : Prop where
  sh : d.showable = true
  nd : d.hasDict = false
  dp : d.depth ≤ k
  lv : d.leavesShort 1000 = true
  wt : d.weight ≤ w
structure FtA (w k : Nat) (ds : List PyData) : Prop where
  sh : PyData.showableAll ds = true
  nd : PyData.hasDictAll ds = false
  dp : PyData.depthAll ds ≤ k
  lv : PyData.leavesShortAll 1000 ds = true
  wt : PyData.weightAll ds ≤ w
theorem Ft.int {n : Int} (h : Sm n) : Ft 900 0 (.int n) := by
  have hl := h.log
  refine ⟨?_, ?_, ?_, ?_, ?_⟩
  · simp only [PyData.showable, decide_eq_true_eq]
    omega
  · simp only [PyData.hasDict]
  · simp only [PyData.depth, Nat.le_refl]
  · simp only [PyData.leavesShort, decide_eq_true_eq, PyData.shown]
    exact decide_eq_true (Nat.le_trans h.text (show 901 ≤ 1000 by decide))
  · simp only [PyData.weight]
    split <;> omega
theorem Ft.bool (b : Bool) : Ft 0 0 (.bool b) := ⟨by simp only [PyData.showable], by simp only [PyData.hasDict], by simp only [PyData.depth, Nat.le_refl], by simp only [PyData.leavesShort], by simp only [PyData.weight, Nat.le_refl]⟩
theorem Ft.none : Ft 0 0 .none := ⟨by simp only [PyData.showable], by simp only [PyData.hasDict], by simp only [PyData.depth, Nat.le_refl], by simp only [PyData.leavesShort], by simp only [PyData.weight, Nat.le_refl]⟩
/-- a text whose signs are signs -/
def Sg (x : Str) : Prop := ∀ c ∈ x.cps.toList, c < 16 ^ 8
theorem Sg.of (s : String) : Sg (Str.ofString s) := by
  intro c hc
  rw [Str.ofString_eq_toList] at hc
  obtain ⟨ch, _, rfl⟩ := List.mem_map.mp (show c ∈ s.toList.map Char.toNat from hc)
  exact ch.val.toNat_lt
theorem Sg.app {x y : Str} (h : Sg x) (k : Sg y) : Sg (x ++ y) := by
  intro c hc
  have e : (x ++ y).cps.toList = x.cps.toList ++ y.cps.toList := by
    rw [show (x ++ y).cps = x.cps ++ y.cps from rfl, Array.toList_append]
  rw [e] at hc
  rcases List.mem_append.mp hc with q | q
  · exact h c q
  · exact k c q
theorem Ft.str {w : Nat} {x : Str} (h : Sg x) (hw : x.length ≤ w) : Ft w 0 (.str x) := ⟨by simp only [PyData.showable], by simp only [PyData.hasDict], by simp only [PyData.depth, Nat.le_refl],
  by simp only [PyData.leavesShort, List.all_eq_true, decide_eq_true_eq]; exact h, by simp only [PyData.weight]; exact hw⟩
theorem FtA.nil : FtA 0 0 [] := ⟨by simp only [PyData.showableAll], by simp only [PyData.hasDictAll], by simp only [PyData.depthAll, Nat.le_refl], by simp only [PyData.leavesShortAll], by simp only [PyData.weightAll, Nat.le_refl]⟩
theorem FtA.cons {w k w' k' : Nat} {d : PyData} {ds : List PyData} (h : Ft w k d) (r : FtA w' k' ds) : FtA (w + 1 + w') (max k k') (d :: ds) := by
  refine ⟨?_, ?_, ?_, ?_, ?_⟩
  · simp only [PyData.showableAll, h.sh, r.sh, Bool.and_self]
  · simp only [PyData.hasDictAll, h.nd, r.nd, Bool.or_self]
  · simp only [PyData.depthAll]
    have := h.dp
    have := r.dp
    omega
  · simp only [PyData.leavesShortAll, h.lv, r.lv, Bool.and_self]
  · simp only [PyData.weightAll]
    have := h.wt
    have := r.wt
    omega
theorem Ft.list {w k : Nat} {ds : List PyData} (r : FtA w k ds) : Ft w (k + 1) (.list ds) :=
  ⟨by simp only [PyData.showable]; exact r.sh, by simp only [PyData.hasDict]; exact r.nd, by simp only [PyData.depth]; exact Nat.succ_le_succ r.dp, by simp only [PyData.leavesShort]; exact r.lv, by simp only [PyData.weight]; exact r.wt⟩
theorem Ft.tuple {w k : Nat} {ds : List PyData} (r : FtA w k ds) : Ft w (k + 1) (.tuple ds) :=
  ⟨by simp only [PyData.showable]; exact r.sh, by simp only [PyData.hasDict]; exact r.nd, by simp only [PyData.depth]; exact Nat.succ_le_succ r.dp, by simp only [PyData.leavesShort]; exact r.lv, by simp only [PyData.weight]; exact r.wt⟩
/-- what repr asks -/
structure Showy (d : PyData) : Prop where
  sh : d.showable = true
  nd : d.hasDict = false
  dp : d.depth ≤ 30
  ln : d.shown.length ≤ sizeLine
theorem Ft.showy {w k : Nat} {d : PyData} (h : Ft w k d) (hk : k ≤ 30 := by decide) (hw : w ≤ 16000 := by decide) : Showy d := by
  refine ⟨h.sh, h.nd, Nat.le_trans h.dp hk, ?_⟩
  have e := PyData.shown_le 1000 (by decide) d h.lv
  have e2 := h.wt
  have e3 : (1000 + 2) * d.weight ≤ 1002 * 16000 := Nat.mul_le_mul (Nat.le_refl _) (Nat.le_trans e2 hw)
  have e4 := sizeLine_eq
  omega
/-- a fraction -/
def tD (t : Int × Int) : PyData := .tuple [.int t.1, .int t.2]
theorem Ft.two {t : Int × Int} (h : Sm t.1) (k : Sm t.2) : Ft 1802 1 (tD t) := Ft.tuple (.cons (.int h) (.cons (.int k) .nil))
theorem dp2 {K : PySem.W.Frag} {H : Hp} {p : Addr} {x y : Int} (h : SqT K H p [.int x, .int y]) : Dp K H (.ref p) (tD (x, y)) := .tup h (.cons (.int x) (.cons (.int y) .nil))
theorem dp2' {K : PySem.W.Frag} {H : Hp} {p : Addr} {t : Int × Int} (h : H p = some (.tup [.int t.1, .int t.2])) : Dp K H (.ref p) (tD t) := .tup (.inl (.inl h)) (.cons (.int _) (.cons (.int _) .nil))
mutual
theorem Dp.same {K : PySem.W.Frag} {H H' : Hp} (s : Same H H') : ∀ (d : PyData) (v : V), Dp K H v d → Dp K H' v d
  | .none, _, h => by cases h; exact .non
  | .bool b, _, h => by cases h; exact .bl b
  | .int i, _, h => by cases h; exact .int i
  | .str x, _, h => by cases h; exact .str x
  | .list ds, _, h => by
    cases h with
    | lst h1 h2 => exact .lst (s.seq h1) (DpAll.same s ds _ h2)
  | .tuple ds, _, h => by
    cases h with
    | tup h1 h2 =>
      refine .tup ?_ (DpAll.same s ds _ h2)
      rcases h1 with (h | ⟨o, h⟩) | h
      · exact .inl (.inl (s _ _ h))
      · exact .inl (.inr ⟨o, s _ _ h⟩)
      · exact .inr h
  | .dict _, _, h => by cases h
theorem DpAll.same {K : PySem.W.Frag} {H H' : Hp} (s : Same H H') : ∀ (ds : List PyData) (vs : List V), DpAll K H vs ds → DpAll K H' vs ds
  | [], _, h => by cases h; exact .nil
  | d :: ds, _, h => by
    cases h with
    | cons h1 h2 => exact .cons (Dp.same s d _ h1) (DpAll.same s ds _ h2)
end
end Lf

set_option Elab.async false
set_option linter.all false
set_option maxRecDepth 100000
set_option maxHeartbeats 4000000
namespace Lf
open PySem PySem.Spec PyProof.Rows L2
theorem same_new {H : Hp} {p : Addr} {o : HO} (h : H p = none) : Same H (upd H p o) := fun b x e => by
  rw [upd_ne (ne_of_none e h)]
  exact e
theorem same_rfl {H : Hp} : Same H H := fun _ _ e => e
theorem bt_abs : bootBuiltins "abs" = some (.builtin "abs") := by decide +kernel
theorem bt_len : bootBuiltins "len" = some (.builtin "len") := by decide +kernel
theorem bt_max : bootBuiltins "max" = some (.builtin "max") := by decide +kernel
theorem bt_min : bootBuiltins "min" = some (.builtin "min") := by decide +kernel
theorem bt_divmod : bootBuiltins "divmod" = some (.builtin "divmod") := by decide +kernel
theorem bt_repr : bootBuiltins "repr" = some (.builtin "repr") := by decide +kernel
theorem bt_all : bootBuiltins "all" = some (.builtin "all") := by decide +kernel
theorem bt_int : bootBuiltins "int" = some (.type "int") := by decide +kernel
theorem bt_str : bootBuiltins "str" = some (.type "str") := by decide +kernel
/-- the built-in names that nothing of the text hides -/
structure Blt (mg : Str → Option Value) : Prop where
  abs : mg "abs" = none
  len : mg "len" = none
  max : mg "max" = none
  min : mg "min" = none
  divmod : mg "divmod" = none
  repr : mg "repr" = none
  all : mg "all" = none
  int : mg "int" = none
  str : mg "str" = none
  range : mg "range" = none
/-- an own class under ValueError -/
structure ExT (K : PySem.W.Frag) (mg : Str → Option Value) (x : Str) (C : Addr) : Prop where
  g : mg x = some (.ref C)
  x : PySem.W.excIn K C [.type "ValueError", .type "Exception", .type "BaseException", .type "object"] "ValueError.__new__" = true
  k : PySem.W.keepIn K (.ref C) = true
  b : PySem.W.subIn K (.ref C) (.type "BaseException") = some true
  t : PySem.W.typeIn K (.ref C) = some (.type "type")
  m : PySem.W.exmOne K (.ref C) (.ref C) = some true
section
variable {K : PySem.W.Frag} {H : Hp} {p : Addr} {x y : V} {Q : VK}
theorem ixT0 (h : SqT K H p [x, y]) (q : Q x H) : rIxT K (.ref p) (.int 0) H Q := ⟨p, _, 0, _, rfl, rfl, h, rfl, q⟩
theorem ixT1 (h : SqT K H p [x, y]) (q : Q y H) : rIxT K (.ref p) (.int 1) H Q := ⟨p, _, 1, _, rfl, rfl, h, rfl, q⟩
theorem ixL0 (h : SqL K H p [x, y]) (q : Q x H) : rIxL K (.ref p) (.int 0) H Q := ⟨p, _, 0, _, rfl, rfl, h, rfl, q⟩
theorem ixL1 (h : SqL K H p [x, y]) (q : Q y H) : rIxL K (.ref p) (.int 1) H Q := ⟨p, _, 1, _, rfl, rfl, h, rfl, q⟩
theorem tup2 {a b : V} (q : ∀ p, H p = none → Q (.ref p) (upd H p (.tup [a, b]))) : [a, b].length ≤ sizeLine ∧ ∀ p, H p = none → Q (.ref p) (upd H p (.tup [a, b])) := ⟨by show 2 ≤ sizeLine; decide, q⟩
theorem lst2 {a b : V} (q : ∀ p, H p = none → Q (.ref p) (upd H p (.lst [a, b]))) : [a, b].length ≤ sizeLine ∧ ∀ p, H p = none → Q (.ref p) (upd H p (.lst [a, b])) := ⟨by show 2 ≤ sizeLine; decide, q⟩
end
theorem sm_t {K : PySem.W.Frag} {H H' : Hp} {a : Addr} {xs : List V} (s : Same H H') (h : SqT K H a xs) : SqT K H' a xs := by
  rcases h with (h | ⟨o, h⟩) | h
  · exact .inl (.inl (s _ _ h))
  · exact .inl (.inr ⟨o, s _ _ h⟩)
  · exact .inr h
def topS (i : Nat) : Stmt := PySem.Challenge.pw_loafshares_k15_whole_sums_in_any_order.main.body.getD i (.Pass ⟨0, 0, 0, 0⟩)
section
variable {P : Program} {w : World} {K : PySem.W.Frag} {mg : Str → Option Value} {base : Heap}
/-! ### common -/
abbrev sCom : Stmt := topS 4
theorem scCom : FnScope ["one", "other"] ["one", "other"] (defScope sCom) := ⟨rfl, rfl, rfl, by decide +kernel, rfl, by decide +kernel, by decide +kernel⟩
def spCom : Sp := fun vs H Q _ => ∃ (a b : Int), vs = [.int a, .int b] ∧ 0 ≤ a ∧ 0 ≤ b ∧ Q (.int (Nat.gcd a.natAbs b.natAbs : Nat)) H
theorem ok_com {f : Addr} {fd : FuncData} (F : Fun K "common" "common" sCom f fd) : FnG P w K mg base CX0 1 f fd ["one", "other"] spCom := by
  refine Gfun F scCom (fun vs H Q E h => ?_) (fun cdv A outer s H vs Q E hg hr h => ?_)
  · obtain ⟨a, b, rfl, _⟩ := h
    rfl
  · obtain ⟨a, b, rfl, ha, hb, q⟩ := h
    refine ⟨_, pss_cons (ps_while PassesOwn.never (pt_cmpR op_ne (pv 1) pe_int (nomark _))
        (pss_one (ps_par (i := 0) (j := 1) rfl scCom.nd rfl rfl (by decide) rfl rfl (pa_cons (pv 1) (pa_cons (pe_op op_mod (pv 0) (pv 1)) pa_nil)) (by rfl))))
      (pss_one (ps_ret (pv 0))), ?_⟩
    refine while_by (fun σ H' => ∃ x y : Int, σ = [some (.int x), some (.int y)] ∧ 0 ≤ x ∧ 0 ≤ y ∧ Nat.gcd x.natAbs y.natAbs = Nat.gcd a.natAbs b.natAbs ∧ H' = H)
      (fun σ _ => match σ with | [_, some (.int y)] => y.toNat | _ => 0) ⟨a, b, rfl, ha, hb, rfl, rfl⟩ ?_ ?_
    · rintro σ H1 ⟨x, y, rfl, hx, hy, hg, rfl⟩
      refine ⟨_, rfl, rfl, _, rfl, ite2 (fun e => ?_) (fun e => ?_)⟩
      · have hy0 : y ≠ 0 := fun z => by
          rw [z] at e
          exact absurd e (by decide)
        have hyp : 0 < y := by omega
        refine ⟨_, rfl, _, rfl, _, rfl, x, y, rfl, rfl, hyp, _, _, rfl, ⟨y, x % y, rfl, hy, Int.emod_nonneg _ hy0, (gcd_step x y hyp hx).trans hg, rfl⟩, ?_⟩
        show (x % y).toNat < y.toNat
        have := Int.emod_lt_of_pos x hyp
        omega
      · have hy0 : y = 0 := by
          by_cases z : y = 0
          · exact z
          · exact absurd (by rw [decide_eq_false (fun q => z (V.int.inj q))]; rfl) e
        subst hy0
        refine ⟨_, rfl, ?_⟩
        rw [← hg, Int.natAbs_zero, Nat.gcd_zero_right] at q
        rw [show (x.natAbs : Int) = x by omega] at q
        exact q
    · rintro σ H1 Q1 Q2 hq ⟨u, hu, h1, h2, h3, h4⟩
      exact ⟨u, hu, h1, h2, h3, hq _ _ h4⟩
/-! ### fraction -/
abbrev sFrac : Stmt := topS 5
theorem scFrac : FnScope ["top", "bottom", "shared"] ["top", "bottom"] (defScope sFrac) := ⟨rfl, rfl, rfl, by decide +kernel, rfl, by decide +kernel, by decide +kernel⟩
/-- below 2 ^ 2000 -/
def Mid (n : Int) : Prop := n.natAbs < 2 ^ 2000
theorem Mid.log {n : Int} (h : Mid n) : n.natAbs.log2 < 9000 := Nat.lt_of_lt_of_le (PySem.Flt.log2_lt_of (by decide) h) (by decide)
/-- a new tuple of two ints -/
def Two (H : Hp) (Q : VK) (t : Int × Int) : Prop := ∀ H' p, Same H H' → H' p = some (.tup [.int t.1, .int t.2]) → Q (.ref p) H'
def spFrac (neg : Bool) : Sp := fun vs H Q _ => ∃ (n d : Int), vs = [.int n, .int d] ∧ d ≠ 0 ∧ (neg = false → 0 < d) ∧ Mid n ∧ Mid d ∧ Two H Q (low n d)
theorem gcd_mid {n d : Int} (h : d ≠ 0) (hd : Mid d) : Mid ((Nat.gcd n.natAbs d.natAbs : Nat) : Int) := by
  unfold Mid at hd ⊢
  rw [Int.natAbs_natCast]
  exact Nat.lt_of_le_of_lt (Nat.le_of_dvd (by omega) (Nat.gcd_dvd_right _ _)) hd
theorem abs_is (n : Int) : (if n < 0 then -n else n) = (n.natAbs : Int) := by
  split <;> omega
theorem ok_frac {j : Nat} {f : Addr} {fd : FuncData} {C : Addr} (neg : Bool) (R : Sp) (hR : ∀ n d H Q, d < 0 → spFrac neg [.int n, .int d] H Q E0 → R [.int (-n), .int (-d)] H Q E0) (M : Blt mg) (X : ExT K mg "NoFraction" C) (F : Fun K "fraction" "fraction" sFrac f fd)
    (C_common : Cal P w K mg base CX0 1 "common" ["one", "other"] spCom) (C_fraction : Cal P w K mg base CX0 (j + 1) "fraction" ["top", "bottom"] R) : FnG P w K mg base CX0 (j + 2) f fd ["top", "bottom"] (spFrac neg) := by
  refine Gfun F scFrac (fun vs H Q E h => ?_) (fun cdv A outer s H vs Q E hg hr h => ?_)
  · obtain ⟨a, b, rfl, _⟩ := h
    rfl
  · obtain ⟨n, d, rfl, hd, hneg, hn2, hd2, q⟩ := h
    refine ⟨_, pss_cons (ps_if (pt_cmpR op_eq (pv 1) pe_int (nomark _)) (pss_one (ps_raise rfl takes0 (pmk_own PySem.F.excBase_ValueError X.x X.g X.k (raises_own X.b X.t) rfl))) pss_nil)
      (pss_cons (ps_if (pt_cmpR op_lt (pv 1) pe_int (nomark _)) (pss_one (ps_ret (pe_g C_fraction (hr.mono (by omega)) hg (pa_cons (pe_un un_neg (pv 0)) (pa_cons (pe_un un_neg (pv 1)) pa_nil))))) pss_nil)
      (pss_cons (ps_set (i := 2) scFrac.nd rfl (.inl rfl) (pe_g C_common (hr.mono (by omega)) hg (pa_cons (pe_callB call_abs rfl M.abs bt_abs (pa_cons (pv 0) pa_nil)) (pa_cons (pv 1) pa_nil))))
      (pss_one (ps_ret (pe_tup (pa_cons (pe_op op_fdivN (pv 0) (pv 2)) (pa_cons (pe_op op_fdivN (pv 1) (pv 2)) pa_nil))))))), ?_⟩
    refine ⟨_, rfl, rfl, _, rfl, ite2 (fun e => ?_) (fun _ => ?_)⟩
    · exact absurd (V.int.inj (of_decide_eq_true e)) hd
    refine ⟨_, rfl, _, _, rfl, rfl, _, rfl, ite2 (fun e => ?_) (fun e => ?_)⟩
    · have e' : d < 0 := of_decide_eq_true e
      refine ⟨_, rfl, _, rfl, _, rfl, _, rfl, ?_⟩
      exact hR n d H Q e' ⟨n, d, rfl, hd, hneg, hn2, hd2, q⟩
    · have e' : 0 < d := by
        have : ¬ d < 0 := fun z => e (decide_eq_true z)
        omega
      refine ⟨_, rfl, _, rfl, _, rfl, _, d, rfl, ?_, Int.le_of_lt e', ?_⟩
      · rw [abs_is]
        omega
      · rw [abs_is, Int.natAbs_natCast]
        have hgz : ((Nat.gcd n.natAbs d.natAbs : Nat) : Int) ≠ 0 := by
          have := gcd_pos (n := n) hd
          omega
        have hm : CDivN n ((Nat.gcd n.natAbs d.natAbs : Nat) : Int) := ⟨hgz, (gcd_mid hd hd2).log⟩
        refine ⟨_, rfl, _, rfl, n, _, rfl, rfl, hm, _, rfl, _, rfl, d, _, rfl, rfl, hm, tup2 fun p hp => ?_⟩
        refine q _ p (same_new hp) ?_
        have := low_fdiv_pos (n := n) (d := d) e'
        rw [← this]
        exact upd_same
end
end Lf

set_option Elab.async false
set_option linter.all false
set_option maxRecDepth 100000
set_option maxHeartbeats 4000000
set_option exponentiation.threshold 3000
namespace Lf
open PySem PySem.Spec PyProof.Rows L2
theorem Sm.mid {n : Int} (h : Sm n) : Mid n := Nat.lt_of_lt_of_le h (Nat.pow_le_pow_right (by decide) (by decide))
theorem Sm.mulW {a b : Int} (ha : Sm a) (hb : Sm b) : CMulW a b := by
  have := ha.log
  have := hb.log
  unfold CMulW
  omega
theorem Sm.prod {a b : Int} (ha : Sm a) (hb : Sm b) : (a * b).natAbs < 2 ^ 1800 := by
  rw [Int.natAbs_mul, show (2 : Nat) ^ 1800 = 2 ^ 900 * 2 ^ 900 by rw [← Nat.pow_add]]
  exact Nat.mul_lt_mul'' ha hb
theorem Sm.mul {a b : Int} (ha : Sm a) (hb : Sm b) : Mid (a * b) := Nat.lt_of_lt_of_le (Sm.prod ha hb) (Nat.pow_le_pow_right (by decide) (by decide))
theorem two_pow : (2 : Nat) ^ 1800 + 2 ^ 1800 = 2 ^ 1801 := (Nat.two_pow_succ 1800).symm
theorem Sm.add {a b c d : Int} (ha : Sm a) (hb : Sm b) (hc : Sm c) (hd : Sm d) : Mid (a * b + c * d) := by
  have h1 := Sm.prod ha hb
  have h2 := Sm.prod hc hd
  have h3 := Int.natAbs_add_le (a * b) (c * d)
  have h4 : (2 : Nat) ^ 1801 ≤ 2 ^ 2000 := Nat.pow_le_pow_right (by decide) (by decide)
  have h5 := two_pow
  unfold Mid
  omega
theorem Sm.sub {a b c d : Int} (ha : Sm a) (hb : Sm b) (hc : Sm c) (hd : Sm d) : Mid (a * b - c * d) := by
  have h1 := Sm.prod ha hb
  have h2 := Sm.prod hc hd
  have h3 := Int.natAbs_sub_le (a * b) (c * d)
  have h4 : (2 : Nat) ^ 1801 ≤ 2 ^ 2000 := Nat.pow_le_pow_right (by decide) (by decide)
  have h5 := two_pow
  unfold Mid
  omega
/-- two handed fractions -/
structure Pr (K : PySem.W.Frag) (H : Hp) (vs : List V) (a b c d : Int) : Prop where
  ex : ∃ p q, vs = [.ref p, .ref q] ∧ SqT K H p [.int a, .int b] ∧ SqT K H q [.int c, .int d]
  hb : b ≠ 0
  hd : d ≠ 0
  a1 : Sm a
  b1 : Sm b
  c1 : Sm c
  d1 : Sm d
theorem mul_ne {a b : Int} (ha : a ≠ 0) (hb : b ≠ 0) : a * b ≠ 0 := Int.mul_ne_zero ha hb
section
variable {P : Program} {w : World} {K : PySem.W.Frag} {mg : Str → Option Value} {base : Heap}
/-! ### fraction of a bottom 0 -/
def spFrac0 (C : Addr) : Sp := fun vs H Q E => ∃ n : Int, vs = [.int n, .int 0] ∧ E (.ref C) none H
theorem ok_frac0 {f : Addr} {fd : FuncData} {C : Addr} {R : Sp} (M : Blt mg) (X : ExT K mg "NoFraction" C) (F : Fun K "fraction" "fraction" sFrac f fd)
    (C_common : Cal P w K mg base CX0 1 "common" ["one", "other"] spCom) (C_fraction : Cal P w K mg base CX0 2 "fraction" ["top", "bottom"] R) : FnG P w K mg base (L2.CX P w) 3 f fd ["top", "bottom"] (spFrac0 C) := by
  refine GfunX F scFrac (fun vs H Q E h => ?_) (fun cdv A outer s H vs Q E hg hr h => ?_)
  · obtain ⟨n, rfl, _⟩ := h
    rfl
  · obtain ⟨n, rfl, q⟩ := h
    refine ⟨_, pss_cons (ps_if (pt_cmpR op_eq (pv 1) pe_int (nomark _)) (pss_one (ps_raise rfl (takes_of rfl rfl rfl rfl) (pmk_own PySem.F.excBase_ValueError X.x X.g X.k (raises_own X.b X.t) rfl))) pss_nil)
      (pss_cons (ps_if (pt_cmpR op_lt (pv 1) pe_int (nomark _)) (pss_one (ps_ret (pe_g C_fraction (hr.mono (by decide)) hg (pa_cons (pe_un un_neg (pv 0)) (pa_cons (pe_un un_neg (pv 1)) pa_nil))))) pss_nil)
      (pss_cons (ps_set (i := 2) scFrac.nd rfl (.inl rfl) (pe_g C_common (hr.mono (by decide)) hg (pa_cons (pe_callB call_abs rfl M.abs bt_abs (pa_cons (pv 0) pa_nil)) (pa_cons (pv 1) pa_nil))))
      (pss_one (ps_ret (pe_tup (pa_cons (pe_op op_fdivN (pv 0) (pv 2)) (pa_cons (pe_op op_fdivN (pv 1) (pv 2)) pa_nil))))))), ?_⟩
    exact ⟨_, rfl, rfl, _, rfl, iteT q⟩

/-! ### plus -/
abbrev s_plus : Stmt := topS 6
theorem sc_plus : FnScope ["one", "other"] ["one", "other"] (defScope s_plus) := ⟨rfl, rfl, rfl, by decide +kernel, rfl, by decide +kernel, by decide +kernel⟩
def sp_plus (K : PySem.W.Frag) : Sp := fun vs H Q _ => ∃ a b c d : Int, Pr K H vs a b c d ∧ Two H Q (low (a * d + c * b) (b * d))
theorem ok_plus {f : Addr} {fd : FuncData} (F : Fun K "plus" "plus" s_plus f fd) (C_fraction : Cal P w K mg base CX0 4 "fraction" ["top", "bottom"] (spFrac true)) : FnG P w K mg base CX0 5 f fd ["one", "other"] (sp_plus K) := by
  refine Gfun F sc_plus (fun vs H Q E h => ?_) (fun cdv A outer s H vs Q E hg hr h => ?_)
  · obtain ⟨a, b, c, d, h, _⟩ := h
    obtain ⟨p, q, rfl, _⟩ := h.ex
    rfl
  · obtain ⟨a, b, c, d, h, k⟩ := h
    obtain ⟨p, q, rfl, hp, hq⟩ := h.ex
    refine ⟨_, (pss_one (ps_ret (pe_g C_fraction (hr.mono (by decide)) hg (pa_cons (pe_op op_add (pe_op op_mulW (pe_ix ix_tup (pv 0) pe_int (fun _ _ => rfl)) (pe_ix ix_tup (pv 1) pe_int (fun _ _ => rfl))) (pe_op op_mulW (pe_ix ix_tup (pv 1) pe_int (fun _ _ => rfl)) (pe_ix ix_tup (pv 0) pe_int (fun _ _ => rfl)))) (pa_cons (pe_op op_mulW (pe_ix ix_tup (pv 0) pe_int (fun _ _ => rfl)) (pe_ix ix_tup (pv 1) pe_int (fun _ _ => rfl))) pa_nil))))), ?_⟩
    refine ⟨_, rfl, p, _, _, _, rfl, rfl, hp, rfl, _, rfl, q, _, _, _, rfl, rfl, hq, rfl, _, _, rfl, rfl, Sm.mulW h.a1 h.d1, ?_⟩
    refine ⟨_, rfl, q, _, _, _, rfl, rfl, hq, rfl, _, rfl, p, _, _, _, rfl, rfl, hp, rfl, _, _, rfl, rfl, Sm.mulW h.c1 h.b1, ?_⟩
    refine ⟨_, _, rfl, rfl, ?_⟩
    refine ⟨_, rfl, p, _, _, _, rfl, rfl, hp, rfl, _, rfl, q, _, _, _, rfl, rfl, hq, rfl, _, _, rfl, rfl, Sm.mulW h.b1 h.d1, ?_⟩
    exact ⟨_, _, rfl, mul_ne h.hb h.hd, (fun z => Bool.noConfusion z), Sm.add h.a1 h.d1 h.c1 h.b1, Sm.mul h.b1 h.d1, k⟩

/-! ### minus -/
abbrev s_minus : Stmt := topS 7
theorem sc_minus : FnScope ["one", "other"] ["one", "other"] (defScope s_minus) := ⟨rfl, rfl, rfl, by decide +kernel, rfl, by decide +kernel, by decide +kernel⟩
def sp_minus (K : PySem.W.Frag) : Sp := fun vs H Q _ => ∃ a b c d : Int, Pr K H vs a b c d ∧ Two H Q (low (a * d - c * b) (b * d))
theorem ok_minus {f : Addr} {fd : FuncData} (F : Fun K "minus" "minus" s_minus f fd) (C_fraction : Cal P w K mg base CX0 4 "fraction" ["top", "bottom"] (spFrac true)) : FnG P w K mg base CX0 5 f fd ["one", "other"] (sp_minus K) := by
  refine Gfun F sc_minus (fun vs H Q E h => ?_) (fun cdv A outer s H vs Q E hg hr h => ?_)
  · obtain ⟨a, b, c, d, h, _⟩ := h
    obtain ⟨p, q, rfl, _⟩ := h.ex
    rfl
  · obtain ⟨a, b, c, d, h, k⟩ := h
    obtain ⟨p, q, rfl, hp, hq⟩ := h.ex
    refine ⟨_, (pss_one (ps_ret (pe_g C_fraction (hr.mono (by decide)) hg (pa_cons (pe_op op_sub (pe_op op_mulW (pe_ix ix_tup (pv 0) pe_int (fun _ _ => rfl)) (pe_ix ix_tup (pv 1) pe_int (fun _ _ => rfl))) (pe_op op_mulW (pe_ix ix_tup (pv 1) pe_int (fun _ _ => rfl)) (pe_ix ix_tup (pv 0) pe_int (fun _ _ => rfl)))) (pa_cons (pe_op op_mulW (pe_ix ix_tup (pv 0) pe_int (fun _ _ => rfl)) (pe_ix ix_tup (pv 1) pe_int (fun _ _ => rfl))) pa_nil))))), ?_⟩
    refine ⟨_, rfl, p, _, _, _, rfl, rfl, hp, rfl, _, rfl, q, _, _, _, rfl, rfl, hq, rfl, _, _, rfl, rfl, Sm.mulW h.a1 h.d1, ?_⟩
    refine ⟨_, rfl, q, _, _, _, rfl, rfl, hq, rfl, _, rfl, p, _, _, _, rfl, rfl, hp, rfl, _, _, rfl, rfl, Sm.mulW h.c1 h.b1, ?_⟩
    refine ⟨_, _, rfl, rfl, ?_⟩
    refine ⟨_, rfl, p, _, _, _, rfl, rfl, hp, rfl, _, rfl, q, _, _, _, rfl, rfl, hq, rfl, _, _, rfl, rfl, Sm.mulW h.b1 h.d1, ?_⟩
    exact ⟨_, _, rfl, mul_ne h.hb h.hd, (fun z => Bool.noConfusion z), Sm.sub h.a1 h.d1 h.c1 h.b1, Sm.mul h.b1 h.d1, k⟩

/-! ### times -/
abbrev s_times : Stmt := topS 8
theorem sc_times : FnScope ["one", "other"] ["one", "other"] (defScope s_times) := ⟨rfl, rfl, rfl, by decide +kernel, rfl, by decide +kernel, by decide +kernel⟩
def sp_times (K : PySem.W.Frag) : Sp := fun vs H Q _ => ∃ a b c d : Int, Pr K H vs a b c d ∧ Two H Q (low (a * c) (b * d))
theorem ok_times {f : Addr} {fd : FuncData} (F : Fun K "times" "times" s_times f fd) (C_fraction : Cal P w K mg base CX0 4 "fraction" ["top", "bottom"] (spFrac true)) : FnG P w K mg base CX0 5 f fd ["one", "other"] (sp_times K) := by
  refine Gfun F sc_times (fun vs H Q E h => ?_) (fun cdv A outer s H vs Q E hg hr h => ?_)
  · obtain ⟨a, b, c, d, h, _⟩ := h
    obtain ⟨p, q, rfl, _⟩ := h.ex
    rfl
  · obtain ⟨a, b, c, d, h, k⟩ := h
    obtain ⟨p, q, rfl, hp, hq⟩ := h.ex
    refine ⟨_, (pss_one (ps_ret (pe_g C_fraction (hr.mono (by decide)) hg (pa_cons (pe_op op_mulW (pe_ix ix_tup (pv 0) pe_int (fun _ _ => rfl)) (pe_ix ix_tup (pv 1) pe_int (fun _ _ => rfl))) (pa_cons (pe_op op_mulW (pe_ix ix_tup (pv 0) pe_int (fun _ _ => rfl)) (pe_ix ix_tup (pv 1) pe_int (fun _ _ => rfl))) pa_nil))))), ?_⟩
    refine ⟨_, rfl, p, _, _, _, rfl, rfl, hp, rfl, _, rfl, q, _, _, _, rfl, rfl, hq, rfl, _, _, rfl, rfl, Sm.mulW h.a1 h.c1, ?_⟩
    refine ⟨_, rfl, p, _, _, _, rfl, rfl, hp, rfl, _, rfl, q, _, _, _, rfl, rfl, hq, rfl, _, _, rfl, rfl, Sm.mulW h.b1 h.d1, ?_⟩
    exact ⟨_, _, rfl, mul_ne h.hb h.hd, (fun z => Bool.noConfusion z), Sm.mul h.a1 h.c1, Sm.mul h.b1 h.d1, k⟩

/-! ### over -/
abbrev s_over : Stmt := topS 9
theorem sc_over : FnScope ["one", "other"] ["one", "other"] (defScope s_over) := ⟨rfl, rfl, rfl, by decide +kernel, rfl, by decide +kernel, by decide +kernel⟩
def sp_over (K : PySem.W.Frag) : Sp := fun vs H Q _ => ∃ a b c d : Int, Pr K H vs a b c d ∧ c ≠ 0 ∧ Two H Q (low (a * d) (b * c))
theorem ok_over {f : Addr} {fd : FuncData} (F : Fun K "over" "over" s_over f fd) (C_fraction : Cal P w K mg base CX0 4 "fraction" ["top", "bottom"] (spFrac true)) : FnG P w K mg base CX0 5 f fd ["one", "other"] (sp_over K) := by
  refine Gfun F sc_over (fun vs H Q E h => ?_) (fun cdv A outer s H vs Q E hg hr h => ?_)
  · obtain ⟨a, b, c, d, h, _⟩ := h
    obtain ⟨p, q, rfl, _⟩ := h.ex
    rfl
  · obtain ⟨a, b, c, d, h, hc, k⟩ := h
    obtain ⟨p, q, rfl, hp, hq⟩ := h.ex
    refine ⟨_, (pss_one (ps_ret (pe_g C_fraction (hr.mono (by decide)) hg (pa_cons (pe_op op_mulW (pe_ix ix_tup (pv 0) pe_int (fun _ _ => rfl)) (pe_ix ix_tup (pv 1) pe_int (fun _ _ => rfl))) (pa_cons (pe_op op_mulW (pe_ix ix_tup (pv 0) pe_int (fun _ _ => rfl)) (pe_ix ix_tup (pv 1) pe_int (fun _ _ => rfl))) pa_nil))))), ?_⟩
    refine ⟨_, rfl, p, _, _, _, rfl, rfl, hp, rfl, _, rfl, q, _, _, _, rfl, rfl, hq, rfl, _, _, rfl, rfl, Sm.mulW h.a1 h.d1, ?_⟩
    refine ⟨_, rfl, p, _, _, _, rfl, rfl, hp, rfl, _, rfl, q, _, _, _, rfl, rfl, hq, rfl, _, _, rfl, rfl, Sm.mulW h.b1 h.c1, ?_⟩
    exact ⟨_, _, rfl, mul_ne h.hb hc, (fun z => Bool.noConfusion z), Sm.mul h.a1 h.d1, Sm.mul h.b1 h.c1, k⟩

/-! ### over 0 -/
def sp_over0 (K : PySem.W.Frag) (C : Addr) : Sp := fun vs H Q E => ∃ a b d : Int, Pr K H vs a b 0 d ∧ E (.ref C) none H
theorem ok_over0 {f : Addr} {fd : FuncData} {C : Addr} (F : Fun K "over" "over" s_over f fd) (C_fraction : Cal P w K mg base (L2.CX P w) 3 "fraction" ["top", "bottom"] (spFrac0 C)) : FnG P w K mg base (L2.CX P w) 5 f fd ["one", "other"] (sp_over0 K C) := by
  refine GfunX F sc_over (fun vs H Q E h => ?_) (fun cdv A outer s H vs Q E hg hr h => ?_)
  · obtain ⟨a, b, d, h, _⟩ := h
    obtain ⟨p, q, rfl, _⟩ := h.ex
    rfl
  · obtain ⟨a, b, d, h, k⟩ := h
    obtain ⟨p, q, rfl, hp, hq⟩ := h.ex
    refine ⟨_, (pss_one (ps_ret (pe_gS C_fraction (hr.mono (by decide)) hg (fun σ => passAt (takes_of rfl rfl rfl rfl) σ) (pa_cons (pe_op op_mulW (pe_ix ix_tup (pv 0) pe_int (fun _ _ => rfl)) (pe_ix ix_tup (pv 1) pe_int (fun _ _ => rfl))) (pa_cons (pe_op op_mulW (pe_ix ix_tup (pv 0) pe_int (fun _ _ => rfl)) (pe_ix ix_tup (pv 1) pe_int (fun _ _ => rfl))) pa_nil))))), ?_⟩
    refine ⟨_, rfl, p, _, _, _, rfl, rfl, hp, rfl, _, rfl, q, _, _, _, rfl, rfl, hq, rfl, _, _, rfl, rfl, Sm.mulW h.a1 h.d1, ?_⟩
    refine ⟨_, rfl, p, _, _, _, rfl, rfl, hp, rfl, _, rfl, q, _, _, _, rfl, rfl, hq, rfl, _, _, rfl, rfl, Sm.mulW h.b1 h.c1, ?_⟩
    exact ⟨a * d, by show [V.int (a * d), V.int (b * 0)] = _; rw [Int.mul_zero], k⟩

/-! ### is_less -/
abbrev s_is_less : Stmt := topS 10
theorem sc_is_less : FnScope ["one", "other"] ["one", "other"] (defScope s_is_less) := ⟨rfl, rfl, rfl, by decide +kernel, rfl, by decide +kernel, by decide +kernel⟩
def sp_is_less (K : PySem.W.Frag) : Sp := fun vs H Q _ => ∃ a b c d : Int, Pr K H vs a b c d ∧ Q (.bl (decide (a * d < c * b))) H
theorem ok_is_less {f : Addr} {fd : FuncData} (F : Fun K "is_less" "is_less" s_is_less f fd) : FnG P w K mg base CX0 1 f fd ["one", "other"] (sp_is_less K) := by
  refine Gfun F sc_is_less (fun vs H Q E h => ?_) (fun cdv A outer s H vs Q E hg hr h => ?_)
  · obtain ⟨a, b, c, d, h, _⟩ := h
    obtain ⟨p, q, rfl, _⟩ := h.ex
    rfl
  · obtain ⟨a, b, c, d, h, k⟩ := h
    obtain ⟨p, q, rfl, hp, hq⟩ := h.ex
    refine ⟨_, (pss_one (ps_ret (pe_cmpR op_lt (pe_op op_mulW (pe_ix ix_tup (pv 0) pe_int (fun _ _ => rfl)) (pe_ix ix_tup (pv 1) pe_int (fun _ _ => rfl))) (pe_op op_mulW (pe_ix ix_tup (pv 1) pe_int (fun _ _ => rfl)) (pe_ix ix_tup (pv 0) pe_int (fun _ _ => rfl))) (nomark _)))), ?_⟩
    refine ⟨_, rfl, p, _, _, _, rfl, rfl, hp, rfl, _, rfl, q, _, _, _, rfl, rfl, hq, rfl, _, _, rfl, rfl, Sm.mulW h.a1 h.d1, ?_⟩
    refine ⟨_, rfl, q, _, _, _, rfl, rfl, hq, rfl, _, rfl, p, _, _, _, rfl, rfl, hp, rfl, _, _, rfl, rfl, Sm.mulW h.c1 h.b1, ?_⟩
    exact ⟨_, _, rfl, rfl, k⟩

/-! ### fraction_text -/
abbrev s_fraction_text : Stmt := topS 11
theorem sc_fraction_text : FnScope ["one", "top", "bottom"] ["one"] (defScope s_fraction_text) := ⟨rfl, rfl, rfl, by decide +kernel, rfl, by decide +kernel, by decide +kernel⟩
/-- a fraction's text -/
def ftext (a b : Int) : Str := if b = 1 then toString a else toString a ++ "/" ++ toString b
def sp_fraction_text (K : PySem.W.Frag) : Sp := fun vs H Q _ => ∃ (p : Addr) (a b : Int), vs = [.ref p] ∧ SqT K H p [.int a, .int b] ∧ Sm a ∧ Sm b ∧ Q (.str (ftext a b)) H
theorem ok_fraction_text {f : Addr} {fd : FuncData} (F : Fun K "fraction_text" "fraction_text" s_fraction_text f fd) : FnG P w K mg base CX0 1 f fd ["one"] (sp_fraction_text K) := by
  refine Gfun F sc_fraction_text (fun vs H Q E h => ?_) (fun cdv A outer s H vs Q E hg hr h => ?_)
  · obtain ⟨p, a, b, rfl, _⟩ := h
    rfl
  · obtain ⟨p, a, b, rfl, hp, ha, hb, k⟩ := h
    refine ⟨_, (pss_cons (ps_asg (pv 0) (pg_tup rfl (pgs_cons (pg_name (i := 1) sc_fraction_text.nd rfl (.inl rfl)) (pgs_cons (pg_name (i := 2) sc_fraction_text.nd rfl (.inl rfl)) pgs_nil))))
      (pss_cons (ps_if (pt_cmpR op_eq (pv 2) pe_int (nomark _))
      (pss_one (ps_ret (pe_joined1 (pe_fmt (pv 1)))))
      pss_nil)
      (pss_one (ps_ret (pe_joined (PJ.cons (pe_fmt (pv 1)) (PJ.cons pe_str (PJ.cons (pe_fmt (pv 2)) PJ.nil)))))))), ?_⟩
    refine ⟨_, rfl, p, _, rfl, hp, rfl, _, _, rfl, _, _, rfl, rfl, ?_⟩
    refine ⟨_, rfl, rfl, _, rfl, ite2 (fun e => ?_) (fun e => ?_)⟩
    · have eb : b = 1 := V.int.inj (of_decide_eq_true e)
      refine ⟨_, rfl, .inr ⟨a, rfl, Nat.lt_of_lt_of_le ha.log (by decide), ?_⟩⟩
      have ef : ftext a b = (toString a : String) := if_pos eb
      rw [ef] at k
      exact k
    · have eb : b ≠ 1 := fun z => e (by rw [z]; rfl)
      have la := ha.text
      have lb := hb.text
      have ls : (Str.ofString "/").length = 1 := by rw [PySem.ofString_length]; rfl
      have z := sizeLine_eq
      refine ⟨_, rfl, .inr ⟨a, rfl, Nat.lt_of_lt_of_le ha.log (by decide), _, rfl, ?_, ?_⟩⟩
      · rw [Str.empty_append]
        omega
      refine ⟨_, rfl, ?_, ?_⟩
      · rw [Str.empty_append, strLen_append]
        omega
      refine ⟨_, rfl, .inr ⟨b, rfl, Nat.lt_of_lt_of_le hb.log (by decide), _, rfl, ?_, ?_⟩⟩
      · rw [Str.empty_append, strLen_append, strLen_append]
        omega
      have ef : ftext a b = Str.empty ++ Str.ofString (toString a) ++ "/" ++ Str.ofString (toString b) := by
        unfold ftext
        rw [if_neg eb, Str.empty_append]
      rw [ef] at k
      exact k

end
end Lf

set_option Elab.async false
set_option linter.all false
set_option maxRecDepth 100000
set_option maxHeartbeats 4000000
set_option exponentiation.threshold 3000
namespace Lf
open PySem PySem.Spec PyProof.Rows L2
theorem sm_l {K : PySem.W.Frag} {H H' : Hp} {a : Addr} {xs : List V} (s : Same H H') (h : SqL K H a xs) : SqL K H' a xs := s.seq h
theorem small30 {n : Int} (h : 0 ≤ n) (h2 : n < 2147483648) : Sm n := Nat.lt_of_lt_of_le (show n.natAbs < 2 ^ 31 by omega) (Nat.pow_le_pow_right (by decide) (by decide))
section
variable {P : Program} {w : World} {K : PySem.W.Frag} {mg : Str → Option Value} {base : Heap}

/-! ### _law_cell -/
abbrev s__law_cell : Stmt := topS 13
theorem sc__law_cell : FnScope ["_law_script", "_law_k"] ["_law_script", "_law_k"] (defScope s__law_cell) := ⟨rfl, rfl, rfl, by decide +kernel, rfl, by decide +kernel, by decide +kernel⟩
def sp_cell (K : PySem.W.Frag) : Sp := fun vs H Q _ => ∃ (a : Addr) (ns : List Int) (k : Nat), vs = [.ref a, .int k] ∧ SqL K H a (ns.map V.int) ∧ k < 2 ^ 62 ∧ ∀ n : Int, Q (.int n) H
theorem ok_cell {f : Addr} {fd : FuncData} (M : Blt mg) (F : Fun K "_law_cell" "_law_cell" s__law_cell f fd) : FnG P w K mg base CX0 1 f fd ["_law_script", "_law_k"] (sp_cell K) := by
  refine Gfun F sc__law_cell (fun vs H Q E h => ?_) (fun cdv A outer s H vs Q E hg hr h => ?_)
  · obtain ⟨a, ns, k, rfl, _⟩ := h
    rfl
  · obtain ⟨a, ns, k, rfl, hS, hk, q⟩ := h
    refine ⟨_, (pss_one (ps_ret (pe_ifExp (pt_cmpR op_lt (pv 1) (pe_callB call_len_seq rfl M.len bt_len (pa_cons (pv 0) pa_nil)) (nomark _)) (pe_ix ix_list (pv 0) (pv 1) (fun _ _ => rfl)) pe_int))), ?_⟩
    refine ⟨_, rfl, _, rfl, a, _, rfl, .inl hS, _, _, rfl, rfl, _, rfl, ite2 (fun e => ?_) (fun e => ?_)⟩
    · have e' : (k : Int) < (((ns.map V.int).length : Nat) : Int) := of_decide_eq_true e
      rw [List.length_map] at e'
      have hlt : k < ns.length := by omega
      refine ⟨_, rfl, _, rfl, a, _, _, .int ns[k], rfl, rfl, hS, atI_nat ?_, q _⟩
      rw [List.getElem?_map, List.getElem?_eq_getElem hlt]
      rfl
    · exact q 0

/-! ### _law_pot -/
abbrev s__law_pot : Stmt := topS 14
theorem sc__law_pot : FnScope ["_law_cell_here"] ["_law_cell_here"] (defScope s__law_pot) := ⟨rfl, rfl, rfl, by decide +kernel, rfl, by decide +kernel, by decide +kernel⟩
def sp_pot : Sp := fun vs H Q _ => ∃ n : Int, vs = [.int n] ∧ ∀ (x y : Int) (p : Addr), 0 ≤ y → y < 2147483648 → H p = none → Q (.ref p) (upd H p (.lst [.int x, .int y]))
theorem ok_pot {f : Addr} {fd : FuncData} (M : Blt mg) (F : Fun K "_law_pot" "_law_pot" s__law_pot f fd) : FnG P w K mg base CX0 1 f fd ["_law_cell_here"] sp_pot := by
  refine Gfun F sc__law_pot (fun vs H Q E h => ?_) (fun cdv A outer s H vs Q E hg hr h => ?_)
  · obtain ⟨n, rfl, _⟩ := h
    rfl
  · obtain ⟨n, rfl, q⟩ := h
    refine ⟨_, (pss_one (ps_ret (pe_lst (pa_cons (pe_callB (call_max2 rfl) rfl M.max bt_max (pa_cons pe_int (pa_cons (pe_op op_sub (pv 0) (pe_op op_pow pe_int pe_int)) pa_nil))) (pa_cons (pe_op op_mod (pe_op op_add (pe_op op_mulW (pe_op op_mod (pv 0) pe_int) pe_int) pe_int) pe_int) pa_nil))))), ?_⟩
    refine ⟨_, rfl, 10, 18, rfl, rfl, ⟨by decide, by decide, by decide⟩, _, _, rfl, rfl, _, _, rfl, ?_⟩
    have h1 := Int.emod_nonneg n (show (2147483629 : Int) ≠ 0 by decide)
    have h2 := Int.emod_lt_of_pos n (show (0 : Int) < 2147483629 by decide)
    refine ⟨_, rfl, _, _, rfl, rfl, (by show (0 : Int) < 2147483629; decide), _, _, rfl, rfl, Sm.mulW (small30 h1 (by omega)) (small30 (by decide) (by decide)), _, _, rfl, rfl, _, _, rfl, rfl, (by show (0 : Int) < 2147483647; decide), lst2 fun p hp => ?_⟩
    have h3 := Int.emod_nonneg (n % 2147483629 * 48271 + 7919) (show (2147483647 : Int) ≠ 0 by decide)
    have h4 := Int.emod_lt_of_pos (n % 2147483629 * 48271 + 7919) (show (0 : Int) < 2147483647 by decide)
    exact q _ _ p h3 (by omega) hp

/-! ### _law_draw -/
abbrev s__law_draw : Stmt := topS 15
theorem sc__law_draw : FnScope ["_law_pot_here", "_law_many", "_law_digit"] ["_law_pot_here", "_law_many"] (defScope s__law_draw) := ⟨rfl, rfl, rfl, by decide +kernel, rfl, by decide +kernel, by decide +kernel⟩
/-- all but the pot at q stands as before -/
def But (q : Addr) (H H' : Hp) : Prop := ∀ b o, b ≠ q → H b = some o → H' b = some o
theorem But.rfl {q : Addr} {H : Hp} : But q H H := fun _ _ _ e => e
theorem But.trans {q : Addr} {H H1 H2 : Hp} (h : But q H H1) (k : But q H1 H2) : But q H H2 := fun b o n e => k b o n (h b o n e)
theorem But.same {q : Addr} {H H1 H2 : Hp} (h : But q H H1) (k : Same H1 H2) : But q H H2 := fun b o n e => k b o (h b o n e)
/-- a pot of draws at q -/
def Pot (H : Hp) (q : Addr) : Prop := ∃ x y : Int, 0 ≤ y ∧ y < 2147483648 ∧ H q = some (.lst [.int x, .int y])
def Drawn (H : Hp) (q : Addr) (Q : VK) (m : Int) : Prop := ∀ (r : Int) (H' : Hp), 0 ≤ r → r < m → Pot H' q → But q H H' → Q (.int r) H'
def sp_draw : Sp := fun vs H Q _ => ∃ (q : Addr) (m : Int), vs = [.ref q, .int m] ∧ 0 < m ∧ m.natAbs < 2 ^ 900 ∧ Pot H q ∧ Drawn H q Q m
theorem ok_draw {f : Addr} {fd : FuncData} (M : Blt mg) (F : Fun K "_law_draw" "_law_draw" s__law_draw f fd) : FnG P w K mg base CX0 1 f fd ["_law_pot_here", "_law_many"] sp_draw := by
  refine Gfun F sc__law_draw (fun vs H Q E h => ?_) (fun cdv A outer s H vs Q E hg hr h => ?_)
  · obtain ⟨q, m, rfl, _⟩ := h
    rfl
  · obtain ⟨q, m, rfl, hm, hm2, ⟨x, y, hy0, hy1, hP⟩, k⟩ := h
    refine ⟨_, (pss_cons (ps_if (pt_cmpR op_gt (pe_ix ix_list (pv 0) pe_int (fun _ _ => rfl)) pe_int (nomark _))
      (pss_cons (ps_asg (pe_callB call_divmodW rfl M.divmod bt_divmod (pa_cons (pe_ix ix_list (pv 0) pe_int (fun _ _ => rfl)) (pa_cons (pv 1) pa_nil))) (pg_tup rfl (pgs_cons (pg_sub (pv 0) pe_int set_list) (pgs_cons (pg_name (i := 2) sc__law_draw.nd rfl (.inl rfl)) pgs_nil))))
      (pss_one (ps_ret (pv 2))))
      pss_nil)
      (pss_cons (ps_asg (pe_op op_mod (pe_op op_add (pe_op op_mulW (pe_ix ix_list (pv 0) pe_int (fun _ _ => rfl)) pe_int) pe_int) pe_int) (pg_sub (pv 0) pe_int set_list))
      (pss_one (ps_ret (pe_op op_mod (pe_op op_fdivN (pe_op op_mod (pe_op op_mulW (pe_ix ix_list (pv 0) pe_int (fun _ _ => rfl)) (pe_ix ix_list (pv 0) pe_int (fun _ _ => rfl))) pe_int) pe_int) (pv 1)))))), ?_⟩
    refine ⟨_, rfl, q, _, _, _, rfl, rfl, .inl (.inl hP), rfl, _, _, rfl, rfl, _, rfl, ite2 (fun e => ?_) (fun e => ?_)⟩
    · refine ⟨_, rfl, q, _, _, _, rfl, rfl, .inl (.inl hP), rfl, _, rfl, x, m, rfl, ⟨hm, PyProof.noPylong_of_log2 (Nat.lt_of_lt_of_le (PySem.Flt.log2_lt_of (by decide) hm2) (by decide))⟩, fun p hp => ?_⟩
      have nq : q ≠ p := ne_of_none hP hp
      have hP2 : upd H p (.tup [.int (x / m), .int (x % m)]) q = some (.lst [.int x, .int y]) := by
        rw [upd_ne nq]
        exact hP
      refine ⟨p, _, rfl, .inl (.inl upd_same), rfl, _, _, rfl, ?_⟩
      refine ⟨_, rfl, q, _, _, _, rfl, rfl, hP2, rfl, ?_⟩
      refine ⟨_, _, rfl, rfl, ?_⟩
      refine ⟨_, rfl, k (x % m) _ (Int.emod_nonneg _ (by omega)) (Int.emod_lt_of_pos _ hm) ⟨x / m, y, hy0, hy1, upd_same⟩ fun b o nb eb => ?_⟩
      rw [upd_ne nb, upd_ne (ne_of_none eb hp)]
      exact eb
    · refine ⟨_, rfl, q, _, _, _, rfl, rfl, .inl (.inl hP), rfl, _, _, rfl, rfl, Sm.mulW (small30 hy0 hy1) (small30 (by decide) (by decide)), _, _, rfl, rfl, _, _, rfl, rfl, (by show (0 : Int) < 2147483587; decide), ?_⟩
      refine ⟨_, rfl, q, _, _, _, rfl, rfl, hP, rfl, ?_⟩
      have h3 := Int.emod_nonneg (y * 39373 + 8191) (show (2147483587 : Int) ≠ 0 by decide)
      have h4 := Int.emod_lt_of_pos (y * 39373 + 8191) (show (0 : Int) < 2147483587 by decide)
      have sz : Sm ((y * 39373 + 8191) % 2147483587) := small30 h3 (by omega)
      refine ⟨_, rfl, q, _, _, _, rfl, rfl, .inl (.inl upd_same), rfl, _, rfl, q, _, _, _, rfl, rfl, .inl (.inl upd_same), rfl, _, _, rfl, rfl, Sm.mulW sz sz, _, _, rfl, rfl, (by show (0 : Int) < 2147483543; decide), ?_⟩
      refine ⟨_, _, rfl, rfl, ⟨by decide, by decide⟩, _, rfl, _, _, rfl, rfl, hm, ?_⟩
      refine k _ _ (Int.emod_nonneg _ (by omega)) (Int.emod_lt_of_pos _ hm) ⟨x, _, h3, by omega, upd_same⟩ fun b o nb eb => ?_
      rw [upd_ne nb]
      exact eb

/-! ### _law_low -/
abbrev s__law_low : Stmt := topS 16
theorem sc__law_low : FnScope ["_law_top", "_law_bottom", "_law_one", "_law_other"] ["_law_top", "_law_bottom"] (defScope s__law_low) := ⟨rfl, rfl, rfl, by decide +kernel, rfl, by decide +kernel, by decide +kernel⟩
def sp_low : Sp := fun vs H Q _ => ∃ (n d : Int), vs = [.int n, .int d] ∧ d ≠ 0 ∧ Mid d ∧ Two H Q (low n d)
theorem ok_low {f : Addr} {fd : FuncData} (M : Blt mg) (F : Fun K "_law_low" "_law_low" s__law_low f fd) : FnG P w K mg base CX0 1 f fd ["_law_top", "_law_bottom"] sp_low := by
  refine Gfun F sc__law_low (fun vs H Q E h => ?_) (fun cdv A outer s H vs Q E hg hr h => ?_)
  · obtain ⟨n, d, rfl, _⟩ := h
    rfl
  · obtain ⟨n, d, rfl, hd, hd2, q⟩ := h
    refine ⟨_, (pss_cons (ps_par (i := 2) (j := 3) rfl sc__law_low.nd rfl rfl (by decide) rfl rfl (pa_cons (pe_callB call_abs rfl M.abs bt_abs (pa_cons (pv 0) pa_nil)) (pa_cons (pe_callB call_abs rfl M.abs bt_abs (pa_cons (pv 1) pa_nil)) pa_nil)) (by rfl))
      (pss_cons (ps_while PassesOwn.never (pt_cmpR op_gt (pv 3) pe_int (nomark _))
      (pss_one (ps_par (i := 2) (j := 3) rfl sc__law_low.nd rfl rfl (by decide) rfl rfl (pa_cons (pv 3) (pa_cons (pe_op op_mod (pv 2) (pv 3)) pa_nil)) (by rfl))))
      (pss_cons (ps_if (pt_cmpR op_lt (pv 1) pe_int (nomark _))
      (pss_one (ps_set (i := 2) sc__law_low.nd rfl (.inl rfl) (pe_un un_neg (pv 2))))
      pss_nil)
      (pss_one (ps_ret (pe_tup (pa_cons (pe_op op_fdivN (pv 0) (pv 2)) (pa_cons (pe_op op_fdivN (pv 1) (pv 2)) pa_nil)))))))), ?_⟩
    refine ⟨_, rfl, _, rfl, _, rfl, _, rfl, _, _, rfl, ?_⟩
    refine while_by (fun σ H' => ∃ x y : Int, σ = [some (.int n), some (.int d), some (.int x), some (.int y)] ∧ 0 ≤ x ∧ 0 ≤ y ∧ Nat.gcd x.natAbs y.natAbs = Nat.gcd n.natAbs d.natAbs ∧ H' = H)
      (fun σ _ => match σ with | [_, _, _, some (.int y)] => y.toNat | _ => 0) ⟨_, _, rfl, ?_, ?_, ?_, rfl⟩ ?_ ?_
    · rw [abs_is]
      omega
    · rw [abs_is]
      omega
    · rw [abs_is, abs_is, Int.natAbs_natCast, Int.natAbs_natCast]
    · rintro σ H1 ⟨x, y, rfl, hx, hy, hgc, rfl⟩
      refine ⟨_, rfl, _, _, rfl, rfl, _, rfl, ite2 (fun e => ?_) (fun e => ?_)⟩
      · have hyp : 0 < y := of_decide_eq_true e
        refine ⟨_, rfl, _, rfl, _, rfl, x, y, rfl, rfl, hyp, _, _, rfl, ⟨y, x % y, rfl, hy, Int.emod_nonneg _ (by omega), (gcd_step x y hyp hx).trans hgc, rfl⟩, ?_⟩
        show (x % y).toNat < y.toNat
        have := Int.emod_lt_of_pos x hyp
        omega
      · have hy0 : y = 0 := by
          have : ¬ 0 < y := fun z => e (decide_eq_true z)
          omega
        subst hy0
        rw [Int.natAbs_zero, Nat.gcd_zero_right] at hgc
        have ex : x = ((Nat.gcd n.natAbs d.natAbs : Nat) : Int) := by omega
        subst ex
        have hgz : ((Nat.gcd n.natAbs d.natAbs : Nat) : Int) ≠ 0 := by
          have := gcd_pos (n := n) hd
          omega
        have hlg := (gcd_mid (n := n) hd hd2).log
        refine ⟨_, rfl, _, _, rfl, rfl, _, rfl, ite2 (fun e => ?_) (fun e => ?_)⟩
        · have e' : d < 0 := of_decide_eq_true e
          have hm : ∀ i, CDivN i (-((Nat.gcd n.natAbs d.natAbs : Nat) : Int)) := fun i => ⟨by omega, by rw [Int.natAbs_neg]; exact hlg⟩
          refine ⟨_, rfl, _, rfl, _, rfl, _, rfl, n, _, rfl, rfl, hm n, _, rfl, _, rfl, d, _, rfl, rfl, hm d, (by show 2 ≤ sizeLine; decide), fun p hp => ?_⟩
          refine q _ p (same_new hp) ?_
          rw [← low_fdiv_neg (n := n) e']
          exact upd_same
        · have e' : 0 < d := by
            have : ¬ d < 0 := fun z => e (decide_eq_true z)
            omega
          have hm : ∀ i, CDivN i ((Nat.gcd n.natAbs d.natAbs : Nat) : Int) := fun i => ⟨hgz, hlg⟩
          refine ⟨_, rfl, _, rfl, n, _, rfl, rfl, hm n, _, rfl, _, rfl, d, _, rfl, rfl, hm d, (by show 2 ≤ sizeLine; decide), fun p hp => ?_⟩
          refine q _ p (same_new hp) ?_
          rw [← low_fdiv_pos (n := n) e']
          exact upd_same
    · rintro σ H1 Q1 Q2 hq ⟨u, hu, i, j, h1, h2, k, h3, h4⟩
      exact ⟨u, hu, i, j, h1, h2, k, h3, hq _ _ h4⟩

/-! ### _law_text -/
abbrev s__law_text : Stmt := topS 20
theorem sc__law_text : FnScope ["_law_one"] ["_law_one"] (defScope s__law_text) := ⟨rfl, rfl, rfl, by decide +kernel, rfl, by decide +kernel, by decide +kernel⟩
def sp_text (K : PySem.W.Frag) : Sp := fun vs H Q _ => ∃ (p : Addr) (a b : Int), vs = [.ref p] ∧ SqT K H p [.int a, .int b] ∧ Sm a ∧ Sm b ∧ ∀ H', Same H H' → Q (.str (ftext a b)) H'
theorem ok_text {f : Addr} {fd : FuncData} (M : Blt mg) (F : Fun K "_law_text" "_law_text" s__law_text f fd) : FnG P w K mg base CX0 1 f fd ["_law_one"] (sp_text K) := by
  refine Gfun F sc__law_text (fun vs H Q E h => ?_) (fun cdv A outer s H vs Q E hg hr h => ?_)
  · obtain ⟨p, a, b, rfl, _⟩ := h
    rfl
  · obtain ⟨p, a, b, rfl, hp, ha, hb, k⟩ := h
    refine ⟨_, (pss_one (ps_ret (pe_op op_add_str (pe_callTy call_str_int rfl M.str bt_str (pa_cons (pe_ix ix_tup (pv 0) pe_int (fun _ _ => rfl)) pa_nil)) (pe_ix ix_list (pe_lst (pa_cons (pe_op op_add_str pe_str (pe_callTy call_str_int rfl M.str bt_str (pa_cons (pe_ix ix_tup (pv 0) pe_int (fun _ _ => rfl)) pa_nil))) (pa_cons pe_str pa_nil))) (pe_callTy call_int1 rfl M.int bt_int (pa_cons (pe_cmpR op_eq (pe_ix ix_tup (pv 0) pe_int (fun _ _ => rfl)) pe_int (nomark _)) pa_nil)) (fun _ _ => rfl))))), ?_⟩
    have la := ha.text
    have lb := hb.text
    have ls : (Str.ofString "/").length = 1 := by rw [PySem.ofString_length]; rfl
    have z := sizeLine_eq
    have ga := Nat.lt_of_lt_of_le ha.log (show 900 ≤ 1920 by decide)
    have gb := Nat.lt_of_lt_of_le hb.log (show 900 ≤ 1920 by decide)
    refine ⟨_, rfl, p, _, _, _, rfl, rfl, hp, rfl, a, rfl, ga, ?_⟩
    refine ⟨_, rfl, p, _, _, _, rfl, rfl, hp, rfl, b, rfl, gb, _, _, rfl, rfl, by omega, (by show 2 ≤ sizeLine; decide), fun l hl => ?_⟩
    have sm : Same H (upd H l (.lst [.str (Str.ofString "/" ++ Str.ofString (toString b)), .str (Str.ofString "")])) := same_new hl
    refine ⟨_, rfl, p, _, _, _, rfl, rfl, sm_t sm hp, rfl, rfl, .inr ⟨_, rfl, ?_⟩⟩
    by_cases e : b = 1
    · subst e
      refine ⟨l, _, 1, _, rfl, rfl, .inl (.inl upd_same), rfl, _, _, rfl, rfl, ?_, ?_⟩
      · show (Str.ofString (toString a)).length + 0 ≤ sizeLine
        omega
      · have ef : Str.ofString (toString a) ++ Str.ofString "" = ftext a 1 := by
          unfold ftext
          rw [if_pos rfl]
          exact Str.append_empty _
        rw [ef]
        exact k _ sm
    · have e2 : decide (V.int b = V.int 1) = false := decide_eq_false fun z => e (V.int.inj z)
      rw [e2]
      refine ⟨l, _, 0, _, rfl, rfl, .inl (.inl upd_same), rfl, _, _, rfl, rfl, ?_, ?_⟩
      · rw [strLen_append]
        omega
      · have ef : Str.ofString (toString a) ++ (Str.ofString "/" ++ Str.ofString (toString b)) = ftext a b := by
          unfold ftext
          rw [if_neg e, Str.append_assoc]
        rw [ef]
        exact k _ sm

end
end Lf

set_option linter.all false
/-! Sums and products of fractions in any order, by rational numbers. -/
namespace Lf
def rv (f : Int × Int) : Rat := Rat.divInt f.1 f.2
def IsF (f : Int × Int) : Prop := IsLow f.1 f.2
theorem IsF.ne {f : Int × Int} (h : IsF f) : f.2 ≠ 0 := by
  have : 0 < f.2 := h.1
  omega
theorem rv_inj {f g : Int × Int} (hf : IsF f) (hg : IsF g) (e : rv f = rv g) : f = g := by
  have q := (Rat.divInt_eq_divInt_iff hf.ne hg.ne).mp e
  obtain ⟨e1, e2⟩ := low_uniq hf hg q
  exact Prod.ext e1 e2
theorem low_f {n d : Int} (h : d ≠ 0) : IsF (low n d) := low_is h
theorem rv_low {n d : Int} (h : d ≠ 0) : rv (low n d) = Rat.divInt n d :=
  (Rat.divInt_eq_divInt_iff (low_f (n := n) h).ne h).mpr (low_cross h)
def fadd (f g : Int × Int) : Int × Int := low (f.1 * g.2 + g.1 * f.2) (f.2 * g.2)
def fsub (f g : Int × Int) : Int × Int := low (f.1 * g.2 - g.1 * f.2) (f.2 * g.2)
def fmul (f g : Int × Int) : Int × Int := low (f.1 * g.1) (f.2 * g.2)
def fdiv (f g : Int × Int) : Int × Int := low (f.1 * g.2) (f.2 * g.1)
section
variable {f g : Int × Int}
theorem fadd_f (hf : IsF f) (hg : IsF g) : IsF (fadd f g) := low_f (Int.mul_ne_zero hf.ne hg.ne)
theorem fsub_f (hf : IsF f) (hg : IsF g) : IsF (fsub f g) := low_f (Int.mul_ne_zero hf.ne hg.ne)
theorem fmul_f (hf : IsF f) (hg : IsF g) : IsF (fmul f g) := low_f (Int.mul_ne_zero hf.ne hg.ne)
theorem fdiv_f (hf : IsF f) (h0 : g.1 ≠ 0) : IsF (fdiv f g) := low_f (Int.mul_ne_zero hf.ne h0)
theorem rv_add (hf : IsF f) (hg : IsF g) : rv (fadd f g) = rv f + rv g := by
  unfold fadd
  rw [rv_low (Int.mul_ne_zero hf.ne hg.ne)]
  exact (Rat.divInt_add_divInt _ _ hf.ne hg.ne).symm
theorem rv_sub (hf : IsF f) (hg : IsF g) : rv (fsub f g) = rv f - rv g := by
  unfold fsub
  rw [rv_low (Int.mul_ne_zero hf.ne hg.ne)]
  exact (Rat.divInt_sub_divInt _ _ hf.ne hg.ne).symm
theorem rv_mul (hf : IsF f) (hg : IsF g) : rv (fmul f g) = rv f * rv g := by
  unfold fmul
  rw [rv_low (Int.mul_ne_zero hf.ne hg.ne)]
  exact (Rat.divInt_mul_divInt _ _).symm
theorem rv_div (hf : IsF f) (h0 : g.1 ≠ 0) : rv (fdiv f g) = rv f * (rv g)⁻¹ := by
  unfold fdiv
  rw [rv_low (Int.mul_ne_zero hf.ne h0)]
  unfold rv
  rw [Rat.inv_divInt, Rat.divInt_mul_divInt]
end
def f0 : Int × Int := (0, 1)
def f1 : Int × Int := (1, 1)
theorem f0_f : IsF f0 := ⟨by decide, by decide⟩
theorem f1_f : IsF f1 := ⟨by decide, by decide⟩
theorem rv0 : rv f0 = 0 := Rat.zero_divInt 1
theorem rv1 : rv f1 = 1 := Rat.divInt_self' (by decide)
theorem rv_zero {f : Int × Int} (h : IsF f) : rv f = 0 ↔ f.1 = 0 := by
  constructor
  · intro e
    have := rv_inj h f0_f (e.trans rv0.symm)
    rw [this]
    rfl
  · intro e
    unfold rv
    rw [e, Rat.zero_divInt]
theorem is0 {f : Int × Int} (h : IsF f) : f.1 = 0 ↔ f = f0 := by
  constructor
  · intro e
    exact rv_inj h f0_f (((rv_zero h).mpr e).trans rv0.symm)
  · intro e
    rw [e]
    rfl
def rsum : List (Int × Int) → Rat
  | [] => 0
  | f :: r => rv f + rsum r
def rprod : List (Int × Int) → Rat
  | [] => 1
  | f :: r => rv f * rprod r
theorem rsum_perm {l m : List (Int × Int)} (p : l.Perm m) : rsum l = rsum m := by
  induction p with
  | nil => rfl
  | cons x _ ih => exact congrArg (rv x + ·) ih
  | swap x y l =>
    show rv y + (rv x + rsum l) = rv x + (rv y + rsum l)
    rw [← Rat.add_assoc, ← Rat.add_assoc, Rat.add_comm (rv y)]
  | trans _ _ h1 h2 => exact h1.trans h2
theorem rprod_perm {l m : List (Int × Int)} (p : l.Perm m) : rprod l = rprod m := by
  induction p with
  | nil => rfl
  | cons x _ ih => exact congrArg (rv x * ·) ih
  | swap x y l =>
    show rv y * (rv x * rprod l) = rv x * (rv y * rprod l)
    rw [← Rat.mul_assoc, ← Rat.mul_assoc, Rat.mul_comm (rv y)]
  | trans _ _ h1 h2 => exact h1.trans h2
def AllF (l : List (Int × Int)) : Prop := ∀ f ∈ l, IsF f
theorem AllF.tl {f : Int × Int} {l : List (Int × Int)} (h : AllF (f :: l)) : AllF l := fun g hg => h g (List.mem_cons_of_mem _ hg)
theorem AllF.hd {f : Int × Int} {l : List (Int × Int)} (h : AllF (f :: l)) : IsF f := h f List.mem_cons_self
theorem sum_fold : ∀ (l : List (Int × Int)) (a : Int × Int), IsF a → AllF l → IsF (l.foldl fadd a) ∧ rv (l.foldl fadd a) = rv a + rsum l
  | [], a, ha, _ => ⟨ha, (Rat.add_zero _).symm⟩
  | f :: l, a, ha, h => by
    obtain ⟨h1, h2⟩ := sum_fold l (fadd a f) (fadd_f ha h.hd) h.tl
    refine ⟨h1, ?_⟩
    show rv (l.foldl fadd (fadd a f)) = rv a + (rv f + rsum l)
    rw [h2, rv_add ha h.hd, Rat.add_assoc]
theorem mul_fold : ∀ (l : List (Int × Int)) (a : Int × Int), IsF a → AllF l → IsF (l.foldl fmul a) ∧ rv (l.foldl fmul a) = rv a * rprod l
  | [], a, ha, _ => ⟨ha, (Rat.mul_one _).symm⟩
  | f :: l, a, ha, h => by
    obtain ⟨h1, h2⟩ := mul_fold l (fmul a f) (fmul_f ha h.hd) h.tl
    refine ⟨h1, ?_⟩
    show rv (l.foldl fmul (fmul a f)) = rv a * (rv f * rprod l)
    rw [h2, rv_mul ha h.hd, Rat.mul_assoc]
theorem sub_fold : ∀ (l : List (Int × Int)) (a : Int × Int), IsF a → AllF l → IsF (l.foldl fsub a) ∧ rv (l.foldl fsub a) = rv a - rsum l
  | [], a, ha, _ => ⟨ha, by show rv a = rv a - 0; rw [Rat.sub_eq_add_neg, show -(0 : Rat) = 0 from rfl, Rat.add_zero]⟩
  | f :: l, a, ha, h => by
    obtain ⟨h1, h2⟩ := sub_fold l (fsub a f) (fsub_f ha h.hd) h.tl
    refine ⟨h1, ?_⟩
    show rv (l.foldl fsub (fsub a f)) = rv a - (rv f + rsum l)
    rw [h2, rv_sub ha h.hd, Rat.sub_eq_add_neg, Rat.sub_eq_add_neg, Rat.sub_eq_add_neg, Rat.neg_add, Rat.add_assoc]
/-- one division, where it is one -/
def ddiv (a f : Int × Int) : Int × Int := if f.1 ≠ 0 ∧ a.1 ≠ 0 then fdiv a f else a
theorem ddiv_f {a f : Int × Int} (ha : IsF a) (hf : IsF f) : IsF (ddiv a f) := by
  unfold ddiv
  split
  · exact fdiv_f ha (by rename_i h; exact h.1)
  · exact ha
theorem div_fold0 : ∀ (l : List (Int × Int)) (a : Int × Int), a.1 = 0 → l.foldl ddiv a = a
  | [], _, _ => rfl
  | f :: l, a, h => by
    show l.foldl ddiv (ddiv a f) = a
    have e : ddiv a f = a := if_neg fun z => z.2 h
    rw [e]
    exact div_fold0 l a h
theorem div_fold : ∀ (l : List (Int × Int)) (a : Int × Int), IsF a → AllF l → (∀ f ∈ l, f.1 ≠ 0) → a.1 ≠ 0 → IsF (l.foldl ddiv a) ∧ rv (l.foldl ddiv a) * rprod l = rv a
  | [], a, ha, _, _, _ => ⟨ha, Rat.mul_one _⟩
  | f :: l, a, ha, h, h0, ha0 => by
    have hf0 : f.1 ≠ 0 := h0 f List.mem_cons_self
    have e : ddiv a f = fdiv a f := if_pos ⟨hf0, ha0⟩
    have hq := fdiv_f (g := f) ha hf0
    have rq := rv_div (g := f) ha hf0
    have rf0 : rv f ≠ 0 := fun z => hf0 ((rv_zero h.hd).mp z)
    have hb : rv (fdiv a f) * rv f = rv a := by rw [rq, Rat.mul_assoc, Rat.inv_mul_cancel _ rf0, Rat.mul_one]
    have hq0 : (fdiv a f).1 ≠ 0 := fun z => by
      have := (rv_zero hq).mpr z
      rw [this, Rat.zero_mul] at hb
      exact ha0 ((rv_zero ha).mp hb.symm)
    obtain ⟨h1, h2⟩ := div_fold l (fdiv a f) hq h.tl (fun g hg => h0 g (List.mem_cons_of_mem _ hg)) hq0
    show IsF (l.foldl ddiv (ddiv a f)) ∧ rv (l.foldl ddiv (ddiv a f)) * (rv f * rprod l) = rv a
    rw [e]
    refine ⟨h1, ?_⟩
    rw [Rat.mul_comm (rv f), ← Rat.mul_assoc, h2, hb]
theorem rprod0 : ∀ {l : List (Int × Int)}, AllF l → (rprod l = 0 ↔ ∃ f ∈ l, f.1 = 0)
  | [], _ => ⟨fun e => absurd e (by decide), fun ⟨_, h, _⟩ => nomatch h⟩
  | f :: l, h => by
    show rv f * rprod l = 0 ↔ _
    rw [Rat.mul_eq_zero, rv_zero h.hd, rprod0 h.tl]
    constructor
    · rintro (e | ⟨g, hg, e⟩)
      · exact ⟨f, List.mem_cons_self, e⟩
      · exact ⟨g, List.mem_cons_of_mem _ hg, e⟩
    · rintro ⟨g, hg, e⟩
      rcases List.mem_cons.mp hg with z | z
      · exact Or.inl (z ▸ e)
      · exact Or.inr ⟨g, z, e⟩
/-- told in two orders the same -/
theorem sum_same {l m : List (Int × Int)} (p : l.Perm m) (h : AllF l) : l.foldl fadd f0 = m.foldl fadd f0 := by
  have hm : AllF m := fun f hf => h f (p.mem_iff.mpr hf)
  obtain ⟨a1, a2⟩ := sum_fold l f0 f0_f h
  obtain ⟨b1, b2⟩ := sum_fold m f0 f0_f hm
  exact rv_inj a1 b1 (by rw [a2, b2, rsum_perm p])
theorem mul_same {l m : List (Int × Int)} (p : l.Perm m) (h : AllF l) : l.foldl fmul f1 = m.foldl fmul f1 := by
  have hm : AllF m := fun f hf => h f (p.mem_iff.mpr hf)
  obtain ⟨a1, a2⟩ := mul_fold l f1 f1_f h
  obtain ⟨b1, b2⟩ := mul_fold m f1 f1_f hm
  exact rv_inj a1 b1 (by rw [a2, b2, rprod_perm p])
theorem sub_none {l m : List (Int × Int)} (p : l.Perm m) (h : AllF l) : m.foldl fsub (l.foldl fadd f0) = f0 := by
  have hm : AllF m := fun f hf => h f (p.mem_iff.mpr hf)
  obtain ⟨a1, a2⟩ := sum_fold l f0 f0_f h
  obtain ⟨b1, b2⟩ := sub_fold m _ a1 hm
  exact rv_inj b1 f0_f (by rw [b2, a2, rv0, Rat.zero_add, rsum_perm p, Rat.sub_self])
theorem div_none {l m : List (Int × Int)} (p : l.Perm m) (h : AllF l) : m.foldl ddiv (l.foldl fmul f1) = if f0 ∈ l then f0 else f1 := by
  have hm : AllF m := fun f hf => h f (p.mem_iff.mpr hf)
  obtain ⟨a1, a2⟩ := mul_fold l f1 f1_f h
  rw [rv1, Rat.one_mul] at a2
  by_cases hz : f0 ∈ l
  · rw [if_pos hz]
    have z : rprod l = 0 := (rprod0 h).mpr ⟨f0, hz, rfl⟩
    have z1 : (l.foldl fmul f1).1 = 0 := (rv_zero a1).mp (a2.trans z)
    rw [div_fold0 _ _ z1]
    exact (is0 a1).mp z1
  · rw [if_neg hz]
    have nz : ∀ f ∈ l, f.1 ≠ 0 := fun f hf e => hz ((is0 (h f hf)).mp e ▸ hf)
    have np : rprod l ≠ 0 := fun e => by
      obtain ⟨f, hf, e'⟩ := (rprod0 h).mp e
      exact nz f hf e'
    have n1 : (l.foldl fmul f1).1 ≠ 0 := fun e => np (a2.symm.trans ((rv_zero a1).mpr e))
    obtain ⟨b1, b2⟩ := div_fold m _ a1 hm (fun f hf => nz f (p.mem_iff.mpr hf)) n1
    refine rv_inj b1 f1_f ?_
    rw [a2, rprod_perm p] at b2
    have np' : rprod m ≠ 0 := by rw [← rprod_perm p]; exact np
    have : rv (m.foldl ddiv (l.foldl fmul f1)) * rprod m * (rprod m)⁻¹ = rprod m * (rprod m)⁻¹ := by rw [b2]
    rw [Rat.mul_assoc, Rat.mul_inv_cancel _ np', Rat.mul_one] at this
    rw [this, rv1]
/-- one fraction times a sum is the sum of its products -/
theorem spread_fold (x : Int × Int) (hx : IsF x) : ∀ (l : List (Int × Int)) (a : Int × Int), IsF a → AllF l → IsF (l.foldl (fun a f => fadd a (fmul x f)) a) ∧ rv (l.foldl (fun a f => fadd a (fmul x f)) a) = rv a + rv x * rsum l
  | [], a, ha, _ => ⟨ha, by show rv a = rv a + rv x * 0; rw [Rat.mul_zero, Rat.add_zero]⟩
  | f :: l, a, ha, h => by
    obtain ⟨h1, h2⟩ := spread_fold x hx l (fadd a (fmul x f)) (fadd_f ha (fmul_f hx h.hd)) h.tl
    refine ⟨h1, ?_⟩
    show rv (l.foldl (fun a f => fadd a (fmul x f)) (fadd a (fmul x f))) = rv a + rv x * (rv f + rsum l)
    rw [h2, rv_add ha (fmul_f hx h.hd), rv_mul hx h.hd, Rat.mul_add, Rat.add_assoc]
theorem spread_same {x : Int × Int} {l : List (Int × Int)} (hx : IsF x) (h : AllF l) : l.foldl (fun a f => fadd a (fmul x f)) f0 = fmul (fmul f1 x) (l.foldl fadd f0) := by
  obtain ⟨a1, a2⟩ := spread_fold x hx l f0 f0_f h
  obtain ⟨b1, b2⟩ := sum_fold l f0 f0_f h
  have c := fmul_f f1_f hx
  refine rv_inj a1 (fmul_f c b1) ?_
  rw [a2, rv_mul c b1, rv_mul f1_f hx, b2, rv0, rv1, Rat.one_mul, Rat.zero_add, Rat.zero_add]
/-! sizes -/
def Bt (k : Nat) (f : Int × Int) : Prop := f.1.natAbs < 2 ^ k ∧ f.2.natAbs < 2 ^ k
theorem Bt.mono {j k : Nat} {f : Int × Int} (h : Bt j f) (hk : j ≤ k) : Bt k f :=
  ⟨Nat.lt_of_lt_of_le h.1 (Nat.pow_le_pow_right (by decide) hk), Nat.lt_of_lt_of_le h.2 (Nat.pow_le_pow_right (by decide) hk)⟩
theorem mul_lt {a b : Int} {j k : Nat} (ha : a.natAbs < 2 ^ j) (hb : b.natAbs < 2 ^ k) : (a * b).natAbs < 2 ^ (j + k) := by
  rw [Int.natAbs_mul, Nat.pow_add]
  exact Nat.mul_lt_mul'' ha hb
theorem low_bt {n d : Int} {k : Nat} (h : d ≠ 0) (hn : n.natAbs < 2 ^ k) (hd : d.natAbs < 2 ^ k) : Bt k (low n d) :=
  ⟨Nat.lt_of_le_of_lt (low_top_le h) hn, Nat.lt_of_le_of_lt (low_bottom_le h) hd⟩
section
variable {f g : Int × Int} {j k : Nat}
theorem fadd_bt (hf : IsF f) (hg : IsF g) (a : Bt k f) (b : Bt j g) : Bt (k + j + 1) (fadd f g) := by
  have h1 := mul_lt a.1 b.2
  have h2 := mul_lt a.2 b.1
  have h3 := mul_lt a.2 b.2
  have h4 := Int.natAbs_add_le (f.1 * g.2) (g.1 * f.2)
  rw [Int.mul_comm g.1] at h4
  have h5 : (2 : Nat) ^ (k + j + 1) = 2 ^ (k + j) + 2 ^ (k + j) := Nat.two_pow_succ _
  refine low_bt (Int.mul_ne_zero hf.ne hg.ne) ?_ (by omega)
  rw [Int.mul_comm g.1]
  omega
theorem fsub_bt (hf : IsF f) (hg : IsF g) (a : Bt k f) (b : Bt j g) : Bt (k + j + 1) (fsub f g) := by
  have h1 := mul_lt a.1 b.2
  have h2 := mul_lt a.2 b.1
  have h3 := mul_lt a.2 b.2
  have h4 := Int.natAbs_sub_le (f.1 * g.2) (g.1 * f.2)
  rw [Int.mul_comm g.1] at h4
  have h5 : (2 : Nat) ^ (k + j + 1) = 2 ^ (k + j) + 2 ^ (k + j) := Nat.two_pow_succ _
  refine low_bt (Int.mul_ne_zero hf.ne hg.ne) ?_ (by omega)
  rw [Int.mul_comm g.1]
  omega
theorem fmul_bt (hf : IsF f) (hg : IsF g) (a : Bt k f) (b : Bt j g) : Bt (k + j) (fmul f g) :=
  low_bt (Int.mul_ne_zero hf.ne hg.ne) (mul_lt a.1 b.1) (mul_lt a.2 b.2)
theorem fdiv_bt (hf : IsF f) (h0 : g.1 ≠ 0) (a : Bt k f) (b : Bt j g) : Bt (k + j) (fdiv f g) :=
  low_bt (Int.mul_ne_zero hf.ne h0) (mul_lt a.1 b.2) (mul_lt a.2 b.1)
theorem ddiv_bt (hf : IsF f) (a : Bt k f) (b : Bt j g) : Bt (k + j) (ddiv f g) := by
  unfold ddiv
  split
  · rename_i h
    exact fdiv_bt hf h.1 a b
  · exact a.mono (Nat.le_add_right _ _)
end
end Lf

set_option Elab.async false
set_option linter.all false
set_option maxRecDepth 100000
set_option maxHeartbeats 4000000
set_option exponentiation.threshold 3000
namespace Lf
open PySem PySem.Spec PyProof.Rows L2
theorem u65 {k : Nat} {A : Around} (r : Room k A) : A.units + 65 < cLine := by
  have := r.un
  omega
theorem bt_list : bootBuiltins "list" = some (.type "list") := by decide +kernel
theorem len_show {n : Nat} (h : n ≤ 1000) : n ≤ sizeLine := by
  rw [sizeLine_eq]
  omega
/-- a fraction stands at v -/
def At (H : Hp) (v : V) (f : Int × Int) : Prop := ∃ p, v = .ref p ∧ H p = some (.tup [.int f.1, .int f.2])
theorem At.same {H H' : Hp} {v : V} {f : Int × Int} (s : Same H H') (h : At H v f) : At H' v f := by
  obtain ⟨p, e, q⟩ := h
  exact ⟨p, e, s _ _ q⟩
theorem At.but {q : Addr} {H H' : Hp} {v : V} {f : Int × Int} (s : But q H H') (hq : Pot H q) (h : At H v f) : At H' v f := by
  obtain ⟨p, e, r⟩ := h
  obtain ⟨x, y, _, _, hP⟩ := hq
  exact ⟨p, e, s _ _ (fun z => by rw [z, hP] at r; cases r) r⟩
/-- fractions stand at vs -/
def Ats (H : Hp) (vs : List V) (fs : List (Int × Int)) : Prop := Paired (At H) vs fs
theorem Ats.map {H H' : Hp} (s : ∀ v f, At H v f → At H' v f) : ∀ {vs : List V} {fs : List (Int × Int)}, Ats H vs fs → Ats H' vs fs
  | _, _, .nil => .nil
  | _, _, .cons a r => .cons (s _ _ a) (Ats.map s r)
theorem Ats.get {H : Hp} : ∀ {vs : List V} {fs : List (Int × Int)} {i : Nat} {v : V}, Ats H vs fs → vs[i]? = some v → ∃ f, fs[i]? = some f ∧ At H v f
  | _, _, _, _, .nil, e => by simp at e
  | _, _, 0, _, .cons a _, e => by
    simp at e
    subst e
    exact ⟨_, rfl, a⟩
  | _, _, i + 1, v, .cons _ r, e => by
    obtain ⟨f, h1, h2⟩ := Ats.get (i := i) (v := v) r (by simpa using e)
    exact ⟨f, by simpa using h1, h2⟩
theorem Ats.length {H : Hp} {vs : List V} {fs : List (Int × Int)} (h : Ats H vs fs) : vs.length = fs.length := Paired.length h
theorem fold_take {α β : Type} (g : β → α → β) (a : β) {l : List α} {i : Nat} {x : α} (h : l[i]? = some x) : (l.take (i + 1)).foldl g a = g ((l.take i).foldl g a) x := by
  rw [List.take_add_one, h, List.foldl_append]
  rfl
theorem take_all {l : List (Int × Int)} (h : AllF l) (i : Nat) : AllF (l.take i) := fun f hf => h f (List.mem_of_mem_take hf)
def AllB (b : Nat) (l : List (Int × Int)) : Prop := ∀ f ∈ l, Bt b f
theorem add_bt {b : Nat} : ∀ (l : List (Int × Int)) (k : Nat) (a : Int × Int), IsF a → AllF l → Bt k a → AllB b l → Bt (k + (b + 1) * l.length) (l.foldl fadd a)
  | [], _, _, _, _, h, _ => h
  | f :: l, k, a, ha, h, hk, hb => by
    have := add_bt l (k + b + 1) (fadd a f) (fadd_f ha h.hd) h.tl (fadd_bt ha h.hd hk (hb f List.mem_cons_self)) (fun g hg => hb g (List.mem_cons_of_mem _ hg))
    refine this.mono ?_
    rw [List.length_cons, Nat.mul_succ]
    omega
theorem sub_bt {b : Nat} : ∀ (l : List (Int × Int)) (k : Nat) (a : Int × Int), IsF a → AllF l → Bt k a → AllB b l → Bt (k + (b + 1) * l.length) (l.foldl fsub a)
  | [], _, _, _, _, h, _ => h
  | f :: l, k, a, ha, h, hk, hb => by
    have := sub_bt l (k + b + 1) (fsub a f) (fsub_f ha h.hd) h.tl (fsub_bt ha h.hd hk (hb f List.mem_cons_self)) (fun g hg => hb g (List.mem_cons_of_mem _ hg))
    refine this.mono ?_
    rw [List.length_cons, Nat.mul_succ]
    omega
theorem mul_bt {b : Nat} : ∀ (l : List (Int × Int)) (k : Nat) (a : Int × Int), IsF a → AllF l → Bt k a → AllB b l → Bt (k + (b + 1) * l.length) (l.foldl fmul a)
  | [], _, _, _, _, h, _ => h
  | f :: l, k, a, ha, h, hk, hb => by
    have := mul_bt l (k + b) (fmul a f) (fmul_f ha h.hd) h.tl (fmul_bt ha h.hd hk (hb f List.mem_cons_self)) (fun g hg => hb g (List.mem_cons_of_mem _ hg))
    refine this.mono ?_
    rw [List.length_cons, Nat.mul_succ]
    omega
theorem div_bt {b : Nat} : ∀ (l : List (Int × Int)) (k : Nat) (a : Int × Int), IsF a → AllF l → Bt k a → AllB b l → IsF (l.foldl ddiv a) ∧ Bt (k + (b + 1) * l.length) (l.foldl ddiv a)
  | [], _, _, ha, _, h, _ => ⟨ha, h⟩
  | f :: l, k, a, ha, h, hk, hb => by
    have := div_bt l (k + b) (ddiv a f) (ddiv_f ha h.hd) h.tl (ddiv_bt ha hk (hb f List.mem_cons_self)) (fun g hg => hb g (List.mem_cons_of_mem _ hg))
    refine ⟨this.1, this.2.mono ?_⟩
    rw [List.length_cons, Nat.mul_succ]
    omega
theorem Bt.sm {k : Nat} {f : Int × Int} (h : Bt k f) (hk : k ≤ 900) : Sm f.1 ∧ Sm f.2 := ⟨(h.mono hk).1, (h.mono hk).2⟩
theorem bt01 : Bt 1 f0 ∧ Bt 1 f1 := ⟨⟨by decide, by decide⟩, ⟨by decide, by decide⟩⟩
/-- two fractions handed in -/
theorem pr_at {K : PySem.W.Frag} {H : Hp} {v u : V} {f g : Int × Int} {j k : Nat} (hv : At H v f) (hu : At H u g) (hf : IsF f) (hg : IsF g) (bf : Bt j f) (bg : Bt k g) (hj : j ≤ 900) (hk : k ≤ 900) : Pr K H [v, u] f.1 f.2 g.1 g.2 := by
  obtain ⟨p, rfl, ep⟩ := hv
  obtain ⟨q, rfl, eq⟩ := hu
  exact ⟨⟨p, q, rfl, .inl (.inl ep), .inl (.inl eq)⟩, hf.ne, hg.ne, (bf.sm hj).1, (bf.sm hj).2, (bg.sm hk).1, (bg.sm hk).2⟩
section
variable {P : Program} {w : World} {K : PySem.W.Frag} {mg : Str → Option Value} {base : Heap}

/-! ### _law_sum -/
abbrev s__law_sum : Stmt := topS 17
theorem sc__law_sum : FnScope ["_law_one", "_law_other"] ["_law_one", "_law_other"] (defScope s__law_sum) := ⟨rfl, rfl, rfl, by decide +kernel, rfl, by decide +kernel, by decide +kernel⟩
theorem ok_sum {f : Addr} {fd : FuncData} (F : Fun K "_law_sum" "_law_sum" s__law_sum f fd) (C__law_low : Cal P w K mg base CX0 1 "_law_low" ["_law_top", "_law_bottom"] sp_low) : FnG P w K mg base CX0 2 f fd ["_law_one", "_law_other"] (sp_plus K) := by
  refine Gfun F sc__law_sum (fun vs H Q E h => ?_) (fun cdv A outer s H vs Q E hg hr h => ?_)
  · obtain ⟨a, b, c, d, h, _⟩ := h
    obtain ⟨p, q, rfl, _⟩ := h.ex
    rfl
  · obtain ⟨a, b, c, d, h, k⟩ := h
    obtain ⟨p, q, rfl, hp, hq⟩ := h.ex
    refine ⟨_, (pss_one (ps_ret (pe_g C__law_low (hr.mono (by decide)) hg (pa_cons (pe_op op_add (pe_op op_mulW (pe_ix ix_tup (pv 0) pe_int (fun _ _ => rfl)) (pe_ix ix_tup (pv 1) pe_int (fun _ _ => rfl))) (pe_op op_mulW (pe_ix ix_tup (pv 1) pe_int (fun _ _ => rfl)) (pe_ix ix_tup (pv 0) pe_int (fun _ _ => rfl)))) (pa_cons (pe_op op_mulW (pe_ix ix_tup (pv 0) pe_int (fun _ _ => rfl)) (pe_ix ix_tup (pv 1) pe_int (fun _ _ => rfl))) pa_nil))))), ?_⟩
    refine ⟨_, rfl, p, _, _, _, rfl, rfl, hp, rfl, _, rfl, q, _, _, _, rfl, rfl, hq, rfl, _, _, rfl, rfl, Sm.mulW h.a1 h.d1, ?_⟩
    refine ⟨_, rfl, q, _, _, _, rfl, rfl, hq, rfl, _, rfl, p, _, _, _, rfl, rfl, hp, rfl, _, _, rfl, rfl, Sm.mulW h.c1 h.b1, ?_⟩
    refine ⟨_, _, rfl, rfl, ?_⟩
    refine ⟨_, rfl, p, _, _, _, rfl, rfl, hp, rfl, _, rfl, q, _, _, _, rfl, rfl, hq, rfl, _, _, rfl, rfl, Sm.mulW h.b1 h.d1, ?_⟩
    exact ⟨_, _, rfl, mul_ne h.hb h.hd, Sm.mul h.b1 h.d1, k⟩

/-! ### _law_reckoned -/
abbrev s__law_reckoned : Stmt := topS 21
theorem sc__law_reckoned : FnScope ["_law_some", "_law_one", "_law_total", "_law_product"] ["_law_some"] (defScope s__law_reckoned) := ⟨rfl, rfl, rfl, by decide +kernel, rfl, by decide +kernel, by decide +kernel⟩
def sp_reckoned (K : PySem.W.Frag) : Sp := fun vs H Q _ => ∃ (L : Addr) (xs : List V) (fs : List (Int × Int)) (b : Nat), vs = [.ref L] ∧ SqL K H L xs ∧ Ats H xs fs ∧ AllF fs ∧ AllB b fs ∧ b ≤ 800 ∧ 1 + (b + 1) * fs.length ≤ 800 ∧
  ∀ (H' : Hp) (p : Addr) (t u : V), Same H H' → At H' t (fs.foldl fadd f0) → At H' u (fs.foldl fmul f1) → H' p = some (.lst [t, u]) → Q (.ref p) H'
theorem ok_reckoned {f : Addr} {fd : FuncData} (F : Fun K "_law_reckoned" "_law_reckoned" s__law_reckoned f fd) (C__law_sum : Cal P w K mg base CX0 2 "_law_sum" ["_law_one", "_law_other"] (sp_plus K)) (C__law_low : Cal P w K mg base CX0 1 "_law_low" ["_law_top", "_law_bottom"] sp_low) : FnG P w K mg base CX0 3 f fd ["_law_some"] (sp_reckoned K) := by
  refine Gfun F sc__law_reckoned (fun vs H Q E h => ?_) (fun cdv A outer s H vs Q E hg hr h => ?_)
  · obtain ⟨L, xs, fs, b, rfl, _⟩ := h
    rfl
  · obtain ⟨L, xs, fs, b, rfl, hS, hA, hF, hB, hb8, hlen, k⟩ := h
    refine ⟨_, (pss_cons (ps_asg (pe_tup (pa_cons (pe_tup (pa_cons pe_int (pa_cons pe_int pa_nil))) (pa_cons (pe_tup (pa_cons pe_int (pa_cons pe_int pa_nil))) pa_nil))) (pg_tup rfl (pgs_cons (pg_name (i := 2) sc__law_reckoned.nd rfl (.inl rfl)) (pgs_cons (pg_name (i := 3) sc__law_reckoned.nd rfl (.inl rfl)) pgs_nil))))
      (pss_cons (ps_for PassesOwn.never rfl (pi_list (pv 0)) (pg_name (i := 1) sc__law_reckoned.nd rfl (.inl rfl))
      (pss_cons (ps_set (i := 2) sc__law_reckoned.nd rfl (.inl rfl) (pe_g C__law_sum (hr.mono (by decide)) hg (pa_cons (pv 2) (pa_cons (pv 1) pa_nil))))
      (pss_one (ps_set (i := 3) sc__law_reckoned.nd rfl (.inl rfl) (pe_g C__law_low (hr.mono (by decide)) hg (pa_cons (pe_op op_mulW (pe_ix ix_tup (pv 3) pe_int (fun _ _ => rfl)) (pe_ix ix_tup (pv 1) pe_int (fun _ _ => rfl))) (pa_cons (pe_op op_mulW (pe_ix ix_tup (pv 3) pe_int (fun _ _ => rfl)) (pe_ix ix_tup (pv 1) pe_int (fun _ _ => rfl))) pa_nil)))))))
      (pss_one (ps_ret (pe_lst (pa_cons (pv 2) (pa_cons (pv 3) pa_nil))))))), ?_⟩
    refine ⟨len_show (Nat.le_of_ble_eq_true rfl), fun p0 n0 => ?_⟩
    refine ⟨len_show (Nat.le_of_ble_eq_true rfl), fun p1 n1 => ?_⟩
    refine ⟨len_show (Nat.le_of_ble_eq_true rfl), fun p2 n2 => ?_⟩
    have a0 : At (upd (upd (upd H p0 (.tup [.int 0, .int 1])) p1 (.tup [.int 1, .int 1])) p2 (.tup [.ref p0, .ref p1])) (.ref p0) f0 := ⟨p0, rfl, same_new n2 _ _ (same_new n1 _ _ upd_same)⟩
    have a1 : At (upd (upd (upd H p0 (.tup [.int 0, .int 1])) p1 (.tup [.int 1, .int 1])) p2 (.tup [.ref p0, .ref p1])) (.ref p1) f1 := ⟨p1, rfl, same_new n2 _ _ upd_same⟩
    have s0 : Same H (upd (upd (upd H p0 (.tup [.int 0, .int 1])) p1 (.tup [.int 1, .int 1])) p2 (.tup [.ref p0, .ref p1])) := ((same_new n0).trans (same_new n1)).trans (same_new n2)
    refine ⟨p2, _, rfl, .inl (.inl upd_same), rfl, _, _, rfl, _, _, rfl, rfl, ?_⟩
    generalize (upd (upd (upd H p0 (.tup [.int 0, .int 1])) p1 (.tup [.int 1, .int 1])) p2 (.tup [.ref p0, .ref p1])) = H0 at a0 a1 s0 ⊢
    refine ⟨_, rfl, L, rfl, ⟨_, s0.seq hS⟩, for_list (K := K) (a := L) (xs := xs) (fun i σ H' => ∃ (v : Option V) (t u : V), σ = [some (.ref L), v, some t, some u] ∧ Same H H' ∧ At H' t ((fs.take i).foldl fadd f0) ∧ At H' u ((fs.take i).foldl fmul f1))
      ⟨none, .ref p0, .ref p1, rfl, s0, a0, a1⟩ (fun i σ H' _ ⟨_, _, _, _, sm, _⟩ => sm.seq hS) ?_ ?_⟩
    · rintro i x σ H' hi ⟨v, t, u, rfl, sm, ht, hu⟩
      obtain ⟨g, hgi, hx0⟩ := hA.get hi
      have hx := hx0.same sm
      have hgf : IsF g := hF g (List.mem_of_getElem? hgi)
      have bg : Bt b g := hB g (List.mem_of_getElem? hgi)
      have hil : i < fs.length := (List.getElem?_eq_some_iff.mp hgi).1
      have htl : (fs.take i).length = i := by rw [List.length_take]; omega
      have hmn : (b + 1) * i ≤ (b + 1) * fs.length := Nat.mul_le_mul_left _ (Nat.le_of_lt hil)
      have hle : 1 + (b + 1) * i ≤ 900 := by omega
      have fa := (sum_fold (fs.take i) f0 f0_f (take_all hF i)).1
      have fm := (mul_fold (fs.take i) f1 f1_f (take_all hF i)).1
      have ba := add_bt (b := b) (fs.take i) 1 f0 f0_f (take_all hF i) bt01.1 (fun f hf => hB f (List.mem_of_mem_take hf))
      have bm := mul_bt (b := b) (fs.take i) 1 f1 f1_f (take_all hF i) bt01.2 (fun f hf => hB f (List.mem_of_mem_take hf))
      rw [htl] at ba bm
      refine ⟨_, rfl, _, rfl, _, _, _, _, pr_at ht hx fa hgf ba bg hle (by omega), fun H2 t' s2 e2 => ?_⟩
      obtain ⟨pu, rfl, eu⟩ := At.same s2 hu
      obtain ⟨px, rfl, ex⟩ := At.same s2 hx
      have SU : SqT K H2 pu [.int ((fs.take i).foldl fmul f1).1, .int ((fs.take i).foldl fmul f1).2] := .inl (.inl eu)
      have SX : SqT K H2 px [.int g.1, .int g.2] := .inl (.inl ex)
      refine ⟨_, rfl, pu, _, _, _, rfl, rfl, SU, rfl, _, rfl, px, _, _, _, rfl, rfl, SX, rfl, _, _, rfl, rfl, Sm.mulW (bm.sm hle).1 (bg.sm (by omega)).1, ?_⟩
      refine ⟨_, rfl, pu, _, _, _, rfl, rfl, SU, rfl, _, rfl, px, _, _, _, rfl, rfl, SX, rfl, _, _, rfl, rfl, Sm.mulW (bm.sm hle).2 (bg.sm (by omega)).2, ?_⟩
      refine ⟨_, _, rfl, mul_ne fm.ne hgf.ne, Sm.mul (bm.sm hle).2 (bg.sm (by omega)).2, fun H3 u' s3 e3 => ?_⟩
      refine ⟨some (.ref px), _, _, rfl, (sm.trans s2).trans s3, ?_, ?_⟩
      · rw [fold_take _ _ hgi]
        exact ⟨t', rfl, s3 _ _ e2⟩
      · rw [fold_take _ _ hgi]
        exact ⟨u', rfl, e3⟩
    · rintro σ H' ⟨v, t, u, rfl, sm, ht, hu⟩
      rw [List.take_of_length_le (by rw [hA.length]; exact Nat.le_refl _)] at ht hu
      refine ⟨_, rfl, _, rfl, len_show (Nat.le_of_ble_eq_true rfl), fun p hp => ?_⟩
      exact k _ p t u (sm.trans (same_new hp)) (ht.same (same_new hp)) (hu.same (same_new hp)) upd_same

/-! ### _law_told -/
abbrev s__law_told : Stmt := topS 22
theorem sc__law_told : FnScope ["_law_some", "_law_one", "_law_total", "_law_product"] ["_law_some"] (defScope s__law_told) := ⟨rfl, rfl, rfl, by decide +kernel, rfl, by decide +kernel, by decide +kernel⟩
def sp_told (K : PySem.W.Frag) : Sp := fun vs H Q _ => ∃ (L : Addr) (xs : List V) (fs : List (Int × Int)) (b : Nat), vs = [.ref L] ∧ SqL K H L xs ∧ Ats H xs fs ∧ AllF fs ∧ AllB b fs ∧ b ≤ 800 ∧ 1 + (b + 1) * fs.length ≤ 800 ∧
  ∀ (H' : Hp) (p : Addr) (t u : V), Same H H' → At H' t (fs.foldl fadd f0) → At H' u (fs.foldl fmul f1) → H' p = some (.lst [t, u]) → Q (.ref p) H'
theorem ok_told {f : Addr} {fd : FuncData} (F : Fun K "_law_told" "_law_told" s__law_told f fd) (C_plus : Cal P w K mg base CX0 5 "plus" ["one", "other"] (sp_plus K)) (C_times : Cal P w K mg base CX0 5 "times" ["one", "other"] (sp_times K)) : FnG P w K mg base CX0 6 f fd ["_law_some"] (sp_told K) := by
  refine Gfun F sc__law_told (fun vs H Q E h => ?_) (fun cdv A outer s H vs Q E hg hr h => ?_)
  · obtain ⟨L, xs, fs, b, rfl, _⟩ := h
    rfl
  · obtain ⟨L, xs, fs, b, rfl, hS, hA, hF, hB, hb8, hlen, k⟩ := h
    refine ⟨_, (pss_cons (ps_asg (pe_tup (pa_cons (pe_tup (pa_cons pe_int (pa_cons pe_int pa_nil))) (pa_cons (pe_tup (pa_cons pe_int (pa_cons pe_int pa_nil))) pa_nil))) (pg_tup rfl (pgs_cons (pg_name (i := 2) sc__law_told.nd rfl (.inl rfl)) (pgs_cons (pg_name (i := 3) sc__law_told.nd rfl (.inl rfl)) pgs_nil))))
      (pss_cons (ps_for PassesOwn.never rfl (pi_list (pv 0)) (pg_name (i := 1) sc__law_told.nd rfl (.inl rfl))
      (pss_cons (ps_set (i := 2) sc__law_told.nd rfl (.inl rfl) (pe_g C_plus (hr.mono (by decide)) hg (pa_cons (pv 2) (pa_cons (pv 1) pa_nil))))
      (pss_one (ps_set (i := 3) sc__law_told.nd rfl (.inl rfl) (pe_g C_times (hr.mono (by decide)) hg (pa_cons (pv 3) (pa_cons (pv 1) pa_nil)))))))
      (pss_one (ps_ret (pe_lst (pa_cons (pv 2) (pa_cons (pv 3) pa_nil))))))), ?_⟩
    refine ⟨len_show (Nat.le_of_ble_eq_true rfl), fun p0 n0 => ?_⟩
    refine ⟨len_show (Nat.le_of_ble_eq_true rfl), fun p1 n1 => ?_⟩
    refine ⟨len_show (Nat.le_of_ble_eq_true rfl), fun p2 n2 => ?_⟩
    have a0 : At (upd (upd (upd H p0 (.tup [.int 0, .int 1])) p1 (.tup [.int 1, .int 1])) p2 (.tup [.ref p0, .ref p1])) (.ref p0) f0 := ⟨p0, rfl, same_new n2 _ _ (same_new n1 _ _ upd_same)⟩
    have a1 : At (upd (upd (upd H p0 (.tup [.int 0, .int 1])) p1 (.tup [.int 1, .int 1])) p2 (.tup [.ref p0, .ref p1])) (.ref p1) f1 := ⟨p1, rfl, same_new n2 _ _ upd_same⟩
    have s0 : Same H (upd (upd (upd H p0 (.tup [.int 0, .int 1])) p1 (.tup [.int 1, .int 1])) p2 (.tup [.ref p0, .ref p1])) := ((same_new n0).trans (same_new n1)).trans (same_new n2)
    refine ⟨p2, _, rfl, .inl (.inl upd_same), rfl, _, _, rfl, _, _, rfl, rfl, ?_⟩
    generalize (upd (upd (upd H p0 (.tup [.int 0, .int 1])) p1 (.tup [.int 1, .int 1])) p2 (.tup [.ref p0, .ref p1])) = H0 at a0 a1 s0 ⊢
    refine ⟨_, rfl, L, rfl, ⟨_, s0.seq hS⟩, for_list (K := K) (a := L) (xs := xs) (fun i σ H' => ∃ (v : Option V) (t u : V), σ = [some (.ref L), v, some t, some u] ∧ Same H H' ∧ At H' t ((fs.take i).foldl fadd f0) ∧ At H' u ((fs.take i).foldl fmul f1))
      ⟨none, .ref p0, .ref p1, rfl, s0, a0, a1⟩ (fun i σ H' _ ⟨_, _, _, _, sm, _⟩ => sm.seq hS) ?_ ?_⟩
    · rintro i x σ H' hi ⟨v, t, u, rfl, sm, ht, hu⟩
      obtain ⟨g, hgi, hx0⟩ := hA.get hi
      have hx := hx0.same sm
      have hgf : IsF g := hF g (List.mem_of_getElem? hgi)
      have bg : Bt b g := hB g (List.mem_of_getElem? hgi)
      have hil : i < fs.length := (List.getElem?_eq_some_iff.mp hgi).1
      have htl : (fs.take i).length = i := by rw [List.length_take]; omega
      have hmn : (b + 1) * i ≤ (b + 1) * fs.length := Nat.mul_le_mul_left _ (Nat.le_of_lt hil)
      have hle : 1 + (b + 1) * i ≤ 900 := by omega
      have fa := (sum_fold (fs.take i) f0 f0_f (take_all hF i)).1
      have fm := (mul_fold (fs.take i) f1 f1_f (take_all hF i)).1
      have ba := add_bt (b := b) (fs.take i) 1 f0 f0_f (take_all hF i) bt01.1 (fun f hf => hB f (List.mem_of_mem_take hf))
      have bm := mul_bt (b := b) (fs.take i) 1 f1 f1_f (take_all hF i) bt01.2 (fun f hf => hB f (List.mem_of_mem_take hf))
      rw [htl] at ba bm
      refine ⟨_, rfl, _, rfl, _, _, _, _, pr_at ht hx fa hgf ba bg hle (by omega), fun H2 t' s2 e2 => ?_⟩
      refine ⟨_, rfl, _, rfl, _, _, _, _, pr_at (At.same s2 hu) (At.same s2 hx) fm hgf bm bg hle (by omega), fun H3 u' s3 e3 => ?_⟩
      refine ⟨some x, _, _, rfl, (sm.trans s2).trans s3, ?_, ?_⟩
      · rw [fold_take _ _ hgi]
        exact ⟨t', rfl, s3 _ _ e2⟩
      · rw [fold_take _ _ hgi]
        exact ⟨u', rfl, e3⟩
    · rintro σ H' ⟨v, t, u, rfl, sm, ht, hu⟩
      rw [List.take_of_length_le (by rw [hA.length]; exact Nat.le_refl _)] at ht hu
      refine ⟨_, rfl, _, rfl, len_show (Nat.le_of_ble_eq_true rfl), fun p hp => ?_⟩
      exact k _ p t u (sm.trans (same_new hp)) (ht.same (same_new hp)) (hu.same (same_new hp)) upd_same

end
end Lf

set_option Elab.async false
set_option linter.all false
set_option maxRecDepth 100000
set_option maxHeartbeats 4000000
set_option exponentiation.threshold 3000
namespace Lf
open PySem PySem.Spec PyProof.Rows L2
theorem Ats.perm {H : Hp} {ys xs : List V} (p : ys.Perm xs) : ∀ {fs : List (Int × Int)}, Ats H xs fs → ∃ gs, gs.Perm fs ∧ Ats H ys gs := by
  induction p with
  | nil =>
    intro fs h
    cases h
    exact ⟨[], .nil, .nil⟩
  | cons x _ ih =>
    intro fs h
    cases h with
    | cons a r =>
      obtain ⟨gs, q, h⟩ := ih r
      exact ⟨_ :: gs, q.cons _, .cons a h⟩
  | swap x y l =>
    intro fs h
    cases h with
    | cons a r =>
      cases r with
      | cons b r => exact ⟨_, .swap _ _ _, .cons b (.cons a r)⟩
  | trans _ _ h1 h2 =>
    intro fs h
    obtain ⟨gs, q, h'⟩ := h2 h
    obtain ⟨ks, q', h''⟩ := h1 h'
    exact ⟨ks, q'.trans q, h''⟩
theorem ats_of {H : Hp} : ∀ {vs : List V}, (∀ v ∈ vs, ∃ f, At H v f) → ∃ gs, Ats H vs gs
  | [], _ => ⟨[], .nil⟩
  | v :: vs, h => by
    obtain ⟨f, hf⟩ := h v List.mem_cons_self
    obtain ⟨gs, hg⟩ := ats_of (vs := vs) fun u hu => h u (List.mem_cons_of_mem _ hu)
    exact ⟨f :: gs, .cons hf hg⟩
theorem Ats.mem {H : Hp} : ∀ {vs : List V} {fs : List (Int × Int)}, Ats H vs fs → ∀ v ∈ vs, ∃ f, At H v f
  | _, _, .nil, _, h => nomatch h
  | _, _, .cons a r, v, h => by
    rcases List.mem_cons.mp h with e | e
    · exact ⟨_, e ▸ a⟩
    · exact Ats.mem r v e
theorem At.dp {K : PySem.W.Frag} {H : Hp} {v : V} {f : Int × Int} (h : At H v f) : Dp K H v (tD f) := by
  obtain ⟨p, rfl, e⟩ := h
  exact dp2' e
theorem Ats.dp {K : PySem.W.Frag} {H : Hp} : ∀ {vs : List V} {fs : List (Int × Int)}, Ats H vs fs → DpAll K H vs (fs.map tD)
  | _, _, .nil => .nil
  | _, _, .cons a r => .cons a.dp (Ats.dp r)
theorem tDs_lay : ∀ fs : List (Int × Int), PyData.canLayAll0 (fs.map tD) = true
  | [] => by simp only [List.map_nil, PyData.canLayAll0]
  | f :: fs => by simp only [List.map_cons, PyData.canLayAll0, tDs_lay fs, tD, PyData.canLay0, Bool.and_self]
theorem tDs_depth : ∀ fs : List (Int × Int), PyData.depthAll (fs.map tD) ≤ 1
  | [] => by simp only [List.map_nil, PyData.depthAll]; omega
  | f :: fs => by
    have := tDs_depth fs
    simp only [List.map_cons, PyData.depthAll, tD, PyData.depth]
    omega
theorem tDs_shaped (fs : List (Int × Int)) : SeqAt.shaped (.list (fs.map tD)) = true := by
  have h := tDs_depth fs
  have h2 := tDs_lay fs
  unfold SeqAt.shaped
  rw [Bool.and_eq_true]
  refine ⟨by simp only [PyData.canLay0]; exact h2, decide_eq_true ?_⟩
  simp only [PyData.depth]
  omega
theorem tD_shaped (f : Int × Int) : SeqAt.shaped (tD f) = true := by
  unfold SeqAt.shaped
  rw [Bool.and_eq_true]
  refine ⟨by simp only [tD, PyData.canLay0, PyData.canLayAll0, Bool.and_self], decide_eq_true ?_⟩
  simp only [tD, PyData.depth, PyData.depthAll]
  omega
theorem eqv_nil (fs : List (Int × Int)) : PyData.eqv (.list (fs.map tD)) (.list []) = fs.isEmpty := by
  cases fs with
  | nil => simp only [List.map_nil, PyData.eqv, PyData.eqvAll, List.isEmpty_nil]
  | cons f r => simp only [List.map_cons, PyData.eqv, PyData.eqvAll, List.isEmpty_cons]
theorem eqv_tD (f g : Int × Int) : PyData.eqv (tD f) (tD g) = decide (f = g) := by
  obtain ⟨a, b⟩ := f
  obtain ⟨c, d⟩ := g
  simp only [tD, PyData.eqv, PyData.eqvAll, Bool.and_true]
  by_cases h : (a, b) = (c, d)
  · rw [decide_eq_true h]
    cases h
    simp
  · rw [decide_eq_false h]
    by_cases h1 : a = c
    · by_cases h2 : b = d
      · exact absurd (by rw [h1, h2]) h
      · simp [h2]
    · simp [h1]
theorem seqIx {i : Int} {n : Nat} (h0 : 0 ≤ i) (h1 : i < n) : seqIndex? i n = some i.toNat := by
  unfold seqIndex?
  simp only [show ¬ i < 0 by omega, if_false]
  rw [if_pos]
  rw [Bool.and_eq_true]
  exact ⟨decide_eq_true h0, decide_eq_true h1⟩
theorem erase_perm {α : Type} : ∀ {l : List α} {k : Nat} {y : α}, l[k]? = some y → (y :: l.eraseIdx k).Perm l
  | [], _, _, h => by simp at h
  | a :: l, 0, y, h => by
    simp at h
    subst h
    exact List.Perm.refl _
  | a :: l, k + 1, y, h => by
    have := erase_perm (l := l) (k := k) (y := y) (by simpa using h)
    exact (List.Perm.swap a y _).trans (this.cons a)
section
variable {P : Program} {w : World} {K : PySem.W.Frag} {mg : Str → Option Value} {base : Heap}

/-! ### _law_fraction -/
abbrev s__law_fraction : Stmt := topS 18
theorem sc__law_fraction : FnScope ["_law_pot_here", "_law_way", "_law_sign"] ["_law_pot_here"] (defScope s__law_fraction) := ⟨rfl, rfl, rfl, by decide +kernel, rfl, by decide +kernel, by decide +kernel⟩
def sp_fraction : Sp := fun vs H Q _ => ∃ (q : Addr), vs = [.ref q] ∧ Pot H q ∧ ∀ (f : Int × Int) (p : Addr) (H' : Hp), IsF f → Bt 40 f → Pot H' q → But q H H' → H' p = some (.tup [.int f.1, .int f.2]) → Q (.ref p) H'
theorem Pot.same {H H' : Hp} {q : Addr} (s : Same H H') (h : Pot H q) : Pot H' q := by
  obtain ⟨x, y, a, b, e⟩ := h
  exact ⟨x, y, a, b, s _ _ e⟩
theorem draw_top {s r m : Int} (hs : s = 1 ∨ s = -1) (h0 : 0 ≤ r) (h1 : r < m) (hm : m ≤ 1000000000000) : (s * r).natAbs < 2 ^ 40 := by
  have : (s * r).natAbs = r.natAbs := by
    rcases hs with e | e
    · rw [e, Int.one_mul]
    · rw [e, Int.neg_mul, Int.one_mul, Int.natAbs_neg]
  rw [this]
  show r.natAbs < 1099511627776
  omega
theorem draw_bottom {r m : Int} (h0 : 0 ≤ r) (h1 : r < m) (hm : m ≤ 1000000000000) : (1 + r).natAbs < 2 ^ 40 := by
  show (1 + r).natAbs < 1099511627776
  omega
theorem sm40 {n : Int} (h : n.natAbs < 2 ^ 40) : Sm n := Nat.lt_of_lt_of_le h (Nat.pow_le_pow_right (by decide) (by decide))
theorem ok_fraction {f : Addr} {fd : FuncData} (F : Fun K "_law_fraction" "_law_fraction" s__law_fraction f fd) (C__law_draw : Cal P w K mg base CX0 1 "_law_draw" ["_law_pot_here", "_law_many"] sp_draw) (C__law_low : Cal P w K mg base CX0 1 "_law_low" ["_law_top", "_law_bottom"] sp_low) : FnG P w K mg base CX0 2 f fd ["_law_pot_here"] sp_fraction := by
  refine Gfun F sc__law_fraction (fun vs H Q E h => ?_) (fun cdv A outer s H vs Q E hg hr h => ?_)
  · obtain ⟨q, rfl, _⟩ := h
    rfl
  · obtain ⟨q, rfl, hP, k⟩ := h
    refine ⟨_, (pss_cons (ps_set (i := 1) sc__law_fraction.nd rfl (.inl rfl) (pe_g C__law_draw (hr.mono (by decide)) hg (pa_cons (pv 0) (pa_cons pe_int pa_nil))))
      (pss_cons (ps_set (i := 2) sc__law_fraction.nd rfl (.inl rfl) (pe_ix ix_list (pe_lst (pa_cons pe_int (pa_cons pe_int (pa_cons (pe_un un_neg pe_int) pa_nil)))) (pe_g C__law_draw (hr.mono (by decide)) hg (pa_cons (pv 0) (pa_cons pe_int pa_nil))) (fun _ _ => rfl)))
      (pss_cons (ps_if (pt_cmpR op_eq (pv 1) pe_int (nomark _))
      (pss_one (ps_ret (pe_g C__law_low (hr.mono (by decide)) hg (pa_cons (pe_op op_mulW (pv 2) (pe_g C__law_draw (hr.mono (by decide)) hg (pa_cons (pv 0) (pa_cons (pe_op op_sub (pe_op op_pow pe_int pe_int) pe_int) pa_nil)))) (pa_cons (pe_op op_add pe_int (pe_g C__law_draw (hr.mono (by decide)) hg (pa_cons (pv 0) (pa_cons (pe_op op_sub (pe_op op_pow pe_int pe_int) pe_int) pa_nil)))) pa_nil)))))
      pss_nil)
      (pss_cons (ps_if (pt_cmpR op_eq (pv 1) pe_int (nomark _))
      (pss_one (ps_ret (pe_g C__law_low (hr.mono (by decide)) hg (pa_cons (pe_op op_mulW (pv 2) (pe_g C__law_draw (hr.mono (by decide)) hg (pa_cons (pv 0) (pa_cons pe_int pa_nil)))) (pa_cons (pe_op op_add pe_int (pe_g C__law_draw (hr.mono (by decide)) hg (pa_cons (pv 0) (pa_cons pe_int pa_nil)))) pa_nil)))))
      pss_nil)
      (pss_one (ps_ret (pe_ix ix_list (pe_lst (pa_cons (pe_tup (pa_cons pe_int (pa_cons pe_int pa_nil))) (pa_cons (pe_tup (pa_cons pe_int (pa_cons pe_int pa_nil))) (pa_cons (pe_tup (pa_cons (pv 2) (pa_cons pe_int pa_nil))) (pa_cons (pe_tup (pa_cons (pv 2) (pa_cons pe_int pa_nil))) pa_nil))))) (pe_g C__law_draw (hr.mono (by decide)) hg (pa_cons (pv 0) (pa_cons pe_int pa_nil))) (fun _ _ => rfl)))))))), ?_⟩
    refine ⟨_, rfl, q, 3, rfl, by decide, by decide, hP, fun way H1 w0 w1 hP1 b1 => ?_⟩
    refine ⟨_, rfl, len_show (Nat.le_of_ble_eq_true rfl), fun l hl => ?_⟩
    have s1 := same_new (o := .lst [.int 1, .int 1, .int (-1)]) hl
    refine ⟨_, rfl, q, 3, rfl, by decide, by decide, hP1.same s1, fun sg H2 g0 g1 hP2 b2 => ?_⟩
    have nl : l ≠ q := fun z => by
      obtain ⟨x, y, _, _, e⟩ := hP1
      rw [← z, hl] at e
      cases e
    have el : H2 l = some (.lst [.int 1, .int 1, .int (-1)]) := b2 _ _ nl upd_same
    have bb : But q H H2 := (b1.same s1).trans b2
    obtain ⟨sv, hsv, hat⟩ : ∃ sv : Int, (sv = 1 ∨ sv = -1) ∧ atI [V.int 1, V.int 1, V.int (-1)] sg = some (.int sv) := by
      have : sg = 0 ∨ sg = 1 ∨ sg = 2 := by omega
      rcases this with e | e | e <;> subst e
      · exact ⟨1, .inl rfl, rfl⟩
      · exact ⟨1, .inl rfl, rfl⟩
      · exact ⟨-1, .inr rfl, rfl⟩
    refine ⟨l, _, sg, _, rfl, rfl, .inl (.inl el), hat, ?_⟩
    have fin : ∀ (n d : Int) (H3 : Hp), n.natAbs < 2 ^ 40 → d.natAbs < 2 ^ 40 → d ≠ 0 → Pot H3 q → But q H2 H3 → Two H3 Q (low n d) := fun n d H3 hn hd d0 hP3 b3 H4 p4 s4 e4 =>
      k _ p4 H4 (low_f d0) (low_bt d0 hn hd) (hP3.same s4) ((bb.trans b3).same s4) e4
    refine ⟨_, rfl, rfl, _, rfl, ite2 (fun e => ?_) (fun e => ?_)⟩
    · refine ⟨_, rfl, _, rfl, 10, 12, rfl, rfl, ⟨by decide, by decide, by decide⟩, _, _, rfl, rfl, q, 999999999999, rfl, by decide, by decide, hP2, fun r1 H3 r0 r1' hP3 b3 => ?_⟩
      have z1 := draw_top hsv r0 r1' (by decide)
      refine ⟨_, _, rfl, rfl, Sm.mulW (by rcases hsv with e | e <;> rw [e] <;> exact (by unfold Sm; decide)) (sm40 (by have := draw_top (s := 1) (.inl rfl) r0 r1' (by decide); rwa [Int.one_mul] at this)), ?_⟩
      refine ⟨_, rfl, 10, 12, rfl, rfl, ⟨by decide, by decide, by decide⟩, _, _, rfl, rfl, q, 999999999999, rfl, by decide, by decide, hP3, fun r2 H4 r2' r3 hP4 b4 => ?_⟩
      have z2 := draw_bottom r2' r3 (by decide)
      exact ⟨_, _, rfl, rfl, _, _, rfl, by omega, (sm40 z2).mid, fin _ _ _ z1 z2 (by omega) hP4 (b3.trans b4)⟩
    refine ⟨_, rfl, rfl, _, rfl, ite2 (fun e => ?_) (fun e => ?_)⟩
    · refine ⟨_, rfl, _, rfl, q, 30, rfl, by decide, by decide, hP2, fun r1 H3 r0 r1' hP3 b3 => ?_⟩
      have z1 := draw_top hsv r0 r1' (by decide)
      refine ⟨_, _, rfl, rfl, Sm.mulW (by rcases hsv with e | e <;> rw [e] <;> exact (by unfold Sm; decide)) (sm40 (by have := draw_top (s := 1) (.inl rfl) r0 r1' (by decide); rwa [Int.one_mul] at this)), ?_⟩
      refine ⟨_, rfl, q, 12, rfl, by decide, by decide, hP3, fun r2 H4 r2' r3 hP4 b4 => ?_⟩
      have z2 := draw_bottom r2' r3 (by decide)
      exact ⟨_, _, rfl, rfl, _, _, rfl, by omega, (sm40 z2).mid, fin _ _ _ z1 z2 (by omega) hP4 (b3.trans b4)⟩
    · refine ⟨len_show (Nat.le_of_ble_eq_true rfl), fun t1 f1 => ?_⟩
      refine ⟨len_show (Nat.le_of_ble_eq_true rfl), fun t2 f2 => ?_⟩
      refine ⟨_, rfl, len_show (Nat.le_of_ble_eq_true rfl), fun t3 f3 => ?_⟩
      refine ⟨_, rfl, len_show (Nat.le_of_ble_eq_true rfl), fun t4 f4 => ?_⟩
      refine ⟨len_show (Nat.le_of_ble_eq_true rfl), fun m fm => ?_⟩
      have e1 := same_new (o := .lst [.ref t1, .ref t2, .ref t3, .ref t4]) fm _ _ (same_new (o := .tup [.int sv, .int 3]) f4 _ _ (same_new (o := .tup [.int sv, .int 2]) f3 _ _ (same_new (o := .tup [.int 1, .int 1]) f2 _ _ (upd_same (H := H2) (a := t1) (o := .tup [.int 0, .int 1])))))
      have e2 := same_new (o := .lst [.ref t1, .ref t2, .ref t3, .ref t4]) fm _ _ (same_new (o := .tup [.int sv, .int 3]) f4 _ _ (same_new (o := .tup [.int sv, .int 2]) f3 _ _ (upd_same (H := (upd H2 t1 (.tup [.int 0, .int 1]))) (a := t2) (o := .tup [.int 1, .int 1]))))
      have e3 := same_new (o := .lst [.ref t1, .ref t2, .ref t3, .ref t4]) fm _ _ (same_new (o := .tup [.int sv, .int 3]) f4 _ _ (upd_same (H := (upd (upd H2 t1 (.tup [.int 0, .int 1])) t2 (.tup [.int 1, .int 1]))) (a := t3) (o := .tup [.int sv, .int 2])))
      have e4 := same_new (o := .lst [.ref t1, .ref t2, .ref t3, .ref t4]) fm _ _ (upd_same (H := (upd (upd (upd H2 t1 (.tup [.int 0, .int 1])) t2 (.tup [.int 1, .int 1])) t3 (.tup [.int sv, .int 2]))) (a := t4) (o := .tup [.int sv, .int 3]))
      have em := upd_same (H := upd (upd (upd (upd H2 t1 (.tup [.int 0, .int 1])) t2 (.tup [.int 1, .int 1])) t3 (.tup [.int sv, .int 2])) t4 (.tup [.int sv, .int 3])) (a := m) (o := .lst [.ref t1, .ref t2, .ref t3, .ref t4])
      have sm := ((((same_new (o := .tup [.int 0, .int 1]) f1).trans (same_new (o := .tup [.int 1, .int 1]) f2)).trans (same_new (o := .tup [.int sv, .int 2]) f3)).trans (same_new (o := .tup [.int sv, .int 3]) f4)).trans (same_new (o := .lst [.ref t1, .ref t2, .ref t3, .ref t4]) fm)
      generalize upd (upd (upd (upd (upd H2 t1 (.tup [.int 0, .int 1])) t2 (.tup [.int 1, .int 1])) t3 (.tup [.int sv, .int 2])) t4 (.tup [.int sv, .int 3])) m (.lst [.ref t1, .ref t2, .ref t3, .ref t4]) = H3 at e1 e2 e3 e4 em sm ⊢
      refine ⟨_, rfl, q, 4, rfl, by decide, by decide, hP2.same sm, fun r H4 r0 r1 hP4 b4 => ?_⟩
      have hP3 := hP2.same sm
      have nb : ∀ {p : Addr} {o : HO}, H3 p = some o → (∀ x y, o ≠ .lst [.int x, .int y]) → H4 p = some o := fun {p o} e hne => b4 _ _ (fun z => by
        obtain ⟨x, y, _, _, eP⟩ := hP3
        rw [z, eP] at e
        exact hne x y (Option.some.inj e).symm) e
      have hm : SqL K H4 m [.ref t1, .ref t2, .ref t3, .ref t4] := .inl (.inl (nb em (fun x y z => by cases z)))
      have bt : But q H H4 := (bb.same sm).trans b4
      have : r = 0 ∨ r = 1 ∨ r = 2 ∨ r = 3 := by omega
      have sF : ∀ d : Int, d = 2 ∨ d = 3 → IsF (sv, d) ∧ Bt 40 (sv, d) := by
        intro d hd
        rcases hsv with rfl | rfl <;> rcases hd with rfl | rfl <;> exact ⟨⟨by decide, by decide⟩, ⟨by decide, by decide⟩⟩
      rcases this with e | e | e | e <;> subst e
      · exact ⟨m, _, 0, _, rfl, rfl, hm, rfl, k f0 t1 H4 f0_f (bt01.1.mono (by decide)) hP4 bt (nb e1 (fun x y z => by cases z))⟩
      · exact ⟨m, _, 1, _, rfl, rfl, hm, rfl, k Lf.f1 t2 H4 f1_f (bt01.2.mono (by decide)) hP4 bt (nb e2 (fun x y z => by cases z))⟩
      · exact ⟨m, _, 2, _, rfl, rfl, hm, rfl, k (sv, 2) t3 H4 (sF 2 (.inl rfl)).1 (sF 2 (.inl rfl)).2 hP4 bt (nb e3 (fun x y z => by cases z))⟩
      · exact ⟨m, _, 3, _, rfl, rfl, hm, rfl, k (sv, 3) t4 H4 (sF 3 (.inr rfl)).1 (sF 3 (.inr rfl)).2 hP4 bt (nb e4 (fun x y z => by cases z))⟩

/-! ### _law_turned -/
abbrev s__law_turned : Stmt := topS 19
theorem sc__law_turned : FnScope ["_law_pot_here", "_law_some", "_law_rest", "_law_found"] ["_law_pot_here", "_law_some"] (defScope s__law_turned) := ⟨rfl, rfl, rfl, by decide +kernel, rfl, by decide +kernel, by decide +kernel⟩
def sp_turned (K : PySem.W.Frag) : Sp := fun vs H Q _ => ∃ (q L : Addr) (xs : List V) (fs : List (Int × Int)), vs = [.ref q, .ref L] ∧ Pot H q ∧ SqL K H L xs ∧ Ats H xs fs ∧ xs.length ≤ 500 ∧
  ∀ (H' : Hp) (p : Addr) (ys : List V), ys.Perm xs → H' p = some (.lst ys) → Pot H' q → But q H H' → Q (.ref p) H'
structure Tu (H : Hp) (q : Addr) (xs : List V) (H' : Hp) (r fo : Addr) (v1 v2 : List V) : Prop where
  hr : H' r = some (.lst v1)
  hf : H' fo = some (.lst v2)
  pm : (v2 ++ v1).Perm xs
  bt : But q H H'
  pt : Pot H' q
  nrf : r ≠ fo
  nrq : r ≠ q
  nfq : fo ≠ q
  nr : H r = none
  nf : H fo = none
theorem ok_turned {f : Addr} {fd : FuncData} (M : Blt mg) (ml : mg "list" = none) (F : Fun K "_law_turned" "_law_turned" s__law_turned f fd) (C__law_draw : Cal P w K mg base CX0 1 "_law_draw" ["_law_pot_here", "_law_many"] sp_draw) : FnG P w K mg base CX0 2 f fd ["_law_pot_here", "_law_some"] (sp_turned K) := by
  refine Gfun F sc__law_turned (fun vs H Q E h => ?_) (fun cdv A outer s H vs Q E hg hr h => ?_)
  · obtain ⟨q, L, xs, fs, rfl, _⟩ := h
    rfl
  · obtain ⟨q, L, xs, fs, rfl, hP, hS, hA, hlen, k⟩ := h
    refine ⟨_, (pss_cons (ps_set (i := 2) sc__law_turned.nd rfl (.inl rfl) (pe_callTy call_list_of rfl ml bt_list (pa_cons (pv 1) pa_nil)))
      (pss_cons (ps_set (i := 3) sc__law_turned.nd rfl (.inl rfl) (pe_lst pa_nil))
      (pss_cons (ps_while PassesOwn.never (pt_cmpR (op_neD hr.units) (pv 2) (pe_lst pa_nil) (nomark _))
      (pss_one (ps_expr (pe_bm PySem.F.plainAttrs_list PySem.F.slot_list_append PySem.F.type_list_append mt_append (pv 3) (pa_cons (pe_bm PySem.F.plainAttrs_list PySem.F.slot_list_pop PySem.F.type_list_pop mt_popAt (pv 2) (pa_cons (pe_g C__law_draw (hr.mono (by decide)) hg (pa_cons (pv 0) (pa_cons (pe_callB call_len_seq rfl M.len bt_len (pa_cons (pv 2) pa_nil)) pa_nil))) pa_nil)) pa_nil)))))
      (pss_one (ps_ret (pv 3)))))), ?_⟩
    refine ⟨_, rfl, L, _, rfl, .inl hS, fun r nr => ?_⟩
    refine ⟨len_show (Nat.le_of_ble_eq_true rfl), fun fo nf => ?_⟩
    have nrq : r ≠ q := fun z => by
      obtain ⟨x, y, _, _, e⟩ := hP
      rw [← z, nr] at e
      cases e
    have nrf : r ≠ fo := fun z => by
      rw [← z, upd_same] at nf
      cases nf
    have nf' : H fo = none := by
      rw [upd_ne nrf.symm] at nf
      exact nf
    have nfq : fo ≠ q := fun z => by
      obtain ⟨x, y, _, _, e⟩ := hP
      rw [← z, nf'] at e
      cases e
    refine while_by (fun σ H' => ∃ (v1 v2 : List V), σ = [some (.ref q), some (.ref L), some (.ref r), some (.ref fo)] ∧ Tu H q xs H' r fo v1 v2)
      (fun σ H' => match σ with | [_, _, some (.ref r), _] => (match H' r with | some (.lst l) => l.length | _ => 0) | _ => 0) ⟨xs, [], rfl, ?_⟩ ?_ ?_
    · exact ⟨same_new nf _ _ upd_same, upd_same, List.Perm.refl _, fun b o _ e => same_new nf _ _ (same_new nr _ _ e), (hP.same (same_new nr)).same (same_new nf), nrf, nrq, nfq, nr, nf'⟩
    · rintro σ H1 ⟨v1, v2, rfl, T⟩
      refine ⟨_, rfl, len_show (Nat.le_of_ble_eq_true rfl), fun em ne => ?_⟩
      have s1 := same_new (o := .lst []) ne
      have mem1 : ∀ v ∈ v1, ∃ f, At (upd H1 em (.lst [])) v f := fun v hv => by
        obtain ⟨f, hf⟩ := hA.mem v (T.pm.mem_iff.mp (List.mem_append_right _ hv))
        exact ⟨f, (hf.but T.bt hP).same s1⟩
      obtain ⟨gs, hgs⟩ := ats_of mem1
      refine ⟨_, _, .lst (.inl (.inl (s1 _ _ T.hr))) hgs.dp, .lst (.inl (.inl upd_same)) .nil, tDs_shaped gs, (by decide), _, rfl, ?_⟩
      rw [eqv_nil]
      have hl1 := hgs.length
      have T' : Tu H q xs (upd H1 em (.lst [])) r fo v1 v2 := ⟨s1 _ _ T.hr, s1 _ _ T.hf, T.pm, T.bt.same s1, T.pt.same s1, T.nrf, T.nrq, T.nfq, T.nr, T.nf⟩
      have pl := T.pm.length_eq
      rw [List.length_append] at pl
      generalize upd H1 em (.lst []) = H2 at T' s1 ⊢
      refine ite2 (fun e => ?_) (fun e => ?_)
      · have pos : 0 < v1.length := by
          cases gs with
          | nil => exact absurd e (by decide)
          | cons g r =>
            rw [hl1]
            exact Nat.succ_pos _
        refine ⟨_, rfl, .inl ⟨rfl, _, .inl (.inl T'.hf)⟩, _, rfl, .inl ⟨rfl, _, .inl (.inl T'.hr)⟩, _, rfl, _, rfl, r, _, rfl, .inl (.inl (.inl T'.hr)), q, _, rfl, by omega, ?_, T'.pt, fun d H3 d0 d1 hP3 b3 => ?_⟩
        · rw [Int.natAbs_natCast]
          exact Nat.lt_of_le_of_lt (show v1.length ≤ 2 ^ 10 by omega) (Nat.pow_lt_pow_right (by decide) (by decide))
        have hk : d.toNat < v1.length := by omega
        have r3 : H3 r = some (.lst v1) := b3 _ _ T'.nrq T'.hr
        have f3 : H3 fo = some (.lst v2) := b3 _ _ T'.nfq T'.hf
        refine ⟨r, v1, d, d.toNat, v1[d.toNat], rfl, rfl, r3, by omega, by omega, seqIx d0 d1, List.getElem?_eq_getElem hk, ?_⟩
        have f4 : upd H3 r (.lst (v1.eraseIdx d.toNat)) fo = some (.lst v2) := by
          rw [upd_ne T'.nrf.symm]
          exact f3
        refine ⟨fo, v2, _, rfl, rfl, f4, ?_, ⟨v1.eraseIdx d.toNat, v2 ++ [v1[d.toNat]], rfl, ?_⟩, ?_⟩
        · rw [sizeLine_eq]
          omega
        · have ep := erase_perm (List.getElem?_eq_getElem hk)
          refine ⟨?_, upd_same, ?_, fun b o nb eb => ?_, ?_, T'.nrf, T'.nrq, T'.nfq, T'.nr, T'.nf⟩
          · rw [upd_ne T'.nrf, upd_same]
          · rw [List.append_assoc]
            exact (ep.append_left v2).trans T'.pm
          · rw [upd_ne (ne_of_none eb T'.nf), upd_ne (ne_of_none eb T'.nr)]
            exact b3 _ _ nb (T'.bt _ _ nb eb)
          · obtain ⟨x, y, h0, h1, eP⟩ := hP3
            refine ⟨x, y, h0, h1, ?_⟩
            rw [upd_ne T'.nfq.symm, upd_ne T'.nrq.symm]
            exact eP
        · show (match upd (upd H3 r (.lst (v1.eraseIdx d.toNat))) fo (.lst (v2 ++ [v1[d.toNat]])) r with | some (.lst l) => l.length | _ => 0) < (match H1 r with | some (.lst l) => l.length | _ => 0)
          rw [upd_ne T'.nrf, upd_same, T.hr]
          show (v1.eraseIdx d.toNat).length < v1.length
          rw [List.length_eraseIdx_of_lt hk]
          omega
      · have e0 : v1 = [] := by
          cases gs with
          | nil => exact List.eq_nil_of_length_eq_zero hl1
          | cons g r => exact absurd (by rfl) e
        subst e0
        have pm := T'.pm
        rw [List.append_nil] at pm
        exact ⟨_, rfl, k _ fo v2 pm T'.hf T'.pt T'.bt⟩
    · rintro σ H1 Q1 Q2 hq ⟨u, hu, h1, h2⟩
      refine ⟨u, hu, h1, fun p hp => ?_⟩
      obtain ⟨d, e, a1, a2, a3, a4, kk, a5, a6⟩ := h2 p hp
      exact ⟨d, e, a1, a2, a3, a4, kk, a5, hq _ _ a6⟩

end
end Lf

set_option Elab.async false
set_option linter.all false
set_option maxRecDepth 100000
set_option maxHeartbeats 4000000
set_option exponentiation.threshold 3000
namespace Lf
open PySem PySem.Spec PyProof.Rows L2
theorem iteN {c A B : Prop} [Decidable c] (hc : ¬ c) (h : A) : if (!decide c) = true then A else B := by
  rw [decide_eq_false hc]
  exact iteT h
theorem spread_bt (x : Int × Int) (hx : IsF x) (bx : Bt 40 x) : ∀ (l : List (Int × Int)) (k : Nat) (a : Int × Int), IsF a → AllF l → Bt k a → AllB 40 l → Bt (k + 81 * l.length) (l.foldl (fun a f => fadd a (fmul x f)) a)
  | [], _, _, _, _, h, _ => h
  | f :: l, k, a, ha, h, hk, hb => by
    have := spread_bt x hx bx l (k + 80 + 1) (fadd a (fmul x f)) (fadd_f ha (fmul_f hx h.hd)) h.tl (fadd_bt ha (fmul_f hx h.hd) hk (fmul_bt hx h.hd bx (hb f List.mem_cons_self))) (fun g hg => hb g (List.mem_cons_of_mem _ hg))
    refine this.mono ?_
    rw [List.length_cons, Nat.mul_succ]
    omega
theorem any_f0 : ∀ fs : List (Int × Int), ((fs.map tD).any fun z => PyData.eqv z (tD f0)) = decide (f0 ∈ fs)
  | [] => by simp
  | f :: fs => by
    rw [List.map_cons, List.any_cons, any_f0 fs, eqv_tD]
    by_cases h : f = f0
    · subst h
      simp
    · rw [decide_eq_false h, Bool.false_or]
      have : (f0 ∈ f :: fs) ↔ f0 ∈ fs := by
        rw [List.mem_cons]
        exact ⟨fun z => z.elim (fun e => absurd e.symm h) id, .inr⟩
      by_cases h2 : f0 ∈ fs
      · rw [decide_eq_true h2, decide_eq_true (this.mpr h2)]
      · rw [decide_eq_false h2, decide_eq_false (fun z => h2 (this.mp z))]
section
variable {P : Program} {w : World} {K : PySem.W.Frag} {mg : Str → Option Value} {base : Heap}

/-! ### _law_taken_off -/
abbrev s__law_taken_off : Stmt := topS 23
theorem sc__law_taken_off : FnScope ["_law_some", "_law_told_here", "_law_one", "_law_total", "_law_product"] ["_law_some", "_law_told_here"] (defScope s__law_taken_off) := ⟨rfl, rfl, rfl, by decide +kernel, rfl, by decide +kernel, by decide +kernel⟩
def sp_taken (K : PySem.W.Frag) : Sp := fun vs H Q _ => ∃ (L T : Addr) (xs : List V) (fs : List (Int × Int)) (t u : V) (a m : Int × Int), vs = [.ref L, .ref T] ∧ SqL K H L xs ∧ Ats H xs fs ∧ AllF fs ∧ AllB 40 fs ∧ fs.length ≤ 8 ∧ SqL K H T [t, u] ∧ At H t a ∧ At H u m ∧ IsF a ∧ IsF m ∧ Bt 330 a ∧ Bt 330 m ∧
  ∀ (H' : Hp) (p : Addr) (t' u' : V), Same H H' → At H' t' (fs.foldl fsub a) → At H' u' (fs.foldl ddiv m) → H' p = some (.lst [t', u']) → Q (.ref p) H'
theorem ok_taken {f : Addr} {fd : FuncData} (F : Fun K "_law_taken_off" "_law_taken_off" s__law_taken_off f fd) (C_minus : Cal P w K mg base CX0 5 "minus" ["one", "other"] (sp_minus K)) (C_over : Cal P w K mg base CX0 5 "over" ["one", "other"] (sp_over K)) : FnG P w K mg base CX0 6 f fd ["_law_some", "_law_told_here"] (sp_taken K) := by
  refine Gfun F sc__law_taken_off (fun vs H Q E h => ?_) (fun cdv A outer s H vs Q E hg hr h => ?_)
  · obtain ⟨L, T, xs, fs, t, u, a, m, rfl, _⟩ := h
    rfl
  · obtain ⟨L, T, xs, fs, t, u, a, m, rfl, hS, hA, hF, hB, hlen, hT, hta, hum, fa, fm, ba, bm, k⟩ := h
    refine ⟨_, (pss_cons (ps_asg (pv 1) (pg_lst rfl (pgs_cons (pg_name (i := 3) sc__law_taken_off.nd rfl (.inl rfl)) (pgs_cons (pg_name (i := 4) sc__law_taken_off.nd rfl (.inl rfl)) pgs_nil))))
      (pss_cons (ps_for PassesOwn.never rfl (pi_list (pv 0)) (pg_name (i := 2) sc__law_taken_off.nd rfl (.inl rfl))
      (pss_cons (ps_set (i := 3) sc__law_taken_off.nd rfl (.inl rfl) (pe_g C_minus (hr.mono (by decide)) hg (pa_cons (pv 3) (pa_cons (pv 2) pa_nil))))
      (pss_one (ps_if (PW.pt (pw_and (pt_cmpR op_ne (pe_ix ix_tup (pv 2) pe_int (fun _ _ => rfl)) pe_int (nomark _)) (pw_and1 (pt_cmpR op_ne (pe_ix ix_tup (pv 4) pe_int (fun _ _ => rfl)) pe_int (nomark _)))))
      (pss_one (ps_set (i := 4) sc__law_taken_off.nd rfl (.inl rfl) (pe_g C_over (hr.mono (by decide)) hg (pa_cons (pv 4) (pa_cons (pv 2) pa_nil)))))
      pss_nil))))
      (pss_one (ps_ret (pe_lst (pa_cons (pv 3) (pa_cons (pv 4) pa_nil))))))), ?_⟩
    refine ⟨_, rfl, T, _, rfl, hT, rfl, _, _, rfl, _, _, rfl, rfl, ?_⟩
    refine ⟨_, rfl, L, rfl, ⟨_, hS⟩, for_list (K := K) (a := L) (xs := xs) (fun i σ H' => ∃ (v : Option V) (t u : V), σ = [some (.ref L), some (.ref T), v, some t, some u] ∧ Same H H' ∧ At H' t ((fs.take i).foldl fsub a) ∧ At H' u ((fs.take i).foldl ddiv m))
      ⟨none, t, u, rfl, same_rfl, hta, hum⟩ (fun i σ H' _ ⟨_, _, _, _, sm, _⟩ => sm.seq hS) ?_ ?_⟩
    · rintro i x σ H' hi ⟨v, t1, u1, rfl, sm, ht, hu⟩
      obtain ⟨g, hgi, hx0⟩ := hA.get hi
      have hx := hx0.same sm
      have hgf : IsF g := hF g (List.mem_of_getElem? hgi)
      have bg : Bt 40 g := hB g (List.mem_of_getElem? hgi)
      have hil : i < fs.length := (List.getElem?_eq_some_iff.mp hgi).1
      have htl : (fs.take i).length = i := by rw [List.length_take]; omega
      have hle : 330 + (40 + 1) * i ≤ 900 := by omega
      have fa' := (sub_fold (fs.take i) a fa (take_all hF i)).1
      have ba' := sub_bt (b := 40) (fs.take i) 330 a fa (take_all hF i) ba (fun f hf => hB f (List.mem_of_mem_take hf))
      have bm' := div_bt (b := 40) (fs.take i) 330 m fm (take_all hF i) bm (fun f hf => hB f (List.mem_of_mem_take hf))
      rw [htl] at ba' bm'
      refine ⟨_, rfl, _, rfl, _, _, _, _, pr_at ht hx fa' hgf ba' bg hle (by decide), fun H2 t' s2 e2 => ?_⟩
      have hx2 := hx.same s2
      have hu2 := hu.same s2
      obtain ⟨px, rfl, ex⟩ := hx2
      obtain ⟨pu, rfl, eu⟩ := hu2
      have nxt : ∀ (H3 : Hp) (u2 : V), Same H2 H3 → At H3 u2 (ddiv ((fs.take i).foldl ddiv m) g) → ∃ (v : Option V) (t u : V), [some (V.ref L), some (V.ref T), some (V.ref px), some (V.ref t'), some u2] = [some (V.ref L), some (V.ref T), v, some t, some u] ∧ Same H H3 ∧ At H3 t ((fs.take (i + 1)).foldl fsub a) ∧ At H3 u ((fs.take (i + 1)).foldl ddiv m) := by
        intro H3 u2 s3 h3
        refine ⟨some (.ref px), .ref t', u2, rfl, (sm.trans s2).trans s3, ?_, ?_⟩
        · rw [fold_take _ _ hgi]
          exact ⟨t', rfl, s3 _ _ e2⟩
        · rw [fold_take _ _ hgi]
          exact h3
      refine ⟨_, rfl, px, _, _, _, rfl, rfl, .inl (.inl ex), rfl, rfl, _, rfl, ?_⟩
      by_cases g0 : g.1 = 0
      · refine iteNS (congrArg V.int g0) (iteF ?_)
        exact nxt H2 (.ref pu) same_rfl (by rw [show ddiv ((fs.take i).foldl ddiv m) g = (fs.take i).foldl ddiv m from if_neg fun z => z.1 g0]; exact ⟨pu, rfl, eu⟩)
      · refine iteN (fun z => g0 (V.int.inj z)) ?_
        refine ⟨_, rfl, pu, _, _, _, rfl, rfl, .inl (.inl eu), rfl, rfl, _, rfl, ?_⟩
        by_cases m0 : ((fs.take i).foldl ddiv m).1 = 0
        · refine iteNS (congrArg V.int m0) ?_
          exact nxt H2 (.ref pu) same_rfl (by rw [show ddiv ((fs.take i).foldl ddiv m) g = (fs.take i).foldl ddiv m from if_neg fun z => z.2 m0]; exact ⟨pu, rfl, eu⟩)
        · refine iteN (fun z => m0 (V.int.inj z)) ?_
          refine ⟨_, rfl, _, rfl, _, _, _, _, pr_at ⟨pu, rfl, eu⟩ ⟨px, rfl, ex⟩ bm'.1 hgf bm'.2 bg hle (by decide), g0, fun H3 u2 s3 e3 => ?_⟩
          exact nxt H3 (.ref u2) s3 (by rw [show ddiv ((fs.take i).foldl ddiv m) g = fdiv ((fs.take i).foldl ddiv m) g from if_pos ⟨g0, m0⟩]; exact ⟨u2, rfl, e3⟩)
    · rintro σ H' ⟨v, t1, u1, rfl, sm, ht, hu⟩
      rw [List.take_of_length_le (by rw [hA.length]; exact Nat.le_refl _)] at ht hu
      refine ⟨_, rfl, _, rfl, len_show (Nat.le_of_ble_eq_true rfl), fun p hp => ?_⟩
      exact k _ p t1 u1 (sm.trans (same_new hp)) (ht.same (same_new hp)) (hu.same (same_new hp)) upd_same

/-! ### _law_spread -/
abbrev s__law_spread : Stmt := topS 24
theorem sc__law_spread : FnScope ["_law_one", "_law_some", "_law_found", "_law_other"] ["_law_one", "_law_some"] (defScope s__law_spread) := ⟨rfl, rfl, rfl, by decide +kernel, rfl, by decide +kernel, by decide +kernel⟩
def sp_spread (K : PySem.W.Frag) : Sp := fun vs H Q _ => ∃ (v : V) (L : Addr) (xs : List V) (x : Int × Int) (fs : List (Int × Int)), vs = [v, .ref L] ∧ At H v x ∧ IsF x ∧ Bt 40 x ∧ SqL K H L xs ∧ Ats H xs fs ∧ AllF fs ∧ AllB 40 fs ∧ fs.length ≤ 8 ∧
  ∀ (H' : Hp) (u : V), Same H H' → At H' u (fs.foldl (fun a f => fadd a (fmul x f)) f0) → Q u H'
theorem ok_spread {f : Addr} {fd : FuncData} (F : Fun K "_law_spread" "_law_spread" s__law_spread f fd) (C_plus : Cal P w K mg base CX0 5 "plus" ["one", "other"] (sp_plus K)) (C_times : Cal P w K mg base CX0 5 "times" ["one", "other"] (sp_times K)) : FnG P w K mg base CX0 6 f fd ["_law_one", "_law_some"] (sp_spread K) := by
  refine Gfun F sc__law_spread (fun vs H Q E h => ?_) (fun cdv A outer s H vs Q E hg hr h => ?_)
  · obtain ⟨v, L, xs, x, fs, rfl, _⟩ := h
    rfl
  · obtain ⟨v, L, xs, x, fs, rfl, hv, fx, bx, hS, hA, hF, hB, hlen, k⟩ := h
    refine ⟨_, (pss_cons (ps_set (i := 2) sc__law_spread.nd rfl (.inl rfl) (pe_tup (pa_cons pe_int (pa_cons pe_int pa_nil))))
      (pss_cons (ps_for PassesOwn.never rfl (pi_list (pv 1)) (pg_name (i := 3) sc__law_spread.nd rfl (.inl rfl))
      (pss_one (ps_set (i := 2) sc__law_spread.nd rfl (.inl rfl) (pe_g C_plus (hr.mono (by decide)) hg (pa_cons (pv 2) (pa_cons (pe_g C_times (hr.mono (by decide)) hg (pa_cons (pv 0) (pa_cons (pv 3) pa_nil))) pa_nil))))))
      (pss_one (ps_ret (pv 2))))), ?_⟩
    refine ⟨len_show (Nat.le_of_ble_eq_true rfl), fun p0 n0 => ?_⟩
    have s0 := same_new (o := .tup [.int 0, .int 1]) n0
    refine ⟨_, rfl, L, rfl, ⟨_, s0.seq hS⟩, for_list (K := K) (a := L) (xs := xs) (fun i σ H' => ∃ (y : Option V) (u : V), σ = [some v, some (.ref L), some u, y] ∧ Same H H' ∧ At H' u ((fs.take i).foldl (fun a f => fadd a (fmul x f)) f0))
      ⟨none, .ref p0, rfl, s0, ⟨p0, rfl, upd_same⟩⟩ (fun i σ H' _ ⟨_, _, _, sm, _⟩ => sm.seq hS) ?_ ?_⟩
    · rintro i z σ H' hi ⟨y, u, rfl, sm, hu⟩
      obtain ⟨g, hgi, hz0⟩ := hA.get hi
      have hz := hz0.same sm
      have hgf : IsF g := hF g (List.mem_of_getElem? hgi)
      have bg : Bt 40 g := hB g (List.mem_of_getElem? hgi)
      have hil : i < fs.length := (List.getElem?_eq_some_iff.mp hgi).1
      have htl : (fs.take i).length = i := by rw [List.length_take]; omega
      have hle : 1 + 81 * i ≤ 900 := by omega
      have ff := (spread_fold x fx (fs.take i) f0 f0_f (take_all hF i)).1
      have bf := spread_bt x fx bx (fs.take i) 1 f0 f0_f (take_all hF i) bt01.1 (fun f hf => hB f (List.mem_of_mem_take hf))
      rw [htl] at bf
      refine ⟨_, rfl, _, rfl, _, rfl, _, _, _, _, pr_at (hv.same sm) hz fx hgf bx bg (by decide) (by decide), fun H2 p2 s2 e2 => ?_⟩
      refine ⟨_, _, _, _, pr_at (hu.same s2) ⟨p2, rfl, e2⟩ ff (fmul_f fx hgf) bf (fmul_bt fx hgf bx bg) hle (by decide), fun H3 p3 s3 e3 => ?_⟩
      refine ⟨some z, .ref p3, rfl, (sm.trans s2).trans s3, ?_⟩
      rw [fold_take _ _ hgi]
      exact ⟨p3, rfl, e3⟩
    · rintro σ H' ⟨y, u, rfl, sm, hu⟩
      rw [List.take_of_length_le (by rw [hA.length]; exact Nat.le_refl _)] at hu
      exact ⟨_, rfl, k _ u sm hu⟩

/-! ### _law_are_ordered -/
abbrev s__law_are_ordered : Stmt := topS 25
theorem sc__law_are_ordered : FnScope ["_law_some", "_law_one", "_law_other", "_law_due"] ["_law_some"] (defScope s__law_are_ordered) := ⟨rfl, rfl, rfl, by decide +kernel, rfl, by decide +kernel, by decide +kernel⟩
def sp_ordered (K : PySem.W.Frag) : Sp := fun vs H Q _ => ∃ (L : Addr) (xs : List V) (fs : List (Int × Int)), vs = [.ref L] ∧ SqL K H L xs ∧ Ats H xs fs ∧ AllF fs ∧ AllB 330 fs ∧ ∀ H', Same H H' → Q (.bl true) H'
theorem ok_ordered {f : Addr} {fd : FuncData} (M : Blt mg) (F : Fun K "_law_are_ordered" "_law_are_ordered" s__law_are_ordered f fd) (C_is_less : Cal P w K mg base CX0 1 "is_less" ["one", "other"] (sp_is_less K)) : FnG P w K mg base CX0 2 f fd ["_law_some"] (sp_ordered K) := by
  refine Gfun F sc__law_are_ordered (fun vs H Q E h => ?_) (fun cdv A outer s H vs Q E hg hr h => ?_)
  · obtain ⟨L, xs, fs, rfl, _⟩ := h
    rfl
  · obtain ⟨L, xs, fs, rfl, hS, hA, hF, hB, k⟩ := h
    refine ⟨_, (pss_cons (ps_for PassesOwn.never rfl (pi_list (pv 0)) (pg_name (i := 1) sc__law_are_ordered.nd rfl (.inl rfl))
      (pss_one (ps_for PassesOwn.never rfl (pi_list (pv 0)) (pg_name (i := 2) sc__law_are_ordered.nd rfl (.inl rfl))
      (pss_cons (ps_set (i := 3) sc__law_are_ordered.nd rfl (.inl rfl) (pe_lst (pa_cons (pe_cmpR op_lt (pe_op op_mulW (pe_ix ix_tup (pv 1) pe_int (fun _ _ => rfl)) (pe_ix ix_tup (pv 2) pe_int (fun _ _ => rfl))) (pe_op op_mulW (pe_ix ix_tup (pv 2) pe_int (fun _ _ => rfl)) (pe_ix ix_tup (pv 1) pe_int (fun _ _ => rfl))) (nomark _)) (pa_cons (pe_cmpR op_lt (pe_op op_mulW (pe_ix ix_tup (pv 2) pe_int (fun _ _ => rfl)) (pe_ix ix_tup (pv 1) pe_int (fun _ _ => rfl))) (pe_op op_mulW (pe_ix ix_tup (pv 1) pe_int (fun _ _ => rfl)) (pe_ix ix_tup (pv 2) pe_int (fun _ _ => rfl))) (nomark _)) pa_nil))))
      (pss_one (ps_if (pt_cmpR op_ne (pe_callB (call_show hg hr) rfl M.repr bt_repr (pa_cons (pe_lst (pa_cons (pe_g C_is_less (hr.mono (by decide)) hg (pa_cons (pv 1) (pa_cons (pv 2) pa_nil))) (pa_cons (pe_g C_is_less (hr.mono (by decide)) hg (pa_cons (pv 2) (pa_cons (pv 1) pa_nil))) pa_nil))) pa_nil)) (pe_callB (call_show hg hr) rfl M.repr bt_repr (pa_cons (pv 3) pa_nil)) (nomark _))
      (pss_one (ps_ret pe_bl))
      pss_nil))))))
      (pss_one (ps_ret pe_bl))), ?_⟩
    refine ⟨_, rfl, L, rfl, ⟨_, hS⟩, for_list (K := K) (a := L) (xs := xs) (fun i σ H' => ∃ (y1 y2 y3 : Option V), σ = [some (.ref L), y1, y2, y3] ∧ Same H H') ⟨none, none, none, rfl, same_rfl⟩ (fun i σ H' _ ⟨_, _, _, _, sm⟩ => sm.seq hS) ?_ ?_⟩
    · rintro i x σ H1 hi ⟨y1, y2, y3, rfl, sm1⟩
      obtain ⟨g, hgi, hx0⟩ := hA.get hi
      have hgf : IsF g := hF g (List.mem_of_getElem? hgi)
      have bg : Bt 330 g := hB g (List.mem_of_getElem? hgi)
      refine ⟨_, rfl, L, rfl, ⟨_, sm1.seq hS⟩, for_list (K := K) (a := L) (xs := xs) (fun j σ H' => ∃ (y2 y3 : Option V), σ = [some (.ref L), some x, y2, y3] ∧ Same H H') ⟨y2, y3, rfl, sm1⟩ (fun j σ H' _ ⟨_, _, _, sm⟩ => sm.seq hS) ?_ ?_⟩
      · rintro j z σ H2 hj ⟨z2, z3, rfl, sm2⟩
        obtain ⟨l, hlj, hz0⟩ := hA.get hj
        have hlf : IsF l := hF l (List.mem_of_getElem? hlj)
        have bl : Bt 330 l := hB l (List.mem_of_getElem? hlj)
        obtain ⟨px, rfl, ex⟩ := hx0.same sm2
        obtain ⟨pz, rfl, ez⟩ := hz0.same sm2
        have SX : SqT K H2 px [.int g.1, .int g.2] := .inl (.inl ex)
        have SZ : SqT K H2 pz [.int l.1, .int l.2] := .inl (.inl ez)
        have g1 := bg.sm (show 330 ≤ 900 by decide)
        have l1 := bl.sm (show 330 ≤ 900 by decide)
        refine ⟨_, rfl, px, _, _, _, rfl, rfl, SX, rfl, _, rfl, pz, _, _, _, rfl, rfl, SZ, rfl, _, _, rfl, rfl, Sm.mulW g1.1 l1.2, _, rfl, pz, _, _, _, rfl, rfl, SZ, rfl, _, rfl, px, _, _, _, rfl, rfl, SX, rfl, _, _, rfl, rfl, Sm.mulW l1.1 g1.2, _, _, rfl, rfl, ?_⟩
        refine ⟨_, rfl, pz, _, _, _, rfl, rfl, SZ, rfl, _, rfl, px, _, _, _, rfl, rfl, SX, rfl, _, _, rfl, rfl, Sm.mulW l1.1 g1.2, _, rfl, px, _, _, _, rfl, rfl, SX, rfl, _, rfl, pz, _, _, _, rfl, rfl, SZ, rfl, _, _, rfl, rfl, Sm.mulW g1.1 l1.2, _, _, rfl, rfl, ?_⟩
        refine ⟨len_show (Nat.le_of_ble_eq_true rfl), fun m1 f1 => ?_⟩
        have s3 := same_new (o := .lst [.bl (decide (g.1 * l.2 < l.1 * g.2)), .bl (decide (l.1 * g.2 < g.1 * l.2))]) f1
        have e3 := upd_same (H := H2) (a := m1) (o := .lst [.bl (decide (g.1 * l.2 < l.1 * g.2)), .bl (decide (l.1 * g.2 < g.1 * l.2))])
        generalize upd H2 m1 (.lst [.bl (decide (g.1 * l.2 < l.1 * g.2)), .bl (decide (l.1 * g.2 < g.1 * l.2))]) = H3 at s3 e3 ⊢
        have ax : At H3 (.ref px) g := ⟨px, rfl, s3 _ _ ex⟩
        have az : At H3 (.ref pz) l := ⟨pz, rfl, s3 _ _ ez⟩
        refine ⟨_, rfl, _, rfl, _, _, _, _, pr_at ax az hgf hlf bg bl (by decide) (by decide), ?_⟩
        refine ⟨_, rfl, _, rfl, _, _, _, _, pr_at az ax hlf hgf bl bg (by decide) (by decide), ?_⟩
        refine ⟨len_show (Nat.le_of_ble_eq_true rfl), fun m2 f2 => ?_⟩
        have S2 : Showy (.list [.bool (decide (g.1 * l.2 < l.1 * g.2)), .bool (decide (l.1 * g.2 < g.1 * l.2))]) := (Ft.list (.cons (.bool _) (.cons (.bool _) .nil))).showy
        refine ⟨m2, _, rfl, .lst (.inl (.inl upd_same)) (.cons (.bl _) (.cons (.bl _) .nil)), S2.sh, S2.nd, S2.dp, S2.ln, ?_⟩
        refine ⟨_, rfl, m1, _, rfl, .lst (.inl (.inl (same_new f2 _ _ e3))) (.cons (.bl _) (.cons (.bl _) .nil)), S2.sh, S2.nd, S2.dp, S2.ln, rfl, _, rfl, iteNS rfl ?_⟩
        exact ⟨_, _, rfl, (sm2.trans s3).trans (same_new f2)⟩
      · rintro σ H2 ⟨z2, z3, rfl, sm2⟩
        exact ⟨_, _, _, rfl, sm2⟩
    · rintro σ H1 ⟨y1, y2, y3, rfl, sm1⟩
      exact k _ sm1

end
end Lf

set_option Elab.async false
set_option linter.all false
set_option maxRecDepth 100000
set_option maxHeartbeats 4000000
set_option exponentiation.threshold 3000
namespace Lf
open PySem PySem.Spec PyProof.Rows L2
theorem At.upd {H : Hp} {D : Addr} {o : HO} {ys : List V} {v : V} {f : Int × Int} (hD : H D = some (.lst ys)) (h : At H v f) : At (upd H D o) v f := by
  obtain ⟨p, e, q⟩ := h
  refine ⟨p, e, ?_⟩
  rw [upd_ne (fun z => by rw [z, hD] at q; cases q)]
  exact q
theorem Ats.app {H : Hp} : ∀ {vs us : List V} {fs gs : List (Int × Int)}, Ats H vs fs → Ats H us gs → Ats H (vs ++ us) (fs ++ gs)
  | _, _, _, _, .nil, h => h
  | _, _, _, _, .cons a r, h => .cons a (Ats.app r h)
/-- a list of fractions is no pot -/
theorem Ats.ne {H : Hp} {p q : Addr} {vs : List V} {fs : List (Int × Int)} (h : Ats H vs fs) (e : H p = some (.lst vs)) (hP : Pot H q) (h0 : 0 < vs.length) : p ≠ q := fun z => by
  obtain ⟨x, y, _, _, eP⟩ := hP
  rw [z, eP] at e
  have e' : [V.int x, V.int y] = vs := by injection (Option.some.inj e)
  subst e'
  cases h with
  | cons a _ =>
    obtain ⟨p, e, _⟩ := a
    cases e
theorem tn_two {t : Int × Int} {k : Nat} (h : Bt k t) (hk : k ≤ 900) : Ft 1802 1 (tD t) := Ft.two (h.sm hk).1 (h.sm hk).2
section
variable {P : Program} {w : World} {K : PySem.W.Frag} {mg : Str → Option Value} {base : Heap}

/-! ### _law_right -/
abbrev s__law_right : Stmt := topS 26
theorem sc__law_right : FnScope ["_law_pot_here", "_law_some", "_law_due", "_law_rest", "_law_turn", "_law_turned_here", "_law_told_here", "_law_k"] ["_law_pot_here"] (defScope s__law_right) := ⟨rfl, rfl, rfl, by decide +kernel, rfl, by decide +kernel, by decide +kernel⟩
def sp_right : Sp := fun vs H Q _ => ∃ (q : Addr), vs = [.ref q] ∧ Pot H q ∧ ∀ H', But q H H' → Q (.bl true) H'
set_option maxHeartbeats 16000000 in
theorem ok_right {f : Addr} {fd : FuncData} (M : Blt mg) (F : Fun K "_law_right" "_law_right" s__law_right f fd)
    (C__law_draw : Cal P w K mg base CX0 1 "_law_draw" ["_law_pot_here", "_law_many"] (sp_draw)) (C__law_fraction : Cal P w K mg base CX0 2 "_law_fraction" ["_law_pot_here"] (sp_fraction)) (C__law_reckoned : Cal P w K mg base CX0 3 "_law_reckoned" ["_law_some"] (sp_reckoned K)) (C__law_turned : Cal P w K mg base CX0 2 "_law_turned" ["_law_pot_here", "_law_some"] (sp_turned K)) (C__law_told : Cal P w K mg base CX0 6 "_law_told" ["_law_some"] (sp_told K))
    (C__law_taken_off : Cal P w K mg base CX0 6 "_law_taken_off" ["_law_some", "_law_told_here"] (sp_taken K)) (C__law_spread : Cal P w K mg base CX0 6 "_law_spread" ["_law_one", "_law_some"] (sp_spread K)) (C_fraction_text : Cal P w K mg base CX0 1 "fraction_text" ["one"] (sp_fraction_text K)) (C__law_text : Cal P w K mg base CX0 1 "_law_text" ["_law_one"] (sp_text K)) (C__law_are_ordered : Cal P w K mg base CX0 2 "_law_are_ordered" ["_law_some"] (sp_ordered K)) :
    FnG P w K mg base CX0 7 f fd ["_law_pot_here"] sp_right := by
  refine Gfun F sc__law_right (fun vs H Q E h => ?_) (fun cdv A outer s H vs Q E hg hr h => ?_)
  · obtain ⟨q, rfl, _⟩ := h
    rfl
  · obtain ⟨q, rfl, hP, k⟩ := h
    refine ⟨_, (pss_cons (ps_setLc (i := 1) (own := [("_law_k", 7)]) (g := gName 7) (tt := tYes) rfl sc__law_right.nd rfl rfl (sw_true rfl rfl rfl (by decide +kernel)) (pi_range1 rfl M.range (pa_cons (pe_op op_add pe_int (pe_g C__law_draw (hr.mono (by decide)) hg (pa_cons (pv 0) (pa_cons pe_int pa_nil)))) pa_nil)) (blkOk_by (N := ["_law_pot_here", "_law_some", "_law_due", "_law_rest", "_law_turn", "_law_turned_here", "_law_told_here", "_law_k"]) (sc := defScope s__law_right) (by decide +kernel)) (fun _ _ _ _ _ => pg_name (i := 7) sc__law_right.nd rfl (Or.inl rfl)) (fun _ _ _ _ _ => pts_nil) (fun _ _ _ _ _ => (pe_g C__law_fraction (hr.mono (by decide)) hg (pa_cons (pv 0) pa_nil))))
      (pss_cons (ps_set (i := 2) sc__law_right.nd rfl (.inl rfl) (pe_g C__law_reckoned (hr.mono (by decide)) hg (pa_cons (pv 1) pa_nil)))
      (pss_cons (ps_set (i := 3) sc__law_right.nd rfl (.inl rfl) (pe_lst (pa_cons (pe_tup (pa_cons pe_int (pa_cons pe_int pa_nil))) (pa_cons (pe_ix ix_list (pe_lst (pa_cons (pe_tup (pa_cons pe_int (pa_cons pe_int pa_nil))) (pa_cons (pe_tup (pa_cons pe_int (pa_cons pe_int pa_nil))) pa_nil))) (pe_callTy call_int1 rfl M.int bt_int (pa_cons (pe_cmpR (op_inD (u65 hr)) (pe_tup (pa_cons pe_int (pa_cons pe_int pa_nil))) (pv 1) rfl) pa_nil)) (fun _ _ => rfl)) pa_nil))))
      (pss_cons (ps_for PassesOwn.never rfl (pi_range1 rfl M.range (pa_cons pe_int pa_nil)) (pg_name (i := 4) sc__law_right.nd rfl (.inl rfl))
      (pss_cons (ps_set (i := 5) sc__law_right.nd rfl (.inl rfl) (pe_g C__law_turned (hr.mono (by decide)) hg (pa_cons (pv 0) (pa_cons (pv 1) pa_nil))))
      (pss_cons (ps_set (i := 6) sc__law_right.nd rfl (.inl rfl) (pe_g C__law_told (hr.mono (by decide)) hg (pa_cons (pv 5) pa_nil)))
      (pss_cons (ps_if (PW.pt (pw_or (pt_cmpR op_ne (pe_callB (call_show hg hr) rfl M.repr bt_repr (pa_cons (pv 6) pa_nil)) (pe_callB (call_show hg hr) rfl M.repr bt_repr (pa_cons (pv 2) pa_nil)) (nomark _)) (pw_or1 (pt_cmpR op_ne (pe_callB (call_show hg hr) rfl M.repr bt_repr (pa_cons (pe_g C__law_taken_off (hr.mono (by decide)) hg (pa_cons (pe_g C__law_turned (hr.mono (by decide)) hg (pa_cons (pv 0) (pa_cons (pv 1) pa_nil))) (pa_cons (pv 6) pa_nil))) pa_nil)) (pe_callB (call_show hg hr) rfl M.repr bt_repr (pa_cons (pv 3) pa_nil)) (nomark _)))))
      (pss_one (ps_ret pe_bl))
      pss_nil)
      (pss_cons (ps_if (pt_cmpR op_ne (pe_callB (call_show hg hr) rfl M.repr bt_repr (pa_cons (pe_g C__law_spread (hr.mono (by decide)) hg (pa_cons (pe_ix ix_list (pv 5) pe_int (fun _ _ => rfl)) (pa_cons (pv 1) pa_nil))) pa_nil)) (pe_callB (call_show hg hr) rfl M.repr bt_repr (pa_cons (pe_ix ix_list (pe_g C__law_reckoned (hr.mono (by decide)) hg (pa_cons (pe_lst (pa_cons (pe_ix ix_list (pv 5) pe_int (fun _ _ => rfl)) (pa_cons (pe_ix ix_list (pv 2) pe_int (fun _ _ => rfl)) pa_nil))) pa_nil)) pe_int (fun _ _ => rfl)) pa_nil)) (nomark _))
      (pss_one (ps_ret pe_bl))
      pss_nil)
      (pss_one (ps_if (pt_cmpR op_ne (pe_g C_fraction_text (hr.mono (by decide)) hg (pa_cons (pe_ix ix_list (pv 6) pe_int (fun _ _ => rfl)) pa_nil)) (pe_g C__law_text (hr.mono (by decide)) hg (pa_cons (pe_ix ix_list (pv 2) pe_int (fun _ _ => rfl)) pa_nil)) (nomark _))
      (pss_one (ps_ret pe_bl))
      pss_nil)))))))
      (pss_one (ps_ret (pe_g C__law_are_ordered (hr.mono (by decide)) hg (pa_cons (pe_op op_cat (pv 1) (pv 2)) pa_nil)))))))), ?_⟩
    refine ⟨_, rfl, q, 8, rfl, by decide, by decide, hP, fun r0 H1 h0 h1 hP1 b1 => ?_⟩
    refine ⟨_, _, rfl, rfl, _, rfl, by omega, by omega, fun D hD => ?_⟩
    have nDq : D ≠ q := fun z => by
      obtain ⟨x, y, _, _, e⟩ := hP1
      rw [← z, hD] at e
      cases e
    generalize hN : Int.toNat _ = N
    have hN1 : 1 ≤ N ∧ N ≤ 8 := by
      rw [← hN]
      omega
    refine lc_range (lo := 0) (n := N) (fun i H' => ∃ (xs : List V) (fs : List (Int × Int)), H' D = some (.lst xs) ∧ xs.length = i ∧ Ats H' xs fs ∧ AllF fs ∧ AllB 40 fs ∧ Pot H' q ∧ But q H H')
      ⟨[], [], upd_same, rfl, .nil, (fun _ h => nomatch h), (fun _ h => nomatch h), hP1.same (same_new hD), b1.same (same_new hD)⟩ ?_ ?_
    · rintro i H2 hi ⟨xs, fs, eD, hl, hA, hF, hB, hP2, b2⟩
      refine ⟨rfl, _, rfl, q, rfl, hP2, fun g p H3 gF gB hP3 b3 e3 => ?_⟩
      have eD3 : H3 D = some (.lst xs) := b3 _ _ nDq eD
      refine ⟨xs, eD3, by rw [sizeLine_eq]; omega, xs ++ [.ref p], fs ++ [g], upd_same, ?_, ?_, ?_, ?_, ?_, ?_⟩
      · rw [List.length_append, hl]
        rfl
      · exact Ats.app (Ats.map (fun v f h => (h.but b3 hP2).upd eD3) hA) (.cons (At.upd eD3 ⟨p, rfl, e3⟩) .nil)
      · intro f hf
        rcases List.mem_append.mp hf with z | z
        · exact hF f z
        · rw [List.mem_singleton.mp z]
          exact gF
      · intro f hf
        rcases List.mem_append.mp hf with z | z
        · exact hB f z
        · rw [List.mem_singleton.mp z]
          exact gB
      · obtain ⟨x, y, y0, y1, eP⟩ := hP3
        refine ⟨x, y, y0, y1, ?_⟩
        rw [upd_ne nDq.symm]
        exact eP
      · intro b o nb eb
        rw [upd_ne (fun z => ?_)]
        · exact b3 _ _ nb (b2 _ _ nb eb)
        · have := b1 _ _ nb eb
          rw [z, hD] at this
          cases this
    rintro H2 ⟨xs, fs, eD, hl, hA, hF, hB, hP2, b2⟩
    have hfl : fs.length = N := hA.length.symm.trans hl
    have hpos : 0 < xs.length := by omega
    -- due
    refine ⟨_, rfl, D, xs, fs, 40, rfl, .inl (.inl eD), hA, hF, hB, by decide, by omega, fun H3 p3 t3 u3 s3 ht3 hu3 e3 => ?_⟩
    have sF := (sum_fold fs f0 f0_f hF).1
    have mF := (mul_fold fs Lf.f1 f1_f hF).1
    have sB : Bt 330 (fs.foldl fadd f0) := (add_bt (b := 40) fs 1 f0 f0_f hF bt01.1 hB).mono (by omega)
    have mB : Bt 330 (fs.foldl fmul Lf.f1) := (mul_bt (b := 40) fs 1 Lf.f1 f1_f hF bt01.2 hB).mono (by omega)
    -- rest
    refine ⟨len_show (Nat.le_of_ble_eq_true rfl), fun z0 n0 => ?_⟩
    refine ⟨len_show (Nat.le_of_ble_eq_true rfl), fun z1 n1 => ?_⟩
    refine ⟨len_show (Nat.le_of_ble_eq_true rfl), fun z2 n2 => ?_⟩
    refine ⟨len_show (Nat.le_of_ble_eq_true rfl), fun l1 nl1 => ?_⟩
    refine ⟨len_show (Nat.le_of_ble_eq_true rfl), fun z3 n3 => ?_⟩
    have sa := same_new (o := .tup [.int 0, .int 1]) n0
    have sb := same_new (o := .tup [.int 1, .int 1]) n1
    have sc := same_new (o := .tup [.int 0, .int 1]) n2
    have sd := same_new (o := .lst [.ref z1, .ref z2]) nl1
    have se := same_new (o := .tup [.int 0, .int 1]) n3
    have a0 : At (upd (upd (upd (upd (upd H3 z0 (.tup [.int 0, .int 1])) z1 (.tup [.int 1, .int 1])) z2 (.tup [.int 0, .int 1])) l1 (.lst [.ref z1, .ref z2])) z3 (.tup [.int 0, .int 1])) (.ref z0) f0 := ⟨z0, rfl, se _ _ (sd _ _ (sc _ _ (sb _ _ upd_same)))⟩
    have a1 : At (upd (upd (upd (upd (upd H3 z0 (.tup [.int 0, .int 1])) z1 (.tup [.int 1, .int 1])) z2 (.tup [.int 0, .int 1])) l1 (.lst [.ref z1, .ref z2])) z3 (.tup [.int 0, .int 1])) (.ref z1) Lf.f1 := ⟨z1, rfl, se _ _ (sd _ _ (sc _ _ upd_same))⟩
    have a2 : At (upd (upd (upd (upd (upd H3 z0 (.tup [.int 0, .int 1])) z1 (.tup [.int 1, .int 1])) z2 (.tup [.int 0, .int 1])) l1 (.lst [.ref z1, .ref z2])) z3 (.tup [.int 0, .int 1])) (.ref z2) f0 := ⟨z2, rfl, se _ _ (sd _ _ upd_same)⟩
    have a3 : At (upd (upd (upd (upd (upd H3 z0 (.tup [.int 0, .int 1])) z1 (.tup [.int 1, .int 1])) z2 (.tup [.int 0, .int 1])) l1 (.lst [.ref z1, .ref z2])) z3 (.tup [.int 0, .int 1])) (.ref z3) f0 := ⟨z3, rfl, upd_same⟩
    have al : (upd (upd (upd (upd (upd H3 z0 (.tup [.int 0, .int 1])) z1 (.tup [.int 1, .int 1])) z2 (.tup [.int 0, .int 1])) l1 (.lst [.ref z1, .ref z2])) z3 (.tup [.int 0, .int 1])) l1 = some (.lst [.ref z1, .ref z2]) := se _ _ upd_same
    have s4 := (((sa.trans sb).trans sc).trans sd).trans se
    generalize (upd (upd (upd (upd (upd H3 z0 (.tup [.int 0, .int 1])) z1 (.tup [.int 1, .int 1])) z2 (.tup [.int 0, .int 1])) l1 (.lst [.ref z1, .ref z2])) z3 (.tup [.int 0, .int 1])) = H4 at a0 a1 a2 a3 al s4 ⊢
    have g24 : Same H2 H4 := s3.trans s4
    have hA4 : Ats H4 xs fs := Ats.map (fun v f h => h.same g24) hA
    refine ⟨_, rfl, tD f0, fs.map tD, a3.dp, .lst (.inl (.inl (g24 _ _ eD))) hA4.dp, tD_shaped f0, tDs_shaped fs, .inr ⟨_, rfl, ?_⟩⟩
    rw [any_f0]
    obtain ⟨zc, hzc, hat⟩ : ∃ zc : V, At H4 zc (if f0 ∈ fs then f0 else Lf.f1) ∧ atI [V.ref z1, V.ref z2] (if decide (f0 ∈ fs) = true then 1 else 0) = some zc := by
      by_cases hz : f0 ∈ fs
      · rw [if_pos hz, decide_eq_true hz]
        exact ⟨.ref z2, a2, rfl⟩
      · rw [if_neg hz, decide_eq_false hz]
        exact ⟨.ref z1, a1, rfl⟩
    refine ⟨l1, _, _, zc, rfl, rfl, .inl (.inl al), hat, ?_⟩
    refine ⟨len_show (Nat.le_of_ble_eq_true rfl), fun l2 nl2 => ?_⟩
    have s5 := same_new (o := .lst [.ref z0, zc]) nl2
    have e5 := upd_same (H := H4) (a := l2) (o := .lst [.ref z0, zc])
    generalize upd H4 l2 (.lst [.ref z0, zc]) = H5 at s5 e5 ⊢
    have hP5 : Pot H5 q := hP2.same (g24.trans s5)
    have b5 : But q H H5 := b2.same (g24.trans s5)
    have eD5 := s5 _ _ (g24 _ _ eD)
    have hA5 : Ats H5 xs fs := Ats.map (fun v f h => h.same s5) hA4
    have e35 := s5 _ _ (s4 _ _ e3)
    have ht5 := (ht3.same s4).same s5
    have hu5 := (hu3.same s4).same s5
    have a05 := a0.same s5
    have hzc5 := hzc.same s5
    have n3q : p3 ≠ q := Ats.ne (.cons ht5 (.cons hu5 .nil)) e35 hP5 (Nat.succ_pos _)
    have n5q : l2 ≠ q := Ats.ne (.cons a05 (.cons hzc5 .nil)) e5 hP5 (Nat.succ_pos _)
    have zF : IsF (if f0 ∈ fs then f0 else Lf.f1) ∧ Bt 1 (if f0 ∈ fs then f0 else Lf.f1) := by
      split
      · exact ⟨f0_f, bt01.1⟩
      · exact ⟨f1_f, bt01.2⟩
    have S2 : Showy (.list [tD (fs.foldl fadd f0), tD (fs.foldl fmul Lf.f1)]) := (Ft.list (.cons (tn_two sB (by decide)) (.cons (tn_two mB (by decide)) .nil))).showy
    have S3 : Showy (.list [tD f0, tD (if f0 ∈ fs then f0 else Lf.f1)]) := (Ft.list (.cons (tn_two bt01.1 (by decide)) (.cons (tn_two zF.2 (by decide)) .nil))).showy
    -- two turns
    refine ⟨2, rfl, by decide, by decide, for_range (lo := 0) (n := 2) (fun i σ H' => ∃ (y4 y5 y6 y7 : Option V), σ = [some (.ref q), some (.ref D), some (.ref p3), some (.ref l2), y4, y5, y6, y7] ∧ Pot H' q ∧ But q H5 H') ⟨_, _, _, _, rfl, hP5, But.rfl⟩ ?_ ?_⟩
    · rintro i σ H6 hi ⟨y4, y5, y6, y7, rfl, hP6, b6⟩
      have hA6 : Ats H6 xs fs := Ats.map (fun v f h => h.but b6 hP5) hA5
      have eD6 := b6 _ _ nDq eD5
      refine ⟨_, rfl, _, rfl, q, D, xs, fs, rfl, hP6, .inl (.inl eD6), hA6, by omega, fun H7 pT ys hpm eT hP7 b7 => ?_⟩
      obtain ⟨gs, hgp, hA7⟩ := Ats.perm hpm (Ats.map (fun v f h => h.but b7 hP6) hA6)
      have gF : AllF gs := fun f hf => hF f (hgp.mem_iff.mp hf)
      have gB : AllB 40 gs := fun f hf => hB f (hgp.mem_iff.mp hf)
      have gl : gs.length = fs.length := hgp.length_eq
      refine ⟨_, rfl, pT, ys, gs, 40, rfl, .inl (.inl eT), hA7, gF, gB, by decide, by omega, fun H8 pO tO uO s8 hto huo e8 => ?_⟩
      rw [sum_same hgp gF] at hto
      rw [mul_same hgp gF] at huo
      have b58 : But q H5 H8 := (b6.trans b7).same s8
      have hP8 := hP7.same s8
      have e38 := b58 _ _ n3q e35
      refine ⟨_, rfl, pO, _, rfl, .lst (.inl (.inl e8)) (.cons hto.dp (.cons huo.dp .nil)), S2.sh, S2.nd, S2.dp, S2.ln, ?_⟩
      refine ⟨_, rfl, p3, _, rfl, .lst (.inl (.inl e38)) (.cons (ht5.but b58 hP5).dp (.cons (hu5.but b58 hP5).dp .nil)), S2.sh, S2.nd, S2.dp, S2.ln, rfl, _, rfl, iteNS rfl ?_⟩
      -- taken off
      have hA8 : Ats H8 xs fs := Ats.map (fun v f h => h.but b58 hP5) hA5
      have eD8 := b58 _ _ nDq eD5
      refine ⟨_, rfl, _, rfl, q, D, xs, fs, rfl, hP8, .inl (.inl eD8), hA8, by omega, fun H9 pT2 ys2 hpm2 eT2 hP9 b9 => ?_⟩
      obtain ⟨gs2, hgp2, hA9⟩ := Ats.perm hpm2 (Ats.map (fun v f h => h.but b9 hP8) hA8)
      have gF2 : AllF gs2 := fun f hf => hF f (hgp2.mem_iff.mp hf)
      have gB2 : AllB 40 gs2 := fun f hf => hB f (hgp2.mem_iff.mp hf)
      have gl2 : gs2.length = fs.length := hgp2.length_eq
      have nOq : pO ≠ q := Ats.ne (.cons hto (.cons huo .nil)) e8 hP8 (Nat.succ_pos _)
      have eO9 := b9 _ _ nOq e8
      have hto9 := hto.but b9 hP8
      have huo9 := huo.but b9 hP8
      refine ⟨_, rfl, pT2, pO, ys2, gs2, tO, uO, _, _, rfl, .inl (.inl eT2), hA9, gF2, gB2, by omega, .inl (.inl eO9), hto9, huo9, sF, mF, sB, mB, fun H10 p10 t10 u10 s10 ht10 hu10 e10 => ?_⟩
      rw [sub_none hgp2.symm hF] at ht10
      rw [div_none hgp2.symm hF] at hu10
      refine ⟨p10, _, rfl, .lst (.inl (.inl e10)) (.cons ht10.dp (.cons hu10.dp .nil)), S3.sh, S3.nd, S3.dp, S3.ln, ?_⟩
      have b510 : But q H5 H10 := (b58.trans b9).same s10
      have hP10 := hP9.same s10
      refine ⟨_, rfl, l2, _, rfl, .lst (.inl (.inl (b510 _ _ n5q e5))) (.cons (a05.but b510 hP5).dp (.cons (hzc5.but b510 hP5).dp .nil)), S3.sh, S3.nd, S3.dp, S3.ln, rfl, _, rfl, iteNS rfl ?_⟩
      -- spread
      have nTq : pT ≠ q := Ats.ne hA7 eT hP7 (by rw [hpm.length_eq]; exact hpos)
      have b710 : But q H7 H10 := ((But.rfl.same s8).trans b9).same s10
      have eT10 := b710 _ _ nTq eT
      obtain ⟨v0, yr, g0, gr, rfl, rfl, hv0⟩ : ∃ v0 yr g0 gr, ys = v0 :: yr ∧ gs = g0 :: gr ∧ At H7 v0 g0 := by
        cases hA7 with
        | nil =>
          have := hpm.length_eq
          simp at this
          omega
        | cons a r => exact ⟨_, _, _, _, rfl, rfl, a⟩
      have g0F := gF g0 List.mem_cons_self
      have g0B := gB g0 List.mem_cons_self
      have hv10 := hv0.but b710 hP7
      have hA10 : Ats H10 xs fs := Ats.map (fun v f h => h.but b510 hP5) hA5
      refine ⟨_, rfl, pT, _, 0, v0, rfl, rfl, .inl (.inl eT10), atI_nat (j := 0) rfl, _, rfl, v0, D, xs, g0, fs, rfl, hv10, g0F, g0B, .inl (.inl (b510 _ _ nDq eD5)), hA10, hF, hB, by omega, fun H11 u11 s11 h11 => ?_⟩
      rw [spread_same g0F hF] at h11
      have pF := fmul_f (fmul_f f1_f g0F) sF
      have pB : Bt 500 (fmul (fmul Lf.f1 g0) (fs.foldl fadd f0)) := (fmul_bt (fmul_f f1_f g0F) sF (fmul_bt f1_f g0F bt01.2 g0B) sB).mono (by decide)
      have S4 : Showy (tD (fmul (fmul Lf.f1 g0) (fs.foldl fadd f0))) := (tn_two pB (by decide)).showy
      obtain ⟨pa, rfl, ea⟩ := h11
      refine ⟨pa, _, rfl, dp2' ea, S4.sh, S4.nd, S4.dp, S4.ln, ?_⟩
      have b511 : But q H5 H11 := b510.same s11
      have eT11 := s11 _ _ eT10
      have e311 := b511 _ _ n3q e35
      refine ⟨_, rfl, pT, _, 0, v0, rfl, rfl, .inl (.inl eT11), atI_nat (j := 0) rfl, _, rfl, p3, _, 0, t3, rfl, rfl, .inl (.inl e311), rfl, len_show (Nat.le_of_ble_eq_true rfl), fun m1 nm1 => ?_⟩
      have s12 := same_new (o := .lst [v0, t3]) nm1
      have ab : AllB 330 [g0, fs.foldl fadd f0] := fun f hf => by
        rcases List.mem_cons.mp hf with z | z
        · rw [z]
          exact g0B.mono (by decide)
        · rw [List.mem_singleton.mp z]
          exact sB
      have af : AllF [g0, fs.foldl fadd f0] := fun f hf => by
        rcases List.mem_cons.mp hf with z | z
        · rw [z]
          exact g0F
        · rw [List.mem_singleton.mp z]
          exact sF
      refine ⟨m1, [v0, t3], [g0, fs.foldl fadd f0], 330, rfl, .inl (.inl upd_same), .cons ((hv10.same s11).same s12) (.cons ((ht5.but b511 hP5).same s12) .nil), af, ab, by decide, (by show 1 + (330 + 1) * 2 ≤ 800; decide), fun H13 p13 t13 u13 s13 ht13 hu13 e13 => ?_⟩
      refine ⟨p13, _, 1, u13, rfl, rfl, .inl (.inl e13), rfl, ?_⟩
      have hu13' : At H13 u13 (fmul (fmul Lf.f1 g0) (fs.foldl fadd f0)) := hu13
      obtain ⟨pb, rfl, eb⟩ := hu13'
      refine ⟨pb, _, rfl, dp2' eb, S4.sh, S4.nd, S4.dp, S4.ln, rfl, _, rfl, iteNS rfl ?_⟩
      -- texts
      have b513 : But q H5 H13 := (b511.same s12).same s13
      have g813 : But q H8 H13 := (((But.rfl.trans b9).same s10).same s11).same (s12.trans s13)
      obtain ⟨pt, rfl, ept⟩ := hto.but g813 hP8
      have eO13 := g813 _ _ nOq e8
      have sm1 := (sB.sm (show 330 ≤ 900 by decide))
      refine ⟨_, rfl, pO, _, 0, _, rfl, rfl, .inl (.inl eO13), rfl, pt, _, _, rfl, .inl (.inl ept), sm1.1, sm1.2, ?_⟩
      obtain ⟨pu, rfl, epu⟩ := ht5.but b513 hP5
      refine ⟨_, rfl, p3, _, 0, _, rfl, rfl, .inl (.inl (b513 _ _ n3q e35)), rfl, pu, _, _, rfl, .inl (.inl epu), sm1.1, sm1.2, fun H14 s14 => ?_⟩
      refine ⟨rfl, _, rfl, iteNS rfl ?_⟩
      refine ⟨_, _, _, _, rfl, ?_, b513.same s14⟩
      exact (((hP10.same s11).same s12).same s13).same s14
    · rintro σ H6 ⟨y4, y5, y6, y7, rfl, hP6, b6⟩
      have eD6 := b6 _ _ nDq eD5
      have e36 := b6 _ _ n3q e35
      refine ⟨_, rfl, _, rfl, D, p3, xs, [t3, u3], rfl, rfl, eD6, e36, ?_, fun m nm => ?_⟩
      · rw [sizeLine_eq]
        show xs.length + 2 ≤ 16777216
        omega
      have s7 := same_new (o := .lst (xs ++ [t3, u3])) nm
      have hA7 : Ats (upd H6 m (.lst (xs ++ [t3, u3]))) (xs ++ [t3, u3]) (fs ++ [fs.foldl fadd f0, fs.foldl fmul Lf.f1]) :=
        Ats.app (Ats.map (fun v f h => (h.but b6 hP5).same s7) hA5) (.cons ((ht5.but b6 hP5).same s7) (.cons ((hu5.but b6 hP5).same s7) .nil))
      refine ⟨m, _, _, rfl, .inl (.inl upd_same), hA7, ?_, ?_, fun H8 s8 => k _ (((b5.trans b6).same s7).same s8)⟩
      · intro f hf
        rcases List.mem_append.mp hf with z | z
        · exact hF f z
        · rcases List.mem_cons.mp z with z | z
          · rw [z]
            exact sF
          · rw [List.mem_singleton.mp z]
            exact mF
      · intro f hf
        rcases List.mem_append.mp hf with z | z
        · exact (hB f z).mono (by decide)
        · rcases List.mem_cons.mp z with z | z
          · rw [z]
            exact sB
          · rw [List.mem_singleton.mp z]
            exact mB

/-! ### law -/
abbrev s_law : Stmt := topS 27
theorem sc_law : FnScope ["_law_script", "_law_k"] ["_law_script"] (defScope s_law) := ⟨rfl, rfl, rfl, by decide +kernel, rfl, by decide +kernel, by decide +kernel⟩
def sp_law (K : PySem.W.Frag) : Sp := fun vs H Q _ => ∃ (a : Addr) (ns : List Int), vs = [.ref a] ∧ SqL K H a (ns.map V.int) ∧ ns.length ≤ 63 ∧ ∀ H', Q (.bl true) H'
theorem all_true : ∀ n : Nat, (List.replicate n true).all id = true
  | 0 => rfl
  | n + 1 => by rw [List.replicate_succ, List.all_cons, all_true n]; rfl
theorem ok_law {f : Addr} {fd : FuncData} (M : Blt mg) (F : Fun K "law" "law" s_law f fd) (C__law_cell : Cal P w K mg base CX0 1 "_law_cell" ["_law_script", "_law_k"] (sp_cell K)) (C__law_pot : Cal P w K mg base CX0 1 "_law_pot" ["_law_cell_here"] sp_pot)
    (C__law_right : Cal P w K mg base CX0 7 "_law_right" ["_law_pot_here"] sp_right) : FnG P w K mg base CX0 8 f fd ["_law_script"] (sp_law K) := by
  refine Gfun F sc_law (fun vs H Q E h => ?_) (fun cdv A outer s H vs Q E hg hr h => ?_)
  · obtain ⟨a, ns, rfl, _⟩ := h
    rfl
  · obtain ⟨a, ns, rfl, hS, hl, k⟩ := h
    refine ⟨_, (pss_one (ps_ret (pe_callB (cr_all rfl) rfl M.all bt_all (pa_cons (pe_lc (own := [("_law_k", 1)]) (g := gName 1) (tt := tYes) rfl sc_law.nd (pi_range1 rfl M.range (pa_cons (pe_callB (call_max2 rfl) rfl M.max bt_max (pa_cons pe_int (pa_cons (pe_callB (call_min2 rfl) rfl M.min bt_min (pa_cons (pe_callB call_len_seq rfl M.len bt_len (pa_cons (pv 0) pa_nil)) (pa_cons pe_int pa_nil))) pa_nil))) pa_nil)) (blkOk_by (N := ["_law_script", "_law_k"]) (sc := defScope s_law) (by decide +kernel)) (fun _ _ _ _ _ => pg_name (i := 1) sc_law.nd rfl (Or.inl rfl)) (fun _ _ _ _ _ => pts_nil) (fun _ _ _ _ _ => (pe_g C__law_right (hr.mono (by decide)) hg (pa_cons (pe_g C__law_pot (hr.mono (by decide)) hg (pa_cons (pe_g C__law_cell (hr.mono (by decide)) hg (pa_cons (pv 0) (pa_cons (pv 1) pa_nil))) pa_nil)) pa_nil)))) pa_nil)))), ?_⟩
    refine ⟨_, rfl, a, _, rfl, .inl hS, _, _, rfl, _, _, rfl, _, rfl, ?_, ?_, fun D hD => ?_⟩
    · split <;> split <;> omega
    · split <;> split <;> omega
    generalize hN : Int.toNat _ = N
    have hN2 : N ≤ 12 := by
      rw [← hN]
      split <;> split <;> omega
    refine lc_range (lo := 0) (n := N) (fun i H' => H' D = some (.lst (List.replicate i (.bl true))) ∧ Same H H') ⟨upd_same, same_new hD⟩ ?_ ?_
    · rintro i H1 hi ⟨hD1, sm1⟩
      refine ⟨rfl, _, rfl, _, rfl, a, ns, i, (by show [V.ref a, V.int (0 + (i : Int))] = _; rw [Int.zero_add]), sm1.seq hS, by omega, fun c => ?_⟩
      refine ⟨c, rfl, fun x y p y0 y1 np => ?_⟩
      refine ⟨p, rfl, ⟨x, y, y0, y1, upd_same⟩, fun H2 bt => ?_⟩
      have sm : Same H1 H2 := fun b o e => bt b o (ne_of_none e np) (by rw [upd_ne (ne_of_none e np)]; exact e)
      refine ⟨List.replicate i (.bl true), sm _ _ hD1, ?_, ?_, fun b o e => ?_⟩
      · rw [List.length_replicate, sizeLine_eq]
        omega
      · rw [upd_same, List.replicate_succ']
      · rw [upd_ne (ne_of_none e hD)]
        exact sm _ _ (sm1 _ _ e)
    · rintro H1 ⟨hD1, _⟩
      refine ⟨D, List.replicate N true, rfl, .inl (.inl ?_), ?_⟩
      · rw [hD1, List.map_replicate]
      · rw [all_true]
        exact k _

end
end Lf

set_option Elab.async false
set_option linter.all false
set_option maxRecDepth 100000
set_option maxHeartbeats 8000000
namespace Lf
open PySem PySem.Spec PyProof.Rows L2
/-- a def as the top left it, and how its arguments come to it -/
structure Df (K : PySem.W.Frag) (mg : Str → Option Value) (x : Str) (st : Stmt) (ps : List Str) (f : Addr) (fd : FuncData) : Prop where
  fn : Fun K x x st f fd
  g : mg x = some (.ref f)
  b1 : ∀ (s : Shared) (us : List Value), us.length = ps.length → BindsTo s fd ⟨us, []⟩ (ps.zip us)
  b2 : ∀ (s : Shared) (us : List Value), us.length = ps.length → BindsTo s fd ⟨[], ps.zip us⟩ (ps.zip us)
  b3 : ∀ (s : Shared) (us : List Value), us.length = ps.length → BindsTo s fd ⟨[], ps.reverse.zip us⟩ (ps.zip us.reverse)
theorem Df.cal {P : Program} {w : World} {K : PySem.W.Frag} {mg : Str → Option Value} {base : Heap} {CX : CXT} {k : Nat} {x : Str} {st : Stmt} {ps : List Str} {f : Addr} {fd : FuncData} {sp : Sp} (D : Df K mg x st ps f fd) (F : FnG P w K mg base CX k f fd ps sp) : Cal P w K mg base CX k x ps sp :=
  ⟨f, fd, F, D.b1, D.b2, D.b3, D.g, D.fn.kp⟩
/-- nothing keeps the promise of nothing -/
theorem FnG.no {P : Program} {w : World} {K : PySem.W.Frag} {mg : Str → Option Value} {base : Heap} {CX : CXT} {k : Nat} {f : Addr} {fd : FuncData} {ps : List Str} : FnG P w K mg base CX k f fd ps (fun _ _ _ _ => False) :=
  ⟨fun _ _ _ _ h => h.elim, fun _ _ _ _ _ _ _ _ _ _ _ _ _ _ h => h.elim⟩
/-- an error of the class at S is what a clause of S names -/
theorem exm_self {K : PySem.W.Frag} {S : Addr} (h1 : PySem.W.subIn K (.ref S) (.type "BaseException") = some true) (h2 : PySem.W.isClsIn K S = true) (h3 : PySem.W.typeIn K (.ref S) = some (.type "type")) (h4 : PySem.W.subIn K (.ref S) (.ref S) = some true) :
    PySem.W.exmOne K (.ref S) (.ref S) = some true := by
  have e1 : (PySem.W.subIn K (.ref S) (.type "BaseException") == some true) = true := by rw [h1] <;> rfl
  have e2 : ((PySem.W.clsIn K S).isSome && PySem.W.typeIn K (.ref S) == some (.type "type")) = true := by
    have h2' : (PySem.W.clsIn K S).isSome = true := h2
    rw [h2', h3] <;> rfl
  show (if (PySem.W.subIn K (.ref S) (.type "BaseException") == some true) = true then (if ((PySem.W.clsIn K S).isSome && PySem.W.typeIn K (.ref S) == some (.type "type")) = true then PySem.W.subIn K (.ref S) (.ref S) else none) else none) = some true
  rw [if_pos e1, if_pos e2]
  exact h4

theorem df_common {K : PySem.W.Frag} {h : Heap} {mg : Str → Option Value} {f : Addr} {od an : Option Addr} {sl : Array (Option Value)} {oc kV dc pm cd ct : Value} (X : K.In h) (G : h.Ns mainGlobals mg) (a : PySem.W.nsIn K mainGlobals "common" = some (some (.ref f)))
    (l : K.lookup f = some ⟨oc, od, .func (PySem.W.fnOf "common" "common" (defArgs sCom) (defBody sCom) (defScope sCom) .none kV dc pm an cd ct), sl⟩) (c : PySem.W.codeIn K cd "common" = true) (k : PySem.W.keepIn K (.ref f) = true) :
    Df K mg "common" sCom ["one", "other"] f (PySem.W.fnOf "common" "common" (defArgs sCom) (defBody sCom) (defScope sCom) .none kV dc pm an cd ct) :=
  ⟨fun_mk l c k, PySem.W.mg_of X G a, fun s us hl => .of_eq (match us, hl with | [_, _], _ => rfl), fun s us hl => .of_eq (match us, hl with | [_, _], _ => rfl), fun s us hl => .of_eq (match us, hl with | [_, _], _ => rfl)⟩

theorem df_fraction {K : PySem.W.Frag} {h : Heap} {mg : Str → Option Value} {f : Addr} {od an : Option Addr} {sl : Array (Option Value)} {oc kV dc pm cd ct : Value} (X : K.In h) (G : h.Ns mainGlobals mg) (a : PySem.W.nsIn K mainGlobals "fraction" = some (some (.ref f)))
    (l : K.lookup f = some ⟨oc, od, .func (PySem.W.fnOf "fraction" "fraction" (defArgs sFrac) (defBody sFrac) (defScope sFrac) .none kV dc pm an cd ct), sl⟩) (c : PySem.W.codeIn K cd "fraction" = true) (k : PySem.W.keepIn K (.ref f) = true) :
    Df K mg "fraction" sFrac ["top", "bottom"] f (PySem.W.fnOf "fraction" "fraction" (defArgs sFrac) (defBody sFrac) (defScope sFrac) .none kV dc pm an cd ct) :=
  ⟨fun_mk l c k, PySem.W.mg_of X G a, fun s us hl => .of_eq (match us, hl with | [_, _], _ => rfl), fun s us hl => .of_eq (match us, hl with | [_, _], _ => rfl), fun s us hl => .of_eq (match us, hl with | [_, _], _ => rfl)⟩

theorem df_plus {K : PySem.W.Frag} {h : Heap} {mg : Str → Option Value} {f : Addr} {od an : Option Addr} {sl : Array (Option Value)} {oc kV dc pm cd ct : Value} (X : K.In h) (G : h.Ns mainGlobals mg) (a : PySem.W.nsIn K mainGlobals "plus" = some (some (.ref f)))
    (l : K.lookup f = some ⟨oc, od, .func (PySem.W.fnOf "plus" "plus" (defArgs s_plus) (defBody s_plus) (defScope s_plus) .none kV dc pm an cd ct), sl⟩) (c : PySem.W.codeIn K cd "plus" = true) (k : PySem.W.keepIn K (.ref f) = true) :
    Df K mg "plus" s_plus ["one", "other"] f (PySem.W.fnOf "plus" "plus" (defArgs s_plus) (defBody s_plus) (defScope s_plus) .none kV dc pm an cd ct) :=
  ⟨fun_mk l c k, PySem.W.mg_of X G a, fun s us hl => .of_eq (match us, hl with | [_, _], _ => rfl), fun s us hl => .of_eq (match us, hl with | [_, _], _ => rfl), fun s us hl => .of_eq (match us, hl with | [_, _], _ => rfl)⟩

theorem df_minus {K : PySem.W.Frag} {h : Heap} {mg : Str → Option Value} {f : Addr} {od an : Option Addr} {sl : Array (Option Value)} {oc kV dc pm cd ct : Value} (X : K.In h) (G : h.Ns mainGlobals mg) (a : PySem.W.nsIn K mainGlobals "minus" = some (some (.ref f)))
    (l : K.lookup f = some ⟨oc, od, .func (PySem.W.fnOf "minus" "minus" (defArgs s_minus) (defBody s_minus) (defScope s_minus) .none kV dc pm an cd ct), sl⟩) (c : PySem.W.codeIn K cd "minus" = true) (k : PySem.W.keepIn K (.ref f) = true) :
    Df K mg "minus" s_minus ["one", "other"] f (PySem.W.fnOf "minus" "minus" (defArgs s_minus) (defBody s_minus) (defScope s_minus) .none kV dc pm an cd ct) :=
  ⟨fun_mk l c k, PySem.W.mg_of X G a, fun s us hl => .of_eq (match us, hl with | [_, _], _ => rfl), fun s us hl => .of_eq (match us, hl with | [_, _], _ => rfl), fun s us hl => .of_eq (match us, hl with | [_, _], _ => rfl)⟩

theorem df_times {K : PySem.W.Frag} {h : Heap} {mg : Str → Option Value} {f : Addr} {od an : Option Addr} {sl : Array (Option Value)} {oc kV dc pm cd ct : Value} (X : K.In h) (G : h.Ns mainGlobals mg) (a : PySem.W.nsIn K mainGlobals "times" = some (some (.ref f)))
    (l : K.lookup f = some ⟨oc, od, .func (PySem.W.fnOf "times" "times" (defArgs s_times) (defBody s_times) (defScope s_times) .none kV dc pm an cd ct), sl⟩) (c : PySem.W.codeIn K cd "times" = true) (k : PySem.W.keepIn K (.ref f) = true) :
    Df K mg "times" s_times ["one", "other"] f (PySem.W.fnOf "times" "times" (defArgs s_times) (defBody s_times) (defScope s_times) .none kV dc pm an cd ct) :=
  ⟨fun_mk l c k, PySem.W.mg_of X G a, fun s us hl => .of_eq (match us, hl with | [_, _], _ => rfl), fun s us hl => .of_eq (match us, hl with | [_, _], _ => rfl), fun s us hl => .of_eq (match us, hl with | [_, _], _ => rfl)⟩

theorem df_over {K : PySem.W.Frag} {h : Heap} {mg : Str → Option Value} {f : Addr} {od an : Option Addr} {sl : Array (Option Value)} {oc kV dc pm cd ct : Value} (X : K.In h) (G : h.Ns mainGlobals mg) (a : PySem.W.nsIn K mainGlobals "over" = some (some (.ref f)))
    (l : K.lookup f = some ⟨oc, od, .func (PySem.W.fnOf "over" "over" (defArgs s_over) (defBody s_over) (defScope s_over) .none kV dc pm an cd ct), sl⟩) (c : PySem.W.codeIn K cd "over" = true) (k : PySem.W.keepIn K (.ref f) = true) :
    Df K mg "over" s_over ["one", "other"] f (PySem.W.fnOf "over" "over" (defArgs s_over) (defBody s_over) (defScope s_over) .none kV dc pm an cd ct) :=
  ⟨fun_mk l c k, PySem.W.mg_of X G a, fun s us hl => .of_eq (match us, hl with | [_, _], _ => rfl), fun s us hl => .of_eq (match us, hl with | [_, _], _ => rfl), fun s us hl => .of_eq (match us, hl with | [_, _], _ => rfl)⟩

theorem df_is_less {K : PySem.W.Frag} {h : Heap} {mg : Str → Option Value} {f : Addr} {od an : Option Addr} {sl : Array (Option Value)} {oc kV dc pm cd ct : Value} (X : K.In h) (G : h.Ns mainGlobals mg) (a : PySem.W.nsIn K mainGlobals "is_less" = some (some (.ref f)))
    (l : K.lookup f = some ⟨oc, od, .func (PySem.W.fnOf "is_less" "is_less" (defArgs s_is_less) (defBody s_is_less) (defScope s_is_less) .none kV dc pm an cd ct), sl⟩) (c : PySem.W.codeIn K cd "is_less" = true) (k : PySem.W.keepIn K (.ref f) = true) :
    Df K mg "is_less" s_is_less ["one", "other"] f (PySem.W.fnOf "is_less" "is_less" (defArgs s_is_less) (defBody s_is_less) (defScope s_is_less) .none kV dc pm an cd ct) :=
  ⟨fun_mk l c k, PySem.W.mg_of X G a, fun s us hl => .of_eq (match us, hl with | [_, _], _ => rfl), fun s us hl => .of_eq (match us, hl with | [_, _], _ => rfl), fun s us hl => .of_eq (match us, hl with | [_, _], _ => rfl)⟩

theorem df_fraction_text {K : PySem.W.Frag} {h : Heap} {mg : Str → Option Value} {f : Addr} {od an : Option Addr} {sl : Array (Option Value)} {oc kV dc pm cd ct : Value} (X : K.In h) (G : h.Ns mainGlobals mg) (a : PySem.W.nsIn K mainGlobals "fraction_text" = some (some (.ref f)))
    (l : K.lookup f = some ⟨oc, od, .func (PySem.W.fnOf "fraction_text" "fraction_text" (defArgs s_fraction_text) (defBody s_fraction_text) (defScope s_fraction_text) .none kV dc pm an cd ct), sl⟩) (c : PySem.W.codeIn K cd "fraction_text" = true) (k : PySem.W.keepIn K (.ref f) = true) :
    Df K mg "fraction_text" s_fraction_text ["one"] f (PySem.W.fnOf "fraction_text" "fraction_text" (defArgs s_fraction_text) (defBody s_fraction_text) (defScope s_fraction_text) .none kV dc pm an cd ct) :=
  ⟨fun_mk l c k, PySem.W.mg_of X G a, fun s us hl => .of_eq (match us, hl with | [_], _ => rfl), fun s us hl => .of_eq (match us, hl with | [_], _ => rfl), fun s us hl => .of_eq (match us, hl with | [_], _ => rfl)⟩

theorem df__law_cell {K : PySem.W.Frag} {h : Heap} {mg : Str → Option Value} {f : Addr} {od an : Option Addr} {sl : Array (Option Value)} {oc kV dc pm cd ct : Value} (X : K.In h) (G : h.Ns mainGlobals mg) (a : PySem.W.nsIn K mainGlobals "_law_cell" = some (some (.ref f)))
    (l : K.lookup f = some ⟨oc, od, .func (PySem.W.fnOf "_law_cell" "_law_cell" (defArgs s__law_cell) (defBody s__law_cell) (defScope s__law_cell) .none kV dc pm an cd ct), sl⟩) (c : PySem.W.codeIn K cd "_law_cell" = true) (k : PySem.W.keepIn K (.ref f) = true) :
    Df K mg "_law_cell" s__law_cell ["_law_script", "_law_k"] f (PySem.W.fnOf "_law_cell" "_law_cell" (defArgs s__law_cell) (defBody s__law_cell) (defScope s__law_cell) .none kV dc pm an cd ct) :=
  ⟨fun_mk l c k, PySem.W.mg_of X G a, fun s us hl => .of_eq (match us, hl with | [_, _], _ => rfl), fun s us hl => .of_eq (match us, hl with | [_, _], _ => rfl), fun s us hl => .of_eq (match us, hl with | [_, _], _ => rfl)⟩

theorem df__law_pot {K : PySem.W.Frag} {h : Heap} {mg : Str → Option Value} {f : Addr} {od an : Option Addr} {sl : Array (Option Value)} {oc kV dc pm cd ct : Value} (X : K.In h) (G : h.Ns mainGlobals mg) (a : PySem.W.nsIn K mainGlobals "_law_pot" = some (some (.ref f)))
    (l : K.lookup f = some ⟨oc, od, .func (PySem.W.fnOf "_law_pot" "_law_pot" (defArgs s__law_pot) (defBody s__law_pot) (defScope s__law_pot) .none kV dc pm an cd ct), sl⟩) (c : PySem.W.codeIn K cd "_law_pot" = true) (k : PySem.W.keepIn K (.ref f) = true) :
    Df K mg "_law_pot" s__law_pot ["_law_cell_here"] f (PySem.W.fnOf "_law_pot" "_law_pot" (defArgs s__law_pot) (defBody s__law_pot) (defScope s__law_pot) .none kV dc pm an cd ct) :=
  ⟨fun_mk l c k, PySem.W.mg_of X G a, fun s us hl => .of_eq (match us, hl with | [_], _ => rfl), fun s us hl => .of_eq (match us, hl with | [_], _ => rfl), fun s us hl => .of_eq (match us, hl with | [_], _ => rfl)⟩

theorem df__law_draw {K : PySem.W.Frag} {h : Heap} {mg : Str → Option Value} {f : Addr} {od an : Option Addr} {sl : Array (Option Value)} {oc kV dc pm cd ct : Value} (X : K.In h) (G : h.Ns mainGlobals mg) (a : PySem.W.nsIn K mainGlobals "_law_draw" = some (some (.ref f)))
    (l : K.lookup f = some ⟨oc, od, .func (PySem.W.fnOf "_law_draw" "_law_draw" (defArgs s__law_draw) (defBody s__law_draw) (defScope s__law_draw) .none kV dc pm an cd ct), sl⟩) (c : PySem.W.codeIn K cd "_law_draw" = true) (k : PySem.W.keepIn K (.ref f) = true) :
    Df K mg "_law_draw" s__law_draw ["_law_pot_here", "_law_many"] f (PySem.W.fnOf "_law_draw" "_law_draw" (defArgs s__law_draw) (defBody s__law_draw) (defScope s__law_draw) .none kV dc pm an cd ct) :=
  ⟨fun_mk l c k, PySem.W.mg_of X G a, fun s us hl => .of_eq (match us, hl with | [_, _], _ => rfl), fun s us hl => .of_eq (match us, hl with | [_, _], _ => rfl), fun s us hl => .of_eq (match us, hl with | [_, _], _ => rfl)⟩

theorem df__law_low {K : PySem.W.Frag} {h : Heap} {mg : Str → Option Value} {f : Addr} {od an : Option Addr} {sl : Array (Option Value)} {oc kV dc pm cd ct : Value} (X : K.In h) (G : h.Ns mainGlobals mg) (a : PySem.W.nsIn K mainGlobals "_law_low" = some (some (.ref f)))
    (l : K.lookup f = some ⟨oc, od, .func (PySem.W.fnOf "_law_low" "_law_low" (defArgs s__law_low) (defBody s__law_low) (defScope s__law_low) .none kV dc pm an cd ct), sl⟩) (c : PySem.W.codeIn K cd "_law_low" = true) (k : PySem.W.keepIn K (.ref f) = true) :
    Df K mg "_law_low" s__law_low ["_law_top", "_law_bottom"] f (PySem.W.fnOf "_law_low" "_law_low" (defArgs s__law_low) (defBody s__law_low) (defScope s__law_low) .none kV dc pm an cd ct) :=
  ⟨fun_mk l c k, PySem.W.mg_of X G a, fun s us hl => .of_eq (match us, hl with | [_, _], _ => rfl), fun s us hl => .of_eq (match us, hl with | [_, _], _ => rfl), fun s us hl => .of_eq (match us, hl with | [_, _], _ => rfl)⟩

theorem df__law_sum {K : PySem.W.Frag} {h : Heap} {mg : Str → Option Value} {f : Addr} {od an : Option Addr} {sl : Array (Option Value)} {oc kV dc pm cd ct : Value} (X : K.In h) (G : h.Ns mainGlobals mg) (a : PySem.W.nsIn K mainGlobals "_law_sum" = some (some (.ref f)))
    (l : K.lookup f = some ⟨oc, od, .func (PySem.W.fnOf "_law_sum" "_law_sum" (defArgs s__law_sum) (defBody s__law_sum) (defScope s__law_sum) .none kV dc pm an cd ct), sl⟩) (c : PySem.W.codeIn K cd "_law_sum" = true) (k : PySem.W.keepIn K (.ref f) = true) :
    Df K mg "_law_sum" s__law_sum ["_law_one", "_law_other"] f (PySem.W.fnOf "_law_sum" "_law_sum" (defArgs s__law_sum) (defBody s__law_sum) (defScope s__law_sum) .none kV dc pm an cd ct) :=
  ⟨fun_mk l c k, PySem.W.mg_of X G a, fun s us hl => .of_eq (match us, hl with | [_, _], _ => rfl), fun s us hl => .of_eq (match us, hl with | [_, _], _ => rfl), fun s us hl => .of_eq (match us, hl with | [_, _], _ => rfl)⟩

theorem df__law_fraction {K : PySem.W.Frag} {h : Heap} {mg : Str → Option Value} {f : Addr} {od an : Option Addr} {sl : Array (Option Value)} {oc kV dc pm cd ct : Value} (X : K.In h) (G : h.Ns mainGlobals mg) (a : PySem.W.nsIn K mainGlobals "_law_fraction" = some (some (.ref f)))
    (l : K.lookup f = some ⟨oc, od, .func (PySem.W.fnOf "_law_fraction" "_law_fraction" (defArgs s__law_fraction) (defBody s__law_fraction) (defScope s__law_fraction) .none kV dc pm an cd ct), sl⟩) (c : PySem.W.codeIn K cd "_law_fraction" = true) (k : PySem.W.keepIn K (.ref f) = true) :
    Df K mg "_law_fraction" s__law_fraction ["_law_pot_here"] f (PySem.W.fnOf "_law_fraction" "_law_fraction" (defArgs s__law_fraction) (defBody s__law_fraction) (defScope s__law_fraction) .none kV dc pm an cd ct) :=
  ⟨fun_mk l c k, PySem.W.mg_of X G a, fun s us hl => .of_eq (match us, hl with | [_], _ => rfl), fun s us hl => .of_eq (match us, hl with | [_], _ => rfl), fun s us hl => .of_eq (match us, hl with | [_], _ => rfl)⟩

theorem df__law_turned {K : PySem.W.Frag} {h : Heap} {mg : Str → Option Value} {f : Addr} {od an : Option Addr} {sl : Array (Option Value)} {oc kV dc pm cd ct : Value} (X : K.In h) (G : h.Ns mainGlobals mg) (a : PySem.W.nsIn K mainGlobals "_law_turned" = some (some (.ref f)))
    (l : K.lookup f = some ⟨oc, od, .func (PySem.W.fnOf "_law_turned" "_law_turned" (defArgs s__law_turned) (defBody s__law_turned) (defScope s__law_turned) .none kV dc pm an cd ct), sl⟩) (c : PySem.W.codeIn K cd "_law_turned" = true) (k : PySem.W.keepIn K (.ref f) = true) :
    Df K mg "_law_turned" s__law_turned ["_law_pot_here", "_law_some"] f (PySem.W.fnOf "_law_turned" "_law_turned" (defArgs s__law_turned) (defBody s__law_turned) (defScope s__law_turned) .none kV dc pm an cd ct) :=
  ⟨fun_mk l c k, PySem.W.mg_of X G a, fun s us hl => .of_eq (match us, hl with | [_, _], _ => rfl), fun s us hl => .of_eq (match us, hl with | [_, _], _ => rfl), fun s us hl => .of_eq (match us, hl with | [_, _], _ => rfl)⟩

theorem df__law_text {K : PySem.W.Frag} {h : Heap} {mg : Str → Option Value} {f : Addr} {od an : Option Addr} {sl : Array (Option Value)} {oc kV dc pm cd ct : Value} (X : K.In h) (G : h.Ns mainGlobals mg) (a : PySem.W.nsIn K mainGlobals "_law_text" = some (some (.ref f)))
    (l : K.lookup f = some ⟨oc, od, .func (PySem.W.fnOf "_law_text" "_law_text" (defArgs s__law_text) (defBody s__law_text) (defScope s__law_text) .none kV dc pm an cd ct), sl⟩) (c : PySem.W.codeIn K cd "_law_text" = true) (k : PySem.W.keepIn K (.ref f) = true) :
    Df K mg "_law_text" s__law_text ["_law_one"] f (PySem.W.fnOf "_law_text" "_law_text" (defArgs s__law_text) (defBody s__law_text) (defScope s__law_text) .none kV dc pm an cd ct) :=
  ⟨fun_mk l c k, PySem.W.mg_of X G a, fun s us hl => .of_eq (match us, hl with | [_], _ => rfl), fun s us hl => .of_eq (match us, hl with | [_], _ => rfl), fun s us hl => .of_eq (match us, hl with | [_], _ => rfl)⟩

theorem df__law_reckoned {K : PySem.W.Frag} {h : Heap} {mg : Str → Option Value} {f : Addr} {od an : Option Addr} {sl : Array (Option Value)} {oc kV dc pm cd ct : Value} (X : K.In h) (G : h.Ns mainGlobals mg) (a : PySem.W.nsIn K mainGlobals "_law_reckoned" = some (some (.ref f)))
    (l : K.lookup f = some ⟨oc, od, .func (PySem.W.fnOf "_law_reckoned" "_law_reckoned" (defArgs s__law_reckoned) (defBody s__law_reckoned) (defScope s__law_reckoned) .none kV dc pm an cd ct), sl⟩) (c : PySem.W.codeIn K cd "_law_reckoned" = true) (k : PySem.W.keepIn K (.ref f) = true) :
    Df K mg "_law_reckoned" s__law_reckoned ["_law_some"] f (PySem.W.fnOf "_law_reckoned" "_law_reckoned" (defArgs s__law_reckoned) (defBody s__law_reckoned) (defScope s__law_reckoned) .none kV dc pm an cd ct) :=
  ⟨fun_mk l c k, PySem.W.mg_of X G a, fun s us hl => .of_eq (match us, hl with | [_], _ => rfl), fun s us hl => .of_eq (match us, hl with | [_], _ => rfl), fun s us hl => .of_eq (match us, hl with | [_], _ => rfl)⟩

theorem df__law_told {K : PySem.W.Frag} {h : Heap} {mg : Str → Option Value} {f : Addr} {od an : Option Addr} {sl : Array (Option Value)} {oc kV dc pm cd ct : Value} (X : K.In h) (G : h.Ns mainGlobals mg) (a : PySem.W.nsIn K mainGlobals "_law_told" = some (some (.ref f)))
    (l : K.lookup f = some ⟨oc, od, .func (PySem.W.fnOf "_law_told" "_law_told" (defArgs s__law_told) (defBody s__law_told) (defScope s__law_told) .none kV dc pm an cd ct), sl⟩) (c : PySem.W.codeIn K cd "_law_told" = true) (k : PySem.W.keepIn K (.ref f) = true) :
    Df K mg "_law_told" s__law_told ["_law_some"] f (PySem.W.fnOf "_law_told" "_law_told" (defArgs s__law_told) (defBody s__law_told) (defScope s__law_told) .none kV dc pm an cd ct) :=
  ⟨fun_mk l c k, PySem.W.mg_of X G a, fun s us hl => .of_eq (match us, hl with | [_], _ => rfl), fun s us hl => .of_eq (match us, hl with | [_], _ => rfl), fun s us hl => .of_eq (match us, hl with | [_], _ => rfl)⟩

theorem df__law_taken_off {K : PySem.W.Frag} {h : Heap} {mg : Str → Option Value} {f : Addr} {od an : Option Addr} {sl : Array (Option Value)} {oc kV dc pm cd ct : Value} (X : K.In h) (G : h.Ns mainGlobals mg) (a : PySem.W.nsIn K mainGlobals "_law_taken_off" = some (some (.ref f)))
    (l : K.lookup f = some ⟨oc, od, .func (PySem.W.fnOf "_law_taken_off" "_law_taken_off" (defArgs s__law_taken_off) (defBody s__law_taken_off) (defScope s__law_taken_off) .none kV dc pm an cd ct), sl⟩) (c : PySem.W.codeIn K cd "_law_taken_off" = true) (k : PySem.W.keepIn K (.ref f) = true) :
    Df K mg "_law_taken_off" s__law_taken_off ["_law_some", "_law_told_here"] f (PySem.W.fnOf "_law_taken_off" "_law_taken_off" (defArgs s__law_taken_off) (defBody s__law_taken_off) (defScope s__law_taken_off) .none kV dc pm an cd ct) :=
  ⟨fun_mk l c k, PySem.W.mg_of X G a, fun s us hl => .of_eq (match us, hl with | [_, _], _ => rfl), fun s us hl => .of_eq (match us, hl with | [_, _], _ => rfl), fun s us hl => .of_eq (match us, hl with | [_, _], _ => rfl)⟩

theorem df__law_spread {K : PySem.W.Frag} {h : Heap} {mg : Str → Option Value} {f : Addr} {od an : Option Addr} {sl : Array (Option Value)} {oc kV dc pm cd ct : Value} (X : K.In h) (G : h.Ns mainGlobals mg) (a : PySem.W.nsIn K mainGlobals "_law_spread" = some (some (.ref f)))
    (l : K.lookup f = some ⟨oc, od, .func (PySem.W.fnOf "_law_spread" "_law_spread" (defArgs s__law_spread) (defBody s__law_spread) (defScope s__law_spread) .none kV dc pm an cd ct), sl⟩) (c : PySem.W.codeIn K cd "_law_spread" = true) (k : PySem.W.keepIn K (.ref f) = true) :
    Df K mg "_law_spread" s__law_spread ["_law_one", "_law_some"] f (PySem.W.fnOf "_law_spread" "_law_spread" (defArgs s__law_spread) (defBody s__law_spread) (defScope s__law_spread) .none kV dc pm an cd ct) :=
  ⟨fun_mk l c k, PySem.W.mg_of X G a, fun s us hl => .of_eq (match us, hl with | [_, _], _ => rfl), fun s us hl => .of_eq (match us, hl with | [_, _], _ => rfl), fun s us hl => .of_eq (match us, hl with | [_, _], _ => rfl)⟩

theorem df__law_are_ordered {K : PySem.W.Frag} {h : Heap} {mg : Str → Option Value} {f : Addr} {od an : Option Addr} {sl : Array (Option Value)} {oc kV dc pm cd ct : Value} (X : K.In h) (G : h.Ns mainGlobals mg) (a : PySem.W.nsIn K mainGlobals "_law_are_ordered" = some (some (.ref f)))
    (l : K.lookup f = some ⟨oc, od, .func (PySem.W.fnOf "_law_are_ordered" "_law_are_ordered" (defArgs s__law_are_ordered) (defBody s__law_are_ordered) (defScope s__law_are_ordered) .none kV dc pm an cd ct), sl⟩) (c : PySem.W.codeIn K cd "_law_are_ordered" = true) (k : PySem.W.keepIn K (.ref f) = true) :
    Df K mg "_law_are_ordered" s__law_are_ordered ["_law_some"] f (PySem.W.fnOf "_law_are_ordered" "_law_are_ordered" (defArgs s__law_are_ordered) (defBody s__law_are_ordered) (defScope s__law_are_ordered) .none kV dc pm an cd ct) :=
  ⟨fun_mk l c k, PySem.W.mg_of X G a, fun s us hl => .of_eq (match us, hl with | [_], _ => rfl), fun s us hl => .of_eq (match us, hl with | [_], _ => rfl), fun s us hl => .of_eq (match us, hl with | [_], _ => rfl)⟩

theorem df__law_right {K : PySem.W.Frag} {h : Heap} {mg : Str → Option Value} {f : Addr} {od an : Option Addr} {sl : Array (Option Value)} {oc kV dc pm cd ct : Value} (X : K.In h) (G : h.Ns mainGlobals mg) (a : PySem.W.nsIn K mainGlobals "_law_right" = some (some (.ref f)))
    (l : K.lookup f = some ⟨oc, od, .func (PySem.W.fnOf "_law_right" "_law_right" (defArgs s__law_right) (defBody s__law_right) (defScope s__law_right) .none kV dc pm an cd ct), sl⟩) (c : PySem.W.codeIn K cd "_law_right" = true) (k : PySem.W.keepIn K (.ref f) = true) :
    Df K mg "_law_right" s__law_right ["_law_pot_here"] f (PySem.W.fnOf "_law_right" "_law_right" (defArgs s__law_right) (defBody s__law_right) (defScope s__law_right) .none kV dc pm an cd ct) :=
  ⟨fun_mk l c k, PySem.W.mg_of X G a, fun s us hl => .of_eq (match us, hl with | [_], _ => rfl), fun s us hl => .of_eq (match us, hl with | [_], _ => rfl), fun s us hl => .of_eq (match us, hl with | [_], _ => rfl)⟩

theorem df_law {K : PySem.W.Frag} {h : Heap} {mg : Str → Option Value} {f : Addr} {od an : Option Addr} {sl : Array (Option Value)} {oc kV dc pm cd ct : Value} (X : K.In h) (G : h.Ns mainGlobals mg) (a : PySem.W.nsIn K mainGlobals "law" = some (some (.ref f)))
    (l : K.lookup f = some ⟨oc, od, .func (PySem.W.fnOf "law" "law" (defArgs s_law) (defBody s_law) (defScope s_law) .none kV dc pm an cd ct), sl⟩) (c : PySem.W.codeIn K cd "law" = true) (k : PySem.W.keepIn K (.ref f) = true) :
    Df K mg "law" s_law ["_law_script"] f (PySem.W.fnOf "law" "law" (defArgs s_law) (defBody s_law) (defScope s_law) .none kV dc pm an cd ct) :=
  ⟨fun_mk l c k, PySem.W.mg_of X G a, fun s us hl => .of_eq (match us, hl with | [_], _ => rfl), fun s us hl => .of_eq (match us, hl with | [_], _ => rfl), fun s us hl => .of_eq (match us, hl with | [_], _ => rfl)⟩

theorem all_mk {l : PySem.W.OpenLaw} {w : World} {K : PySem.W.Frag} {h : Heap} {mg : Str → Option Value} {fa C f0 f1 f2 f3 f4 f5 f6 f7 f8 f9 f10 f11 f12 f13 f14 f15 f16 f17 f18 f19 f20 f21 f22 : Addr} (X : K.In h) (G : h.Ns mainGlobals mg) (hfa : mg "law" = some (.ref fa))
    {od0 an0 od1 an1 od2 an2 od3 an3 od4 an4 od5 an5 od6 an6 od7 an7 od8 an8 od9 an9 od10 an10 od11 an11 od12 an12 od13 an13 od14 an14 od15 an15 od16 an16 od17 an17 od18 an18 od19 an19 od20 an20 od21 an21 od22 an22 : Option Addr} {sl0 sl1 sl2 sl3 sl4 sl5 sl6 sl7 sl8 sl9 sl10 sl11 sl12 sl13 sl14 sl15 sl16 sl17 sl18 sl19 sl20 sl21 sl22 : Array (Option Value)} {oc0 kV0 dc0 pm0 cd0 ct0 oc1 kV1 dc1 pm1 cd1 ct1 oc2 kV2 dc2 pm2 cd2 ct2 oc3 kV3 dc3 pm3 cd3 ct3 oc4 kV4 dc4 pm4 cd4 ct4 oc5 kV5 dc5 pm5 cd5 ct5 oc6 kV6 dc6 pm6 cd6 ct6 oc7 kV7 dc7 pm7 cd7 ct7 oc8 kV8 dc8 pm8 cd8 ct8 oc9 kV9 dc9 pm9 cd9 ct9 oc10 kV10 dc10 pm10 cd10 ct10 oc11 kV11 dc11 pm11 cd11 ct11 oc12 kV12 dc12 pm12 cd12 ct12 oc13 kV13 dc13 pm13 cd13 ct13 oc14 kV14 dc14 pm14 cd14 ct14 oc15 kV15 dc15 pm15 cd15 ct15 oc16 kV16 dc16 pm16 cd16 ct16 oc17 kV17 dc17 pm17 cd17 ct17 oc18 kV18 dc18 pm18 cd18 ct18 oc19 kV19 dc19 pm19 cd19 ct19 oc20 kV20 dc20 pm20 cd20 ct20 oc21 kV21 dc21 pm21 cd21 ct21 oc22 kV22 dc22 pm22 cd22 ct22 : Value}
    (aC : PySem.W.nsIn K mainGlobals "NoFraction" = some (some (.ref C))) (xC : PySem.W.excIn K C [.type "ValueError", .type "Exception", .type "BaseException", .type "object"] "ValueError.__new__" = true) (kC : PySem.W.keepIn K (.ref C) = true)
    (bC : PySem.W.subIn K (.ref C) (.type "BaseException") = some true) (tC : PySem.W.typeIn K (.ref C) = some (.type "type")) (iC : PySem.W.isClsIn K C = true) (sC : PySem.W.subIn K (.ref C) (.ref C) = some true)
    (a0 : PySem.W.nsIn K mainGlobals "common" = some (some (.ref f0))) (l0 : K.lookup f0 = some ⟨oc0, od0, .func (PySem.W.fnOf "common" "common" (defArgs sCom) (defBody sCom) (defScope sCom) .none kV0 dc0 pm0 an0 cd0 ct0), sl0⟩) (c0 : PySem.W.codeIn K cd0 "common" = true) (k0 : PySem.W.keepIn K (.ref f0) = true)
    (a1 : PySem.W.nsIn K mainGlobals "fraction" = some (some (.ref f1))) (l1 : K.lookup f1 = some ⟨oc1, od1, .func (PySem.W.fnOf "fraction" "fraction" (defArgs sFrac) (defBody sFrac) (defScope sFrac) .none kV1 dc1 pm1 an1 cd1 ct1), sl1⟩) (c1 : PySem.W.codeIn K cd1 "fraction" = true) (k1 : PySem.W.keepIn K (.ref f1) = true)
    (a2 : PySem.W.nsIn K mainGlobals "plus" = some (some (.ref f2))) (l2 : K.lookup f2 = some ⟨oc2, od2, .func (PySem.W.fnOf "plus" "plus" (defArgs s_plus) (defBody s_plus) (defScope s_plus) .none kV2 dc2 pm2 an2 cd2 ct2), sl2⟩) (c2 : PySem.W.codeIn K cd2 "plus" = true) (k2 : PySem.W.keepIn K (.ref f2) = true)
    (a3 : PySem.W.nsIn K mainGlobals "minus" = some (some (.ref f3))) (l3 : K.lookup f3 = some ⟨oc3, od3, .func (PySem.W.fnOf "minus" "minus" (defArgs s_minus) (defBody s_minus) (defScope s_minus) .none kV3 dc3 pm3 an3 cd3 ct3), sl3⟩) (c3 : PySem.W.codeIn K cd3 "minus" = true) (k3 : PySem.W.keepIn K (.ref f3) = true)
    (a4 : PySem.W.nsIn K mainGlobals "times" = some (some (.ref f4))) (l4 : K.lookup f4 = some ⟨oc4, od4, .func (PySem.W.fnOf "times" "times" (defArgs s_times) (defBody s_times) (defScope s_times) .none kV4 dc4 pm4 an4 cd4 ct4), sl4⟩) (c4 : PySem.W.codeIn K cd4 "times" = true) (k4 : PySem.W.keepIn K (.ref f4) = true)
    (a5 : PySem.W.nsIn K mainGlobals "over" = some (some (.ref f5))) (l5 : K.lookup f5 = some ⟨oc5, od5, .func (PySem.W.fnOf "over" "over" (defArgs s_over) (defBody s_over) (defScope s_over) .none kV5 dc5 pm5 an5 cd5 ct5), sl5⟩) (c5 : PySem.W.codeIn K cd5 "over" = true) (k5 : PySem.W.keepIn K (.ref f5) = true)
    (a6 : PySem.W.nsIn K mainGlobals "is_less" = some (some (.ref f6))) (l6 : K.lookup f6 = some ⟨oc6, od6, .func (PySem.W.fnOf "is_less" "is_less" (defArgs s_is_less) (defBody s_is_less) (defScope s_is_less) .none kV6 dc6 pm6 an6 cd6 ct6), sl6⟩) (c6 : PySem.W.codeIn K cd6 "is_less" = true) (k6 : PySem.W.keepIn K (.ref f6) = true)
    (a7 : PySem.W.nsIn K mainGlobals "fraction_text" = some (some (.ref f7))) (l7 : K.lookup f7 = some ⟨oc7, od7, .func (PySem.W.fnOf "fraction_text" "fraction_text" (defArgs s_fraction_text) (defBody s_fraction_text) (defScope s_fraction_text) .none kV7 dc7 pm7 an7 cd7 ct7), sl7⟩) (c7 : PySem.W.codeIn K cd7 "fraction_text" = true) (k7 : PySem.W.keepIn K (.ref f7) = true)
    (a8 : PySem.W.nsIn K mainGlobals "_law_cell" = some (some (.ref f8))) (l8 : K.lookup f8 = some ⟨oc8, od8, .func (PySem.W.fnOf "_law_cell" "_law_cell" (defArgs s__law_cell) (defBody s__law_cell) (defScope s__law_cell) .none kV8 dc8 pm8 an8 cd8 ct8), sl8⟩) (c8 : PySem.W.codeIn K cd8 "_law_cell" = true) (k8 : PySem.W.keepIn K (.ref f8) = true)
    (a9 : PySem.W.nsIn K mainGlobals "_law_pot" = some (some (.ref f9))) (l9 : K.lookup f9 = some ⟨oc9, od9, .func (PySem.W.fnOf "_law_pot" "_law_pot" (defArgs s__law_pot) (defBody s__law_pot) (defScope s__law_pot) .none kV9 dc9 pm9 an9 cd9 ct9), sl9⟩) (c9 : PySem.W.codeIn K cd9 "_law_pot" = true) (k9 : PySem.W.keepIn K (.ref f9) = true)
    (a10 : PySem.W.nsIn K mainGlobals "_law_draw" = some (some (.ref f10))) (l10 : K.lookup f10 = some ⟨oc10, od10, .func (PySem.W.fnOf "_law_draw" "_law_draw" (defArgs s__law_draw) (defBody s__law_draw) (defScope s__law_draw) .none kV10 dc10 pm10 an10 cd10 ct10), sl10⟩) (c10 : PySem.W.codeIn K cd10 "_law_draw" = true) (k10 : PySem.W.keepIn K (.ref f10) = true)
    (a11 : PySem.W.nsIn K mainGlobals "_law_low" = some (some (.ref f11))) (l11 : K.lookup f11 = some ⟨oc11, od11, .func (PySem.W.fnOf "_law_low" "_law_low" (defArgs s__law_low) (defBody s__law_low) (defScope s__law_low) .none kV11 dc11 pm11 an11 cd11 ct11), sl11⟩) (c11 : PySem.W.codeIn K cd11 "_law_low" = true) (k11 : PySem.W.keepIn K (.ref f11) = true)
    (a12 : PySem.W.nsIn K mainGlobals "_law_sum" = some (some (.ref f12))) (l12 : K.lookup f12 = some ⟨oc12, od12, .func (PySem.W.fnOf "_law_sum" "_law_sum" (defArgs s__law_sum) (defBody s__law_sum) (defScope s__law_sum) .none kV12 dc12 pm12 an12 cd12 ct12), sl12⟩) (c12 : PySem.W.codeIn K cd12 "_law_sum" = true) (k12 : PySem.W.keepIn K (.ref f12) = true)
    (a13 : PySem.W.nsIn K mainGlobals "_law_fraction" = some (some (.ref f13))) (l13 : K.lookup f13 = some ⟨oc13, od13, .func (PySem.W.fnOf "_law_fraction" "_law_fraction" (defArgs s__law_fraction) (defBody s__law_fraction) (defScope s__law_fraction) .none kV13 dc13 pm13 an13 cd13 ct13), sl13⟩) (c13 : PySem.W.codeIn K cd13 "_law_fraction" = true) (k13 : PySem.W.keepIn K (.ref f13) = true)
    (a14 : PySem.W.nsIn K mainGlobals "_law_turned" = some (some (.ref f14))) (l14 : K.lookup f14 = some ⟨oc14, od14, .func (PySem.W.fnOf "_law_turned" "_law_turned" (defArgs s__law_turned) (defBody s__law_turned) (defScope s__law_turned) .none kV14 dc14 pm14 an14 cd14 ct14), sl14⟩) (c14 : PySem.W.codeIn K cd14 "_law_turned" = true) (k14 : PySem.W.keepIn K (.ref f14) = true)
    (a15 : PySem.W.nsIn K mainGlobals "_law_text" = some (some (.ref f15))) (l15 : K.lookup f15 = some ⟨oc15, od15, .func (PySem.W.fnOf "_law_text" "_law_text" (defArgs s__law_text) (defBody s__law_text) (defScope s__law_text) .none kV15 dc15 pm15 an15 cd15 ct15), sl15⟩) (c15 : PySem.W.codeIn K cd15 "_law_text" = true) (k15 : PySem.W.keepIn K (.ref f15) = true)
    (a16 : PySem.W.nsIn K mainGlobals "_law_reckoned" = some (some (.ref f16))) (l16 : K.lookup f16 = some ⟨oc16, od16, .func (PySem.W.fnOf "_law_reckoned" "_law_reckoned" (defArgs s__law_reckoned) (defBody s__law_reckoned) (defScope s__law_reckoned) .none kV16 dc16 pm16 an16 cd16 ct16), sl16⟩) (c16 : PySem.W.codeIn K cd16 "_law_reckoned" = true) (k16 : PySem.W.keepIn K (.ref f16) = true)
    (a17 : PySem.W.nsIn K mainGlobals "_law_told" = some (some (.ref f17))) (l17 : K.lookup f17 = some ⟨oc17, od17, .func (PySem.W.fnOf "_law_told" "_law_told" (defArgs s__law_told) (defBody s__law_told) (defScope s__law_told) .none kV17 dc17 pm17 an17 cd17 ct17), sl17⟩) (c17 : PySem.W.codeIn K cd17 "_law_told" = true) (k17 : PySem.W.keepIn K (.ref f17) = true)
    (a18 : PySem.W.nsIn K mainGlobals "_law_taken_off" = some (some (.ref f18))) (l18 : K.lookup f18 = some ⟨oc18, od18, .func (PySem.W.fnOf "_law_taken_off" "_law_taken_off" (defArgs s__law_taken_off) (defBody s__law_taken_off) (defScope s__law_taken_off) .none kV18 dc18 pm18 an18 cd18 ct18), sl18⟩) (c18 : PySem.W.codeIn K cd18 "_law_taken_off" = true) (k18 : PySem.W.keepIn K (.ref f18) = true)
    (a19 : PySem.W.nsIn K mainGlobals "_law_spread" = some (some (.ref f19))) (l19 : K.lookup f19 = some ⟨oc19, od19, .func (PySem.W.fnOf "_law_spread" "_law_spread" (defArgs s__law_spread) (defBody s__law_spread) (defScope s__law_spread) .none kV19 dc19 pm19 an19 cd19 ct19), sl19⟩) (c19 : PySem.W.codeIn K cd19 "_law_spread" = true) (k19 : PySem.W.keepIn K (.ref f19) = true)
    (a20 : PySem.W.nsIn K mainGlobals "_law_are_ordered" = some (some (.ref f20))) (l20 : K.lookup f20 = some ⟨oc20, od20, .func (PySem.W.fnOf "_law_are_ordered" "_law_are_ordered" (defArgs s__law_are_ordered) (defBody s__law_are_ordered) (defScope s__law_are_ordered) .none kV20 dc20 pm20 an20 cd20 ct20), sl20⟩) (c20 : PySem.W.codeIn K cd20 "_law_are_ordered" = true) (k20 : PySem.W.keepIn K (.ref f20) = true)
    (a21 : PySem.W.nsIn K mainGlobals "_law_right" = some (some (.ref f21))) (l21 : K.lookup f21 = some ⟨oc21, od21, .func (PySem.W.fnOf "_law_right" "_law_right" (defArgs s__law_right) (defBody s__law_right) (defScope s__law_right) .none kV21 dc21 pm21 an21 cd21 ct21), sl21⟩) (c21 : PySem.W.codeIn K cd21 "_law_right" = true) (k21 : PySem.W.keepIn K (.ref f21) = true)
    (a22 : PySem.W.nsIn K mainGlobals "law" = some (some (.ref f22))) (l22 : K.lookup f22 = some ⟨oc22, od22, .func (PySem.W.fnOf "law" "law" (defArgs s_law) (defBody s_law) (defScope s_law) .none kV22 dc22 pm22 an22 cd22 ct22), sl22⟩) (c22 : PySem.W.codeIn K cd22 "law" = true) (k22 : PySem.W.keepIn K (.ref f22) = true)
    (z_abs : PySem.W.nsIn K mainGlobals "abs" = some none)
    (z_len : PySem.W.nsIn K mainGlobals "len" = some none)
    (z_max : PySem.W.nsIn K mainGlobals "max" = some none)
    (z_min : PySem.W.nsIn K mainGlobals "min" = some none)
    (z_divmod : PySem.W.nsIn K mainGlobals "divmod" = some none)
    (z_repr : PySem.W.nsIn K mainGlobals "repr" = some none)
    (z_all : PySem.W.nsIn K mainGlobals "all" = some none)
    (z_int : PySem.W.nsIn K mainGlobals "int" = some none)
    (z_str : PySem.W.nsIn K mainGlobals "str" = some none)
    (z_range : PySem.W.nsIn K mainGlobals "range" = some none)
    (z_list : PySem.W.nsIn K mainGlobals "list" = some none) :
    ∃ fd : FuncData, (∀ (s : Shared) (v : Value), BindsTo s fd ⟨[v], []⟩ [("_law_script", v)]) ∧ ∀ base : Heap, K.In base → base.Ns mainGlobals mg → FnG l.prog w K mg base CX0 8 fa fd ["_law_script"] (sp_law K) := by
  have e := hfa.symm.trans (PySem.W.mg_of X G a22)
  cases e
  have T : ExT K mg "NoFraction" C := ⟨PySem.W.mg_of X G aC, xC, kC, bC, tC, exm_self bC iC tC sC⟩
  have M : Blt mg := ⟨PySem.W.mg_none_of X G z_abs, PySem.W.mg_none_of X G z_len, PySem.W.mg_none_of X G z_max, PySem.W.mg_none_of X G z_min, PySem.W.mg_none_of X G z_divmod, PySem.W.mg_none_of X G z_repr, PySem.W.mg_none_of X G z_all, PySem.W.mg_none_of X G z_int, PySem.W.mg_none_of X G z_str, PySem.W.mg_none_of X G z_range⟩
  have D0 := df_common X G a0 l0 c0 k0
  have D1 := df_fraction X G a1 l1 c1 k1
  have D2 := df_plus X G a2 l2 c2 k2
  have D3 := df_minus X G a3 l3 c3 k3
  have D4 := df_times X G a4 l4 c4 k4
  have D5 := df_over X G a5 l5 c5 k5
  have D6 := df_is_less X G a6 l6 c6 k6
  have D7 := df_fraction_text X G a7 l7 c7 k7
  have D8 := df__law_cell X G a8 l8 c8 k8
  have D9 := df__law_pot X G a9 l9 c9 k9
  have D10 := df__law_draw X G a10 l10 c10 k10
  have D11 := df__law_low X G a11 l11 c11 k11
  have D12 := df__law_sum X G a12 l12 c12 k12
  have D13 := df__law_fraction X G a13 l13 c13 k13
  have D14 := df__law_turned X G a14 l14 c14 k14
  have D15 := df__law_text X G a15 l15 c15 k15
  have D16 := df__law_reckoned X G a16 l16 c16 k16
  have D17 := df__law_told X G a17 l17 c17 k17
  have D18 := df__law_taken_off X G a18 l18 c18 k18
  have D19 := df__law_spread X G a19 l19 c19 k19
  have D20 := df__law_are_ordered X G a20 l20 c20 k20
  have D21 := df__law_right X G a21 l21 c21 k21
  have D22 := df_law X G a22 l22 c22 k22
  refine ⟨_, fun s v => D22.b1 s [v] rfl, fun base _ _ => ?_⟩
  have C1 : Cal l.prog w K mg base CX0 1 "common" ["one", "other"] spCom := D0.cal (ok_com D0.fn)
  have C2 : Cal l.prog w K mg base CX0 2 "fraction" ["top", "bottom"] (fun _ _ _ _ => False) := D1.cal FnG.no
  have C4 : Cal l.prog w K mg base CX0 4 "fraction" ["top", "bottom"] (spFrac true) := by
    have P1 : FnG l.prog w K mg base CX0 3 _ _ ["top", "bottom"] (spFrac false) := ok_frac (j := 1) false _ (fun n d H Q hd hs => by
      obtain ⟨n', d', e, _, hp, _⟩ := hs
      cases e
      have := hp rfl
      omega) M T D1.fn C1 C2
    have CR : Cal l.prog w K mg base CX0 3 "fraction" ["top", "bottom"] (spFrac false) := D1.cal P1
    exact D1.cal (ok_frac (j := 2) true _ (fun n d H Q hd hs => by
      obtain ⟨n', d', e, h0, _, h1, h2, q⟩ := hs
      cases e
      refine ⟨-n, -d, rfl, by omega, fun _ => by omega, ?_, ?_, ?_⟩
      · show (-n).natAbs < _
        rw [Int.natAbs_neg]
        exact h1
      · show (-d).natAbs < _
        rw [Int.natAbs_neg]
        exact h2
      · rw [low_neg]
        exact q) M T D1.fn C1 CR)
  have C3 : Cal l.prog w K mg base (L2.CX l.prog w) 3 "fraction" ["top", "bottom"] (spFrac0 C) := D1.cal (ok_frac0 M T D1.fn C1 C2)
  have CP : Cal l.prog w K mg base CX0 5 "plus" ["one", "other"] (sp_plus K) := D2.cal (ok_plus D2.fn C4)
  have CM : Cal l.prog w K mg base CX0 5 "minus" ["one", "other"] (sp_minus K) := D3.cal (ok_minus D3.fn C4)
  have CT : Cal l.prog w K mg base CX0 5 "times" ["one", "other"] (sp_times K) := D4.cal (ok_times D4.fn C4)
  have CO : Cal l.prog w K mg base CX0 5 "over" ["one", "other"] (sp_over K) := D5.cal (ok_over D5.fn C4)
  have CL : Cal l.prog w K mg base CX0 1 "is_less" ["one", "other"] (sp_is_less K) := D6.cal (ok_is_less D6.fn)
  have CF : Cal l.prog w K mg base CX0 1 "fraction_text" ["one"] (sp_fraction_text K) := D7.cal (ok_fraction_text D7.fn)
  have B1 : Cal l.prog w K mg base CX0 1 "_law_cell" ["_law_script", "_law_k"] (sp_cell K) := D8.cal (ok_cell M D8.fn)
  have B2 : Cal l.prog w K mg base CX0 1 "_law_pot" ["_law_cell_here"] sp_pot := D9.cal (ok_pot M D9.fn)
  have B3 : Cal l.prog w K mg base CX0 1 "_law_draw" ["_law_pot_here", "_law_many"] sp_draw := D10.cal (ok_draw M D10.fn)
  have B4 : Cal l.prog w K mg base CX0 1 "_law_low" ["_law_top", "_law_bottom"] sp_low := D11.cal (ok_low M D11.fn)
  have B5 : Cal l.prog w K mg base CX0 1 "_law_text" ["_law_one"] (sp_text K) := D15.cal (ok_text M D15.fn)
  have B6 : Cal l.prog w K mg base CX0 2 "_law_sum" ["_law_one", "_law_other"] (sp_plus K) := D12.cal (ok_sum D12.fn B4)
  have B7 : Cal l.prog w K mg base CX0 2 "_law_fraction" ["_law_pot_here"] sp_fraction := D13.cal (ok_fraction D13.fn B3 B4)
  have B8 : Cal l.prog w K mg base CX0 2 "_law_turned" ["_law_pot_here", "_law_some"] (sp_turned K) := D14.cal (ok_turned M (PySem.W.mg_none_of X G z_list) D14.fn B3)
  have B9 : Cal l.prog w K mg base CX0 3 "_law_reckoned" ["_law_some"] (sp_reckoned K) := D16.cal (ok_reckoned D16.fn B6 B4)
  have B10 : Cal l.prog w K mg base CX0 6 "_law_told" ["_law_some"] (sp_told K) := D17.cal (ok_told D17.fn CP CT)
  have B11 : Cal l.prog w K mg base CX0 6 "_law_taken_off" ["_law_some", "_law_told_here"] (sp_taken K) := D18.cal (ok_taken D18.fn CM CO)
  have B12 : Cal l.prog w K mg base CX0 6 "_law_spread" ["_law_one", "_law_some"] (sp_spread K) := D19.cal (ok_spread D19.fn CP CT)
  have B13 : Cal l.prog w K mg base CX0 2 "_law_are_ordered" ["_law_some"] (sp_ordered K) := D20.cal (ok_ordered M D20.fn CL)
  have B14 : Cal l.prog w K mg base CX0 7 "_law_right" ["_law_pot_here"] sp_right := D21.cal (ok_right M D21.fn B3 B7 B9 B8 B10 B11 B12 CF B5 B13)
  exact ok_law M D22.fn B1 B2 B14
end Lf
open PySem PySem.W PyProof.Rows
set_option maxHeartbeats 0 in
theorem PySem.Challenge.cw_loafshares_k15_whole_sums_in_any_order_holds : PySem.Challenge.rw_loafshares_k15_whole_sums_in_any_order.Holds := by
  w_on; o_law; k_head; (case hw => w_witness2)
  k_fill
  refine Lf.walkG (l := PySem.Challenge.rw_loafshares_k15_whole_sums_in_any_order) (n := 63) (k := 8) (x := "_law_script") (sp := Lf.sp_law) rfl (by decide) rfl ⟨rfl, by decide, by decide⟩ (fun w h Y => PySem.W.kIn_of Y) ?F (fun K H a ns hl _ hS => ⟨a, ns, rfl, hS, hl, fun _ => rfl⟩)
  case F =>
    intro w mg fa h KX G hmg
    refine' Lf.all_mk KX G hmg ?aC ?xC ?kC ?bC ?tC ?iC ?sC ?a0 ?l0 ?c0 ?k0 ?a1 ?l1 ?c1 ?k1 ?a2 ?l2 ?c2 ?k2 ?a3 ?l3 ?c3 ?k3 ?a4 ?l4 ?c4 ?k4 ?a5 ?l5 ?c5 ?k5 ?a6 ?l6 ?c6 ?k6 ?a7 ?l7 ?c7 ?k7 ?a8 ?l8 ?c8 ?k8 ?a9 ?l9 ?c9 ?k9 ?a10 ?l10 ?c10 ?k10 ?a11 ?l11 ?c11 ?k11 ?a12 ?l12 ?c12 ?k12 ?a13 ?l13 ?c13 ?k13 ?a14 ?l14 ?c14 ?k14 ?a15 ?l15 ?c15 ?k15 ?a16 ?l16 ?c16 ?k16 ?a17 ?l17 ?c17 ?k17 ?a18 ?l18 ?c18 ?k18 ?a19 ?l19 ?c19 ?k19 ?a20 ?l20 ?c20 ?k20 ?a21 ?l21 ?c21 ?k21 ?a22 ?l22 ?c22 ?k22 ?z_abs ?z_len ?z_max ?z_min ?z_divmod ?z_repr ?z_all ?z_int ?z_str ?z_range ?z_list
    (case aC => k_is); (case xC => k_exc); (case kC => k_is); (case bC => k_is); (case tC => k_is); (case iC => k_is); (case sC => first | rfl | k_is)
    (case a0 => k_is); (case l0 => k_is); (case c0 => k_is); (case k0 => k_is)
    (case a1 => k_is); (case l1 => k_is); (case c1 => k_is); (case k1 => k_is)
    (case a2 => k_is); (case l2 => k_is); (case c2 => k_is); (case k2 => k_is)
    (case a3 => k_is); (case l3 => k_is); (case c3 => k_is); (case k3 => k_is)
    (case a4 => k_is); (case l4 => k_is); (case c4 => k_is); (case k4 => k_is)
    (case a5 => k_is); (case l5 => k_is); (case c5 => k_is); (case k5 => k_is)
    (case a6 => k_is); (case l6 => k_is); (case c6 => k_is); (case k6 => k_is)
    (case a7 => k_is); (case l7 => k_is); (case c7 => k_is); (case k7 => k_is)
    (case a8 => k_is); (case l8 => k_is); (case c8 => k_is); (case k8 => k_is)
    (case a9 => k_is); (case l9 => k_is); (case c9 => k_is); (case k9 => k_is)
    (case a10 => k_is); (case l10 => k_is); (case c10 => k_is); (case k10 => k_is)
    (case a11 => k_is); (case l11 => k_is); (case c11 => k_is); (case k11 => k_is)
    (case a12 => k_is); (case l12 => k_is); (case c12 => k_is); (case k12 => k_is)
    (case a13 => k_is); (case l13 => k_is); (case c13 => k_is); (case k13 => k_is)
    (case a14 => k_is); (case l14 => k_is); (case c14 => k_is); (case k14 => k_is)
    (case a15 => k_is); (case l15 => k_is); (case c15 => k_is); (case k15 => k_is)
    (case a16 => k_is); (case l16 => k_is); (case c16 => k_is); (case k16 => k_is)
    (case a17 => k_is); (case l17 => k_is); (case c17 => k_is); (case k17 => k_is)
    (case a18 => k_is); (case l18 => k_is); (case c18 => k_is); (case k18 => k_is)
    (case a19 => k_is); (case l19 => k_is); (case c19 => k_is); (case k19 => k_is)
    (case a20 => k_is); (case l20 => k_is); (case c20 => k_is); (case k20 => k_is)
    (case a21 => k_is); (case l21 => k_is); (case c21 => k_is); (case k21 => k_is)
    (case a22 => k_is); (case l22 => k_is); (case c22 => k_is); (case k22 => k_is)
    (case z_abs => k_is); (case z_len => k_is); (case z_max => k_is); (case z_min => k_is); (case z_divmod => k_is); (case z_repr => k_is); (case z_all => k_is); (case z_int => k_is); (case z_str => k_is); (case z_range => k_is); (case z_list => k_is)
