import PyProof.Rows.All
import Wide.All
import OpenK.AllK
import Wide.FinOn
import HandS.Base
import HandS.Call
import HandS.List
import HandS.Comp
import HandS.Ends
import HandS.Exc
import HandS.ExcOwn
import HandS.Words
import HandS.WordsList
import HandS.WordsExc
import HandS.Iter
import HandS.Zip
import HandS.Wide
import HandS.WideBits
import HandS.Flow
import HandS.IsInst
import HandS.Rev
import HandS.Walk
import HandS.Style
import HandS.TupAny
import HandS.Conv
import PyProof.ReprBulk
import HandS.HeadEnd
import HandS.HeadHook2
import HandS.Dict
import HandS.ExcField
import HandS.ExcInit
import KE.KStateDown
import HandS.More
import HandS.Defaults
import HandS.Head0
import HandS.Head1
import HandS.Head2
import HandS.HeadHook1
import HandS.SortInts
import HandS.Deep
import HandS.TryOnly
import PySem.Challenge.RW_checkwright_k50_whole_lists_that_slip
set_option Elab.async false
set_option linter.all false
section
set_option maxRecDepth 100000
set_option maxHeartbeats 2000000
/-! calls where no repr is under way (the guards are known to be none) -/
namespace G
open PySem PySem.Spec PyProof.Rows L2

/-- a promise that may lean on: no repr is under way -/
structure FnG (P : Program) (w : World) (K : PySem.W.Frag) (mg : Str → Option Value) (base : Heap)
    (CX : CXT) (k : Nat) (f : Addr) (fd : FuncData) (ps : List Str) (sp : Sp) : Prop where
  ar : ∀ vs H Q E, sp vs H Q E → vs.length = ps.length
  go : ∀ (A : Around) (outer : List Env) (s : Shared) (H : Hp) (args : Args) (us : List Value)
    (vs : List V) (Q : VK) (E : XK), A.guards = some [] → Room k A → Env0 P w K mg base A outer s H →
    BindsTo s fd args (ps.zip us) → Vals vs us → sp vs H Q E →
    codeAny (model P w) A (.call (.ref f) args) (CR CX outer P w H s Q E) s

section
variable {P : Program} {w : World} {K : PySem.W.Frag} {mg : Str → Option Value} {base : Heap} {CX : CXT}
theorem FnG.lift {j k : Nat} {f : Addr} {fd : FuncData} {ps : List Str} {sp : Sp}
    (F : FnG P w K mg base CX j f fd ps sp) (h : j ≤ k) : FnG P w K mg base CX k f fd ps sp :=
  ⟨F.ar, fun A outer s H args us vs Q E hg hr => F.go A outer s H args us vs Q E hg (hr.mono h)⟩
theorem FnG.ofOk {k : Nat} {f : Addr} {fd : FuncData} {ps : List Str} {sp : Sp}
    (F : FnOk P w K mg base CX k f fd ps sp) : FnG P w K mg base CX k f fd ps sp :=
  ⟨F.len, fun A outer s H args us vs Q E _ => F.run A outer s H args us vs Q E⟩

/-- the context of a body -/
abbrev bodyCx (CX : CXT) (P : Program) (w : World) (K : PySem.W.Frag) (mg : Str → Option Value) (base : Heap) (N : List Str)
    (qual : Str) (st : Stmt) (f : Addr) (cdv : Value) (A : Around) (outer : List Env) (s : Shared) (H : Hp) (E : XK) : Cx :=
  cxOf CX P w K mg base N qual (defScope st) f cdv A outer s H E

/-- a def, by its body's reading, where no repr is under way -/
theorem fn_g {x qual : Str} {st : Stmt} {f : Addr} {fd : FuncData} {N ps : List Str} {k : Nat} {sp : Sp}
    (F : Fun K x qual st f fd) (S : FnScope N ps (defScope st)) (ar : ∀ vs H Q E, sp vs H Q E → vs.length = ps.length)
    (hb : ∀ (cdv : Value) (A : Around) (outer : List Env) (s : Shared) (H : Hp) (vs : List V) (Q : VK) (E : XK),
      A.guards = some [] → Room k (A.deeper (envOfC qual (defScope st) s.heap.objs.size f cdv)) → sp vs H Q E →
      ∃ t, PSs (bodyCx CX P w K mg base N qual st f cdv A outer s H E) (defBody st) t ∧
        t { nx := fun _ H' => Q .non H', rt := Q } (start N vs) H) : FnG P w K mg base CX (k + 1) f fd ps sp := by
  obtain ⟨oc, od, kV, doc, pm, an, cdv, ct, osl, rfl, lk, hcd⟩ := F.ex
  refine ⟨ar, fun A outer s H args us vs Q E hg hr e0 bt rv hsp => ?_⟩
  have up : ∀ b o, base.get? b = some o → s.heap.get? b = some o := fun b o e => (e0.bs b o e).1
  have inK := e0.mod.kin.keeps up
  have noL := e0.mod.nolimit.keeps up
  have slots : ∀ y ∈ ps.zip us, (defScope st).names.lookup y.1 = some .local ∨
      ((defScope st).names.lookup y.1 = some .cell ∧ ((cellsFrom (s.heap.objs.size + 1) (defScope st).names []).lookup y.1).isSome = true) := by
    intro ⟨n, v⟩ hy
    rcases S.par n (List.of_mem_zip hy).1 with q | q
    · exact .inl q
    · exact .inr ⟨q, PySem.W.cellsFrom_some _ _ _ (.inl q)⟩
  refine codeAny_call_function hr.depth (inK _ _ lk) rfl S.co S.gen rfl (PySem.W.codeRec_of inK hcd) (bt _ _ _ _ ?_)
  refine wpAny_newFunctionEnv_cells S.kind slots fun env he s1 hs1 => ?_
  subst he
  refine ⟨noL.keeps hs1.toInCall.keep, codeAny_func ?_⟩
  obtain ⟨t, ht, rd⟩ := hb cdv A outer s H vs Q E hg (hr.deeper _) hsp
  have J0 := inv_start (CX := CX) (E := E) S hr.hd e0 (ar _ _ _ _ hsp) rv hs1
  refine wpAny_mono (ht.run [] s1 (start N vs) H _ J0 rd) (fun fl s' hs => ?_) fun _ _ hs => hs
  cases fl with
  | next =>
    obtain ⟨_, H2, J, q⟩ := hs
    exact ⟨.non, H2, J.os, J.bare, J.base, J.hok, rfl, q⟩
  | ret u =>
    obtain ⟨v, _, H2, J, r2, q⟩ := hs
    exact ⟨v, H2, J.os, J.bare, J.base, J.hok, r2, q⟩
  | brk => exact (hs.elim fun _ z => z.elim fun _ y => y.2).elim
  | cont => exact (hs.elim fun _ z => z.elim fun _ y => y.2).elim

/-- .. that lets nothing out -/
theorem fn_g0 {x qual : Str} {st : Stmt} {f : Addr} {fd : FuncData} {N ps : List Str} {k : Nat} {sp : Sp}
    (F : Fun K x qual st f fd) (S : FnScope N ps (defScope st)) (ar : ∀ vs H Q E, sp vs H Q E → vs.length = ps.length)
    (hb : ∀ (cdv : Value) (A : Around) (outer : List Env) (s : Shared) (H : Hp) (vs : List V) (Q : VK) (E : XK),
      A.guards = some [] → Room k (A.deeper (envOfC qual (defScope st) s.heap.objs.size f cdv)) → sp vs H Q E →
      ∃ t, PSs (bodyCx CX0 P w K mg base N qual st f cdv A outer s H E).nox (defBody st) t ∧
        t { nx := fun _ H' => Q .non H', rt := Q } (start N vs) H) : FnG P w K mg base CX0 (k + 1) f fd ps sp :=
  fn_g F S ar fun cdv A outer s H vs Q E hg hr h =>
    (hb cdv A outer s H vs Q E hg hr h).imp fun _ z => ⟨z.1.nox, z.2⟩
end

/-! ### calls -/
section
variable {X : Cx} {CX : CXT} {k : Nat} {f : Addr} {fd : FuncData} {ps ks : List Str} {sp : Sp} {dvs : List V} {ds : List Value}
  {E : XK} {x : Str} {p pos : Pos} {e : Expr} {es : List Expr} {kws : List Keyword} {t tk : TA}
/-- behind a call -/
def Bh (X : Cx) (pins : List (Addr × Obj)) (σ : L2.St) (Q : VK) : Result → Shared → Prop
  | .ok (.ret u), s' => EP X pins σ Q u s'
  | .ok _, _ => False
  | .error e, s' => X.xe e s'
theorem ended {pins : List (Addr × Obj)} {σ : L2.St} {H : Hp} {s s' : Shared} {Q : VK} (hx : Passes CX X E) (I : Inv X pins σ H s) :
    ∀ {r : Result}, CR CX X.stack X.prog X.w H s Q E r s' → Bh X pins σ Q r s'
  | .error _, hq => hx pins σ H s _ s' I hq
  | .ok (.ret _), hq => I.after hq
  | .ok .next, hq => hq
  | .ok .brk, hq => hq
  | .ok .cont, hq => hq
theorem enter {pins : List (Addr × Obj)} {σ : L2.St} {H : Hp} {s : Shared} {Q : VK} {args : Args} {us : List Value} {vs : List V}
    (hg : X.A.guards = some []) (F : FnG X.prog X.w X.K X.mg X.base CX k f fd ps sp) (hr : Room k X.A) (hx : Passes CX X E) (I : Inv X pins σ H s)
    (hb : BindsTo s fd args (ps.zip us)) (r : Vals vs us) (h : sp vs H Q E) :
    codeAny (model X.prog X.w) X.A (.call (.ref f) args) (Bh X pins σ Q) s :=
  codeAny_mono (F.go X.A X.stack s H args us vs Q E hg hr I.env0 hb r h) fun _ _ hq => ended hx I hq
theorem bh_out {pins : List (Addr × Obj)} {σ : L2.St} {Q : VK} {s' : Shared} : ∀ {r : Result}, Bh X pins σ Q r s' →
    (match r with | .ok (.ret v) => EP X pins σ Q v s' | .ok _ => False | .error e => X.xe e s')
  | .error _, h => h
  | .ok (.ret _), h => h
  | .ok .next, h => h
  | .ok .brk, h => h
  | .ok .cont, h => h
theorem run_g {pins : List (Addr × Obj)} {σ : L2.St} {H : Hp} {s : Shared} {Q : VK} {us : List Value} {vs : List V}
    (hg : X.A.guards = some []) (F : FnG X.prog X.w X.K X.mg X.base CX k f fd ps sp) (hr : Room k X.A) (hb : Binds X.K fd ps ds) (hd : Vals dvs ds)
    (hx : Passes CX X E) (I : Inv X pins σ H s) (r : Vals vs us) (h : sp (vs ++ dvs) H Q E) :
    wpAny (model X.prog X.w) X.A (call (.ref f) us) (EP X pins σ Q) X.xe s := by
  have r2 := r.append hd
  refine wpAny_call (codeAny_mono (enter hg F hr hx I (hb s us I.kIn (r2.length ▸ F.ar _ _ _ _ h)) r2 h) fun r s' hq => ?_)
  exact bh_out hq
/-- f(e, ..) -/
theorem pg_call (hg : X.A.guards = some []) (F : FnG X.prog X.w X.K X.mg X.base CX k f fd ps sp) (hr : Room k X.A) (hgl : Gl X x) (hm : X.mg x = some (.ref f))
    (hk : PySem.W.keepIn X.K (.ref f) = true) (hb : Binds X.K fd ps ds) (hd : Vals dvs ds) (hx : Passes CX X E) (ha : PA X (e :: es) t)
    (hdb : (x == ("__debug__" : Str)) = false := by decide)
    (he : starEach (e :: es) X.env = (false, eval e X.env) :: starEach es X.env := by rfl)
    (hpl : (backTo pos (starEach es X.env)).any (·.1) = false := by rfl) : PE X (.Call (.Name x p) (e :: es) [] pos) (tCall sp dvs E t) := by
  refine ⟨fun pins s σ H Q I h => wpAny_Call_Name_kw (ld_glob I hgl hm ?_ hdb)⟩
  refine PySem.W.callWith_K (h₀ := X.base) I.ok.mod.kin hk (thn (ha.run pos pins s σ H _ I h) ?_) he hpl
  rintro us s1 ⟨vs, H1, I1, r, q⟩
  exact ⟨I1.kIn, run_g hg F hr hb hd hx I1 r q⟩
/-- f() -/
theorem pg_call0 (hg : X.A.guards = some []) (F : FnG X.prog X.w X.K X.mg X.base CX k f fd ps sp) (hr : Room k X.A) (hgl : Gl X x) (hm : X.mg x = some (.ref f))
    (hk : PySem.W.keepIn X.K (.ref f) = true) (hb : Binds X.K fd ps ds) (hd : Vals dvs ds) (hx : Passes CX X E)
    (hdb : (x == ("__debug__" : Str)) = false := by decide) : PE X (.Call (.Name x p) [] [] pos) (tCall sp dvs E tNil) :=
  ⟨fun pins s σ H Q I h => wpAny_Call_Name_kw (ld_glob I hgl hm (PySem.W.callWith_K0 I.kIn hk (run_g (us := []) hg F hr hb hd hx I .nil h)) hdb)⟩
/-- f(k = v, ..): keywords alone -/
theorem run_gk {g : List Value → List Value → List Value} {gV : List V → List V → List V} {pins : List (Addr × Obj)} {σ : L2.St} {H : Hp} {s : Shared} {Q : VK} {us ws : List Value} {vs zs : List V}
    (hg : X.A.guards = some []) (F : FnG X.prog X.w X.K X.mg X.base CX k f fd ps sp) (hr : Room k X.A) (hb : KBinds X.K fd ps ks g gV)
    (hx : Passes CX X E) (I : Inv X pins σ H s) (r : Vals vs us) (rz : Vals zs ws) (h : sp (gV vs zs) H Q E) :
    wpAny (model X.prog X.w) X.A (call (.ref f) us (ks.zip ws)) (EP X pins σ Q) X.xe s := by
  have r2 := hb.rel r rz
  refine wpAny_call (codeAny_mono (enter hg F hr hx I (hb.to s us ws I.kIn (r2.length ▸ F.ar _ _ _ _ h)) r2 h) fun r s' hq => ?_)
  exact bh_out hq
end

section
variable {X : Cx} {CX : CXT} {k : Nat} {f : Addr} {fd : FuncData} {ps ks : List Str} {sp : Sp} {E : XK} {x : Str} {p pos : Pos} {kws : List Keyword} {tk : TA}
  {g : List Value → List Value → List Value} {gV : List V → List V → List V}
/-- f(k = v, ..), all by keywords -/
theorem pg_callK0 (hg : X.A.guards = some []) (F : FnG X.prog X.w X.K X.mg X.base CX k f fd ps sp) (hr : Room k X.A) (hgl : Gl X x) (hm : X.mg x = some (.ref f))
    (hk : PySem.W.keepIn X.K (.ref f) = true) (hb : KBinds X.K fd ps ks g gV) (hx : Passes CX X E) (hkw : PK X kws tk)
    (hall : (backToKw pos (keywordEach kws X.env)).all (·.1.isSome) = true := by rfl)
    (hks : (backToKw pos (keywordEach kws X.env)).filterMap (·.1) = ks := by rfl)
    (hdb : (x == ("__debug__" : Str)) = false := by decide)
    (hpl : ((backTo pos (starEach [] X.env)).any (·.1) || (backToKw pos (keywordEach kws X.env)).any (·.1.isNone)) = false := by rfl) :
    PE X (.Call (.Name x p) [] kws pos) (tCallK sp gV E tNil tk) := by
  refine ⟨fun pins s σ H Q I h => wpAny_Call_Name_kw (ld_glob I hgl hm ?_ hdb)⟩
  refine PySem.W.callWith_KW0 (h₀ := X.base) I.ok.mod.kin hk hall (thn (hkw.run pos pins s σ H _ I h) ?_) hpl
  rintro ws s2 ⟨zs, H2, I2, rz, q⟩
  rw [hks]
  exact ⟨I2.kIn, run_gk (us := []) (vs := []) hg F hr hb hx I2 .nil rz q⟩
end

/-! ### repr of data -/
section
variable {X : Cx}
/-- repr(x), x data without dicts -/
def rRepr (K : PySem.W.Frag) : List V → Hp → VK → Prop := fun xs H Q => ∃ v d, xs = [v] ∧ Dp K H v d ∧
  d.showable = true ∧ d.hasDict = false ∧ d.depth ≤ 100 ∧ d.shown.length ≤ sizeLine ∧ Q (.str d.shown) H
theorem call_repr {k : Nat} (hg : X.A.guards = some []) (hr : Room k X.A) : CallR X (.builtin "repr") (rRepr X.K) := by
  intro pins s σ H xs us Q I r h
  obtain ⟨v, d, rfl, hd, hs, hn, hp, hz, q⟩ := h
  obtain ⟨u, rfl, ru⟩ := vals1 r
  obtain ⟨as, rd⟩ := Dp.reads I d v u hd ru
  have hu := hr.un
  have flat : ∀ (t : Tok), EP X pins σ Q (.str d.shown t) { s with toks := s.toks + 1 } := fun t => ⟨.str d.shown, H, I.tok _, ⟨t, rfl⟩, q⟩
  have tall : ∀ {a : Addr}, Reads s.heap (.ref a) d as → wpAny (model X.prog X.w) X.A (call (.builtin "repr") [.ref a]) (EP X pins σ Q) X.xe s := fun {a} rd =>
    repr_of_reads' rd hs (PyData.noDict_hsm hn) hg (by omega) (fun _ _ e => e)
      (fun h' t tk hk => ⟨.str d.shown, H, I.kept hk, ⟨t, rfl⟩, q⟩) hz
  cases hd with
  | non => obtain rfl : u = Value.none := ru; exact PySem.P.repr_of_none (by simpa only [PyData.shown] using flat _)
  | bl b => obtain rfl : u = Value.bool b := ru; exact PySem.P.repr_of_bool (by simpa only [PyData.shown] using flat _)
  | int i =>
    obtain ⟨t, rfl⟩ := ru
    exact PySem.P.repr_of_int (by simpa [PyData.showable] using hs) (by simpa only [PyData.shown] using flat _)
  | str x =>
    obtain ⟨t, rfl⟩ := ru
    exact PySem.P.repr_of_str (by simpa only [PyData.shown] using flat _) (by simpa only [PyData.shown] using hz)
  | lst _ _ => obtain rfl := ru; exact tall rd
  | tup _ _ => obtain rfl := ru; exact tall rd
end

/-! ### the law's own call -/
/-- the names' dicts stay where a list is hidden -/
theorem ns_hid {h : Heap} {H : Hp} (none_of : ∀ b o es ep, h.get? b = some o → o.data = .dict es ep → H b = none) {b : Addr} {m : Str → Option Value}
    (n : h.Ns b m) : (hidT h H).Ns b m := by
  obtain ⟨o, es, ep, e, d, r⟩ := n
  exact ⟨o, es, ep, hidT_get e (none_of _ _ _ _ e d), d, r⟩
/-- where the script alone is tracked, or nothing -/
theorem law_at {P : Program} {w : World} {K : PySem.W.Frag} {mg mb : Str → Option Value} {CX : CXT} {k : Nat} {fa a : Addr} {fd : FuncData} {x : Str} {sp : Sp}
    {s : Shared} {vs : List Value} {H : Hp} (inK : K.In s.heap) (ng : s.heap.Ns mainGlobals mg) (nb : s.heap.Ns builtinsNs mb)
    (bb : ∀ x : Str, x ≠ "__name__" → mb x = bootBuiltins x) (lim : s.heap.NoLimit) (gens : s.gens = #[])
    (ha : s.heap.get? a = some { cls := .type "list", data := .seq vs.toArray }) (hr : Room k callerA)
    (F : ∀ base : Heap, K.In base → base.Ns mainGlobals mg → FnG P w K mg base CX k fa fd [x] sp)
    (bt : ∀ (s : Shared) (u : Value), BindsTo s fd ⟨[u], []⟩ [(x, u)]) (ok : HOk P w H s.heap) (one : ∀ b, H b ≠ none → b = a)
    (away : H a ≠ none → K.lookup a = none) (hO : Only H)
    (h : sp [.ref a] H (fun v _ => v = .bl true) fun _ _ _ => False) (noX : ∀ e s', CX [] H s (fun _ _ _ => False) e s' → False) :
    codeAny (model P w) callerA (.call (.ref fa) ⟨[.ref a], []⟩)
      (fun r s' => r = .ok (.ret (.bool true)) ∧ OldK s.heap s'.heap ∧ s'.os = s.os ∧ AllBare s'.gens) s := by
  have free : ∀ b o es ep, s.heap.get? b = some o → o.data = .dict es ep → H b = none := fun b o es ep e d => by
    cases q : H b with
    | none => rfl
    | some u =>
      obtain rfl := one b (by rw [q]; simp)
      rw [ha] at e
      cases e
      exact nomatch (show Data.seq vs.toArray _ = Data.dict es ep from d)
  have inB : K.In (hidT s.heap H) := fun b o e => by
    refine hidT_get (inK b o e) ?_
    cases q : H b with
    | none => rfl
    | some u =>
      obtain rfl := one b (by rw [q]; simp)
      rw [away (by rw [q]; simp)] at e
      cases e
  have md : Mod K mg (hidT s.heap H) := by
    obtain ⟨mc, l1, l2⟩ := lim
    exact ⟨inB, ns_hid free ng, ⟨mb, ns_hid free nb, bb⟩, mc, ns_hid free l1, l2⟩
  have e0 : Env0 P w K mg (hidT s.heap H) callerA [] s H :=
    ⟨rfl, md, fun _ _ e => of_hidT e, Nat.le_of_eq (hidT_size _ _), trivial, fun _ hb => (List.not_mem_nil hb).elim, ok, .of_eq gens⟩
  have run := (F _ inB (ns_hid free ng)).go callerA [] s H ⟨[.ref a], []⟩ [.ref a] [.ref a] _ _ rfl hr e0 (bt s (.ref a)) (.cons rfl .nil) h
  refine codeAny_mono run fun r s' hq => ?_
  match r, hq with
  | .error e, hq => exact (noX e s' hq).elim
  | .ok (.ret u), hq =>
    obtain ⟨v, H', os, bare, un, ok', rv, ev⟩ := hq
    subst ev
    obtain rfl : u = Value.bool true := rv
    refine ⟨rfl, .of_keep fun b o e => ?_, os, bare⟩
    cases q : H b with
    | none => exact un.keep b o e q List.not_mem_nil List.not_mem_nil
    | some u =>
      rcases hO b with z | ⟨ob, xs, z⟩
      · rw [q] at z
        cases z
      · have e1 := (ok b _ z).1
        have e2 := (ok' b _ (un.frzs b ob _ z)).1
        rw [e] at e1
        cases e1
        exact e2
/-- the script, tracked as what is known to its object -/
def scriptAt (a : Addr) (o : Obj) (xs : List V) : Hp := fun b => if b = a then some (.frz o (.lst xs)) else none
theorem scriptAt_ne {a b : Addr} {o : Obj} {xs : List V} (h : b ≠ a) : scriptAt a o xs b = none := if_neg h
theorem scriptAt_at {a : Addr} {o : Obj} {xs : List V} : scriptAt a o xs a = some (.frz o (.lst xs)) := if_pos rfl
theorem law_g {P : Program} {w : World} {K : PySem.W.Frag} {mg mb : Str → Option Value} {CX : CXT} {k : Nat} {fa a : Addr} {fd : FuncData} {x : Str} {sp : Sp}
    {s : Shared} {vs : List Value} {ns : List Int} (inK : K.In s.heap) (ng : s.heap.Ns mainGlobals mg) (nb : s.heap.Ns builtinsNs mb)
    (bb : ∀ x : Str, x ≠ "__name__" → mb x = bootBuiltins x) (lim : s.heap.NoLimit) (gens : s.gens = #[])
    (ha : s.heap.get? a = some { cls := .type "list", data := .seq vs.toArray }) (hi : IntsAre vs ns) (hl : ns.length ≤ sizeLine) (hr : Room k callerA)
    (F : ∀ base : Heap, K.In base → base.Ns mainGlobals mg → FnG P w K mg base CX k fa fd [x] sp)
    (bt : ∀ (s : Shared) (u : Value), BindsTo s fd ⟨[u], []⟩ [(x, u)])
    (h : ∀ H : Hp, Only H → SqL K H a (ns.map V.int) → sp [.ref a] H (fun v _ => v = .bl true) fun _ _ _ => False)
    (noX : ∀ H e s', CX [] H s (fun _ _ _ => False) e s' → False) :
    codeAny (model P w) callerA (.call (.ref fa) ⟨[.ref a], []⟩)
      (fun r s' => r = .ok (.ret (.bool true)) ∧ OldK s.heap s'.heap ∧ s'.os = s.os ∧ AllBare s'.gens) s := by
  cases hk : K.lookup a with
  | none =>
    have only : Only (scriptAt a { cls := .type "list", data := .seq vs.toArray } (ns.map V.int)) := fun b => by
      by_cases e : b = a
      · subst e
        exact .inr ⟨_, _, scriptAt_at⟩
      · exact .inl (scriptAt_ne e)
    refine law_at inK ng nb bb lim gens ha hr F bt (fun b u z => ?_) (fun b z => ?_) (fun _ => hk) only (h _ only (.inl (.inr ⟨_, scriptAt_at⟩))) (noX _)
    · by_cases e : b = a
      · subst e
        rw [scriptAt_at] at z
        cases z
        exact ⟨ha, by rw [List.length_map]; exact hl, vs, _, vals_ints hi, ha⟩
      · rw [scriptAt_ne e] at z
        cases z
    · exact Decidable.byContradiction fun e => z (scriptAt_ne e)
  | some o =>
    have e := inK a o hk
    rw [ha] at e
    cases e
    have sz : vs.toArray.size ≤ sizeLine := by rw [List.size_toArray, hi.length]; exact hl
    exact law_at (H := fun _ => none) inK ng nb bb lim gens ha hr F bt (fun _ _ z => nomatch z) (fun _ z => (z rfl).elim) (fun z => (z rfl).elim)
      (fun _ => .inl rfl) (h _ (fun _ => .inl rfl) (.inr ⟨_, vs.toArray, _, hk, rfl, rfl, rfl, sz, vals_ints hi⟩)) (noX _)

/-- the end of a law's row -/
theorem end_g {l : PySem.W.OpenLaw} {n k : Nat} {q : Program} {loose : List Str} {XP : (Str → Option Value) → Heap → Prop} {YP : World → Heap → Prop}
    {d : DefRec} {K : Params → PySem.W.Frag} {sp : PySem.W.Frag → Sp} {x : Str} (hn : l.most = some n) (hn2 : n ≤ sizeLine) (hdf : d.params.defaults = [])
    (hr : Room k callerA) (hY : ∀ (w : World) (h : Heap), YP w h → (K w.params).In h)
    (F : ∀ (w : World) (mg : Str → Option Value) (fa : Addr) (h : Heap), (K w.params).In h → h.Ns mainGlobals mg → mg d.name = some (.ref fa) →
      ∃ fd : FuncData, (∀ (s : Shared) (u : Value), BindsTo s fd ⟨[u], []⟩ [(x, u)]) ∧
        ∀ base : Heap, (K w.params).In base → base.Ns mainGlobals mg → FnG l.prog w (K w.params) mg base CX0 k fa fd [x] (sp (K w.params)))
    (hsp : ∀ (K : PySem.W.Frag) (H : Hp) (a : Addr) (ns : List Int), ns.length ≤ n → Only H → SqL K H a (ns.map V.int) →
      sp K [.ref a] H (fun v _ => v = .bl true) fun _ _ _ => False) :
    PySem.W.WalkO q loose XP YP l.row.toRowW d [] (fun f vs => PySem.call f vs) := by
  refine Att.attach_call hn hdf fun w s0 s1 mg mb fa o pm cd doc a vs ns G Y ho hd hcd hmg hobj hints hlen hg => ?_
  have inK := hY w _ Y
  obtain ⟨fd, hb, hF⟩ := F w mg fa _ inK G.T.g hmg
  exact law_g inK G.T.g G.T.b G.T.builtins G.T.nolimit hg hobj hints (Nat.le_trans hlen hn2) hr hF hb
    (fun H hO hS => hsp _ H a ns hlen hO hS) fun _ _ _ z => z
end G
end
section
set_option maxRecDepth 100000
set_option maxHeartbeats 2000000
/-! readings over data: what an expression gives is told as data, whatever stands in the heap -/
namespace G
open PySem PySem.Spec PyProof.Rows L2

/-! ### data in a heap: lists that are the call's own, tuples -/
mutual
inductive Da (K : PySem.W.Frag) (B : Hp) : V → PyData → Prop
  | non : Da K B .non .none
  | bl (b : Bool) : Da K B (.bl b) (.bool b)
  | int (i : Int) : Da K B (.int i) (.int i)
  | str (x : Str) : Da K B (.str x) (.str x)
  | lst {a : Addr} {xs : List V} {ds : List PyData} (h : SqL K B a xs) (hs : DaAll K B xs ds) : Da K B (.ref a) (.list ds)
  | tup {a : Addr} {xs : List V} {ds : List PyData} (h : SqT K B a xs) (hs : DaAll K B xs ds) : Da K B (.ref a) (.tuple ds)
  | emp {a : Addr} (h : B a = some (.dK [])) : Da K B (.ref a) (.dict [])
inductive DaAll (K : PySem.W.Frag) (B : Hp) : List V → List PyData → Prop
  | nil : DaAll K B [] []
  | cons {v : V} {vs : List V} {d : PyData} {ds : List PyData} (h : Da K B v d) (t : DaAll K B vs ds) : DaAll K B (v :: vs) (d :: ds)
end
section
variable {K : PySem.W.Frag} {B B' : Hp}
theorem same_t {H H' : Hp} {a : Addr} {xs : List V} (e : Same H H') (h : SqT K H a xs) : SqT K H' a xs := by
  rcases h with (h | ⟨o, h⟩) | h
  · exact .inl (.inl (e _ _ h))
  · exact .inl (.inr ⟨o, e _ _ h⟩)
  · exact .inr h
theorem same_l {H H' : Hp} {a : Addr} {xs : List V} (e : Same H H') (h : SqL K H a xs) : SqL K H' a xs := by
  rcases h with (h | ⟨o, h⟩) | h
  · exact .inl (.inl (e _ _ h))
  · exact .inl (.inr ⟨o, e _ _ h⟩)
  · exact .inr h
mutual
theorem Da.mono (e : Same B B') : ∀ (d : PyData) {v : V}, Da K B v d → Da K B' v d
  | .none, _, .non => .non
  | .bool _, _, .bl b => .bl b
  | .int _, _, .int i => .int i
  | .str _, _, .str x => .str x
  | .list ds, _, .lst h hs => .lst (same_l e h) (DaAll.mono e ds hs)
  | .tuple ds, _, .tup h hs => .tup (same_t e h) (DaAll.mono e ds hs)
  | .dict _, _, .emp h => .emp (e _ _ h)
theorem DaAll.mono (e : Same B B') : ∀ (ds : List PyData) {vs : List V}, DaAll K B vs ds → DaAll K B' vs ds
  | [], _, .nil => .nil
  | d :: ds, _, .cons h t => .cons (Da.mono e d h) (DaAll.mono e ds t)
end
mutual
theorem Da.dp : ∀ (d : PyData) {v : V}, d.hasDict = false → Da K B v d → Dp K B v d
  | .none, _, _, .non => .non
  | .bool _, _, _, .bl b => .bl b
  | .int _, _, _, .int i => .int i
  | .str _, _, _, .str x => .str x
  | .list ds, _, z, .lst h hs => .lst h (DaAll.dp ds (by rw [PyData.hasDict] at z; exact z) hs)
  | .tuple ds, _, z, .tup h hs => .tup h (DaAll.dp ds (by rw [PyData.hasDict] at z; exact z) hs)
  | .dict _, _, z, _ => by simp [PyData.hasDict] at z
theorem DaAll.dp : ∀ (ds : List PyData) {vs : List V}, PyData.hasDictAll ds = false → DaAll K B vs ds → DpAll K B vs ds
  | [], _, _, .nil => .nil
  | d :: ds, _, z, .cons h t => .cons (Da.dp d (by rw [PyData.hasDictAll, Bool.or_eq_false_iff] at z; exact z.1) h) (DaAll.dp ds (by rw [PyData.hasDictAll, Bool.or_eq_false_iff] at z; exact z.2) t)
end
theorem nd_shaped {d : PyData} (h : SeqAt.shaped d = true) : d.hasDict = false := PyData.hasDict_of_canLay d (by unfold SeqAt.shaped at h; exact (Bool.and_eq_true_iff.mp h).1)
theorem DaAll.len : ∀ {vs : List V} {ds : List PyData}, DaAll K B vs ds → vs.length = ds.length
  | _, _, .nil => rfl
  | _, _, .cons _ t => congrArg Nat.succ t.len
theorem DaAll.at : ∀ {vs : List V} {ds : List PyData} {i : Nat} {d : PyData}, DaAll K B vs ds → ds[i]? = some d → ∃ v, vs[i]? = some v ∧ Da K B v d
  | _, _, _, _, .nil, e => by simp at e
  | _, _, 0, _, .cons h _, e => by
    simp at e
    subst e
    exact ⟨_, rfl, h⟩
  | _, _, i + 1, _, .cons _ t, e => by
    obtain ⟨v, h1, h2⟩ := DaAll.at (i := i) t (by simpa using e)
    exact ⟨v, by simpa using h1, h2⟩
theorem DaAll.app : ∀ {vs ws : List V} {ds es : List PyData}, DaAll K B vs ds → DaAll K B ws es → DaAll K B (vs ++ ws) (ds ++ es)
  | _, _, _, _, .nil, h => h
  | _, _, _, _, .cons a t, h => .cons a (t.app h)
theorem DaAll.take : ∀ {vs : List V} {ds : List PyData} (n : Nat), DaAll K B vs ds → DaAll K B (vs.take n) (ds.take n)
  | _, _, 0, _ => .nil
  | _, _, _ + 1, .nil => .nil
  | _, _, n + 1, .cons a t => .cons a (t.take n)
theorem DaAll.drop : ∀ {vs : List V} {ds : List PyData} (n : Nat), DaAll K B vs ds → DaAll K B (vs.drop n) (ds.drop n)
  | _, _, 0, h => h
  | _, _, _ + 1, .nil => .nil
  | _, _, n + 1, .cons _ t => t.drop n
theorem DaAll.rev : ∀ {vs : List V} {ds : List PyData}, DaAll K B vs ds → DaAll K B vs.reverse ds.reverse
  | _, _, .nil => .nil
  | _, _, .cons a t => by
    rw [List.reverse_cons, List.reverse_cons]
    exact t.rev.app (.cons a .nil)
theorem daInts : ∀ {vs : List V} {ns : List Int}, DaAll K B vs (ns.map .int) → vs = ns.map .int
  | _, [], .nil => rfl
  | _, _ :: ns, .cons (.int _) t => by rw [daInts (ns := ns) t]; rfl
theorem daBools : ∀ {vs : List V} {bs : List Bool}, DaAll K B vs (bs.map .bool) → vs = bs.map .bl
  | _, [], .nil => rfl
  | _, _ :: bs, .cons (.bl _) t => by rw [daBools (bs := bs) t]; rfl
end

/-! ### how the heap grows: H all that is tracked, B what the data lie in -/
structure Gr (B H B' H' : Hp) : Prop where
  ex : Same H H'
  bb : Same B B'
  sub : Same B' H'
  new : ∀ a o, B' a = some o → B a = none → H a = none
section
variable {B H B1 H1 B2 H2 : Hp}
theorem Gr.refl (h : Same B H) : Gr B H B H := ⟨Same.refl _, Same.refl _, h, fun a o e n => by rw [n] at e; cases e⟩
theorem Gr.trans (g : Gr B H B1 H1) (k : Gr B1 H1 B2 H2) : Gr B H B2 H2 := ⟨g.ex.trans k.ex, g.bb.trans k.bb, k.sub, fun a o e n => by
  cases q : B1 a with
  | none => exact g.ex.free (k.new a o e q)
  | some u => exact g.new a u q n⟩
theorem same_new {p : Addr} {o : HO} (h : H p = none) : Same H (upd H p o) := fun b u q => by
  rw [upd_ne (ne_of_none q h)]
  exact q
theorem Gr.add (h : Same B H) {p : Addr} (hp : H p = none) (o : HO) : Gr B H (upd B p o) (upd H p o) :=
  ⟨same_new hp, same_new (h.free hp), fun a u e => by
    by_cases q : a = p
    · subst q
      rw [upd_same] at e ⊢
      exact e
    · rw [upd_ne q] at e ⊢
      exact h a u e, fun a u e n => by
    by_cases q : a = p
    · subst q
      exact hp
    · rw [upd_ne q, n] at e
      cases e⟩
/-- a new object that is no data -/
theorem Gr.side (h : Same B H) {p : Addr} (hp : H p = none) (o : HO) : Gr B H B (upd H p o) :=
  ⟨same_new hp, Same.refl _, h.trans (same_new hp), fun a u e n => by rw [n] at e; cases e⟩
end

/-! ### the names' data -/
abbrev Rho := List (Option PyData)
structure EnvOk (K : PySem.W.Frag) (B : Hp) (σ : L2.St) (ρ : Rho) : Prop where
  len : σ.length = ρ.length
  look : ∀ (i : Nat) (d : PyData), ρ[i]? = some (some d) → ∃ v, σ[i]? = some (some v) ∧ Da K B v d
section
variable {K : PySem.W.Frag} {B B' : Hp} {σ : L2.St} {ρ : Rho}
theorem EnvOk.mono (e : Same B B') (h : EnvOk K B σ ρ) : EnvOk K B' σ ρ := ⟨h.len, fun i d q => by
  obtain ⟨v, h1, h2⟩ := h.look i d q
  exact ⟨v, h1, h2.mono e⟩⟩
theorem EnvOk.set (h : EnvOk K B σ ρ) {v : V} {d : PyData} (hv : Da K B v d) (i : Nat) : EnvOk K B (σ.set i (some v)) (ρ.set i (some d)) :=
  ⟨by rw [List.length_set, List.length_set]; exact h.len, fun j e q => by
    by_cases c : i = j
    · subst c
      have l : i < ρ.length := by
        have z := (List.getElem?_eq_some_iff.mp q).1
        rw [List.length_set] at z
        exact z
      rw [List.getElem?_set_self l] at q
      cases q
      exact ⟨v, by rw [List.getElem?_set_self (by rw [h.len]; exact l)], hv⟩
    · rw [List.getElem?_set_ne c] at q
      obtain ⟨w, h1, h2⟩ := h.look j e q
      exact ⟨w, by rw [List.getElem?_set_ne c]; exact h1, h2⟩⟩
theorem EnvOk.unset (h : EnvOk K B σ ρ) (i : Nat) : EnvOk K B (σ.set i none) (ρ.set i none) :=
  ⟨by rw [List.length_set, List.length_set]; exact h.len, fun j e q => by
    by_cases c : i = j
    · subst c
      have l : i < ρ.length := by
        have z := (List.getElem?_eq_some_iff.mp q).1
        rw [List.length_set] at z
        exact z
      rw [List.getElem?_set_self l] at q
      cases q
    · rw [List.getElem?_set_ne c] at q
      obtain ⟨w, h1, h2⟩ := h.look j e q
      exact ⟨w, by rw [List.getElem?_set_ne c]; exact h1, h2⟩⟩
end
def wipeR (ρ : Rho) : List Nat → Rho
  | [] => ρ
  | v :: vs => (wipeR ρ vs).set v none
theorem EnvOk.wiped {K : PySem.W.Frag} {B : Hp} {σ : L2.St} {ρ : Rho} (h : EnvOk K B σ ρ) : ∀ vs, EnvOk K B (wipe σ vs) (wipeR ρ vs)
  | [] => h
  | v :: vs => (h.wiped vs).unset v
def startR (N : List Str) (ds : List PyData) : Rho := ds.map some ++ List.replicate (N.length - ds.length) none
theorem env_start {K : PySem.W.Frag} {B : Hp} {N : List Str} {vs : List V} {ds : List PyData} (h : DaAll K B vs ds) : EnvOk K B (L2.start N vs) (startR N ds) := by
  have hl := h.len
  refine ⟨by unfold L2.start startR; simp [hl], fun i d q => ?_⟩
  unfold startR at q
  by_cases hi : i < ds.length
  · rw [List.getElem?_append_left (by simpa using hi), List.getElem?_map] at q
    cases e : ds[i]? with
    | none => rw [e] at q; cases q
    | some c =>
      rw [e] at q
      cases q
      obtain ⟨v, h1, h2⟩ := h.at e
      refine ⟨v, ?_, h2⟩
      unfold L2.start
      rw [List.getElem?_append_left (by simpa [hl] using hi), List.getElem?_map, h1]
      rfl
  · rw [List.getElem?_append_right (by simpa using hi), List.getElem?_replicate] at q
    split at q <;> cases q

/-! ### what evaluates to what data -/
def Ev (K : PySem.W.Frag) (te : TE) (ρ : Rho) (d : PyData) : Prop := ∀ σ B H, EnvOk K B σ ρ → Same B H → ∀ Q : VK, (∀ v B' H', Gr B H B' H' → Da K B' v d → Q v H') → te σ H Q
def EvL (K : PySem.W.Frag) (ta : TA) (ρ : Rho) (ds : List PyData) : Prop := ∀ σ B H, EnvOk K B σ ρ → Same B H → ∀ Q : List V → Hp → Prop, (∀ vs B' H', Gr B H B' H' → DaAll K B' vs ds → Q vs H') → ta σ H Q
def EvB (K : PySem.W.Frag) (tt : TT) (ρ : Rho) (b : Bool) : Prop := ∀ σ B H, EnvOk K B σ ρ → Same B H → ∀ Q : Bool → Hp → Prop, (∀ B' H', Gr B H B' H' → Q b H') → tt σ H Q
/-- an operation on values, by data -/
def Op2 (K : PySem.W.Frag) (r : R2) (x y z : PyData) : Prop := ∀ B H, Same B H → ∀ u v, Da K B u x → Da K B v y → ∀ Q : VK, (∀ w B' H', Gr B H B' H' → Da K B' w z → Q w H') → r u v H Q
def Fn (K : PySem.W.Frag) (r : List V → Hp → VK → Prop) (xs : List PyData) (z : PyData) : Prop := ∀ B H, Same B H → ∀ us, DaAll K B us xs → ∀ Q : VK, (∀ w B' H', Gr B H B' H' → Da K B' w z → Q w H') → r us H Q
section
variable {K : PySem.W.Frag} {ρ : Rho} {ta tb te tc : TE} {d x y z : PyData} {t u : TT} {r : R2}
theorem ev_var {i : Nat} (h : ρ[i]? = some (some d)) : Ev K (tVar i) ρ d := fun σ B H e s Q q => by
  obtain ⟨v, h1, h2⟩ := e.look i d h
  exact ⟨v, h1, q v B H (.refl s) h2⟩
theorem ev_int {i : Int} : Ev K (tC (.int i)) ρ (.int i) := fun _ B H _ s _ q => q _ B H (.refl s) (.int i)
theorem ev_bl {b : Bool} : Ev K (tC (.bl b)) ρ (.bool b) := fun _ B H _ s _ q => q _ B H (.refl s) (.bl b)
theorem ev_non : Ev K (tC .non) ρ .none := fun _ B H _ s _ q => q _ B H (.refl s) .non
theorem ev_str {c : Str} : Ev K (tC (.str c)) ρ (.str c) := fun _ B H _ s _ q => q _ B H (.refl s) (.str c)
theorem ev_op (ha : Ev K ta ρ x) (hb : Ev K tb ρ y) (hr : Op2 K r x y z) : Ev K (tOp r ta tb) ρ z := fun σ B H e s Q q =>
  ha σ B H e s _ fun u B1 H1 g1 hu => hb σ B1 H1 (e.mono g1.bb) g1.sub _ fun v B2 H2 g2 hv =>
    hr B2 H2 g2.sub u v (hu.mono g2.bb) hv Q fun w B3 H3 g3 hw => q w B3 H3 ((g1.trans g2).trans g3) hw
theorem ev_un {r : V → Hp → VK → Prop} (ha : Ev K ta ρ x) (hr : ∀ B H, Same B H → ∀ u, Da K B u x → ∀ Q : VK, (∀ w B' H', Gr B H B' H' → Da K B' w z → Q w H') → r u H Q) : Ev K (tUn r ta) ρ z := fun σ B H e s Q q =>
  ha σ B H e s _ fun u B1 H1 g1 hu => hr B1 H1 g1.sub u hu Q fun w B2 H2 g2 hw => q w B2 H2 (g1.trans g2) hw
theorem el_nil : EvL K tNil ρ [] := fun _ B H _ s _ q => q _ B H (.refl s) .nil
theorem el_cons {tr : TA} {ds : List PyData} (ha : Ev K ta ρ d) (hr : EvL K tr ρ ds) : EvL K (tCons ta tr) ρ (d :: ds) := fun σ B H e s Q q =>
  ha σ B H e s _ fun u B1 H1 g1 hu => hr σ B1 H1 (e.mono g1.bb) g1.sub _ fun vs B2 H2 g2 hv => q _ B2 H2 (g1.trans g2) (.cons (hu.mono g2.bb) hv)
theorem ev_tup {tr : TA} {ds : List PyData} (h : EvL K tr ρ ds) (hl : ds.length ≤ sizeLine) : Ev K (tTup tr) ρ (.tuple ds) := fun σ B H e s Q q =>
  h σ B H e s _ fun vs B1 H1 g1 hv => ⟨by rw [hv.len]; exact hl, fun p hp => by
    have g := Gr.add g1.sub hp (.tup vs)
    exact q _ _ _ (g1.trans g) (.tup (.of upd_same) (hv.mono g.bb))⟩
theorem ev_lst {tr : TA} {ds : List PyData} (h : EvL K tr ρ ds) (hl : ds.length ≤ sizeLine) : Ev K (tLst tr) ρ (.list ds) := fun σ B H e s Q q =>
  h σ B H e s _ fun vs B1 H1 g1 hv => ⟨by rw [hv.len]; exact hl, fun p hp => by
    have g := Gr.add g1.sub hp (.lst vs)
    exact q _ _ _ (g1.trans g) (.lst (.of upd_same) (hv.mono g.bb))⟩
theorem ev_cb {rr : List V → Hp → VK → Prop} {tr : TA} {ds : List PyData} (h : EvL K tr ρ ds) (hr : Fn K rr ds z) : Ev K (tCB rr tr) ρ z := fun σ B H e s Q q =>
  h σ B H e s _ fun vs B1 H1 g1 hv => hr B1 H1 g1.sub vs hv Q fun w B2 H2 g2 hw => q w B2 H2 (g1.trans g2) hw
theorem eb_test {b : Bool} (h : Ev K te ρ (.bool b)) : EvB K (tTest te) ρ b := fun σ B H e s Q q =>
  h σ B H e s _ fun v B1 H1 g1 hv => by cases hv; exact ⟨b, rfl, q B1 H1 g1⟩
theorem eb_B {b : Bool} (h : Ev K te ρ (.bool b)) : EvB K (tB te) ρ b := fun σ B H e s Q q =>
  h σ B H e s _ fun v B1 H1 g1 hv => by cases hv; exact ⟨b, rfl, q B1 H1 g1⟩
theorem eb_and {a b : Bool} (h1 : EvB K t ρ a) (h2 : a = true → EvB K u ρ b) (hf : a = false → b = false) : EvB K (tAnd t u) ρ b := fun σ B H e s Q q =>
  h1 σ B H e s _ fun B1 H1 g1 => by
    cases a with
    | true => exact iteT (h2 rfl σ B1 H1 (e.mono g1.bb) g1.sub _ fun B2 H2 g2 => q B2 H2 (g1.trans g2))
    | false => rw [hf rfl] at q; exact iteF (q B1 H1 g1)
theorem eb_or {a b : Bool} (h1 : EvB K t ρ a) (h2 : a = false → EvB K u ρ b) (ht : a = true → b = true) : EvB K (tOr t u) ρ b := fun σ B H e s Q q =>
  h1 σ B H e s _ fun B1 H1 g1 => by
    cases a with
    | true => rw [ht rfl] at q; exact iteT (q B1 H1 g1)
    | false => exact iteF (h2 rfl σ B1 H1 (e.mono g1.bb) g1.sub _ fun B2 H2 g2 => q B2 H2 (g1.trans g2))
theorem eb_not {a b : Bool} (h1 : EvB K t ρ a) (hb : (!a) = b) : EvB K (tNot t) ρ b := fun σ B H e s Q q =>
  h1 σ B H e s _ fun B1 H1 g1 => by rw [hb]; exact q B1 H1 g1
theorem ev_and {a : Bool} (h1 : Ev K ta ρ (.bool a)) (h2 : a = true → Ev K tb ρ z) (hf : a = false → z = .bool false) : Ev K (tAndV ta tb) ρ z := fun σ B H e s Q q =>
  h1 σ B H e s _ fun v B1 H1 g1 hv => by
    cases hv
    refine ⟨a, rfl, ?_⟩
    cases a with
    | true => exact iteT (h2 rfl σ B1 H1 (e.mono g1.bb) g1.sub Q fun w B2 H2 g2 => q w B2 H2 (g1.trans g2))
    | false => exact iteF (q _ B1 H1 g1 (by rw [hf rfl]; exact .bl false))
theorem ev_or {a : Bool} (h1 : Ev K ta ρ (.bool a)) (h2 : a = false → Ev K tb ρ z) (ht : a = true → z = .bool true) : Ev K (tOrV ta tb) ρ z := fun σ B H e s Q q =>
  h1 σ B H e s _ fun v B1 H1 g1 hv => by
    cases hv
    refine ⟨a, rfl, ?_⟩
    cases a with
    | true => exact iteT (q _ B1 H1 g1 (by rw [ht rfl]; exact .bl true))
    | false => exact iteF (h2 rfl σ B1 H1 (e.mono g1.bb) g1.sub Q fun w B2 H2 g2 => q w B2 H2 (g1.trans g2))
theorem ev_not {a : Bool} (h1 : Ev K ta ρ (.bool a)) (hz : z = .bool (!a)) : Ev K (tNotV ta) ρ z := fun σ B H e s Q q =>
  h1 σ B H e s _ fun v B1 H1 g1 hv => by cases hv; exact ⟨a, rfl, q _ B1 H1 g1 (by rw [hz]; exact .bl _)⟩
theorem ev_ifx {b : Bool} (h : EvB K t ρ b) (h1 : b = true → Ev K ta ρ z) (h2 : b = false → Ev K tb ρ z) : Ev K (tIf t ta tb) ρ z := fun σ B H e s Q q =>
  h σ B H e s _ fun B1 H1 g1 => by
    cases b with
    | true => exact iteT (h1 rfl σ B1 H1 (e.mono g1.bb) g1.sub Q fun w B2 H2 g2 => q w B2 H2 (g1.trans g2))
    | false => exact iteF (h2 rfl σ B1 H1 (e.mono g1.bb) g1.sub Q fun w B2 H2 g2 => q w B2 H2 (g1.trans g2))
theorem ev_chain {r' : R2} {a : Bool} {w : PyData} (ha : Ev K ta ρ x) (hb : Ev K tb ρ y) (hr : Op2 K r x y (.bool a)) (hc : a = true → Ev K tc ρ w) (hr' : a = true → Op2 K r' y w z) (hf : a = false → z = .bool false) : Ev K (tChain r r' ta tb tc) ρ z := fun σ B H e s Q q =>
  ha σ B H e s _ fun u B1 H1 g1 hu => hb σ B1 H1 (e.mono g1.bb) g1.sub _ fun v B2 H2 g2 hv =>
    hr B2 H2 g2.sub u v (hu.mono g2.bb) hv _ fun k B3 H3 g3 hk => by
      cases hk
      refine ⟨a, rfl, ?_⟩
      have g := (g1.trans g2).trans g3
      cases a with
      | true => exact iteT (hc rfl σ B3 H3 (e.mono g.bb) g.sub _ fun w' B4 H4 g4 hw => hr' rfl B4 H4 g4.sub v w' (hv.mono (g3.bb.trans g4.bb)) hw Q fun w5 B5 H5 g5 h5 => q w5 B5 H5 ((g.trans g4).trans g5) h5)
      | false => exact iteF (q _ B3 H3 g (by rw [hf rfl]; exact .bl false))
/-! operations -/
theorem op_I0 {g : Int → Int → V} {i j : Int} (h : ∀ B, Da K B (g i j) z) : Op2 K (rI0 g) (.int i) (.int j) z := fun B H s u v hu hv Q q => by
  cases hu
  cases hv
  exact ⟨i, j, rfl, rfl, q _ B H (.refl s) (h B)⟩
theorem op_I {C : Int → Int → Prop} {g : Int → Int → V} {i j : Int} (hc : C i j) (h : ∀ B, Da K B (g i j) z) : Op2 K (rI C g) (.int i) (.int j) z := fun B H s u v hu hv Q q => by
  cases hu
  cases hv
  exact ⟨i, j, rfl, rfl, hc, q _ B H (.refl s) (h B)⟩
/-- list + list, of any that are read -/
def rCatS (K : PySem.W.Frag) : R2 := fun x y H Q => ∃ l b xs zs, x = .ref l ∧ y = .ref b ∧ SqL K H l xs ∧ SqL K H b zs ∧ xs.length + zs.length ≤ sizeLine ∧ ∀ p, H p = none → Q (.ref p) (upd H p (.lst (xs ++ zs)))
theorem opp_cat {xs ys : List PyData} (hl : xs.length + ys.length ≤ sizeLine) : Op2 K (rCatS K) (.list xs) (.list ys) (.list (xs ++ ys)) := fun B H s u v hu hv Q q => by
  cases hu with
  | @lst a us _ h1 a1 =>
    cases hv with
    | @lst b vs _ h2 a2 =>
      refine ⟨_, _, _, _, rfl, rfl, same_l s h1, same_l s h2, by rw [a1.len, a2.len]; exact hl, fun p hp => ?_⟩
      have g := Gr.add s hp (.lst (us ++ vs))
      exact q _ _ _ g (.lst (.of upd_same) ((a1.app a2).mono g.bb))
theorem opp_ixL {xs : List PyData} {i : Nat} (h : xs[i]? = some z) : Op2 K (rIxL K) (.list xs) (.int i) z := fun B H s u v hu hv Q q => by
  cases hv
  cases hu with
  | lst h1 a1 =>
    obtain ⟨w, e1, e2⟩ := a1.at h
    exact ⟨_, _, _, w, rfl, rfl, same_l s h1, atI_nat e1, q _ B H (.refl s) e2⟩
theorem opp_ixT {xs : List PyData} {i : Nat} (h : xs[i]? = some z) : Op2 K (rIxT K) (.tuple xs) (.int i) z := fun B H s u v hu hv Q q => by
  cases hv
  cases hu with
  | tup h1 a1 =>
    obtain ⟨w, e1, e2⟩ := a1.at h
    exact ⟨_, _, _, w, rfl, rfl, same_t s h1, atI_nat e1, q _ B H (.refl s) e2⟩
theorem opp_eqD {x y : PyData} (hx : SeqAt.shaped x = true) (hy : SeqAt.shaped y = true) (hz : z = .bool (PyData.eqv x y)) : Op2 K (rEqD K) x y z := fun B H s u v hu hv Q q =>
  ⟨x, y, (hu.mono s).dp _ (nd_shaped hx), (hv.mono s).dp _ (nd_shaped hy), hx, hy, q _ B H (.refl s) (by rw [hz]; exact .bl _)⟩
theorem opp_neD {x y : PyData} (hx : SeqAt.shaped x = true) (hy : SeqAt.shaped y = true) (hz : z = .bool (!PyData.eqv x y)) : Op2 K (rNeD K) x y z := fun B H s u v hu hv Q q =>
  ⟨x, y, (hu.mono s).dp _ (nd_shaped hx), (hv.mono s).dp _ (nd_shaped hy), hx, hy, q _ B H (.refl s) (by rw [hz]; exact .bl _)⟩
theorem opp_eqI {i j : Int} (hz : z = .bool (decide (i = j))) : Op2 K rEq (.int i) (.int j) z := fun B H s u v hu hv Q q => by
  cases hu
  cases hv
  refine ⟨rfl, q _ B H (.refl s) ?_⟩
  rw [hz, show decide (V.int i = V.int j) = decide (i = j) from decide_eq_decide.mpr ⟨fun e => V.int.inj e, fun e => congrArg V.int e⟩]
  exact .bl _
theorem opp_neI {i j : Int} (hz : z = .bool (!decide (i = j))) : Op2 K rNe (.int i) (.int j) z := fun B H s u v hu hv Q q => by
  cases hu
  cases hv
  refine ⟨rfl, q _ B H (.refl s) ?_⟩
  rw [hz, show decide (V.int i = V.int j) = decide (i = j) from decide_eq_decide.mpr ⟨fun e => V.int.inj e, fun e => congrArg V.int e⟩]
  exact .bl _
theorem opp_eqS {a b : Str} (hz : z = .bool (decide (a = b))) : Op2 K rEq (.str a) (.str b) z := fun B H s u v hu hv Q q => by
  cases hu
  cases hv
  refine ⟨rfl, q _ B H (.refl s) ?_⟩
  rw [hz, show decide (V.str a = V.str b) = decide (a = b) from decide_eq_decide.mpr ⟨fun e => V.str.inj e, fun e => congrArg V.str e⟩]
  exact .bl _
theorem opp_neS {a b : Str} (hz : z = .bool (!decide (a = b))) : Op2 K rNe (.str a) (.str b) z := fun B H s u v hu hv Q q => by
  cases hu
  cases hv
  refine ⟨rfl, q _ B H (.refl s) ?_⟩
  rw [hz, show decide (V.str a = V.str b) = decide (a = b) from decide_eq_decide.mpr ⟨fun e => V.str.inj e, fun e => congrArg V.str e⟩]
  exact .bl _
/-! built-ins -/
theorem fn_repr (hs : d.showable = true) (hd : d.hasDict = false) (hp : d.depth ≤ 100) (hz : d.shown.length ≤ sizeLine) : Fn K (rRepr K) [d] (.str d.shown) := fun B H s us hu Q q => by
  cases hu with
  | cons h t =>
    cases t
    exact ⟨_, d, rfl, (h.mono s).dp _ hd, hs, hd, hp, hz, q _ B H (.refl s) (.str _)⟩
theorem fn_len {xs : List PyData} : Fn K (fun xs H Q => ∃ p ys, xs = [.ref p] ∧ (SqL K H p ys ∨ SqT K H p ys) ∧ Q (.int ys.length) H) [.list xs] (.int xs.length) := fun B H s us hu Q q => by
  cases hu with
  | cons h t =>
    cases t
    cases h with
    | lst h1 a1 => exact ⟨_, _, rfl, .inl (same_l s h1), q _ B H (.refl s) (by rw [a1.len]; exact .int _)⟩
end
end G
end
section
set_option maxRecDepth 100000
set_option maxHeartbeats 2000000
/-! readings over data: statements, loops, comprehensions, defs -/
namespace G
open PySem PySem.Spec PyProof.Rows L2

/-! ### statements: N what the names' data are behind it, R what is returned -/
def Do (K : PySem.W.Frag) (ts : TS) (ρ : Rho) (N : Rho → Prop) (R : PyData → Prop) : Prop := ∀ σ B H (D : Ends), EnvOk K B σ ρ → Same B H →
  (∀ σ' B' H' ρ', Gr B H B' H' → EnvOk K B' σ' ρ' → N ρ' → D.nx σ' H') → (∀ v B' H' d, Gr B H B' H' → Da K B' v d → R d → D.rt v H') → ts D σ H
section
variable {K : PySem.W.Frag} {ρ : Rho} {N M : Rho → Prop} {R : PyData → Prop} {te : TE} {t u : TS} {tt : TT} {d : PyData}
theorem do_next (h : N ρ) : Do K tNext ρ N R := fun σ B H D e s n _ => n σ B H ρ (.refl s) e h
theorem do_seq (h : Do K t ρ M R) (k : ∀ ρ', M ρ' → Do K u ρ' N R) : Do K (tSeq t u) ρ N R := fun σ B H D e s n r =>
  h σ B H _ e s (fun σ' B' H' ρ' g e' m => k ρ' m σ' B' H' D e' g.sub (fun σ2 B2 H2 ρ2 g2 => n σ2 B2 H2 ρ2 (g.trans g2)) (fun v B2 H2 d g2 => r v B2 H2 d (g.trans g2))) r
theorem do_ret (h : Ev K te ρ d) (r : R d) : Do K (tRet te) ρ N R := fun σ B H D e s _ k => h σ B H e s _ fun v B' H' g hv => k v B' H' d g hv r
theorem do_retN (r : R .none) : Do K tRetN ρ N R := fun σ B H D e s _ k => k .non B H .none (.refl s) .non r
theorem do_drop (h : Ev K te ρ d) (n : N ρ) : Do K (tDrop te) ρ N R := fun σ B H D e s k _ => h σ B H e s _ fun v B' H' g _ => k σ B' H' ρ g (e.mono g.bb) n
theorem do_if {b : Bool} (h : EvB K tt ρ b) (h1 : b = true → Do K t ρ N R) (h2 : b = false → Do K u ρ N R) : Do K (tIfS tt t u) ρ N R := fun σ B H D e s n r =>
  h σ B H e s _ fun B1 H1 g1 => by
    cases b with
    | true => exact iteT (h1 rfl σ B1 H1 D (e.mono g1.bb) g1.sub (fun σ2 B2 H2 ρ2 g2 => n σ2 B2 H2 ρ2 (g1.trans g2)) fun v B2 H2 d g2 => r v B2 H2 d (g1.trans g2))
    | false => exact iteF (h2 rfl σ B1 H1 D (e.mono g1.bb) g1.sub (fun σ2 B2 H2 ρ2 g2 => n σ2 B2 H2 ρ2 (g1.trans g2)) fun v B2 H2 d g2 => r v B2 H2 d (g1.trans g2))
theorem Do.imp {N' : Rho → Prop} {R' : PyData → Prop} (h : Do K t ρ N R) (hn : ∀ ρ', N ρ' → N' ρ') (hr : ∀ d, R d → R' d) : Do K t ρ N' R' := fun σ B H D e s n r =>
  h σ B H D e s (fun σ' B' H' ρ' g e' m => n σ' B' H' ρ' g e' (hn _ m)) fun v B' H' d g hv m => r v B' H' d g hv (hr _ m)

/-! targets -/
def Tg (K : PySem.W.Frag) (g : TG) (e : PyData) (ρ ρ1 : Rho) : Prop := ∀ σ B H v, EnvOk K B σ ρ → Same B H → Da K B v e → ∀ Q : L2.St → Hp → Prop, (∀ σ', EnvOk K B σ' ρ1 → Q σ' H) → g v σ H Q
def Tgs (K : PySem.W.Frag) (g : TGs) (es : List PyData) (ρ ρ1 : Rho) : Prop := ∀ σ B H vs, EnvOk K B σ ρ → Same B H → DaAll K B vs es → ∀ Q : L2.St → Hp → Prop, (∀ σ', EnvOk K B σ' ρ1 → Q σ' H) → g vs σ H Q
theorem tg_name {i : Nat} {e : PyData} : Tg K (gName i) e ρ (ρ.set i (some e)) := fun σ B H v he s hv Q q => q _ (he.set hv i)
theorem tgs_nil : Tgs K gNil [] ρ ρ := fun σ B H vs he s hv Q q => by cases hv; exact ⟨rfl, q σ he⟩
theorem tgs_cons {g : TG} {gs : TGs} {e : PyData} {es : List PyData} {ρ1 ρ2 : Rho} (h : Tg K g e ρ ρ1) (hs : Tgs K gs es ρ1 ρ2) : Tgs K (gCons g gs) (e :: es) ρ ρ2 := fun σ B H vs he s hv Q q => by
  cases hv with
  | cons a t => exact ⟨_, _, rfl, h σ B H _ he s a _ fun σ' he' => hs σ' B H _ he' s t Q q⟩
theorem tg_tup {gs : TGs} {es : List PyData} {n : Nat} {ρ1 : Rho} (hn : es.length = n) (hs : Tgs K gs es ρ ρ1) : Tg K (gTup K n gs) (.tuple es) ρ ρ1 := fun σ B H v he s hv Q q => by
  cases hv with
  | tup h a => exact ⟨_, _, rfl, same_t s h, by rw [a.len, hn], hs σ B H _ he s a Q q⟩
theorem do_asg {g : TG} {ρ1 : Rho} (h : Ev K te ρ d) (hg : Tg K g d ρ ρ1) (n : N ρ1) : Do K (tAsg te g) ρ N R := fun σ B H D e s k _ =>
  h σ B H e s _ fun v B' H' gr hv => hg σ B' H' v (e.mono gr.bb) gr.sub hv _ fun σ' e' => k σ' B' H' ρ1 gr e' n
theorem do_set {i : Nat} (h : Ev K te ρ d) (n : N (ρ.set i (some d))) : Do K (tAsg te (gName i)) ρ N R := do_asg h tg_name n
theorem do_par {i j : Nat} {ta : TA} {x y : PyData} (h : EvL K ta ρ [x, y]) (n : N ((ρ.set i (some x)).set j (some y))) : Do K (tPar i j ta) ρ N R := fun σ B H D e s k _ =>
  h σ B H e s _ fun vs B' H' g hv => by
    cases hv with
    | cons h1 t =>
      cases t with
      | cons h2 t =>
        cases t
        exact ⟨_, _, rfl, k _ B' H' _ g (((e.mono g.bb).set h1 i).set h2 j) n⟩
theorem do_par3 {i j l : Nat} {ta : TA} {x y z : PyData} (h : EvL K ta ρ [x, y, z]) (n : N (((ρ.set i (some x)).set j (some y)).set l (some z))) : Do K (tPar3 i j l ta) ρ N R := fun σ B H D e s k _ =>
  h σ B H e s _ fun vs B' H' g hv => by
    cases hv with
    | cons h1 t =>
      cases t with
      | cons h2 t =>
        cases t with
        | cons h3 t =>
          cases t
          exact ⟨_, _, _, rfl, k _ B' H' _ g ((((e.mono g.bb).set h1 i).set h2 j).set h3 l) n⟩

/-! what is walked -/
def Goes (K : PySem.W.Frag) (J : It) (B : Hp) (es : List PyData) : Prop := Walk J es.length (fun H => Same B H) fun i H x H' => ∀ B0, Same B B0 → Same B0 H → ∃ B' e, Gr B0 H B' H' ∧ es[i]? = some e ∧ Da K B' x e
def Iter (K : PySem.W.Frag) (wi : TI) (ρ : Rho) (es : List PyData) : Prop := ∀ σ B H, EnvOk K B σ ρ → Same B H → ∀ R : It → Hp → Prop, (∀ J B1 H1, Gr B H B1 H1 → Goes K J B1 es → R J H1) → wi σ H R
theorem goes_at {J : It} {B : Hp} {xs : List V} {es : List PyData} {G : Hp → Prop} (w : Walk J xs.length G (YAt xs)) (hg : ∀ H, Same B H → G H) (a : DaAll K B xs es) : Goes K J B es := by
  have hl := a.len
  unfold Goes
  rw [← hl]
  refine w.mono hg fun i H x H' hi s y B0 s0 h0 => ?_
  obtain ⟨rfl, hx⟩ := y
  have he : es[i]? = some (es[i]'(by omega)) := List.getElem?_eq_getElem _
  obtain ⟨v, e1, e2⟩ := a.at he
  rw [hx] at e1
  cases e1
  exact ⟨B0, _, .refl h0, he, e2.mono s0⟩
theorem it_list {tl : TE} {es : List PyData} (h : Ev K tl ρ (.list es)) : Iter K (iList K tl) ρ es := fun σ B H e s R r =>
  h σ B H e s _ fun v B1 H1 g hv => by
    cases hv with
    | lst h1 a => exact ⟨_, rfl, ⟨_, same_l g.sub h1⟩, r _ B1 H1 g (goes_at walk_list (fun H' s' => same_l s' h1) a)⟩
theorem it_tup {tl : TE} {es : List PyData} (h : Ev K tl ρ (.tuple es)) : Iter K (iTup K tl) ρ es := fun σ B H e s R r =>
  h σ B H e s _ fun v B1 H1 g hv => by
    cases hv with
    | tup h1 a => exact ⟨_, rfl, ⟨_, same_t g.sub h1⟩, r _ B1 H1 g (goes_at walk_tup (fun H' s' => same_t s' h1) a)⟩
theorem it_range1 {ta : TA} {n : Nat} (h : EvL K ta ρ [.int n]) (hn : (n : Int) < 2 ^ 62) : Iter K (iRng1 ta) ρ ((List.range n).map fun (i : Nat) => .int (i : Int)) := fun σ B H e s R r =>
  h σ B H e s _ fun vs B1 H1 g hv => by
    cases hv with
    | cons h1 t =>
      cases t
      cases h1
      refine ⟨(n : Int), rfl, by omega, hn, r _ B1 H1 g ?_⟩
      unfold Goes
      rw [List.length_map, List.length_range]
      show Walk (Itr 0 (n : Int).toNat) n _ _
      rw [Int.toNat_natCast]
      refine walk_range.mono (fun _ _ => trivial) fun i H x H' hi s y B0 s0 h0 => ?_
      obtain ⟨rfl, rfl⟩ := y
      refine ⟨B0, .int (i : Int), .refl h0, by simp [hi], ?_⟩
      show Da K B0 (V.int (0 + (i : Int))) (.int (i : Int))
      rw [Int.zero_add]
      exact .int _
theorem it_range2 {ta : TA} {lo hi : Int} (h : EvL K ta ρ [.int lo, .int hi]) (hb : -(2 ^ 62) ≤ lo ∧ lo < 2 ^ 62 ∧ -(2 ^ 62) ≤ hi ∧ hi < 2 ^ 62) : Iter K (iRng2 ta) ρ ((List.range (hi - lo).toNat).map fun (i : Nat) => .int (lo + (i : Int))) := fun σ B H e s R r =>
  h σ B H e s _ fun vs B1 H1 g hv => by
    cases hv with
    | cons h1 t =>
      cases t with
      | cons h2 t =>
        cases t
        cases h1
        cases h2
        refine ⟨lo, hi, rfl, hb, r _ B1 H1 g ?_⟩
        unfold Goes
        rw [List.length_map, List.length_range]
        refine walk_range.mono (fun _ _ => trivial) fun i H x H' hi s y B0 s0 h0 => ?_
        obtain ⟨rfl, rfl⟩ := y
        exact ⟨B0, .int (lo + (i : Int)), .refl h0, by simp [hi], .int _⟩
/-- pairs of both, as long as the shorter one -/
def zipD (xs ys : List PyData) : List PyData := (xs.zip ys).map fun p => .tuple [p.1, p.2]
theorem zipD_len (xs ys : List PyData) : (zipD xs ys).length = min xs.length ys.length := by unfold zipD; simp
theorem goes_pair {J : It} {B : Hp} {xs ys : List V} {es fs : List PyData} {G : Hp → Prop} (w : Walk J (min xs.length ys.length) G (YPair (fun i => xs[i]?) fun i => ys[i]?)) (hg : ∀ H, Same B H → G H) (a : DaAll K B xs es) (b : DaAll K B ys fs) : Goes K J B (zipD es fs) := by
  have hl := a.len
  have hm := b.len
  unfold Goes
  rw [zipD_len, ← hl, ← hm]
  refine w.mono hg fun i H x H' hi s y B0 s0 h0 => ?_
  obtain ⟨T, p, q, rfl, hT, rfl, hp, hq⟩ := y
  have hx : i < es.length := by omega
  have hy : i < fs.length := by omega
  obtain ⟨v, e1, e2⟩ := a.at (List.getElem?_eq_getElem hx)
  obtain ⟨u, e3, e4⟩ := b.at (List.getElem?_eq_getElem hy)
  have hp' : xs[i]? = some p := hp
  have hq' : ys[i]? = some q := hq
  rw [e1] at hp'
  rw [e3] at hq'
  cases hp'
  cases hq'
  have g := Gr.add h0 hT (.tup [p, q])
  refine ⟨_, .tuple [es[i], fs[i]], g, ?_, .tup (.of upd_same) (.cons ((e2.mono s0).mono g.bb) (.cons ((e4.mono s0).mono g.bb) .nil))⟩
  unfold zipD
  rw [List.getElem?_map, (List.getElem?_zip_eq_some (z := (es[i], fs[i]))).mpr ⟨List.getElem?_eq_getElem hx, List.getElem?_eq_getElem hy⟩]
  rfl
theorem it_zip {ta : TA} {es fs : List PyData} (h : EvL K ta ρ [.list es, .list fs]) : Iter K (iZip K ta) ρ (zipD es fs) := fun σ B H e s R r =>
  h σ B H e s _ fun vs B1 H1 g hv => by
    cases hv with
    | cons h1 t =>
      cases t with
      | cons h2 t =>
        cases t
        cases h1 with
        | lst p1 a1 =>
          cases h2 with
          | lst p2 a2 => exact ⟨_, _, _, _, rfl, same_l g.sub p1, same_l g.sub p2, r _ B1 H1 g (goes_pair (walk_zip rfl) (fun H' s' => ⟨same_l s' p1, same_l s' p2⟩) a1 a2)⟩
def enumD (es : List PyData) : List PyData := es.zipIdx.map fun p => .tuple [.int p.2, p.1]
theorem it_enum {ta : TA} {es : List PyData} (h : EvL K ta ρ [.list es]) : Iter K (iEnum K ta) ρ (enumD es) := fun σ B H e s R r =>
  h σ B H e s _ fun vs B1 H1 g hv => by
    cases hv with
    | cons h1 t =>
      cases t
      cases h1 with
      | lst p1 a1 =>
        refine ⟨_, _, rfl, same_l g.sub p1, r _ B1 H1 g ?_⟩
        have hl := a1.len
        unfold Goes
        rw [show (enumD es).length = es.length by unfold enumD; simp, ← hl]
        refine walk_enum.mono (fun H' s' => same_l s' p1) fun i H x H' hi s y B0 s0 h0 => ?_
        obtain ⟨T, p, q, rfl, hT, rfl, hp, hq⟩ := y
        have hx : i < es.length := by omega
        obtain ⟨v, e1, e2⟩ := a1.at (List.getElem?_eq_getElem hx)
        cases hp
        have hq' := (show _ = some q from hq)
        simp only at hq'
        rw [e1] at hq'
        cases hq'
        have g := Gr.add h0 hT (.tup [.int (i : Nat), q])
        refine ⟨_, .tuple [.int i, es[i]], g, ?_, .tup (.of upd_same) (.cons (.int _) (.cons ((e2.mono s0).mono g.bb) .nil))⟩
        unfold enumD
        simp [hx]
/-- a for -/
theorem do_for {wi : TI} {g : TG} {es : List PyData} (h : Iter K wi ρ es) (I : Nat → Rho → Prop) (h0 : I 0 ρ)
    (hs : ∀ i e ρ', es[i]? = some e → I i ρ' → ∃ ρ1, Tg K g e ρ' ρ1 ∧ Do K t ρ1 (I (i + 1)) R) (hd : ∀ ρ', I es.length ρ' → N ρ') : Do K (tFor wi g t) ρ N R := fun σ B H D e s n r =>
  h σ B H e s _ fun J B1 H1 g1 w => by
    refine for_it w (fun i σ' H' => ∃ B' ρ', Gr B1 H1 B' H' ∧ EnvOk K B' σ' ρ' ∧ I i ρ') ⟨B1, ρ, .refl g1.sub, e.mono g1.bb, h0⟩ (fun i σ' H' _ ⟨B', _, g2, _, _⟩ => g2.bb.trans g2.sub) ?_ ?_
    · rintro i x σ' H' H2 hi ⟨B', ρ', g2, e2, p⟩ y
      obtain ⟨B2, el, g3, hel, hx⟩ := y B' g2.bb g2.sub
      obtain ⟨ρ1, ht, hb⟩ := hs i el ρ' hel p
      have g23 := g2.trans g3
      refine ht σ' B2 H2 x (e2.mono g3.bb) g3.sub hx _ fun σ2 e3 => ?_
      exact hb σ2 B2 H2 _ e3 g3.sub (fun σ4 B4 H4 ρ4 g4 e4 p4 => ⟨B4, ρ4, g23.trans g4, e4, p4⟩) fun v B4 H4 d g4 hv hr => r v B4 H4 d (g1.trans (g23.trans g4)) hv hr
    · rintro σ' H' ⟨B', ρ', g2, e2, p⟩
      exact n σ' B' H' ρ' (g1.trans g2) e2 (hd ρ' p)

/-! comprehensions -/
/-- a target within a comprehension: its names vs are empty at first -/
def TgW (K : PySem.W.Frag) (g : TG) (vs : List Nat) (e : PyData) (ρ ρ1 : Rho) : Prop := ∀ σ B H v, EnvOk K B σ ρ → Same B H → Da K B v e → ∀ Q : L2.St → Hp → Prop, (∀ σ', EnvOk K B σ' ρ1 → wipe σ' vs = wipe σ vs → Q σ' H) → g v (wipe σ vs) H Q
theorem tgw_name {i : Nat} {e : PyData} : TgW K (gName i) [i] e ρ ((wipeR ρ [i]).set i (some e)) := fun σ B H v he s hv Q q =>
  q _ ((he.wiped [i]).set hv i) (by show ((σ.set i none).set i (some v)).set i none = σ.set i none; rw [List.set_set, List.set_set])
theorem tgw_pair {i j : Nat} {x y : PyData} (hij : i ≠ j) : TgW K (gTup K 2 (gCons (gName i) (gCons (gName j) gNil))) [i, j] (.tuple [x, y]) ρ (((wipeR ρ [i, j]).set i (some x)).set j (some y)) := fun σ B H v he s hv Q q => by
  cases hv with
  | tup h a =>
    cases a with
    | cons a1 t =>
      cases t with
      | cons a2 t =>
        cases t
        refine ⟨_, _, rfl, same_t s h, rfl, _, _, rfl, _, _, rfl, rfl, q _ (((he.wiped [i, j]).set a1 i).set a2 j) ?_⟩
        show ((((((σ.set j none).set i none).set i (some _)).set j (some _)).set j none).set i none) = (σ.set j none).set i none
        rw [List.set_set, List.set_set, List.set_comm _ _ (Ne.symm hij), List.set_set, List.set_comm _ _ hij, List.set_set]
theorem ev_lc {wi : TI} {g : TG} {vs : List Nat} {es : List PyData} (h : Iter K wi ρ es) (hz : es.length ≤ 1000000) (f : PyData → Bool) (k : PyData → PyData)
    (hs : ∀ e, e ∈ es → ∃ ρ1, TgW K g vs e ρ ρ1 ∧ EvB K tt ρ1 (f e) ∧ (f e = true → Ev K te ρ1 (k e))) : Ev K (tLc wi g tt te vs) ρ (.list ((es.filter f).map k)) := fun σ B H e s Q q =>
  h σ B H e s _ fun J B1 H1 g1 w => fun Dl hD => by
    refine lc_it w (fun i H' => ∃ B' xs, Gr B1 H1 B' H' ∧ B' Dl = none ∧ H' Dl = some (.lst xs) ∧ DaAll K B' xs (((es.take i).filter f).map k)) ?_ (fun i H' _ ⟨B', _, g2, _, _, _⟩ => g2.bb.trans g2.sub) ?_ ?_
    · exact ⟨B1, [], .side g1.sub hD _, g1.sub.free hD, upd_same, .nil⟩
    · rintro i x H' H2 hi ⟨B', xs, g2, hB, hH, a⟩ y
      obtain ⟨B2, el, g3, hel, hx⟩ := y B' g2.bb g2.sub
      obtain ⟨ρ1, ht, hf, hk⟩ := hs el (List.mem_of_getElem? hel)
      have g23 := g2.trans g3
      have away : ∀ {Ba Ha Bb Hb : Hp}, Gr Ba Ha Bb Hb → Ba Dl = none → Ha Dl = some (.lst xs) → Bb Dl = none := fun {Ba Ha Bb Hb} gg n l => by
        cases z : Bb Dl with
        | none => rfl
        | some o => exact absurd (gg.new Dl o z n) (by rw [l]; simp)
      have hB2 := away g3 hB hH
      refine ht σ B2 H2 x (e.mono (g1.bb.trans g23.bb)) g3.sub hx _ fun σ2 e3 hw => ⟨hw, ?_⟩
      refine hf σ2 B2 H2 e3 g3.sub _ fun B3 H3 g4 => ?_
      have hB3 := away g4 hB2 (g3.ex _ _ hH)
      have tk : es.take (i + 1) = es.take i ++ [el] := by rw [List.take_add_one, hel]; rfl
      have hlen : xs.length ≤ i := by
        rw [a.len, List.length_map]
        exact Nat.le_trans (List.length_filter_le _ _) (List.length_take_le _ _)
      cases hb : f el with
      | true =>
        refine iteT (hk hb σ2 B3 H3 (e3.mono g4.bb) g4.sub _ fun w B4 H4 g5 hw => ?_)
        have hB4 := away g5 hB3 (g4.ex _ _ (g3.ex _ _ hH))
        have g45 := g4.trans g5
        have h4 : H4 Dl = some (.lst xs) := g45.ex _ _ (g3.ex _ _ hH)
        have gg := g23.trans g45
        refine ⟨xs, h4, Nat.lt_of_le_of_lt hlen (by have : es.length ≤ 1000000 := hz; rw [sizeLine_eq]; omega), B4, xs ++ [w], ?_, hB4, upd_same, ?_⟩
        · refine ⟨fun b o z => ?_, gg.bb, fun b o z => ?_, gg.new⟩
          · rw [upd_ne (ne_of_none z hD)]
            exact gg.ex b o z
          · rw [upd_ne (ne_of_none z hB4)]
            exact gg.sub b o z
        · rw [tk, List.filter_append, List.map_append]
          refine (a.mono (g3.bb.trans g45.bb)).app ?_
          rw [List.filter_cons, if_pos hb]
          exact .cons hw .nil
      | false =>
        refine iteF ⟨B3, xs, g23.trans g4, hB3, g4.ex _ _ (g3.ex _ _ hH), ?_⟩
        rw [tk, List.filter_append, List.map_append, List.filter_cons, if_neg (by rw [hb]; simp)]
        show DaAll K B3 xs (_ ++ [])
        rw [List.append_nil]
        exact a.mono (g3.bb.trans g4.bb)
    · rintro H' ⟨B', xs, g2, hB, hH, a⟩
      rw [List.take_length] at a
      refine q _ (upd B' Dl (.lst xs)) H' (g1.trans ⟨g2.ex, g2.bb.trans (same_new hB), fun b o z => ?_, fun b o z n => ?_⟩) (.lst (.of upd_same) (a.mono (same_new hB)))
      · by_cases c : b = Dl
        · subst c
          rw [upd_same] at z
          rw [hH]
          exact z
        · rw [upd_ne c] at z
          exact g2.sub b o z
      · by_cases c : b = Dl
        · subst c
          exact hD
        · rw [upd_ne c] at z
          exact g2.new b o z n
/-- .. without a test -/
theorem ev_map {wi : TI} {g : TG} {vs : List Nat} {es : List PyData} (h : Iter K wi ρ es) (hz : es.length ≤ 1000000) (k : PyData → PyData)
    (hs : ∀ e, e ∈ es → ∃ ρ1, TgW K g vs e ρ ρ1 ∧ Ev K te ρ1 (k e)) : Ev K (tLc wi g tYes te vs) ρ (.list (es.map k)) := by
  have q := ev_lc (tt := tYes) h hz (fun _ => true) k fun e he => by
    obtain ⟨ρ1, h1, h2⟩ := hs e he
    exact ⟨ρ1, h1, fun σ B H e s Q q => q B H (.refl s), fun _ => h2⟩
  rw [List.filter_eq_self.mpr (fun _ _ => rfl)] at q
  exact q
end

/-! ### defs: P ds d says what is handed in and what comes back -/
def sp (K : PySem.W.Frag) (P : List PyData → PyData → Prop) : Sp := fun vs H Q _ => ∃ B ds d, Same B H ∧ DaAll K B vs ds ∧ P ds d ∧ ∀ v B' H', Gr B H B' H' → Da K B' v d → Q v H'
section
variable {P : Program} {w : World} {K : PySem.W.Frag} {mg : Str → Option Value} {base : Heap}
theorem def_d {x qual : Str} {st : Stmt} {f : Addr} {fd : FuncData} {N ps : List Str} {k : Nat} {p : List PyData → PyData → Prop} (F : Fun K x qual st f fd) (S : FnScope N ps (defScope st))
    (ar : ∀ ds d, p ds d → ds.length = ps.length)
    (hb : ∀ (cdv : Value) (A : Around) (outer : List Env) (s : Shared) (H : Hp) (E : XK), A.guards = some [] → Room k (A.deeper (envOfC qual (defScope st) s.heap.objs.size f cdv)) →
      ∃ t, PSs (bodyCx CX0 P w K mg base N qual st f cdv A outer s H E).nox (defBody st) t ∧ ∀ ds d, p ds d → Do K t (startR N ds) (fun _ => d = .none) fun d' => d' = d) : FnG P w K mg base CX0 (k + 1) f fd ps (sp K p) := by
  refine fn_g0 F S (fun vs H Q E h => ?_) fun cdv A outer s H vs Q E hg hr h => ?_
  · obtain ⟨B, ds, d, _, a, hp, _⟩ := h
    rw [a.len]
    exact ar ds d hp
  · obtain ⟨B, ds, d, hs, a, hp, q⟩ := h
    obtain ⟨t, ht, hd⟩ := hb cdv A outer s H E hg hr
    refine ⟨t, ht, hd ds d hp _ B H _ (env_start a) hs (fun σ' B' H' ρ' g _ e => ?_) fun v B' H' d' g hv e => ?_⟩
    · exact q .non B' H' g (by rw [e]; exact .non)
    · rw [e] at hv
      exact q v B' H' g hv
variable {ρ : Rho} {ta tk : TA} {ds : List PyData} {d : PyData} {p : List PyData → PyData → Prop}
theorem ev_call {E : XK} (h : EvL K ta ρ ds) (hp : p ds d) : Ev K (tCall (sp K p) [] E ta) ρ d := fun σ B H e s Q q =>
  h σ B H e s _ fun vs B1 H1 g1 hv => ⟨B1, ds, d, g1.sub, by rw [List.append_nil]; exact hv, hp, fun v B2 H2 g2 h2 => q v B2 H2 (g1.trans g2) h2⟩
theorem ev_callK {E : XK} {gV : List V → List V → List V} {zs : List PyData} (h : EvL K tk ρ zs) (hp : p ds d) (hg : ∀ B ws, DaAll K B ws zs → DaAll K B (gV [] ws) ds) : Ev K (tCallK (sp K p) gV E tNil tk) ρ d := fun σ B H e s Q q =>
  h σ B H e s _ fun vs B1 H1 g1 hv => ⟨B1, ds, d, g1.sub, hg B1 vs hv, hp, fun v B2 H2 g2 h2 => q v B2 H2 (g1.trans g2) h2⟩
end
end G
end
section
set_option maxRecDepth 100000
set_option maxHeartbeats 2000000
/-! rules that the layer lacks: t[::-1] of a tuple, zip of a tuple and a list -/
namespace G
open PySem PySem.Spec PyProof.Rows L2 HT

/-! ### t[::-1] -/
section
variable {prog : Program} {w : World} {A : Around} {E : Value → Shared → Prop} {s : Shared}
theorem back_parts {sl : Addr} {v : Value} {n : Nat} {Q : Int × Int × Nat → Shared → Prop} (hs : s.heap.IsSliceOf sl .none .none v) (pv : IsPart v (some (-1)))
    (h : Q ((n : Int) - 1, -1, n) s) : wpAny (model prog w) A (Builtin.Slice.sliceApplied (.ref sl) (pure (n : Int))) Q E s := by
  obtain ⟨os, hos, _, hds⟩ := id hs
  unfold Builtin.Slice.sliceApplied Builtin.Slice.sliceFields
  have e : Builtin.Slice.slicePlaces ((n : Int) - 1) (-1) (-1) = n := by
    unfold Builtin.Slice.slicePlaces
    rw [if_neg (by decide)]
    by_cases c : (n : Int) - 1 > -1
    · rw [if_pos c, show (- -1 : Int) = 1 by decide, Int.ediv_one]
      omega
    · rw [if_neg c]
      omega
  refine wpAny_bind (wpAny_bind (wpAny_field hos hds (x := .none) rfl (wpAny_bind (wpAny_field hos hds (x := .none) rfl (wpAny_bind (wpAny_field hos hds (x := v) rfl (wpAny_pure ?_)))))))
  refine wpAny_bind (slicePart_ pv ?_)
  show wpAny _ _ (if ((-1 : Int) == 0) = true then _ else _) _ _ s
  rw [if_neg (by decide)]
  refine wpAny_bind (slicePart_ .none (wpAny_bind (slicePart_ .none (wpAny_bind (wpAny_pure ?_)))))
  show wpAny _ _ (pure ((n : Int) - 1, (-1 : Int), Builtin.Slice.slicePlaces ((n : Int) - 1) (-1) (-1))) _ _ s
  rw [e]
  exact wpAny_pure h
theorem fm_map {α β : Type} {f : α → Option β} {g : α → β} : ∀ (l : List α), (∀ x ∈ l, f x = some (g x)) → l.filterMap f = l.map g
  | [], _ => rfl
  | x :: l, h => by
    rw [List.filterMap_cons, h x (List.mem_cons_self ..), List.map_cons, fm_map l fun y hy => h y (List.mem_cons_of_mem _ hy)]
theorem back_pick (xs : Array Value) : ((List.range xs.size).filterMap fun (k : Nat) => xs[((xs.size : Int) - 1 + (k : Int) * -1).toNat]?).toArray = xs.toList.reverse.toArray := by
  refine congrArg List.toArray ?_
  apply List.ext_getElem?
  intro i
  by_cases hi : i < xs.size
  · have e1 : xs.toList.reverse[i]? = some xs[xs.size - 1 - i] := by
      rw [List.getElem?_reverse (by simpa using hi)]
      simp only [Array.length_toList, Array.getElem?_toList]
      exact Array.getElem?_eq_getElem _
    rw [e1]
    have e2 : ∀ n, n ≤ xs.size → (List.range n).filterMap (fun (k : Nat) => xs[((xs.size : Int) - 1 + (k : Int) * -1).toNat]?) = (List.range n).map fun k => xs.getD (xs.size - 1 - k) default := by
      intro n hn
      refine fm_map _ fun k hk => ?_
      have hk' := List.mem_range.mp hk
      have e3 : ((xs.size : Int) - 1 + (k : Int) * -1).toNat = xs.size - 1 - k := by omega
      rw [e3]
      have h4 : xs.size - 1 - k < xs.size := by omega
      rw [Array.getElem?_eq_getElem h4]
      simp [Array.getD, h4]
    rw [e2 _ (Nat.le_refl _), List.getElem?_map, List.getElem?_range hi]
    have h4 : xs.size - 1 - i < xs.size := by omega
    simp [Array.getD, h4]
  · have e1 : xs.toList.reverse[i]? = none := List.getElem?_eq_none_iff.mpr (by simp; omega)
    rw [e1, List.getElem?_eq_none_iff]
    refine Nat.le_trans (List.length_filterMap_le _ _) ?_
    rw [List.length_range]
    omega
theorem item_back {t sl : Addr} {items : Array Value} {v : Value} {Q : Value → Shared → Prop} (ht : IsTup s.heap t items) (hs : s.heap.IsSliceOf sl .none .none v) (pv : IsPart v (some (-1)))
    (h : Q (.ref s.heap.objs.size) { s with heap := s.heap.push { cls := .type "tuple", data := .seq items.toList.reverse.toArray } })
    (hsz : items.size ≤ sizeLine) : wpAny (model prog w) A (getItem (.ref t) (.ref sl)) Q E s := by
  have ok : sizeOk (.seq items.toList.reverse.toArray) := by
    show items.toList.reverse.toArray.size ≤ sizeLine
    rw [List.size_toArray, List.length_reverse, Array.length_toList]
    exact hsz
  obtain ⟨os, hos, hcs, hds⟩ := id hs
  have isS : s.TypeIs (.ref sl) "slice" := ⟨os, hos, hcs⟩
  unfold getItem
  try with_reducible refine wpAny_holding ?_
  first | refine wpAny_bind (wpAny_pure ?_) | skip
  refine wpAny_bind (wpAny_sequenceKey ht.typeIs (by decide) ?_)
  refine wpAny_bind (wpAny_callSpecial?_slot (name := Str.ofString "__getitem__") ht.typeIs PyProof.Rows.slot_tuple_getitem
    (wpAny_call_entry PyProof.Rows.slot_tuple_getitem ht.typeIs entry_tuple_getitem ?_ (args_tuple_getitem _ _)))
  show wpAny _ _ (Builtin.Tuple.tupleItemsOf (.ref t) >>= _) _ _ s
  refine wpAny_bind (tupleItemsOf_ ht (wpAny_bind (wpAny_typeOf isS ?_)))
  rw [if_pos (by decide)]
  refine wpAny_bind (back_parts hs pv ?_)
  show wpAny _ _ (if ((items.size : Int) - 1 == 0 && (-1 : Int) == 1 && items.size == items.size) = true then _ else _) _ _ s
  rw [if_neg (by simp), back_pick]
  first
    | exact wpAny_bind (m := Builtin.Tuple.tupleExact _) (wpAny_newObj_type (wpAny_pure ⟨_, rfl, wpAny_pure h⟩) ok)
    | exact wpAny_bind (m := Builtin.Tuple.tupleExact _) (wpAny_newObj_type (wpAny_bind (wpAny_pure (wpAny_pure ⟨_, rfl, wpAny_pure h⟩))) ok)
end
/-- t[::-1] -/
def tRevT (K : PySem.W.Frag) (te : TE) : TE := fun σ H Q => te σ H fun x H1 => ∃ a xs, x = .ref a ∧ SqT K H1 a xs ∧ ∀ p, H1 p = none → Q (.ref p) (upd H1 p (.tup xs.reverse))
theorem pe_revT {X : Cx} {e : Expr} {te : TE} {k : Nat} {p1 p2 p3 pos : Pos} (he : PE X e te) :
    PE X (.Subscript e (.Slice none none (some (.UnaryOp .USub (.Constant (.int 1) k p1) p2)) p3) pos) (tRevT X.K te) := by
  refine ⟨fun pins s σ H Q I h => Subscript_ (thn (he.run pins s σ H _ I h) ?_)⟩
  rintro v s1 ⟨x, H1, I1, r1, a, xs, rfl, hx, q⟩
  cases r1
  have hst : PO X (some (.UnaryOp .USub (.Constant (.int 1) k p1) p2)) (tPart (tUn (rU fun i => .int (-i)) (tC (.int 1)))) := po_some (pe_un un_neg pe_int)
  refine wpAny_Slice (thn (po_none.run pins s1 σ H1 (fun o H2 => o = none ∧ H2 = H1) I1 ⟨rfl, rfl⟩) ?_)
  rintro vl s2 ⟨l, H2, I2, pl, rfl, rfl⟩
  refine thn (po_none.run pins s2 σ H2 (fun o H3 => o = none ∧ H3 = H2) I2 ⟨rfl, rfl⟩) ?_
  rintro vu s3 ⟨u, H3, I3, pu, rfl, rfl⟩
  refine thn (hst.run pins s3 σ H3 (fun o H4 => o = some (-1) ∧ H4 = H3) I3 ⟨1, rfl, -1, rfl, rfl, rfl⟩) ?_
  rintro vs s4 ⟨o, H4, I4, ps, rfl, rfl⟩
  cases pl
  cases pu
  have I5 : Inv X pins σ H4 { s4 with heap := s4.heap.push { cls := .type "slice", data := .fields #[.none, .none, vs] } } :=
    I4.kept (t' := s4.toks) fun b ob q => Heap.get?_push_of_some _ q
  obtain ⟨its, r, ht, hz⟩ := I5.tuple hx
  have hlen := r.length
  refine tail_any (ops := [.ref a, .ref s4.heap.objs.size]) ht.typeIs (PyProof.Rows.slot_tuple_getitem.lookup) ?_ (by with_unfolding_all rfl)
  refine item_back ht (Heap.IsSliceOf.new _ .none .none vs) ps ?_ (by rw [List.size_toArray, ← hlen]; exact hz)
  refine ⟨.ref _, _, I5.laid (t' := s4.toks) (o := .tup xs.reverse) (fun b ob q => Heap.get?_push_of_some _ q) (Nat.le_refl _) ?_, rfl, q _ (I5.hok.fresh (Nat.le_refl _))⟩
  exact ⟨by rw [List.length_reverse]; exact hz, _, r.reverse, IsTup.new _ _⟩
end G
end
section
set_option maxRecDepth 100000
set_option maxHeartbeats 2000000
/-! operations whose kinds are not told in the text, calls by name -/
namespace G
open PySem PySem.Spec PyProof.Rows L2
def orR (r r' : R2) : R2 := fun x y H Q => r x y H Q ∨ r' x y H Q
def orC (r r' : List V → Hp → VK → Prop) : List V → Hp → VK → Prop := fun xs H Q => r xs H Q ∨ r' xs H Q
def orI (w w' : TI) : TI := fun σ H R => w σ H R ∨ w' σ H R
section
variable {X : Cx}
theorem opr_or {f : Value → Value → Sem Value} {r r' : R2} (h : OpR X f r) (h' : OpR X f r') : OpR X f (orR r r') := OpR.or h h'
theorem ixr_or {r r' : R2} (h : IxR X r) (h' : IxR X r') : IxR X (orR r r') := IxR.or h h'
theorem callr_or {f : Value} {r r' : List V → Hp → VK → Prop} (h : CallR X f r) (h' : CallR X f r') : CallR X f (orC r r') := fun pins s σ H xs us Q I rv q => by
  rcases q with q | q
  · exact h pins s σ H xs us Q I rv q
  · exact h' pins s σ H xs us Q I rv q
theorem pi_or {tg e : Expr} {w w' : TI} (h : PI X tg e w) (h' : PI X tg e w') : PI X tg e (orI w w') := ⟨fun pins s σ H R I q => by
  rcases q with q | q
  · exact h.run pins s σ H R I q
  · exact h'.run pins s σ H R I q⟩
end
section
variable {K : PySem.W.Frag} {ρ : Rho} {x y z : PyData} {r r' : R2}
theorem opp_1 (h : Op2 K r x y z) : Op2 K (orR r r') x y z := fun B H s u v hu hv Q q => .inl (h B H s u v hu hv Q q)
theorem opp_2 (h : Op2 K r' x y z) : Op2 K (orR r r') x y z := fun B H s u v hu hv Q q => .inr (h B H s u v hu hv Q q)
theorem fn_1 {c c' : List V → Hp → VK → Prop} {ds : List PyData} (h : Fn K c ds z) : Fn K (orC c c') ds z := fun B H s us hu Q q => .inl (h B H s us hu Q q)
theorem fn_2 {c c' : List V → Hp → VK → Prop} {ds : List PyData} (h : Fn K c' ds z) : Fn K (orC c c') ds z := fun B H s us hu Q q => .inr (h B H s us hu Q q)
theorem it_1 {w w' : TI} {es : List PyData} (h : Iter K w ρ es) : Iter K (orI w w') ρ es := fun σ B H e s R q => .inl (h σ B H e s R q)
theorem it_2 {w w' : TI} {es : List PyData} (h : Iter K w' ρ es) : Iter K (orI w w') ρ es := fun σ B H e s R q => .inr (h σ B H e s R q)
end
/-! a + b, a * b, a % b, a // b, a < b .. -/
section
variable {X : Cx}
theorem op_catS : OpR X (binaryOp .Add) (rCatS X.K) := by
  intro pins s σ H x y v u Q I rx ry h
  obtain ⟨l, b, xs, zs, rfl, rfl, hH, hB, hz, q⟩ := h
  cases rx
  cases ry
  obtain ⟨its, r, ⟨⟨cls, dd, data, sl⟩, n, ho, hc, _, hd⟩, _⟩ := I.list hH
  obtain ⟨its2, r2, ⟨⟨cls2, dd2, data2, sl2⟩, n2, ho2, hc2, _, hd2⟩, _⟩ := I.list hB
  simp only at hc hd hc2 hd2
  subst hc hd hc2 hd2
  have e : its.toArray ++ its2.toArray = (its ++ its2).toArray := by simp
  have l1 := r.length
  have l2 := r2.length
  refine concat_meets ⟨_, ho, rfl⟩ ⟨_, ho2, rfl⟩ noFill_list_add seq_list_add PySem.F.slot_list_add PySem.F.entry_list_add (PySem.F.args_list_add_2 _ _) (list_addW l b its.toArray its2.toArray n n2 dd dd2 sl sl2 (by rw [List.size_toArray, List.size_toArray]; omega)) ⟨ho, ho2, ?_⟩
  rw [e]
  exact ⟨.ref _, _, I.lnew (t' := s.toks) (r.append r2) (by rw [List.length_append]; omega), rfl, q _ I.fresh⟩
abbrev rAddA (K : PySem.W.Frag) : R2 := orR (rI0 fun i j => .int (i + j)) (orR (rCatS K) (rCatA K))
theorem op_addA : OpR X (binaryOp .Add) (rAddA X.K) := opr_or op_add (opr_or op_catS op_catA)
abbrev rMulA : R2 := orR (rI CMulW fun i j => .int (i * j)) rRep
theorem op_mulA : OpR X (binaryOp .Mult) rMulA := opr_or op_mulW op_rep
abbrev rIxA (K : PySem.W.Frag) : R2 := orR (rIxL K) (rIxT K)
theorem ix_A : IxR X (rIxA X.K) := ixr_or ix_list ix_tup
abbrev rEqA (K : PySem.W.Frag) : R2 := rEqD K
end
/-! a def by its name -/
def Kq (K : PySem.W.Frag) (f : Addr) (fd : FuncData) : Prop := PySem.W.keepIn K (.ref f) = true ∧ ∃ o, K.lookup f = some o ∧ o.data = .func fd
theorem kq_of {K : PySem.W.Frag} {x qual : Str} {st : Stmt} {f : Addr} {fd : FuncData} (F : Fun K x qual st f fd) : Kq K f fd := by
  obtain ⟨oc, od, kV, doc, pm, an, cdv, ct, osl, _, lk, _⟩ := F.ex
  exact ⟨F.kp, _, lk, rfl⟩
structure Cal (P : Program) (w : World) (K : PySem.W.Frag) (mg : Str → Option Value) (base : Heap) (k : Nat) (x : Str) (ps : List Str) (sp : Sp) : Prop where
  ex : ∃ (f : Addr) (fd : FuncData), mg x = some (.ref f) ∧ Kq K f fd ∧ L2.Binds K fd ps [] ∧ FnG P w K mg base CX0 k f fd ps sp
section
variable {X : Cx} {k j : Nat} {ps : List Str} {q : Sp} {x : Str} {p pos : Pos} {e : Expr} {es : List Expr} {t : TA}
theorem pg_cal (hg : X.A.guards = some []) (c : Cal X.prog X.w X.K X.mg X.base j x ps q) (hr : Room k X.A) (hgl : Gl X x) (ha : PA X (e :: es) t) (hj : j ≤ k := by decide)
    (hdb : (x == ("__debug__" : Str)) = false := by decide) (he : starEach (e :: es) X.env = (false, eval e X.env) :: starEach es X.env := by rfl)
    (hpl : (backTo pos (starEach es X.env)).any (·.1) = false := by rfl) : PE X (.Call (.Name x p) (e :: es) [] pos) (tCall q [] E0 t) := by
  obtain ⟨f, fd, hm, hk, hb, F⟩ := c.ex
  exact pg_call hg F (hr.mono hj) hgl hm hk.1 hb .nil pass0 ha hdb he hpl
/-! .. by keywords -/
structure CalK (P : Program) (w : World) (K : PySem.W.Frag) (mg : Str → Option Value) (base : Heap) (k : Nat) (x : Str) (ps ks : List Str) (gV : List V → List V → List V) (sp : Sp) : Prop where
  ex : ∃ (f : Addr) (fd : FuncData) (g : List Value → List Value → List Value), mg x = some (.ref f) ∧ PySem.W.keepIn K (.ref f) = true ∧ KBinds K fd ps ks g gV ∧ FnG P w K mg base CX0 k f fd ps sp
theorem pg_calK {ks : List Str} {gV : List V → List V → List V} {kws : List Keyword} {tk : TA} (hg : X.A.guards = some []) (c : CalK X.prog X.w X.K X.mg X.base j x ps ks gV q) (hr : Room k X.A) (hgl : Gl X x) (hkw : PK X kws tk) (hj : j ≤ k := by decide)
    (hall : (backToKw pos (keywordEach kws X.env)).all (·.1.isSome) = true := by rfl)
    (hks : (backToKw pos (keywordEach kws X.env)).filterMap (·.1) = ks := by rfl)
    (hdb : (x == ("__debug__" : Str)) = false := by decide)
    (hpl : ((backTo pos (starEach [] X.env)).any (·.1) || (backToKw pos (keywordEach kws X.env)).any (·.1.isNone)) = false := by rfl) :
    PE X (.Call (.Name x p) [] kws pos) (tCallK q gV E0 tNil tk) := by
  obtain ⟨f, fd, g, hm, hk, hb, F⟩ := c.ex
  exact pg_callK0 hg F (hr.mono hj) hgl hm hk hb pass0 hkw hall hks hdb hpl
end
end G
end
section
set_option maxRecDepth 100000
set_option maxHeartbeats 2000000
/-! zip of a tuple and a list: two iterators of whatever kind, told by what their next one does -/
namespace G
open PySem PySem.Spec PyProof.Rows L2
/-- the iterator at i over the items xs of what lies at l, k of them gone -/
structure Nx (i l : Addr) (xs : Array Value) (S : Heap → Nat → Prop) : Prop where
  stay : ∀ {h h' : Heap} {k : Nat}, S h k → (∀ o, h.get? i = some o → h'.get? i = some o) → (∀ o, h.get? l = some o → h'.get? l = some o) → S h' k
  some_ : ∀ {h : Heap} {k : Nat}, S h k → ∃ o, h.get? i = some o ∧ ∀ v, o.data ≠ .cell v
  item : ∀ {prog : Program} {w : World} {A : Around} {E : Value → Shared → Prop} {s : Shared} {k : Nat} {x : Value} {Q : Value → Shared → Prop}, S s.heap k → xs[k]? = some x →
    (∀ h', S h' (k + 1) → Heap.SameBut i s.heap h' → Q x { s with heap := h' }) → wpAny (model prog w) A (Builtin.SmallTypes.nextOf (.ref i)) Q E s
  done : ∀ {prog : Program} {w : World} {A : Around} {E : Value → Shared → Prop} {s : Shared} {k : Nat} {Q : Value → Shared → Prop}, A.handled = none → S s.heap k → xs[k]? = none →
    (∀ h' e, Heap.ExtBut i s.heap h' → (∃ o, h'.get? e = some o ∧ o.cls = .type "StopIteration") → E (.ref e) { s with heap := h' }) → wpAny (model prog w) A (Builtin.SmallTypes.nextOf (.ref i)) Q E s
theorem nx_list {i l : Addr} {xs : Array Value} (hil : i ≠ l) : Nx i l xs fun h k => h.IsListIter i l k ∧ h.IsList l xs where
  stay := fun h a b => ⟨h.1.at a, h.2.at b⟩
  some_ := fun ⟨⟨o, e, _, d⟩, _⟩ => ⟨o, e, fun v q => by rw [d] at q; cases q⟩
  item := fun h hx q => wpAny_nextOf_list_item h.1 h.2 hx fun h' a b => q h' ⟨a, h.2.at fun o e => b.extBut _ _ (Ne.symm hil) e⟩ b
  done := fun hh h hx q => wpAny_nextOf_list_end hh h.1 h.2 hx q
theorem nx_tup {i l : Addr} {xs : Array Value} (hil : i ≠ l) : Nx i l xs fun h k => h.IsTupleIter i l k ∧ h.IsTuple l xs where
  stay := fun h a b => ⟨h.1.at a, let ⟨o, e, r⟩ := h.2; ⟨o, b o e, r⟩⟩
  some_ := fun ⟨⟨o, e, _, d⟩, _⟩ => ⟨o, e, fun v q => by rw [d] at q; cases q⟩
  item := fun h hx q => RZ.nextOf_tuple_item h.1 h.2 hx fun h' a b => q h' ⟨a, let ⟨o, e, r⟩ := h.2; ⟨o, b.extBut _ _ (Ne.symm hil) e, r⟩⟩ b
  done := fun hh h hx q => RZ.nextOf_tuple_end hh h.1 h.2 hx q
section
variable {prog : Program} {w : World} {A : Around} {E : Value → Shared → Prop} {s : Shared} {z T1 T2 i j l m : Addr} {xs ys : Array Value} {S U : Heap → Nat → Prop} {k n : Nat} {a b : Value}
theorem zipM_item {x y : Value} {Q : Value → Shared → Prop} (X : Nx i l xs S) (Y : Nx j m ys U) (D : ZipApart z T1 T2 i j l m)
    (hz : IsZip s.heap z T1 T2 .none) (h1 : IsPair s.heap T1 (.ref i) (.ref j)) (h2 : IsPair s.heap T2 a b) (hS : S s.heap k) (hU : U s.heap n) (hx : xs[k]? = some x) (hy : ys[n]? = some y)
    (hQ : ∀ h', IsZip h' z T1 T2 (rawInt s.heap.objs.size) → IsPair h' T2 x y → S h' (k + 1) → U h' (n + 1) → IsPair h' s.heap.objs.size x y → h'.objs.size = s.heap.objs.size + 1 →
      (∀ c o, c ≠ z → c ≠ T2 → c ≠ i → c ≠ j → s.heap.get? c = some o → h'.get? c = some o) → Q (.ref s.heap.objs.size) { s with heap := h' }) :
    wpAny (model prog w) A (Builtin.«zip.__next__» ⟨[.ref z], []⟩) (fun fin s' => ∃ v, fin = .done (.ret v) ∧ Q v s') E s := by
  show wpAny _ _ (field (.ref z) 2 >>= _) _ _ _
  refine wpAny_bind (wpAny_field hz rfl (x := .bool false) rfl ?_); show wpAny _ _ (field (.ref z) 3 >>= _) _ _ _
  refine wpAny_bind (wpAny_field hz rfl (x := .ref T1) rfl (wpAny_bind (wpAny_seqItems h1 rfl ?_)))
  show wpAny _ _ (Builtin.SmallTypes.ownedTupleIsFree (.ref z) >>= _) _ _ _; refine wpAny_bind ?_
  unfold Builtin.SmallTypes.ownedTupleIsFree
  refine wpAny_bind (wpAny_field hz rfl (x := .none) rfl (wpAny_pure ?_)); simp only [if_true]
  refine wpAny_bind (wpAny_rule (wpAny_bind (wpAny_field hz rfl (x := .ref T2) rfl (wpAny_bind (wpAny_setField_rec hz (by simp) fun g1 z1 s1 => ?_)))))
  replace z1 : IsZip g1 z T1 T2 .ellipsis := z1
  refine wpAny_bind ?_; simp only [List.zipIdx_cons, List.zipIdx_nil, List.forIn_cons, List.forIn_nil]
  refine wpAny_bind (wpAny_bind (wpAny_onRaise ?_)); show wpAny _ _ (Builtin.SmallTypes.nextOf (.ref i) >>= _) _ _ _
  have e1 := s1.extBut
  refine wpAny_bind (X.item (X.stay hS (fun o => e1 _ o D.i1z) (fun o => e1 _ o D.l1z)) hx fun g2 S2 s2 => wpAny_pure ?_)
  have e2 := s2.extBut
  have p2 : IsPair g2 T2 a b := e2 _ _ D.TOi1 (e1 _ _ D.TOz h2)
  refine wpAny_bind (wpAny_seqItems p2 rfl (wpAny_bind (wpAny_updateSeq_pair p2 fun g3 p3 s3 => ?_)))
  replace p3 : IsPair g3 T2 x b := p3
  have e3 := s3.extBut
  refine wpAny_bind (wpAny_letGo (wpAny_pure (wpAny_bind (wpAny_bind (wpAny_onRaise ?_))))); show wpAny _ _ (Builtin.SmallTypes.nextOf (.ref j) >>= _) _ _ _
  have up3 : ∀ c o, c ≠ z → c ≠ i → c ≠ T2 → s.heap.get? c = some o → g3.get? c = some o := fun c o c1 c2 c3 e => e3 _ _ c3 (e2 _ _ c2 (e1 _ _ c1 e))
  refine wpAny_bind (Y.item (Y.stay hU (fun o => up3 _ o D.i2z D.i12.symm D.TOi2.symm) (fun o => up3 _ o D.l2z D.l2i1 D.l2TO)) hy fun g4 U4 s4 => wpAny_pure ?_)
  have e4 := s4.extBut
  have p4 : IsPair g4 T2 x b := e4 _ _ D.TOi2 p3
  refine wpAny_bind (wpAny_seqItems p4 rfl (wpAny_bind (wpAny_updateSeq_pair p4 fun g5 p5 s5 => ?_)))
  replace p5 : IsPair g5 T2 x y := p5
  have e5 := s5.extBut
  refine wpAny_bind (wpAny_letGo (wpAny_pure (wpAny_pure (wpAny_bind (wpAny_seqItems p5 rfl (wpAny_bind (wpAny_newTuple ?_)))))))
  have sz : g5.objs.size = s.heap.objs.size := by rw [s5.1, s4.1, s3.1, s2.1, s1.1]
  have z5 : IsZip g5 z T1 T2 .ellipsis := e5 _ _ D.TOz.symm (e4 _ _ D.i2z.symm (e3 _ _ D.TOz.symm (e2 _ _ D.i1z.symm z1)))
  have k5 : ∀ c o, c ≠ z → c ≠ T2 → c ≠ i → c ≠ j → s.heap.get? c = some o → g5.get? c = some o := fun c o c1 c2 c3 c4 e => e5 _ _ c2 (e4 _ _ c4 (up3 _ _ c1 c3 c2 e))
  have zl : z < g5.objs.size := Heap.lt_size z5
  show wpAny _ _ (Builtin.SmallTypes.ownedTupleHandOut (.ref z) (.ref g5.objs.size) >>= _) _ _ _; refine wpAny_bind ?_
  unfold Builtin.SmallTypes.ownedTupleHandOut
  refine wpAny_bind (wpAny_setField_rec (show IsZip (g5.push { cls := .type "tuple", data := .seq #[x, y] }) z T1 T2 .ellipsis from Heap.get?_push_of_some _ z5) (by simp) fun g7 z7 s7 => ?_)
  replace z7 : IsZip g7 z T1 T2 (rawInt g5.objs.size) := z7
  refine wpAny_setField_rec z7 (by simp) fun g8 z8 s8 => ?_
  replace z8 : IsZip g8 z T1 T2 (rawInt g5.objs.size) := z8
  have up8 : ∀ c o, c ≠ z → g5.get? c = some o → g8.get? c = some o := fun c o c1 e => s8.extBut _ _ c1 (s7.extBut _ _ c1 (Heap.get?_push_of_some _ e))
  have t8 : IsPair g8 g5.objs.size x y := s8.extBut _ _ (Nat.ne_of_gt zl) (s7.extBut _ _ (Nat.ne_of_gt zl) (Heap.get?_push_size _ rfl))
  have n8 : g8.objs.size = g5.objs.size + 1 := by rw [s8.1, s7.1, Heap.size_push]
  rw [sz] at z8 t8 n8
  refine wpAny_pure ⟨_, rfl, ?_⟩; show Q (.ref g5.objs.size) _
  rw [sz]
  refine hQ g8 z8 (up8 _ _ D.TOz p5) ?_ ?_ t8 n8 fun c o c1 c2 c3 c4 e => up8 c o c1 (k5 c o c1 c2 c3 c4 e)
  · exact X.stay S2 (fun o e => up8 _ o D.i1z (e5 _ _ D.TOi1.symm (e4 _ _ D.i12 (e3 _ _ D.TOi1.symm e)))) fun o e => up8 _ o D.l1z (e5 _ _ D.l1TO (e4 _ _ D.l1i2 (e3 _ _ D.l1TO e)))
  · exact Y.stay U4 (fun o e => up8 _ o D.i2z (e5 _ _ D.TOi2.symm e)) fun o e => up8 _ o D.l2z (e5 _ _ D.l2TO e)
theorem zipM_end {Q : Fin → Shared → Prop} (hh : A.handled = none) (X : Nx i l xs S) (Y : Nx j m ys U) (D : ZipApart z T1 T2 i j l m)
    (hz : IsZip s.heap z T1 T2 .none) (h1 : IsPair s.heap T1 (.ref i) (.ref j)) (h2 : IsPair s.heap T2 a b) (hS : S s.heap k) (hU : U s.heap n) (he : xs[k]? = none ∨ ys[n]? = none)
    (hE : ∀ h' e, (∀ c o, c ≠ z → c ≠ T2 → c ≠ i → c ≠ j → s.heap.get? c = some o → h'.get? c = some o) → (∃ o, h'.get? e = some o ∧ o.cls = .type "StopIteration") → E (.ref e) { s with heap := h' }) :
    wpAny (model prog w) A (Builtin.«zip.__next__» ⟨[.ref z], []⟩) Q E s := by
  show wpAny _ _ (field (.ref z) 2 >>= _) _ _ _
  refine wpAny_bind (wpAny_field hz rfl (x := .bool false) rfl ?_); show wpAny _ _ (field (.ref z) 3 >>= _) _ _ _
  refine wpAny_bind (wpAny_field hz rfl (x := .ref T1) rfl (wpAny_bind (wpAny_seqItems h1 rfl ?_)))
  show wpAny _ _ (Builtin.SmallTypes.ownedTupleIsFree (.ref z) >>= _) _ _ _; refine wpAny_bind ?_
  unfold Builtin.SmallTypes.ownedTupleIsFree
  refine wpAny_bind (wpAny_field hz rfl (x := .none) rfl (wpAny_pure ?_)); simp only [if_true]
  refine wpAny_bind (wpAny_rule (wpAny_bind (wpAny_field hz rfl (x := .ref T2) rfl (wpAny_bind (wpAny_setField_rec hz (by simp) fun g1 z1 s1 => ?_)))))
  replace z1 : IsZip g1 z T1 T2 .ellipsis := z1
  have e1 := s1.extBut
  refine wpAny_bind ?_; simp only [List.zipIdx_cons, List.zipIdx_nil, List.forIn_cons, List.forIn_nil]
  refine wpAny_bind (wpAny_bind (wpAny_onRaise ?_)); show wpAny _ _ (Builtin.SmallTypes.nextOf (.ref i) >>= _) _ _ _
  cases hx : xs[k]? with
  | none =>
    refine wpAny_bind (X.done hh (X.stay hS (fun o => e1 _ o D.i1z) (fun o => e1 _ o D.l1z)) hx fun g2 e e2 he2 => ?_)
    obtain ⟨oe, hoe, hce⟩ := he2
    have z2 : IsZip g2 z T1 T2 .ellipsis := e2 _ _ D.i1z.symm z1
    have ne : e ≠ z := fun q => by subst q; rw [z2] at hoe; cases hoe; simp at hce
    refine wpAny_setField_rec z2 (by simp) fun g3 _ s3 => hE g3 e (fun c o c1 _ c3 _ q => s3.extBut _ _ c1 (e2 _ _ c3 (e1 _ _ c1 q))) ⟨oe, s3.extBut _ _ ne hoe, hce⟩
  | some x =>
    have hy : ys[n]? = none := by
      rcases he with q | q
      · rw [hx] at q; cases q
      · exact q
    refine wpAny_bind (X.item (X.stay hS (fun o => e1 _ o D.i1z) (fun o => e1 _ o D.l1z)) hx fun g2 S2 s2 => wpAny_pure ?_)
    have e2 := s2.extBut
    have p2 : IsPair g2 T2 a b := e2 _ _ D.TOi1 (e1 _ _ D.TOz h2)
    refine wpAny_bind (wpAny_seqItems p2 rfl (wpAny_bind (wpAny_updateSeq_pair p2 fun g3 p3 s3 => ?_)))
    have e3 := s3.extBut
    refine wpAny_bind (wpAny_letGo (wpAny_pure (wpAny_bind (wpAny_bind (wpAny_onRaise ?_))))); show wpAny _ _ (Builtin.SmallTypes.nextOf (.ref j) >>= _) _ _ _
    have up3 : ∀ c o, c ≠ z → c ≠ i → c ≠ T2 → s.heap.get? c = some o → g3.get? c = some o := fun c o c1 c2 c3 e => e3 _ _ c3 (e2 _ _ c2 (e1 _ _ c1 e))
    refine wpAny_bind (Y.done hh (Y.stay hU (fun o => up3 _ o D.i2z D.i12.symm D.TOi2.symm) (fun o => up3 _ o D.l2z D.l2i1 D.l2TO)) hy fun g4 e e4 he4 => ?_)
    obtain ⟨oe, hoe, hce⟩ := he4
    have z4 : IsZip g4 z T1 T2 .ellipsis := e4 _ _ D.i2z.symm (e3 _ _ D.TOz.symm (e2 _ _ D.i1z.symm z1))
    have ne : e ≠ z := fun q => by subst q; rw [z4] at hoe; cases hoe; simp at hce
    refine wpAny_setField_rec z4 (by simp) fun g5 _ s5 => hE g5 e (fun c o c1 c2 c3 c4 q => s5.extBut _ _ c1 (e4 _ _ c4 (up3 _ _ c1 c3 c2 q))) ⟨oe, s5.extBut _ _ ne hoe, hce⟩
theorem nextM_item {x y : Value} {Q : Option Value → Shared → Prop} (X : Nx i l xs S) (Y : Nx j m ys U) (D : ZipApart z T1 T2 i j l m)
    (hz : IsZip s.heap z T1 T2 .none) (h1 : IsPair s.heap T1 (.ref i) (.ref j)) (h2 : IsPair s.heap T2 a b) (hS : S s.heap k) (hU : U s.heap n) (hx : xs[k]? = some x) (hy : ys[n]? = some y)
    (hQ : ∀ h', IsZip h' z T1 T2 (rawInt s.heap.objs.size) → IsPair h' T2 x y → S h' (k + 1) → U h' (n + 1) → IsPair h' s.heap.objs.size x y → h'.objs.size = s.heap.objs.size + 1 →
      (∀ c o, c ≠ z → c ≠ T2 → c ≠ i → c ≠ j → s.heap.get? c = some o → h'.get? c = some o) → Q (some (.ref s.heap.objs.size)) { s with heap := h' }) :
    wpAny (model prog w) A (pyNext (.ref z)) Q E s := by
  have isZ : s.TypeIs (.ref z) "zip" := ⟨_, hz, rfl⟩
  unfold pyNext
  refine wpAny_bind (wpAny_attempt (wpAny_callSpecial?_slot (name := Str.ofString "__next__") isZ F.slot_zip_next (wpAny_call_entry F.slot_zip_next isZ F.entry_zip_next ?_ (F.args_zip_next_1 _))))
  exact zipM_item X Y D hz h1 h2 hS hU hx hy fun h' b1 b2 b3 b4 b5 b6 b7 => wpAny_pure (hQ h' b1 b2 b3 b4 b5 b6 b7)
theorem nextM_end {Q : Option Value → Shared → Prop} (hh : A.handled = none) (X : Nx i l xs S) (Y : Nx j m ys U) (D : ZipApart z T1 T2 i j l m)
    (hz : IsZip s.heap z T1 T2 .none) (h1 : IsPair s.heap T1 (.ref i) (.ref j)) (h2 : IsPair s.heap T2 a b) (hS : S s.heap k) (hU : U s.heap n) (he : xs[k]? = none ∨ ys[n]? = none)
    (hQ : ∀ h', (∀ c o, c ≠ z → c ≠ T2 → c ≠ i → c ≠ j → s.heap.get? c = some o → h'.get? c = some o) → Q none { s with heap := h' }) : wpAny (model prog w) A (pyNext (.ref z)) Q E s := by
  have isZ : s.TypeIs (.ref z) "zip" := ⟨_, hz, rfl⟩
  unfold pyNext
  refine wpAny_bind (wpAny_attempt (wpAny_callSpecial?_slot (name := Str.ofString "__next__") isZ F.slot_zip_next (wpAny_call_entry F.slot_zip_next isZ F.entry_zip_next ?_ (F.args_zip_next_1 _))))
  refine zipM_end hh X Y D hz h1 h2 hS hU he fun h' e hk ⟨o, ho, hc⟩ => ?_
  exact wpAny_bind (wpAny_isInstance (T := "StopIteration") (b := true) ⟨o, ho, hc⟩ isSubtype_stop (wpAny_pure (hQ _ hk)))
end
/-! zip(tuple, list) is made -/
abbrev mz1 (h : Heap) (l : Addr) : Heap := h.push { cls := .type "tuple_iterator", data := .fields #[.ref l, .int 0 0] }
abbrev mz2 (h : Heap) (l m : Addr) : Heap := (mz1 h l).push { cls := .type "list_iterator", data := .fields #[.ref m, .int 0 0] }
abbrev mz3 (h : Heap) (l m : Addr) : Heap := (mz2 h l m).push { cls := .type "tuple", data := .seq #[.ref h.objs.size, .ref (mz1 h l).objs.size] }
abbrev mz4 (h : Heap) (l m : Addr) : Heap := (mz3 h l m).push { cls := .type "tuple", data := .seq #[.none, .none] }
abbrev mz5 (h : Heap) (l m : Addr) : Heap := (mz4 h l m).push { cls := .type "zip", data := .fields #[.none, .bool false, .bool false, .ref (mz2 h l m).objs.size, .ref (mz3 h l m).objs.size] }
theorem meets_zipM (l m : Addr) (xs ys : Array Value) : Meets (Builtin.«zip.__new__» ⟨[.type "zip", .ref l, .ref m], []⟩)
    (fun _ R s => s.heap.IsTuple l xs ∧ s.heap.IsList m ys ∧ R (.ok (.ret (.ref (mz4 s.heap l m).objs.size))) { s with heap := mz5 s.heap l m }) :=
  .of_wp fun prog w A R s h => by
    obtain ⟨hp, g, d, tk, os⟩ := s
    obtain ⟨ht, hl, h⟩ := h
    have hsub := sub_zip
    have ht' : Heap.IsTuple (Shared.heap ⟨hp, g, d, tk, os⟩) l xs := ht
    have hl' : Heap.IsList (Shared.heap ⟨hp.push { cls := .type "tuple_iterator", data := .fields #[.ref l, .int 0 0] }, g, d, tk, os⟩) m ys := Heap.IsList.push hl _
    wp_walk using wpAny_pyIter_tuple ht', wpAny_pyIter_list hl'
    exact ⟨_, rfl, h⟩
theorem call_zipM {prog : Program} {w : World} {A : Around} {E : Value → Shared → Prop} {s : Shared} {l m : Addr} {xs ys : Array Value} {Q : Value → Shared → Prop} (ht : s.heap.IsTuple l xs) (hl : s.heap.IsList m ys)
    (h : ∀ h', IsZip h' (s.heap.objs.size + 4) (s.heap.objs.size + 2) (s.heap.objs.size + 3) .none → IsPair h' (s.heap.objs.size + 2) (.ref s.heap.objs.size) (.ref (s.heap.objs.size + 1)) →
      IsPair h' (s.heap.objs.size + 3) .none .none → h'.IsTupleIter s.heap.objs.size l 0 → h'.IsListIter (s.heap.objs.size + 1) m 0 → (∀ c o, s.heap.get? c = some o → h'.get? c = some o) → Q (.ref (s.heap.objs.size + 4)) { s with heap := h' }) :
    wpAny (model prog w) A (call (.type "zip") [.ref l, .ref m]) Q E s := by
  refine callType_new F.called_zip (by decide) (F.typeCall_zip_2 _ _) (F.newCall_zip_2 _ _) (fun obj => F.args_object_init_3 obj _ _) F.entry_zip_new (meets_zipM l m xs ys) ⟨ht, hl, ?_⟩
  have n1 : (mz1 s.heap l).objs.size = s.heap.objs.size + 1 := Heap.size_push ..
  have n2 : (mz2 s.heap l m).objs.size = s.heap.objs.size + 2 := by rw [Heap.size_push, n1]
  have n3 : (mz3 s.heap l m).objs.size = s.heap.objs.size + 3 := by rw [Heap.size_push, n2]
  have n4 : (mz4 s.heap l m).objs.size = s.heap.objs.size + 4 := by rw [Heap.size_push, n3]
  have f5 : (mz5 s.heap l m).get? (mz4 s.heap l m).objs.size = some _ := Heap.get?_push_size _ rfl
  have f4 : (mz5 s.heap l m).get? (mz3 s.heap l m).objs.size = some _ := Heap.get?_push_of_some _ (Heap.get?_push_size _ rfl)
  have f3 : (mz5 s.heap l m).get? (mz2 s.heap l m).objs.size = some _ := Heap.get?_push_of_some _ (Heap.get?_push_of_some _ (Heap.get?_push_size _ rfl))
  have f2 : (mz5 s.heap l m).get? (mz1 s.heap l).objs.size = some _ := Heap.get?_push_of_some _ (Heap.get?_push_of_some _ (Heap.get?_push_of_some _ (Heap.get?_push_size _ rfl)))
  have f1 : (mz5 s.heap l m).get? s.heap.objs.size = some _ := Heap.get?_push_of_some _ (Heap.get?_push_of_some _ (Heap.get?_push_of_some _ (Heap.get?_push_of_some _ (Heap.get?_push_size _ rfl))))
  show _ ∧ _
  rw [n2, n3, n4] at f5
  rw [n1, n2] at f3
  rw [n3] at f4
  rw [n1] at f2
  rw [n4]
  refine ⟨⟨_, f5, rfl⟩, h _ f5 f3 f4 ⟨_, f1, rfl, rfl⟩ ⟨_, f2, rfl, rfl⟩ fun c o q => ?_⟩
  exact Heap.get?_push_of_some _ (Heap.get?_push_of_some _ (Heap.get?_push_of_some _ (Heap.get?_push_of_some _ (Heap.get?_push_of_some _ q))))
/-- the tuple at a and the list at b, the items in new pairs -/
def ItM (K : PySem.W.Frag) (a b : Addr) : It :=
  ⟨fun i H => ∃ (xs ys : List V) (x y : V), SqT K H a xs ∧ SqL K H b ys ∧ xs[i]? = some x ∧ ys[i]? = some y,
    fun i H v H' => ∃ T x y, v = .ref T ∧ H T = none ∧ H' = upd H T (.tup [x, y]) ∧ (∀ xs, SqT K H a xs → xs[i]? = some x) ∧ ∀ ys, SqL K H b ys → ys[i]? = some y,
    fun i H => ∃ xs ys : List V, SqT K H a xs ∧ SqL K H b ys ∧ (xs.length ≤ i ∨ ys.length ≤ i)⟩
theorem turnM {P : Program} {w : World} {K : PySem.W.Frag} {elts : List Expr} {kk : Nat} {tpos : Pos} {a b z T1 T2 i1 i2 : Addr} (D : ZipApart z T1 T2 i1 i2 a b) :
    Turn P w K (.Tuple elts kk tpos) (ItM K a b) [z, T1, T2, i1, i2] z (fun i h => IsZip h z T1 T2 .none ∧ IsPair h T1 (.ref i1) (.ref i2) ∧ (∃ x y, IsPair h T2 x y) ∧ h.IsTupleIter i1 a i ∧ h.IsListIter i2 b i) where
  mem := by simp
  obj := fun i h st c hc => by
    obtain ⟨hz, h1, ⟨x, y, h2⟩, ⟨o1, e1, _, d1⟩, o2, e2, _, d2⟩ := st
    have q : c = z ∨ c = T1 ∨ c = T2 ∨ c = i1 ∨ c = i2 := by simpa using hc
    rcases q with rfl | rfl | rfl | rfl | rfl
    · exact ⟨_, hz, fun v q => nomatch q⟩
    · exact ⟨_, h1, fun v q => nomatch q⟩
    · exact ⟨_, h2, fun v q => nomatch q⟩
    · exact ⟨o1, e1, fun v q => by rw [d1] at q; cases q⟩
    · exact ⟨o2, e2, fun v q => by rw [d2] at q; cases q⟩
  keep := fun i h h' ⟨hz, h1, ⟨x, y, h2⟩, t1, t2⟩ k =>
    ⟨k z (by simp) _ hz, k T1 (by simp) _ h1, ⟨x, y, k T2 (by simp) _ h2⟩, t1.at fun o q => k i1 (by simp) o q, t2.at fun o q => k i2 (by simp) o q⟩
  item := by
    intro X hP hw hK hc i pins s σ H E I hf st hg
    subst hP hw hK
    obtain ⟨hz, h1, ⟨x0, y0, h2⟩, t1, t2⟩ := st
    obtain ⟨xs, ys, x, y, hqx, hqy, hx, hy⟩ := hg
    obtain ⟨its, rv, p, _⟩ := I.tuple hqx
    obtain ⟨jts, rv2, p2, _⟩ := I.list hqy
    obtain ⟨u, hu, ru⟩ := rv.get hx
    obtain ⟨v, hv, rw⟩ := rv2.get hy
    have zl : z < s.heap.objs.size := Heap.lt_size hz
    refine nextM_item (nx_tup (Ne.symm D.l1i1)) (nx_list (Ne.symm D.l2i2)) D hz h1 h2 ⟨t1, p⟩ ⟨t2, p2.isList⟩ (x := u) (y := v) (by simpa using hu) (by simpa using hv) fun h' z' q2 S' U' hT hsz hk => ?_
    refine ⟨_, rfl, wpAny_letOwnedTupleGo_zip (s := { s with heap := h' }) z' fun g gz sb => ?_⟩
    have hT2 : g.get? s.heap.objs.size = some { cls := .type "tuple", data := .seq #[u, v] } := (sb.2 _ (Nat.ne_of_gt zl)).trans hT
    have away : ∀ {c : Addr}, c ∉ [z, T1, T2, i1, i2] → c ≠ z ∧ c ≠ T2 ∧ c ≠ i1 ∧ c ≠ i2 := fun {c} hb => by simp at hb; exact ⟨hb.1, hb.2.2.1, hb.2.2.2.1, hb.2.2.2.2⟩
    have J : Inv X pins σ (upd H s.heap.objs.size (.tup [x, y])) { s with heap := g } :=
      I.turnedNew (t' := s.toks) (ch := [z, T1, T2, i1, i2]) (fun c o hb q => let ⟨a1, a2, a3, a4⟩ := away hb; (sb.2 c a1).trans (hk c o a1 a2 a3 a4 q)) hf (Nat.le_refl _)
        ⟨by show 2 ≤ sizeLine; decide, [u, v], .cons ru (.cons rw .nil), ⟨_, hT2, rfl, _, rfl⟩⟩
    refine ⟨.ref s.heap.objs.size, _, J, rfl, ⟨_, x, y, rfl, I.hok.fresh (Nat.le_refl _), rfl, fun l hl => by rw [I.tuple_inj hl hqx]; exact hx, fun l hl => by rw [I.list_inj hl hqy]; exact hy⟩,
      ⟨gz, (sb.2 _ D.TIz).trans (hk _ _ D.TIz D.TITO D.TIi1 D.TIi2 h1), ⟨u, v, (sb.2 _ D.TOz).trans q2⟩, S'.1.at fun o q => (sb.2 _ D.i1z).trans q, U'.1.at fun o q => (sb.2 _ D.i2z).trans q⟩, fun c hcm => ?_⟩
    have lt : c < s.heap.objs.size := by
      have q : c = z ∨ c = T1 ∨ c = T2 ∨ c = i1 ∨ c = i2 := by simpa using hcm
      rcases q with rfl | rfl | rfl | rfl | rfl
      · exact zl
      · exact Heap.lt_size h1
      · exact Heap.lt_size h2
      · obtain ⟨_, e1, _⟩ := t1; exact Heap.lt_size e1
      · obtain ⟨_, e2, _⟩ := t2; exact Heap.lt_size e2
    rw [upd_ne (Nat.ne_of_lt lt)]
    exact (hf c hcm).1
  done := by
    intro X hP hw hK hc i pins s σ H E I hf st hg
    subst hP hw hK
    obtain ⟨hz, h1, ⟨x0, y0, h2⟩, t1, t2⟩ := st
    obtain ⟨xs, ys, hqx, hqy, hend⟩ := hg
    obtain ⟨its, rv, p, _⟩ := I.tuple hqx
    obtain ⟨jts, rv2, p2, _⟩ := I.list hqy
    have n1 := rv.length
    have n2 := rv2.length
    have he : its.toArray[i]? = none ∨ jts.toArray[i]? = none := hend.imp (fun q => by simp; omega) fun q => by simp; omega
    refine nextM_end (I.ok.hd hc) (nx_tup (Ne.symm D.l1i1)) (nx_list (Ne.symm D.l2i2)) D hz h1 h2 ⟨t1, p⟩ ⟨t2, p2.isList⟩ he fun h' hk => ?_
    exact ⟨rfl, I.turnedL (t' := s.toks) (ch := [z, T1, T2, i1, i2]) (fun c o hb q => by simp at hb; exact hk c o hb.1 hb.2.2.1 hb.2.2.2.1 hb.2.2.2.2 q) hf⟩
  self := fun A i s Q E st h => wpAny_pyIter_zip st.1 h
/-- zip(t, xs) -/
def iZipM (K : PySem.W.Frag) (ta : TA) : TI := fun σ H R => ta σ H fun vs H1 => ∃ a b xs ys, vs = [.ref a, .ref b] ∧ SqT K H1 a xs ∧ SqL K H1 b ys ∧ R (ItM K a b) H1
theorem pi_zipTL {X : Cx} {e e2 : Expr} {ta : TA} {p pos tpos : Pos} {elts : List Expr} {kk : Nat} (hg : Gl X "zip") (hm : X.mg "zip" = none) (ha : PA X [e, e2] ta)
    (hs : starEach [e, e2] X.env = (false, eval e X.env) :: starEach [e2] X.env := by rfl) (hpl : (backTo pos (starEach [e2] X.env)).any (·.1) = false := by rfl) :
    PI X (.Tuple elts kk tpos) (.Call (.Name "zip" p) [e, e2] [] pos) (iZipM X.K ta) := by
  refine ⟨fun pins s σ H R I h => Call_ (ld_blt I hg hm PyProof.Rows.boot_zip (PyProof.Rows.callWith_type1 (thn (ha.run pos pins s σ H _ I h) ?_) hs hpl))⟩
  rintro us s1 ⟨vs, H1, I1, r1, a, b, xs, ys, rfl, hqx, hqy, q⟩
  cases r1 with
  | cons r rr =>
    cases rr with
    | cons r' rr =>
      cases rr
      cases r
      cases r'
      obtain ⟨its, rv, p1, _⟩ := I1.tuple hqx
      obtain ⟨jts, rv2, p2, _⟩ := I1.list hqy
      obtain ⟨o1, ho1, _⟩ := id p1
      refine call_zipM p1 p2.isList fun h' hz hTI hTO h1 h2 hk => wpAny_pyIter_zip hz ?_
      have I2 : Inv X pins σ H1 { s1 with heap := h' } := I1.kept (t' := s1.toks) hk
      refine ⟨s1.heap.objs.size + 4, [s1.heap.objs.size + 4, s1.heap.objs.size + 2, s1.heap.objs.size + 3, s1.heap.objs.size, s1.heap.objs.size + 1], _, _, H1, rfl, I2,
        turnM (PySem.W.ktu_apart s1.heap.objs.size a b (Heap.lt_size ho1) p2.lt), ⟨hz, hTI, ⟨_, _, hTO⟩, h1, h2⟩, fun c hcm => ?_, q⟩
      have le : s1.heap.objs.size ≤ c := by
        have z : c = s1.heap.objs.size + 4 ∨ c = s1.heap.objs.size + 2 ∨ c = s1.heap.objs.size + 3 ∨ c = s1.heap.objs.size ∨ c = s1.heap.objs.size + 1 := by simpa using hcm
        rcases z with z | z | z | z | z <;> rw [z] <;> first | exact Nat.le_refl _ | exact Nat.le_add_right _ _
      exact I1.fpOk le (I1.hok.fresh le)
/-! what both are walked as -/
theorem walkM {K : PySem.W.Frag} {a b : Addr} {xs ys : List V} : Walk (ItM K a b) (min xs.length ys.length) (fun H => SqT K H a xs ∧ SqL K H b ys) (YPair (fun i => xs[i]?) fun i => ys[i]?) := by
  refine ⟨fun i _ hi q => ?_, fun _ q => ⟨xs, ys, q.1, q.2, by omega⟩, fun i H v H' _ q y => ?_⟩
  · have h1 : i < xs.length := by omega
    have h2 : i < ys.length := by omega
    exact ⟨xs, ys, xs[i], ys[i], q.1, q.2, by simp [h1], by simp [h2]⟩
  · obtain ⟨T, x, z, h1, h2, h3, h4, h5⟩ := y
    exact ⟨T, x, z, h1, h2, h3, h4 xs q.1, h5 ys q.2⟩
theorem walkT {K : PySem.W.Frag} {a b : Addr} {xs ys : List V} : Walk (RZ.ItzT K a b) (min xs.length ys.length) (fun H => SqT K H a xs ∧ SqT K H b ys) (YPair (fun i => xs[i]?) fun i => ys[i]?) := by
  refine ⟨fun i _ hi q => ?_, fun _ q => ⟨xs, ys, q.1, q.2, by omega⟩, fun i H v H' _ q y => ?_⟩
  · have h1 : i < xs.length := by omega
    have h2 : i < ys.length := by omega
    exact ⟨xs, ys, xs[i], ys[i], q.1, q.2, by simp [h1], by simp [h2]⟩
  · obtain ⟨T, x, z, h1, h2, h3, h4, h5⟩ := y
    exact ⟨T, x, z, h1, h2, h3, h4 xs q.1, h5 ys q.2⟩
section
variable {K : PySem.W.Frag} {ρ : Rho} {ta : TA} {es fs : List PyData}
theorem it_zipM (h : EvL K ta ρ [.tuple es, .list fs]) : Iter K (iZipM K ta) ρ (zipD es fs) := fun σ B H e s R r =>
  h σ B H e s _ fun vs B1 H1 g hv => by
    cases hv with
    | cons h1 t =>
      cases t with
      | cons h2 t =>
        cases t
        cases h1 with
        | tup p1 a1 =>
          cases h2 with
          | lst p2 a2 => exact ⟨_, _, _, _, rfl, same_t g.sub p1, same_l g.sub p2, r _ B1 H1 g (goes_pair walkM (fun H' s' => ⟨same_t s' p1, same_l s' p2⟩) a1 a2)⟩
theorem it_zipT (h : EvL K ta ρ [.tuple es, .tuple fs]) : Iter K (RZ.iZipA K ta) ρ (zipD es fs) := fun σ B H e s R r =>
  h σ B H e s _ fun vs B1 H1 g hv => by
    cases hv with
    | cons h1 t =>
      cases t with
      | cons h2 t =>
        cases t
        cases h1 with
        | tup p1 a1 =>
          cases h2 with
          | tup p2 a2 => exact ⟨_, _, _, _, rfl, .inr ⟨same_t g.sub p1, same_t g.sub p2, r _ B1 H1 g (goes_pair walkT (fun H' s' => ⟨same_t s' p1, same_t s' p2⟩) a1 a2)⟩⟩
theorem it_zipL (h : EvL K ta ρ [.list es, .list fs]) : Iter K (RZ.iZipA K ta) ρ (zipD es fs) := fun σ B H e s R r =>
  h σ B H e s _ fun vs B1 H1 g hv => by
    cases hv with
    | cons h1 t =>
      cases t with
      | cons h2 t =>
        cases t
        cases h1 with
        | lst p1 a1 =>
          cases h2 with
          | lst p2 a2 => exact ⟨_, _, _, _, rfl, .inl ⟨same_l g.sub p1, same_l g.sub p2, r _ B1 H1 g (goes_pair (walk_zip rfl) (fun H' s' => ⟨same_l s' p1, same_l s' p2⟩) a1 a2)⟩⟩
end
end G
end
section
set_option maxRecDepth 100000
set_option maxHeartbeats 2000000
/-! built-ins by data -/
namespace G
open PySem PySem.Spec PyProof.Rows L2
/-! isinstance -/
def tyD : PyData → String
  | .none => "NoneType"
  | .bool _ => "bool"
  | .int _ => "int"
  | .str _ => "str"
  | .list _ => "list"
  | .tuple _ => "tuple"
  | .dict _ => "dict"
theorem tyx_of {K : PySem.W.Frag} {H : Hp} {v : V} {d : PyData} (h : Da K H v d) : TyX K H v (.type (tyD d)) := by
  cases h with
  | non => exact .base .non
  | bl b => exact .base (.bl b)
  | int i => exact .base (.int i)
  | str x => exact .base (.str x)
  | lst h _ =>
    rcases h with (h | ⟨o, h⟩) | ⟨o, its, n, h, c, _⟩
    · exact .base (.lst h)
    · exact .base (.frz h)
    · exact .kList h c
  | tup h _ =>
    rcases h with (h | ⟨o, h⟩) | ⟨o, its, n, h, c, _⟩
    · exact .base (.tup h)
    · exact .fTuple h
    · exact .kTuple h c
  | emp h => exact .base (.dK h)
section
variable {K : PySem.W.Frag} {ρ : Rho} {ta : TE} {d z : PyData}
theorem ev_isi {T : String} {b : Bool} (h : Ev K ta ρ d) (hb : kitB (tyD d) T = some b) : Ev K (tCB (rIsi K) (tCons ta (tCons (tC (.ty T)) tNil))) ρ (.bool b) := fun σ B H e s Q q =>
  h σ B H e s _ fun v B1 H1 g hv => ⟨v, .ty T, _, _, b, rfl, .ty T, tyx_of (hv.mono g.sub), kit_ty hb, q _ B1 H1 g (.bl b)⟩
theorem fn_lenT {xs : List PyData} : Fn K (fun xs H Q => ∃ p ys, xs = [.ref p] ∧ (SqL K H p ys ∨ SqT K H p ys) ∧ Q (.int ys.length) H) [.tuple xs] (.int xs.length) := fun B H s us hu Q q => by
  cases hu with
  | cons h t =>
    cases t
    cases h with
    | tup h1 a1 => exact ⟨_, _, rfl, .inr (same_t s h1), q _ B H (.refl s) (by rw [a1.len]; exact .int _)⟩
/-! all, any, sum of a list -/
theorem fn_all {bs : List Bool} : Fn K (rAll K) [.list (bs.map .bool)] (.bool (bs.all id)) := fun B H s us hu Q q => by
  cases hu with
  | cons h t =>
    cases t
    cases h with
    | lst h a =>
      obtain rfl := daBools a
      exact ⟨_, bs, rfl, same_l s h, q _ B H (.refl s) (.bl _)⟩
theorem fn_int {i : Int} : Fn K (fun xs H Q => (∃ i, xs = [.int i] ∧ Q (.int i) H) ∨ ∃ k, xs = [.bl k] ∧ Q (.int (if k then 1 else 0)) H) [.int i] (.int i) := fun B H s us hu Q q => by
  cases hu with
  | cons h t =>
    cases t
    cases h
    exact .inl ⟨i, rfl, q _ B H (.refl s) (.int _)⟩
/-- list(x) of a list or a tuple -/
abbrev rListOf (K : PySem.W.Frag) : List V → Hp → VK → Prop := fun xs H Q => ∃ p ys, xs = [.ref p] ∧ (SqL K H p ys ∨ SqT K H p ys) ∧ ∀ l, H l = none → Q (.ref l) (upd H l (.lst ys))
theorem callA_list {X : Cx} : CallR X (.type "list") (rListOf X.K) := call_list_of
theorem fn_listL {ds : List PyData} : Fn K (rListOf K) [.list ds] (.list ds) := fun B H s us hu Q q => by
  cases hu with
  | cons h t =>
    cases t
    cases h with
    | @lst a xs _ h hs => exact ⟨_, _, rfl, .inl (same_l s h), fun l hl => q _ _ _ (Gr.add s hl (.lst xs)) (.lst (.of upd_same) (hs.mono (Gr.add s hl (.lst xs)).bb))⟩
theorem fn_listT {ds : List PyData} : Fn K (rListOf K) [.tuple ds] (.list ds) := fun B H s us hu Q q => by
  cases hu with
  | cons h t =>
    cases t
    cases h with
    | @tup a xs _ h hs => exact ⟨_, _, rfl, .inr (same_t s h), fun l hl => q _ _ _ (Gr.add s hl (.lst xs)) (.lst (.of upd_same) (hs.mono (Gr.add s hl (.lst xs)).bb))⟩
/-- len(set(xs)), xs unlike ints -/
theorem ev_lenSet {ns : List Int} (h : Ev K ta ρ (.list (ns.map .int))) (hn : ns.Nodup) (hl : ns.length ≤ 4000) : Ev K (RZ.tLenSetI K ta) ρ (.int ns.length) := fun σ B H e s Q q =>
  h σ B H e s _ fun v B1 H1 g hv => by
    cases hv with
    | lst h a =>
      obtain rfl := daInts a
      exact ⟨_, ns, rfl, same_l g.sub h, hn, hl, q _ B1 H1 g (.int _)⟩
/-- t[::-1] -/
theorem ev_revT {ds : List PyData} (h : Ev K ta ρ (.tuple ds)) : Ev K (tRevT K ta) ρ (.tuple ds.reverse) := fun σ B H e s Q q =>
  h σ B H e s _ fun v B1 H1 g hv => by
    cases hv with
    | @tup a xs _ h hs => exact ⟨_, _, rfl, same_t g.sub h, fun p hp => q _ _ _ (g.trans (Gr.add g.sub hp (.tup xs.reverse))) (.tup (.of upd_same) (hs.rev.mono (Gr.add g.sub hp (.tup xs.reverse)).bb))⟩
/-- xs[i:j] -/
def EvO (K : PySem.W.Frag) (to : TO) (ρ : Rho) (o : Option Int) : Prop := ∀ σ B H, EnvOk K B σ ρ → Same B H → ∀ Q : Option Int → Hp → Prop, (∀ B' H', Gr B H B' H' → Q o H') → to σ H Q
theorem eo_none : EvO K tNoPart ρ none := fun σ B H e s Q q => q B H (.refl s)
theorem eo_some {i : Int} (h : Ev K ta ρ (.int i)) : EvO K (tPart ta) ρ (some i) := fun σ B H e s Q q => h σ B H e s _ fun v B1 H1 g hv => by cases hv; exact ⟨i, rfl, q B1 H1 g⟩
def cutD (ds : List PyData) (lo hi : Option Int) : List PyData := (ds.drop (HT.sIx ds.length 0 lo)).take (HT.sIx ds.length ds.length hi - HT.sIx ds.length 0 lo)
theorem cut_all {B : Hp} {xs : List V} {ds : List PyData} (hs : DaAll K B xs ds) (lo hi : Option Int) : DaAll K B (cutV xs lo hi) (cutD ds lo hi) := by
  have e1 := hs.len
  unfold cutV cutD
  rw [e1]
  exact (hs.drop _).take _
theorem ev_slL {tl th : TO} {ds : List PyData} {lo hi : Option Int} (h : Ev K ta ρ (.list ds)) (h1 : EvO K tl ρ lo) (h2 : EvO K th ρ hi) : Ev K (tSl (rSlL K) ta tl th) ρ (.list (cutD ds lo hi)) := fun σ B H e s Q q =>
  h σ B H e s _ fun v B1 H1 g hv => h1 σ B1 H1 (e.mono g.bb) g.sub _ fun B2 H2 g2 => h2 σ B2 H2 (e.mono (g.trans g2).bb) g2.sub _ fun B3 H3 g3 => by
    cases hv with
    | @lst a xs _ h hs =>
      have gg := (g.trans g2).trans g3
      refine ⟨_, _, rfl, same_l gg.sub (same_l (g2.trans g3).bb h), fun p hp => ?_⟩
      have ga := Gr.add gg.sub hp (.lst (cutV xs lo hi))
      exact q _ _ _ (gg.trans ga) (.lst (.of upd_same) ((cut_all (hs.mono (g2.trans g3).bb) lo hi).mono ga.bb))
/-- reversed(t) -/
theorem walk_revT {a : Addr} {xs : List V} : Walk (RT.ItvT K a xs.length) xs.length (fun H => SqT K H a xs) (fun i H x H' => H' = H ∧ xs[xs.length - 1 - i]? = some x) :=
  ⟨fun i _ hi q => ⟨hi, xs, xs[xs.length - 1 - i]'(by omega), q, by simp [show xs.length - 1 - i < xs.length by omega]⟩, fun _ _ => Nat.le_refl _, fun _ _ _ _ _ q y => ⟨y.1, y.2 xs q⟩⟩
theorem goes_rev {J : It} {B : Hp} {xs : List V} {es : List PyData} {G : Hp → Prop} (w : Walk J xs.length G (fun i H x H' => H' = H ∧ xs[xs.length - 1 - i]? = some x)) (hg : ∀ H, Same B H → G H) (a : DaAll K B xs es) : Goes K J B es.reverse := by
  have hl := a.len
  unfold Goes
  rw [List.length_reverse, ← hl]
  refine w.mono hg fun i H x H' hi s y B0 s0 h0 => ?_
  obtain ⟨rfl, hx⟩ := y
  have hi2 : es.length - 1 - i < es.length := by omega
  obtain ⟨v, e1, e2⟩ := a.at (List.getElem?_eq_getElem hi2)
  rw [hl, e1] at hx
  cases hx
  refine ⟨B0, _, .refl h0, ?_, e2.mono s0⟩
  rw [List.getElem?_reverse (by omega)]
  exact List.getElem?_eq_getElem hi2
theorem it_revT {es : List PyData} (h : Ev K ta ρ (.tuple es)) : Iter K (RT.iRevA K ta) ρ es.reverse := fun σ B H e s R r =>
  h σ B H e s _ fun v B1 H1 g hv => by
    cases hv with
    | tup h1 a => exact ⟨_, _, rfl, .inr ⟨same_t g.sub h1, r _ B1 H1 g (goes_rev walk_revT (fun H' s' => same_t s' h1) a)⟩⟩
theorem it_revL {es : List PyData} (h : Ev K ta ρ (.list es)) : Iter K (RT.iRevA K ta) ρ es.reverse := fun σ B H e s R r =>
  h σ B H e s _ fun v B1 H1 g hv => by
    cases hv with
    | lst h1 a => exact ⟨_, _, rfl, .inl ⟨same_l g.sub h1, r _ B1 H1 g (goes_rev walk_rev (fun H' s' => same_l s' h1) a)⟩⟩
end
/-! xs.index(x), xs unlike ints -/
theorem flat_ints (ns : List Int) : (ns.map V.int).all flatV = true := by
  rw [List.all_eq_true]
  intro v hv
  obtain ⟨n, _, rfl⟩ := List.mem_map.mp hv
  rfl
theorem ev_index {K : PySem.W.Frag} {ρ : Rho} {ta tb : TE} {ns : List Int} {x : Int} {j : Nat} (h : Ev K ta ρ (.list (ns.map .int))) (hx : Ev K tb ρ (.int x)) (nd : ns.Nodup) (hj : ns[j]? = some x) :
    Ev K (tBM K "list" (rIndex K) ta (tCons tb tNil)) ρ (.int j) := fun σ B H e s Q q =>
  h σ B H e s _ fun v B1 H1 g hv => by
    cases hv with
    | lst h1 a =>
      obtain rfl := daInts a
      refine ⟨.inl ⟨rfl, _, same_l g.sub h1⟩, hx σ B1 H1 (e.mono g.bb) g.sub _ fun u B2 H2 g2 hu => ?_⟩
      cases hu
      refine ⟨_, ns.map .int, .int x, j, .int x, rfl, rfl, same_l g2.ex (same_l g.sub h1), rfl, flat_ints ns, by rw [List.getElem?_map, hj]; rfl, by simp [eqV], fun m z hm hz => ?_, q _ B2 H2 (g.trans g2) (.int _)⟩
      rw [List.getElem?_map] at hz
      cases e1 : ns[m]? with
      | none => rw [e1] at hz; cases hz
      | some y =>
        rw [e1] at hz
        cases hz
        have ne : y ≠ x := fun e2 => by
          subst e2
          obtain ⟨l1, w1⟩ := List.getElem?_eq_some_iff.mp e1
          obtain ⟨l2, w2⟩ := List.getElem?_eq_some_iff.mp hj
          exact absurd (w1.trans w2.symm) (List.pairwise_iff_getElem.mp nd m j l1 l2 hm)
        show (y == x) = false
        exact beq_eq_false_iff_ne.mpr ne
/-! zip of whatever -/
section
variable {X : Cx}
theorem pi_zipM {e e2 : Expr} {ta : TA} {p pos tpos : Pos} {elts : List Expr} {kk : Nat} (hg : Gl X "zip") (hm : X.mg "zip" = none) (ha : PA X [e, e2] ta)
    (hs : starEach [e, e2] X.env = (false, eval e X.env) :: starEach [e2] X.env := by rfl) (hpl : (backTo pos (starEach [e2] X.env)).any (·.1) = false := by rfl) :
    PI X (.Tuple elts kk tpos) (.Call (.Name "zip" p) [e, e2] [] pos) (orI (RZ.iZipA X.K ta) (iZipM X.K ta)) := pi_or (RZ.pi_zipA hg hm ha hs hpl) (pi_zipTL hg hm ha hs hpl)
end
/-! powers -/
def CPowW (i j : Int) : Prop := 0 ≤ j ∧ (Builtin.Int.intBits i : Int) * j ≤ 2 ^ 27
theorem op_powW {X : Cx} : OpR X (binaryOp .Pow) (rI CPowW fun i j => .int (i ^ j.toNat)) := by
  intro pins s σ H x y v u Q I rx ry h
  obtain ⟨i, j, rfl, rfl, hc, q⟩ := h
  obtain ⟨t, rfl⟩ := (show ∃ t, v = Value.int i t from rx)
  obtain ⟨t', rfl⟩ := (show ∃ t, u = Value.int j t from ry)
  exact pow_int hc.1 hc.2 ⟨.int _, H, I.tok _, ⟨_, rfl⟩, q⟩
end G
namespace G
open PySem PySem.Spec PyProof.Rows L2
def isIntD : PyData → Bool
  | .bool _ => true
  | .int _ => true
  | _ => false
theorem kit_int : ∀ x : PyData, kitB (tyD x) "int" = some (isIntD x)
  | .none => (by decide +kernel : kitB "NoneType" "int" = some false)
  | .bool _ => (by decide +kernel : kitB "bool" "int" = some true)
  | .int _ => (by decide +kernel : kitB "int" "int" = some true)
  | .str _ => (by decide +kernel : kitB "str" "int" = some false)
  | .list _ => (by decide +kernel : kitB "list" "int" = some false)
  | .tuple _ => (by decide +kernel : kitB "tuple" "int" = some false)
  | .dict _ => (by decide +kernel : kitB "dict" "int" = some false)
def isBoolD : PyData → Bool
  | .bool _ => true
  | _ => false
theorem kit_bool : ∀ x : PyData, kitB (tyD x) "bool" = some (isBoolD x)
  | .none => (by decide +kernel : kitB "NoneType" "bool" = some false)
  | .bool _ => (by decide +kernel : kitB "bool" "bool" = some true)
  | .int _ => (by decide +kernel : kitB "int" "bool" = some false)
  | .str _ => (by decide +kernel : kitB "str" "bool" = some false)
  | .list _ => (by decide +kernel : kitB "list" "bool" = some false)
  | .tuple _ => (by decide +kernel : kitB "tuple" "bool" = some false)
  | .dict _ => (by decide +kernel : kitB "dict" "bool" = some false)
def isListD : PyData → Bool
  | .list _ => true
  | _ => false
theorem kit_list : ∀ x : PyData, kitB (tyD x) "list" = some (isListD x)
  | .none => (by decide +kernel : kitB "NoneType" "list" = some false)
  | .bool _ => (by decide +kernel : kitB "bool" "list" = some false)
  | .int _ => (by decide +kernel : kitB "int" "list" = some false)
  | .str _ => (by decide +kernel : kitB "str" "list" = some false)
  | .list _ => (by decide +kernel : kitB "list" "list" = some true)
  | .tuple _ => (by decide +kernel : kitB "tuple" "list" = some false)
  | .dict _ => (by decide +kernel : kitB "dict" "list" = some false)
def isTupD : PyData → Bool
  | .tuple _ => true
  | _ => false
theorem kit_tuple : ∀ x : PyData, kitB (tyD x) "tuple" = some (isTupD x)
  | .none => (by decide +kernel : kitB "NoneType" "tuple" = some false)
  | .bool _ => (by decide +kernel : kitB "bool" "tuple" = some false)
  | .int _ => (by decide +kernel : kitB "int" "tuple" = some false)
  | .str _ => (by decide +kernel : kitB "str" "tuple" = some false)
  | .list _ => (by decide +kernel : kitB "list" "tuple" = some false)
  | .tuple _ => (by decide +kernel : kitB "tuple" "tuple" = some true)
  | .dict _ => (by decide +kernel : kitB "dict" "tuple" = some false)
def isStrD : PyData → Bool
  | .str _ => true
  | _ => false
theorem kit_str : ∀ x : PyData, kitB (tyD x) "str" = some (isStrD x)
  | .none => (by decide +kernel : kitB "NoneType" "str" = some false)
  | .bool _ => (by decide +kernel : kitB "bool" "str" = some false)
  | .int _ => (by decide +kernel : kitB "int" "str" = some false)
  | .str _ => (by decide +kernel : kitB "str" "str" = some true)
  | .list _ => (by decide +kernel : kitB "list" "str" = some false)
  | .tuple _ => (by decide +kernel : kitB "tuple" "str" = some false)
  | .dict _ => (by decide +kernel : kitB "dict" "str" = some false)
end G
namespace G
open PySem PySem.Spec PyProof.Rows L2
/-- a def of the text by its name -/
def Has (K : PySem.W.Frag) (mg : Str → Option Value) (x : Str) (st : Stmt) (ps : List Str) : Prop :=
  ∃ (f : Addr) (fd : FuncData), Fun K x x st f fd ∧ mg x = some (.ref f) ∧ L2.Binds K fd ps []
theorem has_d {P : Program} {w : World} {K : PySem.W.Frag} {mg : Str → Option Value} {base : Heap} {x : Str} {st : Stmt} {N ps : List Str} {k : Nat} {p : List PyData → PyData → Prop} (h : Has K mg x st ps) (S : FnScope N ps (defScope st))
    (ar : ∀ ds d, p ds d → ds.length = ps.length)
    (hb : ∀ (f : Addr) (cdv : Value) (A : Around) (outer : List Env) (s : Shared) (H : Hp) (E : XK), A.guards = some [] → Room k (A.deeper (envOfC x (defScope st) s.heap.objs.size f cdv)) →
      ∃ t, PSs (bodyCx CX0 P w K mg base N x st f cdv A outer s H E).nox (defBody st) t ∧ ∀ ds d, p ds d → Do K t (startR N ds) (fun _ => d = .none) fun d' => d' = d) : Cal P w K mg base (k + 1) x ps (sp K p) := by
  obtain ⟨f, fd, F, hm, bd⟩ := h
  exact ⟨f, fd, hm, kq_of F, bd, def_d F S ar fun cdv A outer s H E hg hr => hb f cdv A outer s H E hg hr⟩
theorem Cal.kw {P : Program} {w : World} {K : PySem.W.Frag} {mg : Str → Option Value} {base : Heap} {k : Nat} {x : Str} {st : Stmt} {ps ks : List Str} {q : Sp} {g : List Value → List Value → List Value} {gV : List V → List V → List V}
    (c : Cal P w K mg base k x ps q) (h : Has K mg x st ps)
    (hk : ∀ (kV doc pm : Value) (an : Option Addr) (cdv ct : Value) (us ws : List Value), (g us ws).length = ps.length → bindArgs (PySem.W.fnOf x x (defArgs st) (defBody st) (defScope st) .none kV doc pm an cdv ct) ⟨us, ks.zip ws⟩ = pure (ps.zip (g us ws)))
    (hr : ∀ {vs : List V} {us : List Value} {zs : List V} {ws : List Value}, Vals vs us → Vals zs ws → Vals (gV vs zs) (g us ws)) : CalK P w K mg base k x ps ks gV q := by
  obtain ⟨f, fd, hm, ⟨hkp, o, lo, od⟩, hb, F⟩ := c.ex
  obtain ⟨f2, fd2, F2, hm2, bd2⟩ := h
  rw [hm] at hm2
  cases hm2
  obtain ⟨oc, od2, kV, doc, pm, an, cdv, ct, osl, e, lk, hcd⟩ := F2.ex
  rw [lo] at lk
  cases lk
  cases od
  subst e
  exact ⟨f, _, g, hm, hkp, ⟨fun s us ws _ hl => .of_eq (hk kV doc pm an cdv ct us ws hl), hr⟩, F⟩
theorem Cal.lift {P : Program} {w : World} {K : PySem.W.Frag} {mg : Str → Option Value} {base : Heap} {j k : Nat} {x : Str} {ps : List Str} {q : Sp} (c : Cal P w K mg base j x ps q) (h : j ≤ k) : Cal P w K mg base k x ps q := by
  obtain ⟨f, fd, hm, hk, hb, F⟩ := c.ex
  exact ⟨f, fd, hm, hk, hb, F.lift h⟩
end G

namespace G
/-! with K told -/
open PySem PySem.Spec PyProof.Rows L2
section
variable {X : Cx} (K : PySem.W.Frag)
theorem ixK (h : X.K = K := by rfl) : IxR X (rIxA K) := h ▸ ix_A
theorem addK (h : X.K = K := by rfl) : OpR X (binaryOp .Add) (rAddA K) := h ▸ op_addA
theorem eqK {k : Nat} (hr : Room k X.A) (h : X.K = K := by rfl) : OpR X (compareOp .Eq) (rEqD K) := h ▸ op_eqD hr.units
theorem neK {k : Nat} (hr : Room k X.A) (h : X.K = K := by rfl) : OpR X (compareOp .NotEq) (rNeD K) := h ▸ op_neD hr.units
theorem inK (h : X.K = K := by rfl) : OpR X (compareOp .In) (rIn K false) := h ▸ op_in_seq
theorem ninK (h : X.K = K := by rfl) : OpR X (compareOp .NotIn) (rIn K true) := h ▸ op_notIn_seq
theorem isiK (h : X.K = K := by rfl) : CallR X (.builtin "isinstance") (rIsi K) := h ▸ call_isi
abbrev rLenK (K : PySem.W.Frag) : List V → Hp → VK → Prop := fun xs H Q => ∃ p ys, xs = [.ref p] ∧ (SqL K H p ys ∨ SqT K H p ys) ∧ Q (.int ys.length) H
theorem lenK (h : X.K = K := by rfl) : CallR X (.builtin "len") (rLenK K) := h ▸ call_len_seq
theorem allK (hc : X.calm = true) (h : X.K = K := by rfl) : CallR X (.builtin "all") (rAll K) := h ▸ cr_all hc
theorem sumK (hc : X.calm = true) (h : X.K = K := by rfl) : CallR X (.builtin "sum") (rSum K) := h ▸ cr_sum hc
theorem reprK {k : Nat} (hg : X.A.guards = some []) (hr : Room k X.A) (h : X.K = K := by rfl) : CallR X (.builtin "repr") (rRepr K) := h ▸ call_repr hg hr
theorem listK (h : X.K = K := by rfl) : CallR X (.type "list") (rListOf K) := h ▸ callA_list
theorem slK (h : X.K = K := by rfl) : SlR X (rSlL K) := h ▸ sl_list
theorem pi_listK {tg e : Expr} {te : TE} (he : PE X e te) (h : X.K = K := by rfl) : PI X tg e (iList K te) := h ▸ pi_list he
theorem pi_tupK {tg e : Expr} {te : TE} (he : PE X e te) (h : X.K = K := by rfl) : PI X tg e (iTup K te) := h ▸ pi_tup he
theorem pi_zipK {e e2 : Expr} {ta : TA} {p pos tpos : Pos} {elts : List Expr} {kk : Nat} (hg : Gl X "zip") (hm : X.mg "zip" = none) (ha : PA X [e, e2] ta) (h : X.K = K := by rfl)
    (hs : starEach [e, e2] X.env = (false, eval e X.env) :: starEach [e2] X.env := by rfl) (hpl : (backTo pos (starEach [e2] X.env)).any (·.1) = false := by rfl) :
    PI X (.Tuple elts kk tpos) (.Call (.Name "zip" p) [e, e2] [] pos) (orI (RZ.iZipA K ta) (iZipM K ta)) := h ▸ pi_zipM hg hm ha hs hpl
theorem pi_revK {tg e : Expr} {te : TE} {p pos : Pos} (hg : Gl X "reversed") (hm : X.mg "reversed" = none) (he : PE X e te) (h : X.K = K := by rfl) (hs : starEach [e] X.env = (false, eval e X.env) :: starEach [] X.env := by rfl) :
    PI X tg (.Call (.Name "reversed" p) [e] [] pos) (RT.iRevA K te) := h ▸ RT.pi_revA hg hm he hs
theorem revK {e : Expr} {te : TE} {k : Nat} {p1 p2 p3 pos : Pos} (he : PE X e te) (h : X.K = K := by rfl) :
    PE X (.Subscript e (.Slice none none (some (.UnaryOp .USub (.Constant (.int 1) k p1) p2)) p3) pos) (tRevT K te) := h ▸ pe_revT he
theorem lenSetK {a : Expr} {ta : TE} {p p2 q pos : Pos} (hg : Gl X "len") (hm : X.mg "len" = none) (hg2 : Gl X "set") (hm2 : X.mg "set" = none) (ha : PE X a ta) (h : X.K = K := by rfl) (hc : X.calm = true := by rfl)
    (na : starEach [a] X.env = (false, eval a X.env) :: starEach [] X.env := by rfl) : PE X (.Call (.Name "len" p) [.Call (.Name "set" p2) [a] [] q] [] pos) (RZ.tLenSetI K ta) := h ▸ RZ.pe_lenSetI hg hm hg2 hm2 ha hc na
theorem indexK (h : X.K = K := by rfl) : MtR X "list.index" (rIndex K) := h ▸ mt_index
end
end G
end
section
set_option maxRecDepth 100000
set_option maxHeartbeats 2000000
/-! readings over data beside one list of three ints that is drawn from and written to -/
namespace G
open PySem PySem.Spec PyProof.Rows L2
/-- the list that is drawn from lies at g; c: a bound of its third int -/
def GenAt (H : Hp) (g : Addr) (c : Nat) : Prop := ∃ a b n : Int, H g = some (.lst [.int a, .int b, .int n]) ∧ 0 ≤ a ∧ a < 10 ^ 600 ∧ 0 ≤ b ∧ b < 2147483647 ∧ 0 ≤ n ∧ n ≤ c
theorem GenAt.le {H : Hp} {g : Addr} {c c' : Nat} (h : GenAt H g c) (l : c ≤ c') : GenAt H g c' := by
  obtain ⟨a, b, n, h1, h2, h3, h4, h5, h6, h7⟩ := h
  exact ⟨a, b, n, h1, h2, h3, h4, h5, h6, by omega⟩
theorem GenAt.same {H H' : Hp} {g : Addr} {c : Nat} (h : GenAt H g c) (s : Same H H') : GenAt H' g c := by
  obtain ⟨a, b, n, h1, r⟩ := h
  exact ⟨a, b, n, s _ _ h1, r⟩
theorem GenAt.ne {H : Hp} {g : Addr} {c : Nat} (h : GenAt H g c) : H g ≠ none := by
  obtain ⟨a, b, n, h1, _⟩ := h
  rw [h1]
  simp
structure Gg (g : Addr) (B H B' H' : Hp) : Prop where
  ex : ∀ a o, a ≠ g → H a = some o → H' a = some o
  bb : Same B B'
  sub : Same B' H'
  new : ∀ a o, B' a = some o → B a = none → H a = none
  off : B' g = none
section
variable {g : Addr} {B H B1 H1 B2 H2 : Hp} {c : Nat}
theorem Gg.refl (s : Same B H) (h : B g = none) : Gg g B H B H := ⟨fun _ _ _ e => e, Same.refl _, s, fun a o e n => (by rw [n] at e; cases e), h⟩
theorem Gg.of (k : Gr B H B1 H1) (h : B g = none) (n : H g ≠ none) : Gg g B H B1 H1 := by
  refine ⟨fun a o _ e => k.ex a o e, k.bb, k.sub, k.new, ?_⟩
  cases z : B1 g with
  | none => rfl
  | some o => exact absurd (k.new g o z h) n
theorem Gg.trans (k : Gg g B H B1 H1) (l : Gg g B1 H1 B2 H2) : Gg g B H B2 H2 := by
  refine ⟨fun a o n e => l.ex a o n (k.ex a o n e), k.bb.trans l.bb, l.sub, fun a o e n => ?_, l.off⟩
  cases q : B1 a with
  | none =>
    have z := l.new a o e q
    cases w : H a with
    | none => rfl
    | some u =>
      have ne : a ≠ g := fun x => by subst x; rw [l.off] at e; cases e
      rw [k.ex a u ne w] at z
      cases z
  | some u => exact k.new a u q n
end
/-- the names' data, and where the drawn list stands -/
structure EnvG (K : PySem.W.Frag) (B : Hp) (σ : L2.St) (ρ : Rho) (g : Addr) (i : Nat) : Prop where
  env : EnvOk K B σ ρ
  here : σ[i]? = some (some (.ref g))
  gone : B g = none
section
variable {K : PySem.W.Frag} {B B' : Hp} {σ : L2.St} {ρ : Rho} {g : Addr} {i : Nat}
theorem EnvG.to (h : EnvG K B σ ρ g i) {H H' : Hp} (k : Gg g B H B' H') : EnvG K B' σ ρ g i := ⟨h.env.mono k.bb, h.here, k.off⟩
theorem EnvG.set (h : EnvG K B σ ρ g i) {v : V} {d : PyData} (hv : Da K B v d) {j : Nat} (n : j ≠ i) : EnvG K B (σ.set j (some v)) (ρ.set j (some d)) g i :=
  ⟨h.env.set hv j, by rw [List.getElem?_set_ne n]; exact h.here, h.gone⟩
end
def Eg (K : PySem.W.Frag) (i : Nat) (te : TE) (ρ : Rho) (c : Nat) (P : PyData → Nat → Prop) : Prop := ∀ g σ B H, EnvG K B σ ρ g i → Same B H → GenAt H g c → ∀ Q : VK,
  (∀ v B' H' d c', Gg g B H B' H' → GenAt H' g c' → Da K B' v d → P d c' → Q v H') → te σ H Q
def El (K : PySem.W.Frag) (i : Nat) (ta : TA) (ρ : Rho) (c : Nat) (P : List PyData → Nat → Prop) : Prop := ∀ g σ B H, EnvG K B σ ρ g i → Same B H → GenAt H g c → ∀ Q : List V → Hp → Prop,
  (∀ vs B' H' ds c', Gg g B H B' H' → GenAt H' g c' → DaAll K B' vs ds → P ds c' → Q vs H') → ta σ H Q
/-- what a def promises whose first argument is the drawn list -/
def spG (K : PySem.W.Frag) (P : List PyData → Nat → (PyData → Nat → Prop) → Prop) : Sp := fun vs H Q _ => ∃ g us B ds c R, vs = .ref g :: us ∧ Same B H ∧ B g = none ∧ GenAt H g c ∧ DaAll K B us ds ∧ P ds c R ∧
  ∀ v B' H' d c', Gg g B H B' H' → GenAt H' g c' → Da K B' v d → R d c' → Q v H'
section
variable {K : PySem.W.Frag} {i : Nat} {ρ : Rho} {c : Nat} {te ta tb : TE} {tr : TA} {d : PyData} {P : PyData → Nat → Prop}
theorem eg_pure (h : Ev K te ρ d) (p : P d c) : Eg K i te ρ c P := fun g σ B H e s n Q q =>
  h σ B H e.env s Q fun v B' H' k hv => q v B' H' d c (.of k e.gone n.ne) (n.same k.ex) hv p
theorem Eg.imp {P' : PyData → Nat → Prop} (h : Eg K i te ρ c P) (k : ∀ d c', P d c' → P' d c') : Eg K i te ρ c P' := fun g σ B H e s n Q q =>
  h g σ B H e s n Q fun v B' H' d c' gg n' hv p => q v B' H' d c' gg n' hv (k d c' p)
theorem eg_op {r : R2} {P1 : PyData → Nat → Prop} {P2 : PyData → PyData → Nat → Prop} (ha : Eg K i ta ρ c P1) (hb : ∀ x c1, P1 x c1 → Eg K i tb ρ c1 (P2 x)) (hr : ∀ x y c1 c2, P1 x c1 → P2 x y c2 → ∃ z, Op2 K r x y z ∧ P z c2) : Eg K i (tOp r ta tb) ρ c P := fun g σ B H e s n Q q =>
  ha g σ B H e s n _ fun u B1 H1 x c1 g1 n1 hu p1 => hb x c1 p1 g σ B1 H1 (e.to g1) g1.sub n1 _ fun v B2 H2 y c2 g2 n2 hv p2 => by
    obtain ⟨z, ho, pz⟩ := hr x y c1 c2 p1 p2
    refine ho B2 H2 g2.sub u v (hu.mono g2.bb) hv Q fun w B3 H3 g3 hw => ?_
    have g12 := g1.trans g2
    exact q w B3 H3 z c2 (g12.trans (.of g3 g12.off n2.ne)) (n2.same g3.ex) hw pz
theorem el_n {P : List PyData → Nat → Prop} (p : P [] c) : El K i tNil ρ c P := fun g σ B H e s n Q q => q [] B H [] c (.refl s e.gone) n .nil p
theorem el_c {P1 : PyData → Nat → Prop} {P : List PyData → Nat → Prop} (ha : Eg K i ta ρ c P1) (hr : ∀ x c1, P1 x c1 → El K i tr ρ c1 fun ds c2 => P (x :: ds) c2) : El K i (tCons ta tr) ρ c P := fun g σ B H e s n Q q =>
  ha g σ B H e s n _ fun u B1 H1 x c1 g1 n1 hu p1 => hr x c1 p1 g σ B1 H1 (e.to g1) g1.sub n1 _ fun vs B2 H2 ds c2 g2 n2 hv p2 => q (u :: vs) B2 H2 (x :: ds) c2 (g1.trans g2) n2 (.cons (hu.mono g2.bb) hv) p2
theorem eg_lst {P1 : List PyData → Nat → Prop} (h : El K i tr ρ c P1) (hp : ∀ ds c', P1 ds c' → ds.length ≤ sizeLine ∧ P (.list ds) c') : Eg K i (tLst tr) ρ c P := fun g σ B H e s n Q q =>
  h g σ B H e s n _ fun vs B1 H1 ds c1 g1 n1 hv p1 => by
    obtain ⟨hl, p⟩ := hp ds c1 p1
    refine ⟨by rw [hv.len]; exact hl, fun a ha => ?_⟩
    have k := Gr.add g1.sub ha (.lst vs)
    exact q _ _ _ _ c1 (g1.trans (.of k g1.off n1.ne)) (n1.same k.ex) (.lst (.of upd_same) (hv.mono k.bb)) p
theorem eg_tup {P1 : List PyData → Nat → Prop} (h : El K i tr ρ c P1) (hp : ∀ ds c', P1 ds c' → ds.length ≤ sizeLine ∧ P (.tuple ds) c') : Eg K i (tTup tr) ρ c P := fun g σ B H e s n Q q =>
  h g σ B H e s n _ fun vs B1 H1 ds c1 g1 n1 hv p1 => by
    obtain ⟨hl, p⟩ := hp ds c1 p1
    refine ⟨by rw [hv.len]; exact hl, fun a ha => ?_⟩
    have k := Gr.add g1.sub ha (.tup vs)
    exact q _ _ _ _ c1 (g1.trans (.of k g1.off n1.ne)) (n1.same k.ex) (.tup (.of upd_same) (hv.mono k.bb)) p
theorem eg_call {F : List PyData → Nat → (PyData → Nat → Prop) → Prop} {E : XK} {ds : List PyData} {R : PyData → Nat → Prop} (h : EvL K tr ρ ds) (hf : F ds c R) (hp : ∀ d c', R d c' → P d c') : Eg K i (tCall (spG K F) [] E (tCons (tVar i) tr)) ρ c P := fun g σ B H e s n Q q =>
  ⟨.ref g, e.here, h σ B H e.env s _ fun vs B1 H1 k hv => by
    have g1 : Gg g B H B1 H1 := .of k e.gone n.ne
    exact ⟨g, vs, B1, ds, c, R, by rw [List.append_nil], g1.sub, g1.off, n.same k.ex, hv, hf, fun v B2 H2 d c2 g2 n2 h2 r => q v B2 H2 d c2 (g1.trans g2) n2 h2 (hp d c2 r)⟩⟩
/-- the rest of the arguments drawn, too -/
theorem eg_cb {r : List V → Hp → VK → Prop} {P1 : List PyData → Nat → Prop} (h : El K i tr ρ c P1) (hp : ∀ ds c', P1 ds c' → ∃ z, Fn K r ds z ∧ P z c') : Eg K i (tCB r tr) ρ c P := fun g σ B H e s n Q q =>
  h g σ B H e s n _ fun vs B1 H1 ds c1 g1 n1 hv p1 => by
    obtain ⟨z, hf, p⟩ := hp ds c1 p1
    exact hf B1 H1 g1.sub vs hv Q fun w B2 H2 g2 hw => q w B2 H2 z c1 (g1.trans (.of g2 g1.off n1.ne)) (n1.same g2.ex) hw p
theorem if_true_go {A C : Prop} (h : A) : if true = true then A else C := by rw [if_pos rfl]; exact h
theorem wipe_at (σ : L2.St) {i : Nat} : ∀ {vs : List Nat}, i ∉ vs → (wipe σ vs)[i]? = σ[i]?
  | [], _ => rfl
  | v :: vs, h => by
    show ((wipe σ vs).set v none)[i]? = _
    rw [List.getElem?_set_ne (fun e => h (by rw [e]; exact List.mem_cons_self ..))]
    exact wipe_at σ fun q => h (List.mem_cons_of_mem _ q)
/-- a comprehension whose elements draw; J: what is made so far, the bound -/
theorem eg_lc {wi : TI} {tg : TG} {vs : List Nat} {es : List PyData} (h : Iter K wi ρ es) (hz : es.length ≤ 1000000) (hi : i ∉ vs) (J : Nat → List PyData → Nat → Prop) (h0 : J 0 [] c)
    (hs : ∀ k e out c1, es[k]? = some e → J k out c1 → ∃ ρ1, TgW K tg vs e ρ ρ1 ∧ Eg K i te ρ1 c1 fun d c2 => J (k + 1) (out ++ [d]) c2)
    (hd : ∀ out c', J es.length out c' → out.length = es.length → P (.list out) c') : Eg K i (tLc wi tg tYes te vs) ρ c P := fun g σ B H e s n Q q =>
  h σ B H e.env s _ fun It0 B1 H1 k1 w => fun Dl hD => by
    have g1 : Gg g B H B1 H1 := .of k1 e.gone n.ne
    have n1 : GenAt H1 g c := n.same k1.ex
    have gD : g ≠ Dl := fun x => n1.ne (x ▸ hD)
    refine lc_it w (fun k H' => ∃ B' xs out c', Gg g B1 H1 B' H' ∧ B' Dl = none ∧ H' Dl = some (.lst xs) ∧ DaAll K B' xs out ∧ GenAt H' g c' ∧ J k out c' ∧ out.length = k) ?_ (fun k H' _ ⟨B', _, _, _, g2, _⟩ => g2.bb.trans g2.sub) ?_ ?_
    · have sd := Gr.side g1.sub hD (.lst [])
      exact ⟨B1, [], [], c, .of sd g1.off n1.ne, g1.sub.free hD, upd_same, .nil, n1.same sd.ex, h0, rfl⟩
    · rintro k x H' H2 hk ⟨B', xs, out, c1, g2, hB, hH, ha, n2, hJ, hl⟩ y
      obtain ⟨B2, el, g3, hel, hx⟩ := y B' g2.bb g2.sub
      obtain ⟨ρ1, ht, hv⟩ := hs k el out c1 hel hJ
      have G3 : Gg g B' H' B2 H2 := .of g3 g2.off n2.ne
      have n3 := n2.same g3.ex
      have hB2 : B2 Dl = none := by
        cases z : B2 Dl with
        | none => rfl
        | some o => exact absurd (g3.new Dl o z hB) (by rw [hH]; simp)
      have hH2 : H2 Dl = some (.lst xs) := g3.ex _ _ hH
      have g23 := g2.trans G3
      refine ht σ B2 H2 x (e.env.mono (g1.bb.trans g23.bb)) G3.sub hx _ fun σ2 e3 hwp => ?_
      refine ⟨hwp, ?_⟩
      dsimp only [tYes]
      rw [if_pos rfl]
      have eg : EnvG K B2 σ2 ρ1 g i := ⟨e3, by rw [← wipe_at σ2 hi, hwp, wipe_at σ hi]; exact e.here, G3.off⟩
      refine hv g σ2 B2 H2 eg G3.sub n3 _ fun u B4 H4 d c4 g4 n4 hu hJ4 => ?_
      have hB4 : B4 Dl = none := by
        cases z : B4 Dl with
        | none => rfl
        | some o => exact absurd (g4.new Dl o z hB2) (by rw [hH2]; simp)
      have hH4 : H4 Dl = some (.lst xs) := g4.ex _ _ (Ne.symm gD) hH2
      have gg := g23.trans g4
      have hk' : k < es.length := hk
      refine ⟨xs, hH4, by have := ha.len; rw [sizeLine_eq]; omega, B4, xs ++ [u], out ++ [d], c4, ⟨fun b o nb z => ?_, gg.bb, fun b o z => ?_, gg.new, gg.off⟩, hB4, upd_same, (ha.mono (G3.bb.trans g4.bb)).app (.cons hu .nil), ?_, hJ4, by rw [List.length_append, hl]; rfl⟩
      · rw [upd_ne (ne_of_none z hD)]
        exact gg.ex b o nb z
      · rw [upd_ne (ne_of_none z hB4)]
        exact gg.sub b o z
      · obtain ⟨a, b, m, h1, r⟩ := n4
        exact ⟨a, b, m, by rw [upd_ne gD]; exact h1, r⟩
    · rintro H' ⟨B', xs, out, c', g2, hB, hH, ha, n2, hJ, hl⟩
      refine q _ (upd B' Dl (.lst xs)) H' (.list out) c' (g1.trans ⟨g2.ex, g2.bb.trans (same_new hB), fun b o z => ?_, fun b o z m => ?_, by rw [upd_ne gD]; exact g2.off⟩) n2 (.lst (.of upd_same) (ha.mono (same_new hB))) (hd out c' hJ hl)
      · by_cases x : b = Dl
        · subst x
          rw [upd_same] at z
          rw [hH]
          exact z
        · rw [upd_ne x] at z
          exact g2.sub b o z
      · by_cases x : b = Dl
        · subst x
          exact hD
        · rw [upd_ne x] at z
          exact g2.new b o z m
end
/-! statements -/
def Dg (K : PySem.W.Frag) (i : Nat) (ts : TS) (ρ : Rho) (c : Nat) (N : Rho → Nat → Prop) (R : PyData → Nat → Prop) : Prop := ∀ g σ B H (D : Ends), EnvG K B σ ρ g i → Same B H → GenAt H g c →
  (∀ σ' B' H' ρ' c', Gg g B H B' H' → EnvG K B' σ' ρ' g i → GenAt H' g c' → N ρ' c' → D.nx σ' H') → (∀ v B' H' d c', Gg g B H B' H' → GenAt H' g c' → Da K B' v d → R d c' → D.rt v H') → ts D σ H
section
variable {K : PySem.W.Frag} {i : Nat} {ρ : Rho} {c : Nat} {N M : Rho → Nat → Prop} {R : PyData → Nat → Prop} {te : TE} {t u : TS} {tt : TT} {d : PyData} {P : PyData → Nat → Prop}
theorem dg_next (h : N ρ c) : Dg K i tNext ρ c N R := fun g σ B H D e s n nx _ => nx σ B H ρ c (.refl s e.gone) e n h
theorem dg_seq (h : Dg K i t ρ c M R) (k : ∀ ρ' c', M ρ' c' → Dg K i u ρ' c' N R) : Dg K i (tSeq t u) ρ c N R := fun g σ B H D e s n nx r =>
  h g σ B H _ e s n (fun σ' B' H' ρ' c' g1 e' n' m => k ρ' c' m g σ' B' H' D e' g1.sub n' (fun σ2 B2 H2 ρ2 c2 g2 => nx σ2 B2 H2 ρ2 c2 (g1.trans g2)) fun v B2 H2 d c2 g2 => r v B2 H2 d c2 (g1.trans g2)) r
theorem dg_ret (h : Eg K i te ρ c R) : Dg K i (tRet te) ρ c N R := fun g σ B H D e s n _ r => h g σ B H e s n _ fun v B' H' d c' gg n' hv p => r v B' H' d c' gg n' hv p
theorem dg_set {j : Nat} (h : Eg K i te ρ c P) (hj : j ≠ i) (k : ∀ d c', P d c' → N (ρ.set j (some d)) c') : Dg K i (tAsg te (gName j)) ρ c N R := fun g σ B H D e s n nx _ =>
  h g σ B H e s n _ fun v B' H' d c' gg n' hv p => nx _ B' H' _ c' gg ((e.to gg).set hv hj) n' (k d c' p)
theorem dg_par {j l : Nat} {ta : TA} {P : List PyData → Nat → Prop} (h : El K i ta ρ c P) (hj : j ≠ i) (hl : l ≠ i) (k : ∀ ds c', P ds c' → ∃ x y, ds = [x, y] ∧ N ((ρ.set j (some x)).set l (some y)) c') : Dg K i (tPar j l ta) ρ c N R := fun g σ B H D e s n nx _ =>
  h g σ B H e s n _ fun vs B' H' ds c' gg n' hv p => by
    obtain ⟨x, y, rfl, hn⟩ := k ds c' p
    cases hv with
    | cons h1 r =>
      cases r with
      | cons h2 r =>
        cases r
        exact ⟨_, _, rfl, nx _ B' H' _ c' gg (((e.to gg).set h1 hj).set h2 hl) n' hn⟩
theorem dg_if {b : Bool} (h : EvB K tt ρ b) (h1 : b = true → Dg K i t ρ c N R) (h2 : b = false → Dg K i u ρ c N R) : Dg K i (tIfS tt t u) ρ c N R := fun g σ B H D e s n nx r =>
  h σ B H e.env s _ fun B1 H1 k => by
    have g1 : Gg g B H B1 H1 := .of k e.gone n.ne
    have n1 := n.same k.ex
    cases b with
    | true => exact iteT (h1 rfl g σ B1 H1 D (e.to g1) g1.sub n1 (fun σ2 B2 H2 ρ2 c2 g2 => nx σ2 B2 H2 ρ2 c2 (g1.trans g2)) fun v B2 H2 d c2 g2 => r v B2 H2 d c2 (g1.trans g2))
    | false => exact iteF (h2 rfl g σ B1 H1 D (e.to g1) g1.sub n1 (fun σ2 B2 H2 ρ2 c2 g2 => nx σ2 B2 H2 ρ2 c2 (g1.trans g2)) fun v B2 H2 d c2 g2 => r v B2 H2 d c2 (g1.trans g2))
/-- for: what is walked does not draw -/
theorem dg_for {wi : TI} {j : Nat} {es : List PyData} (h : Iter K wi ρ es) (hj : j ≠ i) (I : Nat → Rho → Nat → Prop) (h0 : I 0 ρ c)
    (hs : ∀ k e ρ' c', es[k]? = some e → I k ρ' c' → Dg K i t (ρ'.set j (some e)) c' (I (k + 1)) R) (hd : ∀ ρ' c', I es.length ρ' c' → N ρ' c') : Dg K i (tFor wi (gName j) t) ρ c N R := fun g σ B H D e s n nx r =>
  h σ B H e.env s _ fun J B1 H1 k1 w => by
    have g1 : Gg g B H B1 H1 := .of k1 e.gone n.ne
    refine for_it w (fun k σ' H' => ∃ B' ρ' c', Gg g B1 H1 B' H' ∧ EnvG K B' σ' ρ' g i ∧ GenAt H' g c' ∧ I k ρ' c') ⟨B1, ρ, c, .refl g1.sub g1.off, e.to g1, n.same k1.ex, h0⟩ (fun k σ' H' _ ⟨B', _, _, g2, _⟩ => g2.bb.trans g2.sub) ?_ ?_
    · rintro k x σ' H' H2 hi ⟨B', ρ', c', g2, e2, n2, p⟩ y
      obtain ⟨B2, el, g3, hel, hx⟩ := y B' g2.bb g2.sub
      have G3 : Gg g B' H' B2 H2 := .of g3 e2.gone n2.ne
      have g23 := g2.trans G3
      exact hs k el ρ' c' hel p g _ B2 H2 _ ((e2.to G3).set hx hj) G3.sub (n2.same g3.ex) (fun σ4 B4 H4 ρ4 c4 g4 e4 n4 p4 => ⟨B4, ρ4, c4, g23.trans g4, e4, n4, p4⟩) fun v B4 H4 d c4 g4 n4 hv hr => r v B4 H4 d c4 (g1.trans (g23.trans g4)) n4 hv hr
    · rintro σ' H' ⟨B', ρ', c', g2, e2, n2, p⟩
      exact nx σ' B' H' ρ' c' (g1.trans g2) e2 n2 (hd ρ' c' p)
end
/-! a def whose first argument is drawn from -/
section
variable {P : Program} {w : World} {K : PySem.W.Frag} {mg : Str → Option Value} {base : Heap}
theorem has_g {x : Str} {st : Stmt} {N ps : List Str} {k m : Nat} {p : List PyData → Nat → (PyData → Nat → Prop) → Prop} (h : Has K mg x st ps) (S : FnScope N ps (defScope st)) (hm : ps.length = m + 1)
    (ar : ∀ ds c R, p ds c R → ds.length = m)
    (hb : ∀ (f : Addr) (cdv : Value) (A : Around) (outer : List Env) (s : Shared) (H : Hp) (E : XK), A.guards = some [] → Room k (A.deeper (envOfC x (defScope st) s.heap.objs.size f cdv)) →
      ∃ t, PSs (bodyCx CX0 P w K mg base N x st f cdv A outer s H E).nox (defBody st) t ∧ ∀ ds c R, p ds c R → Dg K 0 t (none :: startR N.tail ds) c (fun _ c' => R .none c') R) (hN : N ≠ []) : Cal P w K mg base (k + 1) x ps (spG K p) := by
  obtain ⟨f, fd, F, hmg, bd⟩ := h
  refine ⟨f, fd, hmg, kq_of F, bd, fn_g0 F S (fun vs H Q E h => ?_) fun cdv A outer s H vs Q E hg hr h => ?_⟩
  · obtain ⟨g, us, B, ds, c, R, rfl, _, _, _, a, hp, _⟩ := h
    rw [hm, List.length_cons, a.len, ar ds c R hp]
  · obtain ⟨g, us, B, ds, c, R, rfl, hs, hgn, n, a, hp, q⟩ := h
    obtain ⟨t, ht, hd⟩ := hb f cdv A outer s H E hg hr
    obtain ⟨x0, N', rfl⟩ : ∃ x N', N = x :: N' := by
      cases N with
      | nil => exact absurd rfl hN
      | cons x N' => exact ⟨x, N', rfl⟩
    have e0 := env_start (N := N') a
    have st0 : L2.start (x0 :: N') (.ref g :: us) = some (.ref g) :: L2.start N' us := by
      unfold L2.start
      simp
    refine ⟨t, ht, ?_⟩
    rw [st0]
    refine hd ds c R hp g _ B H _ ⟨⟨by simp [e0.len], fun j d hj => ?_⟩, rfl, hgn⟩ hs n (fun σ' B' H' ρ' c' gg e n' r => q .non B' H' .none c' gg n' .non r) fun v B' H' d c' gg n' hv r => q v B' H' d c' gg n' hv r
    cases j with
    | zero => simp at hj
    | succ j => exact e0.look j d (by simpa using hj)
end
end G
end
section
set_option maxRecDepth 100000
set_option maxHeartbeats 2000000
/-! plain data: ints, truths, None, lists and tuples of them -/
namespace G
open PySem PySem.Spec PyProof.Rows L2
mutual
def pl : PyData → Bool
  | .none => true
  | .bool _ => true
  | .int i => decide (i.natAbs < 10 ^ 12)
  | .list xs => plAll xs
  | .tuple xs => plAll xs
  | .str _ => false
  | .dict _ => false
def plAll : List PyData → Bool
  | [] => true
  | x :: xs => pl x && plAll xs
end
mutual
theorem pl_facts : ∀ d : PyData, pl d = true → d.canLay0 = true ∧ d.leavesShort 13 = true ∧ d.showable = true ∧ PyData.eqv d d = true
  | .none, _ => ⟨rfl, rfl, rfl, rfl⟩
  | .bool b, _ => ⟨rfl, rfl, rfl, by simp [PyData.eqv]⟩
  | .int i, h => by
    have h' : i.natAbs < 10 ^ 12 := by simpa [pl] using h
    refine ⟨rfl, ?_, ?_, by simp [PyData.eqv]⟩
    · rw [PyData.leavesShort]
      exact decide_eq_true (PyData.shown_int_le h')
    · rw [PyData.showable]
      refine decide_eq_true ?_
      by_cases z : i.natAbs = 0
      · rw [z]; decide
      · exact Nat.lt_of_lt_of_le ((Nat.log2_lt (k := 40) z).mpr (by omega)) (by decide)
  | .list xs, h => by
    obtain ⟨a, b, c, d⟩ := pl_factsAll xs (by simpa [pl] using h)
    exact ⟨by rw [PyData.canLay0]; exact a, by rw [PyData.leavesShort]; exact b, by rw [PyData.showable]; exact c, by rw [PyData.eqv]; exact d⟩
  | .tuple xs, h => by
    obtain ⟨a, b, c, d⟩ := pl_factsAll xs (by simpa [pl] using h)
    exact ⟨by rw [PyData.canLay0]; exact a, by rw [PyData.leavesShort]; exact b, by rw [PyData.showable]; exact c, by rw [PyData.eqv]; exact d⟩
  | .str _, h => by simp [pl] at h
  | .dict _, h => by simp [pl] at h
theorem pl_factsAll : ∀ ds : List PyData, plAll ds = true → PyData.canLayAll0 ds = true ∧ PyData.leavesShortAll 13 ds = true ∧ PyData.showableAll ds = true ∧ PyData.eqvAll ds ds = true
  | [], _ => ⟨by simp [PyData.canLayAll0], by simp [PyData.leavesShortAll], by simp [PyData.showableAll], by simp [PyData.eqvAll]⟩
  | x :: xs, h => by
    have h' : pl x = true ∧ plAll xs = true := by simpa [plAll] using h
    obtain ⟨a1, b1, c1, d1⟩ := pl_facts x h'.1
    obtain ⟨a2, b2, c2, d2⟩ := pl_factsAll xs h'.2
    exact ⟨by rw [PyData.canLayAll0, a1, a2]; rfl, by rw [PyData.leavesShortAll, b1, b2]; rfl, by rw [PyData.showableAll, c1, c2]; rfl, by rw [PyData.eqvAll, d1, d2]; rfl⟩
end
theorem plAll_iff : ∀ {ds : List PyData}, (∀ d ∈ ds, pl d = true) → plAll ds = true
  | [], _ => by simp [plAll]
  | d :: ds, h => by
    rw [plAll, h d (List.mem_cons_self ..), plAll_iff fun x hx => h x (List.mem_cons_of_mem _ hx)]
    rfl
theorem pl_int {i : Int} (h : i.natAbs < 10 ^ 12) : pl (.int i) = true := by rw [pl]; exact decide_eq_true h
theorem pl_list {ds : List PyData} (h : ∀ d ∈ ds, pl d = true) : pl (.list ds) = true := by rw [pl]; exact plAll_iff h
theorem pl_tuple {ds : List PyData} (h : ∀ d ∈ ds, pl d = true) : pl (.tuple ds) = true := by rw [pl]; exact plAll_iff h
theorem pl_ints {ns : List Int} (h : ∀ n ∈ ns, n.natAbs < 10 ^ 12) : ∀ d ∈ ns.map PyData.int, pl d = true := fun d hd => by
  obtain ⟨n, hn, rfl⟩ := List.mem_map.mp hd
  exact pl_int (h n hn)
/-- depth and bulk, bounded over all items -/
theorem depth_all {ds : List PyData} {k : Nat} (h : ∀ d ∈ ds, d.depth ≤ k) : PyData.depthAll ds ≤ k := by
  induction ds with
  | nil => rw [PyData.depthAll]; omega
  | cons d ds ih =>
    rw [PyData.depthAll]
    have a := h d (List.mem_cons_self ..)
    have b := ih fun x hx => h x (List.mem_cons_of_mem _ hx)
    omega
theorem depth_list {ds : List PyData} {k : Nat} (h : ∀ d ∈ ds, d.depth ≤ k) : (PyData.list ds).depth ≤ k + 1 := by
  rw [PyData.depth]
  have := depth_all h
  omega
theorem depth_tuple {ds : List PyData} {k : Nat} (h : ∀ d ∈ ds, d.depth ≤ k) : (PyData.tuple ds).depth ≤ k + 1 := by
  rw [PyData.depth]
  have := depth_all h
  omega
theorem depth_int (i : Int) : (PyData.int i).depth = 0 := by rw [PyData.depth]
theorem depth_ints (ns : List Int) : ∀ d ∈ ns.map PyData.int, d.depth ≤ 0 := fun d hd => by
  obtain ⟨n, _, rfl⟩ := List.mem_map.mp hd
  rw [depth_int]
  exact Nat.le_refl 0
theorem bulk_all {ds : List PyData} {k : Nat} (h : ∀ d ∈ ds, d.bulk ≤ k) : PyData.bulkAll ds ≤ ds.length * (k + 1) := by
  induction ds with
  | nil => rw [PyData.bulkAll]; omega
  | cons d ds ih =>
    rw [PyData.bulkAll]
    have a := h d (List.mem_cons_self ..)
    have b := ih fun x hx => h x (List.mem_cons_of_mem _ hx)
    rw [List.length_cons, Nat.add_mul]
    omega
theorem bulk_int (i : Int) : (PyData.int i).bulk = 0 := by rw [PyData.bulk] <;> simp
theorem bulk_ints (ns : List Int) : ∀ d ∈ ns.map PyData.int, d.bulk ≤ 0 := fun d hd => by
  obtain ⟨n, _, rfl⟩ := List.mem_map.mp hd
  rw [bulk_int]
  exact Nat.le_refl 0
theorem bulk_list {ds : List PyData} {k : Nat} (h : ∀ d ∈ ds, d.bulk ≤ k) : (PyData.list ds).bulk ≤ ds.length * (k + 1) := by
  rw [PyData.bulk]
  exact bulk_all h
theorem bulk_tuple {ds : List PyData} {k : Nat} (h : ∀ d ∈ ds, d.bulk ≤ k) : (PyData.tuple ds).bulk ≤ ds.length * (k + 1) := by
  rw [PyData.bulk]
  exact bulk_all h
/-- what is plain and of bounded depth and bulk -/
structure Pl (d : PyData) : Prop where
  p : pl d = true
  dep : d.depth ≤ 64
  blk : d.bulk ≤ 1000000
theorem Pl.shaped {d : PyData} (h : Pl d) : SeqAt.shaped d = true := by
  unfold SeqAt.shaped
  rw [(pl_facts d h.p).1, decide_eq_true h.dep]
  rfl
theorem Pl.refl {d : PyData} (h : Pl d) : PyData.eqv d d = true := (pl_facts d h.p).2.2.2
theorem Pl.len {d : PyData} (h : Pl d) : d.shown.length ≤ sizeLine := by
  have q := PyData.shown_le_bulk 13 (by decide) d (pl_facts d h.p).2.1
  have := h.blk
  rw [sizeLine_eq]
  omega
theorem Pl.repr {K : PySem.W.Frag} {d : PyData} (h : Pl d) : Fn K (rRepr K) [d] (.str d.shown) :=
  fn_repr (pl_facts d h.p).2.2.1 (PyData.hasDict_of_canLay d (pl_facts d h.p).1) (by have := h.dep; omega) h.len
theorem Pl.int {i : Int} (h : i.natAbs < 10 ^ 12) : Pl (.int i) := ⟨pl_int h, by rw [depth_int]; omega, by rw [bulk_int]; omega⟩
theorem Pl.ints {ns : List Int} (h : ∀ n ∈ ns, n.natAbs < 10 ^ 12) (hl : ns.length ≤ 100000) : Pl (.list (ns.map .int)) :=
  ⟨pl_list (pl_ints h), by have := depth_list (depth_ints ns); omega, by have := bulk_list (bulk_ints ns); rw [List.length_map] at this; omega⟩
/-! repr(a) != repr(b), a == b -/
section
variable {X : Cx} (K : PySem.W.Frag)
abbrev rNeR (K : PySem.W.Frag) : R2 := orR (rNeD K) rNe
abbrev rEqR (K : PySem.W.Frag) : R2 := orR (rEqD K) rEq
theorem neRK {k : Nat} (hr : Room k X.A) (h : X.K = K := by rfl) : OpR X (compareOp .NotEq) (rNeR K) := opr_or (neK K hr h) op_ne
theorem eqRK {k : Nat} (hr : Room k X.A) (h : X.K = K := by rfl) : OpR X (compareOp .Eq) (rEqR K) := opr_or (eqK K hr h) op_eq
end
theorem ne_self {K : PySem.W.Frag} {d : PyData} (h : Pl d) : Op2 K (rNeD K) d d (.bool false) := opp_neD h.shaped h.shaped (by rw [h.refl]; rfl)
theorem eq_self {K : PySem.W.Frag} {d : PyData} (h : Pl d) : Op2 K (rEqD K) d d (.bool true) := opp_eqD h.shaped h.shaped (by rw [h.refl])
theorem neS_self {K : PySem.W.Frag} {c : Str} : Op2 K (rNeR K) (.str c) (.str c) (.bool false) := opp_2 (opp_neS (by simp))
theorem eqS_self {K : PySem.W.Frag} {c : Str} : Op2 K (rEqR K) (.str c) (.str c) (.bool true) := opp_2 (opp_eqS (by simp))
end G
end
section
set_option maxRecDepth 100000
set_option maxHeartbeats 2000000
namespace G
open PySem PySem.Spec PyProof.Rows L2
theorem walk_gE {l : PySem.W.OpenLaw} {n k : Nat} {q : Program} {loose : List Str} {XP : (Str → Option Value) → Heap → Prop} {YP : World → Heap → Prop} {d : DefRec} {x : Str}
    (hn : l.most = some n) (hn2 : n ≤ sizeLine) (hdf : d.params.defaults = []) (hr : Room k callerA)
    (F : ∀ (w : World) (mg : Str → Option Value) (fa : Addr) (h : Heap), YP w h → h.Ns mainGlobals mg → mg d.name = some (.ref fa) →
      ∃ (K : PySem.W.Frag) (fd : FuncData) (sp : Sp), K.In h ∧ (∀ (s : Shared) (u : Value), BindsTo s fd ⟨[u], []⟩ [(x, u)]) ∧
        (∀ (H : Hp) (a : Addr) (ns : List Int), ns.length ≤ n → Only H → SqL K H a (ns.map V.int) → sp [.ref a] H (fun v _ => v = .bl true) fun _ _ _ => False) ∧
        ∀ base : Heap, K.In base → base.Ns mainGlobals mg → FnG l.prog w K mg base CX0 k fa fd [x] sp) :
    PySem.W.WalkO q loose XP YP l.row.toRowW d [] (fun f vs => PySem.call f vs) := by
  refine Att.attach_call hn hdf fun w s0 s1 mg mb fa o pm cd doc a vs ns G Y ho hd hcd hmg hobj hints hlen hg => ?_
  obtain ⟨K, fd, sp, KX, hb, hsp, hF⟩ := F w mg fa _ Y G.T.g hmg
  exact law_g KX G.T.g G.T.b G.T.builtins G.T.nolimit hg hobj hints (Nat.le_trans hlen hn2) hr hF hb (fun H hO hS => hsp H a ns hlen hO hS) fun _ _ _ z => z
theorem fun_of {K : PySem.W.Frag} {x : Str} {st : Stmt} {f : Addr} {fd : FuncData} (F : FunD K x x (defArgs st) (defBody st) (defScope st) [] [] f fd) : Fun K x x st f fd := by
  obtain ⟨oc, od, dV, kV, doc, pm, an, cdv, ct, osl, e, lk, hcd, hD, _⟩ := F.ex
  rcases hD with ⟨_, rfl⟩ | ⟨z, _⟩
  · exact ⟨⟨oc, od, kV, doc, pm, an, cdv, ct, osl, e, lk, hcd⟩, F.kp⟩
  · exact absurd rfl z
theorem has_of {K : PySem.W.Frag} {mg : Str → Option Value} {x : Str} {st : Stmt} {ps : List Str} {f : Addr} (F : ∃ fd, FunD K x x (defArgs st) (defBody st) (defScope st) [] [] f fd) (hm : mg x = some (.ref f))
    (h : ∀ (kV doc pm : Value) (an : Option Addr) (cdv ct : Value) (us : List Value), us.length = ps.length → bindArgs (PySem.W.fnOf x x (defArgs st) (defBody st) (defScope st) .none kV doc pm an cdv ct) ⟨us, []⟩ = pure (ps.zip us)) : Has K mg x st ps := by
  obtain ⟨fd, F⟩ := F
  exact ⟨f, fd, fun_of F, hm, F.bindsN h⟩
/-- the law's own def -/
theorem law_end {P : Program} {w : World} {K : PySem.W.Frag} {mg : Str → Option Value} {x y : Str} {st : Stmt} {f : Addr} {k : Nat} {q : Sp} (F : ∃ fd, FunD K x x (defArgs st) (defBody st) (defScope st) [] [] f fd) (hm : mg x = some (.ref f))
    (h : ∀ (kV doc pm : Value) (an : Option Addr) (cdv ct : Value) (us : List Value), us.length = [y].length → bindArgs (PySem.W.fnOf x x (defArgs st) (defBody st) (defScope st) .none kV doc pm an cdv ct) ⟨us, []⟩ = pure ([y].zip us))
    (c : ∀ base : Heap, K.In base → base.Ns mainGlobals mg → Cal P w K mg base k x [y] q) :
    ∃ fd : FuncData, (∀ (s : Shared) (v : Value), BindsTo s fd ⟨[v], []⟩ [(y, v)]) ∧ ∀ base : Heap, K.In base → base.Ns mainGlobals mg → FnG P w K mg base CX0 k f fd [y] q := by
  obtain ⟨fd, F⟩ := F
  refine ⟨fd, fun s v => F.bindsA (ps := [y]) h s [v] rfl, fun base hb hn => ?_⟩
  obtain ⟨f2, fd2, hm2, ⟨_, o, lo, od⟩, _, FG⟩ := (c base hb hn).ex
  rw [hm] at hm2
  cases hm2
  obtain ⟨oc, od2, dV, kV, doc, pm, an, cdv, ct, osl, e, lk, _⟩ := F.ex
  rw [lo] at lk
  cases lk
  cases od
  exact FG
end G
end
section
set_option maxRecDepth 100000
set_option maxHeartbeats 2000000
namespace G
open PySem PySem.Spec PyProof.Rows L2
section
variable {P : Program} {w : World} {K : PySem.W.Frag} {mg : Str → Option Value} {base : Heap} {j k : Nat} {x : Str} {ps : List Str} {q : Sp}
/-- what is never called -/
theorem Cal.void {st : Stmt} (h : Has K mg x st ps) : Cal P w K mg base 0 x ps (fun _ _ _ _ => False) := by
  obtain ⟨f, fd, F, hm, bd⟩ := h
  exact ⟨f, fd, hm, kq_of F, bd, ⟨fun _ _ _ _ z => z.elim, fun _ _ _ _ _ _ _ _ _ _ _ _ _ _ z => z.elim⟩⟩
end
end G
end
section
set_option maxRecDepth 100000
set_option maxHeartbeats 2000000
/-! the head's facts, and one Bool more; globals that are tuples -/
namespace He
open PySem PySem.Spec PyProof.Rows L2
def kOf (n : Nat) (g : Addr → Option Obj) : PySem.W.Frag := frG g (sysModules :: asD g n)
structure SaysM (fa : List Fa) (fn : List DefD) (ex : PySem.W.Frag → Bool) (K : PySem.W.Frag) : Prop where
  d : SaysD fa fn K
  more : ex K = true
abbrev AlM : Type := AlD × Bool
def obsM (n : Nat) (fa : List Fa) (fn : List DefD) (ex : PySem.W.Frag → Bool) (g : Addr → Option Obj) : AlM := (obsD fa fn (kOf n g), ex (kOf n g))
def valM (fn : List DefD) : AlM := (valD fn, true)
theorem saysM_of {n : Nat} {fa : List Fa} {fn : List DefD} {ex : PySem.W.Frag → Bool} {g : Addr → Option Obj} (e : obsM n fa fn ex g = valM fn) : SaysM fa fn ex (kOf n g) :=
  ⟨congrArg (fun z : AlM => z.1) e, congrArg (fun z : AlM => z.2) e⟩
def hookM (n : Nat) (fa : List Fa) (fn : List DefD) (ex : PySem.W.Frag → Bool) : PySem.W.Hook where
  α := AlM
  obs := fun s => obsM n fa fn ex s.heap.get?
  val := fun _ => valM fn
  says := fun _ h => ∃ K : PySem.W.Frag, K.In h ∧ SaysM fa fn ex K
  of := fun _ _ e => ⟨_, frG_in, saysM_of e⟩
  keeps := fun _ _ _ ⟨K, hK, c⟩ k => ⟨K, PySem.W.Frag.In.keeps hK k, c⟩
theorem obsM_eq {n : Nat} {fa : List Fa} {fn : List DefD} {ex : PySem.W.Frag → Bool} {g : Addr → Option Obj} {s : Shared} (h : ∀ a, g a = s.heap.get? a) : obsM n fa fn ex g = (hookM n fa fn ex).obs s := by
  have e : g = s.heap.get? := funext h
  rw [e] <;> rfl
end He
namespace G
open PySem PySem.Spec PyProof.Rows L2
/-- a global that is a tuple of the top's -/
structure GTup (mg : Str → Option Value) (K : PySem.W.Frag) (x : Str) (vs : List V) : Prop where
  ex : ∃ a, mg x = some (.ref a) ∧ ∀ H : Hp, SqT K H a vs
theorem gtup_of {mg : Str → Option Value} {K : PySem.W.Frag} {x : Str} {vs : List He.Dv} (hm : mg x = some (.ref (He.ga K x))) (h : He.tupB K x vs = true) : GTup mg K x (vs.map (He.Dv.v K)) := ⟨⟨_, hm, fun H => He.tupB_ok h H⟩⟩
def tGT (K : PySem.W.Frag) (vs : List V) : TE := fun _ H Q => ∀ a, (∀ H' : Hp, SqT K H' a vs) → Q (.ref a) H
theorem pe_gtup {X : Cx} {x : Str} {vs : List V} {pos : Pos} (hg : Gl X x) (g : GTup X.mg X.K x vs) (hdb : (x == ("__debug__" : Str)) = false := by decide) : PE X (.Name x pos) (tGT X.K vs) := by
  obtain ⟨a, hm, hs⟩ := g.ex
  exact ⟨fun pins s σ H Q I h => (pe_glob (v := .ref a) hg hm rfl hdb).run pins s σ H Q I (h a hs)⟩
theorem ev_gtup {K : PySem.W.Frag} {ρ : Rho} {vs : List V} {ds : List PyData} (h : ∀ B : Hp, DaAll K B vs ds) : Ev K (tGT K vs) ρ (.tuple ds) := fun σ B H e s Q q a ha => q _ B H (.refl s) (.tup (ha B) (h B))
end G
end
section
set_option maxRecDepth 100000
set_option maxHeartbeats 4000000
/-! plain data with empty dicts in it: shown by repr -/
namespace G
open PySem PySem.Spec PyProof.Rows L2
/-- what stands at sys.modules is no list -/
def smB (K : PySem.W.Frag) : Bool := match K.lookup sysModules with
  | some ⟨_, _, .dict _ _, _⟩ => true
  | _ => false
theorem smB_ok {K : PySem.W.Frag} (h : smB K = true) : ∃ o es n, K.lookup sysModules = some o ∧ o.data = .dict es n := by
  unfold smB at h
  split at h
  · rename_i c d es n sl e
    exact ⟨_, es, n, e, rfl⟩
  · cases h
mutual
inductive Dq (K : PySem.W.Frag) (H : Hp) : V → PyData → Prop
  | non : Dq K H .non .none
  | bl (b : Bool) : Dq K H (.bl b) (.bool b)
  | int (i : Int) : Dq K H (.int i) (.int i)
  | str (x : Str) : Dq K H (.str x) (.str x)
  | emp {a : Addr} (h : H a = some (.dK [])) : Dq K H (.ref a) (.dict [])
  | lst {a : Addr} {xs : List V} {ds : List PyData} (h : SqL K H a xs) (hs : DqAll K H xs ds) : Dq K H (.ref a) (.list ds)
  | tup {a : Addr} {xs : List V} {ds : List PyData} (h : SqT K H a xs) (hs : DqAll K H xs ds) : Dq K H (.ref a) (.tuple ds)
inductive DqAll (K : PySem.W.Frag) (H : Hp) : List V → List PyData → Prop
  | nil : DqAll K H [] []
  | cons {v : V} {vs : List V} {d : PyData} {ds : List PyData} (h : Dq K H v d) (t : DqAll K H vs ds) : DqAll K H (v :: vs) (d :: ds)
end
section
variable {X : Cx} {pins : List (Addr × Obj)} {σ : L2.St} {H : Hp} {s : Shared}
mutual
theorem Dq.shows (I : L2.Inv X pins σ H s) (sm : smB X.K = true) : ∀ (d : PyData) (v : V) (u : Value), Dq X.K H v d → RelV v u → ∃ as, Reads s.heap u d as ∧ sysModules ∉ as
  | _, _, _, .non, r => by
    cases r
    exact ⟨_, .none, fun z => nomatch z⟩
  | _, _, _, .bl b, r => by
    cases r
    exact ⟨_, .bool b, fun z => nomatch z⟩
  | _, _, _, .int i, r => by
    obtain ⟨t, rfl⟩ := r
    exact ⟨_, .int i t, fun z => nomatch z⟩
  | _, _, _, .str x, r => by
    obtain ⟨t, rfl⟩ := r
    exact ⟨_, .str x t, fun z => nomatch z⟩
  | _, _, _, .emp (a := a) h, r => by
    cases r
    obtain ⟨_, ne, vs, kv, o, es, ep, ho, hx, hd, hk, hp, _⟩ : ObjOk X.prog X.w H s.heap a (.dK []) := I.hok a _ h
    cases kv
    have e0 : es.toList = [] := by
      cases c : es.toList with
      | nil => rfl
      | cons y ys => rw [c] at hp; cases hp
    have q1 : ReadsAll s.heap (es.toList.map (·.key)) (([] : List (PyData × PyData)).map (·.1)) [] := by rw [e0]; exact .nil
    have q2 : ReadsAll s.heap (es.toList.map (·.val)) (([] : List (PyData × PyData)).map (·.2)) [] := by rw [e0]; exact .nil
    refine ⟨a :: [] ++ [], .dict ho hx.1 hd q1 q2, fun z => ?_⟩
    have z1 : sysModules = a := by simpa using z
    rw [z1] at ne
    simp at ne
  | _, _, _, .lst (a := a) (ds := ds) hs ha, r => by
    cases r
    obtain ⟨its, rv, ⟨o, n, ho, hc, _, hd⟩, _⟩ := I.list hs
    obtain ⟨as, hr, na⟩ := DqAll.shows I sm ds _ its ha rv
    refine ⟨a :: as, .list ho hc hd hr, fun z => ?_⟩
    rcases List.mem_cons.mp z with z | z
    · obtain ⟨o2, es, k, l2, d2⟩ := smB_ok sm
      have q := I.kIn _ _ l2
      rw [z, ho] at q
      cases q
      rw [hd] at d2
      cases d2
    · exact na z
  | _, _, _, .tup (ds := ds) hs ha, r => by
    cases r
    obtain ⟨its, rv, ⟨o, ho, hc, n, hd⟩, _⟩ := I.tuple hs
    obtain ⟨as, hr, na⟩ := DqAll.shows I sm ds _ its ha rv
    exact ⟨as, .tuple ho hc hd hr, na⟩
theorem DqAll.shows (I : L2.Inv X pins σ H s) (sm : smB X.K = true) : ∀ (ds : List PyData) (vs : List V) (us : List Value), DqAll X.K H vs ds → Vals vs us → ∃ as, ReadsAll s.heap us ds as ∧ sysModules ∉ as
  | _, _, _, .nil, r => by
    cases r
    exact ⟨_, .nil, fun z => nomatch z⟩
  | _, _, _, .cons (d := d) (ds := ds) h1 h2, r => by
    cases r with
    | cons r1 r2 =>
      obtain ⟨as, q1, n1⟩ := Dq.shows I sm d _ _ h1 r1
      obtain ⟨bs, q2, n2⟩ := DqAll.shows I sm ds _ _ h2 r2
      exact ⟨as ++ bs, .cons q1 q2, fun z => (List.mem_append.mp z).elim n1 n2⟩
end
/-- repr of such -/
def rReprQ (K : PySem.W.Frag) : List V → Hp → VK → Prop := fun xs H Q => ∃ v d, xs = [v] ∧ Dq K H v d ∧ d.showable = true ∧ d.depth ≤ 100 ∧ d.shown.length ≤ sizeLine ∧ Q (.str d.shown) H
theorem call_reprQ {k : Nat} (sm : smB X.K = true) (hg : X.A.guards = some []) (hr : Room k X.A) : CallR X (.builtin "repr") (rReprQ X.K) := by
  intro pins s σ H xs us Q I r h
  obtain ⟨v, d, rfl, hd, hs, hp, hz, q⟩ := h
  obtain ⟨u, rfl, ru⟩ := vals1 r
  obtain ⟨as, rd, na⟩ := Dq.shows I sm d _ _ hd ru
  have room := hr.un
  have simple : ∀ (t : Tok), EP X pins σ Q (.str d.shown t) { s with toks := s.toks + 1 } := fun t => ⟨.str d.shown, H, I.tok _, ⟨t, rfl⟩, q⟩
  have deep : ∀ {a : Addr}, Reads s.heap (.ref a) d as → wpAny (model X.prog X.w) X.A (call (.builtin "repr") [.ref a]) (EP X pins σ Q) X.xe s := fun {a} rd =>
    repr_of_reads' rd hs (fun _ => na) hg (by omega) (fun _ _ e => e) (fun h' t tk hk => ⟨.str d.shown, H, I.kept hk, ⟨t, rfl⟩, q⟩) hz
  cases hd with
  | non =>
    obtain rfl : u = Value.none := ru
    exact PySem.P.repr_of_none (by simpa only [PyData.shown] using simple _)
  | bl b =>
    obtain rfl : u = Value.bool b := ru
    exact PySem.P.repr_of_bool (by simpa only [PyData.shown] using simple _)
  | int i =>
    obtain ⟨t, rfl⟩ := ru
    exact PySem.P.repr_of_int (by simpa [PyData.showable] using hs) (by simpa only [PyData.shown] using simple _)
  | str x =>
    obtain ⟨t, rfl⟩ := ru
    exact PySem.P.repr_of_str (by simpa only [PyData.shown] using simple _) (by simpa only [PyData.shown] using hz)
  | emp _ => obtain rfl := ru; exact deep rd
  | lst _ _ => obtain rfl := ru; exact deep rd
  | tup _ _ => obtain rfl := ru; exact deep rd
theorem reprQK {K : PySem.W.Frag} {k : Nat} (sm : smB K = true) (hg : X.A.guards = some []) (hr : Room k X.A) (h : X.K = K := by rfl) : CallR X (.builtin "repr") (rReprQ K) := by
  subst h
  exact call_reprQ sm hg hr
end
/-! over data -/
section
variable {K : PySem.W.Frag} {B H : Hp} {ρ : Rho}
mutual
theorem Da.dq : ∀ {v : V} {d : PyData}, Da K B v d → Dq K B v d
  | _, _, .non => .non
  | _, _, .bl b => .bl b
  | _, _, .int i => .int i
  | _, _, .str x => .str x
  | _, _, .lst h a => .lst h a.dq
  | _, _, .tup h a => .tup h a.dq
  | _, _, .emp h => .emp h
theorem DaAll.dq : ∀ {vs : List V} {ds : List PyData}, DaAll K B vs ds → DqAll K B vs ds
  | _, _, .nil => .nil
  | _, _, .cons h t => .cons h.dq t.dq
end
theorem fn_reprQ {d : PyData} (hs : d.showable = true) (hp : d.depth ≤ 100) (hz : d.shown.length ≤ sizeLine) : Fn K (rReprQ K) [d] (.str d.shown) := fun B H s us hu Q q => by
  cases hu with
  | cons h t =>
    cases t
    exact ⟨_, d, rfl, (h.mono s).dq, hs, hp, hz, q _ B H (.refl s) (.str _)⟩
theorem ev_emp : Ev K tDNewK ρ (.dict []) := fun σ B H e s Q q p hp => by
  have k := Gr.add s hp (.dK [])
  exact q _ _ _ k (.emp upd_same)
end
end G
end
section
set_option maxRecDepth 100000
set_option maxHeartbeats 4000000
/-! an error that an except clause hands to a further name: it stays readable behind the clause -/
namespace G
open PySem PySem.Spec PyProof.Rows L2
/-- at a: a caught error; its class, its dict -/
def caO (cls : Value) (d : Option Addr) (a : Addr) : HO := .ext fun h => ∃ (o : Obj) (vs : Array Value), h.get? a = some o ∧ Zc cls d o ∧ o.data = .fields vs
section
variable {P : Program} {w : World} {H : Hp} {h : Heap} {a : Addr} {cls : Value} {d : Option Addr} {o : Obj} {vs : Array Value}
theorem caO_new (ha : h.get? a = some o) (hz : Zc cls d o) (hd : o.data = .fields vs) : ObjOk P w H h a (caO cls d a) :=
  ⟨⟨o, vs, ha, hz, hd⟩, ⟨o, ha⟩, fun _ _ ⟨u, us, p, r⟩ kp => ⟨u, us, kp u p, r⟩⟩
theorem caO_look (hk : HOk P w H h) (ha : H a = some (caO cls d a)) : ∃ (u : Obj) (us : Array Value), h.get? a = some u ∧ Zc cls d u ∧ u.data = .fields us := (hk a _ ha).1
end
section
variable {X : Cx} {pins : List (Addr × Obj)} {σ : L2.St} {H : Hp} {s : Shared}
/-- what was pinned, new since the entry, is tracked -/
theorem Inv.hold {a : Addr} {u : Obj} {o : HO} (I : L2.Inv X ((a, u) :: pins) σ H s) (fresh : X.s_0.heap.get? a = none) (apart : ∀ p ∈ X.pn ++ pins, p.1 ≠ a) (good : ObjOk X.prog X.w (upd H a o) s.heap a o) : L2.Inv X pins σ (upd H a o) s := by
  have pa := I.pin (a, u) (List.mem_append_right _ (List.mem_cons_self ..))
  have na : H a = none := pa.2.1
  have old : ∀ {b : Addr} {v : Obj}, X.s_0.heap.get? b = some v → b ≠ a := fun {b v} q z => by
    rw [z, fresh] at q
    cases q
  have B := I.base
  exact {
    ok := I.ok
    os := I.os
    bare := I.bare
    base := {
      keep := B.keep
      slot := B.slot
      there := B.there
      free := fun b v q n hx => (upd_ne (old q)).trans (B.free b v q n hx)
      tups := fun b xs q => (upd_ne (ne_of_none (B.tups b xs q) na)).trans (B.tups b xs q)
      frzs := fun b v x q => (upd_ne (ne_of_none (B.frzs b v x q) na)).trans (B.frzs b v x q)
      tbls := fun b ps q => by
        obtain ⟨more, e⟩ := B.tbls b ps q
        exact ⟨more, (upd_ne (ne_of_none e na)).trans e⟩ }
    loc := I.loc
    cell := I.cell
    free := (upd_ne (Ne.symm pa.2.2.1)).trans I.free
    freeC := fun x c q => by
      obtain ⟨v, t, ht, hd⟩ := I.cell x c q
      have : c ≠ a := fun z => by
        rw [z, pa.1] at ht
        cases ht
        exact pa.2.2.2.2 _ hd
      exact (upd_ne this).trans (I.freeC x c q)
    pin := fun p hp => by
      have q : p ∈ X.pn ++ (a, u) :: pins := by
        rcases List.mem_append.mp hp with z | z
        · exact List.mem_append_left _ z
        · exact List.mem_append_right _ (List.mem_cons_of_mem _ z)
      obtain ⟨p1, p2, p3⟩ := I.pin p q
      exact ⟨p1, (upd_ne (apart p hp)).trans p2, p3⟩
    hok := fun b v q => by
      by_cases z : b = a
      · subst z
        rw [upd_same] at q
        cases q
        exact good
      · rw [upd_ne z] at q
        exact (I.hok b v q).stay (fun c t _ k => k) (fun c k => (upd_ne (ne_of_none k na)).trans k) fun c xs k => (upd_ne (ne_of_none k na)).trans k
    len := I.len }
end
end G
namespace G
open PySem PySem.Spec PyProof.Rows L2
/-- the wish of 'try: .. except x as n: suite' where what was caught may be named on: behind the suite it is held -/
def wHold (K : PySem.W.Frag) (c : Value) (i : Nat) (ts : Addr → Value → Option Addr → TS) (W0 : WX) (D : Ends) : WX := fun cls d σ H =>
  ∃ y : Bool, PySem.W.exmOne K cls c = some y ∧ (y = false → W0 cls d σ H) ∧ (y = true → ∀ a, H a = none →
    ts a cls d ⟨fun σ1 H1 => D.nx (σ1.set i none) (upd H1 a (caO cls d a)), D.rt, fun σ1 H1 => D.bk (σ1.set i none) H1, fun σ1 H1 => D.ct (σ1.set i none) H1⟩ (σ.set i (some (.ref a))) H)
/-- what meets an error of the body: it is noted, landed, handed to the clause -/
def air (X : Cx) (pins : List (Addr × Obj)) (D : Ends) (cl : ExceptHandler) (e : Value) (s1 : Shared) : Prop :=
  let M := model X.prog X.w
  wpAny M X.A (noteFrame e X.env) (fun _ s2 => wpAny M X.A (setFlight e none) (fun _ s3 => wpAny M X.A (handleBy e X.env [cl]) (SP X pins D) X.xe s3) X.xe s2) X.xe s1
section
variable {X : Cx} {x n : Str} {c : Value} {i : Nat} {body suite : List Stmt} {b0 : Stmt} {np pos pos' : Pos} {tb : WX → TS} {ts : Addr → Value → Option Addr → TS} {W0 : WX} {pins : List (Addr × Obj)} {D : Ends}
theorem air_ok (hs : X.stack = X.env :: X.outer) (hf : X.env.frame = some X.env.locals) (hx0 : X.ex = []) (hN : X.N.Nodup) (hi : X.N[i]? = some n) (hl : X.env.kindOf n = some .local) (hc : Names X x c) (tk : Takes X W0)
    (hsu : ∀ (a : Addr) (oe : Obj) (cls : Value) (d : Option Addr) (pn : List (Addr × Obj)), Zc cls d oe → (∃ vs, oe.data = .fields vs) → PSs (X.suite a ((a, oe) :: pn)) (b0 :: suite) (ts a cls d))
    (ok : X.Ok) (xe : Value → Shared → Prop) {u : Value} {t : Shared} (z : XE (X.tr (X.pn ++ pins) xe) (wHold X.K c i ts W0 D) u t) :
    air X pins D (.ExceptHandler (some (.Name x np)) (some n) (b0 :: suite) pos') u t := by
  obtain ⟨a, B, sI, pi2, σ, H, cls, d, rfl, J0, nb, up, sky, na, eos, bare, y, hy, no, yes⟩ := z
  have J : L2.Inv X pins σ H sI := J0.ofTry ok
  have frames : X.A.frames = some (X.env :: X.outer) := by rw [← hs]; exact ok.frames
  have sky2 : Sky B (X.env :: X.outer) a (Zc cls d) X.env.locals t.heap := hs ▸ sky
  unfold air
  dsimp only
  refine Sky.land Zc.steady frames hf sky2 fun h1 f1 u1 => ?_
  -- where it lies
  have notIn : a ∉ frs (X.env :: X.outer) := fun hm => by
    obtain ⟨o, vs, ho, _, hd⟩ := f1.there
    obtain ⟨_, o2, q, nf⟩ := f1.2.2.1.mem hm
    rw [ho] at q
    cases q
    exact nf _ hd
  have nL : a ≠ X.env.locals := fun q => notIn (List.mem_filterMap.mpr ⟨X.env, List.mem_cons_self .., by rw [hf, q]⟩)
  have nF : a ∉ X.fs := fun q => by
    obtain ⟨e, he, r⟩ := List.mem_filterMap.mp q
    exact notIn (List.mem_filterMap.mpr ⟨e, List.mem_cons_of_mem _ he, r⟩)
  have gone : sI.heap.get? a = none := by
    cases e : sI.heap.get? a with
    | none => rfl
    | some o =>
      have q := nb a o e (by rw [show X.stack = _ from hs]; exact notIn)
      rw [f1.2.1] at q
      cases q
  have fresh : X.s_0.heap.get? a = none := by
    cases e : X.s_0.heap.get? a with
    | none => rfl
    | some o =>
      obtain ⟨o2, q⟩ := J.base.there a o e (by rw [hx0]; exact fun z => nomatch z)
      rw [gone] at q
      cases q
  have apart : ∀ p ∈ X.pn ++ pins, p.1 ≠ a := fun p hp q => by
    have r := (J.pin p hp).1
    rw [q, gone] at r
    cases r
  have at_ : ∀ h, HandSPX.FlyingZ B (X.env :: X.outer) a (Zc cls d) h → sI.heap.UpToSlots h → L2.Inv X pins σ H { t with heap := h } := fun h f k => J.landed nb f.1 k eos bare
  have J1 := at_ h1 f1 (up.trans u1)
  obtain ⟨o1, vs1, ho1, z1, d1⟩ := f1.there
  have S1 := J1.suite ho1 d1 na nL nF
  -- the clause's class
  have ty : PySem.W.Looks (model X.prog X.w) h1 (typeOf (.ref a)) cls := fun A Q E s k q => wpAny_typeOf_ref (k _ _ ho1) (by rw [z1.1]; exact q)
  have mt := PySem.W.exm_one (M := model X.prog X.w) J1.kIn ty hy
  refine wpAny_handleBy_cons (codeAny_handlers_test ?_) (by intro q; cases q)
  have named : ∀ {Q : Value → Shared → Prop} {E : Value → Shared → Prop}, Q c { t with heap := h1 } → wpAny (model X.prog X.w) (X.A.mark (some (.ref a))) (eval (.Name x np) X.env) Q E { t with heap := h1 } := fun {Q E} q => by
    obtain ⟨g, db, r⟩ := hc
    rcases r with m | ⟨m, b, nn⟩
    · exact ld_glob S1 g m q db
    · exact ld_blt S1 g m b q nn db
  refine named (mt.here ?_)
  cases y with
  | false =>
    show wpAny _ X.A (handleBy (.ref a) X.env []) _ _ _
    refine wpAny_handleBy_nil ?_
    have f1' := f1
    obtain ⟨_, _, _, oe, vs, T, oT, tv, he, _, hd, e1, _⟩ := f1'
    have again : wpAny (model X.prog X.w) X.A (setFlight (.ref a) X.env.frame) (fun _ s4 => wpAny (model X.prog X.w) X.A (throw (.ref a) : Sem Flow) (SP X pins D) X.xe s4) X.xe { t with heap := h1 } := by
      rw [hf]
      exact HandSPX.setFlight_upZ f1 fun h2 g2 u2 => wpAny_throw (tk _ _ ⟨a, B, sI, pins, σ, H, cls, d, rfl, J, nb, (up.trans u1).trans u2, .inr (.inr (hs ▸ g2)), na, eos, bare, no rfl⟩)
    unfold PySem.passOn
    refine wpAny_bind (wpAny_field he hd e1 ?_)
    rw [if_neg (show ¬ ((Value.ref T == Value.none) = true) from by simp)]
    first
      | exact wpAny_bind (wpAny_pure (wpAny_bind again))
      | exact wpAny_bind again
  | true =>
    refine codeAny_handlers_suite_as (HandSPX.lands_againZ f1 fun h2 f2 u2 => ?_)
    have J2 := at_ h2 f2 ((up.trans u1).trans u2)
    obtain ⟨o2, vs2, ho2, z2, d2⟩ := f2.there
    have S2 := J2.suite ho2 d2 na nL nF
    refine store_ok (X := X.suite a ((a, o2) :: (X.pn ++ pins))) (v := .ref a) S2 hN hi (.inl hl) rfl (fun s3 S3 => ?_) (.inr hl)
    refine wpAny_mono ((hsu a o2 cls d (X.pn ++ pins) z2 ⟨_, d2⟩).run [] s3 _ H _ S3 (yes rfl a na)) (fun f s4 r => ?_) fun _ _ w => w.elim
    -- behind the suite
    have back : ∀ {σ4 : L2.St} {H4 : Hp}, L2.Inv (X.suite a ((a, o2) :: (X.pn ++ pins))) [] σ4 H4 s4 → L2.Inv X ((a, o2) :: pins) σ4 H4 s4 := fun {σ4 H4} S4 =>
      (S4.unsuite ok).pins_of fun p hp => by
        rcases List.mem_cons.mp hp with rfl | hp
        · exact S4.pin _ (List.mem_append_left _ (List.mem_cons_self ..))
        · exact (S4.unsuite ok).pin p (List.mem_append_right _ hp)
    cases f with
    | next =>
      obtain ⟨σ4, H4, S4, q4⟩ := r
      refine gone_ok (back S4) hN hi hl fun s5 S5 => ⟨_, _, Inv.hold S5 fresh apart (caO_new (S5.pin _ (List.mem_append_right _ (List.mem_cons_self ..))).1 z2 d2), q4⟩
    | brk =>
      obtain ⟨σ4, H4, S4, q4⟩ := r
      exact gone_ok (S4.unsuite ok) hN hi hl fun s5 S5 => ⟨_, _, S5, q4⟩
    | cont =>
      obtain ⟨σ4, H4, S4, q4⟩ := r
      exact gone_ok (S4.unsuite ok) hN hi hl fun s5 S5 => ⟨_, _, S5, q4⟩
    | ret w =>
      obtain ⟨v, σ4, H4, S4, rv, q4⟩ := r
      exact gone_ok (S4.unsuite ok) hN hi hl fun s5 S5 => ⟨_, _, _, S5, rv, q4⟩
/-- try: body, except x as n: suite; what was caught is held behind it -/
theorem ps_try_hold (hs : X.stack = X.env :: X.outer) (hf : X.env.frame = some X.env.locals) (hx0 : X.ex = []) (hN : X.N.Nodup) (hi : X.N[i]? = some n) (hl : X.env.kindOf n = some .local) (hc : Names X x c) (tk : Takes X W0)
    (hb : ∀ (W : WX) (pn : List (Addr × Obj)) (xe : Value → Shared → Prop), Takes (X.tr pn xe) W → PassesOwn (model X.prog X.w) X.A X.env xe → PSs (X.tr pn xe) body (tb W))
    (hsu : ∀ (a : Addr) (oe : Obj) (cls : Value) (d : Option Addr) (pn : List (Addr × Obj)), Zc cls d oe → (∃ vs, oe.data = .fields vs) → PSs (X.suite a ((a, oe) :: pn)) (b0 :: suite) (ts a cls d)) :
    PS X (.Try body [.ExceptHandler (some (.Name x np)) (some n) (b0 :: suite) pos'] [] [] pos) (fun D σ H => tb (wHold X.K c i ts W0 D) D σ H) :=
  ⟨fun pins s σ H D I start => by
    have ok := I.ok
    have go := (hb (wHold X.K c i ts W0 D) (X.pn ++ pins) (air X pins D (.ExceptHandler (some (.Name x np)) (some n) (b0 :: suite) pos')) (fun _ _ z => air_ok hs hf hx0 hN hi hl hc tk hsu ok _ z) PassesOwn.looking).run [] s σ H D (I.toTry _) start
    refine wpAny_Try_except (wpAny_mono go (fun f s1 r => ?_) fun _ _ w => w)
    cases f with
    | next =>
      obtain ⟨σ1, H1, J, q⟩ := r
      exact wpAny_execs_nil ⟨σ1, H1, J.ofTry ok, q⟩
    | brk =>
      obtain ⟨σ1, H1, J, q⟩ := r
      exact ⟨σ1, H1, J.ofTry ok, q⟩
    | cont =>
      obtain ⟨σ1, H1, J, q⟩ := r
      exact ⟨σ1, H1, J.ofTry ok, q⟩
    | ret w =>
      obtain ⟨v, σ1, H1, J, rv, q⟩ := r
      exact ⟨v, σ1, H1, J.ofTry ok, rv, q⟩⟩
/-- the field of a held error -/
def tCaF (C : Addr) (f : Str) (te : TE) : TE := fun σ H Q => te σ H fun x H1 => ∃ (a dd : Addr) (fs : List (Str × V)) (v : V), x = .ref a ∧ H1 a = some (caO (.ref C) (some dd) a) ∧ H1 dd = some (.xd fs) ∧ fs.lookup f = some v ∧ Q v H1
theorem pe_caF {C : Addr} {e : Expr} {te : TE} {f : Str} (T : XfC X.K C) (hno : PySem.W.findIn X.K (.ref C) f = some none) (he : PE X e te) (hb : attributeBase e f X.env (eval e X.env) = eval e X.env := by rfl) : PE X (.Attribute e f pos) (tCaF C f te) :=
  ⟨fun pins s σ H Q I h => attr_of hb (thn (he.run pins s σ H _ I h) fun u s1 hh => by
    obtain ⟨xv, H1, J, rx, a, dd, fs, v, ex, ea, ed, l, q⟩ := hh
    subst ex
    obtain rfl : u = Value.ref a := rx
    obtain ⟨oe, vs, ha, hz, hd⟩ := caO_look J.hok ea
    have xd : ObjOk X.prog X.w H1 s1.heap dd (.xd fs) := J.hok dd _ ed
    obtain ⟨mA, ns, rel⟩ := xd
    obtain ⟨od, ho, lk⟩ := lookIn_ns ns
    have rf := rel f
    rw [l] at rf
    obtain ⟨w, hw, rw'⟩ := RelO.some_of (v := v) rf
    have inst : PySem.W.InstAt s1.heap a oe C (some od) := ⟨ha, hz.1, by unfold PySem.W.notCls; rw [hd] <;> rfl, by rw [hz.2]; exact ho⟩
    exact HandSPX.exc_get J.kIn inst T.ga T.gg T.exC (PySem.W.findObj_own T.hdC hno rfl (by rw [lk, hw])) (handed_of rw') ⟨v, H1, J.tok _, rw', q⟩)⟩
end
end G
end
section
set_option maxRecDepth 100000
set_option maxHeartbeats 4000000
/-! an own error class whose __init__ keeps its value; what the head tells of it -/
namespace G
open PySem PySem.Spec PyProof.Rows L2
def clsB (K : PySem.W.Frag) (C : Addr) : Bool := match K.lookup C with
  | some ⟨.type "type", _, .cls cd, sl⟩ => (match cd.mro, sl.toList with
    | .ref C2 :: bm, [_, _, _, _, some (.builtin nw), _] => C2 == C && (nw == "ValueError.__new__" && ((!cd.hasDel) && (cd.hasDict && PySem.HandSPX.refsVE bm)))
    | _, _ => false)
  | _ => false
structure ErrC (K : PySem.W.Frag) (C fI : Addr) : Prop where
  o : OexC K C
  x : XfC K C
  ini : PySem.W.findIn K (.ref C) "__init__" = some (some (.ref fI))
  val : PySem.W.findIn K (.ref C) "value" = some none
  fn : PySem.W.typeIn K (.ref fI) = some (.type "function")
  self : PySem.W.exmOne K (.ref C) (.ref C) = some true
def errB (K : PySem.W.Frag) (C fI : Addr) : Bool :=
  clsB K C && (decide (PySem.W.findIn K (.ref C) "__setattr__" = some (some (.builtin "object.__setattr__"))) && (decide (PySem.W.subIn K (.ref C) (.type "BaseException") = some true) && (decide (PySem.W.typeIn K (.ref C) = some (.type "type")) && (PySem.W.keepIn K (.ref C) &&
    (xfB K C && (decide (PySem.W.findIn K (.ref C) "__init__" = some (some (.ref fI))) && (decide (PySem.W.findIn K (.ref C) "value" = some none) && (decide (PySem.W.typeIn K (.ref fI) = some (.type "function")) && decide (PySem.W.exmOne K (.ref C) (.ref C) = some true)))))))))
theorem clsB_ok {K : PySem.W.Frag} {C : Addr} (h : clsB K C = true) : ∃ nm q N bs bm sn sub ab col dd k0 k1 k2 k3 k5, K.lookup C = some (excClassObj nm q C N bs bm true sn sub ab col dd k0 k1 k2 k3 k5 "ValueError.__new__") ∧ PySem.HandSPX.refsVE bm = true := by
  unfold clsB at h
  split at h
  · rename_i dd cd sl lk
    split at h
    · rename_i C2 bm k0 k1 k2 k3 nw k5 e1 e2
      rw [Bool.and_eq_true, Bool.and_eq_true, Bool.and_eq_true, Bool.and_eq_true] at h
      obtain ⟨a1, a2, a3, a4, a5⟩ := h
      have a1 : C2 = C := by simpa using a1
      have a2 : nw = "ValueError.__new__" := by simpa using a2
      have a3 : cd.hasDel = false := by simpa using a3
      obtain ⟨nm, bs, mro, ns, qn, hd, sn, sub, ab, col, del⟩ := cd
      dsimp only at e1 a3 a4
      subst a1 a2 a3 a4 e1
      obtain ⟨l⟩ := sl
      dsimp only at e2
      subst e2
      exact ⟨nm, qn, ns, bs, bm, sn, sub, ab, col, dd, k0, k1, k2, k3, k5, lk, a5⟩
    · cases h
  · cases h
theorem errB_ok {K : PySem.W.Frag} {C fI : Addr} (h : errB K C fI = true) : ErrC K C fI := by
  unfold errB at h
  simp only [Bool.and_eq_true, decide_eq_true_eq] at h
  obtain ⟨h0, h1, h2, h3, h4, h5, h6, h7, h8, h9⟩ := h
  exact ⟨⟨clsB_ok h0, h1, h2, h3, h4⟩, xfB_ok h5, h6, h7, h8, h9⟩
/-- def __init__(self, value): self.value = value -/
def sIni (K : PySem.W.Frag) : Sp := fun vs H Q _ => ∃ (a C : Addr) (v : V), vs = [.ref a, v] ∧ OexC K C ∧ PySem.W.findIn K (.ref C) "value" = some none ∧ H a = some (exo a C none) ∧ ∀ d, H d = none → d ≠ a → Q .non (upd (upd H d (exd d [("value", v)])) a (exo a C (some d)))
theorem ini_ok {P : Program} {w : World} {K : PySem.W.Frag} {mg : Str → Option Value} {base : Heap} {qual : Str} {st : Stmt} {f : Addr} {fd : FuncData} {p1 p2 p3 p4 : Pos} (F : L2.Fun K "__init__" qual st f fd) (S : FnScope ["self", "value"] ["self", "value"] (defScope st))
    (h1 : (defScope st).names.lookup ("self" : Str) = some NameKind.local) (h2 : (defScope st).names.lookup ("value" : Str) = some NameKind.local) (hb : defBody st = [.Assign [.Attribute (.Name "self" p1) "value" p2] (.Name "value" p3) p4]) : FnOk P w K mg base CX0 1 f fd ["self", "value"] (sIni K) :=
  F.ok S (fun vs H Q E ⟨_, _, _, e, _⟩ => by rw [e]; rfl) fun cdv A outer s H vs Q E hr ⟨a, C, v, e, T, hv, ha, q⟩ => by
    rw [hb]
    subst e
    refine ⟨_, pss_one (ps_ost (pv 0 (hv := .inl h1)) (pv 1 (hv := .inl h2))), ?_⟩
    exact ⟨v, rfl, .ref a, rfl, a, C, rfl, T, hv, .inl ⟨ha, fun d n ne => q d n ne⟩⟩
end G
namespace G
open PySem PySem.Spec PyProof.Rows L2
section
variable {X : Cx} {CX : CXT} {k : Nat} {f : Addr} {fd : FuncData} {ps : List Str} {sp : Sp} {W : L2.St → XK} {x : Str} {p pos : Pos} {e : Expr} {es : List Expr} {ta : TA}
theorem run_gS {pins : List (Addr × Obj)} {σ : L2.St} {H : Hp} {s : Shared} {Q : VK} {us : List Value} {vs : List V} (hg : X.A.guards = some []) (F : FnG X.prog X.w X.K X.mg X.base CX k f fd ps sp) (hr : Room k X.A) (hb : Binds X.K fd ps [])
    (out : PassesAt CX X σ (W σ)) (I : L2.Inv X pins σ H s) (r : Vals vs us) (h : sp vs H Q (W σ)) : wpAny (model X.prog X.w) X.A (call (.ref f) us) (EP X pins σ Q) X.xe s := by
  have n : us.length = ps.length := r.length.symm.trans (F.ar _ _ _ _ h)
  have to := hb s us I.kIn (by rw [List.append_nil]; exact n)
  rw [List.append_nil] at to
  have go := F.go X.A X.stack s H ⟨us, []⟩ us vs Q (W σ) hg hr I.env0 to r h
  exact wpAny_call (codeAny_mono go fun res s' hq => match res, hq with
    | .error er, hq => out pins H s er s' I hq
    | .ok (.ret _), hq => I.after hq
    | .ok .next, hq => hq.elim
    | .ok .brk, hq => hq.elim
    | .ok .cont, hq => hq.elim)
/-- f(e, ..) whose error is met by a wish of the slots -/
theorem pg_callS (hg : X.A.guards = some []) (F : FnG X.prog X.w X.K X.mg X.base CX k f fd ps sp) (hr : Room k X.A) (hgl : Gl X x) (hm : X.mg x = some (.ref f)) (hk : PySem.W.keepIn X.K (.ref f) = true) (hb : Binds X.K fd ps []) (out : ∀ σ, PassesAt CX X σ (W σ)) (ha : PA X (e :: es) ta)
    (hdb : (x == ("__debug__" : Str)) = false := by decide) (he : starEach (e :: es) X.env = (false, eval e X.env) :: starEach es X.env := by rfl) (hpl : (backTo pos (starEach es X.env)).any (·.1) = false := by rfl) : PE X (.Call (.Name x p) (e :: es) [] pos) (tCallS sp W ta) :=
  ⟨fun pins s σ H Q I h => wpAny_Call_Name_kw (ld_glob I hgl hm (PySem.W.callWith_K (h₀ := X.base) I.ok.mod.kin hk (thn (ha.run pos pins s σ H _ I h) fun us s1 ⟨vs, H1, I1, r, q⟩ => ⟨I1.kIn, run_gS hg F hr hb (out σ) I1 r q⟩) he hpl) hdb)⟩
end
end G
end
section
set_option maxRecDepth 100000
set_option maxHeartbeats 0
namespace K50
open PySem PySem.Spec PyProof.Rows L2
def top (i : Nat) : Stmt := PySem.Challenge.pw_checkwright_k50_whole_lists_that_slip.main.body.getD i (.Pass ⟨0, 0, 0, 0⟩)
abbrev s_is_whole : Stmt := top 5
abbrev s_is_from : Stmt := top 6
abbrev s_is_below : Stmt := top 7
abbrev s_are_below : Stmt := top 8
abbrev s_is_each_once : Stmt := top 9
abbrev s_power : Stmt := top 10
abbrev s_is_square : Stmt := top 12
abbrev s_all_swaps : Stmt := top 13
abbrev s_is_chain : Stmt := top 15
abbrev s_how_many_slip : Stmt := top 16
abbrev s_how_many_right_lists : Stmt := top 17
abbrev s_check_chain : Stmt := top 18
abbrev s_check_length : Stmt := top 19
abbrev s_how_many_ways : Stmt := top 20
abbrev s_law_cell : Stmt := top 22
abbrev s_law_hash : Stmt := top 23
abbrev s_law_generator : Stmt := top 24
abbrev s_law_random : Stmt := top 25
abbrev s_law_abelian : Stmt := top 26
abbrev s_law_dihedral : Stmt := top 27
abbrev s_law_group : Stmt := top 28
abbrev s_law_shuffled : Stmt := top 29
abbrev s_law_all_codes : Stmt := top 30
abbrev s_law_square : Stmt := top 31
abbrev s_law_swaps : Stmt := top 32
abbrev s_law_last : Stmt := top 33
abbrev s_law_slips : Stmt := top 34
abbrev s_law_reached : Stmt := top 35
abbrev s_law_counted : Stmt := top 36
abbrev s_law_right : Stmt := top 37
abbrev s_law_power : Stmt := top 38
abbrev s_law : Stmt := top 39
abbrev mkD (x : Str) (st : Stmt) : He.DefD := ⟨(x, none), x, x, defArgs st, defBody st, defScope st, [], []⟩
def fn0 : List He.DefD := [mkD "is_whole" s_is_whole, mkD "is_from" s_is_from, mkD "is_below" s_is_below, mkD "are_below" s_are_below, mkD "is_each_once" s_is_each_once, mkD "power" s_power, mkD "is_square" s_is_square, mkD "all_swaps" s_all_swaps, mkD "is_chain" s_is_chain, mkD "how_many_slip" s_how_many_slip, mkD "how_many_right_lists" s_how_many_right_lists, mkD "check_chain" s_check_chain, mkD "check_length" s_check_length, mkD "how_many_ways" s_how_many_ways, mkD "_law_cell" s_law_cell, mkD "_law_hash" s_law_hash, mkD "_law_generator" s_law_generator, mkD "_law_random" s_law_random, mkD "_law_abelian" s_law_abelian, mkD "_law_dihedral" s_law_dihedral]
def fn1 : List He.DefD := [mkD "_law_group" s_law_group, mkD "_law_shuffled" s_law_shuffled, mkD "_law_all_codes" s_law_all_codes, mkD "_law_square" s_law_square, mkD "_law_swaps" s_law_swaps, mkD "_law_last" s_law_last, mkD "_law_slips" s_law_slips, mkD "_law_reached" s_law_reached, mkD "_law_counted" s_law_counted, mkD "_law_right" s_law_right, mkD "_law_power" s_law_power, mkD "law" s_law]
def fn : List He.DefD := fn0 ++ fn1
def fa0 : List He.Fa := [.glo "is_whole", .glo "is_from", .glo "is_below", .glo "are_below", .glo "is_each_once", .glo "power", .glo "is_square", .glo "all_swaps", .glo "is_chain", .glo "how_many_slip", .glo "how_many_right_lists", .glo "check_chain", .glo "check_length", .glo "how_many_ways", .glo "_law_cell", .glo "_law_hash", .glo "_law_generator", .glo "_law_random", .glo "_law_abelian", .glo "_law_dihedral", .glo "_law_group", .glo "_law_shuffled", .glo "_law_all_codes", .glo "_law_square", .glo "_law_swaps", .glo "_law_last", .glo "_law_slips", .glo "_law_reached", .glo "_law_counted", .glo "_law_right"]
def fa1 : List He.Fa := [.glo "_law_power", .glo "law", .free "ValueError", .free "all", .free "bool", .free "enumerate", .free "int", .free "isinstance", .free "len", .free "list", .free "max", .free "range", .free "repr", .free "set", .free "sum", .free "tuple"]
def fa : List He.Fa := fa0 ++ fa1
abbrev R : PySem.W.OpenRow := PySem.W.OpenLaw.row PySem.Challenge.rw_checkwright_k50_whole_lists_that_slip
def ex (K : PySem.W.Frag) : Bool := G.smB K
abbrev hk : PySem.W.Hook := He.hookM 4 fa fn ex
def ob (s : PySem.W.SharedT) : He.AlM := He.obsM 4 fa fn ex (HandSHeadRun.getT s)
theorem ob_eq (s : PySem.W.SharedT) : ob s = hk.obs s.abs := He.obsM_eq (HandSHeadRun.getT_eq s)
def ls0 : List PySem.Str := ["is_whole", "is_from", "is_below", "are_below", "is_each_once", "power", "is_square", "all_swaps", "is_chain", "how_many_slip", "how_many_right_lists", "check_chain", "check_length", "how_many_ways", "_law_cell", "_law_hash", "_law_generator", "_law_random", "_law_abelian", "_law_dihedral", "_law_group", "_law_shuffled", "_law_all_codes", "_law_square", "_law_swaps", "_law_last", "_law_slips", "_law_reached", "_law_counted", "_law_right"]
def ls1 : List PySem.Str := ["_law_power", "CheckError", "InvalidNumber", "InvalidSystem"]
def ls : List PySem.Str := ls0 ++ ls1
theorem run (w : World) : HandSHeadRun.RunEq R (PySem.W.view R.prog [39]) hk ob 3800 ls w := by
  intro os
  kernel_rfl
end K50
end
section
set_option maxRecDepth 100000
set_option maxHeartbeats 2000000
/-! values that are data, and own lists that are written to: what an expression is worth, as a function -/
namespace N
open PySem PySem.Spec PyProof.Rows L2 G

inductive Vd where
  | d (x : PyData)
  | r (n : Nat)
inductive Ent where
  | lst (xs : List Vd)
  | frz (x : PyData)
abbrev Hd := List Ent
abbrev Rh := List (Option Vd)
inductive Oc (α : Type) where
  | ok (a : α) (h : Hd)
  | ex (c : Str) (x : PyData) (h : Hd)
  | no
def Oc.bind {α β : Type} (o : Oc α) (k : α → Hd → Oc β) : Oc β := match o with
  | .ok a h => k a h
  | .ex c x h => .ex c x h
  | .no => .no
@[simp] theorem Oc.bind_ok {α β : Type} (a : α) (h : Hd) (k : α → Hd → Oc β) : (Oc.ok a h).bind k = k a h := rfl
@[simp] theorem Oc.bind_ex {α β : Type} (c : Str) (x : PyData) (h : Hd) (k : α → Hd → Oc β) : (Oc.ex c x h : Oc α).bind k = .ex c x h := rfl
@[simp] theorem Oc.bind_no {α β : Type} (k : α → Hd → Oc β) : (Oc.no : Oc α).bind k = .no := rfl

inductive VR (K : PySem.W.Frag) (B : Hp) (m : List Addr) : Vd → V → Prop
  | d {x : PyData} {v : V} (h : Da K B v x) : VR K B m (.d x) v
  | r {n : Nat} {a : Addr} (h : m[n]? = some a) : VR K B m (.r n) (.ref a)
inductive VRs (K : PySem.W.Frag) (B : Hp) (m : List Addr) : List Vd → List V → Prop
  | nil : VRs K B m [] []
  | cons {x : Vd} {xs : List Vd} {v : V} {vs : List V} (h : VR K B m x v) (t : VRs K B m xs vs) : VRs K B m (x :: xs) (v :: vs)
def EntR (K : PySem.W.Frag) (B H : Hp) (m : List Addr) (a : Addr) : Ent → Prop
  | .lst xs => B a = none ∧ ∃ vs, H a = some (.lst vs) ∧ VRs K B m xs vs
  | .frz x => Da K B (.ref a) x ∧ H a ≠ none
structure WOk (K : PySem.W.Frag) (B H : Hp) (m : List Addr) (h : Hd) : Prop where
  sub : Same B H
  len : m.length = h.length
  nd : m.Nodup
  ent : ∀ (n : Nat) (a : Addr) (e : Ent), m[n]? = some a → h[n]? = some e → EntR K B H m a e
structure Gm (m : List Addr) (B H B' H' : Hp) (m' : List Addr) : Prop where
  bb : Same B B'
  ex : ∀ a o, a ∉ m → H a = some o → H' a = some o
  new : ∀ a o, B' a = some o → B a = none → H a = none ∨ a ∈ m
  kp : ∀ a, H a ≠ none → H' a ≠ none
  ext : ∃ l, m' = m ++ l ∧ ∀ a ∈ l, H a = none

section
variable {K : PySem.W.Frag} {B H B1 H1 B2 H2 : Hp} {m m1 m2 : List Addr} {h : Hd}
theorem pre_at {α : Type} {m l : List α} {n : Nat} {a : α} (e : m[n]? = some a) : (m ++ l)[n]? = some a := by
  rw [List.getElem?_append_left (List.getElem?_eq_some_iff.mp e).1]
  exact e
theorem VR.mono {x : Vd} {v : V} (r : VR K B m x v) (bb : Same B B1) (l : List Addr) : VR K B1 (m ++ l) x v := by
  cases r with
  | d h => exact .d (h.mono bb)
  | r h => exact .r (pre_at h)
theorem VRs.mono {xs : List Vd} {vs : List V} (r : VRs K B m xs vs) (bb : Same B B1) (l : List Addr) : VRs K B1 (m ++ l) xs vs := by
  induction r with
  | nil => exact .nil
  | cons h t ih => exact .cons (h.mono bb l) ih
theorem VR.gm {x : Vd} {v : V} (r : VR K B m x v) (g : Gm m B H B1 H1 m1) : VR K B1 m1 x v := by
  obtain ⟨l, rfl, _⟩ := g.ext
  exact r.mono g.bb l
theorem VRs.gm {xs : List Vd} {vs : List V} (r : VRs K B m xs vs) (g : Gm m B H B1 H1 m1) : VRs K B1 m1 xs vs := by
  obtain ⟨l, rfl, _⟩ := g.ext
  exact r.mono g.bb l
theorem VRs.len {xs : List Vd} {vs : List V} (r : VRs K B m xs vs) : vs.length = xs.length := by
  induction r with
  | nil => rfl
  | cons _ _ ih => exact congrArg Nat.succ ih
theorem VRs.at {xs : List Vd} {vs : List V} (r : VRs K B m xs vs) : ∀ {n : Nat} {x : Vd}, xs[n]? = some x → ∃ v, vs[n]? = some v ∧ VR K B m x v := by
  induction r with
  | nil => intro n x e; simp at e
  | cons h t ih =>
    intro n x e
    cases n with
    | zero => simp at e; subst e; exact ⟨_, rfl, h⟩
    | succ n => exact ih (by simpa using e)
theorem VRs.app {xs ys : List Vd} {vs ws : List V} (r : VRs K B m xs vs) (q : VRs K B m ys ws) : VRs K B m (xs ++ ys) (vs ++ ws) := by
  induction r with
  | nil => exact q
  | cons h t ih => exact .cons h ih
theorem VRs.set {xs : List Vd} {vs : List V} (r : VRs K B m xs vs) {x : Vd} {v : V} (q : VR K B m x v) : ∀ n, VRs K B m (xs.set n x) (vs.set n v) := by
  induction r with
  | nil => exact fun _ => .nil
  | cons h t ih =>
    intro n
    cases n with
    | zero => exact .cons q t
    | succ n => exact .cons h (ih n)
theorem VRs.take {xs : List Vd} {vs : List V} (r : VRs K B m xs vs) : ∀ n, VRs K B m (xs.take n) (vs.take n) := by
  induction r with
  | nil => intro n; simp; exact .nil
  | cons h t ih =>
    intro n
    cases n with
    | zero => exact .nil
    | succ n => exact .cons h (ih n)
theorem VRs.drop {xs : List Vd} {vs : List V} (r : VRs K B m xs vs) : ∀ n, VRs K B m (xs.drop n) (vs.drop n) := by
  induction r with
  | nil => intro n; simp; exact .nil
  | cons h t ih =>
    intro n
    cases n with
    | zero => exact .cons h t
    | succ n => exact ih n
theorem VRs.rev {xs : List Vd} {vs : List V} (r : VRs K B m xs vs) : VRs K B m xs.reverse vs.reverse := by
  induction r with
  | nil => exact .nil
  | cons h t ih => rw [List.reverse_cons, List.reverse_cons]; exact ih.app (.cons h .nil)
theorem VRs.all {ds : List PyData} {vs : List V} (r : DaAll K B vs ds) : VRs K B m (ds.map .d) vs := by
  induction ds generalizing vs with
  | nil => cases r; exact .nil
  | cons d ds ih => cases r with
    | cons h t => exact .cons (.d h) (ih t)
theorem VRs.data {ds : List PyData} {vs : List V} (r : VRs K B m (ds.map .d) vs) : DaAll K B vs ds := by
  induction ds generalizing vs with
  | nil => cases r; exact .nil
  | cons d ds ih => cases r with
    | cons h t => cases h with
      | d h => exact .cons h (ih t)
theorem WOk.at (w : WOk K B H m h) {n : Nat} {e : Ent} (q : h[n]? = some e) : ∃ a, m[n]? = some a ∧ EntR K B H m a e := by
  have l : n < m.length := by rw [w.len]; exact (List.getElem?_eq_some_iff.mp q).1
  exact ⟨_, List.getElem?_eq_getElem l, w.ent n _ e (List.getElem?_eq_getElem l) q⟩
theorem WOk.tracked (w : WOk K B H m h) {a : Addr} (q : a ∈ m) : H a ≠ none := by
  obtain ⟨n, hn, e⟩ := List.getElem_of_mem q
  have l : n < h.length := by rw [← w.len]; exact hn
  have z := w.ent n a h[n] (by rw [List.getElem?_eq_getElem hn, e]) (List.getElem?_eq_getElem l)
  match hh : h[n], z with
  | .lst xs, z => obtain ⟨_, vs, q, _⟩ := z; rw [q]; simp
  | .frz x, z => exact z.2
theorem Gm.refl (w : WOk K B H m h) : Gm m B H B H m :=
  ⟨Same.refl _, fun _ _ _ e => e, fun a o e n => (by rw [n] at e; cases e), fun _ e => e, [], by simp, by simp⟩
theorem Gm.trans (k : Gm m B H B1 H1 m1) (w : WOk K B H m h) (l : Gm m1 B1 H1 B2 H2 m2) : Gm m B H B2 H2 m2 := by
  obtain ⟨l1, rfl, f1⟩ := k.ext
  obtain ⟨l2, rfl, f2⟩ := l.ext
  have notin : ∀ {a o}, a ∉ m → H a = some o → a ∉ m ++ l1 := fun {a o} n e z => by
    rcases List.mem_append.mp z with z | z
    · exact n z
    · rw [f1 a z] at e; cases e
  refine ⟨k.bb.trans l.bb, fun a o n e => l.ex a o (notin n e) (k.ex a o n e), fun a o e n => ?_, fun a e => l.kp a (k.kp a e), l1 ++ l2, by rw [List.append_assoc], fun a z => ?_⟩
  · cases q : B1 a with
    | some u => exact k.new a u q n
    | none =>
      rcases l.new a o e q with z | z
      · cases c : H a with
        | none => exact .inl rfl
        | some u => exact absurd z (k.kp a (by rw [c]; simp))
      · rcases List.mem_append.mp z with z | z
        · exact .inr z
        · exact .inl (f1 a z)
  · rcases List.mem_append.mp z with z | z
    · exact f1 a z
    · have c := f2 a z
      cases d : H a with
      | none => rfl
      | some u => exact absurd c (k.kp a (by rw [d]; simp))
/-- a step that keeps all that is tracked -/
theorem Gm.of (w : WOk K B H m h) (k : Gr B H B1 H1) : Gm m B H B1 H1 m :=
  ⟨k.bb, fun a o _ e => k.ex a o e, fun a o e n => .inl (k.new a o e n), fun a e => (by
    cases c : H a with
    | none => exact absurd c e
    | some u => rw [k.ex a u c]; simp), [], by simp, by simp⟩
theorem WOk.gr (w : WOk K B H m h) (k : Gr B H B1 H1) : WOk K B1 H1 m h := by
  refine ⟨k.sub, w.len, w.nd, fun n a e p q => ?_⟩
  have z := w.ent n a e p q
  match e, z with
  | .lst xs, ⟨z1, vs, z2, z3⟩ =>
    refine ⟨?_, vs, k.ex _ _ z2, by simpa using z3.mono k.bb []⟩
    cases c : B1 a with
    | none => rfl
    | some o => exact absurd (k.new a o c z1) (by rw [z2]; simp)
  | .frz x, ⟨z1, z2⟩ =>
    refine ⟨z1.mono k.bb, ?_⟩
    cases c : H a with
    | none => exact absurd c z2
    | some u => rw [k.ex a u c]; simp
theorem wok_nil (s : Same B H) : WOk K B H [] [] := ⟨s, rfl, .nil, fun n a e p _ => by simp at p⟩
end

/-! names -/
structure EnvN (K : PySem.W.Frag) (B : Hp) (m : List Addr) (σ : L2.St) (ρ : Rh) : Prop where
  len : σ.length = ρ.length
  look : ∀ (i : Nat) (x : Vd), ρ[i]? = some (some x) → ∃ v, σ[i]? = some (some v) ∧ VR K B m x v
section
variable {K : PySem.W.Frag} {B H B1 H1 : Hp} {m m1 : List Addr} {σ : L2.St} {ρ : Rh}
theorem EnvN.gm (e : EnvN K B m σ ρ) (g : Gm m B H B1 H1 m1) : EnvN K B1 m1 σ ρ := ⟨e.len, fun i x q => by
  obtain ⟨v, h1, h2⟩ := e.look i x q
  exact ⟨v, h1, h2.gm g⟩⟩
theorem EnvN.put (e : EnvN K B m σ ρ) (i : Nat) {ov : Option V} {ox : Option Vd} (hv : ∀ x, ox = some x → ∃ v, ov = some v ∧ VR K B m x v) : EnvN K B m (σ.set i ov) (ρ.set i ox) :=
  ⟨by rw [List.length_set, List.length_set]; exact e.len, fun j x q => by
    by_cases c : i = j
    · subst c
      have l : i < ρ.length := by
        have z := (List.getElem?_eq_some_iff.mp q).1
        rw [List.length_set] at z
        exact z
      rw [List.getElem?_set_self l] at q
      obtain ⟨v, rfl, hr⟩ := hv x (Option.some.inj q)
      exact ⟨v, by rw [List.getElem?_set_self (by rw [e.len]; exact l)], hr⟩
    · rw [List.getElem?_set_ne c] at q
      obtain ⟨w, h1, h2⟩ := e.look j x q
      exact ⟨w, by rw [List.getElem?_set_ne c]; exact h1, h2⟩⟩
theorem EnvN.set (e : EnvN K B m σ ρ) {x : Vd} {v : V} (hv : VR K B m x v) (i : Nat) : EnvN K B m (σ.set i (some v)) (ρ.set i (some x)) :=
  e.put i fun y hy => by cases hy; exact ⟨v, rfl, hv⟩
theorem EnvN.unset (e : EnvN K B m σ ρ) (i : Nat) (ov : Option V) : EnvN K B m (σ.set i ov) (ρ.set i none) := e.put i fun y hy => nomatch hy
end
def wipeN (ρ : Rh) : List Nat → Rh
  | [] => ρ
  | v :: vs => (wipeN ρ vs).set v none
theorem EnvN.wiped {K : PySem.W.Frag} {B : Hp} {m : List Addr} {σ : L2.St} {ρ : Rh} (e : EnvN K B m σ ρ) : ∀ vs, EnvN K B m (wipe σ vs) (wipeN ρ vs)
  | [] => e
  | v :: vs => (e.wiped vs).unset v none
def startN (n : Nat) (xs : List Vd) : Rh := xs.map some ++ List.replicate (n - xs.length) none
theorem envn_start {K : PySem.W.Frag} {B : Hp} {m : List Addr} {N : List Str} {vs : List V} {xs : List Vd} (h : VRs K B m xs vs) : EnvN K B m (L2.start N vs) (startN N.length xs) := by
  have hl := h.len
  refine ⟨by unfold L2.start startN; simp [hl], fun i d q => ?_⟩
  unfold startN at q
  by_cases hi : i < xs.length
  · rw [List.getElem?_append_left (by simpa using hi), List.getElem?_map] at q
    cases e : xs[i]? with
    | none => rw [e] at q; cases q
    | some c =>
      rw [e] at q
      cases q
      obtain ⟨v, h1, h2⟩ := h.at e
      refine ⟨v, ?_, h2⟩
      unfold L2.start
      rw [List.getElem?_append_left (by simpa [hl] using hi), List.getElem?_map, h1]
      rfl
  · rw [List.getElem?_append_right (by simpa using hi), List.getElem?_replicate] at q
    split at q <;> cases q
end N
end
section
set_option maxRecDepth 100000
set_option maxHeartbeats 2000000
/-! own lists looked at as data; frozen into data; functions over data -/
namespace N
open PySem PySem.Spec PyProof.Rows L2 G

def mapO {α β : Type} (f : α → Option β) : List α → Option (List β)
  | [] => some []
  | x :: xs => match f x with
    | none => none
    | some y => match mapO f xs with
      | none => none
      | some ys => some (y :: ys)
def mapH {α β : Type} (f : Hd → α → Option (β × Hd)) : Hd → List α → Option (List β × Hd)
  | h, [] => some ([], h)
  | h, x :: xs => match f h x with
    | none => none
    | some (y, h1) => match mapH f h1 xs with
      | none => none
      | some (ys, h2) => some (y :: ys, h2)
def pk : Nat → Hd → Vd → Option PyData
  | _, _, .d x => some x
  | 0, _, .r _ => none
  | k + 1, h, .r n => match h[n]? with
    | some (.frz x) => some x
    | some (.lst xs) => (mapO (pk k h) xs).map .list
    | none => none
def fz : Nat → Hd → Vd → Option (PyData × Hd)
  | _, h, .d x => some (x, h)
  | 0, _, .r _ => none
  | k + 1, h, .r n => match h[n]? with
    | some (.frz x) => some (x, h)
    | some (.lst xs) => match mapH (fz k) h xs with
      | none => none
      | some (ds, h1) => some (.list ds, h1.set n (.frz (.list ds)))
    | none => none
def look (h : Hd) (x : Vd) : Option PyData := pk 4 h x
def lookL (h : Hd) (xs : List Vd) : Option (List PyData) := mapO (look h) xs
def frz (h : Hd) (x : Vd) : Option (PyData × Hd) := fz 4 h x
def frzL (h : Hd) (xs : List Vd) : Option (List PyData × Hd) := mapH frz h xs
def lnd (B H : Hp) (m : List Addr) : Hp := fun a => if a ∈ m then H a else B a
def atom : PyData → Bool
  | .none => true
  | .bool _ => true
  | .int _ => true
  | .str _ => true
  | _ => false
def datas : List Vd → Option (List PyData)
  | [] => some []
  | .d x :: xs => match datas xs with
    | none => none
    | some ys => some (x :: ys)
  | .r _ :: _ => none

section
variable {K : PySem.W.Frag} {B H B1 H1 : Hp} {m m1 : List Addr} {h : Hd}
theorem lnd_sub (s : Same B H) : Same (lnd B H m) H := fun a o e => by
  unfold lnd at e
  split at e
  · exact e
  · exact s a o e
theorem lnd_up (s : Same B H) : Same B (lnd B H m) := fun a o e => by
  unfold lnd
  split
  · exact s a o e
  · exact e
theorem atom_any {v : V} {x : PyData} (a : atom x = true) (q : Da K B v x) : Da K B1 v x := by
  cases q with
  | non => exact .non
  | bl b => exact .bl b
  | int i => exact .int i
  | str s => exact .str s
  | lst _ _ => simp [atom] at a
  | tup _ _ => simp [atom] at a
  | emp _ => simp [atom] at a
theorem pk_ok (w : WOk K B H m h) : ∀ (k : Nat) {x : Vd} {d : PyData} {v : V}, pk k h x = some d → VR K B m x v → Da K (lnd B H m) v d
  | k, .d y, d, v, e, .d q => by
    unfold pk at e
    cases e
    exact q.mono (lnd_up w.sub)
  | 0, .r n, d, _, e, .r q => by simp [pk] at e
  | k + 1, .r n, d, _, e, .r (a := a) q => by
    unfold pk at e
    cases c : h[n]? with
    | none => rw [c] at e; simp at e
    | some en =>
      rw [c] at e
      have z := w.ent n a en q c
      cases en with
      | frz y =>
        cases e
        exact z.1.mono (lnd_up w.sub)
      | lst xs =>
        obtain ⟨_, vs, hv, rs⟩ := z
        simp only [Option.map_eq_some_iff] at e
        obtain ⟨ds, e1, rfl⟩ := e
        refine .lst (xs := vs) (.of (by unfold lnd; rw [if_pos (List.mem_of_getElem? q)]; exact hv)) ?_
        clear c hv
        induction rs generalizing ds with
        | nil => unfold mapO at e1; cases e1; exact .nil
        | cons hx _ ih =>
          unfold mapO at e1
          split at e1
          · cases e1
          · rename_i y ey
            split at e1
            · cases e1
            · rename_i ys eys
              cases e1
              exact .cons (pk_ok w k ey hx) (ih _ eys)
theorem lookL_ok (w : WOk K B H m h) {xs : List Vd} {ds : List PyData} {vs : List V} (e : lookL h xs = some ds) (r : VRs K B m xs vs) : DaAll K (lnd B H m) vs ds := by
  unfold lookL at e
  induction r generalizing ds with
  | nil => unfold mapO at e; cases e; exact .nil
  | cons hx _ ih =>
    unfold mapO at e
    split at e
    · cases e
    · rename_i y ey
      split at e
      · cases e
      · rename_i ys eys
        cases e
        exact .cons (pk_ok w 4 ey hx) (ih eys)
theorem datas_ok : ∀ {xs : List Vd} {ds : List PyData}, datas xs = some ds → xs = ds.map .d
  | [], _, e => by unfold datas at e; cases e; rfl
  | .d x :: xs, ds, e => by
    unfold datas at e
    split at e
    · cases e
    · rename_i ys q
      cases e
      rw [datas_ok q]
      rfl
  | .r _ :: _, _, e => by unfold datas at e; cases e
/-- one own list becomes data -/
theorem frz_one (w : WOk K B H m h) {n : Nat} {a : Addr} {xs : List Vd} {vs : List V} {ds : List PyData} (q : m[n]? = some a) (hv : H a = some (.lst vs)) (hd : DaAll K B vs ds) :
    ∃ B1, Gm m B H B1 H m ∧ WOk K B1 H m (h.set n (.frz (.list ds))) ∧ Da K B1 (.ref a) (.list ds) := by
  have bb : Same B (upd B a (.lst vs)) := fun b o e => by
    by_cases c : b = a
    · subst c
      rw [upd_same]
      have := w.sub _ _ e
      rw [hv] at this
      exact this
    · rw [upd_ne c]
      exact e
  have da : Da K (upd B a (.lst vs)) (.ref a) (.list ds) := .lst (.of upd_same) (hd.mono bb)
  refine ⟨upd B a (.lst vs), ⟨bb, fun _ _ _ e => e, fun b o e e0 => ?_, fun _ e => e, [], by simp, by simp⟩, ⟨fun b o e => ?_, by rw [List.length_set]; exact w.len, w.nd, fun j b en p e => ?_⟩, da⟩
  · by_cases c : b = a
    · subst c; exact .inr (List.mem_of_getElem? q)
    · rw [upd_ne c, e0] at e; cases e
  · by_cases c : b = a
    · subst c; rw [upd_same] at e; rw [← e]; exact hv
    · rw [upd_ne c] at e; exact w.sub b o e
  · by_cases c : n = j
    · subst c
      have l : n < h.length := by
        have z := (List.getElem?_eq_some_iff.mp e).1
        rw [List.length_set] at z
        exact z
      rw [List.getElem?_set_self l] at e
      cases e
      rw [q] at p
      cases p
      exact ⟨da, by rw [hv]; simp⟩
    · rw [List.getElem?_set_ne c] at e
      have z := w.ent j b en p e
      have ne : b ≠ a := fun x => by
        subst x
        obtain ⟨h1, e1⟩ := List.getElem?_eq_some_iff.mp p
        obtain ⟨h2, e2⟩ := List.getElem?_eq_some_iff.mp q
        exact c ((List.getElem_inj w.nd).mp (e2.trans e1.symm))
      match en, z with
      | .lst ys, ⟨z1, us, z2, z3⟩ => exact ⟨by rw [upd_ne ne]; exact z1, us, z2, by simpa using z3.mono bb []⟩
      | .frz y, ⟨z1, z2⟩ => exact ⟨z1.mono bb, z2⟩
theorem mapH_ok {f : Hd → Vd → Option (PyData × Hd)} (ok : ∀ {B : Hp} {h : Hd} {x : Vd} {d : PyData} {h1 : Hd} {v : V}, WOk K B H m h → f h x = some (d, h1) → VR K B m x v → ∃ B1, Gm m B H B1 H m ∧ WOk K B1 H m h1 ∧ Da K B1 v d) :
    ∀ {xs : List Vd} {vs : List V} {B : Hp} {h : Hd} {ds : List PyData} {h1 : Hd}, WOk K B H m h → mapH f h xs = some (ds, h1) → VRs K B m xs vs → ∃ B1, Gm m B H B1 H m ∧ WOk K B1 H m h1 ∧ DaAll K B1 vs ds
  | [], _, B, h, ds, h1, w, e, .nil => by
    unfold mapH at e
    cases e
    exact ⟨B, .refl w, w, .nil⟩
  | x :: xs, _, B, h, ds, h1, w, e, .cons hx t => by
    unfold mapH at e
    split at e
    · cases e
    · rename_i y h2 ey
      split at e
      · cases e
      · rename_i ys h3 eys
        cases e
        obtain ⟨B1, g1, w1, d1⟩ := ok w ey hx
        obtain ⟨B2, g2, w2, d2⟩ := mapH_ok ok w1 eys (t.gm g1)
        exact ⟨B2, g1.trans w g2, w2, .cons (d1.mono g2.bb) d2⟩
theorem fz_ok : ∀ (k : Nat) {B : Hp} {h : Hd} {x : Vd} {d : PyData} {h1 : Hd} {v : V}, WOk K B H m h → fz k h x = some (d, h1) → VR K B m x v → ∃ B1, Gm m B H B1 H m ∧ WOk K B1 H m h1 ∧ Da K B1 v d
  | k, B, h, .d y, d, h1, v, w, e, .d q => by
    unfold fz at e
    cases e
    exact ⟨B, .refl w, w, q⟩
  | 0, B, h, .r n, d, h1, _, w, e, .r q => by simp [fz] at e
  | k + 1, B, h, .r n, d, h1, _, w, e, .r (a := a) q => by
    unfold fz at e
    cases c : h[n]? with
    | none => rw [c] at e; cases e
    | some en =>
      rw [c] at e
      have z := w.ent n a en q c
      cases en with
      | frz y =>
        cases e
        exact ⟨B, .refl w, w, z.1⟩
      | lst xs =>
        obtain ⟨_, vs, hv, rs⟩ := z
        dsimp only at e
        split at e
        · cases e
        · rename_i ds h2 e2
          cases e
          obtain ⟨B1, g1, w1, d1⟩ := mapH_ok (fun {B h x d h1 v} => fz_ok k) w e2 rs
          obtain ⟨B2, g2, w2, d2⟩ := frz_one (xs := xs) w1 q hv d1
          exact ⟨B2, g1.trans w g2, w2, d2⟩
theorem frz_ok {x : Vd} {d : PyData} {h1 : Hd} {v : V} (w : WOk K B H m h) (e : frz h x = some (d, h1)) (r : VR K B m x v) : ∃ B1, Gm m B H B1 H m ∧ WOk K B1 H m h1 ∧ Da K B1 v d := fz_ok 4 w e r
theorem frzL_ok {xs : List Vd} {ds : List PyData} {h1 : Hd} {vs : List V} (w : WOk K B H m h) (e : frzL h xs = some (ds, h1)) (r : VRs K B m xs vs) : ∃ B1, Gm m B H B1 H m ∧ WOk K B1 H m h1 ∧ DaAll K B1 vs ds :=
  mapH_ok (fun {B h x d h1 v} => fz_ok 4) w e r
end
end N
end
section
set_option maxRecDepth 100000
set_option maxHeartbeats 2000000
/-! what an expression is worth, beside its reading -/
namespace N
open PySem PySem.Spec PyProof.Rows L2 G

structure Ctx where
  K : PySem.W.Frag
  CL : Str → Addr
abbrev Md := Option WX
def rV (C : Ctx) : Hp → List Addr → Vd → V → Prop := fun B m x v => VR C.K B m x v
def rL (C : Ctx) : Hp → List Addr → List Vd → List V → Prop := fun B m x v => VRs C.K B m x v
def rB : Hp → List Addr → Bool → Bool → Prop := fun _ _ x v => x = v
def Po {α β : Type} (C : Ctx) (md : Md) (σ : L2.St) (rel : Hp → List Addr → α → β → Prop) (m : List Addr) (B H : Hp) (oc : Oc α) (Q : β → Hp → Prop) : Prop :=
  match oc with
  | .ok x h' => ∀ v B' H' m', Gm m B H B' H' m' → WOk C.K B' H' m' h' → rel B' m' x v → Q v H'
  | .ex c x h' => ∃ W, md = some W ∧ ∀ dd v B' H' m', Gm m B H B' H' m' → WOk C.K B' H' m' h' → B' dd = none → H dd = none → dd ∉ m' → H' dd = some (.xd [("value", v)]) → Da C.K B' v x → W (.ref (C.CL c)) (some dd) σ H'
  | .no => False
section
variable {α β γ δ : Type} {C : Ctx} {md : Md} {σ : L2.St} {B H B1 H1 : Hp} {m m1 : List Addr} {h : Hd}
theorem Po.shift {rel : Hp → List Addr → α → β → Prop} {oc : Oc α} {Q : β → Hp → Prop} (g : Gm m B H B1 H1 m1) (w : WOk C.K B H m h) (q : Po C md σ rel m B H oc Q) : Po C md σ rel m1 B1 H1 oc Q := by
  cases oc with
  | ok x h' => exact fun v B' H' m' g2 w2 r => q v B' H' m' (g.trans w g2) w2 r
  | ex c x h' =>
    obtain ⟨W, e, k⟩ := q
    refine ⟨W, e, fun dd v B' H' m' g2 w2 b0 h0 n hx d => k dd v B' H' m' (g.trans w g2) w2 b0 ?_ n hx d⟩
    cases c : H dd with
    | none => rfl
    | some o => exact absurd h0 (g.kp dd (by rw [c]; simp))
  | no => exact q
theorem Po.chain {ra : Hp → List Addr → α → β → Prop} {rc : Hp → List Addr → γ → δ → Prop} {a : Oc α} {k : α → Hd → Oc γ} {Q : δ → Hp → Prop} {Q' : β → Hp → Prop} (w : WOk C.K B H m h) (q : Po C md σ rc m B H (a.bind k) Q)
    (f : ∀ x h1 v B1 H1 m1, a = .ok x h1 → Gm m B H B1 H1 m1 → WOk C.K B1 H1 m1 h1 → ra B1 m1 x v → Po C md σ rc m1 B1 H1 (k x h1) Q → Q' v H1) : Po C md σ ra m B H a Q' := by
  cases a with
  | ok x h1 => exact fun v B1 H1 m1 g w1 r => f x h1 v B1 H1 m1 rfl g w1 r (Po.shift g w q)
  | ex c x h1 => exact q
  | no => exact q
end

structure SE where
  ev : Rh → Hd → Oc Vd
  t : Ctx → Md → TE
  ok : ∀ (C : Ctx) (md : Md) (ρ : Rh) (h : Hd) (σ : L2.St) (B H : Hp) (m : List Addr) (Q : VK), EnvN C.K B m σ ρ → WOk C.K B H m h → Po C md σ (rV C) m B H (ev ρ h) Q → t C md σ H Q
structure SL where
  ev : Rh → Hd → Oc (List Vd)
  t : Ctx → Md → TA
  ok : ∀ (C : Ctx) (md : Md) (ρ : Rh) (h : Hd) (σ : L2.St) (B H : Hp) (m : List Addr) (Q : List V → Hp → Prop), EnvN C.K B m σ ρ → WOk C.K B H m h → Po C md σ (rL C) m B H (ev ρ h) Q → t C md σ H Q
structure SB where
  ev : Rh → Hd → Oc Bool
  t : Ctx → Md → TT
  ok : ∀ (C : Ctx) (md : Md) (ρ : Rh) (h : Hd) (σ : L2.St) (B H : Hp) (m : List Addr) (Q : Bool → Hp → Prop), EnvN C.K B m σ ρ → WOk C.K B H m h → Po C md σ rB m B H (ev ρ h) Q → t C md σ H Q

/-! functions over data, of values -/
def fnV (f : List PyData → Option PyData) (rs : List Vd) (h : Hd) : Oc Vd :=
  match datas rs with
  | some xs => match f xs with
    | some z => .ok (.d z) h
    | none => .no
  | none => match lookL h rs with
    | none => .no
    | some xs => match f xs with
      | none => .no
      | some z => if atom z = true then .ok (.d z) h else match frzL h rs with
        | none => .no
        | some (ys, h1) => match f ys with
          | none => .no
          | some z1 => .ok (.d z1) h1
section
variable {C : Ctx} {md : Md} {σ : L2.St} {B H : Hp} {m : List Addr} {h : Hd}
theorem Po.ret {v : V} {x : Vd} {Q : VK} {B1 H1 : Hp} {m1 : List Addr} (q : Po C md σ (rV C) m B H (.ok x h) Q) (g : Gm m B H B1 H1 m1) (w : WOk C.K B1 H1 m1 h) (r : VR C.K B1 m1 x v) : Q v H1 := q v B1 H1 m1 g w r
theorem fnV_ok {f : List PyData → Option PyData} {r : List V → Hp → VK → Prop} (hf : ∀ xs z, f xs = some z → Fn C.K r xs z) {rs : List Vd} {vs : List V} {Q : VK} (w : WOk C.K B H m h) (rr : VRs C.K B m rs vs)
    (q : Po C md σ (rV C) m B H (fnV f rs h) Q) : r vs H Q := by
  unfold fnV at q
  split at q
  · rename_i xs e
    split at q
    · rename_i z ez
      rw [datas_ok e] at rr
      exact hf xs z ez B H w.sub vs rr.data Q fun u B' H' g d => q u B' H' m (.of w g) (w.gr g) (.d d)
    · exact q.elim
  · split at q
    · exact q.elim
    · rename_i xs e
      split at q
      · exact q.elim
      · rename_i z ez
        split at q
        · rename_i at_
          have da := lookL_ok w e rr
          refine hf xs z ez _ H (lnd_sub w.sub) vs da Q fun u B' H' g d => ?_
          have g2 : Gr B H B H' := ⟨g.ex, Same.refl _, w.sub.trans g.ex, fun a o p n => by rw [n] at p; cases p⟩
          exact q u B H' m (.of w g2) (w.gr g2) (.d (atom_any at_ d))
        · split at q
          · exact q.elim
          · rename_i ys h1 ef
            split at q
            · exact q.elim
            · rename_i z1 e1
              obtain ⟨B1, g1, w1, d1⟩ := frzL_ok w ef rr
              exact hf ys z1 e1 B1 H w1.sub vs d1 Q fun u B' H' g d => q u B' H' m (g1.trans w (.of w1 g)) (w1.gr g) (.d d)
end

/-! operations of two values -/
structure O2 where
  f : PyData → PyData → Option PyData
  r : PySem.W.Frag → R2
  ok : ∀ K x y z, f x y = some z → Op2 K (r K) x y z
def f2 (f : PyData → PyData → Option PyData) : List PyData → Option PyData
  | [x, y] => f x y
  | _ => none
def r2L (r : R2) : List V → Hp → VK → Prop := fun us H Q => ∃ u v, us = [u, v] ∧ r u v H Q
theorem O2.fn (o : O2) (K : PySem.W.Frag) : ∀ xs z, f2 o.f xs = some z → Fn K (r2L (o.r K)) xs z := fun xs z e => by
  match xs, e with
  | [x, y], e =>
    intro B H s us hu Q q
    cases hu with
    | cons h1 t =>
      cases t with
      | cons h2 t =>
        cases t
        exact ⟨_, _, rfl, o.ok K x y z e B H s _ _ h1 h2 Q q⟩
structure O1 where
  f : PyData → Option PyData
  r : PySem.W.Frag → V → Hp → VK → Prop
  ok : ∀ K x z, f x = some z → Fn K (fun us H Q => ∃ u, us = [u] ∧ r K u H Q) [x] z
structure ON where
  f : List PyData → Option PyData
  r : PySem.W.Frag → List V → Hp → VK → Prop
  ok : ∀ K xs z, f xs = some z → Fn K (r K) xs z

namespace SE
def var (i : Nat) : SE where
  ev := fun ρ h => match ρ[i]? with
    | some (some x) => .ok x h
    | _ => .no
  t := fun _ _ => tVar i
  ok := fun C md ρ h σ B H m Q e w q => by
    split at q
    · rename_i x ex
      obtain ⟨v, h1, h2⟩ := e.look i x ex
      exact ⟨v, h1, q v B H m (.refl w) w h2⟩
    · exact q.elim
def const (d : PyData) (v : V) (ok : ∀ K B, Da K B v d) : SE where
  ev := fun _ h => .ok (.d d) h
  t := fun _ _ => tC v
  ok := fun C md ρ h σ B H m Q e w q => q v B H m (.refl w) w (.d (ok _ _))
abbrev int (i : Int) : SE := const (.int i) (.int i) fun _ _ => .int i
abbrev bl (b : Bool) : SE := const (.bool b) (.bl b) fun _ _ => .bl b
abbrev non : SE := const .none .non fun _ _ => .non
abbrev str (x : Str) : SE := const (.str x) (.str x) fun _ _ => .str x
def op (o : O2) (a b : SE) : SE where
  ev := fun ρ h => (a.ev ρ h).bind fun x h1 => (b.ev ρ h1).bind fun y h2 => fnV (f2 o.f) [x, y] h2
  t := fun C md => tOp (o.r C.K) (a.t C md) (b.t C md)
  ok := fun C md ρ h σ B H m Q e w q => by
    refine a.ok C md ρ h σ B H m _ e w (Po.chain w q fun x h1 u B1 H1 m1 ea g1 w1 r1 q1 => ?_)
    refine b.ok C md ρ h1 σ B1 H1 m1 _ (e.gm g1) w1 (Po.chain w1 q1 fun y h2 v B2 H2 m2 eb g2 w2 r2 q2 => ?_)
    obtain ⟨u', v', e', z⟩ := fnV_ok (o.fn C.K) w2 (.cons (VR.gm r1 g2) (.cons r2 .nil)) q2
    cases e'
    exact z
def un (o : O1) (a : SE) : SE where
  ev := fun ρ h => (a.ev ρ h).bind fun x h1 => fnV (fun xs => match xs with | [x] => o.f x | _ => none) [x] h1
  t := fun C md => tUn (o.r C.K) (a.t C md)
  ok := fun C md ρ h σ B H m Q e w q => by
    refine a.ok C md ρ h σ B H m _ e w (Po.chain w q fun x h1 u B1 H1 m1 ea g1 w1 r1 q1 => ?_)
    obtain ⟨u', e', z⟩ := fnV_ok (r := fun us H Q => ∃ u, us = [u] ∧ o.r C.K u H Q) (fun xs z ez => by
      match xs, ez with
      | [x], ez => exact o.ok C.K x z ez) w1 (.cons r1 .nil) q1
    cases e'
    exact z
def chain (o o' : O2) (a b c : SE) : SE where
  ev := fun ρ h => (a.ev ρ h).bind fun x h1 => (b.ev ρ h1).bind fun y h2 => (fnV (f2 o.f) [x, y] h2).bind fun k h3 => match k with
    | .d (.bool true) => (c.ev ρ h3).bind fun z h4 => fnV (f2 o'.f) [y, z] h4
    | .d (.bool false) => .ok (.d (.bool false)) h3
    | _ => .no
  t := fun C md => tChain (o.r C.K) (o'.r C.K) (a.t C md) (b.t C md) (c.t C md)
  ok := fun C md ρ h σ B H m Q e w q => by
    refine a.ok C md ρ h σ B H m _ e w (Po.chain w q fun x h1 u B1 H1 m1 ea g1 w1 r1 q1 => ?_)
    refine b.ok C md ρ h1 σ B1 H1 m1 _ (e.gm g1) w1 (Po.chain w1 q1 fun y h2 v B2 H2 m2 eb g2 w2 r2 q2 => ?_)
    have z := fnV_ok (md := md) (σ := σ) (r := r2L (o.r C.K)) (o.fn C.K) (Q := fun z H3 => ∃ k, z = .bl k ∧ (if k = true then c.t C md σ H3 fun w' H4 => o'.r C.K v w' H4 Q else Q (.bl false) H3)) w2 (.cons (VR.gm r1 g2) (.cons r2 .nil))
      (Po.chain w2 q2 fun k h3 kv B3 H3 m3 ek g3 w3 r3 q3 => by
        match k, r3, q3 with
        | .d (.bool true), .d (.bl _), q3 =>
          refine ⟨true, rfl, iteT (c.ok C md ρ h3 σ B3 H3 m3 _ (((e.gm g1).gm g2).gm g3) w3 (Po.chain w3 q3 fun z h4 zv B4 H4 m4 ez g4 w4 r4 q4 => ?_))⟩
          obtain ⟨u', v', e', z⟩ := fnV_ok (o'.fn C.K) w4 (.cons (VR.gm (VR.gm r2 g3) g4) (.cons r4 .nil)) q4
          cases e'
          exact z
        | .d (.bool false), .d (.bl _), q3 => exact ⟨false, rfl, iteF (q3 _ B3 H3 m3 (.refl w3) w3 (.d (.bl _)))⟩)
    obtain ⟨u', v', e', z⟩ := z
    cases e'
    exact z
def cb (o : ON) (a : SL) : SE where
  ev := fun ρ h => (a.ev ρ h).bind fun xs h1 => fnV o.f xs h1
  t := fun C md => tCB (o.r C.K) (a.t C md)
  ok := fun C md ρ h σ B H m Q e w q =>
    a.ok C md ρ h σ B H m _ e w (Po.chain w q fun xs h1 us B1 H1 m1 ea g1 w1 r1 q1 => fnV_ok (o.ok C.K) w1 r1 q1)
def andV (a b : SE) : SE where
  ev := fun ρ h => (a.ev ρ h).bind fun x h1 => match x with
    | .d (.bool true) => b.ev ρ h1
    | .d (.bool false) => .ok (.d (.bool false)) h1
    | _ => .no
  t := fun C md => tAndV (a.t C md) (b.t C md)
  ok := fun C md ρ h σ B H m Q e w q => by
    refine a.ok C md ρ h σ B H m _ e w (Po.chain w q fun x h1 u B1 H1 m1 ea g1 w1 r1 q1 => ?_)
    match x, r1, q1 with
    | .d (.bool true), .d (.bl _), q1 => exact ⟨true, rfl, iteT (b.ok C md ρ h1 σ B1 H1 m1 Q (e.gm g1) w1 q1)⟩
    | .d (.bool false), .d (.bl _), q1 => exact ⟨false, rfl, iteF (q1 _ B1 H1 m1 (.refl w1) w1 (.d (.bl _)))⟩
def orV (a b : SE) : SE where
  ev := fun ρ h => (a.ev ρ h).bind fun x h1 => match x with
    | .d (.bool false) => b.ev ρ h1
    | .d (.bool true) => .ok (.d (.bool true)) h1
    | _ => .no
  t := fun C md => tOrV (a.t C md) (b.t C md)
  ok := fun C md ρ h σ B H m Q e w q => by
    refine a.ok C md ρ h σ B H m _ e w (Po.chain w q fun x h1 u B1 H1 m1 ea g1 w1 r1 q1 => ?_)
    match x, r1, q1 with
    | .d (.bool false), .d (.bl _), q1 => exact ⟨false, rfl, iteF (b.ok C md ρ h1 σ B1 H1 m1 Q (e.gm g1) w1 q1)⟩
    | .d (.bool true), .d (.bl _), q1 => exact ⟨true, rfl, iteT (q1 _ B1 H1 m1 (.refl w1) w1 (.d (.bl _)))⟩
def notV (a : SE) : SE where
  ev := fun ρ h => (a.ev ρ h).bind fun x h1 => match x with
    | .d (.bool c) => .ok (.d (.bool (!c))) h1
    | _ => .no
  t := fun C md => tNotV (a.t C md)
  ok := fun C md ρ h σ B H m Q e w q => by
    refine a.ok C md ρ h σ B H m _ e w (Po.chain w q fun x h1 u B1 H1 m1 ea g1 w1 r1 q1 => ?_)
    match x, r1, q1 with
    | .d (.bool c), .d (.bl _), q1 => exact ⟨c, rfl, q1 _ B1 H1 m1 (.refl w1) w1 (.d (.bl _))⟩
def ifx (c : SB) (a b : SE) : SE where
  ev := fun ρ h => (c.ev ρ h).bind fun x h1 => match x with
    | true => a.ev ρ h1
    | false => b.ev ρ h1
  t := fun C md => tIf (c.t C md) (a.t C md) (b.t C md)
  ok := fun C md ρ h σ B H m Q e w q => by
    refine c.ok C md ρ h σ B H m _ e w (Po.chain w q fun x h1 u B1 H1 m1 ea g1 w1 r1 q1 => ?_)
    cases r1
    cases x with
    | true => exact iteT (a.ok C md ρ h1 σ B1 H1 m1 Q (e.gm g1) w1 q1)
    | false => exact iteF (b.ok C md ρ h1 σ B1 H1 m1 Q (e.gm g1) w1 q1)
/-- a tuple, a list, as data -/
def tup (a : SL) : SE where
  ev := fun ρ h => (a.ev ρ h).bind fun xs h1 => match frzL h1 xs with
    | none => .no
    | some (ds, h2) => if ds.length ≤ 1000000 then .ok (.d (.tuple ds)) h2 else .no
  t := fun C md => tTup (a.t C md)
  ok := fun C md ρ h σ B H m Q e w q => by
    refine a.ok C md ρ h σ B H m _ e w (Po.chain w q fun xs h1 us B1 H1 m1 ea g1 w1 r1 q1 => ?_)
    split at q1
    · exact q1.elim
    · rename_i ds h2 ef
      split at q1
      · rename_i hl
        obtain ⟨B2, g2, w2, d2⟩ := frzL_ok w1 ef r1
        refine ⟨by rw [d2.len, sizeLine_eq]; omega, fun p hp => ?_⟩
        have k := Gr.add w2.sub hp (.tup us)
        exact q1 _ _ _ _ (g2.trans w1 (.of w2 k)) (w2.gr k) (.d (.tup (.of upd_same) (d2.mono k.bb)))
      · exact q1.elim
def lst (a : SL) : SE where
  ev := fun ρ h => (a.ev ρ h).bind fun xs h1 => match frzL h1 xs with
    | none => .no
    | some (ds, h2) => if ds.length ≤ 1000000 then .ok (.d (.list ds)) h2 else .no
  t := fun C md => tLst (a.t C md)
  ok := fun C md ρ h σ B H m Q e w q => by
    refine a.ok C md ρ h σ B H m _ e w (Po.chain w q fun xs h1 us B1 H1 m1 ea g1 w1 r1 q1 => ?_)
    split at q1
    · exact q1.elim
    · rename_i ds h2 ef
      split at q1
      · rename_i hl
        obtain ⟨B2, g2, w2, d2⟩ := frzL_ok w1 ef r1
        refine ⟨by rw [d2.len, sizeLine_eq]; omega, fun p hp => ?_⟩
        have k := Gr.add w2.sub hp (.lst us)
        exact q1 _ _ _ _ (g2.trans w1 (.of w2 k)) (w2.gr k) (.d (.lst (.of upd_same) (d2.mono k.bb)))
      · exact q1.elim
end SE
namespace SL
def nil : SL where
  ev := fun _ h => .ok [] h
  t := fun _ _ => tNil
  ok := fun C md ρ h σ B H m Q e w q => q [] B H m (.refl w) w .nil
def cons (a : SE) (r : SL) : SL where
  ev := fun ρ h => (a.ev ρ h).bind fun x h1 => (r.ev ρ h1).bind fun xs h2 => .ok (x :: xs) h2
  t := fun C md => tCons (a.t C md) (r.t C md)
  ok := fun C md ρ h σ B H m Q e w q => by
    refine a.ok C md ρ h σ B H m _ e w (Po.chain w q fun x h1 u B1 H1 m1 ea g1 w1 r1 q1 => ?_)
    refine r.ok C md ρ h1 σ B1 H1 m1 _ (e.gm g1) w1 (Po.chain w1 q1 fun xs h2 us B2 H2 m2 eb g2 w2 r2 q2 => ?_)
    exact q2 _ B2 H2 m2 (.refl w2) w2 (.cons (VR.gm r1 g2) r2)
end SL
namespace SB
def test (a : SE) : SB where
  ev := fun ρ h => (a.ev ρ h).bind fun x h1 => match x with
    | .d (.bool c) => .ok c h1
    | _ => .no
  t := fun C md => tTest (a.t C md)
  ok := fun C md ρ h σ B H m Q e w q => by
    refine a.ok C md ρ h σ B H m _ e w (Po.chain w q fun x h1 u B1 H1 m1 ea g1 w1 r1 q1 => ?_)
    match x, r1, q1 with
    | .d (.bool c), .d (.bl _), q1 => exact ⟨c, rfl, q1 _ B1 H1 m1 (.refl w1) w1 rfl⟩
def val (a : SE) : SB where
  ev := fun ρ h => (a.ev ρ h).bind fun x h1 => match x with
    | .d (.bool c) => .ok c h1
    | _ => .no
  t := fun C md => tB (a.t C md)
  ok := fun C md ρ h σ B H m Q e w q => by
    refine a.ok C md ρ h σ B H m _ e w (Po.chain w q fun x h1 u B1 H1 m1 ea g1 w1 r1 q1 => ?_)
    match x, r1, q1 with
    | .d (.bool c), .d (.bl _), q1 => exact ⟨c, rfl, q1 _ B1 H1 m1 (.refl w1) w1 rfl⟩
def and (a b : SB) : SB where
  ev := fun ρ h => (a.ev ρ h).bind fun x h1 => match x with
    | true => b.ev ρ h1
    | false => .ok false h1
  t := fun C md => tAnd (a.t C md) (b.t C md)
  ok := fun C md ρ h σ B H m Q e w q => by
    refine a.ok C md ρ h σ B H m _ e w (Po.chain w q fun x h1 u B1 H1 m1 ea g1 w1 r1 q1 => ?_)
    cases r1
    cases x with
    | true => exact iteT (b.ok C md ρ h1 σ B1 H1 m1 Q (e.gm g1) w1 q1)
    | false => exact iteF (q1 _ B1 H1 m1 (.refl w1) w1 rfl)
def or (a b : SB) : SB where
  ev := fun ρ h => (a.ev ρ h).bind fun x h1 => match x with
    | true => .ok true h1
    | false => b.ev ρ h1
  t := fun C md => tOr (a.t C md) (b.t C md)
  ok := fun C md ρ h σ B H m Q e w q => by
    refine a.ok C md ρ h σ B H m _ e w (Po.chain w q fun x h1 u B1 H1 m1 ea g1 w1 r1 q1 => ?_)
    cases r1
    cases x with
    | true => exact iteT (q1 _ B1 H1 m1 (.refl w1) w1 rfl)
    | false => exact iteF (b.ok C md ρ h1 σ B1 H1 m1 Q (e.gm g1) w1 q1)
def not (a : SB) : SB where
  ev := fun ρ h => (a.ev ρ h).bind fun x h1 => .ok (!x) h1
  t := fun C md => tNot (a.t C md)
  ok := fun C md ρ h σ B H m Q e w q => by
    refine a.ok C md ρ h σ B H m _ e w (Po.chain w q fun x h1 u B1 H1 m1 ea g1 w1 r1 q1 => ?_)
    cases r1
    exact q1 _ B1 H1 m1 (.refl w1) w1 rfl
end SB
end N
end
section
set_option maxRecDepth 100000
set_option maxHeartbeats 2000000
/-! operations over data -/
namespace N
open PySem PySem.Spec PyProof.Rows L2 G

/-! ### ints -/
def sm (i : Int) : Bool := decide (i.natAbs < 2 ^ 4000)
theorem sm_lt {i : Int} (h : sm i = true) : i.natAbs < 2 ^ 4000 := of_decide_eq_true h
theorem sm_of {i : Int} {n : Nat} (h : i.natAbs < 2 ^ n) (hn : n ≤ 4000) : sm i = true := decide_eq_true (Nat.lt_of_lt_of_le h (Nat.pow_le_pow_right (by decide) hn))
theorem sm_60 {i : Int} (h1 : -1152921504606846976 < i) (h2 : i < 1152921504606846976) : sm i = true := sm_of (n := 60) (by omega) (by decide)
def addD : PyData → PyData → Option PyData
  | .int a, .int b => some (.int (a + b))
  | .list xs, .list ys => if xs.length + ys.length ≤ 1000000 then some (.list (xs ++ ys)) else none
  | .tuple xs, .tuple ys => if xs.length + ys.length ≤ 1000000 then some (.tuple (xs ++ ys)) else none
  | _, _ => none
def subD : PyData → PyData → Option PyData
  | .int a, .int b => some (.int (a - b))
  | _, _ => none
def mulD : PyData → PyData → Option PyData
  | .int a, .int b => if (sm a && sm b) = true then some (.int (a * b)) else none
  | _, _ => none
def modD : PyData → PyData → Option PyData
  | .int a, .int b => if 0 < b then some (.int (a % b)) else none
  | _, _ => none
def fdivD : PyData → PyData → Option PyData
  | .int a, .int b => if (decide (0 < b) && sm b) = true then some (.int (a / b)) else none
  | _, _ => none
def powD : PyData → PyData → Option PyData
  | .int a, .int b => if (sm a && (decide (0 ≤ b) && decide (b ≤ 1000))) = true then some (.int (a ^ b.toNat)) else none
  | _, _ => none
def cmpD (p : Int → Int → Bool) : PyData → PyData → Option PyData
  | .int a, .int b => some (.bool (p a b))
  | _, _ => none
def eqD (neg : Bool) : PyData → PyData → Option PyData
  | .str a, .str b => some (.bool (if neg then !decide (a = b) else decide (a = b)))
  | x, y => if (SeqAt.shaped x && SeqAt.shaped y) = true then some (.bool (if neg then !PyData.eqv x y else PyData.eqv x y)) else none
def atoms : List PyData → Bool
  | [] => true
  | x :: xs => atom x && atoms xs
def inD (neg : Bool) : PyData → PyData → Option PyData
  | x, .list ys => if (atom x && atoms ys) = true then some (.bool (if neg then !ys.any (fun z => PyData.eqv z x) else ys.any fun z => PyData.eqv z x)) else none
  | x, .tuple ys => if (atom x && atoms ys) = true then some (.bool (if neg then !ys.any (fun z => PyData.eqv z x) else ys.any fun z => PyData.eqv z x)) else none
  | _, _ => none
def isND (neg : Bool) : PyData → PyData → Option PyData
  | .none, .none => some (.bool (!neg))
  | _, .none => some (.bool neg)
  | _, _ => none
def isBD (neg : Bool) : PyData → PyData → Option PyData
  | .bool a, .bool b => some (.bool (if neg then !decide (a = b) else decide (a = b)))
  | _, _ => none
def atD {α : Type} (xs : List α) (i : Int) : Option α := if 0 ≤ i then xs[i.toNat]? else if 0 ≤ i + xs.length then xs[(i + xs.length).toNat]? else none
def ixD : PyData → PyData → Option PyData
  | .list xs, .int i => atD xs i
  | .tuple xs, .int i => atD xs i
  | _, _ => none

section
variable {K : PySem.W.Frag} {x y z : PyData}
set_option exponentiation.threshold 5000
theorem opp_catT {xs ys : List PyData} (hl : xs.length + ys.length ≤ sizeLine) : Op2 K (rCatA K) (.tuple xs) (.tuple ys) (.tuple (xs ++ ys)) := fun B H s u v hu hv Q q => by
  cases hu with
  | @tup a us _ h1 a1 =>
    cases hv with
    | @tup b vs _ h2 a2 =>
      refine ⟨_, _, _, _, rfl, rfl, same_t s h1, same_t s h2, by rw [a1.len, a2.len]; exact hl, fun e => ?_, fun _ e => ?_, fun _ _ p hp => ?_⟩
      · subst e
        cases a1
        exact q _ B H (.refl s) (.tup h2 a2)
      · subst e
        cases a2
        rw [List.append_nil] at q
        exact q _ B H (.refl s) (.tup h1 a1)
      · have g := Gr.add s hp (.tup (us ++ vs))
        exact q _ _ _ g (.tup (.of upd_same) ((a1.app a2).mono g.bb))
theorem add_ok (e : addD x y = some z) : Op2 K (rAddA K) x y z := by
  unfold addD at e
  split at e
  · cases e; exact opp_1 (op_I0 fun _ => .int _)
  · split at e
    · rename_i hl
      cases e
      exact opp_2 (opp_1 (opp_cat (by rw [sizeLine_eq]; omega)))
    · cases e
  · split at e
    · rename_i hl
      cases e
      exact opp_2 (opp_2 (opp_catT (by rw [sizeLine_eq]; omega)))
    · cases e
  · cases e
theorem sub_ok (e : subD x y = some z) : Op2 K (rI0 fun i j => .int (i - j)) x y z := by
  unfold subD at e
  split at e
  · cases e; exact op_I0 fun _ => .int _
  · cases e
theorem daAll_rep {B : Hp} {vs : List V} {xs : List PyData} (h : DaAll K B vs xs) : ∀ n, DaAll K B (List.replicate n vs).flatten (List.replicate n xs).flatten
  | 0 => .nil
  | n + 1 => by rw [List.replicate_succ, List.replicate_succ, List.flatten_cons, List.flatten_cons]; exact h.app (daAll_rep h n)
theorem mul_ok (e : mulD x y = some z) : Op2 K rMulA x y z := by
  unfold mulD at e
  split at e
  · rename_i a b
    split at e
    · rename_i hs
      rw [Bool.and_eq_true] at hs
      cases e
      exact opp_1 (op_I (wide_mul (sm_lt hs.1) (sm_lt hs.2) (by decide) (by decide) (by decide)) fun _ => .int _)
    · cases e
  · cases e
theorem mod_ok (e : modD x y = some z) : Op2 K (rI (fun _ j => j ≠ 0) fun i j => .int (i.fmod j)) x y z := by
  unfold modD at e
  split at e
  · rename_i a b
    split at e
    · rename_i hs
      cases e
      refine op_I (by omega) fun _ => ?_
      rw [Int.fmod_eq_emod_of_nonneg _ (by omega)]
      exact .int _
    · cases e
  · cases e
theorem fdiv_ok (e : fdivD x y = some z) : Op2 K (rI CDivW fun i j => .int (i / j)) x y z := by
  unfold fdivD at e
  split at e
  · rename_i a b
    split at e
    · rename_i hs
      rw [Bool.and_eq_true] at hs
      cases e
      exact op_I (wide_div (of_decide_eq_true hs.1) (sm_lt hs.2) (by decide) (by decide)) fun _ => .int _
    · cases e
  · cases e
theorem pow_ok (e : powD x y = some z) : Op2 K (rI CPowW fun i j => .int (i ^ j.toNat)) x y z := by
  unfold powD at e
  split at e
  · rename_i a b
    split at e
    · rename_i hs
      rw [Bool.and_eq_true, Bool.and_eq_true] at hs
      obtain ⟨h1, h2, h3⟩ := hs
      cases e
      refine op_I ⟨of_decide_eq_true h2, ?_⟩ fun _ => .int _
      have h2' := of_decide_eq_true h2
      have h3' := of_decide_eq_true h3
      have hb : Builtin.Int.intBits a ≤ 4001 := by
        unfold Builtin.Int.intBits
        by_cases z : a.natAbs = 0
        · simp [z]
          split <;> omega
        · have := (Nat.log2_lt (k := 4000) z).mpr (sm_lt h1)
          first
            | omega
            | (split <;> omega)
      have : (Builtin.Int.intBits a : Int) * b ≤ 4001 * 1000 := Int.le_trans (Int.mul_le_mul_of_nonneg_right (by omega : (Builtin.Int.intBits a : Int) ≤ 4001) h2') (by omega)
      omega
    · cases e
  · cases e
theorem cmp_ok {p : Int → Int → Bool} (e : cmpD p x y = some z) : Op2 K (rI0 fun i j => .bl (p i j)) x y z := by
  unfold cmpD at e
  split at e
  · cases e; exact op_I0 fun _ => .bl _
  · cases e
theorem eq_ok (e : eqD false x y = some z) : Op2 K (rEqR K) x y z := by
  unfold eqD at e
  split at e
  · cases e; exact opp_2 (opp_eqS rfl)
  · split at e
    · rename_i hs
      rw [Bool.and_eq_true] at hs
      cases e
      exact opp_1 (opp_eqD hs.1 hs.2 rfl)
    · cases e
theorem ne_ok (e : eqD true x y = some z) : Op2 K (rNeR K) x y z := by
  unfold eqD at e
  split at e
  · cases e; exact opp_2 (opp_neS rfl)
  · split at e
    · rename_i hs
      rw [Bool.and_eq_true] at hs
      cases e
      exact opp_1 (opp_neD hs.1 hs.2 rfl)
    · cases e
theorem atom_flat {B : Hp} {v : V} (a : atom x = true) (q : Da K B v x) : flatV v = true := by
  cases q <;> first | rfl | simp [atom] at a
theorem atoms_flat {B : Hp} {vs : List V} {xs : List PyData} (a : atoms xs = true) (q : DaAll K B vs xs) : vs.all flatV = true := by
  induction xs generalizing vs with
  | nil => cases q; rfl
  | cons x xs ih =>
    cases q with
    | cons h t =>
      unfold atoms at a
      rw [Bool.and_eq_true] at a
      rw [List.all_cons, atom_flat a.1 h, ih a.2 t]
      rfl
theorem atom_eq {B : Hp} {u v : V} (a : atom x = true) (b : atom y = true) (hu : Da K B u x) (hv : Da K B v y) : eqV u v = PyData.eqv x y := by
  cases hu <;> cases hv <;> first | rfl | simp [atom] at a | simp [atom] at b | (unfold eqV PyData.eqv; rfl)
theorem atoms_in {B : Hp} {u : V} {vs : List V} {ys : List PyData} (a : atom x = true) (b : atoms ys = true) (hu : Da K B u x) (hv : DaAll K B vs ys) : inV u vs = ys.any fun z => PyData.eqv z x := by
  unfold inV
  induction ys generalizing vs with
  | nil => cases hv; rfl
  | cons y ys ih =>
    cases hv with
    | cons h t =>
      unfold atoms at b
      rw [Bool.and_eq_true] at b
      rw [List.any_cons, List.any_cons, atom_eq b.1 a h hu, ih b.2 t]
theorem in_ok {neg : Bool} (e : inD neg x y = some z) : Op2 K (rIn K neg) x y z := by
  unfold inD at e
  split at e
  · rename_i ys
    split at e
    · rename_i hs
      rw [Bool.and_eq_true] at hs
      cases e
      intro B H s u v hu hv Q q
      cases hv with
      | lst h1 a1 => exact ⟨_, _, rfl, .inl (same_l s h1), atom_flat hs.1 hu, atoms_flat hs.2 a1, q _ B H (.refl s) (by rw [atoms_in hs.1 hs.2 hu a1]; exact .bl _)⟩
    · cases e
  · rename_i ys
    split at e
    · rename_i hs
      rw [Bool.and_eq_true] at hs
      cases e
      intro B H s u v hu hv Q q
      cases hv with
      | tup h1 a1 => exact ⟨_, _, rfl, .inr (same_t s h1), atom_flat hs.1 hu, atoms_flat hs.2 a1, q _ B H (.refl s) (by rw [atoms_in hs.1 hs.2 hu a1]; exact .bl _)⟩
    · cases e
  · cases e
theorem isN_ok (e : isND false x y = some z) : Op2 K (fun x y H Q => y = .non ∧ Q (.bl (decide (x = .non))) H) x y z := by
  intro B H s u v hu hv Q q
  unfold isND at e
  split at e
  · cases e
    cases hu
    cases hv
    exact ⟨rfl, q _ B H (.refl s) (.bl _)⟩
  · rename_i n
    cases e
    cases hv
    refine ⟨rfl, q _ B H (.refl s) ?_⟩
    have : decide (u = .non) = false := decide_eq_false fun c => by
      subst c
      cases hu
      exact n rfl
    rw [this]
    exact .bl _
  · cases e
theorem notN_ok (e : isND true x y = some z) : Op2 K (fun x y H Q => y = .non ∧ Q (.bl (!decide (x = .non))) H) x y z := by
  intro B H s u v hu hv Q q
  unfold isND at e
  split at e
  · cases e
    cases hu
    cases hv
    exact ⟨rfl, q _ B H (.refl s) (.bl _)⟩
  · rename_i n
    cases e
    cases hv
    refine ⟨rfl, q _ B H (.refl s) ?_⟩
    have : decide (u = .non) = false := decide_eq_false fun c => by
      subst c
      cases hu
      exact n rfl
    rw [this]
    exact .bl _
  · cases e
theorem isB_ok (e : isBD false x y = some z) : Op2 K rIsB x y z := by
  intro B H s u v hu hv Q q
  unfold isBD at e
  split at e
  · cases e
    cases hu
    cases hv
    exact ⟨_, _, rfl, rfl, q _ B H (.refl s) (.bl _)⟩
  · cases e
theorem notB_ok (e : isBD true x y = some z) : Op2 K rNotB x y z := by
  intro B H s u v hu hv Q q
  unfold isBD at e
  split at e
  · cases e
    cases hu
    cases hv
    exact ⟨_, _, rfl, rfl, q _ B H (.refl s) (.bl _)⟩
  · cases e
theorem at_I {xs : List PyData} {vs : List V} {B : Hp} {i : Int} {d : PyData} (e : atD xs i = some d) (h : DaAll K B vs xs) : ∃ v, atI vs i = some v ∧ Da K B v d := by
  have hl := h.len
  unfold atD at e
  split at e
  · rename_i h0
    obtain ⟨v, e1, e2⟩ := h.at e
    refine ⟨v, ?_, e2⟩
    have := atI_nat e1
    rw [Int.toNat_of_nonneg h0] at this
    exact this
  · rename_i h0
    split at e
    · rename_i h1
      obtain ⟨v, e1, e2⟩ := h.at e
      refine ⟨v, ?_, e2⟩
      have lt := (List.getElem?_eq_some_iff.mp e1).1
      unfold atI ixN
      rw [hl]
      first
        | (rw [if_neg (by omega), if_pos (by omega)]; exact e1)
        | (simp only [show ¬ (0 ≤ i) from h0, show 0 ≤ i + (xs.length : Int) from h1, if_true, if_false, Option.bind_some]; exact e1)
        | (rw [if_pos (by omega)]; exact e1)
    · cases e
theorem ix_ok (e : ixD x y = some z) : Op2 K (rIxA K) x y z := by
  unfold ixD at e
  split at e
  · refine opp_1 fun B H s u v hu hv Q q => ?_
    cases hv
    cases hu with
    | lst h1 a1 =>
      obtain ⟨w, e1, e2⟩ := at_I e a1
      exact ⟨_, _, _, w, rfl, rfl, same_l s h1, e1, q _ B H (.refl s) e2⟩
  · refine opp_2 fun B H s u v hu hv Q q => ?_
    cases hv
    cases hu with
    | tup h1 a1 =>
      obtain ⟨w, e1, e2⟩ := at_I e a1
      exact ⟨_, _, _, w, rfl, rfl, same_t s h1, e1, q _ B H (.refl s) e2⟩
  · cases e
end
def shlD : PyData → PyData → Option PyData
  | .int a, .int b => if (decide (a.natAbs < 2 ^ 64) && (decide (0 ≤ b) && decide (b ≤ 1000))) = true then some (.int (a * 2 ^ b.toNat)) else none
  | _, _ => none
def xorD : PyData → PyData → Option PyData
  | .int a, .int b => some (.int (Builtin.bitXor a b))
  | _, _ => none
theorem shl_ok {K : PySem.W.Frag} {x y z : PyData} (e : shlD x y = some z) : Op2 K (rI CPow fun i j => .int (i * 2 ^ j.toNat)) x y z := by
  unfold shlD at e
  split at e
  · rename_i a b
    split at e
    · rename_i hs
      simp only [Bool.and_eq_true, decide_eq_true_eq] at hs
      cases e
      exact op_I ⟨hs.2.1, by omega, hs.1⟩ fun _ => .int _
    · cases e
  · cases e
theorem xor_ok {K : PySem.W.Frag} {x y z : PyData} (e : xorD x y = some z) : Op2 K (rI0 fun i j => .int (Builtin.bitXor i j)) x y z := by
  unfold xorD at e
  split at e
  · cases e; exact op_I0 fun _ => .int _
  · cases e
def oShl : O2 := ⟨shlD, fun _ => rI CPow fun i j => .int (i * 2 ^ j.toNat), fun _ _ _ _ => shl_ok⟩
def oXor : O2 := ⟨xorD, fun _ => rI0 fun i j => .int (Builtin.bitXor i j), fun _ _ _ _ => xor_ok⟩
def oAdd : O2 := ⟨addD, fun K => rAddA K, fun _ _ _ _ => add_ok⟩
def oSub : O2 := ⟨subD, fun _ => rI0 fun i j => .int (i - j), fun _ _ _ _ => sub_ok⟩
def oMul : O2 := ⟨mulD, fun _ => rMulA, fun _ _ _ _ => mul_ok⟩
def oMod : O2 := ⟨modD, fun _ => rI (fun _ j => j ≠ 0) fun i j => .int (i.fmod j), fun _ _ _ _ => mod_ok⟩
def oFdiv : O2 := ⟨fdivD, fun _ => rI CDivW fun i j => .int (i / j), fun _ _ _ _ => fdiv_ok⟩
def oPow : O2 := ⟨powD, fun _ => rI CPowW fun i j => .int (i ^ j.toNat), fun _ _ _ _ => pow_ok⟩
def oLt : O2 := ⟨cmpD fun i j => decide (i < j), fun _ => rI0 fun i j => .bl (decide (i < j)), fun _ _ _ _ => cmp_ok⟩
def oLe : O2 := ⟨cmpD fun i j => decide (i ≤ j), fun _ => rI0 fun i j => .bl (decide (i ≤ j)), fun _ _ _ _ => cmp_ok⟩
def oGt : O2 := ⟨cmpD fun i j => decide (j < i), fun _ => rI0 fun i j => .bl (decide (j < i)), fun _ _ _ _ => cmp_ok⟩
def oGe : O2 := ⟨cmpD fun i j => decide (j ≤ i), fun _ => rI0 fun i j => .bl (decide (j ≤ i)), fun _ _ _ _ => cmp_ok⟩
def oEq : O2 := ⟨eqD false, fun K => rEqR K, fun _ _ _ _ => eq_ok⟩
def oNe : O2 := ⟨eqD true, fun K => rNeR K, fun _ _ _ _ => ne_ok⟩
def oIn : O2 := ⟨inD false, fun K => rIn K false, fun _ _ _ _ => in_ok⟩
def oNin : O2 := ⟨inD true, fun K => rIn K true, fun _ _ _ _ => in_ok⟩
def oIsN : O2 := ⟨isND false, fun _ => fun x y H Q => y = .non ∧ Q (.bl (decide (x = .non))) H, fun _ _ _ _ => isN_ok⟩
def oNotN : O2 := ⟨isND true, fun _ => fun x y H Q => y = .non ∧ Q (.bl (!decide (x = .non))) H, fun _ _ _ _ => notN_ok⟩
def oIsB : O2 := ⟨isBD false, fun _ => rIsB, fun _ _ _ _ => isB_ok⟩
def oNotB : O2 := ⟨isBD true, fun _ => rNotB, fun _ _ _ _ => notB_ok⟩
end N
end
section
set_option maxRecDepth 100000
set_option maxHeartbeats 2000000
/-! index, slices, built-ins, new lists that are written to -/
namespace N
open PySem PySem.Spec PyProof.Rows L2 G

/-! ### lists of ints, of bools -/
def intsOf : List PyData → Option (List Int)
  | [] => some []
  | .int i :: xs => match intsOf xs with
    | none => none
    | some ns => some (i :: ns)
  | _ => none
def boolsOf : List PyData → Option (List Bool)
  | [] => some []
  | .bool i :: xs => match boolsOf xs with
    | none => none
    | some ns => some (i :: ns)
  | _ => none
theorem intsOf_ok : ∀ {xs : List PyData} {ns : List Int}, intsOf xs = some ns → xs = ns.map .int
  | [], _, e => by unfold intsOf at e; cases e; rfl
  | .int i :: xs, ns, e => by
    unfold intsOf at e
    split at e
    · cases e
    · rename_i ms q
      cases e
      rw [intsOf_ok q]
      rfl
  | .none :: _, _, e => by simp [intsOf] at e
  | .bool _ :: _, _, e => by simp [intsOf] at e
  | .str _ :: _, _, e => by simp [intsOf] at e
  | .list _ :: _, _, e => by simp [intsOf] at e
  | .tuple _ :: _, _, e => by simp [intsOf] at e
  | .dict _ :: _, _, e => by simp [intsOf] at e
theorem boolsOf_ok : ∀ {xs : List PyData} {ns : List Bool}, boolsOf xs = some ns → xs = ns.map .bool
  | [], _, e => by unfold boolsOf at e; cases e; rfl
  | .bool i :: xs, ns, e => by
    unfold boolsOf at e
    split at e
    · cases e
    · rename_i ms q
      cases e
      rw [boolsOf_ok q]
      rfl
  | .none :: _, _, e => by simp [boolsOf] at e
  | .int _ :: _, _, e => by simp [boolsOf] at e
  | .str _ :: _, _, e => by simp [boolsOf] at e
  | .list _ :: _, _, e => by simp [boolsOf] at e
  | .tuple _ :: _, _, e => by simp [boolsOf] at e
  | .dict _ :: _, _, e => by simp [boolsOf] at e
theorem intsOf_map (ns : List Int) : intsOf (ns.map .int) = some ns := by
  induction ns with
  | nil => rfl
  | cons n ns ih => rw [List.map_cons, intsOf, ih]
theorem boolsOf_map (ns : List Bool) : boolsOf (ns.map .bool) = some ns := by
  induction ns with
  | nil => rfl
  | cons n ns ih => rw [List.map_cons, boolsOf, ih]
def lenD : List PyData → Option PyData
  | [.list xs] => some (.int xs.length)
  | [.tuple xs] => some (.int xs.length)
  | [.str x] => if x.length ≤ 1000000 then some (.int x.length) else none
  | _ => none
def allD : List PyData → Option PyData
  | [.list xs] => (boolsOf xs).map fun bs => .bool (bs.all id)
  | _ => none
def anyD : List PyData → Option PyData
  | [.list xs] => (boolsOf xs).map fun bs => .bool (bs.any id)
  | _ => none
def sumD : List PyData → Option PyData
  | [.list xs] => (intsOf xs).map fun ns => .int ns.sum
  | _ => none
def maxI : Int → List Int → Int
  | m, [] => m
  | m, n :: ns => maxI (if m < n then n else m) ns
def minI : Int → List Int → Int
  | m, [] => m
  | m, n :: ns => minI (if n < m then n else m) ns
def maxD : List PyData → Option PyData
  | [.int i, .int j] => some (.int (if j > i then j else i))
  | [.list xs] => match intsOf xs with
    | some (n :: ns) => some (.int (maxI n ns))
    | _ => none
  | _ => none
def minD : List PyData → Option PyData
  | [.int i, .int j] => some (.int (if j < i then j else i))
  | [.list xs] => match intsOf xs with
    | some (n :: ns) => some (.int (minI n ns))
    | _ => none
  | _ => none
def intD : List PyData → Option PyData
  | [.int i] => some (.int i)
  | [.bool b] => some (.int (if b then 1 else 0))
  | _ => none
def listD : List PyData → Option PyData
  | [.list xs] => some (.list xs)
  | [.tuple xs] => some (.list xs)
  | _ => none
def tupleD : List PyData → Option PyData
  | [.list xs] => some (.tuple xs)
  | [.tuple xs] => some (.tuple xs)
  | _ => none
def okR (d : PyData) : Bool := d.showable && (decide (d.depth ≤ 100) && decide (d.shown.length ≤ 16000000))
def reprD : List PyData → Option PyData
  | [d] => if okR d = true then some (.str d.shown) else none
  | _ => none
def insI (x : Int) : List Int → List Int
  | [] => [x]
  | y :: ys => if x ≤ y then x :: y :: ys else y :: insI x ys
def sortI : List Int → List Int
  | [] => []
  | x :: xs => insI x (sortI xs)
def sortD : List PyData → Option PyData
  | [.list xs] => (intsOf xs).map fun ns => .list ((sortI ns).map .int)
  | _ => none
theorem insI_perm (x : Int) : ∀ xs, (insI x xs).Perm (x :: xs)
  | [] => .refl _
  | y :: ys => by
    unfold insI
    split
    · exact .refl _
    · exact ((insI_perm x ys).cons y).trans (.swap x y ys)
theorem sortI_perm : ∀ xs, (sortI xs).Perm xs
  | [] => .refl _
  | x :: xs => (insI_perm x _).trans ((sortI_perm xs).cons x)
theorem insI_sorted (x : Int) : ∀ xs : List Int, xs.Pairwise (· ≤ ·) → (insI x xs).Pairwise (· ≤ ·)
  | [], _ => by simp [insI]
  | y :: ys, h => by
    unfold insI
    obtain ⟨h1, h2⟩ := List.pairwise_cons.mp h
    split
    · rename_i c
      refine List.pairwise_cons.mpr ⟨fun z hz => ?_, h⟩
      rcases List.mem_cons.mp hz with rfl | hz
      · exact c
      · exact Int.le_trans c (h1 z hz)
    · rename_i c
      refine List.pairwise_cons.mpr ⟨fun z hz => ?_, insI_sorted x ys h2⟩
      rcases List.mem_cons.mp ((insI_perm x ys).mem_iff.mp hz) with rfl | hz
      · omega
      · exact h1 z hz
theorem sortI_sorted : ∀ xs : List Int, (sortI xs).Pairwise (· ≤ ·)
  | [] => .nil
  | x :: xs => insI_sorted x _ (sortI_sorted xs)
theorem sortI_of {a b : List Int} (p : a.Perm b) (h : a.Pairwise (· ≤ ·)) : a = sortI b :=
  (p.trans (sortI_perm b).symm).eq_of_pairwise (fun x y _ _ h1 h2 => Int.le_antisymm h1 h2) h (sortI_sorted b)
theorem maxI_ge : ∀ (ns : List Int) (m : Int), m ≤ maxI m ns ∧ (∀ y ∈ ns, y ≤ maxI m ns) ∧ (maxI m ns = m ∨ maxI m ns ∈ ns)
  | [], m => ⟨Int.le_refl _, by simp, .inl rfl⟩
  | n :: ns, m => by
    obtain ⟨h1, h2, h3⟩ := maxI_ge ns (if m < n then n else m)
    unfold maxI
    by_cases c : m < n
    · rw [if_pos c] at h1 h2 h3 ⊢
      refine ⟨by omega, fun y hy => ?_, ?_⟩
      · rcases List.mem_cons.mp hy with rfl | hy
        · exact h1
        · exact h2 y hy
      · rcases h3 with h3 | h3
        · exact .inr (by rw [h3]; exact List.mem_cons_self ..)
        · exact .inr (List.mem_cons_of_mem _ h3)
    · rw [if_neg c] at h1 h2 h3 ⊢
      refine ⟨h1, fun y hy => ?_, ?_⟩
      · rcases List.mem_cons.mp hy with rfl | hy
        · omega
        · exact h2 y hy
      · rcases h3 with h3 | h3
        · exact .inl h3
        · exact .inr (List.mem_cons_of_mem _ h3)
theorem minI_le : ∀ (ns : List Int) (m : Int), minI m ns ≤ m ∧ (∀ y ∈ ns, minI m ns ≤ y) ∧ (minI m ns = m ∨ minI m ns ∈ ns)
  | [], m => ⟨Int.le_refl _, by simp, .inl rfl⟩
  | n :: ns, m => by
    obtain ⟨h1, h2, h3⟩ := minI_le ns (if n < m then n else m)
    unfold minI
    by_cases c : n < m
    · rw [if_pos c] at h1 h2 h3 ⊢
      refine ⟨by omega, fun y hy => ?_, ?_⟩
      · rcases List.mem_cons.mp hy with rfl | hy
        · exact h1
        · exact h2 y hy
      · rcases h3 with h3 | h3
        · exact .inr (by rw [h3]; exact List.mem_cons_self ..)
        · exact .inr (List.mem_cons_of_mem _ h3)
    · rw [if_neg c] at h1 h2 h3 ⊢
      refine ⟨h1, fun y hy => ?_, ?_⟩
      · rcases List.mem_cons.mp hy with rfl | hy
        · omega
        · exact h2 y hy
      · rcases h3 with h3 | h3
        · exact .inl h3
        · exact .inr (List.mem_cons_of_mem _ h3)
abbrev rStrLen : List V → Hp → VK → Prop := fun xs H Q => ∃ z, xs = [.str z] ∧ z.length ≤ sizeLine ∧ Q (.int z.length) H
abbrev rLenA (K : PySem.W.Frag) : List V → Hp → VK → Prop := orC (rLenK K) rStrLen
abbrev rMax2 : List V → Hp → VK → Prop := fun xs H Q => ∃ i j, xs = [.int i, .int j] ∧ Q (.int (if j > i then j else i)) H
abbrev rMin2 : List V → Hp → VK → Prop := fun xs H Q => ∃ i j, xs = [.int i, .int j] ∧ Q (.int (if j < i then j else i)) H
abbrev rMaxA (K : PySem.W.Frag) : List V → Hp → VK → Prop := orC rMax2 (rMax K)
abbrev rMinA (K : PySem.W.Frag) : List V → Hp → VK → Prop := orC rMin2 (rMin K)
abbrev rInt1 : List V → Hp → VK → Prop := fun xs H Q => (∃ i, xs = [.int i] ∧ Q (.int i) H) ∨ ∃ k, xs = [.bl k] ∧ Q (.int (if k then 1 else 0)) H
abbrev rTupOf (K : PySem.W.Frag) : List V → Hp → VK → Prop := fun xs H Q => ∃ p ys, xs = [.ref p] ∧ ((SqL K H p ys ∧ ∀ l, H l = none → Q (.ref l) (upd H l (.tup ys))) ∨ (SqT K H p ys ∧ Q (.ref p) H))
section
variable {X : Cx} (K : PySem.W.Frag)
theorem lenA (h : X.K = K := by rfl) : CallR X (.builtin "len") (rLenA K) := callr_or (lenK K h) call_len_str
theorem anyA (hc : X.calm = true) (h : X.K = K := by rfl) : CallR X (.builtin "any") (rAny K) := h ▸ cr_any hc
theorem maxA (hc : X.calm = true) (h : X.K = K := by rfl) : CallR X (.builtin "max") (rMaxA K) := callr_or (call_max2 hc) (h ▸ cr_max hc)
theorem minA (hc : X.calm = true) (h : X.K = K := by rfl) : CallR X (.builtin "min") (rMinA K) := callr_or (call_min2 hc) (h ▸ cr_min hc)
theorem tupA (h : X.K = K := by rfl) : CallR X (.type "tuple") (rTupOf K) := h ▸ call_tuple_of
end
section
variable {K : PySem.W.Frag} {xs : List PyData} {z : PyData}
theorem da1 {B : Hp} {us : List V} {x : PyData} (h : DaAll K B us [x]) : ∃ u, us = [u] ∧ Da K B u x := by
  cases h with
  | cons h t => cases t; exact ⟨_, rfl, h⟩
theorem da2 {B : Hp} {us : List V} {x y : PyData} (h : DaAll K B us [x, y]) : ∃ u v, us = [u, v] ∧ Da K B u x ∧ Da K B v y := by
  cases h with
  | cons h t => cases t with
    | cons h2 t => cases t; exact ⟨_, _, rfl, h, h2⟩
theorem len_ok (e : lenD xs = some z) : Fn K (rLenA K) xs z := by
  unfold lenD at e
  split at e
  · cases e; exact fn_1 fn_len
  · cases e; exact fn_1 fn_lenT
  · split at e
    · rename_i hl
      cases e
      refine fn_2 fun B H s us hu Q q => ?_
      obtain ⟨u, rfl, h⟩ := da1 hu
      cases h
      exact ⟨_, rfl, by rw [sizeLine_eq]; omega, q _ B H (.refl s) (.int _)⟩
    · cases e
  · cases e
theorem all_ok (e : allD xs = some z) : Fn K (rAll K) xs z := by
  unfold allD at e
  split at e
  · simp only [Option.map_eq_some_iff] at e
    obtain ⟨bs, e1, rfl⟩ := e
    rw [boolsOf_ok e1]
    exact fn_all
  · cases e
theorem any_ok (e : anyD xs = some z) : Fn K (rAny K) xs z := by
  unfold anyD at e
  split at e
  · simp only [Option.map_eq_some_iff] at e
    obtain ⟨bs, e1, rfl⟩ := e
    rw [boolsOf_ok e1]
    intro B H s us hu Q q
    obtain ⟨u, rfl, h⟩ := da1 hu
    cases h with
    | lst h a =>
      obtain rfl := daBools a
      exact ⟨_, bs, rfl, same_l s h, q _ B H (.refl s) (.bl _)⟩
  · cases e
theorem sum_ok (e : sumD xs = some z) : Fn K (rSum K) xs z := by
  unfold sumD at e
  split at e
  · simp only [Option.map_eq_some_iff] at e
    obtain ⟨ns, e1, rfl⟩ := e
    rw [intsOf_ok e1]
    intro B H s us hu Q q
    obtain ⟨u, rfl, h⟩ := da1 hu
    cases h with
    | lst h a =>
      obtain rfl := daInts a
      exact ⟨_, ns, rfl, same_l s h, q _ B H (.refl s) (.int _)⟩
  · cases e
theorem max_ok (e : maxD xs = some z) : Fn K (rMaxA K) xs z := by
  unfold maxD at e
  split at e
  · cases e
    refine fn_1 fun B H s us hu Q q => ?_
    obtain ⟨u, v, rfl, h, h2⟩ := da2 hu
    cases h
    cases h2
    exact ⟨_, _, rfl, q _ B H (.refl s) (.int _)⟩
  · split at e
    · rename_i n ns e1
      cases e
      rw [intsOf_ok e1]
      refine fn_2 fun B H s us hu Q q => ?_
      obtain ⟨u, rfl, h⟩ := da1 hu
      cases h with
      | lst h a =>
        obtain rfl := daInts a
        refine ⟨_, n :: ns, rfl, same_l s h, by simp, fun m hm hy => ?_⟩
        obtain ⟨h1, h2, h3⟩ := maxI_ge ns n
        have e2 : m = maxI n ns := by
          have a1 : maxI n ns ≤ m := hy _ (by rcases h3 with h3 | h3 <;> simp [h3])
          have a2 : m ≤ maxI n ns := by
            rcases List.mem_cons.mp hm with rfl | hm
            · exact h1
            · exact h2 m hm
          omega
        rw [e2]
        exact q _ B H (.refl s) (.int _)
    · cases e
  · cases e
theorem min_ok (e : minD xs = some z) : Fn K (rMinA K) xs z := by
  unfold minD at e
  split at e
  · cases e
    refine fn_1 fun B H s us hu Q q => ?_
    obtain ⟨u, v, rfl, h, h2⟩ := da2 hu
    cases h
    cases h2
    exact ⟨_, _, rfl, q _ B H (.refl s) (.int _)⟩
  · split at e
    · rename_i n ns e1
      cases e
      rw [intsOf_ok e1]
      refine fn_2 fun B H s us hu Q q => ?_
      obtain ⟨u, rfl, h⟩ := da1 hu
      cases h with
      | lst h a =>
        obtain rfl := daInts a
        refine ⟨_, n :: ns, rfl, same_l s h, by simp, fun m hm hy => ?_⟩
        obtain ⟨h1, h2, h3⟩ := minI_le ns n
        have e2 : m = minI n ns := by
          have a1 : m ≤ minI n ns := hy _ (by rcases h3 with h3 | h3 <;> simp [h3])
          have a2 : minI n ns ≤ m := by
            rcases List.mem_cons.mp hm with rfl | hm
            · exact h1
            · exact h2 m hm
          omega
        rw [e2]
        exact q _ B H (.refl s) (.int _)
    · cases e
  · cases e
theorem int_ok (e : intD xs = some z) : Fn K rInt1 xs z := by
  intro B H s us hu Q q
  unfold intD at e
  split at e
  · cases e
    obtain ⟨u, rfl, h⟩ := da1 hu
    cases h
    exact .inl ⟨_, rfl, q _ B H (.refl s) (.int _)⟩
  · cases e
    obtain ⟨u, rfl, h⟩ := da1 hu
    cases h
    exact .inr ⟨_, rfl, q _ B H (.refl s) (.int _)⟩
  · cases e
theorem list_ok (e : listD xs = some z) : Fn K (rListOf K) xs z := by
  unfold listD at e
  split at e
  · cases e; exact fn_listL
  · cases e; exact fn_listT
  · cases e
theorem tuple_ok (e : tupleD xs = some z) : Fn K (rTupOf K) xs z := by
  intro B H s us hu Q q
  unfold tupleD at e
  split at e
  · cases e
    obtain ⟨u, rfl, h⟩ := da1 hu
    cases h with
    | @lst a ys _ h a1 =>
      refine ⟨_, ys, rfl, .inl ⟨same_l s h, fun l hl => ?_⟩⟩
      have g := Gr.add s hl (.tup ys)
      exact q _ _ _ g (.tup (.of upd_same) (a1.mono g.bb))
  · cases e
    obtain ⟨u, rfl, h⟩ := da1 hu
    cases h with
    | @tup a ys _ h a1 => exact ⟨_, ys, rfl, .inr ⟨same_t s h, q _ B H (.refl s) (.tup h a1)⟩⟩
  · cases e
theorem repr_ok (e : reprD xs = some z) : Fn K (rReprQ K) xs z := by
  unfold reprD at e
  split at e
  · split at e
    · rename_i h
      unfold okR at h
      rw [Bool.and_eq_true, Bool.and_eq_true] at h
      cases e
      exact fn_reprQ h.1 (of_decide_eq_true h.2.1) (by have := of_decide_eq_true h.2.2; rw [sizeLine_eq]; omega)
    · cases e
  · cases e
end
def bLen : ON := ⟨lenD, rLenA, fun _ _ _ => len_ok⟩
def bAll : ON := ⟨allD, rAll, fun _ _ _ => all_ok⟩
def bAny : ON := ⟨anyD, rAny, fun _ _ _ => any_ok⟩
def bSum : ON := ⟨sumD, rSum, fun _ _ _ => sum_ok⟩
def bMax : ON := ⟨maxD, rMaxA, fun _ _ _ => max_ok⟩
def bMin : ON := ⟨minD, rMinA, fun _ _ _ => min_ok⟩
def bInt : ON := ⟨intD, fun _ => rInt1, fun _ _ _ => int_ok⟩
def bList : ON := ⟨listD, rListOf, fun _ _ _ => list_ok⟩
def bTuple : ON := ⟨tupleD, rTupOf, fun _ _ _ => tuple_ok⟩
def bRepr : ON := ⟨reprD, rReprQ, fun _ _ _ => repr_ok⟩
/-! ### - x -/
def negD : PyData → Option PyData
  | .int i => some (.int (-i))
  | _ => none
def oNeg : O1 := ⟨negD, fun _ => rU fun i => .int (-i), fun K x z e => by
  intro B H s us hu Q q
  unfold negD at e
  split at e
  · cases e
    obtain ⟨u, rfl, h⟩ := da1 hu
    cases h
    exact ⟨_, rfl, _, rfl, q _ B H (.refl s) (.int _)⟩
  · cases e⟩
/-! ### isinstance(x, T) -/
inductive Ty where
  | int | bool | str | list | tuple | dict
def Ty.name : Ty → String
  | .int => "int"
  | .bool => "bool"
  | .str => "str"
  | .list => "list"
  | .tuple => "tuple"
  | .dict => "dict"
def isT : Ty → PyData → Bool
  | .int, .int _ => true
  | .int, .bool _ => true
  | .bool, .bool _ => true
  | .str, .str _ => true
  | .list, .list _ => true
  | .tuple, .tuple _ => true
  | .dict, .dict _ => true
  | _, _ => false
def isDictD : PyData → Bool
  | .dict _ => true
  | _ => false
theorem kit_dict : ∀ x : PyData, kitB (tyD x) "dict" = some (isDictD x)
  | .none => (by decide +kernel : kitB "NoneType" "dict" = some false)
  | .bool _ => (by decide +kernel : kitB "bool" "dict" = some false)
  | .int _ => (by decide +kernel : kitB "int" "dict" = some false)
  | .str _ => (by decide +kernel : kitB "str" "dict" = some false)
  | .list _ => (by decide +kernel : kitB "list" "dict" = some false)
  | .tuple _ => (by decide +kernel : kitB "tuple" "dict" = some false)
  | .dict _ => (by decide +kernel : kitB "dict" "dict" = some true)
theorem kit_isT (T : Ty) (x : PyData) : kitB (tyD x) T.name = some (isT T x) := by
  cases T with
  | int => rw [show Ty.int.name = "int" from rfl, kit_int]; cases x <;> rfl
  | bool => rw [show Ty.bool.name = "bool" from rfl, kit_bool]; cases x <;> rfl
  | str => rw [show Ty.str.name = "str" from rfl, kit_str]; cases x <;> rfl
  | list => rw [show Ty.list.name = "list" from rfl, kit_list]; cases x <;> rfl
  | tuple => rw [show Ty.tuple.name = "tuple" from rfl, kit_tuple]; cases x <;> rfl
  | dict => rw [show Ty.dict.name = "dict" from rfl, kit_dict]; cases x <;> rfl
def isiD (T : Ty) : List PyData → Option PyData
  | [x] => some (.bool (isT T x))
  | _ => none
def bIsi (T : Ty) : ON := ⟨isiD T, fun K us H Q => rIsi K (us ++ [.ty T.name]) H Q, fun K xs z e => by
  intro B H s us hu Q q
  unfold isiD at e
  split at e
  · rename_i x
    cases e
    obtain ⟨u, rfl, h⟩ := da1 hu
    exact ⟨u, .ty T.name, _, _, isT T x, rfl, .ty T.name, tyx_of (h.mono s), kit_ty (kit_isT T x), q _ B H (.refl s) (.bl _)⟩
  · cases e⟩
namespace SE
def isi (T : Ty) (a : SE) : SE where
  ev := fun ρ h => (a.ev ρ h).bind fun x h1 => fnV (isiD T) [x] h1
  t := fun C md => tCB (rIsi C.K) (tCons (a.t C md) (tCons (tC (.ty T.name)) tNil))
  ok := fun C md ρ h σ B H m Q e w q =>
    a.ok C md ρ h σ B H m _ e w (Po.chain w q fun x h1 u B1 H1 m1 ea g1 w1 r1 q1 => fnV_ok ((bIsi T).ok C.K) w1 (.cons r1 .nil) q1)
/-- xs[i] -/
def ixV (h : Hd) : Vd → Vd → Oc Vd
  | .r n, y => match h[n]? with
    | some (.lst xs) => match y with
      | .d (.int i) => match atD xs i with
        | some x => .ok x h
        | none => .no
      | _ => .no
    | some (.frz x) => fnV (f2 ixD) [.d x, y] h
    | none => .no
  | x, y => fnV (f2 ixD) [x, y] h
theorem at_V {K : PySem.W.Frag} {B : Hp} {m : List Addr} {xs : List Vd} {vs : List V} {i : Int} {x : Vd} (e : atD xs i = some x) (h : VRs K B m xs vs) : ∃ v, atI vs i = some v ∧ VR K B m x v := by
  have hl := h.len
  unfold atD at e
  split at e
  · rename_i h0
    obtain ⟨v, e1, e2⟩ := h.at e
    refine ⟨v, ?_, e2⟩
    have := atI_nat e1
    rw [Int.toNat_of_nonneg h0] at this
    exact this
  · rename_i h0
    split at e
    · rename_i h1
      obtain ⟨v, e1, e2⟩ := h.at e
      refine ⟨v, ?_, e2⟩
      have lt := (List.getElem?_eq_some_iff.mp e1).1
      unfold atI ixN
      rw [hl]
      first
        | (rw [if_neg (by omega), if_pos (by omega)]; exact e1)
        | (rw [if_pos (by omega)]; exact e1)
    · cases e
def ix (a b : SE) : SE where
  ev := fun ρ h => (a.ev ρ h).bind fun x h1 => (b.ev ρ h1).bind fun y h2 => ixV h2 x y
  t := fun C md => tOp (rIxA C.K) (a.t C md) (b.t C md)
  ok := fun C md ρ h σ B H m Q e w q => by
    refine a.ok C md ρ h σ B H m _ e w (Po.chain w q fun x h1 u B1 H1 m1 ea g1 w1 r1 q1 => ?_)
    refine b.ok C md ρ h1 σ B1 H1 m1 _ (e.gm g1) w1 (Po.chain w1 q1 fun y h2 v B2 H2 m2 eb g2 w2 r2 q2 => ?_)
    have r1' := VR.gm r1 g2
    have plain : ∀ x, VR C.K B2 m2 x u → Po C md σ (rV C) m2 B2 H2 (fnV (f2 ixD) [x, y] h2) Q → rIxA C.K u v H2 Q := fun x rx q => by
      obtain ⟨u', v', e', z⟩ := fnV_ok (r := r2L (rIxA C.K)) (fun xs z e => (O2.mk ixD rIxA fun _ _ _ _ => ix_ok).fn C.K xs z e) w2 (.cons rx (.cons r2 .nil)) q
      cases e'
      exact z
    match x, r1', q2 with
    | .d d, r1', q2 => exact plain _ r1' q2
    | .r n, .r (a := a) p, q2 =>
      unfold ixV at q2
      dsimp only at q2
      split at q2
      · rename_i xs en
        obtain ⟨_, vs, hv, rs⟩ := w2.ent n a _ p en
        split at q2
        · split at q2
          · rename_i z ez
            cases r2 with
            | d hi =>
              cases hi
              obtain ⟨zv, e1, e2⟩ := at_V ez rs
              exact .inl ⟨a, vs, _, zv, rfl, rfl, .of hv, e1, q2 zv B2 H2 m2 (.refl w2) w2 e2⟩
          · exact q2.elim
        · exact q2.elim
      · rename_i d en
        exact plain _ (.d (w2.ent n a _ p en).1) q2
      · exact q2.elim
end SE
/-! ### slices -/
structure SO where
  ev : Rh → Hd → Oc (Option Int)
  t : Ctx → Md → TO
  ok : ∀ (C : Ctx) (md : Md) (ρ : Rh) (h : Hd) (σ : L2.St) (B H : Hp) (m : List Addr) (Q : Option Int → Hp → Prop), EnvN C.K B m σ ρ → WOk C.K B H m h → Po C md σ (fun _ _ x v => x = v) m B H (ev ρ h) Q → t C md σ H Q
def SO.none : SO where
  ev := fun _ h => .ok Option.none h
  t := fun _ _ => tNoPart
  ok := fun C md ρ h σ B H m Q e w q => q _ B H m (.refl w) w rfl
def SO.some (a : SE) : SO where
  ev := fun ρ h => (a.ev ρ h).bind fun x h1 => match x with
    | .d (.int i) => .ok (Option.some i) h1
    | _ => .no
  t := fun C md => tPart (a.t C md)
  ok := fun C md ρ h σ B H m Q e w q => by
    refine a.ok C md ρ h σ B H m _ e w (Po.chain w q fun x h1 u B1 H1 m1 ea g1 w1 r1 q1 => ?_)
    match x, r1, q1 with
    | .d (.int i), .d (.int _), q1 => exact ⟨i, rfl, q1 _ B1 H1 m1 (.refl w1) w1 rfl⟩
def rSlB (K : PySem.W.Frag) : V → Option Int → Option Int → Hp → VK → Prop := fun x lo hi H Q => rSlL K x lo hi H Q ∨ rSlA K x lo hi H Q
theorem slB {X : Cx} (K : PySem.W.Frag) (h : X.K = K := by rfl) : SlR X (rSlB K) := by
  subst h
  exact SlR.or sl_list sl_tupA
/-- the items of a list, told or own, all of them data -/
def itemsD (h : Hd) : Vd → Option (List PyData)
  | .d (.list ds) => some ds
  | .d _ => Option.none
  | .r n => match h[n]? with
    | some (.lst xs) => datas xs
    | some (.frz (.list ds)) => some ds
    | _ => Option.none
theorem itemsD_ok {C : Ctx} {B H : Hp} {m : List Addr} {h : Hd} (w : WOk C.K B H m h) {x : Vd} {v : V} {ds : List PyData} (e : itemsD h x = some ds) (r : VR C.K B m x v) : ∃ a vs, v = .ref a ∧ SqL C.K H a vs ∧ DaAll C.K B vs ds := by
  unfold itemsD at e
  match x, r, e with
  | .d (.list xs), .d (.lst h1 a1), e =>
    cases e
    exact ⟨_, _, rfl, same_l w.sub h1, a1⟩
  | .r n, .r (a := a) p, e =>
    dsimp only at e
    split at e
    · rename_i xs en
      obtain ⟨_, vs, hv, rs⟩ := w.ent n a _ p en
      rw [datas_ok e] at rs
      exact ⟨a, vs, rfl, .of hv, rs.data⟩
    · rename_i en
      cases e
      obtain ⟨da, _⟩ := w.ent n a _ p en
      cases da with
      | lst h1 a1 => exact ⟨a, _, rfl, same_l w.sub h1, a1⟩
    · cases e
namespace SE
def sl (a : SE) (lo hi : SO) : SE where
  ev := fun ρ h => (a.ev ρ h).bind fun x h1 => (lo.ev ρ h1).bind fun l h2 => (hi.ev ρ h2).bind fun u h3 => match x with
    | .d (.tuple ds) => .ok (.d (.tuple (G.cutD ds l u))) h3
    | x => match itemsD h3 x with
      | some ds => .ok (.d (.list (G.cutD ds l u))) h3
      | Option.none => .no
  t := fun C md => tSl (rSlB C.K) (a.t C md) (lo.t C md) (hi.t C md)
  ok := fun C md ρ h σ B H m Q e w q => by
    refine a.ok C md ρ h σ B H m _ e w (Po.chain w q fun x h1 v B1 H1 m1 ea g1 w1 r1 q1 => ?_)
    refine lo.ok C md ρ h1 σ B1 H1 m1 _ (e.gm g1) w1 (Po.chain w1 q1 fun l h2 l' B2 H2 m2 el g2 w2 r2 q2 => ?_)
    cases r2
    refine hi.ok C md ρ h2 σ B2 H2 m2 _ ((e.gm g1).gm g2) w2 (Po.chain w2 q2 fun u h3 u' B3 H3 m3 eu g3 w3 r3 q3 => ?_)
    cases r3
    have r1' := VR.gm (VR.gm r1 g2) g3
    split at q3
    · rename_i ds
      refine .inr ?_
      cases r1' with
      | d r1' =>
        cases r1' with
        | @tup a vs _ h a1 =>
          refine ⟨a, vs, rfl, same_t w3.sub h, fun hw => ?_, fun hw p hp => ?_⟩
          · have e2 : G.cutD ds l u = ds := by
              have hl := a1.len
              unfold G.cutD
              rw [← hl, hw.1, hw.2, List.drop_zero, Nat.sub_zero, hl, List.take_length]
            rw [e2] at q3
            exact q3 _ B3 H3 m3 (.refl w3) w3 (.d (.tup h a1))
          · have k := Gr.add w3.sub hp (.tup (cutV vs l u))
            exact q3 _ _ _ _ (.of w3 k) (w3.gr k) (.d (.tup (.of upd_same) ((cut_all a1 l u).mono k.bb)))
    · split at q3
      · rename_i ds ei
        obtain ⟨a, vs, rfl, hv, a1⟩ := itemsD_ok w3 ei r1'
        refine .inl ⟨a, vs, rfl, hv, fun p hp => ?_⟩
        have k := Gr.add w3.sub hp (.lst (cutV vs l u))
        exact q3 _ _ _ _ (.of w3 k) (w3.gr k) (.d (.lst (.of upd_same) ((cut_all a1 l u).mono k.bb)))
      · exact q3.elim
def tRevX (K : PySem.W.Frag) (te : TE) : TE := fun σ H Q => tRevL K te σ H Q ∨ tRevT K te σ H Q
/-- xs[::-1] -/
def rev (a : SE) : SE where
  ev := fun ρ h => (a.ev ρ h).bind fun x h1 => match x with
    | .d (.tuple ds) => .ok (.d (.tuple ds.reverse)) h1
    | x => match itemsD h1 x with
      | some ds => .ok (.d (.list ds.reverse)) h1
      | Option.none => .no
  t := fun C md => tRevX C.K (a.t C md)
  ok := fun C md ρ h σ B H m Q e w q => by
    cases c : a.ev ρ h with
    | ex c' x h1 =>
      rw [c] at q
      refine .inl (a.ok C md ρ h σ B H m _ e w ?_)
      rw [c]
      exact q
    | no =>
      rw [c] at q
      exact q.elim
    | ok x h1 =>
      rw [c] at q
      dsimp only [Oc.bind] at q
      split at q
      · rename_i ds
        refine .inr (a.ok C md ρ h σ B H m _ e w ?_)
        rw [c]
        intro v B1 H1 m1 g1 w1 r1
        cases r1 with
        | d r1 =>
          cases r1 with
          | @tup b vs _ h2 a1 =>
            refine ⟨b, vs, rfl, same_t w1.sub h2, fun p hp => ?_⟩
            have k := Gr.add w1.sub hp (.tup vs.reverse)
            exact q _ _ _ _ (g1.trans w (.of w1 k)) (w1.gr k) (.d (.tup (.of upd_same) (a1.rev.mono k.bb)))
      · split at q
        · rename_i ds ei
          refine .inl (a.ok C md ρ h σ B H m _ e w ?_)
          rw [c]
          intro v B1 H1 m1 g1 w1 r1
          obtain ⟨b, vs, rfl, hv, a1⟩ := itemsD_ok w1 ei r1
          refine ⟨b, vs, rfl, hv, fun p hp => ?_⟩
          have k := Gr.add w1.sub hp (.lst vs.reverse)
          exact q _ _ _ _ (g1.trans w (.of w1 k)) (w1.gr k) (.d (.lst (.of upd_same) (a1.rev.mono k.bb)))
        · exact q.elim
theorem revX {X : Cx} {K : PySem.W.Frag} {e : Expr} {te : TE} {k : Nat} {p1 p2 p3 pos : Pos} (he : PE X e te) (h : X.K = K := by rfl) : PE X (.Subscript e (.Slice none none (some (.UnaryOp .USub (.Constant (.int 1) k p1) p2)) p3) pos) (tRevX K te) := by
  subst h
  refine ⟨fun pins s σ H Q I hw => ?_⟩
  rcases hw with hw | hw
  · exact (pe_revL he).run pins s σ H Q I hw
  · exact (pe_revT he).run pins s σ H Q I hw
/-! ### new lists that are written to -/
theorem gm_new {K : PySem.W.Frag} {B H : Hp} {m : List Addr} {h : Hd} (w : WOk K B H m h) {p : Addr} (hp : H p = none) {vs : List V} {xs : List Vd} (r : VRs K B m xs vs) :
    Gm m B H B (upd H p (.lst vs)) (m ++ [p]) ∧ WOk K B (upd H p (.lst vs)) (m ++ [p]) (h ++ [.lst xs]) := by
  have k := Gr.side w.sub hp (.lst vs)
  have w1 := w.gr k
  have np : p ∉ m := fun z => w.tracked z hp
  refine ⟨⟨Same.refl _, fun a o _ e => k.ex a o e, fun a o e n => (by rw [n] at e; cases e), fun a e => ?_, [p], rfl, by simpa using hp⟩, ⟨k.sub, by simp [w.len], ?_, fun n a e p1 q1 => ?_⟩⟩
  · by_cases c : a = p
    · subst c; exact absurd hp e
    · rw [upd_ne c]; exact e
  · rw [List.nodup_append]
    refine ⟨w.nd, by simp, fun a ha b hb e => ?_⟩
    have : b = p := by simpa using hb
    subst this
    exact np (e ▸ ha)
  · by_cases c : n < m.length
    · rw [List.getElem?_append_left c] at p1
      rw [List.getElem?_append_left (by rw [← w.len]; exact c)] at q1
      have z := w1.ent n a e p1 q1
      match e, z with
      | .lst ys, ⟨z1, us, z2, z3⟩ => exact ⟨z1, us, z2, z3.mono (Same.refl _) [p]⟩
      | .frz y, z => exact z
    · have hl := w.len
      have l1 : n < (m ++ [p]).length := (List.getElem?_eq_some_iff.mp p1).1
      rw [List.length_append] at l1
      have en : n = m.length := by
        have : n < m.length + 1 := l1
        omega
      subst en
      rw [List.getElem?_append_right (Nat.le_refl _), Nat.sub_self] at p1
      rw [List.getElem?_append_right (by omega), hl, Nat.sub_self] at q1
      cases p1
      cases q1
      exact ⟨w.sub.free hp, vs, upd_same, r.mono (Same.refl _) [p]⟩
def lstM (a : SL) : SE where
  ev := fun ρ h => (a.ev ρ h).bind fun xs h1 => if xs.length ≤ 1000000 then .ok (.r h1.length) (h1 ++ [.lst xs]) else .no
  t := fun C md => tLst (a.t C md)
  ok := fun C md ρ h σ B H m Q e w q => by
    refine a.ok C md ρ h σ B H m _ e w (Po.chain w q fun xs h1 us B1 H1 m1 ea g1 w1 r1 q1 => ?_)
    split at q1
    · rename_i hl
      refine ⟨by rw [r1.len, sizeLine_eq]; omega, fun p hp => ?_⟩
      obtain ⟨k, w2⟩ := gm_new w1 hp r1
      exact q1 _ _ _ _ k w2 (.r (by rw [← w1.len, List.getElem?_append_right (Nat.le_refl _), Nat.sub_self]; rfl))
    · exact q1.elim
/-- the items of a list or tuple, told or own -/
def itemsV (h : Hd) : Vd → Option (List Vd)
  | .d (.list ds) => some (ds.map .d)
  | .d (.tuple ds) => some (ds.map .d)
  | .d _ => Option.none
  | .r n => match h[n]? with
    | some (.lst xs) => some xs
    | some (.frz (.list ds)) => some (ds.map .d)
    | _ => Option.none
theorem itemsV_ok {C : Ctx} {B H : Hp} {m : List Addr} {h : Hd} (w : WOk C.K B H m h) {x : Vd} {v : V} {xs : List Vd} (e : itemsV h x = some xs) (r : VR C.K B m x v) :
    ∃ a vs, v = .ref a ∧ (SqL C.K H a vs ∨ SqT C.K H a vs) ∧ VRs C.K B m xs vs := by
  unfold itemsV at e
  match x, r, e with
  | .d (.list xs), .d (.lst h1 a1), e =>
    cases e
    exact ⟨_, _, rfl, .inl (same_l w.sub h1), VRs.all a1⟩
  | .d (.tuple xs), .d (.tup h1 a1), e =>
    cases e
    exact ⟨_, _, rfl, .inr (same_t w.sub h1), VRs.all a1⟩
  | .r n, .r (a := a) p, e =>
    dsimp only at e
    split at e
    · rename_i xs en
      cases e
      obtain ⟨_, vs, hv, rs⟩ := w.ent n a _ p en
      exact ⟨a, vs, rfl, .inl (.of hv), rs⟩
    · rename_i en
      cases e
      obtain ⟨da, _⟩ := w.ent n a _ p en
      cases da with
      | lst h1 a1 => exact ⟨a, _, rfl, .inl (same_l w.sub h1), VRs.all a1⟩
    · cases e
theorem one_last {α : Type} (m : List α) (p : α) : (m ++ [p])[m.length]? = some p := by rw [List.getElem?_append_right (Nat.le_refl _), Nat.sub_self]; rfl
/-- list(x) -/
def listM (a : SE) : SE where
  ev := fun ρ h => (a.ev ρ h).bind fun x h1 => match itemsV h1 x with
    | some xs => .ok (.r h1.length) (h1 ++ [.lst xs])
    | Option.none => .no
  t := fun C md => tCB (rListOf C.K) (tCons (a.t C md) tNil)
  ok := fun C md ρ h σ B H m Q e w q => by
    refine a.ok C md ρ h σ B H m _ e w (Po.chain w q fun x h1 v B1 H1 m1 ea g1 w1 r1 q1 => ?_)
    split at q1
    · rename_i xs ei
      obtain ⟨b, vs, rfl, hv, rs⟩ := itemsV_ok w1 ei r1
      refine ⟨b, vs, rfl, hv, fun l hl => ?_⟩
      obtain ⟨k, w2⟩ := gm_new w1 hl rs
      exact q1 _ _ _ _ k w2 (.r (by rw [← w1.len]; exact one_last _ _))
    · exact q1.elim
/-- xs[i:j] -/
def cutX (xs : List Vd) (lo hi : Option Int) : List Vd := (xs.drop (HT.sIx xs.length 0 lo)).take (HT.sIx xs.length xs.length hi - HT.sIx xs.length 0 lo)
theorem cutX_ok {K : PySem.W.Frag} {B : Hp} {m : List Addr} {xs : List Vd} {vs : List V} (r : VRs K B m xs vs) (lo hi : Option Int) : VRs K B m (cutX xs lo hi) (cutV vs lo hi) := by
  have e1 := r.len
  unfold cutX cutV
  rw [e1]
  exact (r.drop _).take _
def itemsL (h : Hd) : Vd → Option (List Vd)
  | .d (.list ds) => some (ds.map .d)
  | .d _ => Option.none
  | .r n => match h[n]? with
    | some (.lst xs) => some xs
    | some (.frz (.list ds)) => some (ds.map .d)
    | _ => Option.none
theorem itemsL_ok {C : Ctx} {B H : Hp} {m : List Addr} {h : Hd} (w : WOk C.K B H m h) {x : Vd} {v : V} {xs : List Vd} (e : itemsL h x = some xs) (r : VR C.K B m x v) :
    ∃ a vs, v = .ref a ∧ SqL C.K H a vs ∧ VRs C.K B m xs vs := by
  unfold itemsL at e
  match x, r, e with
  | .d (.list xs), .d (.lst h1 a1), e =>
    cases e
    exact ⟨_, _, rfl, same_l w.sub h1, VRs.all a1⟩
  | .r n, .r (a := a) p, e =>
    dsimp only at e
    split at e
    · rename_i xs en
      cases e
      obtain ⟨_, vs, hv, rs⟩ := w.ent n a _ p en
      exact ⟨a, vs, rfl, .of hv, rs⟩
    · rename_i en
      cases e
      obtain ⟨da, _⟩ := w.ent n a _ p en
      cases da with
      | lst h1 a1 => exact ⟨a, _, rfl, same_l w.sub h1, VRs.all a1⟩
    · cases e
def slM (a : SE) (lo hi : SO) : SE where
  ev := fun ρ h => (a.ev ρ h).bind fun x h1 => (lo.ev ρ h1).bind fun l h2 => (hi.ev ρ h2).bind fun u h3 => match itemsL h3 x with
    | some xs => .ok (.r h3.length) (h3 ++ [.lst (cutX xs l u)])
    | Option.none => .no
  t := fun C md => tSl (rSlB C.K) (a.t C md) (lo.t C md) (hi.t C md)
  ok := fun C md ρ h σ B H m Q e w q => by
    refine a.ok C md ρ h σ B H m _ e w (Po.chain w q fun x h1 v B1 H1 m1 ea g1 w1 r1 q1 => ?_)
    refine lo.ok C md ρ h1 σ B1 H1 m1 _ (e.gm g1) w1 (Po.chain w1 q1 fun l h2 l' B2 H2 m2 el g2 w2 r2 q2 => ?_)
    cases r2
    refine hi.ok C md ρ h2 σ B2 H2 m2 _ ((e.gm g1).gm g2) w2 (Po.chain w2 q2 fun u h3 u' B3 H3 m3 eu g3 w3 r3 q3 => ?_)
    cases r3
    split at q3
    · rename_i xs ei
      obtain ⟨a, vs, rfl, hv, rs⟩ := itemsL_ok w3 ei (VR.gm (VR.gm r1 g2) g3)
      refine .inl ⟨a, vs, rfl, hv, fun p hp => ?_⟩
      obtain ⟨k, w4⟩ := gm_new w3 hp (cutX_ok rs l u)
      exact q3 _ _ _ _ k w4 (.r (by rw [← w3.len]; exact one_last _ _))
    · exact q3.elim
/-- xs + ys, a new list that is written to -/
def addM (a b : SE) : SE where
  ev := fun ρ h => (a.ev ρ h).bind fun x h1 => (b.ev ρ h1).bind fun y h2 => match itemsL h2 x, itemsL h2 y with
    | some xs, some ys => if xs.length + ys.length ≤ 1000000 then .ok (.r h2.length) (h2 ++ [.lst (xs ++ ys)]) else .no
    | _, _ => .no
  t := fun C md => tOp (rAddA C.K) (a.t C md) (b.t C md)
  ok := fun C md ρ h σ B H m Q e w q => by
    refine a.ok C md ρ h σ B H m _ e w (Po.chain w q fun x h1 u B1 H1 m1 ea g1 w1 r1 q1 => ?_)
    refine b.ok C md ρ h1 σ B1 H1 m1 _ (e.gm g1) w1 (Po.chain w1 q1 fun y h2 v B2 H2 m2 eb g2 w2 r2 q2 => ?_)
    split at q2
    · rename_i xs ys ex ey
      split at q2
      · rename_i hl
        obtain ⟨a1, vs, rfl, hv, rs⟩ := itemsL_ok w2 ex (VR.gm r1 g2)
        obtain ⟨a2, us, rfl, hu, rt⟩ := itemsL_ok w2 ey r2
        refine .inr (.inl ⟨a1, a2, vs, us, rfl, rfl, hv, hu, by rw [rs.len, rt.len, sizeLine_eq]; omega, fun p hp => ?_⟩)
        obtain ⟨k, w4⟩ := gm_new w2 hp (rs.app rt)
        exact q2 _ _ _ _ k w4 (.r (by rw [← w2.len]; exact one_last _ _))
      · exact q2.elim
    · exact q2.elim
/-- xs[::-1], written to -/
def revM (a : SE) : SE where
  ev := fun ρ h => (a.ev ρ h).bind fun x h1 => match itemsL h1 x with
    | some xs => .ok (.r h1.length) (h1 ++ [.lst xs.reverse])
    | Option.none => .no
  t := fun C md => tRevX C.K (a.t C md)
  ok := fun C md ρ h σ B H m Q e w q => by
    refine .inl (a.ok C md ρ h σ B H m _ e w (Po.chain w q fun x h1 v B1 H1 m1 ea g1 w1 r1 q1 => ?_))
    split at q1
    · rename_i xs ei
      obtain ⟨a1, vs, rfl, hv, rs⟩ := itemsL_ok w1 ei r1
      refine ⟨a1, vs, rfl, hv, fun p hp => ?_⟩
      obtain ⟨k, w4⟩ := gm_new w1 hp rs.rev
      exact q1 _ _ _ _ k w4 (.r (by rw [← w1.len]; exact one_last _ _))
    · exact q1.elim
/-- data from here on -/
def frz (a : SE) : SE where
  ev := fun ρ h => (a.ev ρ h).bind fun x h1 => match N.frz h1 x with
    | some (d, h2) => .ok (.d d) h2
    | Option.none => .no
  t := a.t
  ok := fun C md ρ h σ B H m Q e w q => by
    refine a.ok C md ρ h σ B H m _ e w (Po.chain w q fun x h1 v B1 H1 m1 ea g1 w1 r1 q1 => ?_)
    split at q1
    · rename_i d h2 ef
      obtain ⟨B2, g2, w2, d2⟩ := frz_ok w1 ef r1
      exact q1 v B2 H1 m1 g2 w2 (.d d2)
    · exact q1.elim
end SE
end N
end
section
set_option maxRecDepth 100000
set_option maxHeartbeats 2000000
/-! what is walked, targets, comprehensions, statements -/
namespace N
open PySem PySem.Spec PyProof.Rows L2 G

/-! ### what is walked -/
def rI (C : Ctx) : Hp → List Addr → List PyData → It → Prop := fun B _ es J => Goes C.K J B es
structure SI where
  ev : Rh → Hd → Oc (List PyData)
  t : Ctx → Md → TI
  ok : ∀ (C : Ctx) (md : Md) (ρ : Rh) (h : Hd) (σ : L2.St) (B H : Hp) (m : List Addr) (R : It → Hp → Prop), EnvN C.K B m σ ρ → WOk C.K B H m h → Po C md σ (rI C) m B H (ev ρ h) R → t C md σ H R
def seqD : PyData → Option (List PyData)
  | .list ds => some ds
  | .tuple ds => some ds
  | _ => none
namespace SI
/-- a list, a tuple -/
def seq (a : SE) : SI where
  ev := fun ρ h => (a.ev ρ h).bind fun x h1 => match frz h1 x with
    | some (d, h2) => match seqD d with
      | some ds => .ok ds h2
      | none => .no
    | none => .no
  t := fun C md => orI (iList C.K (a.t C md)) (iTup C.K (a.t C md))
  ok := fun C md ρ h σ B H m R e w q => by
    cases c : a.ev ρ h with
    | no => rw [c] at q; exact q.elim
    | ex c' x h1 =>
      rw [c] at q
      refine .inl (a.ok C md ρ h σ B H m _ e w ?_)
      rw [c]
      exact q
    | ok x h1 =>
      rw [c] at q
      dsimp only [Oc.bind] at q
      split at q
      · rename_i d h2 ef
        split at q
        · rename_i ds es
          match d, es, ef with
          | .list xs, es, ef =>
            cases es
            refine .inl (a.ok C md ρ h σ B H m _ e w ?_)
            rw [c]
            intro v B1 H1 m1 g1 w1 r1
            obtain ⟨B2, g2, w2, d2⟩ := frz_ok w1 ef r1
            cases d2 with
            | lst p a1 => exact ⟨_, rfl, ⟨_, same_l w2.sub p⟩, q _ B2 H1 m1 (g1.trans w g2) w2 (goes_at walk_list (fun H' s' => same_l s' p) a1)⟩
          | .tuple xs, es, ef =>
            cases es
            refine .inr (a.ok C md ρ h σ B H m _ e w ?_)
            rw [c]
            intro v B1 H1 m1 g1 w1 r1
            obtain ⟨B2, g2, w2, d2⟩ := frz_ok w1 ef r1
            cases d2 with
            | tup p a1 => exact ⟨_, rfl, ⟨_, same_t w2.sub p⟩, q _ B2 H1 m1 (g1.trans w g2) w2 (goes_at walk_tup (fun H' s' => same_t s' p) a1)⟩
          | .none, es, _ => cases es
          | .bool _, es, _ => cases es
          | .int _, es, _ => cases es
          | .str _, es, _ => cases es
          | .dict _, es, _ => cases es
        · exact q.elim
      · exact q.elim
/-- a list that is written there -/
def dis (a : SE) : SI where
  ev := fun ρ h => (a.ev ρ h).bind fun x h1 => match x with
    | .d (.list ds) => .ok ds h1
    | _ => .no
  t := fun C md => iList C.K (a.t C md)
  ok := fun C md ρ h σ B H m R e w q => by
    refine a.ok C md ρ h σ B H m _ e w (Po.chain w q fun x h1 v B1 H1 m1 ea g1 w1 r1 q1 => ?_)
    match x, r1, q1 with
    | .d (.list ds), .d (.lst p a1), q1 => exact ⟨_, rfl, ⟨_, same_l w1.sub p⟩, q1 _ B1 H1 m1 (.refl w1) w1 (goes_at walk_list (fun H' s' => same_l s' p) a1)⟩
def rng (lo n : Int) : List PyData := (List.range (n - lo).toNat).map fun (i : Nat) => .int (lo + (i : Int))
theorem rng_goes {K : PySem.W.Frag} {B : Hp} {lo hi : Int} {n : Nat} (hn : (hi - lo).toNat = n) : Goes K (Itr lo n) B (rng lo hi) := by
  subst hn
  unfold Goes rng
  rw [List.length_map, List.length_range]
  refine walk_range.mono (fun _ _ => trivial) fun i H x H' hi s y B0 s0 h0 => ?_
  obtain ⟨rfl, rfl⟩ := y
  exact ⟨B0, .int (lo + (i : Int)), .refl h0, by simp [hi], .int _⟩
def big62 (i : Int) : Bool := decide (-(2 ^ 62) ≤ i) && decide (i < 2 ^ 62)
/-- range(n) -/
def rng1 (a : SL) : SI where
  ev := fun ρ h => (a.ev ρ h).bind fun xs h1 => match xs with
    | [.d (.int n)] => if big62 n = true then .ok (rng 0 n) h1 else .no
    | _ => .no
  t := fun C md => iRng1 (a.t C md)
  ok := fun C md ρ h σ B H m R e w q => by
    refine a.ok C md ρ h σ B H m _ e w (Po.chain w q fun xs h1 vs B1 H1 m1 ea g1 w1 r1 q1 => ?_)
    split at q1
    · rename_i n
      split at q1
      · rename_i hb
        unfold big62 at hb
        rw [Bool.and_eq_true] at hb
        cases r1 with
        | cons r1 t =>
          cases t
          cases r1 with
          | d r1 =>
            cases r1
            exact ⟨n, rfl, of_decide_eq_true hb.1, of_decide_eq_true hb.2, q1 _ B1 H1 m1 (.refl w1) w1 (rng_goes (by rw [Int.sub_zero]))⟩
      · exact q1.elim
    · exact q1.elim
/-- range(a, b) -/
def rng2 (a : SL) : SI where
  ev := fun ρ h => (a.ev ρ h).bind fun xs h1 => match xs with
    | [.d (.int l), .d (.int n)] => if (big62 l && big62 n) = true then .ok (rng l n) h1 else .no
    | _ => .no
  t := fun C md => iRng2 (a.t C md)
  ok := fun C md ρ h σ B H m R e w q => by
    refine a.ok C md ρ h σ B H m _ e w (Po.chain w q fun xs h1 vs B1 H1 m1 ea g1 w1 r1 q1 => ?_)
    split at q1
    · rename_i l n
      split at q1
      · rename_i hb
        unfold big62 at hb
        rw [Bool.and_eq_true, Bool.and_eq_true, Bool.and_eq_true] at hb
        obtain ⟨⟨a1, a2⟩, a3, a4⟩ := hb
        cases r1 with
        | cons r1 t =>
          cases t with
          | cons r2 t =>
            cases t
            cases r1 with
            | d r1 =>
              cases r2 with
              | d r2 =>
                cases r1
                cases r2
                exact ⟨l, n, rfl, ⟨of_decide_eq_true a1, of_decide_eq_true a2, of_decide_eq_true a3, of_decide_eq_true a4⟩, q1 _ B1 H1 m1 (.refl w1) w1 (rng_goes rfl)⟩
      · exact q1.elim
    · exact q1.elim
def zipE : List PyData → Option (List PyData)
  | [.list xs, .list ys] => some (zipD xs ys)
  | [.tuple xs, .list ys] => some (zipD xs ys)
  | [.tuple xs, .tuple ys] => some (zipD xs ys)
  | _ => none
/-- zip(a, b) -/
def zip (a : SL) : SI where
  ev := fun ρ h => (a.ev ρ h).bind fun xs h1 => match frzL h1 xs with
    | some (ds, h2) => match zipE ds with
      | some es => .ok es h2
      | none => .no
    | none => .no
  t := fun C md => orI (RZ.iZipA C.K (a.t C md)) (iZipM C.K (a.t C md))
  ok := fun C md ρ h σ B H m R e w q => by
    cases c : a.ev ρ h with
    | no => rw [c] at q; exact q.elim
    | ex c' x h1 =>
      rw [c] at q
      refine .inl (a.ok C md ρ h σ B H m _ e w ?_)
      rw [c]
      exact q
    | ok xs h1 =>
      rw [c] at q
      dsimp only [Oc.bind] at q
      split at q
      · rename_i ds h2 ef
        split at q
        · rename_i es ez
          have go : ∀ (r : List V → Hp → (It → Hp → Prop) → Prop), (∀ u v x y es' fs', ds = [x, y] → seqD x = some es' → seqD y = some fs' → es = zipD es' fs' → ∀ B2 H2, Same B2 H2 → Da C.K B2 u x → Da C.K B2 v y → ∀ R : It → Hp → Prop, (∀ J, Goes C.K J B2 es → R J H2) → r [u, v] H2 R) →
              (∃ x y es' fs', ds = [x, y] ∧ seqD x = some es' ∧ seqD y = some fs' ∧ es = zipD es' fs') → a.t C md σ H (fun vs H1 => r vs H1 R) := fun r hr ⟨x, y, es', fs', hds, h1', h2', h3'⟩ => by
            refine a.ok C md ρ h σ B H m _ e w ?_
            rw [c]
            intro vs B1 H1 m1 g1 w1 r1
            obtain ⟨B2, g2, w2, d2⟩ := frzL_ok w1 ef r1
            rw [hds] at d2
            obtain ⟨u, v, rfl, du, dv⟩ := da2 d2
            exact hr u v x y es' fs' hds h1' h2' h3' B2 H1 w2.sub du dv R fun J gj => q J B2 H1 m1 (g1.trans w g2) w2 gj
          unfold zipE at ez
          split at ez
          · cases ez
            refine .inl (go (fun vs H1 R => ∃ a b xs ys, vs = [.ref a, .ref b] ∧ ((SqL C.K H1 a xs ∧ SqL C.K H1 b ys ∧ R (Itz C.K a b) H1) ∨ (SqT C.K H1 a xs ∧ SqT C.K H1 b ys ∧ R (RZ.ItzT C.K a b) H1))) ?_ ⟨_, _, _, _, rfl, rfl, rfl, rfl⟩)
            intro u v x y es' fs' hds h1' h2' h3' B2 H2 s du dv R qq
            cases hds
            cases h1'
            cases h2'
            cases du with
            | lst p1 a1 =>
              cases dv with
              | lst p2 a2 => exact ⟨_, _, _, _, rfl, .inl ⟨same_l s p1, same_l s p2, qq _ (goes_pair (walk_zip rfl) (fun H' s' => ⟨same_l s' p1, same_l s' p2⟩) a1 a2)⟩⟩
          · cases ez
            refine .inr (go (fun vs H1 R => ∃ a b xs ys, vs = [.ref a, .ref b] ∧ SqT C.K H1 a xs ∧ SqL C.K H1 b ys ∧ R (ItM C.K a b) H1) ?_ ⟨_, _, _, _, rfl, rfl, rfl, rfl⟩)
            intro u v x y es' fs' hds h1' h2' h3' B2 H2 s du dv R qq
            cases hds
            cases h1'
            cases h2'
            cases du with
            | tup p1 a1 =>
              cases dv with
              | lst p2 a2 => exact ⟨_, _, _, _, rfl, same_t s p1, same_l s p2, qq _ (goes_pair walkM (fun H' s' => ⟨same_t s' p1, same_l s' p2⟩) a1 a2)⟩
          · cases ez
            refine .inl (go (fun vs H1 R => ∃ a b xs ys, vs = [.ref a, .ref b] ∧ ((SqL C.K H1 a xs ∧ SqL C.K H1 b ys ∧ R (Itz C.K a b) H1) ∨ (SqT C.K H1 a xs ∧ SqT C.K H1 b ys ∧ R (RZ.ItzT C.K a b) H1))) ?_ ⟨_, _, _, _, rfl, rfl, rfl, rfl⟩)
            intro u v x y es' fs' hds h1' h2' h3' B2 H2 s du dv R qq
            cases hds
            cases h1'
            cases h2'
            cases du with
            | tup p1 a1 =>
              cases dv with
              | tup p2 a2 => exact ⟨_, _, _, _, rfl, .inr ⟨same_t s p1, same_t s p2, qq _ (goes_pair walkT (fun H' s' => ⟨same_t s' p1, same_t s' p2⟩) a1 a2)⟩⟩
          · cases ez
        · exact q.elim
      · exact q.elim
theorem goes_enum {K : PySem.W.Frag} {B : Hp} {a : Addr} {xs : List V} {es : List PyData} (p1 : SqL K B a xs) (a1 : DaAll K B xs es) : Goes K (Ite K a) B (enumD es) := by
  have hl := a1.len
  unfold Goes
  rw [show (enumD es).length = es.length by unfold enumD; simp, ← hl]
  refine walk_enum.mono (fun H' s' => same_l s' p1) fun i H x H' hi s y B0 s0 h0 => ?_
  obtain ⟨T, p, q, rfl, hT, rfl, hp, hq⟩ := y
  have hx : i < es.length := by omega
  obtain ⟨v, e1, e2⟩ := a1.at (List.getElem?_eq_getElem hx)
  cases hp
  have hq' := (show _ = some q from hq)
  simp only at hq'
  rw [e1] at hq'
  cases hq'
  have g := Gr.add h0 hT (.tup [.int (i : Nat), q])
  refine ⟨_, .tuple [.int i, es[i]], g, ?_, .tup (.of upd_same) (.cons (.int _) (.cons ((e2.mono s0).mono g.bb) .nil))⟩
  unfold enumD
  simp [hx]
/-- enumerate(xs), xs a list -/
def enum (a : SL) : SI where
  ev := fun ρ h => (a.ev ρ h).bind fun xs h1 => match frzL h1 xs with
    | some ([.list ds], h2) => .ok (enumD ds) h2
    | _ => .no
  t := fun C md => iEnum C.K (a.t C md)
  ok := fun C md ρ h σ B H m R e w q => by
    refine a.ok C md ρ h σ B H m _ e w (Po.chain w q fun xs h1 vs B1 H1 m1 ea g1 w1 r1 q1 => ?_)
    split at q1
    · rename_i ds h2 ef
      obtain ⟨B2, g2, w2, d2⟩ := frzL_ok w1 ef r1
      obtain ⟨u, rfl, du⟩ := da1 d2
      cases du with
      | lst p a1 => exact ⟨_, _, rfl, same_l w2.sub p, q1 _ B2 H1 m1 g2 w2 (goes_enum p a1)⟩
    · exact q1.elim
/-- reversed(xs) -/
def revd (a : SE) : SI where
  ev := fun ρ h => (a.ev ρ h).bind fun x h1 => match frz h1 x with
    | some (d, h2) => match seqD d with
      | some ds => .ok ds.reverse h2
      | none => .no
    | none => .no
  t := fun C md => RT.iRevA C.K (a.t C md)
  ok := fun C md ρ h σ B H m R e w q => by
    refine a.ok C md ρ h σ B H m _ e w (Po.chain w q fun x h1 v B1 H1 m1 ea g1 w1 r1 q1 => ?_)
    split at q1
    · rename_i d h2 ef
      split at q1
      · rename_i ds es
        obtain ⟨B2, g2, w2, d2⟩ := frz_ok w1 ef r1
        match d, es, d2 with
        | .list xs, es, .lst p a1 =>
          cases es
          exact ⟨_, _, rfl, .inl ⟨same_l w2.sub p, q1 _ B2 H1 m1 g2 w2 (goes_rev walk_rev (fun H' s' => same_l s' p) a1)⟩⟩
        | .tuple xs, es, .tup p a1 =>
          cases es
          exact ⟨_, _, rfl, .inr ⟨same_t w2.sub p, q1 _ B2 H1 m1 g2 w2 (goes_rev walk_revT (fun H' s' => same_t s' p) a1)⟩⟩
        | .none, es, _ => cases es
        | .bool _, es, _ => cases es
        | .int _, es, _ => cases es
        | .str _, es, _ => cases es
        | .dict _, es, _ => cases es
      · exact q1.elim
    · exact q1.elim
end SI

/-! ### targets: names, tuples of them -/
def Ag (vs : List Nat) (σ σ' : L2.St) : Prop := σ'.length = σ.length ∧ ∀ j, j ∉ vs → σ'[j]? = σ[j]?
theorem Ag.refl (vs : List Nat) (σ : L2.St) : Ag vs σ σ := ⟨rfl, fun _ _ => rfl⟩
theorem Ag.trans {vs ws : List Nat} {σ σ1 σ2 : L2.St} (a : Ag vs σ σ1) (b : Ag ws σ1 σ2) : Ag (vs ++ ws) σ σ2 :=
  ⟨b.1.trans a.1, fun j hj => (b.2 j fun z => hj (List.mem_append_right _ z)).trans (a.2 j fun z => hj (List.mem_append_left _ z))⟩
theorem wipe_len (σ : L2.St) : ∀ vs, (wipe σ vs).length = σ.length
  | [] => rfl
  | v :: vs => by
    show ((wipe σ vs).set v none).length = _
    rw [List.length_set, wipe_len σ vs]
theorem wipe_in (σ : L2.St) {j : Nat} : ∀ {vs : List Nat}, j ∈ vs → (wipe σ vs)[j]? = if j < σ.length then some none else none
  | v :: vs, h => by
    show ((wipe σ vs).set v none)[j]? = _
    by_cases c : v = j
    · subst c
      by_cases l : v < σ.length
      · rw [if_pos l, List.getElem?_set_self (by rw [wipe_len]; exact l)]
      · rw [if_neg l, List.getElem?_eq_none (by rw [List.length_set, wipe_len]; omega)]
    · rw [List.getElem?_set_ne c]
      exact wipe_in σ ((List.mem_cons.mp h).resolve_left fun z => c z.symm)
theorem Ag.wipe {vs : List Nat} {σ σ' : L2.St} (a : Ag vs (L2.wipe σ vs) σ') : L2.wipe σ' vs = L2.wipe σ vs := by
  have la : σ'.length = σ.length := a.1.trans (wipe_len σ vs)
  refine List.ext_getElem? fun j => ?_
  by_cases c : j ∈ vs
  · rw [wipe_in σ' c, wipe_in σ c, la]
  · rw [G.wipe_at σ' c, a.2 j c]
structure ST where
  vs : List Nat
  put : Vd → Rh → Option Rh
  t : Ctx → TG
  ok : ∀ (C : Ctx) (x : Vd) (v : V) (σ : L2.St) (ρ ρ1 : Rh) (B H : Hp) (m : List Addr), VR C.K B m x v → EnvN C.K B m σ ρ → Same B H → put x ρ = some ρ1 → ∀ Q : L2.St → Hp → Prop, (∀ σ', EnvN C.K B m σ' ρ1 → Ag vs σ σ' → Q σ' H) → t C v σ H Q
structure STs where
  n : Nat
  vs : List Nat
  put : List PyData → Rh → Option Rh
  t : Ctx → TGs
  ok : ∀ (C : Ctx) (xs : List PyData) (vs' : List V) (σ : L2.St) (ρ ρ1 : Rh) (B H : Hp) (m : List Addr), DaAll C.K B vs' xs → EnvN C.K B m σ ρ → Same B H → put xs ρ = some ρ1 → ∀ Q : L2.St → Hp → Prop, (∀ σ', EnvN C.K B m σ' ρ1 → Ag vs σ σ' → Q σ' H) → t C vs' σ H Q
  len : ∀ xs ρ ρ1, put xs ρ = some ρ1 → xs.length = n
namespace ST
def name (i : Nat) : ST where
  vs := [i]
  put := fun x ρ => some (ρ.set i (some x))
  t := fun _ => gName i
  ok := fun C x v σ ρ ρ1 B H m r e s p Q q => by
    cases p
    exact q _ (e.set r i) ⟨List.length_set .., fun j hj => List.getElem?_set_ne fun z => hj (by simp [z])⟩
def tup (ts : STs) : ST where
  vs := ts.vs
  put := fun x ρ => match x with
    | .d (.tuple ds) => ts.put ds ρ
    | _ => none
  t := fun C => gTup C.K ts.n (ts.t C)
  ok := fun C x v σ ρ ρ1 B H m r e s p Q q => by
    split at p
    · rename_i ds
      cases r with
      | d r =>
        cases r with
        | tup h a => exact ⟨_, _, rfl, same_t s h, by rw [a.len]; exact ts.len _ _ _ p, ts.ok C ds _ σ ρ ρ1 B H m a e s p Q q⟩
    · cases p
end ST
namespace STs
def nil : STs where
  n := 0
  vs := []
  put := fun xs ρ => match xs with
    | [] => some ρ
    | _ => none
  t := fun _ => gNil
  ok := fun C xs vs' σ ρ ρ1 B H m r e s p Q q => by
    split at p
    · cases p
      cases r
      exact ⟨rfl, q σ e (.refl _ _)⟩
    · cases p
  len := fun xs ρ ρ1 p => by
    split at p
    · rfl
    · cases p
def cons (a : ST) (r : STs) : STs where
  n := r.n + 1
  vs := a.vs ++ r.vs
  put := fun xs ρ => match xs with
    | x :: xs => match a.put (.d x) ρ with
      | some ρ1 => r.put xs ρ1
      | none => none
    | [] => none
  t := fun C => gCons (a.t C) (r.t C)
  ok := fun C xs vs' σ ρ ρ1 B H m rr e s p Q q => by
    split at p
    · rename_i x xs
      split at p
      · rename_i ρ2 e2
        cases rr with
        | cons h t => exact ⟨_, _, rfl, a.ok C (.d x) _ σ ρ ρ2 B H m (.d h) e s e2 _ fun σ1 e1 g1 => r.ok C xs _ σ1 ρ2 ρ1 B H m t e1 s p Q fun σ2 e3 g2 => q σ2 e3 (g1.trans g2)⟩
      · cases p
    · cases p
  len := fun xs ρ ρ1 p => by
    split at p
    · rename_i x xs
      split at p
      · rw [List.length_cons, r.len _ _ _ p]
      · cases p
    · cases p
end STs

/-! ### comprehensions -/
def lcR (put : Vd → Rh → Option Rh) (f : Rh → Hd → Oc Bool) (g : Rh → Hd → Oc Vd) (ρ : Rh) : List PyData → List Vd → Hd → Oc (List Vd)
  | [], out, h => .ok out h
  | x :: xs, out, h => match put (.d x) ρ with
    | none => .no
    | some ρ1 => match f ρ1 h with
      | .ok true h1 => match g ρ1 h1 with
        | .ok y h2 => lcR put f g ρ xs (out ++ [y]) h2
        | _ => .no
      | .ok false h1 => lcR put f g ρ xs out h1
      | _ => .no
theorem gm_side {K : PySem.W.Frag} {B H B1 H1 : Hp} {m m1 : List Addr} {h : Hd} {D : Addr} {o : HO} (hD : H D = none) (g : Gm m B (upd H D o) B1 H1 m1) : Gm m B H B1 H1 m1 := by
  refine ⟨g.bb, fun a u n e => g.ex a u n (by rw [upd_ne (ne_of_none e hD)]; exact e), fun a u e n => ?_, fun a e => g.kp a (by rw [upd_ne (fun z => e (by rw [z]; exact hD))]; exact e), ?_⟩
  · rcases g.new a u e n with z | z
    · by_cases c : a = D
      · subst c; exact .inl hD
      · rw [upd_ne c] at z; exact .inl z
    · exact .inr z
  · obtain ⟨l, e, f⟩ := g.ext
    refine ⟨l, e, fun a z => ?_⟩
    have := f a z
    by_cases c : a = D
    · subst c; exact hD
    · rw [upd_ne c] at this; exact this
/-- the list that a comprehension fills changes -/
theorem wok_upd {K : PySem.W.Frag} {B H : Hp} {m : List Addr} {h : Hd} (w : WOk K B H m h) {D : Addr} (nm : D ∉ m) (nB : B D = none) (o : HO) : WOk K B (upd H D o) m h := by
  refine ⟨fun a u e => by rw [upd_ne (ne_of_none e nB)]; exact w.sub a u e, w.len, w.nd, fun n a e p q => ?_⟩
  have ne : a ≠ D := fun z => nm (z ▸ List.mem_of_getElem? p)
  have z := w.ent n a e p q
  match e, z with
  | .lst ys, ⟨z1, us, z2, z3⟩ => exact ⟨z1, us, by rw [upd_ne ne]; exact z2, z3⟩
  | .frz y, ⟨z1, z2⟩ => exact ⟨z1, by rw [upd_ne ne]; exact z2⟩
theorem gm_upd {B H B1 H1 : Hp} {m m1 : List Addr} (g : Gm m B H B1 H1 m1) {D : Addr} (hD : H D = none) (o : HO) : Gm m B H B1 (upd H1 D o) m1 :=
  ⟨g.bb, fun a u n e => by rw [upd_ne (ne_of_none e hD)]; exact g.ex a u n e, g.new, fun a e => by
    by_cases c : a = D
    · subst c; rw [upd_same]; simp
    · rw [upd_ne c]; exact g.kp a e, g.ext⟩
theorem gm_out {B H B1 H1 : Hp} {m m1 : List Addr} (g : Gm m B H B1 H1 m1) {D : Addr} (nm : D ∉ m) (nH : H D ≠ none) : D ∉ m1 := by
  obtain ⟨l, rfl, f⟩ := g.ext
  intro z
  rcases List.mem_append.mp z with z | z
  · exact nm z
  · exact nH (f D z)
theorem gm_B {B H B1 H1 : Hp} {m m1 : List Addr} (g : Gm m B H B1 H1 m1) {D : Addr} (nm : D ∉ m) (nH : H D ≠ none) (nB : B D = none) : B1 D = none := by
  cases c : B1 D with
  | none => rfl
  | some o =>
    rcases g.new D o c nB with z | z
    · exact absurd z nH
    · exact absurd z nm
theorem gm_let {K : PySem.W.Frag} {B H B1 H1 : Hp} {m m1 : List Addr} {h : Hd} {D : Addr} {xs : List V} {ds : List PyData} (g : Gm m B H B1 H1 m1) (w : WOk K B1 H1 m1 h) (h0 : H D = none) (nB : B1 D = none) (nm : D ∉ m1) (hD : H1 D = some (.lst xs)) (da : DaAll K B1 xs ds) :
    Gm m B H (upd B1 D (.lst xs)) H1 m1 ∧ WOk K (upd B1 D (.lst xs)) H1 m1 h ∧ Da K (upd B1 D (.lst xs)) (.ref D) (.list ds) := by
  have bb : Same B1 (upd B1 D (.lst xs)) := same_new nB
  refine ⟨⟨g.bb.trans bb, g.ex, fun a o e n => ?_, g.kp, g.ext⟩, ⟨fun a o e => ?_, w.len, w.nd, fun n a e p q => ?_⟩, .lst (.of upd_same) (da.mono bb)⟩
  · by_cases c : a = D
    · subst c; exact .inl h0
    · rw [upd_ne c] at e; exact g.new a o e n
  · by_cases c : a = D
    · subst c; rw [upd_same] at e; rw [hD]; exact e
    · rw [upd_ne c] at e; exact w.sub a o e
  · have ne : a ≠ D := fun z => nm (z ▸ List.mem_of_getElem? p)
    have z := w.ent n a e p q
    match e, z with
    | .lst ys, ⟨z1, us, z2, z3⟩ => exact ⟨by rw [upd_ne ne]; exact z1, us, z2, by simpa using z3.mono bb []⟩
    | .frz y, ⟨z1, z2⟩ => exact ⟨z1.mono bb, z2⟩
theorem gm_own {K : PySem.W.Frag} {B H B1 H1 : Hp} {m m1 : List Addr} {h : Hd} {D : Addr} {vs : List V} {xs : List Vd} (g : Gm m B H B1 H1 m1) (w : WOk K B1 H1 m1 h) (h0 : H D = none) (nB : B1 D = none) (nm : D ∉ m1) (hD : H1 D = some (.lst vs)) (r : VRs K B1 m1 xs vs) :
    Gm m B H B1 H1 (m1 ++ [D]) ∧ WOk K B1 H1 (m1 ++ [D]) (h ++ [.lst xs]) := by
  refine ⟨⟨g.bb, g.ex, g.new, g.kp, ?_⟩, ⟨w.sub, by simp [w.len], ?_, fun n a e p1 q1 => ?_⟩⟩
  · obtain ⟨l, rfl, f⟩ := g.ext
    refine ⟨l ++ [D], by rw [List.append_assoc], fun a z => ?_⟩
    rcases List.mem_append.mp z with z | z
    · exact f a z
    · have : a = D := by simpa using z
      subst this
      exact h0
  · rw [List.nodup_append]
    refine ⟨w.nd, by simp, fun a ha b hb e => ?_⟩
    have : b = D := by simpa using hb
    subst this
    exact nm (e ▸ ha)
  · by_cases c : n < m1.length
    · rw [List.getElem?_append_left c] at p1
      rw [List.getElem?_append_left (by rw [← w.len]; exact c)] at q1
      have z := w.ent n a e p1 q1
      match e, z with
      | .lst ys, ⟨z1, us, z2, z3⟩ => exact ⟨z1, us, z2, z3.mono (Same.refl _) [D]⟩
      | .frz y, z => exact z
    · have hl := w.len
      have l1 : n < (m1 ++ [D]).length := (List.getElem?_eq_some_iff.mp p1).1
      rw [List.length_append] at l1
      have en : n = m1.length := by
        have : n < m1.length + 1 := l1
        omega
      subst en
      rw [List.getElem?_append_right (Nat.le_refl _), Nat.sub_self] at p1
      rw [List.getElem?_append_right (by omega), hl, Nat.sub_self] at q1
      cases p1
      cases q1
      exact ⟨nB, vs, hD, r.mono (Same.refl _) [D]⟩
def SB.yes : SB where
  ev := fun _ h => .ok true h
  t := fun _ _ => tYes
  ok := fun C md ρ h σ B H m Q e w q => q true B H m (.refl w) w rfl
/-- the reading of a comprehension, up to its end -/
theorem lc_go (it : SI) (tg : ST) (c : SB) (g : SE) {C : Ctx} {md : Md} {ρ : Rh} {h : Hd} {σ : L2.St} {B H : Hp} {m : List Addr} {Q : VK} {es : List PyData} {h1 : Hd} {out : List Vd} {h2 : Hd}
    (e : EnvN C.K B m σ ρ) (w : WOk C.K B H m h) (ei : it.ev ρ h = .ok es h1) (hz : es.length ≤ 1000000) (el : lcR tg.put c.ev g.ev (wipeN ρ tg.vs) es [] h1 = .ok out h2)
    (q : ∀ D B2 H2 m2 xs, Gm m B H B2 H2 m2 → WOk C.K B2 H2 m2 h2 → H D = none → B2 D = none → D ∉ m2 → H2 D = some (.lst xs) → VRs C.K B2 m2 out xs → Q (.ref D) H2) :
    tLc (it.t C md) (tg.t C) (c.t C none) (g.t C none) tg.vs σ H Q := by
  refine it.ok C md ρ h σ B H m _ e w ?_
  rw [ei]
  intro J B1 H1 m1 g1 w1 gj D hD
  have hD0 : H D = none := by
    cases x : H D with
    | none => rfl
    | some u => exact absurd hD (g1.kp D (by rw [x]; simp))
  refine lc_it gj (fun i H' => ∃ B' m' h' ys xs, Gm m1 B1 H1 B' H' m' ∧ WOk C.K B' H' m' h' ∧ B' D = none ∧ D ∉ m' ∧ H' D = some (.lst xs) ∧ VRs C.K B' m' ys xs ∧ ys.length ≤ i ∧ lcR tg.put c.ev g.ev (wipeN ρ tg.vs) (es.drop i) ys h' = .ok out h2) ?_ (fun i H' _ ⟨B', m', h', ys, xs, g2, w2, _⟩ => g2.bb.trans w2.sub) ?_ ?_
  · have nm : D ∉ m1 := fun z => w1.tracked z hD
    have k := Gr.side w1.sub hD (.lst [])
    exact ⟨B1, m1, h1, [], [], .of w1 k, w1.gr k, w1.sub.free hD, nm, upd_same, .nil, Nat.le_refl _, el⟩
  · rintro i x H' H2' hi ⟨B', m', h', ys, xs, g2, w2, nB, nm, hH, rs, hl, el'⟩ y
    obtain ⟨B2, x', g3, hx', dx⟩ := y B' g2.bb w2.sub
    have ed : es.drop i = x' :: es.drop (i + 1) := by
      have li := (List.getElem?_eq_some_iff.mp hx')
      obtain ⟨l1, l2⟩ := li
      rw [List.drop_eq_getElem_cons l1, l2]
    rw [ed] at el'
    unfold lcR at el'
    have G3 : Gm m' B' H' B2 H2' m' := .of w2 g3
    have w3 := w2.gr g3
    have hHn : H' D ≠ none := by rw [hH]; simp
    have nB2 := gm_B G3 nm hHn nB
    have hH2 : H2' D = some (.lst xs) := g3.ex _ _ hH
    have hn2 : H2' D ≠ none := by rw [hH2]; simp
    split at el'
    · cases el'
    · rename_i ρ1 ep
      have e1 : EnvN C.K B2 m' (L2.wipe σ tg.vs) (wipeN ρ tg.vs) := (((e.gm g1).gm g2).gm G3).wiped tg.vs
      refine tg.ok C (.d x') x _ _ ρ1 B2 H2' m' (.d dx) e1 w3.sub ep _ fun σ2 e2 ag => ⟨ag.wipe, ?_⟩
      split at el'
      · rename_i ha ef
        refine c.ok C none ρ1 h' σ2 B2 H2' m' _ e2 w3 ?_
        rw [ef]
        intro b B3 H3 m3 g4 w4 rb
        obtain rfl : true = b := rb
        refine iteT ?_
        split at el'
        · rename_i z hb eg
          refine g.ok C none ρ1 ha σ2 B3 H3 m3 _ (e2.gm g4) w4 ?_
          rw [eg]
          intro v B4 H4 m4 g5 w5 rv
          have nm3 := gm_out g4 nm hn2
          have nB3 := gm_B g4 nm hn2 nB2
          have hH3 : H3 D = some (.lst xs) := g4.ex _ _ nm hH2
          have hn3 : H3 D ≠ none := by rw [hH3]; simp
          have nm4 := gm_out g5 nm3 hn3
          have nB4 := gm_B g5 nm3 hn3 nB3
          have hH4 : H4 D = some (.lst xs) := g5.ex _ _ nm3 hH3
          have lx := rs.len
          refine ⟨xs, hH4, by rw [sizeLine_eq]; omega, B4, m4, hb, ys ++ [z], xs ++ [v], gm_upd ((g2.trans w1 (G3.trans w2 (g4.trans w3 g5)))) hD _, wok_upd w5 nm4 nB4 _, nB4, nm4, upd_same, (((rs.gm G3).gm g4).gm g5).app (.cons rv .nil), by rw [List.length_append]; exact Nat.succ_le_succ hl, el'⟩
        · cases el'
      · rename_i ha ef
        refine c.ok C none ρ1 h' σ2 B2 H2' m' _ e2 w3 ?_
        rw [ef]
        intro b B3 H3 m3 g4 w4 rb
        obtain rfl : false = b := rb
        refine iteF ?_
        exact ⟨B3, m3, ha, ys, xs, g2.trans w1 (G3.trans w2 g4), w4, gm_B g4 nm hn2 nB2, gm_out g4 nm hn2, g4.ex _ _ nm hH2, (rs.gm G3).gm g4, Nat.le_succ_of_le hl, el'⟩
      · cases el'
  · rintro H' ⟨B', m', h', ys, xs, g2, w2, nB, nm, hH, rs, _, el'⟩
    rw [List.drop_length] at el'
    unfold lcR at el'
    cases el'
    exact q D B' H' m' xs (g1.trans w g2) w2 hD0 nB nm hH rs
namespace SE
/-- [e for x in xs if c], data -/
def lc (it : SI) (tg : ST) (c : SB) (g : SE) : SE where
  ev := fun ρ h => (it.ev ρ h).bind fun es h1 => if es.length ≤ 1000000 then match lcR tg.put c.ev g.ev (wipeN ρ tg.vs) es [] h1 with
      | .ok out h2 => match frzL h2 out with
        | some (ds, h3) => .ok (.d (.list ds)) h3
        | none => .no
      | _ => .no
    else .no
  t := fun C md => tLc (it.t C md) (tg.t C) (c.t C none) (g.t C none) tg.vs
  ok := fun C md ρ h σ B H m Q e w q => by
    cases ei : it.ev ρ h with
    | no => rw [ei] at q; exact q.elim
    | ex c' x h1 =>
      rw [ei] at q
      refine it.ok C md ρ h σ B H m _ e w ?_
      rw [ei]
      exact q
    | ok es h1 =>
      rw [ei] at q
      dsimp only [Oc.bind] at q
      split at q
      · rename_i hz
        split at q
        · rename_i out h2 el
          split at q
          · rename_i ds h3 ef
            refine lc_go it tg c g e w ei hz el fun D B2 H2 m2 xs g2 w2 h0 nB nm hD rs => ?_
            obtain ⟨B3, g3, w3, d3⟩ := frzL_ok w2 ef rs
            have hn : H2 D ≠ none := by rw [hD]; simp
            obtain ⟨k, w4, d4⟩ := gm_let (g2.trans w g3) w3 h0 (gm_B g3 nm hn nB) nm hD d3
            exact q _ _ _ _ k w4 (.d d4)
          · exact q.elim
        · exact q.elim
      · exact q.elim
/-- .. a list that is written to -/
def lcM (it : SI) (tg : ST) (c : SB) (g : SE) : SE where
  ev := fun ρ h => (it.ev ρ h).bind fun es h1 => if es.length ≤ 1000000 then match lcR tg.put c.ev g.ev (wipeN ρ tg.vs) es [] h1 with
      | .ok out h2 => .ok (.r h2.length) (h2 ++ [.lst out])
      | _ => .no
    else .no
  t := fun C md => tLc (it.t C md) (tg.t C) (c.t C none) (g.t C none) tg.vs
  ok := fun C md ρ h σ B H m Q e w q => by
    cases ei : it.ev ρ h with
    | no => rw [ei] at q; exact q.elim
    | ex c' x h1 =>
      rw [ei] at q
      refine it.ok C md ρ h σ B H m _ e w ?_
      rw [ei]
      exact q
    | ok es h1 =>
      rw [ei] at q
      dsimp only [Oc.bind] at q
      split at q
      · rename_i hz
        split at q
        · rename_i out h2 el
          refine lc_go it tg c g e w ei hz el fun D B2 H2 m2 xs g2 w2 h0 nB nm hD rs => ?_
          obtain ⟨k, w4⟩ := gm_own g2 w2 h0 nB nm hD rs
          exact q _ _ _ _ k w4 (.r (by rw [← w2.len]; exact one_last _ _))
        · exact q.elim
      · exact q.elim
end SE
end N
end
section
set_option maxRecDepth 100000
set_option maxHeartbeats 2000000
/-! statements -/
namespace N
open PySem PySem.Spec PyProof.Rows L2 G

inductive OcS where
  | nx (ρ : Rh) (h : Hd)
  | rt (x : Vd) (h : Hd)
  | bk (ρ : Rh) (h : Hd)
  | ct (ρ : Rh) (h : Hd)
  | ex (c : Str) (x : PyData) (ρ : Rh) (h : Hd)
  | no
def OcS.seq (o : OcS) (k : Rh → Hd → OcS) : OcS := match o with
  | .nx ρ h => k ρ h
  | .rt x h => .rt x h
  | .bk ρ h => .bk ρ h
  | .ct ρ h => .ct ρ h
  | .ex c x ρ h => .ex c x ρ h
  | .no => .no
@[simp] theorem OcS.seq_nx (ρ : Rh) (h : Hd) (k : Rh → Hd → OcS) : (OcS.nx ρ h).seq k = k ρ h := rfl
@[simp] theorem OcS.seq_rt (x : Vd) (h : Hd) (k : Rh → Hd → OcS) : (OcS.rt x h).seq k = .rt x h := rfl
@[simp] theorem OcS.seq_bk (ρ : Rh) (h : Hd) (k : Rh → Hd → OcS) : (OcS.bk ρ h).seq k = .bk ρ h := rfl
@[simp] theorem OcS.seq_ct (ρ : Rh) (h : Hd) (k : Rh → Hd → OcS) : (OcS.ct ρ h).seq k = .ct ρ h := rfl
@[simp] theorem OcS.seq_ex (c : Str) (x : PyData) (ρ : Rh) (h : Hd) (k : Rh → Hd → OcS) : (OcS.ex c x ρ h).seq k = .ex c x ρ h := rfl
@[simp] theorem OcS.seq_no (k : Rh → Hd → OcS) : OcS.no.seq k = .no := rfl
/-- an expression's worth, then a statement -/
def Oc.thn {α : Type} (o : Oc α) (ρ : Rh) (k : α → Hd → OcS) : OcS := match o with
  | .ok a h => k a h
  | .ex c x h => .ex c x ρ h
  | .no => .no
@[simp] theorem Oc.thn_ok {α : Type} (a : α) (h : Hd) (ρ : Rh) (k : α → Hd → OcS) : (Oc.ok a h).thn ρ k = k a h := rfl
@[simp] theorem Oc.thn_ex {α : Type} (c : Str) (x : PyData) (h : Hd) (ρ : Rh) (k : α → Hd → OcS) : (Oc.ex c x h : Oc α).thn ρ k = .ex c x ρ h := rfl
@[simp] theorem Oc.thn_no {α : Type} (ρ : Rh) (k : α → Hd → OcS) : (Oc.no : Oc α).thn ρ k = .no := rfl
def Nxt (C : Ctx) (m : List Addr) (B H : Hp) (ρ : Rh) (h : Hd) (F : L2.St → Hp → Prop) : Prop := ∀ σ' B' H' m', Gm m B H B' H' m' → WOk C.K B' H' m' h → EnvN C.K B' m' σ' ρ → F σ' H'
def PoS (C : Ctx) (md : Md) (m : List Addr) (B H : Hp) (oc : OcS) (D : Ends) : Prop :=
  match oc with
  | .nx ρ h => Nxt C m B H ρ h D.nx
  | .rt x h => ∀ v B' H' m', Gm m B H B' H' m' → WOk C.K B' H' m' h → VR C.K B' m' x v → D.rt v H'
  | .bk ρ h => Nxt C m B H ρ h D.bk
  | .ct ρ h => Nxt C m B H ρ h D.ct
  | .ex c x ρ h => ∃ W, md = some W ∧ ∀ σ' dd v B' H' m', Gm m B H B' H' m' → WOk C.K B' H' m' h → EnvN C.K B' m' σ' ρ → B' dd = none → H dd = none → dd ∉ m' → H' dd = some (.xd [("value", v)]) → Da C.K B' v x → W (.ref (C.CL c)) (some dd) σ' H'
  | .no => False
section
variable {α β : Type} {C : Ctx} {md : Md} {σ : L2.St} {B H B1 H1 : Hp} {m m1 : List Addr} {h : Hd} {D : Ends} {ρ : Rh}
theorem Nxt.shift {F : L2.St → Hp → Prop} {h' : Hd} (g : Gm m B H B1 H1 m1) (w : WOk C.K B H m h) (q : Nxt C m B H ρ h' F) : Nxt C m1 B1 H1 ρ h' F := fun σ' B' H' m' g2 w2 e => q σ' B' H' m' (g.trans w g2) w2 e
theorem PoS.shift {oc : OcS} (g : Gm m B H B1 H1 m1) (w : WOk C.K B H m h) (q : PoS C md m B H oc D) : PoS C md m1 B1 H1 oc D := by
  cases oc with
  | nx ρ h' => exact Nxt.shift g w q
  | bk ρ h' => exact Nxt.shift g w q
  | ct ρ h' => exact Nxt.shift g w q
  | rt x h' => exact fun v B' H' m' g2 w2 r => q v B' H' m' (g.trans w g2) w2 r
  | ex c x ρ h' =>
    obtain ⟨W, e, k⟩ := q
    refine ⟨W, e, fun σ' dd v B' H' m' g2 w2 e2 b0 h0 n hx d => k σ' dd v B' H' m' (g.trans w g2) w2 e2 b0 ?_ n hx d⟩
    cases c : H dd with
    | none => rfl
    | some o => exact absurd h0 (g.kp dd (by rw [c]; simp))
  | no => exact q
theorem PoS.chain {ra : Hp → List Addr → α → β → Prop} {a : Oc α} {k : α → Hd → OcS} {Q' : β → Hp → Prop} (w : WOk C.K B H m h) (e : EnvN C.K B m σ ρ) (q : PoS C md m B H (a.thn ρ k) D)
    (f : ∀ x h1 v B1 H1 m1, a = .ok x h1 → Gm m B H B1 H1 m1 → WOk C.K B1 H1 m1 h1 → ra B1 m1 x v → PoS C md m1 B1 H1 (k x h1) D → Q' v H1) : Po C md σ ra m B H a Q' := by
  cases a with
  | ok x h1 => exact fun v B1 H1 m1 g w1 r => f x h1 v B1 H1 m1 rfl g w1 r (PoS.shift g w q)
  | ex c x h1 =>
    obtain ⟨W, e1, k⟩ := q
    exact ⟨W, e1, fun dd v B' H' m' g2 w2 b0 h0 n hx d => k σ dd v B' H' m' g2 w2 (e.gm g2) b0 h0 n hx d⟩
  | no => exact q
theorem PoS.nxt {h' : Hd} (q : PoS C md m B H (.nx ρ h') D) (w : WOk C.K B H m h') (e : EnvN C.K B m σ ρ) : D.nx σ H := q σ B H m (.refl w) w e
end
structure SS where
  run : Rh → Hd → OcS
  t : Ctx → Md → TS
  ok : ∀ (C : Ctx) (md : Md) (ρ : Rh) (h : Hd) (σ : L2.St) (B H : Hp) (m : List Addr) (D : Ends), EnvN C.K B m σ ρ → WOk C.K B H m h → PoS C md m B H (run ρ h) D → t C md D σ H
namespace SS
def nil : SS where
  run := fun ρ h => .nx ρ h
  t := fun _ _ => tNext
  ok := fun C md ρ h σ B H m D e w q => q.nxt w e
def never : SS where
  run := fun _ _ => .no
  t := fun _ _ => tNever
  ok := fun C md ρ h σ B H m D e w q => q
def brk : SS where
  run := fun ρ h => .bk ρ h
  t := fun _ _ => tBreak
  ok := fun C md ρ h σ B H m D e w q => q σ B H m (.refl w) w e
def cont : SS where
  run := fun ρ h => .ct ρ h
  t := fun _ _ => tCont
  ok := fun C md ρ h σ B H m D e w q => q σ B H m (.refl w) w e
def seq (a b : SS) : SS where
  run := fun ρ h => (a.run ρ h).seq b.run
  t := fun C md => tSeq (a.t C md) (b.t C md)
  ok := fun C md ρ h σ B H m D e w q => by
    refine a.ok C md ρ h σ B H m _ e w ?_
    cases c : a.run ρ h with
    | nx ρ1 h1 =>
      rw [c] at q
      exact fun σ1 B1 H1 m1 g1 w1 e1 => b.ok C md ρ1 h1 σ1 B1 H1 m1 D e1 w1 (PoS.shift g1 w q)
    | rt x h1 => rw [c] at q; exact q
    | bk ρ1 h1 => rw [c] at q; exact q
    | ct ρ1 h1 => rw [c] at q; exact q
    | ex c' x ρ1 h1 => rw [c] at q; exact q
    | no => rw [c] at q; exact q
def ret (a : SE) : SS where
  run := fun ρ h => (a.ev ρ h).thn ρ fun x h1 => .rt x h1
  t := fun C md => tRet (a.t C md)
  ok := fun C md ρ h σ B H m D e w q => a.ok C md ρ h σ B H m _ e w (PoS.chain w e q fun x h1 v B1 H1 m1 ea g1 w1 r1 q1 => q1 v B1 H1 m1 (.refl w1) w1 r1)
def retN : SS where
  run := fun ρ h => .rt (.d .none) h
  t := fun _ _ => tRetN
  ok := fun C md ρ h σ B H m D e w q => q _ B H m (.refl w) w (.d .non)
def drop (a : SE) : SS where
  run := fun ρ h => (a.ev ρ h).thn ρ fun _ h1 => .nx ρ h1
  t := fun C md => tDrop (a.t C md)
  ok := fun C md ρ h σ B H m D e w q => a.ok C md ρ h σ B H m _ e w (PoS.chain w e q fun x h1 v B1 H1 m1 ea g1 w1 r1 q1 => q1.nxt w1 (e.gm g1))
def ite (c : SB) (a b : SS) : SS where
  run := fun ρ h => (c.ev ρ h).thn ρ fun x h1 => match x with
    | true => a.run ρ h1
    | false => b.run ρ h1
  t := fun C md => tIfS (c.t C md) (a.t C md) (b.t C md)
  ok := fun C md ρ h σ B H m D e w q => by
    refine c.ok C md ρ h σ B H m _ e w (PoS.chain w e q fun x h1 u B1 H1 m1 ea g1 w1 r1 q1 => ?_)
    obtain rfl : x = u := r1
    cases x with
    | true => exact iteT (a.ok C md ρ h1 σ B1 H1 m1 D (e.gm g1) w1 q1)
    | false => exact iteF (b.ok C md ρ h1 σ B1 H1 m1 D (e.gm g1) w1 q1)
def asg (a : SE) (g : ST) : SS where
  run := fun ρ h => (a.ev ρ h).thn ρ fun x h1 => match g.put x ρ with
    | some ρ1 => .nx ρ1 h1
    | none => .no
  t := fun C md => tAsg (a.t C md) (g.t C)
  ok := fun C md ρ h σ B H m D e w q => by
    refine a.ok C md ρ h σ B H m _ e w (PoS.chain w e q fun x h1 u B1 H1 m1 ea g1 w1 r1 q1 => ?_)
    split at q1
    · rename_i ρ1 ep
      exact g.ok C x u σ ρ ρ1 B1 H1 m1 r1 (e.gm g1) w1.sub ep _ fun σ1 e1 _ => q1.nxt w1 e1
    · exact q1.elim
def set (i : Nat) (a : SE) : SS where
  run := fun ρ h => (a.ev ρ h).thn ρ fun x h1 => .nx (ρ.set i (some x)) h1
  t := fun C md => tAsg (a.t C md) (gName i)
  ok := fun C md ρ h σ B H m D e w q => a.ok C md ρ h σ B H m _ e w (PoS.chain w e q fun x h1 u B1 H1 m1 ea g1 w1 r1 q1 => q1.nxt w1 ((e.gm g1).set r1 i))
/-- a, b = x, y -/
def par (i j : Nat) (a : SL) : SS where
  run := fun ρ h => (a.ev ρ h).thn ρ fun xs h1 => match xs with
    | [x, y] => .nx ((ρ.set i (some x)).set j (some y)) h1
    | _ => .no
  t := fun C md => tPar i j (a.t C md)
  ok := fun C md ρ h σ B H m D e w q => by
    refine a.ok C md ρ h σ B H m _ e w (PoS.chain w e q fun xs h1 u B1 H1 m1 ea g1 w1 r1 q1 => ?_)
    split at q1
    · cases r1 with
      | cons r1 t =>
        cases t with
        | cons r2 t =>
          cases t
          exact ⟨_, _, rfl, q1.nxt w1 (((e.gm g1).set r1 i).set r2 j)⟩
    · exact q1.elim
def par3 (i j l : Nat) (a : SL) : SS where
  run := fun ρ h => (a.ev ρ h).thn ρ fun xs h1 => match xs with
    | [x, y, z] => .nx (((ρ.set i (some x)).set j (some y)).set l (some z)) h1
    | _ => .no
  t := fun C md => tPar3 i j l (a.t C md)
  ok := fun C md ρ h σ B H m D e w q => by
    refine a.ok C md ρ h σ B H m _ e w (PoS.chain w e q fun xs h1 u B1 H1 m1 ea g1 w1 r1 q1 => ?_)
    split at q1
    · cases r1 with
      | cons r1 t =>
        cases t with
        | cons r2 t =>
          cases t with
          | cons r3 t =>
            cases t
            exact ⟨_, _, _, rfl, q1.nxt w1 ((((e.gm g1).set r1 i).set r2 j).set r3 l)⟩
    · exact q1.elim
/-! loops -/
def forR (put : Vd → Rh → Option Rh) (body : Rh → Hd → OcS) : List PyData → Rh → Hd → OcS
  | [], ρ, h => .nx ρ h
  | x :: xs, ρ, h => match put (.d x) ρ with
    | none => .no
    | some ρ1 => match body ρ1 h with
      | .nx ρ2 h2 => forR put body xs ρ2 h2
      | .ct ρ2 h2 => forR put body xs ρ2 h2
      | .bk ρ2 h2 => .nx ρ2 h2
      | .rt v h2 => .rt v h2
      | .ex c v ρ2 h2 => .ex c v ρ2 h2
      | .no => .no
def forS (it : SI) (tg : ST) (body : SS) : SS where
  run := fun ρ h => (it.ev ρ h).thn ρ fun es h1 => forR tg.put body.run es ρ h1
  t := fun C md => tFor (it.t C md) (tg.t C) (body.t C md)
  ok := fun C md ρ h σ B H m D e w q => by
    refine it.ok C md ρ h σ B H m _ e w (PoS.chain w e q fun es h1 J B1 H1 m1 ea g1 w1 gj q1 => ?_)
    refine for_it gj (fun i σ' H' => ∃ B' m' ρ' h', Gm m1 B1 H1 B' H' m' ∧ WOk C.K B' H' m' h' ∧ EnvN C.K B' m' σ' ρ' ∧ PoS C md m' B' H' (forR tg.put body.run (es.drop i) ρ' h') D) ?_ (fun i σ' H' _ ⟨B', m', ρ', h', g2, w2, _⟩ => g2.bb.trans w2.sub) ?_ ?_
    · exact ⟨B1, m1, ρ, h1, .refl w1, w1, e.gm g1, q1⟩
    · rintro i x σ' H' H2' hi ⟨B', m', ρ', h', g2, w2, e2, q2⟩ y
      obtain ⟨B2, x', g3, hx', dx⟩ := y B' g2.bb w2.sub
      have ed : es.drop i = x' :: es.drop (i + 1) := by
        obtain ⟨l1, l2⟩ := List.getElem?_eq_some_iff.mp hx'
        rw [List.drop_eq_getElem_cons l1, l2]
      rw [ed] at q2
      unfold forR at q2
      have G3 : Gm m' B' H' B2 H2' m' := .of w2 g3
      have w3 := w2.gr g3
      split at q2
      · exact q2.elim
      · rename_i ρ1 ep
        refine tg.ok C (.d x') x σ' ρ' ρ1 B2 H2' m' (.d dx) (e2.gm G3) w3.sub ep _ fun σ2 e3 _ => ?_
        refine body.ok C md ρ1 h' σ2 B2 H2' m' _ e3 w3 ?_
        have q3 := PoS.shift G3 w2 q2
        split at q3
        · rename_i ρ2 h2 eb
          rw [eb]
          exact fun σ4 B4 H4 m4 g4 w4 e4 => ⟨B4, m4, ρ2, h2, g2.trans w1 (G3.trans w2 g4), w4, e4, PoS.shift g4 w3 q3⟩
        · rename_i ρ2 h2 eb
          rw [eb]
          exact fun σ4 B4 H4 m4 g4 w4 e4 => ⟨B4, m4, ρ2, h2, g2.trans w1 (G3.trans w2 g4), w4, e4, PoS.shift g4 w3 q3⟩
        · rename_i ρ2 h2 eb
          rw [eb]
          exact q3
        · rename_i v h2 eb
          rw [eb]
          exact q3
        · rename_i c v ρ2 h2 eb
          rw [eb]
          exact q3
        · exact q3.elim
    · rintro σ' H' ⟨B', m', ρ', h', g2, w2, e2, q2⟩
      rw [List.drop_length] at q2
      exact q2.nxt w2 e2
def whR (c : Rh → Hd → Oc Bool) (body : Rh → Hd → OcS) : Nat → Rh → Hd → OcS
  | 0, _, _ => .no
  | n + 1, ρ, h => (c ρ h).thn ρ fun b h1 => match b with
    | false => .nx ρ h1
    | true => match body ρ h1 with
      | .nx ρ2 h2 => whR c body n ρ2 h2
      | .ct ρ2 h2 => whR c body n ρ2 h2
      | .bk ρ2 h2 => .nx ρ2 h2
      | .rt v h2 => .rt v h2
      | .ex c' v ρ2 h2 => .ex c' v ρ2 h2
      | .no => .no
def fuel : Nat := 1000000
def whS (c : SB) (body : SS) : SS where
  run := fun ρ h => whR c.ev body.run fuel ρ h
  t := fun C md => tWhile (c.t C md) (body.t C md)
  ok := fun C md ρ h σ B H m D e w q => by
    refine ⟨fun n σ' H' => ∃ B' m' ρ' h', Gm m B H B' H' m' ∧ WOk C.K B' H' m' h' ∧ EnvN C.K B' m' σ' ρ' ∧ PoS C md m' B' H' (whR c.ev body.run n ρ' h') D, ⟨fuel, B, m, ρ, h, .refl w, w, e, q⟩, ?_⟩
    rintro n σ' H' ⟨B', m', ρ', h', g2, w2, e2, q2⟩
    cases n with
    | zero => exact q2.elim
    | succ n =>
      unfold whR at q2
      refine c.ok C md ρ' h' σ' B' H' m' _ e2 w2 (PoS.chain w2 e2 q2 fun b h1 u B1 H1 m1 ea g1 w1 r1 q3 => ?_)
      obtain rfl : b = u := r1
      cases b with
      | false => exact iteF (q3.nxt w1 (e2.gm g1))
      | true =>
        refine iteT ⟨fun σ' H' => ∃ B' m' ρ' h', Gm m B H B' H' m' ∧ WOk C.K B' H' m' h' ∧ EnvN C.K B' m' σ' ρ' ∧ PoS C md m' B' H' (whR c.ev body.run n ρ' h') D, fun σ' H' z => ⟨n, Nat.lt_succ_self n, z⟩, ?_⟩
        refine body.ok C md ρ' h1 σ' B1 H1 m1 _ (e2.gm g1) w1 ?_
        dsimp only at q3
        split at q3
        · rename_i ρ2 h2 eb
          rw [eb]
          exact fun σ4 B4 H4 m4 g4 w4 e4 => ⟨B4, m4, ρ2, h2, g2.trans w (g1.trans w2 g4), w4, e4, PoS.shift g4 w1 q3⟩
        · rename_i ρ2 h2 eb
          rw [eb]
          exact fun σ4 B4 H4 m4 g4 w4 e4 => ⟨B4, m4, ρ2, h2, g2.trans w (g1.trans w2 g4), w4, e4, PoS.shift g4 w1 q3⟩
        · rename_i ρ2 h2 eb
          rw [eb]
          exact q3
        · rename_i v h2 eb
          rw [eb]
          exact q3
        · rename_i c v ρ2 h2 eb
          rw [eb]
          exact q3
        · exact q3.elim
end SS
end N
end
section
set_option maxRecDepth 100000
set_option maxHeartbeats 2000000
/-! own lists written to; calls of defs -/
namespace N
open PySem PySem.Spec PyProof.Rows L2 G

section
variable {K : PySem.W.Frag} {B H : Hp} {m : List Addr} {h : Hd}
theorem own_at (w : WOk K B H m h) {n : Nat} {a : Addr} {xs : List Vd} (p : m[n]? = some a) (e : h[n]? = some (.lst xs)) : B a = none ∧ ∃ vs, H a = some (.lst vs) ∧ VRs K B m xs vs := w.ent n a _ p e
theorem wok_put (w : WOk K B H m h) {n : Nat} {a : Addr} {ys : List Vd} {us : List V} (p : m[n]? = some a) (nB : B a = none) (r : VRs K B m ys us) :
    Gm m B H B (upd H a (.lst us)) m ∧ WOk K B (upd H a (.lst us)) m (h.set n (.lst ys)) := by
  refine ⟨⟨Same.refl _, fun b o n e => ?_, fun b o e n => (by rw [n] at e; cases e), fun b e => ?_, [], by simp, by simp⟩, ⟨fun b o e => ?_, by rw [List.length_set]; exact w.len, w.nd, fun j b en pj e => ?_⟩⟩
  · rw [upd_ne (fun z => n (by rw [z]; exact List.mem_of_getElem? p))]; exact e
  · by_cases c : b = a
    · subst c; rw [upd_same]; simp
    · rw [upd_ne c]; exact e
  · rw [upd_ne (ne_of_none e nB)]; exact w.sub b o e
  · by_cases c : n = j
    · subst c
      have l : n < h.length := by
        have z := (List.getElem?_eq_some_iff.mp e).1
        rw [List.length_set] at z
        exact z
      rw [List.getElem?_set_self l] at e
      cases e
      rw [p] at pj
      cases pj
      exact ⟨nB, us, upd_same, r⟩
    · rw [List.getElem?_set_ne c] at e
      have z := w.ent j b en pj e
      have ne : b ≠ a := fun x => by
        subst x
        obtain ⟨h1, e1⟩ := List.getElem?_eq_some_iff.mp pj
        obtain ⟨h2, e2⟩ := List.getElem?_eq_some_iff.mp p
        exact c ((List.getElem_inj w.nd).mp (e2.trans e1.symm))
      match en, z with
      | .lst zs, ⟨z1, vs, z2, z3⟩ => exact ⟨z1, vs, by rw [upd_ne ne]; exact z2, z3⟩
      | .frz y, ⟨z1, z2⟩ => exact ⟨z1, by rw [upd_ne ne]; exact z2⟩
end
theorem gm_at {B H B1 H1 : Hp} {m m1 : List Addr} (g : Gm m B H B1 H1 m1) {n : Nat} {a : Addr} (p : m[n]? = some a) : m1[n]? = some a := by
  obtain ⟨l, rfl, _⟩ := g.ext
  exact pre_at p
def ownL (h : Hd) : Vd → Option (Nat × List Vd)
  | .r n => match h[n]? with
    | some (.lst xs) => some (n, xs)
    | _ => none
  | .d _ => none
theorem ownL_ok {h : Hd} {x : Vd} {n : Nat} {xs : List Vd} (e : ownL h x = some (n, xs)) : x = .r n ∧ h[n]? = some (.lst xs) := by
  unfold ownL at e
  split at e
  · split at e
    · rename_i en
      cases e
      exact ⟨rfl, en⟩
    · cases e
  · cases e
namespace SE
/-- x.append(e) -/
def app (o a : SE) : SE where
  ev := fun ρ h => (o.ev ρ h).bind fun x h1 => match ownL h1 x with
    | some _ => (a.ev ρ h1).bind fun y h2 => match ownL h2 x with
      | some (n, xs) => if xs.length < 1000000 then .ok (.d .none) (h2.set n (.lst (xs ++ [y]))) else .no
      | none => .no
    | none => .no
  t := fun C md => tBM C.K "list" rAppend (o.t C md) (tCons (a.t C md) tNil)
  ok := fun C md ρ h σ B H m Q e w q => by
    refine o.ok C md ρ h σ B H m _ e w (Po.chain w q fun x h1 u B1 H1 m1 ea g1 w1 r1 q1 => ?_)
    split at q1
    · rename_i nx0 e0
      obtain ⟨rfl, e0'⟩ := ownL_ok e0
      cases r1 with
      | r p1 =>
        obtain ⟨_, vs0, hv0, _⟩ := own_at w1 p1 e0'
        refine ⟨.inl ⟨rfl, _, .of hv0⟩, ?_⟩
        refine a.ok C md ρ h1 σ B1 H1 m1 _ (e.gm g1) w1 (Po.chain w1 q1 fun y h2 v B2 H2 m2 eb g2 w2 r2 q2 => ?_)
        split at q2
        · rename_i n xs e2
          obtain ⟨en, e2'⟩ := ownL_ok e2
          cases en
          split at q2
          · rename_i hl
            have p2 := gm_at g2 p1
            obtain ⟨nB, vs, hv, rs⟩ := own_at w2 p2 e2'
            refine ⟨_, vs, v, rfl, rfl, hv, by rw [rs.len, sizeLine_eq]; omega, ?_⟩
            obtain ⟨k, w3⟩ := wok_put w2 p2 nB (rs.app (.cons r2 .nil))
            exact q2 _ _ _ _ k w3 (.d .non)
          · exact q2.elim
        · exact q2.elim
    · exact q1.elim
/-- x.pop(i) -/
def popAt (o a : SE) : SE where
  ev := fun ρ h => (o.ev ρ h).bind fun x h1 => match ownL h1 x with
    | some _ => (a.ev ρ h1).bind fun y h2 => match ownL h2 x, y with
      | some (n, xs), .d (.int i) => if 0 ≤ i ∧ i < xs.length ∧ xs.length ≤ 1000000 then match xs[i.toNat]? with
          | some z => .ok z (h2.set n (.lst (xs.eraseIdx i.toNat)))
          | none => .no
        else .no
      | _, _ => .no
    | none => .no
  t := fun C md => tBM C.K "list" rPopAt (o.t C md) (tCons (a.t C md) tNil)
  ok := fun C md ρ h σ B H m Q e w q => by
    refine o.ok C md ρ h σ B H m _ e w (Po.chain w q fun x h1 u B1 H1 m1 ea g1 w1 r1 q1 => ?_)
    split at q1
    · rename_i nx0 e0
      obtain ⟨rfl, e0'⟩ := ownL_ok e0
      cases r1 with
      | r p1 =>
        obtain ⟨_, vs0, hv0, _⟩ := own_at w1 p1 e0'
        refine ⟨.inl ⟨rfl, _, .of hv0⟩, ?_⟩
        refine a.ok C md ρ h1 σ B1 H1 m1 _ (e.gm g1) w1 (Po.chain w1 q1 fun y h2 v B2 H2 m2 eb g2 w2 r2 q2 => ?_)
        split at q2
        · rename_i n xs i e2
          obtain ⟨en, e2'⟩ := ownL_ok e2
          cases en
          split at q2
          · rename_i hl
            split at q2
            · rename_i z ez
              have p2 := gm_at g2 p1
              obtain ⟨nB, vs, hv, rs⟩ := own_at w2 p2 e2'
              obtain ⟨zv, e1, rz⟩ := rs.at ez
              cases r2 with
              | d r2 =>
                cases r2
                refine ⟨_, vs, i, i.toNat, zv, rfl, rfl, hv, by omega, by omega, seqIndex_of hl.1 (by rw [rs.len]; omega), e1, ?_⟩
                have er : VRs C.K B2 m2 (xs.eraseIdx i.toNat) (vs.eraseIdx i.toNat) := by
                  rw [List.eraseIdx_eq_take_drop_succ, List.eraseIdx_eq_take_drop_succ]
                  exact (rs.take _).app (rs.drop _)
                obtain ⟨k, w3⟩ := wok_put w2 p2 nB er
                exact q2 _ _ _ _ k w3 rz
            · exact q2.elim
          · exact q2.elim
        · exact q2.elim
    · exact q1.elim
end SE
/-! ### targets that are written to: names, x[i], tuples of them -/
structure SG where
  run : Vd → Rh → Hd → OcS
  t : Ctx → Md → TG
  ok : ∀ (C : Ctx) (md : Md) (ρ : Rh) (h : Hd) (σ : L2.St) (B H : Hp) (m : List Addr) (x : Vd) (v : V) (D : Ends), EnvN C.K B m σ ρ → WOk C.K B H m h → VR C.K B m x v → PoS C md m B H (run x ρ h) D → t C md v σ H D.nx
structure SGs where
  n : Nat
  run : List PyData → Rh → Hd → OcS
  t : Ctx → Md → TGs
  ok : ∀ (C : Ctx) (md : Md) (ρ : Rh) (h : Hd) (σ : L2.St) (B H : Hp) (m : List Addr) (xs : List PyData) (vs : List V) (D : Ends), EnvN C.K B m σ ρ → WOk C.K B H m h → DaAll C.K B vs xs → PoS C md m B H (run xs ρ h) D → xs.length = n → t C md vs σ H D.nx
/-- only what goes on -/
def OcS.only (o : OcS) : OcS := match o with
  | .nx ρ h => .nx ρ h
  | .ex c x ρ h => .ex c x ρ h
  | _ => .no
namespace SG
def name (i : Nat) : SG where
  run := fun x ρ h => .nx (ρ.set i (some x)) h
  t := fun _ _ => gName i
  ok := fun C md ρ h σ B H m x v D e w r q => q.nxt w (e.set r i)
def sub (o i : SE) : SG where
  run := fun x ρ h => (o.ev ρ h).thn ρ fun y h1 => (i.ev ρ h1).thn ρ fun k h2 => match ownL h2 y, k with
    | some (n, xs), .d (.int j) => match L2.ixN xs.length j with
      | some l => .nx ρ (h2.set n (.lst (xs.set l x)))
      | none => .no
    | _, _ => .no
  t := fun C md => gSub (o.t C md) (i.t C md) rSetL
  ok := fun C md ρ h σ B H m x v D e w r q => by
    refine o.ok C md ρ h σ B H m _ e w (PoS.chain w e q fun y h1 u B1 H1 m1 ea g1 w1 r1 q1 => ?_)
    refine i.ok C md ρ h1 σ B1 H1 m1 _ (e.gm g1) w1 (PoS.chain w1 (e.gm g1) q1 fun k h2 u2 B2 H2 m2 eb g2 w2 r2 q2 => ?_)
    split at q2
    · rename_i n xs j e2
      obtain ⟨rfl, e2'⟩ := ownL_ok e2
      split at q2
      · rename_i l el
        cases VR.gm r1 g2 with
        | r p2 =>
          obtain ⟨nB, vs, hv, rs⟩ := own_at w2 p2 e2'
          cases r2 with
          | d r2 =>
            cases r2
            obtain ⟨k3, w3⟩ := wok_put w2 p2 nB (rs.set ((r.gm g1).gm g2) l)
            exact ⟨_, vs, j, l, rfl, rfl, hv, by rw [rs.len]; exact el, (PoS.shift k3 w2 q2).nxt w3 (((e.gm g1).gm g2).gm k3)⟩
      · exact q2.elim
    · exact q2.elim
def tup (ts : SGs) : SG where
  run := fun x ρ h => match x with
    | .d (.tuple ds) => if ds.length = ts.n then ts.run ds ρ h else .no
    | _ => .no
  t := fun C md => gTup C.K ts.n (ts.t C md)
  ok := fun C md ρ h σ B H m x v D e w r q => by
    split at q
    · rename_i ds
      split at q
      · rename_i hl
        cases r with
        | d r =>
          cases r with
          | tup h1 a => exact ⟨_, _, rfl, same_t w.sub h1, by rw [a.len]; exact hl, ts.ok C md ρ h σ B H m ds _ D e w a q hl⟩
      · exact q.elim
    · exact q.elim
end SG
namespace SGs
def nil : SGs where
  n := 0
  run := fun _ ρ h => .nx ρ h
  t := fun _ _ => gNil
  ok := fun C md ρ h σ B H m xs vs D e w r q hl => by
    cases r with
    | nil => exact ⟨rfl, q.nxt w e⟩
    | cons _ _ => simp at hl
def cons (a : SG) (r : SGs) : SGs where
  n := r.n + 1
  run := fun xs ρ h => match xs with
    | x :: xs => match (a.run (.d x) ρ h) with
      | .nx ρ1 h1 => r.run xs ρ1 h1
      | .ex c y ρ1 h1 => .ex c y ρ1 h1
      | _ => .no
    | [] => .no
  t := fun C md => gCons (a.t C md) (r.t C md)
  ok := fun C md ρ h σ B H m xs vs D e w rr q hl => by
    cases rr with
    | nil => exact q.elim
    | cons hx t =>
      dsimp only at q
      refine ⟨_, _, rfl, ?_⟩
      refine a.ok C md ρ h σ B H m _ _ { nx := fun σ' H' => r.t C md _ σ' H' D.nx, rt := D.rt } e w (.d hx) ?_
      split at q
      · rename_i ρ1 h1 ea
        rw [ea]
        exact fun σ1 B1 H1 m1 g1 w1 e1 => r.ok C md ρ1 h1 σ1 B1 H1 m1 _ _ D e1 w1 (DaAll.mono g1.bb _ t) (PoS.shift g1 w q) (Nat.succ.inj hl)
      · rename_i c y ρ1 h1 ea
        rw [ea]
        exact q
      · exact q.elim
end SGs
namespace SS
def asgG (a : SE) (g : SG) : SS where
  run := fun ρ h => (a.ev ρ h).thn ρ fun x h1 => (g.run x ρ h1).only
  t := fun C md => tAsg (a.t C md) (g.t C md)
  ok := fun C md ρ h σ B H m D e w q => by
    refine a.ok C md ρ h σ B H m _ e w (PoS.chain w e q fun x h1 u B1 H1 m1 ea g1 w1 r1 q1 => ?_)
    refine g.ok C md ρ h1 σ B1 H1 m1 x u D (e.gm g1) w1 r1 ?_
    cases c : g.run x ρ h1 with
    | nx ρ2 h2 => rw [c] at q1; exact q1
    | ex c' y ρ2 h2 => rw [c] at q1; exact q1
    | rt _ _ => rw [c] at q1; exact q1.elim
    | bk _ _ => rw [c] at q1; exact q1.elim
    | ct _ _ => rw [c] at q1; exact q1.elim
    | no => rw [c] at q1; exact q1.elim
end SS

/-! ### defs -/
/-- who calls it meets its error -/
structure CalX (P : Program) (w : World) (K : PySem.W.Frag) (mg : Str → Option Value) (base : Heap) (k : Nat) (x : Str) (ps : List Str) (q : Sp) : Prop where
  ex : ∃ (f : Addr) (fd : FuncData), mg x = some (.ref f) ∧ Kq K f fd ∧ L2.Binds K fd ps [] ∧ FnG P w K mg base (L2.CX P w) k f fd ps q
abbrev FSem := List Vd → Hd → Oc Vd
def runDef (body : SS) (n np : Nat) : FSem := fun args h => if args.length = np then match body.run (startN n args) h with
    | .rt x h1 => .ok x h1
    | .nx _ h1 => .ok (.d .none) h1
    | .ex c x _ h1 => .ex c x h1
    | _ => .no
  else .no
/-- what a def promises; r: whether what it raises is met -/
def spN (C : Ctx) (r : Bool) (F : FSem) : Sp := fun vs H Q E => ∃ B m h args, WOk C.K B H m h ∧ VRs C.K B m args vs ∧ Po C (if r then some fun cls d _ H' => E cls d H' else none) [] (rV C) m B H (F args h) Q
def WE0 (E : XK) : WX := fun cls d _ H' => E cls d H'
section
variable {P : Program} {w : World} {C : Ctx} {mg : Str → Option Value} {base : Heap}
theorem spN_len {r : Bool} {body : SS} {n np : Nat} {vs : List V} {H : Hp} {Q : VK} {E : XK} (h : spN C r (runDef body n np) vs H Q E) : vs.length = np := by
  obtain ⟨B, m, h, args, w, rs, q⟩ := h
  rw [rs.len]
  unfold runDef at q
  by_cases c : args.length = np
  · exact c
  · rw [if_neg c] at q
    exact q.elim
/-- from the reading of its body -/
theorem body_go {md : Md} {body : SS} {N : List Str} {np : Nat} {vs : List V} {H : Hp} {Q : VK} {E : XK} {r : Bool} (hmd : md = if r then some (WE0 E) else none) (h : spN C r (runDef body N.length np) vs H Q E) :
    body.t C md { nx := fun _ H' => Q .non H', rt := Q } (L2.start N vs) H := by
  obtain ⟨B, m, h, args, w, rs, q⟩ := h
  refine body.ok C md _ h _ B H m _ (envn_start rs) w ?_
  unfold runDef at q
  by_cases c0 : args.length = np
  · rw [if_pos c0] at q
    cases c : body.run (startN N.length args) h with
    | rt x h1 => rw [c] at q; exact q
    | nx ρ1 h1 => rw [c] at q; exact fun σ' B' H' m' g w' e => q .non B' H' m' g w' (.d .non)
    | ex c' x ρ1 h1 =>
      rw [c] at q
      obtain ⟨W, e, k⟩ := q
      cases r with
      | false => cases e
      | true =>
        cases e
        rw [hmd]
        exact ⟨WE0 E, rfl, fun σ' dd v B' H' m' g w' e' b0 h0 n hx d => k dd v B' H' m' g w' b0 h0 n hx d⟩
    | bk _ _ => rw [c] at q; exact q.elim
    | ct _ _ => rw [c] at q; exact q.elim
    | no => rw [c] at q; exact q.elim
  · rw [if_neg c0] at q
    exact q.elim
theorem has_n {x : Str} {st : Stmt} {N ps : List Str} {k : Nat} {body : SS} (h : Has C.K mg x st ps) (S : FnScope N ps (defScope st))
    (hb : ∀ (f : Addr) (cdv : Value) (A : Around) (outer : List Env) (s : Shared) (H : Hp) (E : XK), A.guards = some [] → Room k (A.deeper (envOfC x (defScope st) s.heap.objs.size f cdv)) →
      PSs (bodyCx CX0 P w C.K mg base N x st f cdv A outer s H E).nox (defBody st) (body.t C none)) : Cal P w C.K mg base (k + 1) x ps (spN C false (runDef body N.length ps.length)) := by
  obtain ⟨f, fd, F, hm, bd⟩ := h
  exact ⟨f, fd, hm, kq_of F, bd, fn_g0 F S (fun vs H Q E h => spN_len h) fun cdv A outer s H vs Q E hg hr h => ⟨_, hb f cdv A outer s H E hg hr, body_go (md := none) rfl h⟩⟩
/-- .. as it raises -/
theorem has_x {x : Str} {st : Stmt} {N ps : List Str} {k : Nat} {body : SS} (h : Has C.K mg x st ps) (S : FnScope N ps (defScope st))
    (hb : ∀ (f : Addr) (cdv : Value) (A : Around) (outer : List Env) (s : Shared) (H : Hp) (E : XK), A.guards = some [] → Room k (A.deeper (envOfC x (defScope st) s.heap.objs.size f cdv)) →
      PSs (bodyCx (L2.CX P w) P w C.K mg base N x st f cdv A outer s H E) (defBody st) (body.t C (some (WE0 E)))) : CalX P w C.K mg base (k + 1) x ps (spN C true (runDef body N.length ps.length)) := by
  obtain ⟨f, fd, F, hm, bd⟩ := h
  exact ⟨f, fd, hm, kq_of F, bd, fn_g F S (fun vs H Q E h => spN_len h) fun cdv A outer s H vs Q E hg hr h => ⟨_, hb f cdv A outer s H E hg hr, body_go (md := some (WE0 E)) rfl h⟩⟩
end
/-! data in, data out -/
def FD (F : FSem) : List PyData → Option PyData := fun ds => match F (ds.map .d) [] with
  | .ok r h1 => match frz h1 r with
    | some (z, _) => some z
    | none => none
  | _ => none
theorem gr_of {K : PySem.W.Frag} {B H B1 H1 B2 : Hp} {m1 : List Addr} {h1 : Hd} (g : Gm [] B H B1 H1 m1) (w1 : WOk K B1 H1 m1 h1) (g2 : Gm m1 B1 H1 B2 H1 m1) (w2 : Same B2 H1) : Gr B H B2 H1 := by
  refine ⟨fun a o e => g.ex a o (by simp) e, g.bb.trans g2.bb, w2, fun a o e n => ?_⟩
  cases c : B1 a with
  | some u =>
    rcases g.new a u c n with z | z
    · exact z
    · cases z
  | none =>
    rcases g2.new a o e c with z | z
    · rw [w2 a o e] at z; cases z
    · obtain ⟨l, e1, f⟩ := g.ext
      rw [List.nil_append] at e1
      subst e1
      exact f a z
theorem fd_fn {C : Ctx} {F : FSem} {xs : List PyData} {z : PyData} (e : FD F xs = some z) : Fn C.K (fun vs H Q => spN C false F vs H Q E0) xs z := by
  intro B H s us hu Q q
  refine ⟨B, [], [], xs.map .d, wok_nil s, VRs.all hu, ?_⟩
  unfold FD at e
  split at e
  · rename_i r h1 er
    rw [er]
    split at e
    · rename_i d h2 ef
      cases e
      intro v B1 H1 m1 g1 w1 r1
      obtain ⟨B2, g2, w2, d2⟩ := frz_ok w1 ef r1
      exact q v B2 H1 (gr_of g1 w1 g2 w2.sub) d2
    · cases e
  · cases e
def permL {α : Type} (is : List Nat) (xs : List α) : List α := is.filterMap fun i => xs[i]?
def kwgI {α : Type} (is : List Nat) : List α → List α → List α
  | [], zs => if zs.length = is.length then permL is zs else []
  | _ :: _, _ => []
theorem kwgI_nil {α : Type} (is : List Nat) (zs : List α) : kwgI is [] zs = if zs.length = is.length then permL is zs else [] := rfl
theorem kwgI_len {α : Type} {is : List Nat} {us zs : List α} {n : Nat} (h : (kwgI is us zs).length = n + 1) : us = [] ∧ zs.length = is.length := by
  cases us with
  | cons u us => cases h
  | nil =>
    rw [kwgI_nil] at h
    by_cases c : zs.length = is.length
    · exact ⟨rfl, c⟩
    · rw [if_neg c] at h; cases h
theorem permL_rel {K : PySem.W.Frag} {B : Hp} {m : List Addr} {xs : List Vd} {vs : List V} (r : VRs K B m xs vs) : ∀ is : List Nat, VRs K B m (permL is xs) (permL is vs)
  | [] => .nil
  | i :: is => by
    unfold permL
    rw [List.filterMap_cons, List.filterMap_cons]
    cases c : xs[i]? with
    | some x =>
      obtain ⟨v, e1, e2⟩ := r.at c
      rw [e1]
      exact .cons e2 (permL_rel r is)
    | none =>
      have : vs[i]? = none := List.getElem?_eq_none_iff.mpr (by rw [r.len]; exact List.getElem?_eq_none_iff.mp c)
      rw [this]
      exact permL_rel r is
namespace SE
/-- f(..), data in, data out -/
def call (F : FSem) (a : SL) : SE where
  ev := fun ρ h => (a.ev ρ h).bind fun xs h1 => fnV (FD F) xs h1
  t := fun C md => tCall (spN C false F) [] E0 (a.t C md)
  ok := fun C md ρ h σ B H m Q e w q =>
    a.ok C md ρ h σ B H m _ e w (Po.chain w q fun xs h1 us B1 H1 m1 ea g1 w1 r1 q1 => by
      rw [List.append_nil]
      exact fnV_ok (r := fun vs H Q => spN C false F vs H Q E0) (fun xs z ez => fd_fn ez) w1 r1 q1)
/-- .. by keywords -/
def callK (F : FSem) (is : List Nat) (a : SL) : SE where
  ev := fun ρ h => (a.ev ρ h).bind fun xs h1 => if xs.length = is.length then fnV (FD F) (permL is xs) h1 else .no
  t := fun C md => tCallK (spN C false F) (kwgI is) E0 tNil (a.t C md)
  ok := fun C md ρ h σ B H m Q e w q =>
    a.ok C md ρ h σ B H m _ e w (Po.chain w q fun xs h1 us B1 H1 m1 ea g1 w1 r1 q1 => by
      split at q1
      · rename_i hl
        show spN C false F (kwgI is [] us) H1 Q E0
        rw [kwgI_nil, if_pos (by rw [r1.len]; exact hl)]
        exact fnV_ok (r := fun vs H Q => spN C false F vs H Q E0) (fun xs z ez => fd_fn ez) w1 (permL_rel r1 is) q1
      · exact q1.elim)
end SE
end N
end
section
set_option maxRecDepth 100000
set_option maxHeartbeats 2000000
/-! calls that write to their first argument; calls whose new list is written to -/
namespace N
open PySem PySem.Spec PyProof.Rows L2 G

/-- a new flat list comes back -/
def FM (F : FSem) : List PyData → Option (List PyData) := fun ds => match F (ds.map .d) [] with
  | .ok (.r k) h1 => match h1[k]? with
    | some (.lst ys) => datas ys
    | _ => none
  | _ => none
/-- the first argument is a flat list that is written to -/
def FG (F : FSem) (es ds : List PyData) : Option (PyData × List PyData) := match F (.r 0 :: ds.map .d) [.lst (es.map .d)] with
  | .ok r h1 => match frz h1 r with
    | some (z, h2) => match h2[(0 : Nat)]? with
      | some (.lst ys) => match datas ys with
        | some es' => some (z, es')
        | none => none
      | _ => none
    | none => none
  | _ => none
def FGM (F : FSem) (es ds : List PyData) : Option (List PyData × List PyData) := match F (.r 0 :: ds.map .d) [.lst (es.map .d)] with
  | .ok (.r k) h1 => match h1[(0 : Nat)]?, h1[k]? with
    | some (.lst ys), some (.lst zs) => match datas ys, datas zs with
      | some es', some out => if k = 0 then none else some (out, es')
      | _, _ => none
    | _, _ => none
  | _ => none
theorem vrs_any {K : PySem.W.Frag} {B : Hp} {m m' : List Addr} {xs : List Vd} {vs : List V} {ds : List PyData} (e : datas xs = some ds) (r : VRs K B m xs vs) : VRs K B m' xs vs := by
  rw [datas_ok e] at r ⊢
  exact VRs.all r.data
theorem datas_map (ds : List PyData) : datas (ds.map .d) = some ds := by
  induction ds with
  | nil => rfl
  | cons d ds ih => rw [List.map_cons, datas, ih]
/-- one own flat list, alone -/
theorem wok_one {K : PySem.W.Frag} {B H : Hp} {m : List Addr} {h : Hd} (w : WOk K B H m h) {n : Nat} {a : Addr} {ys : List Vd} {es : List PyData} (p : m[n]? = some a) (e : h[n]? = some (.lst ys)) (ed : datas ys = some es) : WOk K B H [a] [.lst (es.map .d)] := by
  obtain ⟨nB, vs, hv, rs⟩ := own_at w p e
  refine ⟨w.sub, rfl, by simp, fun j b en pj q => ?_⟩
  cases j with
  | zero =>
    cases pj
    cases q
    refine ⟨nB, vs, hv, ?_⟩
    rw [datas_ok ed] at rs
    exact VRs.all rs.data
  | succ j => cases q
/-- behind a call that wrote to one own list -/
theorem after_one {K : PySem.W.Frag} {B H B2 H2 : Hp} {m m2 : List Addr} {h h2 : Hd} (w : WOk K B H m h) {n : Nat} {a : Addr} {ys : List Vd} {es' : List PyData} (p : m[n]? = some a) (g : Gm [a] B H B2 H2 m2) (w2 : WOk K B2 H2 m2 h2) (e2 : h2[0]? = some (.lst ys)) (ed : datas ys = some es') :
    Gm m B H B2 H2 m ∧ WOk K B2 H2 m (h.set n (.lst (es'.map .d))) := by
  have am : a ∈ m := List.mem_of_getElem? p
  have p2 : m2[0]? = some a := gm_at g rfl
  obtain ⟨nB, vs, hv, rs⟩ := own_at w2 p2 e2
  have G : Gm m B H B2 H2 m := ⟨g.bb, fun b o nb e => g.ex b o (fun z => nb (by rw [List.mem_singleton.mp z]; exact am)) e, fun b o e n => (g.new b o e n).imp id fun z => by rw [List.mem_singleton.mp z]; exact am, g.kp, [], by simp, by simp⟩
  refine ⟨G, ⟨w2.sub, by rw [List.length_set]; exact w.len, w.nd, fun j b en pj q => ?_⟩⟩
  by_cases c : n = j
  · subst c
    have l : n < h.length := by
      have z := (List.getElem?_eq_some_iff.mp q).1
      rw [List.length_set] at z
      exact z
    rw [List.getElem?_set_self l] at q
    cases q
    rw [p] at pj
    cases pj
    refine ⟨nB, vs, hv, ?_⟩
    rw [datas_ok ed] at rs
    exact VRs.all rs.data
  · rw [List.getElem?_set_ne c] at q
    have z := w.ent j b en pj q
    have ne : b ≠ a := fun x => by
      subst x
      obtain ⟨h1, e1⟩ := List.getElem?_eq_some_iff.mp pj
      obtain ⟨h2, e2⟩ := List.getElem?_eq_some_iff.mp p
      exact c ((List.getElem_inj w.nd).mp (e2.trans e1.symm))
    have nb : b ∉ [a] := fun z => ne (List.mem_singleton.mp z)
    match en, z with
    | .lst zs, ⟨z1, us, z2, z3⟩ => exact ⟨gm_B g nb (by rw [z2]; simp) z1, us, g.ex _ _ nb z2, z3.gm G⟩
    | .frz y, ⟨z1, z2⟩ => exact ⟨z1.mono g.bb, g.kp _ z2⟩
namespace SE
def callM (F : FSem) (a : SL) : SE where
  ev := fun ρ h => (a.ev ρ h).bind fun xs h1 => match frzL h1 xs with
    | some (ds, h2) => match FM F ds with
      | some zs => .ok (.r h2.length) (h2 ++ [.lst (zs.map .d)])
      | none => .no
    | none => .no
  t := fun C md => tCall (spN C false F) [] E0 (a.t C md)
  ok := fun C md ρ h σ B H m Q e w q =>
    a.ok C md ρ h σ B H m _ e w (Po.chain w q fun xs h1 us B1 H1 m1 ea g1 w1 r1 q1 => by
      rw [List.append_nil]
      split at q1
      · rename_i ds h2 ef
        split at q1
        · rename_i zs ez
          obtain ⟨B2, g2, w2, d2⟩ := frzL_ok w1 ef r1
          refine ⟨B2, [], [], ds.map .d, wok_nil w2.sub, VRs.all d2, ?_⟩
          unfold FM at ez
          split at ez
          · rename_i k h3 er
            rw [er]
            split at ez
            · rename_i ys ey
              intro v B3 H3 m3 g3 w3 r3
              cases r3 with
              | @r _ p pk =>
                obtain ⟨nB, vs, hv, rs⟩ := own_at w3 pk ey
                have fresh : H1 p = none := by
                  obtain ⟨l, e1, f⟩ := g3.ext
                  rw [List.nil_append] at e1
                  subst e1
                  exact f p (List.mem_of_getElem? pk)
                have k3 : Gr B2 H1 B3 H3 := gr_of g3 w3 (Gm.refl w3) w3.sub
                have nm : p ∉ m1 := fun z => w2.tracked z fresh
                obtain ⟨k4, w4⟩ := gm_own (.of w2 k3) (w2.gr k3) fresh nB nm hv (vrs_any ez rs)
                rw [datas_ok ez] at w4
                exact q1 _ _ _ _ (g2.trans w1 k4) w4 (.r (by rw [← w2.len]; exact one_last _ _))
            · cases ez
          · cases ez
        · exact q1.elim
      · exact q1.elim)
/-- f(g, ..): g is written to -/
def callG (F : FSem) (a : SL) : SE where
  ev := fun ρ h => (a.ev ρ h).bind fun xs h1 => match xs with
    | .r n :: rest => match frzL h1 rest with
      | some (ds, h2) => match h2[n]? with
        | some (.lst ys) => match datas ys with
          | some es => match FG F es ds with
            | some (z, es') => .ok (.d z) (h2.set n (.lst (es'.map .d)))
            | none => .no
          | none => .no
        | _ => .no
      | none => .no
    | _ => .no
  t := fun C md => tCall (spN C false F) [] E0 (a.t C md)
  ok := fun C md ρ h σ B H m Q e w q =>
    a.ok C md ρ h σ B H m _ e w (Po.chain w q fun xs h1 us B1 H1 m1 ea g1 w1 r1 q1 => by
      rw [List.append_nil]
      split at q1
      · rename_i n rest
        split at q1
        · rename_i ds h2 ef
          split at q1
          · rename_i ys ey
            split at q1
            · rename_i es ed
              split at q1
              · rename_i z es' ez
                cases r1 with
                | cons ra rt =>
                  cases ra with
                  | @r _ a p =>
                    obtain ⟨B2, g2, w2, d2⟩ := frzL_ok w1 ef rt
                    refine ⟨B2, [a], [.lst (es.map .d)], .r 0 :: ds.map .d, wok_one w2 p ey ed, .cons (.r rfl) (VRs.all d2), ?_⟩
                    unfold FG at ez
                    split at ez
                    · rename_i r h3 er
                      rw [er]
                      split at ez
                      · rename_i z' h4 e4
                        split at ez
                        · rename_i ys' ey'
                          split at ez
                          · rename_i es'' ed'
                            cases ez
                            intro v B3 H3 m3 g3 w3 r3
                            obtain ⟨B4, g4, w4, d4⟩ := frz_ok w3 e4 r3
                            obtain ⟨k5, w5⟩ := after_one w2 p (g3.trans (wok_one w2 p ey ed) g4) w4 ey' ed'
                            exact q1 _ _ _ _ (g2.trans w1 k5) w5 (.d d4)
                          · cases ez
                        · cases ez
                      · cases ez
                    · cases ez
              · exact q1.elim
            · exact q1.elim
          · exact q1.elim
        · exact q1.elim
      · exact q1.elim)
/-- .. and its new list is written to, too -/
def callGM (F : FSem) (a : SL) : SE where
  ev := fun ρ h => (a.ev ρ h).bind fun xs h1 => match xs with
    | .r n :: rest => match frzL h1 rest with
      | some (ds, h2) => match h2[n]? with
        | some (.lst ys) => match datas ys with
          | some es => match FGM F es ds with
            | some (out, es') => .ok (.r h2.length) (h2.set n (.lst (es'.map .d)) ++ [.lst (out.map .d)])
            | none => .no
          | none => .no
        | _ => .no
      | none => .no
    | _ => .no
  t := fun C md => tCall (spN C false F) [] E0 (a.t C md)
  ok := fun C md ρ h σ B H m Q e w q =>
    a.ok C md ρ h σ B H m _ e w (Po.chain w q fun xs h1 us B1 H1 m1 ea g1 w1 r1 q1 => by
      rw [List.append_nil]
      split at q1
      · rename_i n rest
        split at q1
        · rename_i ds h2 ef
          split at q1
          · rename_i ys ey
            split at q1
            · rename_i es ed
              split at q1
              · rename_i out es' ez
                cases r1 with
                | cons ra rt =>
                  cases ra with
                  | @r _ a p =>
                    obtain ⟨B2, g2, w2, d2⟩ := frzL_ok w1 ef rt
                    refine ⟨B2, [a], [.lst (es.map .d)], .r 0 :: ds.map .d, wok_one w2 p ey ed, .cons (.r rfl) (VRs.all d2), ?_⟩
                    unfold FGM at ez
                    split at ez
                    · rename_i k h3 er
                      rw [er]
                      split at ez
                      · rename_i ys' zs' ey' ez'
                        split at ez
                        · rename_i es'' out' ed' eo
                          split at ez
                          · cases ez
                          · rename_i k0
                            cases ez
                            intro v B3 H3 m3 g3 w3 r3
                            cases r3 with
                            | @r _ p3 pk =>
                              obtain ⟨k5, w5⟩ := after_one w2 p g3 w3 ey' ed'
                              obtain ⟨nB, vs, hv, rs⟩ := own_at w3 pk ez'
                              have fresh : H1 p3 = none := by
                                obtain ⟨l, e1, f⟩ := g3.ext
                                subst e1
                                cases k with
                                | zero => exact absurd rfl k0
                                | succ k => exact f p3 (List.mem_of_getElem? (by simpa using pk))
                              have nm : p3 ∉ m1 := fun z => w2.tracked z fresh
                              obtain ⟨k6, w6⟩ := gm_own k5 w5 fresh nB nm hv (vrs_any eo rs)
                              rw [datas_ok eo] at w6
                              exact q1 _ _ _ _ (g2.trans w1 k6) w6 (.r (by rw [← w2.len]; exact one_last _ _))
                        · cases ez
                      · cases ez
                    · cases ez
              · exact q1.elim
            · exact q1.elim
          · exact q1.elim
        · exact q1.elim
      · exact q1.elim)
end SE
end N
end
section
set_option maxRecDepth 100000
set_option maxHeartbeats 4000000
/-! len(set(xs)) of ints that may be alike -/
namespace G
open PySem PySem.Spec PyProof.Rows L2
def disL (ns : List Int) : List Int := PyProof.Rows.firstMet (fun i => ns.getD i 0) ns.length
theorem dis_len (ns : List Int) : (disL ns).length ≤ ns.length := PyProof.Rows.firstMet_length_le _ _
theorem dis_take {ns : List Int} : ∀ i, i ≤ ns.length → (PyProof.Rows.firstMet (fun i => ns.getD i 0) i).length = i → (ns.take i).Nodup
  | 0, _, _ => by simp
  | i + 1, hi, h => by
    have lt : i < ns.length := hi
    have up := PyProof.Rows.firstMet_length_le (fun i => ns.getD i 0) i
    rw [PyProof.Rows.firstMet_succ] at h
    unfold step_dedup at h
    have g : ns.getD i 0 = ns[i] := by rw [List.getD_eq_getElem?_getD, List.getElem?_eq_getElem lt]; rfl
    have tk : ns.take (i + 1) = ns.take i ++ [ns[i]] := by rw [List.take_add_one, List.getElem?_eq_getElem lt]; rfl
    have mp : (List.range i).map (fun j => ns.getD j 0) = ns.take i := by
      refine List.ext_getElem? fun j => ?_
      by_cases hj : j < i
      · rw [List.getElem?_map, List.getElem?_range hj, List.getElem?_take_of_lt hj, List.getElem?_eq_getElem (by omega)]
        show some (ns.getD j 0) = _
        rw [List.getD_eq_getElem?_getD, List.getElem?_eq_getElem (by omega)]
        rfl
      · rw [List.getElem?_eq_none (by rw [List.length_map, List.length_range]; omega), List.getElem?_eq_none (by rw [List.length_take]; omega)]
    have any := PyProof.Rows.firstMet_any (fun i => ns.getD i 0) i (ns.getD i 0)
    rw [mp] at any
    split at h
    · omega
    · rename_i no
      rw [List.length_append] at h
      have one : [ns.getD i 0].length = 1 := rfl
      rw [one] at h
      have ih := dis_take i (by omega) (Nat.succ.inj h)
      rw [tk]
      refine List.nodup_append.mpr ⟨ih, by simp, fun a ha b hb e => ?_⟩
      have eb : b = ns[i] := by simpa using hb
      have no2 : (ns.take i).any (fun x => x == ns.getD i 0) = false := by
        rw [← any]
        rw [Bool.eq_false_iff]
        intro z
        obtain ⟨y, hy, ey⟩ := List.any_eq_true.mp z
        have ey2 : y = ns.getD i 0 := eq_of_beq ey
        subst ey2
        exact no (by simpa using hy)
      have q := List.any_eq_false.mp no2 a ha
      rw [g, e, eb] at q
      simp at q
theorem dis_iff (ns : List Int) : (disL ns).length = ns.length ↔ ns.Nodup := by
  constructor
  · intro h
    have q := dis_take ns.length (Nat.le_refl _) h
    rw [List.take_length] at q
    exact q
  · intro h
    unfold disL
    rw [RZ.firstMet_nodup h ns.length (Nat.le_refl _), List.take_length]
def tLenSetA (K : PySem.W.Frag) (ta : TE) : TE := fun σ H Q => ta σ H fun x H1 => ∃ (p : Addr) (ns : List Int), x = .ref p ∧ SqL K H1 p (ns.map V.int) ∧ ns.length ≤ 4000 ∧ Q (.int ((disL ns).length : Nat)) H1
theorem pe_lenSetA {X : Cx} {a : Expr} {ta : TE} {p p2 q pos : Pos} (hg : Gl X "len") (hm : X.mg "len" = none) (hg2 : Gl X "set") (hm2 : X.mg "set" = none) (ha : PE X a ta) (calm : X.calm = true := by rfl)
    (one : starEach [a] X.env = (false, eval a X.env) :: starEach [] X.env := by rfl) : PE X (.Call (.Name "len" p) [.Call (.Name "set" p2) [a] [] q] [] pos) (tLenSetA X.K ta) :=
  ⟨fun pins s σ H Q I h => by
    refine Call_ (ld_blt I hg hm boot_len (callWith_builtin1 (args_cons ?_ rfl) rfl rfl))
    refine Call_ (ld_blt I hg2 hm2 boot_set (callWith_type1 (args_cons (thn (ha.run pins s σ H _ I h) fun v s1 ⟨x, H1, J, rx, w⟩ => args_nil ?_) one) one rfl))
    obtain ⟨p, ns, rfl, hq, small, w⟩ := w
    obtain rfl : v = Value.ref p := rx
    obtain ⟨its, rv, plain, _⟩ := J.list hq
    have n : its.toArray.size = ns.length := by rw [List.size_toArray, ← rv.length, List.length_map]
    refine call_set_list (J.ok.hd calm) plain.isList (by simpa using RZ.intsAre_vals rv) (by rw [n]; unfold scanBound; omega) fun h2 tk set keep => args_nil ?_
    have le := dis_len ns
    rw [n] at set
    obtain ⟨o, es, ep, t, ho, ex, hd, _, _, _, fit, size⟩ := set
    have size2 : es.size = (disL ns).length := size
    have J2 : L2.Inv X pins σ H1 { s1 with heap := h2, toks := tk } := J.kept fun b u e => keep b u (Heap.lt_size e) e
    exact call_len_set ho ex hd fit (by rw [size2]; omega) ⟨.int (disL ns).length, H1, J2.tok _, ⟨_, by rw [size2]⟩, w⟩⟩
theorem lenSetKA {X : Cx} (K : PySem.W.Frag) {a : Expr} {ta : TE} {p p2 q pos : Pos} (hg : Gl X "len") (hm : X.mg "len" = none) (hg2 : Gl X "set") (hm2 : X.mg "set" = none) (ha : PE X a ta) (h : X.K = K := by rfl) (calm : X.calm = true := by rfl)
    (one : starEach [a] X.env = (false, eval a X.env) :: starEach [] X.env := by rfl) : PE X (.Call (.Name "len" p) [.Call (.Name "set" p2) [a] [] q] [] pos) (tLenSetA K ta) := by
  subst h
  exact pe_lenSetA hg hm hg2 hm2 ha calm one
end G
end
section
set_option maxRecDepth 100000
set_option maxHeartbeats 2000000
/-! more of what expressions are worth -/
namespace N
open PySem PySem.Spec PyProof.Rows L2 G

/-! ### x.bit_length() -/
def bitsOf (i : Int) : Int := (Builtin.Int.intBits i : Nat)
namespace SE
def bits (a : SE) : SE where
  ev := fun ρ h => (a.ev ρ h).bind fun x h1 => match x with
    | .d (.int i) => .ok (.d (.int (bitsOf i))) h1
    | _ => .no
  t := fun C md => tBits (a.t C md)
  ok := fun C md ρ h σ B H m Q e w q => by
    refine a.ok C md ρ h σ B H m _ e w (Po.chain w q fun x h1 u B1 H1 m1 ea g1 w1 r1 q1 => ?_)
    match x, r1, q1 with
    | .d (.int i), .d (.int _), q1 => exact ⟨i, rfl, q1 _ B1 H1 m1 (.refl w1) w1 (.d (.int _))⟩
/-! ### list(range(..)) -/
def rgOk (a b : Int) : Bool := decide (-16777216 ≤ a) && (decide (a ≤ 16777216) && (decide (-16777216 ≤ b) && (decide (b ≤ 16777216) && decide ((b - a).toNat ≤ 1000000))))
theorem rgOk_ok {a b : Int} (h : rgOk a b = true) : RgOk a b := by
  unfold rgOk at h
  simp only [Bool.and_eq_true, decide_eq_true_eq] at h
  refine ⟨by omega, by omega, by omega, by omega, by omega⟩
theorem rgV_da {K : PySem.W.Frag} {B : Hp} (a b : Int) : DaAll K B (rgV a b) (SI.rng a b) := by
  unfold rgV SI.rng
  induction (List.range (b - a).toNat) with
  | nil => exact .nil
  | cons i is ih => exact .cons (.int _) ih
def rg1 (n : SE) : Rh → Hd → Oc (Int × Int) := fun ρ h => (n.ev ρ h).bind fun x h1 => match x with
  | .d (.int i) => if rgOk 0 i = true then .ok (0, i) h1 else .no
  | _ => .no
def listRg1 (n : SE) : SE where
  ev := fun ρ h => (n.ev ρ h).bind fun x h1 => match x with
    | .d (.int i) => if rgOk 0 i = true then .ok (.d (.list (SI.rng 0 i))) h1 else .no
    | _ => .no
  t := fun C md => tLstRg (tRg1 (n.t C md))
  ok := fun C md ρ h σ B H m Q e w q => by
    refine n.ok C md ρ h σ B H m _ e w (Po.chain w q fun x h1 u B1 H1 m1 ea g1 w1 r1 q1 => ?_)
    match x, r1, q1 with
    | .d (.int i), .d (.int _), q1 =>
      dsimp only at q1
      split at q1
      · rename_i hr
        refine ⟨i, rfl, rgOk_ok hr, fun p hp => ?_⟩
        have k := Gr.add w1.sub hp (.lst (rgV 0 i))
        exact q1 _ _ _ _ (.of w1 k) (w1.gr k) (.d (.lst (.of upd_same) (rgV_da 0 i)))
      · exact q1.elim
def listRg2 (l n : SE) : SE where
  ev := fun ρ h => (l.ev ρ h).bind fun x h1 => (n.ev ρ h1).bind fun y h2 => match x, y with
    | .d (.int j), .d (.int i) => if rgOk j i = true then .ok (.d (.list (SI.rng j i))) h2 else .no
    | _, _ => .no
  t := fun C md => tLstRg (tRg2 (l.t C md) (n.t C md))
  ok := fun C md ρ h σ B H m Q e w q => by
    refine l.ok C md ρ h σ B H m _ e w (Po.chain w q fun x h1 u B1 H1 m1 ea g1 w1 r1 q1 => ?_)
    refine n.ok C md ρ h1 σ B1 H1 m1 _ (e.gm g1) w1 (Po.chain w1 q1 fun y h2 v B2 H2 m2 eb g2 w2 r2 q2 => ?_)
    match x, r1, y, r2, q2 with
    | .d (.int j), .d (.int _), .d (.int i), .d (.int _), q2 =>
      dsimp only at q2
      split at q2
      · rename_i hr
        refine ⟨j, i, rfl, rfl, rgOk_ok hr, fun p hp => ?_⟩
        have k := Gr.add w2.sub hp (.lst (rgV j i))
        exact q2 _ _ _ _ (.of w2 k) (w2.gr k) (.d (.lst (.of upd_same) (rgV_da j i)))
      · exact q2.elim
def listRg1M (n : SE) : SE where
  ev := fun ρ h => (n.ev ρ h).bind fun x h1 => match x with
    | .d (.int i) => if rgOk 0 i = true then .ok (.r h1.length) (h1 ++ [.lst ((SI.rng 0 i).map .d)]) else .no
    | _ => .no
  t := fun C md => tLstRg (tRg1 (n.t C md))
  ok := fun C md ρ h σ B H m Q e w q => by
    refine n.ok C md ρ h σ B H m _ e w (Po.chain w q fun x h1 u B1 H1 m1 ea g1 w1 r1 q1 => ?_)
    match x, r1, q1 with
    | .d (.int i), .d (.int _), q1 =>
      dsimp only at q1
      split at q1
      · rename_i hr
        refine ⟨i, rfl, rgOk_ok hr, fun p hp => ?_⟩
        obtain ⟨k, w2⟩ := gm_new w1 hp (VRs.all (m := m1) (rgV_da (K := C.K) (B := B1) 0 i))
        exact q1 _ _ _ _ k w2 (.r (by rw [← w1.len]; exact one_last _ _))
      · exact q1.elim
def listRg2M (l n : SE) : SE where
  ev := fun ρ h => (l.ev ρ h).bind fun x h1 => (n.ev ρ h1).bind fun y h2 => match x, y with
    | .d (.int j), .d (.int i) => if rgOk j i = true then .ok (.r h2.length) (h2 ++ [.lst ((SI.rng j i).map .d)]) else .no
    | _, _ => .no
  t := fun C md => tLstRg (tRg2 (l.t C md) (n.t C md))
  ok := fun C md ρ h σ B H m Q e w q => by
    refine l.ok C md ρ h σ B H m _ e w (Po.chain w q fun x h1 u B1 H1 m1 ea g1 w1 r1 q1 => ?_)
    refine n.ok C md ρ h1 σ B1 H1 m1 _ (e.gm g1) w1 (Po.chain w1 q1 fun y h2 v B2 H2 m2 eb g2 w2 r2 q2 => ?_)
    match x, r1, y, r2, q2 with
    | .d (.int j), .d (.int _), .d (.int i), .d (.int _), q2 =>
      dsimp only at q2
      split at q2
      · rename_i hr
        refine ⟨j, i, rfl, rfl, rgOk_ok hr, fun p hp => ?_⟩
        obtain ⟨k, w3⟩ := gm_new w2 hp (VRs.all (m := m2) (rgV_da (K := C.K) (B := B2) j i))
        exact q2 _ _ _ _ k w3 (.r (by rw [← w2.len]; exact one_last _ _))
      · exact q2.elim
/-- [..] * n -/
theorem vrs_rep {K : PySem.W.Frag} {B : Hp} {m : List Addr} {xs : List Vd} {vs : List V} (rs : VRs K B m xs vs) : ∀ n, VRs K B m (List.replicate n xs).flatten (List.replicate n vs).flatten
  | 0 => .nil
  | n + 1 => by rw [List.replicate_succ, List.replicate_succ, List.flatten_cons, List.flatten_cons]; exact rs.app (vrs_rep rs n)
def repOk (n : Nat) (k : Int) : Bool := decide (k ≤ 1000000) && (decide (-1000000 ≤ k) && decide (n * k.toNat ≤ 1000000))
def rep (a : SL) (b : SE) : SE where
  ev := fun ρ h => (a.ev ρ h).bind fun xs h1 => match frzL h1 xs with
    | some (ds, h2) => if ds.length ≤ 1000000 then (b.ev ρ h2).bind fun y h3 => match y with
        | .d (.int k) => if repOk ds.length k = true then .ok (.d (.list (List.replicate k.toNat ds).flatten)) h3 else .no
        | _ => .no
      else .no
    | none => .no
  t := fun C md => tOp rMulA (tLst (a.t C md)) (b.t C md)
  ok := fun C md ρ h σ B H m Q e w q => by
    refine a.ok C md ρ h σ B H m _ e w (Po.chain w q fun xs h1 us B1 H1 m1 ea g1 w1 r1 q1 => ?_)
    split at q1
    · rename_i ds h2 ef
      obtain ⟨B2, g2, w2, d2⟩ := frzL_ok w1 ef r1
      split at q1
      · rename_i hl
        refine ⟨by rw [d2.len, sizeLine_eq]; omega, fun p hp => ?_⟩
        have k := Gr.add w2.sub hp (.lst us)
        have g3 : Gm m B H (upd B2 p (.lst us)) (upd H1 p (.lst us)) m1 := g1.trans w (g2.trans w1 (.of w2 k))
        have w3 := w2.gr k
        refine b.ok C md ρ h2 σ _ _ m1 _ (e.gm g3) w3 (Po.chain w3 (Po.shift (g2.trans w1 (.of w2 k)) w1 q1) fun y h3 v B4 H4 m4 eb g4 w4 r4 q4 => ?_)
        match y, r4, q4 with
        | .d (.int n), .d (.int _), q4 =>
          dsimp only at q4
          split at q4
          · rename_i hr
            unfold repOk at hr
            simp only [Bool.and_eq_true, decide_eq_true_eq] at hr
            have d4 : DaAll C.K B4 us ds := (d2.mono k.bb).mono g4.bb
            refine .inr ⟨p, n, us, rfl, rfl, w4.sub _ _ (g4.bb _ _ upd_same), by omega, by omega, by rw [d4.len, sizeLine_eq]; omega, fun l hl2 => ?_⟩
            have k5 := Gr.add w4.sub hl2 (.lst (List.replicate n.toNat us).flatten)
            exact q4 _ _ _ _ (.of w4 k5) (w4.gr k5) (.d (.lst (.of upd_same) ((daAll_rep d4 _).mono k5.bb)))
          · exact q4.elim
      · exact q1.elim
    · exact q1.elim
def repM (a : SL) (b : SE) : SE where
  ev := fun ρ h => (a.ev ρ h).bind fun xs h1 => match frzL h1 xs with
    | some (ds, h2) => if ds.length ≤ 1000000 then (b.ev ρ h2).bind fun y h3 => match y with
        | .d (.int k) => if repOk ds.length k = true then .ok (.r h3.length) (h3 ++ [.lst ((List.replicate k.toNat ds).flatten.map .d)]) else .no
        | _ => .no
      else .no
    | none => .no
  t := fun C md => tOp rMulA (tLst (a.t C md)) (b.t C md)
  ok := fun C md ρ h σ B H m Q e w q => by
    refine a.ok C md ρ h σ B H m _ e w (Po.chain w q fun xs h1 us B1 H1 m1 ea g1 w1 r1 q1 => ?_)
    split at q1
    · rename_i ds h2 ef
      obtain ⟨B2, g2, w2, d2⟩ := frzL_ok w1 ef r1
      split at q1
      · rename_i hl
        refine ⟨by rw [d2.len, sizeLine_eq]; omega, fun p hp => ?_⟩
        have k := Gr.add w2.sub hp (.lst us)
        have g3 : Gm m B H (upd B2 p (.lst us)) (upd H1 p (.lst us)) m1 := g1.trans w (g2.trans w1 (.of w2 k))
        have w3 := w2.gr k
        refine b.ok C md ρ h2 σ _ _ m1 _ (e.gm g3) w3 (Po.chain w3 (Po.shift (g2.trans w1 (.of w2 k)) w1 q1) fun y h3 v B4 H4 m4 eb g4 w4 r4 q4 => ?_)
        match y, r4, q4 with
        | .d (.int n), .d (.int _), q4 =>
          dsimp only at q4
          split at q4
          · rename_i hr
            unfold repOk at hr
            simp only [Bool.and_eq_true, decide_eq_true_eq] at hr
            have d4 : DaAll C.K B4 us ds := (d2.mono k.bb).mono g4.bb
            refine .inr ⟨p, n, us, rfl, rfl, w4.sub _ _ (g4.bb _ _ upd_same), by omega, by omega, by rw [d4.len, sizeLine_eq]; omega, fun l hl2 => ?_⟩
            obtain ⟨k5, w5⟩ := gm_new w4 hl2 (VRs.all (m := m4) (daAll_rep d4 n.toNat))
            exact q4 _ _ _ _ k5 w5 (.r (by rw [← w4.len]; exact one_last _ _))
          · exact q4.elim
      · exact q1.elim
    · exact q1.elim
/-- a global that is a tuple of texts, ints -/
def litV : PyData → Option V
  | .str x => some (.str x)
  | .int i => some (.int i)
  | .bool b => some (.bl b)
  | _ => none
theorem lit_da {K : PySem.W.Frag} {B : Hp} : ∀ {ds : List PyData} {vs : List V}, mapO litV ds = some vs → DaAll K B vs ds
  | [], _, e => by unfold mapO at e; cases e; exact .nil
  | d :: ds, vs, e => by
    unfold mapO at e
    split at e
    · cases e
    · rename_i v ev
      split at e
      · cases e
      · rename_i ws ews
        cases e
        refine .cons ?_ (lit_da ews)
        unfold litV at ev
        split at ev
        · cases ev; exact .str _
        · cases ev; exact .int _
        · cases ev; exact .bl _
        · cases ev
def gtup (ds : List PyData) (vs : List V) (hv : mapO litV ds = some vs) : SE where
  ev := fun _ h => .ok (.d (.tuple ds)) h
  t := fun C _ => tGT C.K vs
  ok := fun C md ρ h σ B H m Q e w q a ha => q _ B H m (.refl w) w (.d (.tup (ha B) (lit_da hv)))
def dnew : SE where
  ev := fun _ h => .ok (.d (.dict [])) h
  t := fun _ _ => tDNewK
  ok := fun C md ρ h σ B H m Q e w q p hp => by
    have k := Gr.add w.sub hp (.dK [])
    exact q _ _ _ _ (.of w k) (w.gr k) (.d (.emp upd_same))
end SE
theorem daIn {K : PySem.W.Frag} {B : Hp} : ∀ ns : List Int, DaAll K B (ns.map V.int) (ns.map .int)
  | [] => .nil
  | n :: ns => .cons (.int n) (daIn ns)
/-! ### sorted(xs) of ints -/
theorem sort_ints_ok {K : PySem.W.Frag} {xs : List PyData} {z : PyData} (e : sortD xs = some z) : Fn K (rSortedI K) xs z := by
  unfold sortD at e
  split at e
  · simp only [Option.map_eq_some_iff] at e
    obtain ⟨ns, e1, rfl⟩ := e
    rw [intsOf_ok e1]
    intro B H s us hu Q q
    obtain ⟨u, rfl, h⟩ := da1 hu
    cases h with
    | lst h a =>
      obtain rfl := daInts a
      refine ⟨_, ns, rfl, same_l s h, fun ms p pm pw hp => ?_⟩
      rw [sortI_of pm pw]
      have k := Gr.add s hp (.lst ((sortI ns).map V.int))
      exact q _ _ _ k (.lst (.of upd_same) (daIn _))
  · cases e
def bSorted : ON := ⟨sortD, rSortedI, fun _ _ _ => sort_ints_ok⟩
theorem sortX {X : Cx} (K : PySem.W.Frag) {k : Nat} (hr : Room k X.A) (h : X.K = K := by rfl) : CallR X (.builtin "sorted") (rSortedI K) := h ▸ cr_sortedI
/-! ### len(set(xs)) of ints -/
def lenSetD : PyData → Option PyData
  | .list xs => match intsOf xs with
    | some ns => if ns.length ≤ 4000 then some (.int ((disL ns).length : Nat)) else none
    | none => none
  | _ => none
def rLenSet (K : PySem.W.Frag) : V → Hp → VK → Prop := fun x H Q => ∃ (p : Addr) (ns : List Int), x = .ref p ∧ SqL K H p (ns.map V.int) ∧ ns.length ≤ 4000 ∧ Q (.int ((disL ns).length : Nat)) H
theorem lenSet_ok (K : PySem.W.Frag) (x z : PyData) (e : lenSetD x = some z) : Fn K (fun us H Q => ∃ u, us = [u] ∧ rLenSet K u H Q) [x] z := by
  unfold lenSetD at e
  split at e
  · split at e
    · rename_i ns e1
      split at e
      · rename_i hl
        cases e
        rw [intsOf_ok e1]
        intro B H s us hu Q q
        obtain ⟨u, rfl, h⟩ := da1 hu
        cases h with
        | lst h a =>
          obtain rfl := daInts a
          exact ⟨_, rfl, _, ns, rfl, same_l s h, hl, q _ B H (.refl s) (.int _)⟩
      · cases e
    · cases e
  · cases e
def oLenSet : O1 := ⟨lenSetD, rLenSet, lenSet_ok⟩
def SE.lenSet (a : SE) : SE := SE.un oLenSet a
theorem lenSetX {X : Cx} (K : PySem.W.Frag) {a : Expr} {ta : TE} {p p2 q pos : Pos} (hg : Gl X "len") (hm : X.mg "len" = none) (hg2 : Gl X "set") (hm2 : X.mg "set" = none) (ha : PE X a ta) (h : X.K = K := by rfl) (calm : X.calm = true := by rfl)
    (one : starEach [a] X.env = (false, eval a X.env) :: starEach [] X.env := by rfl) : PE X (.Call (.Name "len" p) [.Call (.Name "set" p2) [a] [] q] [] pos) (tUn (rLenSet K) ta) := by
  subst h
  exact pe_lenSetA hg hm hg2 hm2 ha calm one
/-! ### xs.index(x) -/
def idxD : List PyData → PyData → Option Nat
  | [], _ => none
  | y :: ys, x => if PyData.eqv y x = true then some 0 else (idxD ys x).map (· + 1)
theorem idxD_ok : ∀ {ys : List PyData} {x : PyData} {j : Nat}, idxD ys x = some j → (∃ z, ys[j]? = some z ∧ PyData.eqv z x = true) ∧ ∀ (m : Nat) (z : PyData), m < j → ys[m]? = some z → PyData.eqv z x = false
  | [], _, _, e => by cases e
  | y :: ys, x, j, e => by
    unfold idxD at e
    split at e
    · rename_i h
      cases e
      exact ⟨⟨y, rfl, h⟩, fun m z hm => absurd hm (by omega)⟩
    · rename_i h
      simp only [Option.map_eq_some_iff] at e
      obtain ⟨i, ei, rfl⟩ := e
      obtain ⟨⟨z, h1, h2⟩, h3⟩ := idxD_ok ei
      refine ⟨⟨z, h1, h2⟩, fun m w hm hw => ?_⟩
      cases m with
      | zero =>
        cases hw
        simpa using h
      | succ m => exact h3 m w (by omega) hw
def indexD : PyData → PyData → Option PyData
  | .list ys, x => if (SeqAt.shaped (.list ys) && SeqAt.shaped x) = true then (idxD ys x).map fun j => .int (j : Nat) else none
  | _, _ => none
def rIx (K : PySem.W.Frag) : R2 := fun u v H Q => rIndexD K u [v] H Q
theorem index_ok {K : PySem.W.Frag} {x y z : PyData} (e : indexD x y = some z) : Op2 K (rIx K) x y z := by
  unfold indexD at e
  split at e
  · split at e
    · rename_i hs
      simp only [Bool.and_eq_true] at hs
      simp only [Option.map_eq_some_iff] at e
      obtain ⟨j, ej, rfl⟩ := e
      obtain ⟨⟨w, h1, h2⟩, h3⟩ := idxD_ok ej
      intro B H s u v hu hv Q q
      have d1 := (hu.mono s).dp _ (nd_shaped hs.1)
      have d2 := (hv.mono s).dp _ (nd_shaped hs.2)
      cases hu with
      | lst h a => exact ⟨_, v, y, _, j, w, rfl, rfl, d1, d2, hs.1, hs.2, h1, h2, h3, q _ B H (.refl s) (.int _)⟩
    · cases e
  · cases e
def oIndex : O2 := ⟨indexD, rIx, fun _ _ _ _ => index_ok⟩
def isL (h : Hd) : Vd → Bool
  | .d (.list _) => true
  | .r n => match h[n]? with
    | some (.lst _) => true
    | _ => false
  | _ => false
theorem isL_ty {K : PySem.W.Frag} {B H : Hp} {m : List Addr} {h : Hd} {x : Vd} {v : V} (e : isL h x = true) (w : WOk K B H m h) (r : VR K B m x v) : tyV K "list" v H := by
  cases r with
  | d dv =>
    cases dv with
    | lst hq a => exact .inl ⟨rfl, _, same_l w.sub hq⟩
    | _ => simp [isL] at e
  | @r n a p =>
    change (match h[n]? with | some (Ent.lst _) => true | _ => false) = true at e
    cases c : h[n]? with
    | none => rw [c] at e; cases e
    | some o =>
      rw [c] at e
      cases o with
      | lst xs =>
        obtain ⟨_, vs, hv, _⟩ := own_at w p c
        exact .inl ⟨rfl, _, .of hv⟩
      | frz d => cases e
def SE.index (o a : SE) : SE where
  ev := fun ρ h => (o.ev ρ h).bind fun x h1 => if isL h1 x = true then (a.ev ρ h1).bind fun y h2 => fnV (f2 indexD) [x, y] h2 else .no
  t := fun C md => tBM C.K "list" (rIndexD C.K) (o.t C md) (tCons (a.t C md) tNil)
  ok := fun C md ρ h σ B H m Q e w q => by
    refine o.ok C md ρ h σ B H m _ e w (Po.chain w q fun x h1 u B1 H1 m1 ea g1 w1 r1 q1 => ?_)
    split at q1
    · rename_i hl
      refine ⟨isL_ty hl w1 r1, ?_⟩
      refine a.ok C md ρ h1 σ B1 H1 m1 _ (e.gm g1) w1 (Po.chain w1 q1 fun y h2 v B2 H2 m2 eb g2 w2 r2 q2 => ?_)
      obtain ⟨u', v', e', z⟩ := fnV_ok (oIndex.fn C.K) w2 (.cons (r1.gm g2) (.cons r2 .nil)) q2
      cases e'
      exact z
    · exact q1.elim
theorem indexX {X : Cx} (K : PySem.W.Frag) {k : Nat} (hr : Room k X.A) (h : X.K = K := by rfl) : MtR X "list.index" (rIndexD K) := h ▸ mt_indexD (by have := hr.un; omega)
theorem bmK {X : Cx} (K : PySem.W.Frag) {o e : Expr} {es : List Expr} {to : TE} {t : TA} {name : Str} {apos cpos : Pos} {T id : String} {r : V → List V → Hp → VK → Prop} (pa : PlainAttrs T) (slot : Slot T name id) (hty : typeOf (.builtin id) = pure (.type "method_descriptor")) (hm : MtR X id r) (ho : PE X o to) (ha : PA X (e :: es) t) (h : X.K = K := by rfl)
    (hbase : attributeBase o name X.env (eval o X.env) = eval o X.env := by rfl)
    (hfew : ((backTo cpos (starEach (e :: es) X.env)).all (fun x => !x.1) && (backToKw cpos (keywordEach [] X.env)).all (fun x => x.1.isSome)
      && decide ((e :: es).length + ([] : List Keyword).length + (if ([] : List Keyword).isEmpty then 0 else 1) < 30)) = true := by rfl)
    (hline : (apos.endLine == cpos.line) = true := by rfl) (hs : starEach (e :: es) X.env = (false, eval e X.env) :: starEach es X.env := by rfl) (hplain : (backTo cpos (starEach es X.env)).any (·.1) = false := by rfl) :
    PE X (.Call (.Attribute o name apos) (e :: es) [] cpos) (tBM K T r to t) := h ▸ pe_bm pa slot hty hm ho ha hbase hfew hline hs hplain
end N
end
section
set_option maxRecDepth 100000
set_option maxHeartbeats 2000000
/-! ends -/
namespace N
open PySem PySem.Spec PyProof.Rows L2 G
theorem permL_vals {vs : List V} {us : List Value} (r : Vals vs us) : ∀ is : List Nat, Vals (permL is vs) (permL is us)
  | [] => .nil
  | i :: is => by
    unfold permL
    rw [List.filterMap_cons, List.filterMap_cons]
    cases c : vs[i]? with
    | some x =>
      obtain ⟨v, e1, e2⟩ := r.get c
      rw [e1]
      exact .cons e2 (permL_vals r is)
    | none =>
      rw [r.none_of c]
      exact permL_vals r is
theorem kwgI_rel (is : List Nat) {vs : List V} {us : List Value} {zs : List V} {ws : List Value} (r : Vals vs us) (q : Vals zs ws) : Vals (kwgI is vs zs) (kwgI is us ws) := by
  cases r with
  | nil =>
    rw [kwgI_nil, kwgI_nil, q.length]
    split
    · exact permL_vals q is
    · exact .nil
  | cons _ _ => exact .nil
theorem only_same {H : Hp} : Same (fun _ => none) H := fun a o e => nomatch e
/-- the law's own def, called with the script -/
theorem law_sp {C : Ctx} {F : FSem} {H : Hp} {a : Addr} {ns : List Int} (hS : SqL C.K H a (ns.map V.int)) (good : FD F [.list (ns.map .int)] = some (.bool true)) : spN C false F [.ref a] H (fun v _ => v = .bl true) fun _ _ _ => False :=
  fd_fn good H H (Same.refl _) [.ref a] (.cons (.lst hS (daIn ns)) .nil) _ fun v B' H' g d => by cases d; rfl
theorem Cal.void0 {P : Program} {w : World} {C : Ctx} {mg : Str → Option Value} {base : Heap} {x : Str} {st : Stmt} {ps : List Str} (h : Has C.K mg x st ps) : Cal P w C.K mg base 0 x ps (spN C false fun _ _ => .no) := by
  obtain ⟨f, fd, F, hm, bd⟩ := h
  exact ⟨f, fd, hm, kq_of F, bd, ⟨fun vs H Q E ⟨_, _, _, _, _, _, q⟩ => q.elim, fun A outer s H args us vs Q E _ _ _ _ _ ⟨_, _, _, _, _, _, q⟩ => q.elim⟩⟩
theorem has_m {P : Program} {w : World} {C : Ctx} {mg : Str → Option Value} {base : Heap} {x : Str} {st : Stmt} {N ps : List Str} {k : Nat} {body : SS} (h : Has C.K mg x st ps) (S : FnScope N ps (defScope st))
    (hb : ∀ (f : Addr) (cdv : Value) (A : Around) (outer : List Env) (s : Shared) (H : Hp) (E : XK), A.guards = some [] → Room k (A.deeper (envOfC x (defScope st) s.heap.objs.size f cdv)) →
      ∃ t, PSs (bodyCx CX0 P w C.K mg base N x st f cdv A outer s H E).nox (defBody st) t ∧ t = body.t C none) : Cal P w C.K mg base (k + 1) x ps (spN C false (runDef body N.length ps.length)) :=
  has_n h S fun f cdv A outer s H E hg hr => by
    obtain ⟨t, ht, e⟩ := hb f cdv A outer s H E hg hr
    rw [← e]
    exact ht
end N
end
section
set_option maxRecDepth 100000
set_option maxHeartbeats 2000000
/-! xs[:p:-1] -/
namespace G
open PySem PySem.Spec PyProof.Rows L2
theorem pick_to (items : Array Value) (i : Nat) (h : i < items.size) : slicePick items none (some (i : Int)) (some (-1)) = (items.toList.drop (i + 1)).reverse.toArray := by
  unfold slicePick
  have e1 : sliceBounds none (some (i : Int)) (some (-1)) items.size = ((items.size : Int) - 1, (i : Int), -1) := by
    unfold sliceBounds
    simp
    omega
  rw [e1]
  refine congrArg List.toArray ?_
  have e2 : sliceRange ((items.size : Int) - 1) (i : Int) (-1) = (List.range (items.size - 1 - i)).map fun k => items.size - 1 - k := by
    unfold sliceRange
    have h1 : ¬ ((-1 : Int) > 0) := by decide
    by_cases c : (items.size : Int) - 1 > (i : Int)
    · have e : (((items.size : Int) - 1 - (i : Int) - -1 - 1) / (- -1)).toNat = items.size - 1 - i := by
        rw [show (- -1 : Int) = 1 by decide, Int.ediv_one]
        omega
      simp only [h1, if_false, c, if_true, e]
      apply List.map_congr_left
      intro k hk
      have := List.mem_range.mp hk
      omega
    · have e : items.size - 1 - i = 0 := by omega
      simp [h1, c, e]
  show (sliceRange ((items.size : Int) - 1) (i : Int) (-1)).filterMap (items[·]?) = _
  rw [e2, List.filterMap_map, fm_map (g := fun k => items.getD (items.size - 1 - k) default)]
  · apply List.ext_getElem?
    intro j
    rw [List.getElem?_map]
    by_cases hj : j < items.size - 1 - i
    · rw [List.getElem?_range hj, List.getElem?_reverse (by rw [List.length_drop, Array.length_toList]; omega), List.getElem?_drop, List.length_drop, Array.length_toList]
      have lt : items.size - 1 - j < items.size := by omega
      rw [show i + 1 + (items.size - (i + 1) - 1 - j) = items.size - 1 - j by omega, Array.getElem?_toList, Array.getElem?_eq_getElem lt]
      simp [Array.getD, lt]
    · rw [List.getElem?_eq_none (by rw [List.length_range]; omega), List.getElem?_eq_none (by rw [List.length_reverse, List.length_drop, Array.length_toList]; omega)]
      rfl
  · intro k hk
    have := List.mem_range.mp hk
    have lt : items.size - 1 - k < items.size := by omega
    show items[items.size - 1 - k]? = _
    rw [Array.getElem?_eq_getElem lt]
    simp [Array.getD, lt]
def tRevTo (K : PySem.W.Frag) (te : TE) (to : TO) : TE := fun σ H Q => te σ H fun x H1 => to σ H1 fun o H2 => ∃ a xs, ∃ i : Nat, x = .ref a ∧ o = some (i : Int) ∧ SqL K H2 a xs ∧ i < xs.length ∧ ∀ p, H2 p = none → Q (.ref p) (upd H2 p (.lst (xs.drop (i + 1)).reverse))
theorem pe_revTo {X : Cx} {e : Expr} {hi : Option Expr} {te : TE} {to : TO} {k : Nat} {p1 p2 p3 pos : Pos} (he : PE X e te) (ho : PO X hi to) : PE X (.Subscript e (.Slice none hi (some (.UnaryOp .USub (.Constant (.int 1) k p1) p2)) p3) pos) (tRevTo X.K te to) := by
  refine ⟨fun pins s σ H Q I h => ?_⟩
  refine Subscript_ (thn (he.run pins s σ H _ I h) fun v s1 ⟨x, H1, I1, r1, q1⟩ => ?_)
  have hst : PO X (some (.UnaryOp .USub (.Constant (.int 1) k p1) p2)) (tPart (tUn (rU fun i => .int (-i)) (tC (.int 1)))) := po_some (pe_un un_neg pe_int)
  refine wpAny_Slice (thn (po_none.run pins s1 σ H1 (fun o H2 => o = none ∧ H2 = H1) I1 ⟨rfl, rfl⟩) fun vl s2 ⟨l, H2, I2, pl, el, e2⟩ => ?_)
  subst el e2
  refine thn (ho.run pins s2 σ H2 _ I2 q1) fun vu s3 ⟨u, H3, I3, pu, q3⟩ => ?_
  obtain ⟨a, xs, i, ex, eo, hx, hi2, q⟩ := q3
  subst ex eo
  cases r1
  refine thn (hst.run pins s3 σ H3 (fun o H4 => o = some (-1) ∧ H4 = H3) I3 ⟨1, rfl, -1, rfl, rfl, rfl⟩) fun vs s4 ⟨o, H4, I4, ps, eo, e4⟩ => ?_
  subst eo e4
  have I5 : Inv X pins σ H4 { s4 with heap := s4.heap.push { cls := .type "slice", data := .fields #[vl, vu, vs] } } := I4.kept (t' := s4.toks) fun b ob q => Heap.get?_push_of_some _ q
  obtain ⟨its, r, ht, hz⟩ := I5.list hx
  have hlen := r.length
  show wpAny (model X.prog X.w) X.A (subscriptTail e (.Slice none hi (some (.UnaryOp .USub (.Constant (.int 1) k p1) p2)) p3) (.ref a) (.ref s4.heap.objs.size)) (EP X pins σ Q) X.xe { s4 with heap := s4.heap.push { cls := .type "slice", data := .fields #[vl, vu, vs] } }
  refine tail_any (ops := [.ref a, .ref s4.heap.objs.size]) ht.isList.typeIs (PySem.slot_list_getitem.lookup) ?_ (by with_unfolding_all rfl)
  refine wpAny_getItem_list_slice ht.isList (Heap.IsSliceOf.new _ vl vu vs) pl pu ps (by decide) ?_ (by rw [List.size_toArray]; omega)
  rw [pick_to _ _ (by rw [List.size_toArray]; omega)]
  refine ⟨.ref _, _, I5.laid (t' := s4.toks) (o := .lst (xs.drop (i + 1)).reverse) (fun b ob q => Heap.get?_push_of_some _ q) (Nat.le_refl _) ?_, rfl, q _ (I5.hok.fresh (Nat.le_refl _))⟩
  exact ⟨by rw [List.length_reverse, List.length_drop]; omega, _, 0, (Vals.drop (i + 1) r).reverse, Heap.get?_push_size _ rfl⟩
end G
namespace N
open PySem PySem.Spec PyProof.Rows L2 G
theorem revToX {X : Cx} {K : PySem.W.Frag} {e : Expr} {hi : Option Expr} {te : TE} {to : TO} {k : Nat} {p1 p2 p3 pos : Pos} (he : PE X e te) (ho : PO X hi to) (h : X.K = K := by rfl) : PE X (.Subscript e (.Slice none hi (some (.UnaryOp .USub (.Constant (.int 1) k p1) p2)) p3) pos) (tRevTo K te to) := by
  subst h
  exact pe_revTo he ho
namespace SE
def revTo (a : SE) (hi : SO) : SE where
  ev := fun ρ h => (a.ev ρ h).bind fun x h1 => (hi.ev ρ h1).bind fun u h2 => match u with
    | some i => if 0 ≤ i then (match itemsD h2 x with
      | some ds => if i.toNat < ds.length then .ok (.d (.list (ds.drop (i.toNat + 1)).reverse)) h2 else .no
      | Option.none => .no) else .no
    | Option.none => .no
  t := fun C md => tRevTo C.K (a.t C md) (hi.t C md)
  ok := fun C md ρ h σ B H m Q e w q => by
    refine a.ok C md ρ h σ B H m _ e w (Po.chain w q fun x h1 v B1 H1 m1 ea g1 w1 r1 q1 => ?_)
    refine hi.ok C md ρ h1 σ B1 H1 m1 _ (e.gm g1) w1 (Po.chain w1 q1 fun u h2 u' B2 H2 m2 el g2 w2 r2 q2 => ?_)
    cases r2
    have r1' := VR.gm r1 g2
    split at q2
    · rename_i i
      split at q2
      · rename_i h0
        split at q2
        · rename_i ds ei
          split at q2
          · rename_i hl
            obtain ⟨a, vs, rfl, hv, a1⟩ := itemsD_ok w2 ei r1'
            refine ⟨a, vs, i.toNat, rfl, by rw [Int.toNat_of_nonneg h0], hv, by rw [a1.len]; exact hl, fun p hp => ?_⟩
            have k := Gr.add w2.sub hp (.lst (vs.drop (i.toNat + 1)).reverse)
            exact q2 _ _ _ _ (.of w2 k) (w2.gr k) (.d (.lst (.of upd_same) ((DaAll.drop _ a1).rev.mono k.bb)))
          · exact q2.elim
        · exact q2.elim
      · exact q2.elim
    · exact q2.elim
end SE
namespace SG
def lst (ts : SGs) : SG where
  run := fun x ρ h => match x with
    | .d (.list ds) => if ds.length = ts.n then ts.run ds ρ h else .no
    | _ => .no
  t := fun C md => gLst C.K ts.n (ts.t C md)
  ok := fun C md ρ h σ B H m x v D e w r q => by
    split at q
    · rename_i ds
      split at q
      · rename_i hl
        cases r with
        | d r =>
          cases r with
          | lst h1 a => exact ⟨_, _, rfl, same_l w.sub h1, by rw [a.len]; exact hl, ts.ok C md ρ h σ B H m ds _ D e w a q hl⟩
      · exact q.elim
    · exact q.elim
end SG
namespace SE
/-- x * n, x an own list -/
def repO (a b : SE) : SE where
  ev := fun ρ h => (a.ev ρ h).bind fun x h1 => (b.ev ρ h1).bind fun y h2 => match ownL h2 x, y with
    | some (_, xs), .d (.int k) => match datas xs with
      | some ds => if (decide (ds.length ≤ 1000000) && repOk ds.length k) = true then .ok (.d (.list (List.replicate k.toNat ds).flatten)) h2 else .no
      | Option.none => .no
    | _, _ => .no
  t := fun C md => tOp rMulA (a.t C md) (b.t C md)
  ok := fun C md ρ h σ B H m Q e w q => by
    refine a.ok C md ρ h σ B H m _ e w (Po.chain w q fun x h1 u B1 H1 m1 ea g1 w1 r1 q1 => ?_)
    refine b.ok C md ρ h1 σ B1 H1 m1 _ (e.gm g1) w1 (Po.chain w1 q1 fun y h2 v B2 H2 m2 eb g2 w2 r2 q2 => ?_)
    split at q2
    · rename_i n xs k eo
      obtain ⟨rfl, eo'⟩ := ownL_ok eo
      split at q2
      · rename_i ds ed
        split at q2
        · rename_i hr
          cases r1 with
          | r p1 =>
            cases r2 with
            | d r2 =>
              cases r2
              have p2 := gm_at g2 p1
              obtain ⟨nB, vs, hv, rs⟩ := own_at w2 p2 eo'
              rw [datas_ok ed] at rs
              have da := rs.data
              unfold repOk at hr
              simp only [Bool.and_eq_true, decide_eq_true_eq] at hr
              refine .inr ⟨_, k, vs, rfl, rfl, hv, by omega, by omega, by rw [da.len, sizeLine_eq]; omega, fun l hl2 => ?_⟩
              have k5 := Gr.add w2.sub hl2 (.lst (List.replicate k.toNat vs).flatten)
              exact q2 _ _ _ _ (.of w2 k5) (w2.gr k5) (.d (.lst (.of upd_same) ((daAll_rep da _).mono k5.bb)))
        · exact q2.elim
      · exact q2.elim
    · exact q2.elim
end SE
namespace SE
/-- x.extend(y), both own lists -/
def extend (o a : SE) : SE where
  ev := fun ρ h => (o.ev ρ h).bind fun x h1 => match ownL h1 x with
    | some _ => (a.ev ρ h1).bind fun y h2 => match ownL h2 x, ownL h2 y with
      | some (n, xs), some (_, zs) => if xs.length + zs.length ≤ 1000000 then .ok (.d .none) (h2.set n (.lst (xs ++ zs))) else .no
      | _, _ => .no
    | none => .no
  t := fun C md => tBM C.K "list" rExtend (o.t C md) (tCons (a.t C md) tNil)
  ok := fun C md ρ h σ B H m Q e w q => by
    refine o.ok C md ρ h σ B H m _ e w (Po.chain w q fun x h1 u B1 H1 m1 ea g1 w1 r1 q1 => ?_)
    split at q1
    · rename_i nx0 e0
      obtain ⟨rfl, e0'⟩ := ownL_ok e0
      cases r1 with
      | r p1 =>
        obtain ⟨_, vs0, hv0, _⟩ := own_at w1 p1 e0'
        refine ⟨.inl ⟨rfl, _, .of hv0⟩, ?_⟩
        refine a.ok C md ρ h1 σ B1 H1 m1 _ (e.gm g1) w1 (Po.chain w1 q1 fun y h2 v B2 H2 m2 eb g2 w2 r2 q2 => ?_)
        split at q2
        · rename_i n xs k zs e2 e3
          obtain ⟨en, e2'⟩ := ownL_ok e2
          obtain ⟨em, e3'⟩ := ownL_ok e3
          cases en
          subst em
          split at q2
          · rename_i hl
            cases r2 with
            | r pk =>
              have p2 := gm_at g2 p1
              obtain ⟨nB, vs, hv, rs⟩ := own_at w2 p2 e2'
              obtain ⟨nB3, vs3, hv3, rs3⟩ := own_at w2 pk e3'
              refine ⟨_, _, vs, vs3, rfl, rfl, hv, hv3, by rw [rs.len, rs3.len, sizeLine_eq]; omega, ?_⟩
              obtain ⟨k, w3⟩ := wok_put w2 p2 nB (rs.app rs3)
              exact q2 _ _ _ _ k w3 (.d .non)
          · exact q2.elim
        · exact q2.elim
    · exact q1.elim
end SE
theorem pg_cal0 {X : Cx} {j k : Nat} {x : Str} {ps : List Str} {q : Sp} {p pos : Pos} (hg : X.A.guards = some []) (c : Cal X.prog X.w X.K X.mg X.base j x ps q) (hr : Room k X.A) (hgl : Gl X x) (hj : j ≤ k := by decide)
    (hdb : (x == ("__debug__" : Str)) = false := by decide) : PE X (.Call (.Name x p) [] [] pos) (tCall q [] E0 tNil) := by
  obtain ⟨f, fd, hm, hk, hb, F⟩ := c.ex
  exact pg_call0 hg F (hr.mono hj) hgl hm hk.1 hb .nil pass0 hdb
end N
end
section
set_option maxRecDepth 100000
set_option maxHeartbeats 4000000
/-! comprehensions of two clauses -/
namespace N
open PySem PySem.Spec PyProof.Rows L2 G
theorem w_it {J : It} {n : Nat} {G : Hp → Prop} {Y : Nat → Hp → V → Hp → Prop} (w : Walk J n G Y) {Step : V → Hp → (Hp → Prop) → Prop} {H0 : Hp} {Qd : Hp → Prop} (Pv : Nat → Hp → Prop) (h0 : Pv 0 H0) (hG : ∀ i H, i ≤ n → Pv i H → G H)
    (hs : ∀ i x H H', i < n → Pv i H → Y i H x H' → Step x H' (Pv (i + 1))) (hd : ∀ H, Pv n H → Qd H) :
    ∃ W : Nat → Nat → Hp → Prop, (∃ m, W 0 m H0) ∧ ∀ i m H, W i m H →
      (J.stop i H ∧ Qd H) ∨ (J.go i H ∧ ∃ Nx : Hp → Prop, (∀ H', Nx H' → ∃ m', m' < m ∧ W (i + 1) m' H') ∧ ∀ x H', J.yld i H x H' → Step x H' Nx) := by
  refine ⟨fun i m H => m = n - i ∧ i ≤ n ∧ Pv i H, ⟨n, by simp, Nat.zero_le _, h0⟩, ?_⟩
  rintro i m H ⟨rfl, hi, p⟩
  have q := hG i H hi p
  by_cases hlt : i < n
  · exact .inr ⟨w.goes i H hlt q, Pv (i + 1), fun H' p' => ⟨n - (i + 1), by omega, rfl, hlt, p'⟩, fun x H' y => hs i x H H' hlt p (w.yields i H x H' hlt q y)⟩
  · have e : i = n := by omega
    subst e
    exact .inl ⟨w.stops H q, hd H p⟩
def lcR2 (put : Vd → Rh → Option Rh) (c : Rh → Hd → Oc Bool) (it1 : Rh → Hd → Oc (List PyData)) (put1 : Vd → Rh → Option Rh) (vs1 : List Nat) (c1 : Rh → Hd → Oc Bool) (g : Rh → Hd → Oc Vd) (ρ : Rh) : List PyData → List Vd → Hd → Oc (List Vd)
  | [], out, h => .ok out h
  | x :: xs, out, h => match put (.d x) ρ with
    | none => .no
    | some ρ1 => match c ρ1 h with
      | .ok true h1 => match it1 ρ1 h1 with
        | .ok es1 h2 => if es1.length ≤ 1000000 then (match lcR put1 c1 g (wipeN ρ1 vs1) es1 out h2 with
            | .ok out1 h3 => if out1.length ≤ 1000000 then lcR2 put c it1 put1 vs1 c1 g ρ xs out1 h3 else .no
            | _ => .no) else .no
        | _ => .no
      | .ok false h1 => lcR2 put c it1 put1 vs1 c1 g ρ xs out h1
      | _ => .no
theorem lc2_go (it : SI) (tg : ST) (c : SB) (it1 : SI) (tg1 : ST) (c1 : SB) (g : SE) {C : Ctx} {md : Md} {ρ : Rh} {h : Hd} {σ : L2.St} {B H : Hp} {m : List Addr} {Q : VK} {es : List PyData} {h1 : Hd} {out : List Vd} {h2 : Hd}
    (vs : List Nat) (hv : ∀ ρ' : Rh, True)
    (e : EnvN C.K B m σ ρ) (w : WOk C.K B H m h) (ei : it.ev ρ h = .ok es h1) (hz : es.length ≤ 1000000) (el : lcR2 tg.put c.ev it1.ev tg1.put tg1.vs c1.ev g.ev (wipeN ρ vs) es [] h1 = .ok out h2)
    (agv : ∀ σ σ' : L2.St, Ag tg.vs σ σ' → Ag vs σ σ')
    (q : ∀ D B2 H2 m2 xs, Gm m B H B2 H2 m2 → WOk C.K B2 H2 m2 h2 → H D = none → B2 D = none → D ∉ m2 → H2 D = some (.lst xs) → VRs C.K B2 m2 out xs → Q (.ref D) H2) :
    tLc2 (it.t C md) (tg.t C) (c.t C none) (it1.t C none) (tg1.t C) (c1.t C none) (g.t C none) vs tg1.vs σ H Q := by
  refine it.ok C md ρ h σ B H m _ e w ?_
  rw [ei]
  intro J B1 H1 m1 g1 w1 gj D hD
  have hD0 : H D = none := by
    cases x : H D with
    | none => rfl
    | some u => exact absurd hD (g1.kp D (by rw [x]; simp))
  refine w_it gj (fun i H' => ∃ B' m' h' ys xs, Gm m1 B1 H1 B' H' m' ∧ WOk C.K B' H' m' h' ∧ B' D = none ∧ D ∉ m' ∧ H' D = some (.lst xs) ∧ VRs C.K B' m' ys xs ∧ ys.length ≤ 1000000 ∧ lcR2 tg.put c.ev it1.ev tg1.put tg1.vs c1.ev g.ev (wipeN ρ vs) (es.drop i) ys h' = .ok out h2) ?_ (fun i H' _ ⟨B', m', h', ys, xs, g2, w2, _⟩ => g2.bb.trans w2.sub) ?_ ?_
  · have nm : D ∉ m1 := fun z => w1.tracked z hD
    have k := Gr.side w1.sub hD (.lst [])
    exact ⟨B1, m1, h1, [], [], .of w1 k, w1.gr k, w1.sub.free hD, nm, upd_same, .nil, Nat.zero_le _, el⟩
  · rintro i x H' H2' hi ⟨B', m', h', ys, xs, g2, w2, nB, nm, hH, rs, hl, el'⟩ y
    obtain ⟨B2, x', g3, hx', dx⟩ := y B' g2.bb w2.sub
    have ed : es.drop i = x' :: es.drop (i + 1) := by
      have li := (List.getElem?_eq_some_iff.mp hx')
      obtain ⟨l1, l2⟩ := li
      rw [List.drop_eq_getElem_cons l1, l2]
    rw [ed] at el'
    unfold lcR2 at el'
    have G3 : Gm m' B' H' B2 H2' m' := .of w2 g3
    have w3 := w2.gr g3
    have hHn : H' D ≠ none := by rw [hH]; simp
    have nB2 := gm_B G3 nm hHn nB
    have hH2 : H2' D = some (.lst xs) := g3.ex _ _ hH
    have hn2 : H2' D ≠ none := by rw [hH2]; simp
    split at el'
    · cases el'
    · rename_i ρ1 ep
      have e1 : EnvN C.K B2 m' (L2.wipe σ vs) (wipeN ρ vs) := (((e.gm g1).gm g2).gm G3).wiped vs
      refine tg.ok C (.d x') x _ _ ρ1 B2 H2' m' (.d dx) e1 w3.sub ep _ fun σ2 e2 ag => ⟨(agv _ _ ag).wipe, ?_⟩
      split at el'
      · rename_i ha ef
        refine c.ok C none ρ1 h' σ2 B2 H2' m' _ e2 w3 ?_
        rw [ef]
        intro b B3 H3 m3 g4 w4 rb
        obtain rfl : true = b := rb
        refine iteT ?_
        have nm3 := gm_out g4 nm hn2
        have nB3 := gm_B g4 nm hn2 nB2
        have hH3 : H3 D = some (.lst xs) := g4.ex _ _ nm hH2
        have hn3 : H3 D ≠ none := by rw [hH3]; simp
        split at el'
        · rename_i es1 hb ei1
          split at el'
          · rename_i hz1
            split at el'
            · rename_i out1 h3 er
              split at el'
              · rename_i ho
                refine it1.ok C none ρ1 ha σ2 B3 H3 m3 _ (e2.gm g4) w4 ?_
                rw [ei1]
                intro J1 B4 H4 m4 g5 w5 gj1
                have nm4 := gm_out g5 nm3 hn3
                have nB4 := gm_B g5 nm3 hn3 nB3
                have hH4 : H4 D = some (.lst xs) := g5.ex _ _ nm3 hH3
                have rs4 := ((rs.gm G3).gm g4).gm g5
                refine w_it gj1 (fun j H5 => ∃ B5 m5 h5 ys5 xs5, (Gm m1 B1 H1 B5 H5 m5 ∧ EnvN C.K B5 m5 σ2 ρ1 ∧ Same B4 B5) ∧ WOk C.K B5 H5 m5 h5 ∧ B5 D = none ∧ D ∉ m5 ∧ H5 D = some (.lst xs5) ∧ VRs C.K B5 m5 ys5 xs5 ∧ ys5.length ≤ 1000000 + j ∧ lcR tg1.put c1.ev g.ev (wipeN ρ1 tg1.vs) (es1.drop j) ys5 h5 = .ok out1 h3) ?_ (fun i H' _ ⟨B', m', h', ys, xs, g2, w2, _⟩ => g2.2.2.trans w2.sub) ?_ ?_
                · exact ⟨B4, m4, hb, ys, xs, ⟨g2.trans w1 (G3.trans w2 (g4.trans w3 g5)), (e2.gm g4).gm g5, .refl _⟩, w5, nB4, nm4, hH4, rs4, hl, er⟩
                · rintro j y5 H5 H6 hj ⟨B5, m5, h5, ys5, xs5, ⟨k2, en, sb⟩, u2, nB5, nm5, hH5, rs5, hl5, el5⟩ yy
                  obtain ⟨B6, y', k3, hy', dy⟩ := yy B5 sb u2.sub
                  have ed5 : es1.drop j = y' :: es1.drop (j + 1) := by
                    have li := (List.getElem?_eq_some_iff.mp hy')
                    obtain ⟨l1, l2⟩ := li
                    rw [List.drop_eq_getElem_cons l1, l2]
                  rw [ed5] at el5
                  unfold lcR at el5
                  have K3 : Gm m5 B5 H5 B6 H6 m5 := .of u2 k3
                  have u3 := u2.gr k3
                  have hHn5 : H5 D ≠ none := by rw [hH5]; simp
                  have nB6 := gm_B K3 nm5 hHn5 nB5
                  have hH6 : H6 D = some (.lst xs5) := k3.ex _ _ hH5
                  have hn6 : H6 D ≠ none := by rw [hH6]; simp
                  split at el5
                  · cases el5
                  · rename_i ρ5 ep5
                    have f1 : EnvN C.K B6 m5 (L2.wipe σ2 tg1.vs) (wipeN ρ1 tg1.vs) := (en.gm K3).wiped tg1.vs
                    refine tg1.ok C (.d y') y5 _ _ ρ5 B6 H6 m5 (.d dy) f1 u3.sub ep5 _ fun σ5 f2 ag5 => ⟨ag5.wipe, ?_⟩
                    split at el5
                    · rename_i hc5 ef5
                      refine c1.ok C none ρ5 h5 σ5 B6 H6 m5 _ f2 u3 ?_
                      rw [ef5]
                      intro b5 B7 H7 m7 k4 u4 rb5
                      obtain rfl : true = b5 := rb5
                      refine iteT ?_
                      split at el5
                      · rename_i z hd5 eg
                        refine g.ok C none ρ5 hc5 σ5 B7 H7 m7 _ (f2.gm k4) u4 ?_
                        rw [eg]
                        intro v B8 H8 m8 k5 u5 rv
                        have nm7 := gm_out k4 nm5 hn6
                        have nB7 := gm_B k4 nm5 hn6 nB6
                        have hH7 : H7 D = some (.lst xs5) := k4.ex _ _ nm5 hH6
                        have hn7 : H7 D ≠ none := by rw [hH7]; simp
                        have nm8 := gm_out k5 nm7 hn7
                        have nB8 := gm_B k5 nm7 hn7 nB7
                        have hH8 : H8 D = some (.lst xs5) := k5.ex _ _ nm7 hH7
                        have lx := rs5.len
                        have lj : j < 1000000 := by
                          have := (List.getElem?_eq_some_iff.mp hy').1
                          omega
                        have KK := K3.trans u2 (k4.trans u3 k5)
                        exact ⟨xs5, hH8, by rw [sizeLine_eq]; omega, B8, m8, hd5, ys5 ++ [z], xs5 ++ [v], ⟨gm_upd (k2.trans w1 KK) hD _, ((en.gm K3).gm k4).gm k5, sb.trans KK.bb⟩, wok_upd u5 nm8 nB8 _, nB8, nm8, upd_same, (((rs5.gm K3).gm k4).gm k5).app (.cons rv .nil), by rw [List.length_append]; simp; omega, el5⟩
                      · cases el5
                    · rename_i hc5 ef5
                      refine c1.ok C none ρ5 h5 σ5 B6 H6 m5 _ f2 u3 ?_
                      rw [ef5]
                      intro b5 B7 H7 m7 k4 u4 rb5
                      obtain rfl : false = b5 := rb5
                      refine iteF ?_
                      exact ⟨B7, m7, hc5, ys5, xs5, ⟨k2.trans w1 (K3.trans u2 k4), (en.gm K3).gm k4, sb.trans (K3.trans u2 k4).bb⟩, u4, gm_B k4 nm5 hn6 nB6, gm_out k4 nm5 hn6, k4.ex _ _ nm5 hH6, (rs5.gm K3).gm k4, by omega, el5⟩
                    · cases el5
                · rintro H5 ⟨B5, m5, h5, ys5, xs5, ⟨k2, _, _⟩, u2, nB5, nm5, hH5, rs5, _, el5⟩
                  rw [List.drop_length] at el5
                  unfold lcR at el5
                  cases el5
                  exact ⟨B5, m5, h3, out1, xs5, k2, u2, nB5, nm5, hH5, rs5, ho, el'⟩
              · cases el'
            · cases el'
          · cases el'
        · cases el'
      · rename_i ha ef
        refine c.ok C none ρ1 h' σ2 B2 H2' m' _ e2 w3 ?_
        rw [ef]
        intro b B3 H3 m3 g4 w4 rb
        obtain rfl : false = b := rb
        refine iteF ?_
        exact ⟨B3, m3, ha, ys, xs, g2.trans w1 (G3.trans w2 g4), w4, gm_B g4 nm hn2 nB2, gm_out g4 nm hn2, g4.ex _ _ nm hH2, (rs.gm G3).gm g4, hl, el'⟩
      · cases el'
  · rintro H' ⟨B', m', h', ys, xs, g2, w2, nB, nm, hH, rs, _, el'⟩
    rw [List.drop_length] at el'
    unfold lcR2 at el'
    cases el'
    exact q D B' H' m' xs (g1.trans w g2) w2 hD0 nB nm hH rs
theorem ag_mono {vs ws : List Nat} (h : ∀ i ∈ vs, i ∈ ws) {σ σ' : L2.St} (a : Ag vs σ σ') : Ag ws σ σ' := ⟨a.1, fun i hi => a.2 i fun z => hi (h i z)⟩
namespace SE
/-- [e for x in xs if c for y in ys if d], data -/
def lc2 (vs : List Nat) (it : SI) (tg : ST) (c : SB) (it1 : SI) (tg1 : ST) (c1 : SB) (g : SE) (hs : ∀ i ∈ tg.vs, i ∈ vs) : SE where
  ev := fun ρ h => (it.ev ρ h).bind fun es h1 => if es.length ≤ 1000000 then match lcR2 tg.put c.ev it1.ev tg1.put tg1.vs c1.ev g.ev (wipeN ρ vs) es [] h1 with
      | .ok out h2 => match frzL h2 out with
        | some (ds, h3) => .ok (.d (.list ds)) h3
        | none => .no
      | _ => .no
    else .no
  t := fun C md => tLc2 (it.t C md) (tg.t C) (c.t C none) (it1.t C none) (tg1.t C) (c1.t C none) (g.t C none) vs tg1.vs
  ok := fun C md ρ h σ B H m Q e w q => by
    cases ei : it.ev ρ h with
    | no => rw [ei] at q; exact q.elim
    | ex c' x h1 =>
      rw [ei] at q
      refine it.ok C md ρ h σ B H m _ e w ?_
      rw [ei]
      exact q
    | ok es h1 =>
      rw [ei] at q
      dsimp only [Oc.bind] at q
      split at q
      · rename_i hz
        split at q
        · rename_i out h2 el
          split at q
          · rename_i ds h3 ef
            refine lc2_go it tg c it1 tg1 c1 g vs (fun _ => trivial) e w ei hz el (fun _ _ a => ag_mono hs a) fun D B2 H2 m2 xs g2 w2 h0 nB nm hD rs => ?_
            obtain ⟨B3, g3, w3, d3⟩ := frzL_ok w2 ef rs
            have hn : H2 D ≠ none := by rw [hD]; simp
            obtain ⟨k, w4, d4⟩ := gm_let (g2.trans w g3) w3 h0 (gm_B g3 nm hn nB) nm hD d3
            exact q _ _ _ _ k w4 (.d d4)
          · exact q.elim
        · exact q.elim
      · exact q.elim
/-- .. a list that is written to -/
def lc2M (vs : List Nat) (it : SI) (tg : ST) (c : SB) (it1 : SI) (tg1 : ST) (c1 : SB) (g : SE) (hs : ∀ i ∈ tg.vs, i ∈ vs) : SE where
  ev := fun ρ h => (it.ev ρ h).bind fun es h1 => if es.length ≤ 1000000 then match lcR2 tg.put c.ev it1.ev tg1.put tg1.vs c1.ev g.ev (wipeN ρ vs) es [] h1 with
      | .ok out h2 => .ok (.r h2.length) (h2 ++ [.lst out])
      | _ => .no
    else .no
  t := fun C md => tLc2 (it.t C md) (tg.t C) (c.t C none) (it1.t C none) (tg1.t C) (c1.t C none) (g.t C none) vs tg1.vs
  ok := fun C md ρ h σ B H m Q e w q => by
    cases ei : it.ev ρ h with
    | no => rw [ei] at q; exact q.elim
    | ex c' x h1 =>
      rw [ei] at q
      refine it.ok C md ρ h σ B H m _ e w ?_
      rw [ei]
      exact q
    | ok es h1 =>
      rw [ei] at q
      dsimp only [Oc.bind] at q
      split at q
      · rename_i hz
        split at q
        · rename_i out h2 el
          refine lc2_go it tg c it1 tg1 c1 g vs (fun _ => trivial) e w ei hz el (fun _ _ a => ag_mono hs a) fun D B2 H2 m2 xs g2 w2 h0 nB nm hD rs => ?_
          obtain ⟨k, w4⟩ := gm_own g2 w2 h0 nB nm hD rs
          exact q _ _ _ _ k w4 (.r (by rw [← w2.len]; exact one_last _ _))
        · exact q.elim
      · exact q.elim
end SE
end N
end
section
set_option maxRecDepth 100000
set_option maxHeartbeats 2000000
/-! more of what expressions are worth -/
namespace N
open PySem PySem.Spec PyProof.Rows L2 G
namespace SE
/-- sorted(xs) of ints, a list that is written to -/
def sortedM (a : SE) : SE where
  ev := fun ρ h => (a.ev ρ h).bind fun x h1 => match itemsD h1 x with
    | some ds => match intsOf ds with
      | some ns => .ok (.r h1.length) (h1 ++ [.lst (((sortI ns).map .int).map .d)])
      | Option.none => .no
    | Option.none => .no
  t := fun C md => tCB (rSortedI C.K) (tCons (a.t C md) tNil)
  ok := fun C md ρ h σ B H m Q e w q => by
    refine a.ok C md ρ h σ B H m _ e w (Po.chain w q fun x h1 v B1 H1 m1 ea g1 w1 r1 q1 => ?_)
    split at q1
    · rename_i ds ei
      split at q1
      · rename_i ns en
        obtain ⟨b, vs, rfl, hv, da⟩ := itemsD_ok w1 ei r1
        rw [intsOf_ok en] at da
        obtain rfl := daInts da
        refine ⟨_, ns, rfl, hv, fun ms p pm pw hp => ?_⟩
        rw [sortI_of pm pw]
        obtain ⟨k, w2⟩ := gm_new w1 hp (VRs.all (m := m1) (daIn (K := C.K) (B := B1) (sortI ns)))
        exact q1 _ _ _ _ k w2 (.r (by rw [← w1.len]; exact one_last _ _))
      · exact q1.elim
    · exact q1.elim
end SE
end N
end
section
set_option maxRecDepth 100000
set_option maxHeartbeats 0
namespace D
open PySem PySem.Spec PyProof.Rows L2 G N
def S_is_whole_0 : SS := (SS.ret (SE.andV (SE.isi .int (SE.var 0)) (SE.notV (SE.isi .bool (SE.var 0)))))
def B_is_whole : SS := (S_is_whole_0)
def F_is_whole : FSem := runDef B_is_whole 1 1
def S_is_from_0 : SS := (SS.ret (SE.andV (SE.call F_is_whole (SL.cons (SE.var 0) SL.nil)) (SE.op oGe (SE.var 0) (SE.var 1))))
def B_is_from : SS := (S_is_from_0)
def F_is_from : FSem := runDef B_is_from 2 2
def S_is_below_0 : SS := (SS.ret (SE.andV (SE.call F_is_whole (SL.cons (SE.var 0) SL.nil)) (SE.chain oLe oLt (SE.int 0) (SE.var 0) (SE.var 1))))
def B_is_below : SS := (S_is_below_0)
def F_is_below : FSem := runDef B_is_below 2 2
def S_are_below_0 : SS := (SS.ret (SE.andV (SE.isi .list (SE.var 0)) (SE.cb bAll (SL.cons (SE.lc (SI.seq (SE.var 0)) (ST.name 2) SB.yes (SE.call F_is_below (SL.cons (SE.var 2) (SL.cons (SE.var 1) SL.nil)))) SL.nil))))
def B_are_below : SS := (S_are_below_0)
def F_are_below : FSem := runDef B_are_below 3 2
def S_is_each_once_0 : SS := (SS.ite (SB.or (SB.not (SB.val (SE.isi .list (SE.var 0)))) (SB.test (SE.op oNe (SE.cb bLen (SL.cons (SE.var 0) SL.nil)) (SE.var 1)))) (SS.ret (SE.bl false)) SS.nil)
def S_is_each_once_1 : SS := (SS.ret (SE.andV (SE.call F_are_below (SL.cons (SE.var 0) (SL.cons (SE.var 1) SL.nil))) (SE.op oEq (SE.lenSet (SE.var 0)) (SE.var 1))))
def B_is_each_once : SS := (SS.seq (S_is_each_once_0) (S_is_each_once_1))
def F_is_each_once : FSem := runDef B_is_each_once 2 2
def L_power_0 : SS := (SS.set 2 (SE.op oMul (SE.var 2) (SE.var 0)))
def S_power_0 : SS := (SS.set 2 (SE.int 1))
def S_power_1 : SS := (SS.forS (SI.rng1 (SL.cons (SE.var 1) SL.nil)) (ST.name 3) (L_power_0))
def S_power_2 : SS := (SS.ret (SE.var 2))
def B_power : SS := (SS.seq (S_power_0) (SS.seq (S_power_1) (S_power_2)))
def F_power : FSem := runDef B_power 4 2
def S_is_square_0 : SS := (SS.ite (SB.or (SB.not (SB.val (SE.isi .list (SE.var 0)))) (SB.test (SE.op oLt (SE.cb bLen (SL.cons (SE.var 0) SL.nil)) (SE.int 2)))) (SS.ret (SE.bl false)) SS.nil)
def S_is_square_1 : SS := (SS.set 1 (SE.cb bLen (SL.cons (SE.var 0) SL.nil)))
def S_is_square_2 : SS := (SS.ite (SB.not (SB.val (SE.cb bAll (SL.cons (SE.lc (SI.seq (SE.var 0)) (ST.name 2) SB.yes (SE.call F_is_each_once (SL.cons (SE.var 2) (SL.cons (SE.var 1) SL.nil)))) SL.nil)))) (SS.ret (SE.bl false)) SS.nil)
def S_is_square_3 : SS := (SS.ret (SE.cb bAll (SL.cons (SE.lc (SI.rng1 (SL.cons (SE.var 1) SL.nil)) (ST.name 3) SB.yes (SE.call F_is_each_once (SL.cons (SE.lc (SI.seq (SE.var 0)) (ST.name 2) SB.yes (SE.ix (SE.var 2) (SE.var 3))) (SL.cons (SE.var 1) SL.nil)))) SL.nil)))
def B_is_square : SS := (SS.seq (S_is_square_0) (SS.seq (S_is_square_1) (SS.seq (S_is_square_2) (S_is_square_3))))
def F_is_square : FSem := runDef B_is_square 4 1
def S_is_chain_0 : SS := (SS.ite (SB.or (SB.not (SB.val (SE.isi .tuple (SE.var 0)))) (SB.test (SE.op oNe (SE.cb bLen (SL.cons (SE.var 0) SL.nil)) (SE.int 3)))) (SS.ret (SE.bl false)) SS.nil)
def S_is_chain_1 : SS := (SS.asgG (SE.var 0) (SG.tup (SGs.cons (SG.name 1) (SGs.cons (SG.name 2) (SGs.cons (SG.name 3) SGs.nil)))))
def S_is_chain_2 : SS := (SS.ret (SE.andV (SE.call F_is_square (SL.cons (SE.var 1) SL.nil)) (SE.andV (SE.call F_is_below (SL.cons (SE.var 2) (SL.cons (SE.cb bLen (SL.cons (SE.var 1) SL.nil)) SL.nil))) (SE.call F_is_below (SL.cons (SE.var 3) (SL.cons (SE.cb bLen (SL.cons (SE.var 1) SL.nil)) SL.nil))))))
def B_is_chain : SS := (SS.seq (S_is_chain_0) (SS.seq (S_is_chain_1) (S_is_chain_2)))
def F_is_chain : FSem := runDef B_is_chain 4 1
def S_check_chain_0 : SS := (SS.ite (SB.not (SB.val (SE.call F_is_chain (SL.cons (SE.var 0) SL.nil)))) SS.never SS.nil)
def B_check_chain : SS := (S_check_chain_0)
def F_check_chain : FSem := runDef B_check_chain 1 1
def S_check_signs_0 : SS := (SS.ite (SB.or (SB.not (SB.val (SE.call F_are_below (SL.cons (SE.var 1) (SL.cons (SE.cb bLen (SL.cons (SE.ix (SE.var 0) (SE.int 0)) SL.nil)) SL.nil))))) (SB.test (SE.op oEq (SE.cb bLen (SL.cons (SE.var 1) SL.nil)) (SE.int 0)))) SS.never SS.nil)
def B_check_signs : SS := (S_check_signs_0)
def F_check_signs : FSem := runDef B_check_signs 2 2
def L_states_along_0 : SS := (SS.drop (SE.app (SE.var 5) (SE.ix (SE.ix (SE.var 2) (SE.ix (SE.var 5) (SE.un oNeg (SE.int 1)))) (SE.var 6))))
def S_states_along_0 : SS := (SS.asgG (SE.var 0) (SG.tup (SGs.cons (SG.name 2) (SGs.cons (SG.name 3) (SGs.cons (SG.name 4) SGs.nil)))))
def S_states_along_1 : SS := (SS.set 5 (SE.lstM (SL.cons (SE.var 3) SL.nil)))
def S_states_along_2 : SS := (SS.forS (SI.seq (SE.var 1)) (ST.name 6) (L_states_along_0))
def S_states_along_3 : SS := (SS.ret (SE.var 5))
def B_states_along : SS := (SS.seq (S_states_along_0) (SS.seq (S_states_along_1) (SS.seq (S_states_along_2) (S_states_along_3))))
def F_states_along : FSem := runDef B_states_along 7 2
def S_is_right_chain_0 : SS := (SS.drop (SE.call F_check_chain (SL.cons (SE.var 0) SL.nil)))
def S_is_right_chain_1 : SS := (SS.drop (SE.call F_check_signs (SL.cons (SE.var 0) (SL.cons (SE.var 1) SL.nil))))
def S_is_right_chain_2 : SS := (SS.ret (SE.op oEq (SE.ix (SE.call F_states_along (SL.cons (SE.var 0) (SL.cons (SE.var 1) SL.nil))) (SE.un oNeg (SE.int 1))) (SE.ix (SE.var 0) (SE.int 2))))
def B_is_right_chain : SS := (SS.seq (S_is_right_chain_0) (SS.seq (S_is_right_chain_1) (S_is_right_chain_2)))
def F_is_right_chain : FSem := runDef B_is_right_chain 2 2
def L_sign_at_v2_0 : SS := (SS.set 5 (SE.index (SE.lc (SI.seq (SE.var 3)) (ST.name 7) SB.yes (SE.ix (SE.var 7) (SE.var 6))) (SE.var 5)))
def S_sign_at_v2_0 : SS := (SS.drop (SE.call F_check_chain (SL.cons (SE.var 0) SL.nil)))
def S_sign_at_v2_1 : SS := (SS.drop (SE.call F_check_signs (SL.cons (SE.var 0) (SL.cons (SE.var 1) SL.nil))))
def S_sign_at_v2_2 : SS := (SS.ite (SB.not (SB.val (SE.call F_is_below (SL.cons (SE.var 2) (SL.cons (SE.cb bLen (SL.cons (SE.var 1) SL.nil)) SL.nil))))) SS.never SS.nil)
def S_sign_at_v2_3 : SS := (SS.asgG (SE.var 0) (SG.tup (SGs.cons (SG.name 3) (SGs.cons (SG.name 4) (SGs.cons (SG.name 5) SGs.nil)))))
def S_sign_at_v2_4 : SS := (SS.forS (SI.seq (SE.revTo (SE.var 1) (SO.some (SE.var 2)))) (ST.name 6) (L_sign_at_v2_0))
def S_sign_at_v2_5 : SS := (SS.ret (SE.index (SE.ix (SE.var 3) (SE.ix (SE.call F_states_along (SL.cons (SE.var 0) (SL.cons (SE.var 1) SL.nil))) (SE.var 2))) (SE.var 5)))
def B_sign_at_v2 : SS := (SS.seq (S_sign_at_v2_0) (SS.seq (S_sign_at_v2_1) (SS.seq (S_sign_at_v2_2) (SS.seq (S_sign_at_v2_3) (SS.seq (S_sign_at_v2_4) (S_sign_at_v2_5))))))
def F_sign_at_v2 : FSem := runDef B_sign_at_v2 8 3
def L_all_swaps_v2_0 : SS := (SS.seq (SS.set 5 (SE.ix (SE.var 0) (SE.ix (SE.var 3) (SE.var 4))))
      (SS.drop (SE.extend (SE.var 1) (SE.lcM (SI.rng2 (SL.cons (SE.op oAdd (SE.var 4) (SE.int 1)) (SL.cons (SE.cb bLen (SL.cons (SE.var 3) SL.nil)) SL.nil))) (ST.name 6) (SB.test (SE.op oEq (SE.ix (SE.var 5) (SE.var 6)) (SE.ix (SE.ix (SE.var 0) (SE.ix (SE.var 3) (SE.var 6))) (SE.var 4)))) (SE.tup (SL.cons (SE.var 2) (SL.cons (SE.var 4) (SL.cons (SE.var 6) SL.nil))))))))
def L_all_swaps_v2_1 : SS := (SS.forS (SI.rng1 (SL.cons (SE.cb bLen (SL.cons (SE.var 3) SL.nil)) SL.nil)) (ST.name 4) (L_all_swaps_v2_0))
def S_all_swaps_v2_0 : SS := (SS.set 1 (SE.lstM SL.nil))
def S_all_swaps_v2_1 : SS := (SS.forS (SI.enum (SL.cons (SE.var 0) SL.nil)) (ST.tup (STs.cons (ST.name 2) (STs.cons (ST.name 3) STs.nil))) (L_all_swaps_v2_1))
def S_all_swaps_v2_2 : SS := (SS.ret (SE.var 1))
def B_all_swaps_v2 : SS := (SS.seq (S_all_swaps_v2_0) (SS.seq (S_all_swaps_v2_1) (S_all_swaps_v2_2)))
def F_all_swaps_v2 : FSem := runDef B_all_swaps_v2 7 1
def S_states_of_0 : SS := (SS.drop (SE.call F_check_chain (SL.cons (SE.var 0) SL.nil)))
def S_states_of_1 : SS := (SS.drop (SE.call F_check_signs (SL.cons (SE.var 0) (SL.cons (SE.var 1) SL.nil))))
def S_states_of_2 : SS := (SS.ret (SE.callM F_states_along (SL.cons (SE.var 0) (SL.cons (SE.var 1) SL.nil))))
def B_states_of : SS := (SS.seq (S_states_of_0) (SS.seq (S_states_of_1) (S_states_of_2)))
def F_states_of : FSem := runDef B_states_of 2 2
def S_check_length_0 : SS := (SS.ite (SB.not (SB.val (SE.call F_is_from (SL.cons (SE.var 0) (SL.cons (SE.var 1) SL.nil))))) SS.never SS.nil)
def B_check_length : SS := (S_check_length_0)
def F_check_length : FSem := runDef B_check_length 2 2
def S_how_many_right_lists_0 : SS := (SS.drop (SE.call F_check_chain (SL.cons (SE.var 0) SL.nil)))
def S_how_many_right_lists_1 : SS := (SS.drop (SE.call F_check_length (SL.cons (SE.var 1) (SL.cons (SE.int 1) SL.nil))))
def S_how_many_right_lists_2 : SS := (SS.ret (SE.call F_power (SL.cons (SE.cb bLen (SL.cons (SE.ix (SE.var 0) (SE.int 0)) SL.nil)) (SL.cons (SE.op oSub (SE.var 1) (SE.int 1)) SL.nil))))
def B_how_many_right_lists : SS := (SS.seq (S_how_many_right_lists_0) (SS.seq (S_how_many_right_lists_1) (S_how_many_right_lists_2)))
def F_how_many_right_lists : FSem := runDef B_how_many_right_lists 2 2
def S_how_many_ways_0 : SS := (SS.ite (SB.test (SE.op oEq (SE.var 3) (SE.int 0))) (SS.ret (SE.ifx (SB.test (SE.op oEq (SE.var 1) (SE.var 2))) (SE.int 1) (SE.int 0))) SS.nil)
def S_how_many_ways_1 : SS := (SS.ret (SE.call F_power (SL.cons (SE.cb bLen (SL.cons (SE.ix (SE.var 0) (SE.int 0)) SL.nil)) (SL.cons (SE.op oSub (SE.var 3) (SE.int 1)) SL.nil))))
def B_how_many_ways : SS := (SS.seq (S_how_many_ways_0) (S_how_many_ways_1))
def F_how_many_ways : FSem := runDef B_how_many_ways 4 4
def L_how_many_slip_v2_0 : SS := (SS.seq (SS.set 11 (SE.ix (SE.ix (SE.var 3) (SE.ix (SE.ix (SE.var 3) (SE.var 8)) (SE.var 9))) (SE.var 10)))
      (SS.set 7 (SE.op oAdd (SE.var 7) (SE.op oMul (SE.op oMul (SE.int 2) (SE.call F_how_many_ways (SL.cons (SE.var 0) (SL.cons (SE.var 4) (SL.cons (SE.var 8) (SL.cons (SE.var 2) SL.nil)))))) (SE.call F_how_many_ways (SL.cons (SE.var 0) (SL.cons (SE.var 11) (SL.cons (SE.var 5) (SL.cons (SE.var 6) SL.nil)))))))))
def S_how_many_slip_v2_0 : SS := (SS.drop (SE.call F_check_chain (SL.cons (SE.var 0) SL.nil)))
def S_how_many_slip_v2_1 : SS := (SS.drop (SE.call F_check_length (SL.cons (SE.var 1) (SL.cons (SE.int 2) SL.nil))))
def S_how_many_slip_v2_2 : SS := (SS.ite (SB.not (SB.val (SE.call F_is_below (SL.cons (SE.var 2) (SL.cons (SE.op oSub (SE.var 1) (SE.int 1)) SL.nil))))) SS.never SS.nil)
def S_how_many_slip_v2_3 : SS := (SS.asgG (SE.var 0) (SG.tup (SGs.cons (SG.name 3) (SGs.cons (SG.name 4) (SGs.cons (SG.name 5) SGs.nil)))))
def S_how_many_slip_v2_4 : SS := (SS.set 6 (SE.op oSub (SE.op oSub (SE.var 1) (SE.var 2)) (SE.int 2)))
def S_how_many_slip_v2_5 : SS := (SS.set 7 (SE.int 0))
def S_how_many_slip_v2_6 : SS := (SS.forS (SI.seq (SE.call F_all_swaps_v2 (SL.cons (SE.var 3) SL.nil))) (ST.tup (STs.cons (ST.name 8) (STs.cons (ST.name 9) (STs.cons (ST.name 10) STs.nil)))) (L_how_many_slip_v2_0))
def S_how_many_slip_v2_7 : SS := (SS.ret (SE.var 7))
def B_how_many_slip_v2 : SS := (SS.seq (S_how_many_slip_v2_0) (SS.seq (S_how_many_slip_v2_1) (SS.seq (S_how_many_slip_v2_2) (SS.seq (S_how_many_slip_v2_3) (SS.seq (S_how_many_slip_v2_4) (SS.seq (S_how_many_slip_v2_5) (SS.seq (S_how_many_slip_v2_6) (S_how_many_slip_v2_7))))))))
def F_how_many_slip_v2 : FSem := runDef B_how_many_slip_v2 12 3
end D
end
section
set_option maxRecDepth 100000
set_option maxHeartbeats 0
namespace D
open PySem PySem.Spec PyProof.Rows L2 G N
def S_law_hash_0 : SS := (SS.set 2 (SE.op oMod (SE.cb bInt (SL.cons (SE.op oAdd (SE.op oAdd (SE.op oAdd (SE.op oMul (SE.var 0) (SE.int 1140671)) (SE.op oMul (SE.op oMul (SE.int 27644437) (SE.var 1)) (SE.var 1))) (SE.op oMul (SE.int 131) (SE.var 1))) (SE.int 19)) SL.nil)) (SE.int 2147483629)))
def S_law_hash_1 : SS := (SS.set 2 (SE.op oMod (SE.cb bInt (SL.cons (SE.op oAdd (SE.op oAdd (SE.op oMul (SE.var 2) (SE.var 2)) (SE.op oMul (SE.int 62089) (SE.var 1))) (SE.int 32416187)) SL.nil)) (SE.int 2147483587)))
def S_law_hash_2 : SS := (SS.ret (SE.op oMod (SE.cb bInt (SL.cons (SE.op oMul (SE.var 2) (SE.int 48271)) SL.nil)) (SE.int 2147483647)))
def B_law_hash : SS := (SS.seq (S_law_hash_0) (SS.seq (S_law_hash_1) (S_law_hash_2)))
def F_law_hash : FSem := runDef B_law_hash 3 2
def L_law_random_0 : SS := (SS.seq (SS.asgG (SE.op oAdd (SE.ix (SE.var 0) (SE.int 2)) (SE.int 1)) (SG.sub (SE.var 0) (SE.int 2)))
      (SS.set 2 (SE.op oAdd (SE.op oMul (SE.var 2) (SE.int 2147483587)) (SE.call F_law_hash (SL.cons (SE.ix (SE.var 0) (SE.int 1)) (SL.cons (SE.ix (SE.var 0) (SE.int 2)) SL.nil))))))
def S_law_random_0 : SS := (SS.ite (SB.test (SE.op oGt (SE.ix (SE.var 0) (SE.int 0)) (SE.int 0))) (SS.seq (SS.set 2 (SE.op oMod (SE.cb bInt (SL.cons (SE.ix (SE.var 0) (SE.int 0)) SL.nil)) (SE.var 1)))
      (SS.seq (SS.asgG (SE.op oFdiv (SE.ix (SE.var 0) (SE.int 0)) (SE.var 1)) (SG.sub (SE.var 0) (SE.int 0)))
      (SS.ret (SE.var 2)))) SS.nil)
def S_law_random_1 : SS := (SS.set 2 (SE.int 0))
def S_law_random_2 : SS := (SS.forS (SI.rng1 (SL.cons (SE.op oAdd (SE.int 1) (SE.op oFdiv (SE.bits (SE.var 1)) (SE.int 30))) SL.nil)) (ST.name 3) (L_law_random_0))
def S_law_random_3 : SS := (SS.ret (SE.op oMod (SE.cb bInt (SL.cons (SE.var 2) SL.nil)) (SE.var 1)))
def B_law_random : SS := (SS.seq (S_law_random_0) (SS.seq (S_law_random_1) (SS.seq (S_law_random_2) (S_law_random_3))))
def F_law_random : FSem := runDef B_law_random 4 2
def S_law_cell_0 : SS := (SS.ite (SB.test (SE.op oLt (SE.var 1) (SE.cb bLen (SL.cons (SE.var 0) SL.nil)))) (SS.ret (SE.ix (SE.var 0) (SE.var 1))) SS.nil)
def S_law_cell_1 : SS := (SS.ret (SE.op oMod (SE.cb bSum (SL.cons (SE.sl (SE.var 0) SO.none (SO.some (SE.int 1))) SL.nil)) (SE.int 1000003)))
def B_law_cell : SS := (SS.seq (S_law_cell_0) (S_law_cell_1))
def F_law_cell : FSem := runDef B_law_cell 2 2
def S_law_generator_0 : SS := (SS.set 2 (SE.call F_law_cell (SL.cons (SE.var 0) (SL.cons (SE.var 1) SL.nil))))
def S_law_generator_1 : SS := (SS.ret (SE.lstM (SL.cons (SE.op oMod (SE.cb bInt (SL.cons (SE.cb bMax (SL.cons (SE.op oSub (SE.var 2) (SE.op oPow (SE.int 10) (SE.int 18))) (SL.cons (SE.int 0) SL.nil))) SL.nil)) (SE.op oPow (SE.op oPow (SE.int 10) (SE.int 60)) (SE.int 10))) (SL.cons (SE.op oMod (SE.cb bInt (SL.cons (SE.var 2) SL.nil)) (SE.int 2147483647)) (SL.cons (SE.op oMul (SE.int 1000) (SE.var 1)) SL.nil)))))
def B_law_generator : SS := (SS.seq (S_law_generator_0) (S_law_generator_1))
def F_law_generator : FSem := runDef B_law_generator 3 2
def L_law_random_v2_0 : SS := (SS.seq (SS.asgG (SE.op oAdd (SE.ix (SE.var 0) (SE.int 2)) (SE.int 1)) (SG.sub (SE.var 0) (SE.int 2)))
      (SS.set 2 (SE.op oAdd (SE.op oMul (SE.var 2) (SE.int 2147483587)) (SE.call F_law_hash (SL.cons (SE.ix (SE.var 0) (SE.int 1)) (SL.cons (SE.ix (SE.var 0) (SE.int 2)) SL.nil))))))
def S_law_random_v2_0 : SS := (SS.ite (SB.test (SE.op oGt (SE.ix (SE.var 0) (SE.int 0)) (SE.int 0))) (SS.seq (SS.set 2 (SE.op oMod (SE.cb bInt (SL.cons (SE.ix (SE.var 0) (SE.int 0)) SL.nil)) (SE.var 1)))
      (SS.seq (SS.asgG (SE.op oFdiv (SE.ix (SE.var 0) (SE.int 0)) (SE.var 1)) (SG.sub (SE.var 0) (SE.int 0)))
      (SS.ret (SE.var 2)))) SS.nil)
def S_law_random_v2_1 : SS := (SS.set 2 (SE.int 0))
def S_law_random_v2_2 : SS := (SS.forS (SI.rng1 (SL.cons (SE.op oAdd (SE.int 1) (SE.op oFdiv (SE.bits (SE.var 1)) (SE.int 30))) SL.nil)) (ST.name 3) (L_law_random_v2_0))
def S_law_random_v2_3 : SS := (SS.ret (SE.op oMod (SE.cb bInt (SL.cons (SE.var 2) SL.nil)) (SE.var 1)))
def B_law_random_v2 : SS := (SS.seq (S_law_random_v2_0) (SS.seq (S_law_random_v2_1) (SS.seq (S_law_random_v2_2) (S_law_random_v2_3))))
def F_law_random_v2 : FSem := runDef B_law_random_v2 4 2
def L_law_abelian_0 : SS := (SS.set 1 (SE.op oMul (SE.var 1) (SE.var 2)))
def L_law_abelian_1 : SS := (SS.seq (SS.set 10 (SE.op oAdd (SE.var 10) (SE.op oMul (SE.var 9) (SE.op oMod (SE.cb bInt (SL.cons (SE.op oAdd (SE.var 7) (SE.var 8)) SL.nil)) (SE.var 2)))))
      (SS.par3 7 8 9 (SL.cons (SE.op oFdiv (SE.var 7) (SE.var 2)) (SL.cons (SE.op oFdiv (SE.var 8) (SE.var 2)) (SL.cons (SE.op oMul (SE.var 9) (SE.var 2)) SL.nil)))))
def L_law_abelian_2 : SS := (SS.seq (SS.asgG (SE.tup (SL.cons (SE.var 4) (SL.cons (SE.var 6) (SL.cons (SE.int 1) (SL.cons (SE.int 0) SL.nil))))) (SG.tup (SGs.cons (SG.name 7) (SGs.cons (SG.name 8) (SGs.cons (SG.name 9) (SGs.cons (SG.name 10) SGs.nil))))))
      (SS.seq (SS.forS (SI.seq (SE.rev (SE.var 0))) (ST.name 2) (L_law_abelian_1))
      (SS.drop (SE.app (SE.var 5) (SE.var 10)))))
def L_law_abelian_3 : SS := (SS.seq (SS.set 5 (SE.lstM SL.nil))
      (SS.seq (SS.forS (SI.rng1 (SL.cons (SE.var 1) SL.nil)) (ST.name 6) (L_law_abelian_2))
      (SS.drop (SE.app (SE.var 3) (SE.frz (SE.var 5))))))
def S_law_abelian_0 : SS := (SS.set 1 (SE.int 1))
def S_law_abelian_1 : SS := (SS.forS (SI.seq (SE.var 0)) (ST.name 2) (L_law_abelian_0))
def S_law_abelian_2 : SS := (SS.set 3 (SE.lstM SL.nil))
def S_law_abelian_3 : SS := (SS.forS (SI.rng1 (SL.cons (SE.var 1) SL.nil)) (ST.name 4) (L_law_abelian_3))
def S_law_abelian_4 : SS := (SS.ret (SE.var 3))
def B_law_abelian : SS := (SS.seq (S_law_abelian_0) (SS.seq (S_law_abelian_1) (SS.seq (S_law_abelian_2) (SS.seq (S_law_abelian_3) (S_law_abelian_4)))))
def F_law_abelian : FSem := runDef B_law_abelian 11 1
def L_law_dihedral_0 : SS := (SS.seq (SS.set 5 (SE.ifx (SB.test (SE.op oLt (SE.var 2) (SE.var 0))) (SE.op oMod (SE.cb bInt (SL.cons (SE.op oAdd (SE.var 2) (SE.var 4)) SL.nil)) (SE.var 0)) (SE.op oMod (SE.cb bInt (SL.cons (SE.op oSub (SE.var 2) (SE.var 4)) SL.nil)) (SE.var 0))))
      (SS.drop (SE.app (SE.var 3) (SE.op oAdd (SE.var 5) (SE.op oMul (SE.var 0) (SE.cb bInt (SL.cons (SE.op oNe (SE.op oLt (SE.var 2) (SE.var 0)) (SE.op oLt (SE.var 4) (SE.var 0))) SL.nil)))))))
def L_law_dihedral_1 : SS := (SS.seq (SS.set 3 (SE.lstM SL.nil))
      (SS.seq (SS.forS (SI.rng1 (SL.cons (SE.op oMul (SE.int 2) (SE.var 0)) SL.nil)) (ST.name 4) (L_law_dihedral_0))
      (SS.drop (SE.app (SE.var 1) (SE.frz (SE.var 3))))))
def S_law_dihedral_0 : SS := (SS.set 1 (SE.lstM SL.nil))
def S_law_dihedral_1 : SS := (SS.forS (SI.rng1 (SL.cons (SE.op oMul (SE.int 2) (SE.var 0)) SL.nil)) (ST.name 2) (L_law_dihedral_1))
def S_law_dihedral_2 : SS := (SS.ret (SE.var 1))
def B_law_dihedral : SS := (SS.seq (S_law_dihedral_0) (SS.seq (S_law_dihedral_1) (S_law_dihedral_2)))
def F_law_dihedral : FSem := runDef B_law_dihedral 6 1
def S_law_group_v4_0 : SS := (SS.set 1 (SE.callG F_law_random_v2 (SL.cons (SE.var 0) (SL.cons (SE.int 4) SL.nil))))
def S_law_group_v4_1 : SS := (SS.ite (SB.test (SE.op oEq (SE.var 1) (SE.int 0))) (SS.ret (SE.call F_law_dihedral (SL.cons (SE.op oAdd (SE.int 3) (SE.callG F_law_random_v2 (SL.cons (SE.var 0) (SL.cons (SE.int 3) SL.nil)))) SL.nil))) SS.nil)
def S_law_group_v4_2 : SS := (SS.set 2 (SE.lst (SL.cons (SE.tup (SL.cons (SE.int 2) SL.nil)) (SL.cons (SE.tup (SL.cons (SE.int 3) SL.nil)) (SL.cons (SE.tup (SL.cons (SE.int 4) SL.nil)) (SL.cons (SE.tup (SL.cons (SE.int 2) (SL.cons (SE.int 2) SL.nil))) (SL.cons (SE.tup (SL.cons (SE.int 5) SL.nil)) (SL.cons (SE.tup (SL.cons (SE.int 6) SL.nil)) (SL.cons (SE.tup (SL.cons (SE.int 7) SL.nil)) (SL.cons (SE.tup (SL.cons (SE.int 8) SL.nil)) (SL.cons (SE.tup (SL.cons (SE.int 2) (SL.cons (SE.int 4) SL.nil))) (SL.cons (SE.tup (SL.cons (SE.int 2) (SL.cons (SE.int 2) (SL.cons (SE.int 2) SL.nil)))) (SL.cons (SE.tup (SL.cons (SE.int 3) (SL.cons (SE.int 3) SL.nil))) (SL.cons (SE.tup (SL.cons (SE.int 9) SL.nil)) (SL.cons (SE.tup (SL.cons (SE.int 10) SL.nil)) (SL.cons (SE.tup (SL.cons (SE.int 2) (SL.cons (SE.int 6) SL.nil))) SL.nil))))))))))))))))
def S_law_group_v4_3 : SS := (SS.ret (SE.call F_law_abelian (SL.cons (SE.ix (SE.var 2) (SE.callG F_law_random_v2 (SL.cons (SE.var 0) (SL.cons (SE.cb bLen (SL.cons (SE.var 2) SL.nil)) SL.nil)))) SL.nil)))
def B_law_group_v4 : SS := (SS.seq (S_law_group_v4_0) (SS.seq (S_law_group_v4_1) (SS.seq (S_law_group_v4_2) (S_law_group_v4_3))))
def F_law_group_v4 : FSem := runDef B_law_group_v4 3 1
def L_law_shuffled_v4_0 : SS := (SS.drop (SE.app (SE.var 3) (SE.popAt (SE.var 2) (SE.callG F_law_random_v2 (SL.cons (SE.var 0) (SL.cons (SE.cb bLen (SL.cons (SE.var 2) SL.nil)) SL.nil))))))
def S_law_shuffled_v4_0 : SS := (SS.par 2 3 (SL.cons (SE.listRg1M (SE.var 1)) (SL.cons (SE.lstM SL.nil) SL.nil)))
def S_law_shuffled_v4_1 : SS := (SS.whS (SB.test (SE.op oNe (SE.var 2) (SE.lst SL.nil))) (L_law_shuffled_v4_0))
def S_law_shuffled_v4_2 : SS := (SS.ret (SE.var 3))
def B_law_shuffled_v4 : SS := (SS.seq (S_law_shuffled_v4_0) (SS.seq (S_law_shuffled_v4_1) (S_law_shuffled_v4_2)))
def F_law_shuffled_v4 : FSem := runDef B_law_shuffled_v4 4 2
def L_law_all_codes_0 : SS := (SS.set 4 (SE.op oAdd (SE.var 4) (SE.lc (SI.rng1 (SL.cons (SE.var 0) SL.nil)) (ST.name 6) SB.yes (SE.op oAdd (SE.var 5) (SE.lst (SL.cons (SE.var 6) SL.nil))))))
def L_law_all_codes_1 : SS := (SS.seq (SS.set 4 (SE.lst SL.nil))
      (SS.seq (SS.forS (SI.seq (SE.var 2)) (ST.name 5) (L_law_all_codes_0))
      (SS.set 2 (SE.var 4))))
def S_law_all_codes_0 : SS := (SS.set 2 (SE.lst (SL.cons (SE.lst SL.nil) SL.nil)))
def S_law_all_codes_1 : SS := (SS.forS (SI.rng1 (SL.cons (SE.var 1) SL.nil)) (ST.name 3) (L_law_all_codes_1))
def S_law_all_codes_2 : SS := (SS.ret (SE.var 2))
def B_law_all_codes : SS := (SS.seq (S_law_all_codes_0) (SS.seq (S_law_all_codes_1) (S_law_all_codes_2)))
def F_law_all_codes : FSem := runDef B_law_all_codes 7 2
def L_law_power_0 : SS := (SS.set 2 (SE.op oMul (SE.var 2) (SE.var 0)))
def S_law_power_0 : SS := (SS.set 2 (SE.int 1))
def S_law_power_1 : SS := (SS.forS (SI.rng1 (SL.cons (SE.var 1) SL.nil)) (ST.name 3) (L_law_power_0))
def S_law_power_2 : SS := (SS.ret (SE.var 2))
def B_law_power : SS := (SS.seq (S_law_power_0) (SS.seq (S_law_power_1) (S_law_power_2)))
def F_law_power : FSem := runDef B_law_power 4 2
def L_law_swaps_0 : SS := (SS.ite (SB.test (SE.op oEq (SE.ix (SE.ix (SE.var 0) (SE.ix (SE.ix (SE.var 0) (SE.var 2)) (SE.var 3))) (SE.var 4)) (SE.ix (SE.ix (SE.var 0) (SE.ix (SE.ix (SE.var 0) (SE.var 2)) (SE.var 4))) (SE.var 3)))) (SS.drop (SE.app (SE.var 1) (SE.tup (SL.cons (SE.var 2) (SL.cons (SE.var 3) (SL.cons (SE.var 4) SL.nil)))))) SS.nil)
def L_law_swaps_1 : SS := (SS.forS (SI.rng2 (SL.cons (SE.op oAdd (SE.var 3) (SE.int 1)) (SL.cons (SE.cb bLen (SL.cons (SE.var 0) SL.nil)) SL.nil))) (ST.name 4) (L_law_swaps_0))
def L_law_swaps_2 : SS := (SS.forS (SI.rng1 (SL.cons (SE.cb bLen (SL.cons (SE.var 0) SL.nil)) SL.nil)) (ST.name 3) (L_law_swaps_1))
def S_law_swaps_0 : SS := (SS.set 1 (SE.lstM SL.nil))
def S_law_swaps_1 : SS := (SS.forS (SI.rng1 (SL.cons (SE.cb bLen (SL.cons (SE.var 0) SL.nil)) SL.nil)) (ST.name 2) (L_law_swaps_2))
def S_law_swaps_2 : SS := (SS.ret (SE.var 1))
def B_law_swaps : SS := (SS.seq (S_law_swaps_0) (SS.seq (S_law_swaps_1) (S_law_swaps_2)))
def F_law_swaps : FSem := runDef B_law_swaps 5 1
def S_law_square_v2_0 : SS := (SS.set 1 (SE.callG F_law_random_v2 (SL.cons (SE.var 0) (SL.cons (SE.int 4) SL.nil))))
def S_law_square_v2_1 : SS := (SS.ite (SB.test (SE.op oEq (SE.var 1) (SE.int 0))) (SS.seq (SS.set 2 (SE.ix (SE.lst (SL.cons (SE.int 3) (SL.cons (SE.int 4) (SL.cons (SE.int 5) (SL.cons (SE.int 6) (SL.cons (SE.int 7) (SL.cons (SE.int 8) (SL.cons (SE.int 9) SL.nil)))))))) (SE.callG F_law_random_v2 (SL.cons (SE.var 0) (SL.cons (SE.int 7) SL.nil)))))
      (SS.seq (SS.set 3 (SE.lc (SI.rng2 (SL.cons (SE.int 1) (SL.cons (SE.var 2) SL.nil))) (ST.name 4) (SB.test (SE.op oEq (SE.lc (SI.rng2 (SL.cons (SE.int 2) (SL.cons (SE.var 2) SL.nil))) (ST.name 10) (SB.and (SB.test (SE.op oEq (SE.op oMod (SE.var 2) (SE.var 10)) (SE.int 0))) (SB.test (SE.op oEq (SE.op oMod (SE.var 4) (SE.var 10)) (SE.int 0)))) (SE.var 10)) (SE.lst SL.nil))) (SE.var 4)))
      (SS.seq (SS.set 4 (SE.ix (SE.var 3) (SE.callG F_law_random_v2 (SL.cons (SE.var 0) (SL.cons (SE.cb bLen (SL.cons (SE.var 3) SL.nil)) SL.nil)))))
      (SS.ret (SE.lcM (SI.rng1 (SL.cons (SE.var 2) SL.nil)) (ST.name 11) SB.yes (SE.lc (SI.rng1 (SL.cons (SE.var 2) SL.nil)) (ST.name 12) SB.yes (SE.op oMod (SE.cb bInt (SL.cons (SE.op oAdd (SE.op oMul (SE.var 4) (SE.var 11)) (SE.var 12)) SL.nil)) (SE.var 2)))))))) SS.nil)
def S_law_square_v2_2 : SS := (SS.set 5 (SE.callG F_law_group_v4 (SL.cons (SE.var 0) SL.nil)))
def S_law_square_v2_3 : SS := (SS.asgG (SE.lc (SI.rng1 (SL.cons (SE.int 3) SL.nil)) (ST.name 13) SB.yes (SE.callG F_law_shuffled_v4 (SL.cons (SE.var 0) (SL.cons (SE.cb bLen (SL.cons (SE.var 5) SL.nil)) SL.nil)))) (SG.lst (SGs.cons (SG.name 6) (SGs.cons (SG.name 7) (SGs.cons (SG.name 8) SGs.nil)))))
def S_law_square_v2_4 : SS := (SS.ite (SB.test (SE.op oEq (SE.var 1) (SE.int 1))) (SS.ret (SE.var 5)) SS.nil)
def S_law_square_v2_5 : SS := (SS.set 9 (SE.lc (SI.rng1 (SL.cons (SE.cb bLen (SL.cons (SE.var 5) SL.nil)) SL.nil)) (ST.name 11) SB.yes (SE.lc (SI.rng1 (SL.cons (SE.cb bLen (SL.cons (SE.var 5) SL.nil)) SL.nil)) (ST.name 12) SB.yes (SE.ix (SE.var 8) (SE.ix (SE.ix (SE.var 5) (SE.ix (SE.var 6) (SE.var 11))) (SE.ix (SE.var 7) (SE.var 12)))))))
def S_law_square_v2_6 : SS := (SS.ret (SE.var 9))
def B_law_square_v2 : SS := (SS.seq (S_law_square_v2_0) (SS.seq (S_law_square_v2_1) (SS.seq (S_law_square_v2_2) (SS.seq (S_law_square_v2_3) (SS.seq (S_law_square_v2_4) (SS.seq (S_law_square_v2_5) (S_law_square_v2_6)))))))
def F_law_square_v2 : FSem := runDef B_law_square_v2 14 1
end D
end
section
set_option maxRecDepth 100000
set_option maxHeartbeats 0
namespace D
open PySem PySem.Spec PyProof.Rows L2 G N
def L_law_last_v2_0 : SS := (SS.set 2 (SE.ix (SE.ix (SE.ix (SE.var 0) (SE.int 0)) (SE.var 2)) (SE.var 3)))
def S_law_last_v2_0 : SS := (SS.set 2 (SE.ix (SE.var 0) (SE.int 1)))
def S_law_last_v2_1 : SS := (SS.forS (SI.seq (SE.var 1)) (ST.name 3) (L_law_last_v2_0))
def S_law_last_v2_2 : SS := (SS.ret (SE.var 2))
def B_law_last_v2 : SS := (SS.seq (S_law_last_v2_0) (SS.seq (S_law_last_v2_1) (S_law_last_v2_2)))
def F_law_last_v2 : FSem := runDef B_law_last_v2 4 2
def L_law_reached_0 : SS := (SS.asgG (SE.op oAdd (SE.ix (SE.var 5) (SE.var 8)) (SE.var 7)) (SG.sub (SE.var 5) (SE.var 8)))
def L_law_reached_1 : SS := (SS.forS (SI.seq (SE.ix (SE.var 0) (SE.var 6))) (ST.name 8) (L_law_reached_0))
def L_law_reached_2 : SS := (SS.seq (SS.set 5 (SE.repM (SL.cons (SE.int 0) SL.nil) (SE.cb bLen (SL.cons (SE.var 0) SL.nil))))
      (SS.seq (SS.forS (SI.enum (SL.cons (SE.var 3) SL.nil)) (ST.tup (STs.cons (ST.name 6) (STs.cons (ST.name 7) STs.nil))) (L_law_reached_1))
      (SS.set 3 (SE.var 5))))
def S_law_reached_0 : SS := (SS.set 3 (SE.lc (SI.rng1 (SL.cons (SE.cb bLen (SL.cons (SE.var 0) SL.nil)) SL.nil)) (ST.name 6) SB.yes (SE.cb bInt (SL.cons (SE.op oEq (SE.var 6) (SE.var 1)) SL.nil))))
def S_law_reached_1 : SS := (SS.forS (SI.rng1 (SL.cons (SE.var 2) SL.nil)) (ST.name 4) (L_law_reached_2))
def S_law_reached_2 : SS := (SS.ret (SE.var 3))
def B_law_reached : SS := (SS.seq (S_law_reached_0) (SS.seq (S_law_reached_1) (S_law_reached_2)))
def F_law_reached : FSem := runDef B_law_reached 9 3
def L_law_slips_0 : SS := (SS.seq (SS.par 5 6 (SL.cons (SE.ix (SE.var 4) (SE.var 2)) (SL.cons (SE.ix (SE.var 4) (SE.op oAdd (SE.var 2) (SE.int 1))) SL.nil)))
      (SS.ite (SB.and (SB.test (SE.op oNe (SE.var 5) (SE.var 6))) (SB.test (SE.op oEq (SE.call F_law_last_v2 (SL.cons (SE.var 0) (SL.cons (SE.var 4) SL.nil))) (SE.ix (SE.var 0) (SE.int 2))))) (SS.set 3 (SE.op oAdd (SE.var 3) (SE.cb bInt (SL.cons (SE.op oEq (SE.call F_law_last_v2 (SL.cons (SE.var 0) (SL.cons (SE.op oAdd (SE.op oAdd (SE.sl (SE.var 4) SO.none (SO.some (SE.var 2))) (SE.lst (SL.cons (SE.var 6) (SL.cons (SE.var 5) SL.nil)))) (SE.sl (SE.var 4) (SO.some (SE.op oAdd (SE.var 2) (SE.int 2))) SO.none)) SL.nil))) (SE.ix (SE.var 0) (SE.int 2))) SL.nil)))) SS.nil))
def S_law_slips_0 : SS := (SS.set 3 (SE.int 0))
def S_law_slips_1 : SS := (SS.forS (SI.seq (SE.call F_law_all_codes (SL.cons (SE.cb bLen (SL.cons (SE.ix (SE.var 0) (SE.int 0)) SL.nil)) (SL.cons (SE.var 1) SL.nil)))) (ST.name 4) (L_law_slips_0))
def S_law_slips_2 : SS := (SS.ret (SE.var 3))
def B_law_slips : SS := (SS.seq (S_law_slips_0) (SS.seq (S_law_slips_1) (S_law_slips_2)))
def F_law_slips : FSem := runDef B_law_slips 7 3
def L_law_counted_v2_0 : SS := (SS.set 7 (SE.op oAdd (SE.var 7) (SE.op oMul (SE.op oMul (SE.int 2) (SE.ix (SE.var 6) (SE.var 9))) (SE.ix (SE.var 8) (SE.ix (SE.ix (SE.var 3) (SE.ix (SE.ix (SE.var 3) (SE.var 9)) (SE.var 10))) (SE.var 11))))))
def S_law_counted_v2_0 : SS := (SS.asgG (SE.var 0) (SG.tup (SGs.cons (SG.name 3) (SGs.cons (SG.name 4) (SGs.cons (SG.name 5) SGs.nil)))))
def S_law_counted_v2_1 : SS := (SS.par 6 7 (SL.cons (SE.call F_law_reached (SL.cons (SE.var 3) (SL.cons (SE.var 4) (SL.cons (SE.var 2) SL.nil)))) (SL.cons (SE.int 0) SL.nil)))
def S_law_counted_v2_2 : SS := (SS.set 8 (SE.lc (SI.rng1 (SL.cons (SE.cb bLen (SL.cons (SE.var 3) SL.nil)) SL.nil)) (ST.name 9) SB.yes (SE.ix (SE.call F_law_reached (SL.cons (SE.var 3) (SL.cons (SE.var 9) (SL.cons (SE.op oSub (SE.op oSub (SE.var 1) (SE.var 2)) (SE.int 2)) SL.nil)))) (SE.var 5))))
def S_law_counted_v2_3 : SS := (SS.forS (SI.seq (SE.call F_law_swaps (SL.cons (SE.var 3) SL.nil))) (ST.tup (STs.cons (ST.name 9) (STs.cons (ST.name 10) (STs.cons (ST.name 11) STs.nil)))) (L_law_counted_v2_0))
def S_law_counted_v2_4 : SS := (SS.ret (SE.var 7))
def B_law_counted_v2 : SS := (SS.seq (S_law_counted_v2_0) (SS.seq (S_law_counted_v2_1) (SS.seq (S_law_counted_v2_2) (SS.seq (S_law_counted_v2_3) (S_law_counted_v2_4)))))
def F_law_counted_v2 : FSem := runDef B_law_counted_v2 12 3
def L_law_right_v53_0 : SS := (SS.seq (SS.set 7 (SE.call F_law_counted_v2 (SL.cons (SE.var 3) (SL.cons (SE.var 5) (SL.cons (SE.var 6) SL.nil)))))
      (SS.seq (SS.ite (SB.and (SB.test (SE.op oLt (SE.call F_law_power (SL.cons (SE.var 2) (SL.cons (SE.var 5) SL.nil))) (SE.int 260))) (SB.test (SE.op oNe (SE.var 7) (SE.call F_law_slips (SL.cons (SE.var 3) (SL.cons (SE.var 5) (SL.cons (SE.var 6) SL.nil))))))) (SS.ret (SE.bl false)) SS.nil)
      (SS.ite (SB.or (SB.test (SE.op oNe (SE.cb bRepr (SL.cons (SE.call F_how_many_slip_v2 (SL.cons (SE.var 3) (SL.cons (SE.var 5) (SL.cons (SE.var 6) SL.nil)))) SL.nil)) (SE.cb bRepr (SL.cons (SE.var 7) SL.nil)))) (SB.test (SE.op oNe (SE.callK F_how_many_slip_v2 [2, 1, 0] (SL.cons (SE.var 6) (SL.cons (SE.var 5) (SL.cons (SE.var 3) SL.nil)))) (SE.var 7)))) (SS.ret (SE.bl false)) SS.nil)))
def L_law_right_v53_1 : SS := (SS.forS (SI.rng1 (SL.cons (SE.op oSub (SE.var 5) (SE.int 1)) SL.nil)) (ST.name 6) (L_law_right_v53_0))
def S_law_right_v53_0 : SS := (SS.set 1 (SE.callG F_law_square_v2 (SL.cons (SE.var 0) SL.nil)))
def S_law_right_v53_1 : SS := (SS.ite (SB.test (SE.op oGt (SE.cb bLen (SL.cons (SE.var 1) SL.nil)) (SE.int 7))) (SS.set 1 (SE.lc (SI.rng1 (SL.cons (SE.int 4) SL.nil)) (ST.name 9) SB.yes (SE.lc (SI.rng1 (SL.cons (SE.int 4) SL.nil)) (ST.name 10) SB.yes (SE.op oMod (SE.cb bInt (SL.cons (SE.op oAdd (SE.op oMul (SE.int 3) (SE.var 9)) (SE.var 10)) SL.nil)) (SE.int 4))))) SS.nil)
def S_law_right_v53_2 : SS := (SS.set 2 (SE.cb bLen (SL.cons (SE.var 1) SL.nil)))
def S_law_right_v53_3 : SS := (SS.set 3 (SE.tup (SL.cons (SE.var 1) (SL.cons (SE.callG F_law_random_v2 (SL.cons (SE.var 0) (SL.cons (SE.var 2) SL.nil))) (SL.cons (SE.callG F_law_random_v2 (SL.cons (SE.var 0) (SL.cons (SE.var 2) SL.nil))) SL.nil)))))
def S_law_right_v53_4 : SS := (SS.set 4 (SE.cb bRepr (SL.cons (SE.var 3) SL.nil)))
def S_law_right_v53_5 : SS := (SS.forS (SI.dis (SE.lst (SL.cons (SE.int 2) (SL.cons (SE.int 3) (SL.cons (SE.int 4) SL.nil))))) (ST.name 5) (L_law_right_v53_1))
def S_law_right_v53_6 : SS := (SS.set 5 (SE.op oAdd (SE.int 4) (SE.callG F_law_random_v2 (SL.cons (SE.var 0) (SL.cons (SE.int 20) SL.nil)))))
def S_law_right_v53_7 : SS := (SS.set 8 (SE.lc (SI.rng2 (SL.cons (SE.int 1) (SL.cons (SE.op oSub (SE.var 5) (SE.int 2)) SL.nil))) (ST.name 6) SB.yes (SE.call F_how_many_slip_v2 (SL.cons (SE.var 3) (SL.cons (SE.var 5) (SL.cons (SE.var 6) SL.nil))))))
def S_law_right_v53_8 : SS := (SS.ite (SB.or (SB.test (SE.op oNe (SE.lenSet (SE.var 8)) (SE.int 1))) (SB.or (SB.test (SE.op oNe (SE.ix (SE.var 8) (SE.int 0)) (SE.call F_law_counted_v2 (SL.cons (SE.var 3) (SL.cons (SE.var 5) (SL.cons (SE.int 1) SL.nil)))))) (SB.test (SE.op oNe (SE.ix (SE.var 8) (SE.int 0)) (SE.op oMul (SE.op oMul (SE.int 2) (SE.cb bLen (SL.cons (SE.call F_law_swaps (SL.cons (SE.var 1) SL.nil)) SL.nil))) (SE.call F_law_power (SL.cons (SE.var 2) (SL.cons (SE.op oSub (SE.var 5) (SE.int 4)) SL.nil)))))))) (SS.ret (SE.bl false)) SS.nil)
def S_law_right_v53_9 : SS := (SS.ret (SE.andV (SE.op oEq (SE.cb bRepr (SL.cons (SE.var 3) SL.nil)) (SE.var 4)) (SE.op oEq (SE.call F_how_many_right_lists (SL.cons (SE.var 3) (SL.cons (SE.var 5) SL.nil))) (SE.call F_law_power (SL.cons (SE.var 2) (SL.cons (SE.op oSub (SE.var 5) (SE.int 1)) SL.nil))))))
def B_law_right_v53 : SS := (SS.seq (S_law_right_v53_0) (SS.seq (S_law_right_v53_1) (SS.seq (S_law_right_v53_2) (SS.seq (S_law_right_v53_3) (SS.seq (S_law_right_v53_4) (SS.seq (S_law_right_v53_5) (SS.seq (S_law_right_v53_6) (SS.seq (S_law_right_v53_7) (SS.seq (S_law_right_v53_8) (S_law_right_v53_9))))))))))
def F_law_right_v53 : FSem := runDef B_law_right_v53 11 1
def L_law_v76_0 : SS := (SS.ite (SB.not (SB.val (SE.callG F_law_right_v53 (SL.cons (SE.callM F_law_generator (SL.cons (SE.var 0) (SL.cons (SE.var 1) SL.nil))) SL.nil)))) (SS.ret (SE.bl false)) SS.nil)
def S_law_v76_0 : SS := (SS.forS (SI.rng1 (SL.cons (SE.int 3) SL.nil)) (ST.name 1) (L_law_v76_0))
def S_law_v76_1 : SS := (SS.set 2 (SE.tup (SL.cons (SE.lst (SL.cons (SE.lst (SL.cons (SE.int 0) (SL.cons (SE.int 1) SL.nil))) (SL.cons (SE.lst (SL.cons (SE.int 1) (SL.cons (SE.int 0) SL.nil))) SL.nil))) (SL.cons (SE.int 0) (SL.cons (SE.int 1) SL.nil)))))
def S_law_v76_2 : SS := (SS.ret (SE.op oEq (SE.lst (SL.cons (SE.call F_how_many_slip_v2 (SL.cons (SE.var 2) (SL.cons (SE.int 2) (SL.cons (SE.int 0) SL.nil)))) (SL.cons (SE.call F_how_many_slip_v2 (SL.cons (SE.var 2) (SL.cons (SE.int 3) (SL.cons (SE.int 0) SL.nil)))) (SL.cons (SE.call F_how_many_slip_v2 (SL.cons (SE.var 2) (SL.cons (SE.int 3) (SL.cons (SE.int 1) SL.nil)))) (SL.cons (SE.call F_how_many_slip_v2 (SL.cons (SE.var 2) (SL.cons (SE.int 60) (SL.cons (SE.int 30) SL.nil)))) SL.nil))))) (SE.lst (SL.cons (SE.int 2) (SL.cons (SE.int 2) (SL.cons (SE.int 2) (SL.cons (SE.op oShl (SE.int 1) (SE.int 58)) SL.nil)))))))
def B_law_v76 : SS := (SS.seq (S_law_v76_0) (SS.seq (S_law_v76_1) (S_law_v76_2)))
def F_law_v76 : FSem := runDef B_law_v76 3 1
end D
end
section
set_option maxRecDepth 100000
set_option maxHeartbeats 0
namespace K50
open PySem PySem.Spec PyProof.Rows L2 G N
structure Bi (mg : Str → Option Value) : Prop where
  all : mg "all" = none
  bool : mg "bool" = none
  enumerate : mg "enumerate" = none
  int : mg "int" = none
  isinstance : mg "isinstance" = none
  len : mg "len" = none
  list : mg "list" = none
  max : mg "max" = none
  range : mg "range" = none
  repr : mg "repr" = none
  set : mg "set" = none
  sum : mg "sum" = none
  tuple : mg "tuple" = none
theorem sc_is_whole : FnScope ["value"] ["value"] (defScope s_is_whole) := ⟨rfl, rfl, rfl, by decide +kernel, rfl, by decide +kernel, by decide +kernel⟩
theorem ok_is_whole {P : Program} {w : World} {C : N.Ctx} {mg : Str → Option Value} {base : Heap} (B : Bi mg) (sm : smB C.K = true) (h : Has C.K mg "is_whole" s_is_whole ["value"]) :
    Cal P w C.K mg base 1 "is_whole" ["value"] (spN C false D.F_is_whole) :=
  has_m (N := ["value"]) (ps := ["value"]) h sc_is_whole fun f cdv A outer s H E hg hr =>
    ⟨_, (pss_one (ps_ret (pe_and (pe_callB (isiK C.K) (by rfl) B.isinstance (by decide +kernel) (pa_cons (pv 0) (pa_cons (pe_bltn (v := .ty "int") (by rfl) B.int (by decide +kernel) rfl) pa_nil))) (pe_one (pe_not (pe_callB (isiK C.K) (by rfl) B.isinstance (by decide +kernel) (pa_cons (pv 0) (pa_cons (pe_bltn (v := .ty "bool") (by rfl) B.bool (by decide +kernel) rfl) pa_nil)))))))), by kernel_rfl⟩
theorem sc_power : FnScope ["base", "times", "product", "_"] ["base", "times"] (defScope s_power) := ⟨rfl, rfl, rfl, by decide +kernel, rfl, by decide +kernel, by decide +kernel⟩
theorem ok_power {P : Program} {w : World} {C : N.Ctx} {mg : Str → Option Value} {base : Heap} (B : Bi mg) (sm : smB C.K = true) (h : Has C.K mg "power" s_power ["base", "times"]) :
    Cal P w C.K mg base 1 "power" ["base", "times"] (spN C false D.F_power) :=
  has_m (N := ["base", "times", "product", "_"]) (ps := ["base", "times"]) h sc_power fun f cdv A outer s H E hg hr =>
    ⟨_, (pss_cons (ps_set (i := 2) sc_power.nd rfl (by first | exact Or.inl rfl | exact Or.inr rfl) pe_int)
      (pss_cons (ps_for PassesOwn.never rfl (pi_range1 (by rfl) B.range (pa_cons (pv 1) pa_nil)) (pg_name (i := 3) sc_power.nd rfl (by first | exact Or.inl rfl | exact Or.inr rfl)) (pss_one (ps_set (i := 2) sc_power.nd rfl (by first | exact Or.inl rfl | exact Or.inr rfl) (pe_op op_mulA (pv 2) (pv 0)))))
      (pss_one (ps_ret (pv 2))))), by kernel_rfl⟩
theorem sc_all_swaps : FnScope ["square", "found", "state", "row", "one", "ahead", "two"] ["square"] (defScope s_all_swaps) := ⟨rfl, rfl, rfl, by decide +kernel, rfl, by decide +kernel, by decide +kernel⟩
theorem ok_all_swaps {P : Program} {w : World} {C : N.Ctx} {mg : Str → Option Value} {base : Heap} (B : Bi mg) (sm : smB C.K = true) (h : Has C.K mg "all_swaps" s_all_swaps ["square"]) :
    Cal P w C.K mg base 1 "all_swaps" ["square"] (spN C false D.F_all_swaps_v2) :=
  has_m (N := ["square", "found", "state", "row", "one", "ahead", "two"]) (ps := ["square"]) h sc_all_swaps fun f cdv A outer s H E hg hr =>
    ⟨_, (pss_cons (ps_set (i := 1) sc_all_swaps.nd rfl (by first | exact Or.inl rfl | exact Or.inr rfl) (pe_lst pa_nil))
      (pss_cons (ps_for PassesOwn.never rfl (pi_enum (by rfl) B.enumerate (pa_cons (pv 0) pa_nil)) (pg_tup rfl (pgs_cons (pg_name (i := 2) sc_all_swaps.nd rfl (by first | exact Or.inl rfl | exact Or.inr rfl)) (pgs_cons (pg_name (i := 3) sc_all_swaps.nd rfl (by first | exact Or.inl rfl | exact Or.inr rfl)) pgs_nil))) (pss_one (ps_for PassesOwn.never rfl (pi_range1 (by rfl) B.range (pa_cons (pe_callB (lenA C.K) (by rfl) B.len PySem.boot_len (pa_cons (pv 3) pa_nil)) pa_nil)) (pg_name (i := 4) sc_all_swaps.nd rfl (by first | exact Or.inl rfl | exact Or.inr rfl)) (pss_cons (ps_set (i := 5) sc_all_swaps.nd rfl (by first | exact Or.inl rfl | exact Or.inr rfl) (pe_ix (ixK C.K) (pv 0) (pe_ix (ixK C.K) (pv 3) (pv 4) (fun _ _ => rfl)) (fun _ _ => rfl)))
      (pss_one (ps_expr (pe_bm PySem.F.plainAttrs_list PySem.F.slot_list_extend PySem.F.type_list_extend mt_extend (pv 1) (pa_cons (pe_lc (own := [("two", 6)]) rfl sc_all_swaps.nd (pi_range2 (by rfl) B.range (pa_cons (pe_op (addK C.K) (pv 4) pe_int) (pa_cons (pe_callB (lenA C.K) (by rfl) B.len PySem.boot_len (pa_cons (pv 3) pa_nil)) pa_nil))) (blkOk_by (N := ["square", "found", "state", "row", "one", "ahead", "two"]) (sc := defScope s_all_swaps) (own := [("two", 6)]) (by decide +kernel)) (fun _ _ _ _ _ => (pg_name (i := 6) sc_all_swaps.nd rfl (by first | exact Or.inl rfl | exact Or.inr rfl))) (fun _ _ _ _ _ => pts_one (pt_cmpR (eqRK C.K hr) (pe_ix (ixK C.K) (pv 5) (pv 6) (fun _ _ => rfl)) (pe_ix (ixK C.K) (pe_ix (ixK C.K) (pv 0) (pe_ix (ixK C.K) (pv 3) (pv 6) (fun _ _ => rfl)) (fun _ _ => rfl)) (pv 4) (fun _ _ => rfl)) (nomark _))) (fun _ _ _ _ _ => (pe_tup (pa_cons (pv 2) (pa_cons (pv 4) (pa_cons (pv 6) pa_nil)))))) pa_nil))))))))
      (pss_one (ps_ret (pv 1))))), by kernel_rfl⟩
theorem sc_law_cell : FnScope ["script", "index"] ["script", "index"] (defScope s_law_cell) := ⟨rfl, rfl, rfl, by decide +kernel, rfl, by decide +kernel, by decide +kernel⟩
theorem ok_law_cell {P : Program} {w : World} {C : N.Ctx} {mg : Str → Option Value} {base : Heap} (B : Bi mg) (sm : smB C.K = true) (h : Has C.K mg "_law_cell" s_law_cell ["script", "index"]) :
    Cal P w C.K mg base 1 "_law_cell" ["script", "index"] (spN C false D.F_law_cell) :=
  has_m (N := ["script", "index"]) (ps := ["script", "index"]) h sc_law_cell fun f cdv A outer s H E hg hr =>
    ⟨_, (pss_cons (ps_if (pt_cmpR op_lt (pv 1) (pe_callB (lenA C.K) (by rfl) B.len PySem.boot_len (pa_cons (pv 0) pa_nil)) (nomark _)) (pss_one (ps_ret (pe_ix (ixK C.K) (pv 0) (pv 1) (fun _ _ => rfl)))) pss_nil)
      (pss_one (ps_ret (pe_op op_modN (pe_callB (sumK C.K rfl) (by rfl) B.sum (by decide +kernel) (pa_cons (pe_slice (slB C.K) (pv 0) po_none (po_some pe_int)) pa_nil)) pe_int)))), by kernel_rfl⟩
theorem sc_law_hash : FnScope ["seed", "index", "mixed"] ["seed", "index"] (defScope s_law_hash) := ⟨rfl, rfl, rfl, by decide +kernel, rfl, by decide +kernel, by decide +kernel⟩
theorem ok_law_hash {P : Program} {w : World} {C : N.Ctx} {mg : Str → Option Value} {base : Heap} (B : Bi mg) (sm : smB C.K = true) (h : Has C.K mg "_law_hash" s_law_hash ["seed", "index"]) :
    Cal P w C.K mg base 1 "_law_hash" ["seed", "index"] (spN C false D.F_law_hash) :=
  has_m (N := ["seed", "index", "mixed"]) (ps := ["seed", "index"]) h sc_law_hash fun f cdv A outer s H E hg hr =>
    ⟨_, (pss_cons (ps_set (i := 2) sc_law_hash.nd rfl (by first | exact Or.inl rfl | exact Or.inr rfl) (pe_op op_modN (pe_callTy call_int1 (by rfl) B.int (by decide +kernel) (pa_cons (pe_op (addK C.K) (pe_op (addK C.K) (pe_op (addK C.K) (pe_op op_mulA (pv 0) pe_int) (pe_op op_mulA (pe_op op_mulA pe_int (pv 1)) (pv 1))) (pe_op op_mulA pe_int (pv 1))) pe_int) pa_nil)) pe_int))
      (pss_cons (ps_set (i := 2) sc_law_hash.nd rfl (by first | exact Or.inl rfl | exact Or.inr rfl) (pe_op op_modN (pe_callTy call_int1 (by rfl) B.int (by decide +kernel) (pa_cons (pe_op (addK C.K) (pe_op (addK C.K) (pe_op op_mulA (pv 2) (pv 2)) (pe_op op_mulA pe_int (pv 1))) pe_int) pa_nil)) pe_int))
      (pss_one (ps_ret (pe_op op_modN (pe_callTy call_int1 (by rfl) B.int (by decide +kernel) (pa_cons (pe_op op_mulA (pv 2) pe_int) pa_nil)) pe_int))))), by kernel_rfl⟩
theorem sc_law_abelian : FnScope ["orders", "sizes", "order", "table", "one", "row", "other", "left", "right", "here", "whole"] ["orders"] (defScope s_law_abelian) := ⟨rfl, rfl, rfl, by decide +kernel, rfl, by decide +kernel, by decide +kernel⟩
theorem ok_law_abelian {P : Program} {w : World} {C : N.Ctx} {mg : Str → Option Value} {base : Heap} (B : Bi mg) (sm : smB C.K = true) (h : Has C.K mg "_law_abelian" s_law_abelian ["orders"]) :
    Cal P w C.K mg base 1 "_law_abelian" ["orders"] (spN C false D.F_law_abelian) :=
  has_m (N := ["orders", "sizes", "order", "table", "one", "row", "other", "left", "right", "here", "whole"]) (ps := ["orders"]) h sc_law_abelian fun f cdv A outer s H E hg hr =>
    ⟨_, (pss_cons (ps_set (i := 1) sc_law_abelian.nd rfl (by first | exact Or.inl rfl | exact Or.inr rfl) pe_int)
      (pss_cons (ps_for PassesOwn.never rfl (pi_or (pi_listK C.K (pv 0)) (pi_tupK C.K (pv 0))) (pg_name (i := 2) sc_law_abelian.nd rfl (by first | exact Or.inl rfl | exact Or.inr rfl)) (pss_one (ps_set (i := 1) sc_law_abelian.nd rfl (by first | exact Or.inl rfl | exact Or.inr rfl) (pe_op op_mulA (pv 1) (pv 2)))))
      (pss_cons (ps_set (i := 3) sc_law_abelian.nd rfl (by first | exact Or.inl rfl | exact Or.inr rfl) (pe_lst pa_nil))
      (pss_cons (ps_for PassesOwn.never rfl (pi_range1 (by rfl) B.range (pa_cons (pv 1) pa_nil)) (pg_name (i := 4) sc_law_abelian.nd rfl (by first | exact Or.inl rfl | exact Or.inr rfl)) (pss_cons (ps_set (i := 5) sc_law_abelian.nd rfl (by first | exact Or.inl rfl | exact Or.inr rfl) (pe_lst pa_nil))
      (pss_cons (ps_for PassesOwn.never rfl (pi_range1 (by rfl) B.range (pa_cons (pv 1) pa_nil)) (pg_name (i := 6) sc_law_abelian.nd rfl (by first | exact Or.inl rfl | exact Or.inr rfl)) (pss_cons (ps_asg (pe_tup (pa_cons (pv 4) (pa_cons (pv 6) (pa_cons pe_int (pa_cons pe_int pa_nil))))) (pg_tup rfl (pgs_cons (pg_name (i := 7) sc_law_abelian.nd rfl (by first | exact Or.inl rfl | exact Or.inr rfl)) (pgs_cons (pg_name (i := 8) sc_law_abelian.nd rfl (by first | exact Or.inl rfl | exact Or.inr rfl)) (pgs_cons (pg_name (i := 9) sc_law_abelian.nd rfl (by first | exact Or.inl rfl | exact Or.inr rfl)) (pgs_cons (pg_name (i := 10) sc_law_abelian.nd rfl (by first | exact Or.inl rfl | exact Or.inr rfl)) pgs_nil))))))
      (pss_cons (ps_for PassesOwn.never rfl (pi_or (pi_listK C.K (SE.revX (pv 0))) (pi_tupK C.K (SE.revX (pv 0)))) (pg_name (i := 2) sc_law_abelian.nd rfl (by first | exact Or.inl rfl | exact Or.inr rfl)) (pss_cons (ps_set (i := 10) sc_law_abelian.nd rfl (by first | exact Or.inl rfl | exact Or.inr rfl) (pe_op (addK C.K) (pv 10) (pe_op op_mulA (pv 9) (pe_op op_modN (pe_callTy call_int1 (by rfl) B.int (by decide +kernel) (pa_cons (pe_op (addK C.K) (pv 7) (pv 8)) pa_nil)) (pv 2)))))
      (pss_one (ps_par3 (i := 7) (j := 8) (l := 9) rfl sc_law_abelian.nd rfl rfl rfl (by decide) (by decide) (by decide) rfl rfl rfl (pa_cons (pe_op op_fdivW (pv 7) (pv 2)) (pa_cons (pe_op op_fdivW (pv 8) (pv 2)) (pa_cons (pe_op op_mulA (pv 9) (pv 2)) pa_nil))) (by rfl)))))
      (pss_one (ps_expr (pe_bm PySem.F.plainAttrs_list PySem.F.slot_list_append PySem.F.type_list_append mt_append (pv 5) (pa_cons (pv 10) pa_nil)))))))
      (pss_one (ps_expr (pe_bm PySem.F.plainAttrs_list PySem.F.slot_list_append PySem.F.type_list_append mt_append (pv 3) (pa_cons (pv 5) pa_nil)))))))
      (pss_one (ps_ret (pv 3))))))), by kernel_rfl⟩
theorem sc_law_dihedral : FnScope ["turns", "found", "one", "row", "other", "step"] ["turns"] (defScope s_law_dihedral) := ⟨rfl, rfl, rfl, by decide +kernel, rfl, by decide +kernel, by decide +kernel⟩
theorem ok_law_dihedral {P : Program} {w : World} {C : N.Ctx} {mg : Str → Option Value} {base : Heap} (B : Bi mg) (sm : smB C.K = true) (h : Has C.K mg "_law_dihedral" s_law_dihedral ["turns"]) :
    Cal P w C.K mg base 1 "_law_dihedral" ["turns"] (spN C false D.F_law_dihedral) :=
  has_m (N := ["turns", "found", "one", "row", "other", "step"]) (ps := ["turns"]) h sc_law_dihedral fun f cdv A outer s H E hg hr =>
    ⟨_, (pss_cons (ps_set (i := 1) sc_law_dihedral.nd rfl (by first | exact Or.inl rfl | exact Or.inr rfl) (pe_lst pa_nil))
      (pss_cons (ps_for PassesOwn.never rfl (pi_range1 (by rfl) B.range (pa_cons (pe_op op_mulA pe_int (pv 0)) pa_nil)) (pg_name (i := 2) sc_law_dihedral.nd rfl (by first | exact Or.inl rfl | exact Or.inr rfl)) (pss_cons (ps_set (i := 3) sc_law_dihedral.nd rfl (by first | exact Or.inl rfl | exact Or.inr rfl) (pe_lst pa_nil))
      (pss_cons (ps_for PassesOwn.never rfl (pi_range1 (by rfl) B.range (pa_cons (pe_op op_mulA pe_int (pv 0)) pa_nil)) (pg_name (i := 4) sc_law_dihedral.nd rfl (by first | exact Or.inl rfl | exact Or.inr rfl)) (pss_cons (ps_set (i := 5) sc_law_dihedral.nd rfl (by first | exact Or.inl rfl | exact Or.inr rfl) (pe_ifExp (pt_cmpR op_lt (pv 2) (pv 0) (nomark _)) (pe_op op_modN (pe_callTy call_int1 (by rfl) B.int (by decide +kernel) (pa_cons (pe_op (addK C.K) (pv 2) (pv 4)) pa_nil)) (pv 0)) (pe_op op_modN (pe_callTy call_int1 (by rfl) B.int (by decide +kernel) (pa_cons (pe_op op_sub (pv 2) (pv 4)) pa_nil)) (pv 0))))
      (pss_one (ps_expr (pe_bm PySem.F.plainAttrs_list PySem.F.slot_list_append PySem.F.type_list_append mt_append (pv 3) (pa_cons (pe_op (addK C.K) (pv 5) (pe_op op_mulA (pv 0) (pe_callTy call_int1 (by rfl) B.int (by decide +kernel) (pa_cons (pe_cmpR (neRK C.K hr) (pe_cmpR op_lt (pv 2) (pv 0) (nomark _)) (pe_cmpR op_lt (pv 4) (pv 0) (nomark _)) (nomark _)) pa_nil)))) pa_nil))))))
      (pss_one (ps_expr (pe_bm PySem.F.plainAttrs_list PySem.F.slot_list_append PySem.F.type_list_append mt_append (pv 1) (pa_cons (pv 3) pa_nil)))))))
      (pss_one (ps_ret (pv 1))))), by kernel_rfl⟩
theorem sc_law_all_codes : FnScope ["size", "places", "found", "turn", "longer", "code", "sign"] ["size", "places"] (defScope s_law_all_codes) := ⟨rfl, rfl, rfl, by decide +kernel, rfl, by decide +kernel, by decide +kernel⟩
theorem ok_law_all_codes {P : Program} {w : World} {C : N.Ctx} {mg : Str → Option Value} {base : Heap} (B : Bi mg) (sm : smB C.K = true) (h : Has C.K mg "_law_all_codes" s_law_all_codes ["size", "places"]) :
    Cal P w C.K mg base 1 "_law_all_codes" ["size", "places"] (spN C false D.F_law_all_codes) :=
  has_m (N := ["size", "places", "found", "turn", "longer", "code", "sign"]) (ps := ["size", "places"]) h sc_law_all_codes fun f cdv A outer s H E hg hr =>
    ⟨_, (pss_cons (ps_set (i := 2) sc_law_all_codes.nd rfl (by first | exact Or.inl rfl | exact Or.inr rfl) (pe_lst (pa_cons (pe_lst pa_nil) pa_nil)))
      (pss_cons (ps_for PassesOwn.never rfl (pi_range1 (by rfl) B.range (pa_cons (pv 1) pa_nil)) (pg_name (i := 3) sc_law_all_codes.nd rfl (by first | exact Or.inl rfl | exact Or.inr rfl)) (pss_cons (ps_set (i := 4) sc_law_all_codes.nd rfl (by first | exact Or.inl rfl | exact Or.inr rfl) (pe_lst pa_nil))
      (pss_cons (ps_for PassesOwn.never rfl (pi_or (pi_listK C.K (pv 2)) (pi_tupK C.K (pv 2))) (pg_name (i := 5) sc_law_all_codes.nd rfl (by first | exact Or.inl rfl | exact Or.inr rfl)) (pss_one (ps_set (i := 4) sc_law_all_codes.nd rfl (by first | exact Or.inl rfl | exact Or.inr rfl) (pe_op (addK C.K) (pv 4) (pe_lc (own := [("sign", 6)]) rfl sc_law_all_codes.nd (pi_range1 (by rfl) B.range (pa_cons (pv 0) pa_nil)) (blkOk_by (N := ["size", "places", "found", "turn", "longer", "code", "sign"]) (sc := defScope s_law_all_codes) (own := [("sign", 6)]) (by decide +kernel)) (fun _ _ _ _ _ => (pg_name (i := 6) sc_law_all_codes.nd rfl (by first | exact Or.inl rfl | exact Or.inr rfl))) (fun _ _ _ _ _ => pts_nil) (fun _ _ _ _ _ => (pe_op (addK C.K) (pv 5) (pe_lst (pa_cons (pv 6) pa_nil)))))))))
      (pss_one (ps_set (i := 2) sc_law_all_codes.nd rfl (by first | exact Or.inl rfl | exact Or.inr rfl) (pv 4))))))
      (pss_one (ps_ret (pv 2))))), by kernel_rfl⟩
theorem sc_law_swaps : FnScope ["square", "found", "state", "one", "other"] ["square"] (defScope s_law_swaps) := ⟨rfl, rfl, rfl, by decide +kernel, rfl, by decide +kernel, by decide +kernel⟩
theorem ok_law_swaps {P : Program} {w : World} {C : N.Ctx} {mg : Str → Option Value} {base : Heap} (B : Bi mg) (sm : smB C.K = true) (h : Has C.K mg "_law_swaps" s_law_swaps ["square"]) :
    Cal P w C.K mg base 1 "_law_swaps" ["square"] (spN C false D.F_law_swaps) :=
  has_m (N := ["square", "found", "state", "one", "other"]) (ps := ["square"]) h sc_law_swaps fun f cdv A outer s H E hg hr =>
    ⟨_, (pss_cons (ps_set (i := 1) sc_law_swaps.nd rfl (by first | exact Or.inl rfl | exact Or.inr rfl) (pe_lst pa_nil))
      (pss_cons (ps_for PassesOwn.never rfl (pi_range1 (by rfl) B.range (pa_cons (pe_callB (lenA C.K) (by rfl) B.len PySem.boot_len (pa_cons (pv 0) pa_nil)) pa_nil)) (pg_name (i := 2) sc_law_swaps.nd rfl (by first | exact Or.inl rfl | exact Or.inr rfl)) (pss_one (ps_for PassesOwn.never rfl (pi_range1 (by rfl) B.range (pa_cons (pe_callB (lenA C.K) (by rfl) B.len PySem.boot_len (pa_cons (pv 0) pa_nil)) pa_nil)) (pg_name (i := 3) sc_law_swaps.nd rfl (by first | exact Or.inl rfl | exact Or.inr rfl)) (pss_one (ps_for PassesOwn.never rfl (pi_range2 (by rfl) B.range (pa_cons (pe_op (addK C.K) (pv 3) pe_int) (pa_cons (pe_callB (lenA C.K) (by rfl) B.len PySem.boot_len (pa_cons (pv 0) pa_nil)) pa_nil))) (pg_name (i := 4) sc_law_swaps.nd rfl (by first | exact Or.inl rfl | exact Or.inr rfl)) (pss_one (ps_if (pt_cmpR (eqRK C.K hr) (pe_ix (ixK C.K) (pe_ix (ixK C.K) (pv 0) (pe_ix (ixK C.K) (pe_ix (ixK C.K) (pv 0) (pv 2) (fun _ _ => rfl)) (pv 3) (fun _ _ => rfl)) (fun _ _ => rfl)) (pv 4) (fun _ _ => rfl)) (pe_ix (ixK C.K) (pe_ix (ixK C.K) (pv 0) (pe_ix (ixK C.K) (pe_ix (ixK C.K) (pv 0) (pv 2) (fun _ _ => rfl)) (pv 4) (fun _ _ => rfl)) (fun _ _ => rfl)) (pv 3) (fun _ _ => rfl)) (nomark _)) (pss_one (ps_expr (pe_bm PySem.F.plainAttrs_list PySem.F.slot_list_append PySem.F.type_list_append mt_append (pv 1) (pa_cons (pe_tup (pa_cons (pv 2) (pa_cons (pv 3) (pa_cons (pv 4) pa_nil)))) pa_nil)))) pss_nil)))))))
      (pss_one (ps_ret (pv 1))))), by kernel_rfl⟩
theorem sc_law_last : FnScope ["chain", "code", "state", "sign"] ["chain", "code"] (defScope s_law_last) := ⟨rfl, rfl, rfl, by decide +kernel, rfl, by decide +kernel, by decide +kernel⟩
theorem ok_law_last {P : Program} {w : World} {C : N.Ctx} {mg : Str → Option Value} {base : Heap} (B : Bi mg) (sm : smB C.K = true) (h : Has C.K mg "_law_last" s_law_last ["chain", "code"]) :
    Cal P w C.K mg base 1 "_law_last" ["chain", "code"] (spN C false D.F_law_last_v2) :=
  has_m (N := ["chain", "code", "state", "sign"]) (ps := ["chain", "code"]) h sc_law_last fun f cdv A outer s H E hg hr =>
    ⟨_, (pss_cons (ps_set (i := 2) sc_law_last.nd rfl (by first | exact Or.inl rfl | exact Or.inr rfl) (pe_ix (ixK C.K) (pv 0) pe_int (fun _ _ => rfl)))
      (pss_cons (ps_for PassesOwn.never rfl (pi_or (pi_listK C.K (pv 1)) (pi_tupK C.K (pv 1))) (pg_name (i := 3) sc_law_last.nd rfl (by first | exact Or.inl rfl | exact Or.inr rfl)) (pss_one (ps_set (i := 2) sc_law_last.nd rfl (by first | exact Or.inl rfl | exact Or.inr rfl) (pe_ix (ixK C.K) (pe_ix (ixK C.K) (pe_ix (ixK C.K) (pv 0) pe_int (fun _ _ => rfl)) (pv 2) (fun _ _ => rfl)) (pv 3) (fun _ _ => rfl)))))
      (pss_one (ps_ret (pv 2))))), by kernel_rfl⟩
theorem sc_law_reached : FnScope ["square", "start", "length", "counts", "turn", "later", "state", "many", "last"] ["square", "start", "length"] (defScope s_law_reached) := ⟨rfl, rfl, rfl, by decide +kernel, rfl, by decide +kernel, by decide +kernel⟩
theorem ok_law_reached {P : Program} {w : World} {C : N.Ctx} {mg : Str → Option Value} {base : Heap} (B : Bi mg) (sm : smB C.K = true) (h : Has C.K mg "_law_reached" s_law_reached ["square", "start", "length"]) :
    Cal P w C.K mg base 1 "_law_reached" ["square", "start", "length"] (spN C false D.F_law_reached) :=
  has_m (N := ["square", "start", "length", "counts", "turn", "later", "state", "many", "last"]) (ps := ["square", "start", "length"]) h sc_law_reached fun f cdv A outer s H E hg hr =>
    ⟨_, (pss_cons (ps_setLc (i := 3) (own := [("state", 6)]) rfl sc_law_reached.nd rfl rfl (sw_true rfl rfl rfl (by decide +kernel)) (pi_range1 (by rfl) B.range (pa_cons (pe_callB (lenA C.K) (by rfl) B.len PySem.boot_len (pa_cons (pv 0) pa_nil)) pa_nil)) (blkOk_by (N := ["square", "start", "length", "counts", "turn", "later", "state", "many", "last"]) (sc := defScope s_law_reached) (own := [("state", 6)]) (by decide +kernel)) (fun _ _ _ _ _ => (pg_name (i := 6) sc_law_reached.nd rfl (by first | exact Or.inl rfl | exact Or.inr rfl))) (fun _ _ _ _ _ => pts_nil) (fun _ _ _ _ _ => (pe_callTy call_int1 (by rfl) B.int (by decide +kernel) (pa_cons (pe_cmpR (eqRK C.K hr) (pv 6) (pv 1) (nomark _)) pa_nil))))
      (pss_cons (ps_for PassesOwn.never rfl (pi_range1 (by rfl) B.range (pa_cons (pv 2) pa_nil)) (pg_name (i := 4) sc_law_reached.nd rfl (by first | exact Or.inl rfl | exact Or.inr rfl)) (pss_cons (ps_set (i := 5) sc_law_reached.nd rfl (by first | exact Or.inl rfl | exact Or.inr rfl) (pe_op op_mulA (pe_lst (pa_cons pe_int pa_nil)) (pe_callB (lenA C.K) (by rfl) B.len PySem.boot_len (pa_cons (pv 0) pa_nil))))
      (pss_cons (ps_for PassesOwn.never rfl (pi_enum (by rfl) B.enumerate (pa_cons (pv 3) pa_nil)) (pg_tup rfl (pgs_cons (pg_name (i := 6) sc_law_reached.nd rfl (by first | exact Or.inl rfl | exact Or.inr rfl)) (pgs_cons (pg_name (i := 7) sc_law_reached.nd rfl (by first | exact Or.inl rfl | exact Or.inr rfl)) pgs_nil))) (pss_one (ps_for PassesOwn.never rfl (pi_or (pi_listK C.K (pe_ix (ixK C.K) (pv 0) (pv 6) (fun _ _ => rfl))) (pi_tupK C.K (pe_ix (ixK C.K) (pv 0) (pv 6) (fun _ _ => rfl)))) (pg_name (i := 8) sc_law_reached.nd rfl (by first | exact Or.inl rfl | exact Or.inr rfl)) (pss_one (ps_asg (pe_op (addK C.K) (pe_ix (ixK C.K) (pv 5) (pv 8) (fun _ _ => rfl)) (pv 7)) (pg_sub (pv 5) (pv 8) set_list))))))
      (pss_one (ps_set (i := 3) sc_law_reached.nd rfl (by first | exact Or.inl rfl | exact Or.inr rfl) (pv 5))))))
      (pss_one (ps_ret (pv 3))))), by kernel_rfl⟩
theorem sc_law_power : FnScope ["base", "many", "found", "turn"] ["base", "many"] (defScope s_law_power) := ⟨rfl, rfl, rfl, by decide +kernel, rfl, by decide +kernel, by decide +kernel⟩
theorem ok_law_power {P : Program} {w : World} {C : N.Ctx} {mg : Str → Option Value} {base : Heap} (B : Bi mg) (sm : smB C.K = true) (h : Has C.K mg "_law_power" s_law_power ["base", "many"]) :
    Cal P w C.K mg base 1 "_law_power" ["base", "many"] (spN C false D.F_law_power) :=
  has_m (N := ["base", "many", "found", "turn"]) (ps := ["base", "many"]) h sc_law_power fun f cdv A outer s H E hg hr =>
    ⟨_, (pss_cons (ps_set (i := 2) sc_law_power.nd rfl (by first | exact Or.inl rfl | exact Or.inr rfl) pe_int)
      (pss_cons (ps_for PassesOwn.never rfl (pi_range1 (by rfl) B.range (pa_cons (pv 1) pa_nil)) (pg_name (i := 3) sc_law_power.nd rfl (by first | exact Or.inl rfl | exact Or.inr rfl)) (pss_one (ps_set (i := 2) sc_law_power.nd rfl (by first | exact Or.inl rfl | exact Or.inr rfl) (pe_op op_mulA (pv 2) (pv 0)))))
      (pss_one (ps_ret (pv 2))))), by kernel_rfl⟩
theorem sc_is_from : FnScope ["value", "least"] ["value", "least"] (defScope s_is_from) := ⟨rfl, rfl, rfl, by decide +kernel, rfl, by decide +kernel, by decide +kernel⟩
theorem ok_is_from {P : Program} {w : World} {C : N.Ctx} {mg : Str → Option Value} {base : Heap} (B : Bi mg) (sm : smB C.K = true) (c_is_whole : Cal P w C.K mg base 1 "is_whole" ["value"] (spN C false D.F_is_whole)) (h : Has C.K mg "is_from" s_is_from ["value", "least"]) :
    Cal P w C.K mg base 2 "is_from" ["value", "least"] (spN C false D.F_is_from) :=
  has_m (N := ["value", "least"]) (ps := ["value", "least"]) h sc_is_from fun f cdv A outer s H E hg hr =>
    ⟨_, (pss_one (ps_ret (pe_and (pg_cal hg c_is_whole hr (by rfl) (pa_cons (pv 0) pa_nil)) (pe_one (pe_cmpR op_ge (pv 0) (pv 1) (nomark _)))))), by kernel_rfl⟩
theorem sc_is_below : FnScope ["value", "many"] ["value", "many"] (defScope s_is_below) := ⟨rfl, rfl, rfl, by decide +kernel, rfl, by decide +kernel, by decide +kernel⟩
theorem ok_is_below {P : Program} {w : World} {C : N.Ctx} {mg : Str → Option Value} {base : Heap} (B : Bi mg) (sm : smB C.K = true) (c_is_whole : Cal P w C.K mg base 1 "is_whole" ["value"] (spN C false D.F_is_whole)) (h : Has C.K mg "is_below" s_is_below ["value", "many"]) :
    Cal P w C.K mg base 2 "is_below" ["value", "many"] (spN C false D.F_is_below) :=
  has_m (N := ["value", "many"]) (ps := ["value", "many"]) h sc_is_below fun f cdv A outer s H E hg hr =>
    ⟨_, (pss_one (ps_ret (pe_and (pg_cal hg c_is_whole hr (by rfl) (pa_cons (pv 0) pa_nil)) (pe_one (pe_chain op_le op_lt pe_int (pv 0) (pv 1)))))), by kernel_rfl⟩
theorem sc_how_many_ways : FnScope ["chain", "state", "other", "length"] ["chain", "state", "other", "length"] (defScope s_how_many_ways) := ⟨rfl, rfl, rfl, by decide +kernel, rfl, by decide +kernel, by decide +kernel⟩
theorem ok_how_many_ways {P : Program} {w : World} {C : N.Ctx} {mg : Str → Option Value} {base : Heap} (B : Bi mg) (sm : smB C.K = true) (c_power : Cal P w C.K mg base 1 "power" ["base", "times"] (spN C false D.F_power)) (h : Has C.K mg "how_many_ways" s_how_many_ways ["chain", "state", "other", "length"]) :
    Cal P w C.K mg base 2 "how_many_ways" ["chain", "state", "other", "length"] (spN C false D.F_how_many_ways) :=
  has_m (N := ["chain", "state", "other", "length"]) (ps := ["chain", "state", "other", "length"]) h sc_how_many_ways fun f cdv A outer s H E hg hr =>
    ⟨_, (pss_cons (ps_if (pt_cmpR (eqRK C.K hr) (pv 3) pe_int (nomark _)) (pss_one (ps_ret (pe_ifExp (pt_cmpR (eqRK C.K hr) (pv 1) (pv 2) (nomark _)) pe_int pe_int))) pss_nil)
      (pss_one (ps_ret (pg_cal hg c_power hr (by rfl) (pa_cons (pe_callB (lenA C.K) (by rfl) B.len PySem.boot_len (pa_cons (pe_ix (ixK C.K) (pv 0) pe_int (fun _ _ => rfl)) pa_nil)) (pa_cons (pe_op op_sub (pv 3) pe_int) pa_nil)))))), by kernel_rfl⟩
theorem sc_law_generator : FnScope ["script", "index", "seed"] ["script", "index"] (defScope s_law_generator) := ⟨rfl, rfl, rfl, by decide +kernel, rfl, by decide +kernel, by decide +kernel⟩
theorem ok_law_generator {P : Program} {w : World} {C : N.Ctx} {mg : Str → Option Value} {base : Heap} (B : Bi mg) (sm : smB C.K = true) (c_law_cell : Cal P w C.K mg base 1 "_law_cell" ["script", "index"] (spN C false D.F_law_cell)) (h : Has C.K mg "_law_generator" s_law_generator ["script", "index"]) :
    Cal P w C.K mg base 2 "_law_generator" ["script", "index"] (spN C false D.F_law_generator) :=
  has_m (N := ["script", "index", "seed"]) (ps := ["script", "index"]) h sc_law_generator fun f cdv A outer s H E hg hr =>
    ⟨_, (pss_cons (ps_set (i := 2) sc_law_generator.nd rfl (by first | exact Or.inl rfl | exact Or.inr rfl) (pg_cal hg c_law_cell hr (by rfl) (pa_cons (pv 0) (pa_cons (pv 1) pa_nil))))
      (pss_one (ps_ret (pe_lst (pa_cons (pe_op op_modN (pe_callTy call_int1 (by rfl) B.int (by decide +kernel) (pa_cons (pe_callB (maxA C.K rfl) (by rfl) B.max (by decide +kernel) (pa_cons (pe_op op_sub (pv 2) (pe_op op_powW pe_int pe_int)) (pa_cons pe_int pa_nil))) pa_nil)) (pe_op op_powW (pe_op op_powW pe_int pe_int) pe_int)) (pa_cons (pe_op op_modN (pe_callTy call_int1 (by rfl) B.int (by decide +kernel) (pa_cons (pv 2) pa_nil)) pe_int) (pa_cons (pe_op op_mulA pe_int (pv 1)) pa_nil))))))), by kernel_rfl⟩
theorem sc_law_random : FnScope ["generator", "limit", "drawn", "turn"] ["generator", "limit"] (defScope s_law_random) := ⟨rfl, rfl, rfl, by decide +kernel, rfl, by decide +kernel, by decide +kernel⟩
theorem ok_law_random {P : Program} {w : World} {C : N.Ctx} {mg : Str → Option Value} {base : Heap} (B : Bi mg) (sm : smB C.K = true) (c_law_hash : Cal P w C.K mg base 1 "_law_hash" ["seed", "index"] (spN C false D.F_law_hash)) (h : Has C.K mg "_law_random" s_law_random ["generator", "limit"]) :
    Cal P w C.K mg base 2 "_law_random" ["generator", "limit"] (spN C false D.F_law_random_v2) :=
  has_m (N := ["generator", "limit", "drawn", "turn"]) (ps := ["generator", "limit"]) h sc_law_random fun f cdv A outer s H E hg hr =>
    ⟨_, (pss_cons (ps_if (pt_cmpR op_gt (pe_ix (ixK C.K) (pv 0) pe_int (fun _ _ => rfl)) pe_int (nomark _)) (pss_cons (ps_set (i := 2) sc_law_random.nd rfl (by first | exact Or.inl rfl | exact Or.inr rfl) (pe_op op_modN (pe_callTy call_int1 (by rfl) B.int (by decide +kernel) (pa_cons (pe_ix (ixK C.K) (pv 0) pe_int (fun _ _ => rfl)) pa_nil)) (pv 1)))
      (pss_cons (ps_asg (pe_op op_fdivW (pe_ix (ixK C.K) (pv 0) pe_int (fun _ _ => rfl)) (pv 1)) (pg_sub (pv 0) pe_int set_list))
      (pss_one (ps_ret (pv 2))))) pss_nil)
      (pss_cons (ps_set (i := 2) sc_law_random.nd rfl (by first | exact Or.inl rfl | exact Or.inr rfl) pe_int)
      (pss_cons (ps_for PassesOwn.never rfl (pi_range1 (by rfl) B.range (pa_cons (pe_op (addK C.K) pe_int (pe_op op_fdivW (pe_bits (pv 1)) pe_int)) pa_nil)) (pg_name (i := 3) sc_law_random.nd rfl (by first | exact Or.inl rfl | exact Or.inr rfl)) (pss_cons (ps_asg (pe_op (addK C.K) (pe_ix (ixK C.K) (pv 0) pe_int (fun _ _ => rfl)) pe_int) (pg_sub (pv 0) pe_int set_list))
      (pss_one (ps_set (i := 2) sc_law_random.nd rfl (by first | exact Or.inl rfl | exact Or.inr rfl) (pe_op (addK C.K) (pe_op op_mulA (pv 2) pe_int) (pg_cal hg c_law_hash hr (by rfl) (pa_cons (pe_ix (ixK C.K) (pv 0) pe_int (fun _ _ => rfl)) (pa_cons (pe_ix (ixK C.K) (pv 0) pe_int (fun _ _ => rfl)) pa_nil))))))))
      (pss_one (ps_ret (pe_op op_modN (pe_callTy call_int1 (by rfl) B.int (by decide +kernel) (pa_cons (pv 2) pa_nil)) (pv 1))))))), by kernel_rfl⟩
theorem sc_law_slips : FnScope ["chain", "length", "place", "found", "code", "one", "other"] ["chain", "length", "place"] (defScope s_law_slips) := ⟨rfl, rfl, rfl, by decide +kernel, rfl, by decide +kernel, by decide +kernel⟩
theorem ok_law_slips {P : Program} {w : World} {C : N.Ctx} {mg : Str → Option Value} {base : Heap} (B : Bi mg) (sm : smB C.K = true) (c_law_all_codes : Cal P w C.K mg base 1 "_law_all_codes" ["size", "places"] (spN C false D.F_law_all_codes)) (c_law_last : Cal P w C.K mg base 1 "_law_last" ["chain", "code"] (spN C false D.F_law_last_v2)) (h : Has C.K mg "_law_slips" s_law_slips ["chain", "length", "place"]) :
    Cal P w C.K mg base 2 "_law_slips" ["chain", "length", "place"] (spN C false D.F_law_slips) :=
  has_m (N := ["chain", "length", "place", "found", "code", "one", "other"]) (ps := ["chain", "length", "place"]) h sc_law_slips fun f cdv A outer s H E hg hr =>
    ⟨_, (pss_cons (ps_set (i := 3) sc_law_slips.nd rfl (by first | exact Or.inl rfl | exact Or.inr rfl) pe_int)
      (pss_cons (ps_for PassesOwn.never rfl (pi_or (pi_listK C.K (pg_cal hg c_law_all_codes hr (by rfl) (pa_cons (pe_callB (lenA C.K) (by rfl) B.len PySem.boot_len (pa_cons (pe_ix (ixK C.K) (pv 0) pe_int (fun _ _ => rfl)) pa_nil)) (pa_cons (pv 1) pa_nil)))) (pi_tupK C.K (pg_cal hg c_law_all_codes hr (by rfl) (pa_cons (pe_callB (lenA C.K) (by rfl) B.len PySem.boot_len (pa_cons (pe_ix (ixK C.K) (pv 0) pe_int (fun _ _ => rfl)) pa_nil)) (pa_cons (pv 1) pa_nil))))) (pg_name (i := 4) sc_law_slips.nd rfl (by first | exact Or.inl rfl | exact Or.inr rfl)) (pss_cons (ps_par (i := 5) (j := 6) rfl sc_law_slips.nd rfl rfl (by decide) rfl rfl (pa_cons (pe_ix (ixK C.K) (pv 4) (pv 2) (fun _ _ => rfl)) (pa_cons (pe_ix (ixK C.K) (pv 4) (pe_op (addK C.K) (pv 2) pe_int) (fun _ _ => rfl)) pa_nil)) (by rfl))
      (pss_one (ps_if (PW.pt (pw_and (pt_cmpR (neRK C.K hr) (pv 5) (pv 6) (nomark _)) (pw_and1 (pt_cmpR (eqRK C.K hr) (pg_cal hg c_law_last hr (by rfl) (pa_cons (pv 0) (pa_cons (pv 4) pa_nil))) (pe_ix (ixK C.K) (pv 0) pe_int (fun _ _ => rfl)) (nomark _))))) (pss_one (ps_set (i := 3) sc_law_slips.nd rfl (by first | exact Or.inl rfl | exact Or.inr rfl) (pe_op (addK C.K) (pv 3) (pe_callTy call_int1 (by rfl) B.int (by decide +kernel) (pa_cons (pe_cmpR (eqRK C.K hr) (pg_cal hg c_law_last hr (by rfl) (pa_cons (pv 0) (pa_cons (pe_op (addK C.K) (pe_op (addK C.K) (pe_slice (slB C.K) (pv 4) po_none (po_some (pv 2))) (pe_lst (pa_cons (pv 6) (pa_cons (pv 5) pa_nil)))) (pe_slice (slB C.K) (pv 4) (po_some (pe_op (addK C.K) (pv 2) pe_int)) po_none)) pa_nil))) (pe_ix (ixK C.K) (pv 0) pe_int (fun _ _ => rfl)) (nomark _)) pa_nil))))) pss_nil))))
      (pss_one (ps_ret (pv 3))))), by kernel_rfl⟩
theorem sc_law_counted : FnScope ["chain", "length", "place", "square", "start", "end", "ahead", "found", "behind", "state", "one", "other"] ["chain", "length", "place"] (defScope s_law_counted) := ⟨rfl, rfl, rfl, by decide +kernel, rfl, by decide +kernel, by decide +kernel⟩
theorem ok_law_counted {P : Program} {w : World} {C : N.Ctx} {mg : Str → Option Value} {base : Heap} (B : Bi mg) (sm : smB C.K = true) (c_law_reached : Cal P w C.K mg base 1 "_law_reached" ["square", "start", "length"] (spN C false D.F_law_reached)) (c_law_swaps : Cal P w C.K mg base 1 "_law_swaps" ["square"] (spN C false D.F_law_swaps)) (h : Has C.K mg "_law_counted" s_law_counted ["chain", "length", "place"]) :
    Cal P w C.K mg base 2 "_law_counted" ["chain", "length", "place"] (spN C false D.F_law_counted_v2) :=
  has_m (N := ["chain", "length", "place", "square", "start", "end", "ahead", "found", "behind", "state", "one", "other"]) (ps := ["chain", "length", "place"]) h sc_law_counted fun f cdv A outer s H E hg hr =>
    ⟨_, (pss_cons (ps_asg (pv 0) (pg_tup rfl (pgs_cons (pg_name (i := 3) sc_law_counted.nd rfl (by first | exact Or.inl rfl | exact Or.inr rfl)) (pgs_cons (pg_name (i := 4) sc_law_counted.nd rfl (by first | exact Or.inl rfl | exact Or.inr rfl)) (pgs_cons (pg_name (i := 5) sc_law_counted.nd rfl (by first | exact Or.inl rfl | exact Or.inr rfl)) pgs_nil)))))
      (pss_cons (ps_par (i := 6) (j := 7) rfl sc_law_counted.nd rfl rfl (by decide) rfl rfl (pa_cons (pg_cal hg c_law_reached hr (by rfl) (pa_cons (pv 3) (pa_cons (pv 4) (pa_cons (pv 2) pa_nil)))) (pa_cons pe_int pa_nil)) (by rfl))
      (pss_cons (ps_setLc (i := 8) (own := [("state", 9)]) rfl sc_law_counted.nd rfl rfl (sw_true rfl rfl rfl (by decide +kernel)) (pi_range1 (by rfl) B.range (pa_cons (pe_callB (lenA C.K) (by rfl) B.len PySem.boot_len (pa_cons (pv 3) pa_nil)) pa_nil)) (blkOk_by (N := ["chain", "length", "place", "square", "start", "end", "ahead", "found", "behind", "state", "one", "other"]) (sc := defScope s_law_counted) (own := [("state", 9)]) (by decide +kernel)) (fun _ _ _ _ _ => (pg_name (i := 9) sc_law_counted.nd rfl (by first | exact Or.inl rfl | exact Or.inr rfl))) (fun _ _ _ _ _ => pts_nil) (fun _ _ _ _ _ => (pe_ix (ixK C.K) (pg_cal hg c_law_reached hr (by rfl) (pa_cons (pv 3) (pa_cons (pv 9) (pa_cons (pe_op op_sub (pe_op op_sub (pv 1) (pv 2)) pe_int) pa_nil)))) (pv 5) (fun _ _ => rfl))))
      (pss_cons (ps_for PassesOwn.never rfl (pi_or (pi_listK C.K (pg_cal hg c_law_swaps hr (by rfl) (pa_cons (pv 3) pa_nil))) (pi_tupK C.K (pg_cal hg c_law_swaps hr (by rfl) (pa_cons (pv 3) pa_nil)))) (pg_tup rfl (pgs_cons (pg_name (i := 9) sc_law_counted.nd rfl (by first | exact Or.inl rfl | exact Or.inr rfl)) (pgs_cons (pg_name (i := 10) sc_law_counted.nd rfl (by first | exact Or.inl rfl | exact Or.inr rfl)) (pgs_cons (pg_name (i := 11) sc_law_counted.nd rfl (by first | exact Or.inl rfl | exact Or.inr rfl)) pgs_nil)))) (pss_one (ps_set (i := 7) sc_law_counted.nd rfl (by first | exact Or.inl rfl | exact Or.inr rfl) (pe_op (addK C.K) (pv 7) (pe_op op_mulA (pe_op op_mulA pe_int (pe_ix (ixK C.K) (pv 6) (pv 9) (fun _ _ => rfl))) (pe_ix (ixK C.K) (pv 8) (pe_ix (ixK C.K) (pe_ix (ixK C.K) (pv 3) (pe_ix (ixK C.K) (pe_ix (ixK C.K) (pv 3) (pv 9) (fun _ _ => rfl)) (pv 10) (fun _ _ => rfl)) (fun _ _ => rfl)) (pv 11) (fun _ _ => rfl)) (fun _ _ => rfl)))))))
      (pss_one (ps_ret (pv 7))))))), by kernel_rfl⟩
theorem sc_are_below : FnScope ["value", "many", "one"] ["value", "many"] (defScope s_are_below) := ⟨rfl, rfl, rfl, by decide +kernel, rfl, by decide +kernel, by decide +kernel⟩
theorem ok_are_below {P : Program} {w : World} {C : N.Ctx} {mg : Str → Option Value} {base : Heap} (B : Bi mg) (sm : smB C.K = true) (c_is_below : Cal P w C.K mg base 2 "is_below" ["value", "many"] (spN C false D.F_is_below)) (h : Has C.K mg "are_below" s_are_below ["value", "many"]) :
    Cal P w C.K mg base 3 "are_below" ["value", "many"] (spN C false D.F_are_below) :=
  has_m (N := ["value", "many", "one"]) (ps := ["value", "many"]) h sc_are_below fun f cdv A outer s H E hg hr =>
    ⟨_, (pss_one (ps_ret (pe_and (pe_callB (isiK C.K) (by rfl) B.isinstance (by decide +kernel) (pa_cons (pv 0) (pa_cons (pe_bltn (v := .ty "list") (by rfl) B.list (by decide +kernel) rfl) pa_nil))) (pe_one (pe_callB (allK C.K rfl) (by rfl) B.all (by decide +kernel) (pa_cons (pe_lc (own := [("one", 2)]) rfl sc_are_below.nd (pi_or (pi_listK C.K (pv 0)) (pi_tupK C.K (pv 0))) (blkOk_by (N := ["value", "many", "one"]) (sc := defScope s_are_below) (own := [("one", 2)]) (by decide +kernel)) (fun _ _ _ _ _ => (pg_name (i := 2) sc_are_below.nd rfl (by first | exact Or.inl rfl | exact Or.inr rfl))) (fun _ _ _ _ _ => pts_nil) (fun _ _ _ _ _ => (pg_cal hg c_is_below hr (by rfl) (pa_cons (pv 2) (pa_cons (pv 1) pa_nil))))) pa_nil)))))), by kernel_rfl⟩
theorem sc_check_length : FnScope ["length", "least"] ["length", "least"] (defScope s_check_length) := ⟨rfl, rfl, rfl, by decide +kernel, rfl, by decide +kernel, by decide +kernel⟩
theorem ok_check_length {P : Program} {w : World} {C : N.Ctx} {mg : Str → Option Value} {base : Heap} (B : Bi mg) (sm : smB C.K = true) (c_is_from : Cal P w C.K mg base 2 "is_from" ["value", "least"] (spN C false D.F_is_from)) (h : Has C.K mg "check_length" s_check_length ["length", "least"]) :
    Cal P w C.K mg base 3 "check_length" ["length", "least"] (spN C false D.F_check_length) :=
  has_m (N := ["length", "least"]) (ps := ["length", "least"]) h sc_check_length fun f cdv A outer s H E hg hr =>
    ⟨_, (pss_one (ps_if (pt_not (pt_val (pg_cal hg c_is_from hr (by rfl) (pa_cons (pv 0) (pa_cons (pv 1) pa_nil))))) (pss_one ps_never) pss_nil)), by kernel_rfl⟩
theorem sc_law_group : FnScope ["generator", "way", "menu"] ["generator"] (defScope s_law_group) := ⟨rfl, rfl, rfl, by decide +kernel, rfl, by decide +kernel, by decide +kernel⟩
theorem ok_law_group {P : Program} {w : World} {C : N.Ctx} {mg : Str → Option Value} {base : Heap} (B : Bi mg) (sm : smB C.K = true) (c_law_random : Cal P w C.K mg base 2 "_law_random" ["generator", "limit"] (spN C false D.F_law_random_v2)) (c_law_dihedral : Cal P w C.K mg base 1 "_law_dihedral" ["turns"] (spN C false D.F_law_dihedral)) (c_law_abelian : Cal P w C.K mg base 1 "_law_abelian" ["orders"] (spN C false D.F_law_abelian)) (h : Has C.K mg "_law_group" s_law_group ["generator"]) :
    Cal P w C.K mg base 3 "_law_group" ["generator"] (spN C false D.F_law_group_v4) :=
  has_m (N := ["generator", "way", "menu"]) (ps := ["generator"]) h sc_law_group fun f cdv A outer s H E hg hr =>
    ⟨_, (pss_cons (ps_set (i := 1) sc_law_group.nd rfl (by first | exact Or.inl rfl | exact Or.inr rfl) (pg_cal hg c_law_random hr (by rfl) (pa_cons (pv 0) (pa_cons pe_int pa_nil))))
      (pss_cons (ps_if (pt_cmpR (eqRK C.K hr) (pv 1) pe_int (nomark _)) (pss_one (ps_ret (pg_cal hg c_law_dihedral hr (by rfl) (pa_cons (pe_op (addK C.K) pe_int (pg_cal hg c_law_random hr (by rfl) (pa_cons (pv 0) (pa_cons pe_int pa_nil)))) pa_nil)))) pss_nil)
      (pss_cons (ps_set (i := 2) sc_law_group.nd rfl (by first | exact Or.inl rfl | exact Or.inr rfl) (pe_lst (pa_cons (pe_tup (pa_cons pe_int pa_nil)) (pa_cons (pe_tup (pa_cons pe_int pa_nil)) (pa_cons (pe_tup (pa_cons pe_int pa_nil)) (pa_cons (pe_tup (pa_cons pe_int (pa_cons pe_int pa_nil))) (pa_cons (pe_tup (pa_cons pe_int pa_nil)) (pa_cons (pe_tup (pa_cons pe_int pa_nil)) (pa_cons (pe_tup (pa_cons pe_int pa_nil)) (pa_cons (pe_tup (pa_cons pe_int pa_nil)) (pa_cons (pe_tup (pa_cons pe_int (pa_cons pe_int pa_nil))) (pa_cons (pe_tup (pa_cons pe_int (pa_cons pe_int (pa_cons pe_int pa_nil)))) (pa_cons (pe_tup (pa_cons pe_int (pa_cons pe_int pa_nil))) (pa_cons (pe_tup (pa_cons pe_int pa_nil)) (pa_cons (pe_tup (pa_cons pe_int pa_nil)) (pa_cons (pe_tup (pa_cons pe_int (pa_cons pe_int pa_nil))) pa_nil))))))))))))))))
      (pss_one (ps_ret (pg_cal hg c_law_abelian hr (by rfl) (pa_cons (pe_ix (ixK C.K) (pv 2) (pg_cal hg c_law_random hr (by rfl) (pa_cons (pv 0) (pa_cons (pe_callB (lenA C.K) (by rfl) B.len PySem.boot_len (pa_cons (pv 2) pa_nil)) pa_nil))) (fun _ _ => rfl)) pa_nil))))))), by kernel_rfl⟩
theorem sc_law_shuffled : FnScope ["generator", "size", "left", "found"] ["generator", "size"] (defScope s_law_shuffled) := ⟨rfl, rfl, rfl, by decide +kernel, rfl, by decide +kernel, by decide +kernel⟩
theorem ok_law_shuffled {P : Program} {w : World} {C : N.Ctx} {mg : Str → Option Value} {base : Heap} (B : Bi mg) (sm : smB C.K = true) (c_law_random : Cal P w C.K mg base 2 "_law_random" ["generator", "limit"] (spN C false D.F_law_random_v2)) (h : Has C.K mg "_law_shuffled" s_law_shuffled ["generator", "size"]) :
    Cal P w C.K mg base 3 "_law_shuffled" ["generator", "size"] (spN C false D.F_law_shuffled_v4) :=
  has_m (N := ["generator", "size", "left", "found"]) (ps := ["generator", "size"]) h sc_law_shuffled fun f cdv A outer s H E hg hr =>
    ⟨_, (pss_cons (ps_par (i := 2) (j := 3) rfl sc_law_shuffled.nd rfl rfl (by decide) rfl rfl (pa_cons (pe_listRg rfl (by rfl) B.list (prg_1 (by rfl) B.range (pv 1))) (pa_cons (pe_lst pa_nil) pa_nil)) (by rfl))
      (pss_cons (ps_while PassesOwn.never (pt_cmpR (neRK C.K hr) (pv 2) (pe_lst pa_nil) (nomark _)) (pss_one (ps_expr (pe_bm PySem.F.plainAttrs_list PySem.F.slot_list_append PySem.F.type_list_append mt_append (pv 3) (pa_cons (pe_bm PySem.F.plainAttrs_list PySem.F.slot_list_pop PySem.F.type_list_pop mt_popAt (pv 2) (pa_cons (pg_cal hg c_law_random hr (by rfl) (pa_cons (pv 0) (pa_cons (pe_callB (lenA C.K) (by rfl) B.len PySem.boot_len (pa_cons (pv 2) pa_nil)) pa_nil))) pa_nil)) pa_nil)))))
      (pss_one (ps_ret (pv 3))))), by kernel_rfl⟩
theorem sc_is_each_once : FnScope ["value", "many"] ["value", "many"] (defScope s_is_each_once) := ⟨rfl, rfl, rfl, by decide +kernel, rfl, by decide +kernel, by decide +kernel⟩
theorem ok_is_each_once {P : Program} {w : World} {C : N.Ctx} {mg : Str → Option Value} {base : Heap} (B : Bi mg) (sm : smB C.K = true) (c_are_below : Cal P w C.K mg base 3 "are_below" ["value", "many"] (spN C false D.F_are_below)) (h : Has C.K mg "is_each_once" s_is_each_once ["value", "many"]) :
    Cal P w C.K mg base 4 "is_each_once" ["value", "many"] (spN C false D.F_is_each_once) :=
  has_m (N := ["value", "many"]) (ps := ["value", "many"]) h sc_is_each_once fun f cdv A outer s H E hg hr =>
    ⟨_, (pss_cons (ps_if (PW.pt (pw_or (pt_not (pt_val (pe_callB (isiK C.K) (by rfl) B.isinstance (by decide +kernel) (pa_cons (pv 0) (pa_cons (pe_bltn (v := .ty "list") (by rfl) B.list (by decide +kernel) rfl) pa_nil))))) (pw_or1 (pt_cmpR (neRK C.K hr) (pe_callB (lenA C.K) (by rfl) B.len PySem.boot_len (pa_cons (pv 0) pa_nil)) (pv 1) (nomark _))))) (pss_one (ps_ret pe_bl)) pss_nil)
      (pss_one (ps_ret (pe_and (pg_cal hg c_are_below hr (by rfl) (pa_cons (pv 0) (pa_cons (pv 1) pa_nil))) (pe_one (pe_cmpR (eqRK C.K hr) (lenSetX C.K (by rfl) B.len (by rfl) B.set (pv 0)) (pv 1) (nomark _))))))), by kernel_rfl⟩
theorem sc_law_square : FnScope ["generator", "way", "size", "weights", "weight", "group", "rows", "signs", "names", "found", "low", "state", "sign", "turn"] ["generator"] (defScope s_law_square) := ⟨rfl, rfl, rfl, by decide +kernel, rfl, by decide +kernel, by decide +kernel⟩
theorem ok_law_square {P : Program} {w : World} {C : N.Ctx} {mg : Str → Option Value} {base : Heap} (B : Bi mg) (sm : smB C.K = true) (c_law_random : Cal P w C.K mg base 2 "_law_random" ["generator", "limit"] (spN C false D.F_law_random_v2)) (c_law_group : Cal P w C.K mg base 3 "_law_group" ["generator"] (spN C false D.F_law_group_v4)) (c_law_shuffled : Cal P w C.K mg base 3 "_law_shuffled" ["generator", "size"] (spN C false D.F_law_shuffled_v4)) (h : Has C.K mg "_law_square" s_law_square ["generator"]) :
    Cal P w C.K mg base 4 "_law_square" ["generator"] (spN C false D.F_law_square_v2) :=
  has_m (N := ["generator", "way", "size", "weights", "weight", "group", "rows", "signs", "names", "found", "low", "state", "sign", "turn"]) (ps := ["generator"]) h sc_law_square fun f cdv A outer s H E hg hr =>
    ⟨_, (pss_cons (ps_set (i := 1) sc_law_square.nd rfl (by first | exact Or.inl rfl | exact Or.inr rfl) (pg_cal hg c_law_random hr (by rfl) (pa_cons (pv 0) (pa_cons pe_int pa_nil))))
      (pss_cons (ps_if (pt_cmpR (eqRK C.K hr) (pv 1) pe_int (nomark _)) (pss_cons (ps_set (i := 2) sc_law_square.nd rfl (by first | exact Or.inl rfl | exact Or.inr rfl) (pe_ix (ixK C.K) (pe_lst (pa_cons pe_int (pa_cons pe_int (pa_cons pe_int (pa_cons pe_int (pa_cons pe_int (pa_cons pe_int (pa_cons pe_int pa_nil)))))))) (pg_cal hg c_law_random hr (by rfl) (pa_cons (pv 0) (pa_cons pe_int pa_nil))) (fun _ _ => rfl)))
      (pss_cons (ps_setLc (i := 3) (own := [("weight", 4)]) rfl sc_law_square.nd rfl rfl (sw_true rfl rfl rfl (by decide +kernel)) (pi_range2 (by rfl) B.range (pa_cons pe_int (pa_cons (pv 2) pa_nil))) (blkOk_by (N := ["generator", "way", "size", "weights", "weight", "group", "rows", "signs", "names", "found", "low", "state", "sign", "turn"]) (sc := defScope s_law_square) (own := [("weight", 4)]) (by decide +kernel)) (fun _ _ _ _ _ => (pg_name (i := 4) sc_law_square.nd rfl (by first | exact Or.inl rfl | exact Or.inr rfl))) (fun _ _ _ _ _ => pts_one (pt_cmpR (eqRK C.K hr) (pe_lc (own := [("low", 10)]) rfl sc_law_square.nd (pi_range2 (by rfl) B.range (pa_cons pe_int (pa_cons (pv 2) pa_nil))) (blkOk_by (own := [("low", 10)]) (by kernel_rfl)) (fun _ _ _ _ _ => (pg_name (i := 10) sc_law_square.nd rfl (by first | exact Or.inl rfl | exact Or.inr rfl))) (fun _ _ _ _ _ => pts_one (PW.pt (pw_and (pt_cmpR (eqRK C.K hr) (pe_op op_modN (pv 2) (pv 10)) pe_int (nomark _)) (pw_and1 (pt_cmpR (eqRK C.K hr) (pe_op op_modN (pv 4) (pv 10)) pe_int (nomark _)))))) (fun _ _ _ _ _ => (pv 10))) (pe_lst pa_nil) (nomark _))) (fun _ _ _ _ _ => (pv 4)))
      (pss_cons (ps_set (i := 4) sc_law_square.nd rfl (by first | exact Or.inl rfl | exact Or.inr rfl) (pe_ix (ixK C.K) (pv 3) (pg_cal hg c_law_random hr (by rfl) (pa_cons (pv 0) (pa_cons (pe_callB (lenA C.K) (by rfl) B.len PySem.boot_len (pa_cons (pv 3) pa_nil)) pa_nil))) (fun _ _ => rfl)))
      (pss_one (ps_ret (pe_lc (own := [("state", 11)]) rfl sc_law_square.nd (pi_range1 (by rfl) B.range (pa_cons (pv 2) pa_nil)) (blkOk_by (N := ["generator", "way", "size", "weights", "weight", "group", "rows", "signs", "names", "found", "low", "state", "sign", "turn"]) (sc := defScope s_law_square) (own := [("state", 11)]) (by decide +kernel)) (fun _ _ _ _ _ => (pg_name (i := 11) sc_law_square.nd rfl (by first | exact Or.inl rfl | exact Or.inr rfl))) (fun _ _ _ _ _ => pts_nil) (fun _ _ _ _ _ => (pe_lc (own := [("sign", 12)]) rfl sc_law_square.nd (pi_range1 (by rfl) B.range (pa_cons (pv 2) pa_nil)) (blkOk_by (own := [("sign", 12)]) (by kernel_rfl)) (fun _ _ _ _ _ => (pg_name (i := 12) sc_law_square.nd rfl (by first | exact Or.inl rfl | exact Or.inr rfl))) (fun _ _ _ _ _ => pts_nil) (fun _ _ _ _ _ => (pe_op op_modN (pe_callTy call_int1 (by rfl) B.int (by decide +kernel) (pa_cons (pe_op (addK C.K) (pe_op op_mulA (pv 4) (pv 11)) (pv 12)) pa_nil)) (pv 2))))))))))) pss_nil)
      (pss_cons (ps_set (i := 5) sc_law_square.nd rfl (by first | exact Or.inl rfl | exact Or.inr rfl) (pg_cal hg c_law_group hr (by rfl) (pa_cons (pv 0) pa_nil)))
      (pss_cons (ps_asg (pe_lc (own := [("turn", 13)]) rfl sc_law_square.nd (pi_range1 (by rfl) B.range (pa_cons pe_int pa_nil)) (blkOk_by (N := ["generator", "way", "size", "weights", "weight", "group", "rows", "signs", "names", "found", "low", "state", "sign", "turn"]) (sc := defScope s_law_square) (own := [("turn", 13)]) (by decide +kernel)) (fun _ _ _ _ _ => (pg_name (i := 13) sc_law_square.nd rfl (by first | exact Or.inl rfl | exact Or.inr rfl))) (fun _ _ _ _ _ => pts_nil) (fun _ _ _ _ _ => (pg_cal hg c_law_shuffled hr (by rfl) (pa_cons (pv 0) (pa_cons (pe_callB (lenA C.K) (by rfl) B.len PySem.boot_len (pa_cons (pv 5) pa_nil)) pa_nil))))) (pg_lst rfl (pgs_cons (pg_name (i := 6) sc_law_square.nd rfl (by first | exact Or.inl rfl | exact Or.inr rfl)) (pgs_cons (pg_name (i := 7) sc_law_square.nd rfl (by first | exact Or.inl rfl | exact Or.inr rfl)) (pgs_cons (pg_name (i := 8) sc_law_square.nd rfl (by first | exact Or.inl rfl | exact Or.inr rfl)) pgs_nil)))))
      (pss_cons (ps_if (pt_cmpR (eqRK C.K hr) (pv 1) pe_int (nomark _)) (pss_one (ps_ret (pv 5))) pss_nil)
      (pss_cons (ps_setLc (i := 9) (own := [("state", 11)]) rfl sc_law_square.nd rfl rfl (sw_true rfl rfl rfl (by decide +kernel)) (pi_range1 (by rfl) B.range (pa_cons (pe_callB (lenA C.K) (by rfl) B.len PySem.boot_len (pa_cons (pv 5) pa_nil)) pa_nil)) (blkOk_by (N := ["generator", "way", "size", "weights", "weight", "group", "rows", "signs", "names", "found", "low", "state", "sign", "turn"]) (sc := defScope s_law_square) (own := [("state", 11)]) (by decide +kernel)) (fun _ _ _ _ _ => (pg_name (i := 11) sc_law_square.nd rfl (by first | exact Or.inl rfl | exact Or.inr rfl))) (fun _ _ _ _ _ => pts_nil) (fun _ _ _ _ _ => (pe_lc (own := [("sign", 12)]) rfl sc_law_square.nd (pi_range1 (by rfl) B.range (pa_cons (pe_callB (lenA C.K) (by rfl) B.len PySem.boot_len (pa_cons (pv 5) pa_nil)) pa_nil)) (blkOk_by (own := [("sign", 12)]) (by kernel_rfl)) (fun _ _ _ _ _ => (pg_name (i := 12) sc_law_square.nd rfl (by first | exact Or.inl rfl | exact Or.inr rfl))) (fun _ _ _ _ _ => pts_nil) (fun _ _ _ _ _ => (pe_ix (ixK C.K) (pv 8) (pe_ix (ixK C.K) (pe_ix (ixK C.K) (pv 5) (pe_ix (ixK C.K) (pv 6) (pv 11) (fun _ _ => rfl)) (fun _ _ => rfl)) (pe_ix (ixK C.K) (pv 7) (pv 12) (fun _ _ => rfl)) (fun _ _ => rfl)) (fun _ _ => rfl))))))
      (pss_one (ps_ret (pv 9))))))))), by kernel_rfl⟩
theorem sc_is_square : FnScope ["value", "many", "row", "column"] ["value"] (defScope s_is_square) := ⟨rfl, rfl, rfl, by decide +kernel, rfl, by decide +kernel, by decide +kernel⟩
theorem ok_is_square {P : Program} {w : World} {C : N.Ctx} {mg : Str → Option Value} {base : Heap} (B : Bi mg) (sm : smB C.K = true) (c_is_each_once : Cal P w C.K mg base 4 "is_each_once" ["value", "many"] (spN C false D.F_is_each_once)) (h : Has C.K mg "is_square" s_is_square ["value"]) :
    Cal P w C.K mg base 5 "is_square" ["value"] (spN C false D.F_is_square) :=
  has_m (N := ["value", "many", "row", "column"]) (ps := ["value"]) h sc_is_square fun f cdv A outer s H E hg hr =>
    ⟨_, (pss_cons (ps_if (PW.pt (pw_or (pt_not (pt_val (pe_callB (isiK C.K) (by rfl) B.isinstance (by decide +kernel) (pa_cons (pv 0) (pa_cons (pe_bltn (v := .ty "list") (by rfl) B.list (by decide +kernel) rfl) pa_nil))))) (pw_or1 (pt_cmpR op_lt (pe_callB (lenA C.K) (by rfl) B.len PySem.boot_len (pa_cons (pv 0) pa_nil)) pe_int (nomark _))))) (pss_one (ps_ret pe_bl)) pss_nil)
      (pss_cons (ps_set (i := 1) sc_is_square.nd rfl (by first | exact Or.inl rfl | exact Or.inr rfl) (pe_callB (lenA C.K) (by rfl) B.len PySem.boot_len (pa_cons (pv 0) pa_nil)))
      (pss_cons (ps_if (pt_not (pt_val (pe_callB (allK C.K rfl) (by rfl) B.all (by decide +kernel) (pa_cons (pe_lc (own := [("row", 2)]) rfl sc_is_square.nd (pi_or (pi_listK C.K (pv 0)) (pi_tupK C.K (pv 0))) (blkOk_by (N := ["value", "many", "row", "column"]) (sc := defScope s_is_square) (own := [("row", 2)]) (by decide +kernel)) (fun _ _ _ _ _ => (pg_name (i := 2) sc_is_square.nd rfl (by first | exact Or.inl rfl | exact Or.inr rfl))) (fun _ _ _ _ _ => pts_nil) (fun _ _ _ _ _ => (pg_cal hg c_is_each_once hr (by rfl) (pa_cons (pv 2) (pa_cons (pv 1) pa_nil))))) pa_nil)))) (pss_one (ps_ret pe_bl)) pss_nil)
      (pss_one (ps_ret (pe_callB (allK C.K rfl) (by rfl) B.all (by decide +kernel) (pa_cons (pe_lc (own := [("column", 3)]) rfl sc_is_square.nd (pi_range1 (by rfl) B.range (pa_cons (pv 1) pa_nil)) (blkOk_by (N := ["value", "many", "row", "column"]) (sc := defScope s_is_square) (own := [("column", 3)]) (by decide +kernel)) (fun _ _ _ _ _ => (pg_name (i := 3) sc_is_square.nd rfl (by first | exact Or.inl rfl | exact Or.inr rfl))) (fun _ _ _ _ _ => pts_nil) (fun _ _ _ _ _ => (pg_cal hg c_is_each_once hr (by rfl) (pa_cons (pe_lc (own := [("row", 2)]) rfl sc_is_square.nd (pi_or (pi_listK C.K (pv 0)) (pi_tupK C.K (pv 0))) (blkOk_by (own := [("row", 2)]) (by kernel_rfl)) (fun _ _ _ _ _ => (pg_name (i := 2) sc_is_square.nd rfl (by first | exact Or.inl rfl | exact Or.inr rfl))) (fun _ _ _ _ _ => pts_nil) (fun _ _ _ _ _ => (pe_ix (ixK C.K) (pv 2) (pv 3) (fun _ _ => rfl)))) (pa_cons (pv 1) pa_nil))))) pa_nil))))))), by kernel_rfl⟩
theorem sc_is_chain : FnScope ["value", "square", "start", "end"] ["value"] (defScope s_is_chain) := ⟨rfl, rfl, rfl, by decide +kernel, rfl, by decide +kernel, by decide +kernel⟩
theorem ok_is_chain {P : Program} {w : World} {C : N.Ctx} {mg : Str → Option Value} {base : Heap} (B : Bi mg) (sm : smB C.K = true) (c_is_below : Cal P w C.K mg base 2 "is_below" ["value", "many"] (spN C false D.F_is_below)) (c_is_square : Cal P w C.K mg base 5 "is_square" ["value"] (spN C false D.F_is_square)) (h : Has C.K mg "is_chain" s_is_chain ["value"]) :
    Cal P w C.K mg base 6 "is_chain" ["value"] (spN C false D.F_is_chain) :=
  has_m (N := ["value", "square", "start", "end"]) (ps := ["value"]) h sc_is_chain fun f cdv A outer s H E hg hr =>
    ⟨_, (pss_cons (ps_if (PW.pt (pw_or (pt_not (pt_val (pe_callB (isiK C.K) (by rfl) B.isinstance (by decide +kernel) (pa_cons (pv 0) (pa_cons (pe_bltn (v := .ty "tuple") (by rfl) B.tuple (by decide +kernel) rfl) pa_nil))))) (pw_or1 (pt_cmpR (neRK C.K hr) (pe_callB (lenA C.K) (by rfl) B.len PySem.boot_len (pa_cons (pv 0) pa_nil)) pe_int (nomark _))))) (pss_one (ps_ret pe_bl)) pss_nil)
      (pss_cons (ps_asg (pv 0) (pg_tup rfl (pgs_cons (pg_name (i := 1) sc_is_chain.nd rfl (by first | exact Or.inl rfl | exact Or.inr rfl)) (pgs_cons (pg_name (i := 2) sc_is_chain.nd rfl (by first | exact Or.inl rfl | exact Or.inr rfl)) (pgs_cons (pg_name (i := 3) sc_is_chain.nd rfl (by first | exact Or.inl rfl | exact Or.inr rfl)) pgs_nil)))))
      (pss_one (ps_ret (pe_and (pg_cal hg c_is_square hr (by rfl) (pa_cons (pv 1) pa_nil)) (pe_and (pg_cal hg c_is_below hr (by rfl) (pa_cons (pv 2) (pa_cons (pe_callB (lenA C.K) (by rfl) B.len PySem.boot_len (pa_cons (pv 1) pa_nil)) pa_nil))) (pe_one (pg_cal hg c_is_below hr (by rfl) (pa_cons (pv 3) (pa_cons (pe_callB (lenA C.K) (by rfl) B.len PySem.boot_len (pa_cons (pv 1) pa_nil)) pa_nil)))))))))), by kernel_rfl⟩
theorem sc_check_chain : FnScope ["chain"] ["chain"] (defScope s_check_chain) := ⟨rfl, rfl, rfl, by decide +kernel, rfl, by decide +kernel, by decide +kernel⟩
theorem ok_check_chain {P : Program} {w : World} {C : N.Ctx} {mg : Str → Option Value} {base : Heap} (B : Bi mg) (sm : smB C.K = true) (c_is_chain : Cal P w C.K mg base 6 "is_chain" ["value"] (spN C false D.F_is_chain)) (h : Has C.K mg "check_chain" s_check_chain ["chain"]) :
    Cal P w C.K mg base 7 "check_chain" ["chain"] (spN C false D.F_check_chain) :=
  has_m (N := ["chain"]) (ps := ["chain"]) h sc_check_chain fun f cdv A outer s H E hg hr =>
    ⟨_, (pss_one (ps_if (pt_not (pt_val (pg_cal hg c_is_chain hr (by rfl) (pa_cons (pv 0) pa_nil)))) (pss_one ps_never) pss_nil)), by kernel_rfl⟩
theorem sc_how_many_slip : FnScope ["chain", "length", "place", "square", "start", "end", "signs_behind", "many", "state", "one", "two", "last"] ["chain", "length", "place"] (defScope s_how_many_slip) := ⟨rfl, rfl, rfl, by decide +kernel, rfl, by decide +kernel, by decide +kernel⟩
theorem ok_how_many_slip {P : Program} {w : World} {C : N.Ctx} {mg : Str → Option Value} {base : Heap} (B : Bi mg) (sm : smB C.K = true) (c_check_chain : Cal P w C.K mg base 7 "check_chain" ["chain"] (spN C false D.F_check_chain)) (c_check_length : Cal P w C.K mg base 3 "check_length" ["length", "least"] (spN C false D.F_check_length)) (c_is_below : Cal P w C.K mg base 2 "is_below" ["value", "many"] (spN C false D.F_is_below)) (c_all_swaps : Cal P w C.K mg base 1 "all_swaps" ["square"] (spN C false D.F_all_swaps_v2)) (c_how_many_ways : Cal P w C.K mg base 2 "how_many_ways" ["chain", "state", "other", "length"] (spN C false D.F_how_many_ways)) (h : Has C.K mg "how_many_slip" s_how_many_slip ["chain", "length", "place"]) :
    Cal P w C.K mg base 8 "how_many_slip" ["chain", "length", "place"] (spN C false D.F_how_many_slip_v2) :=
  has_m (N := ["chain", "length", "place", "square", "start", "end", "signs_behind", "many", "state", "one", "two", "last"]) (ps := ["chain", "length", "place"]) h sc_how_many_slip fun f cdv A outer s H E hg hr =>
    ⟨_, (pss_cons (ps_expr (pg_cal hg c_check_chain hr (by rfl) (pa_cons (pv 0) pa_nil)))
      (pss_cons (ps_expr (pg_cal hg c_check_length hr (by rfl) (pa_cons (pv 1) (pa_cons pe_int pa_nil))))
      (pss_cons (ps_if (pt_not (pt_val (pg_cal hg c_is_below hr (by rfl) (pa_cons (pv 2) (pa_cons (pe_op op_sub (pv 1) pe_int) pa_nil))))) (pss_one ps_never) pss_nil)
      (pss_cons (ps_asg (pv 0) (pg_tup rfl (pgs_cons (pg_name (i := 3) sc_how_many_slip.nd rfl (by first | exact Or.inl rfl | exact Or.inr rfl)) (pgs_cons (pg_name (i := 4) sc_how_many_slip.nd rfl (by first | exact Or.inl rfl | exact Or.inr rfl)) (pgs_cons (pg_name (i := 5) sc_how_many_slip.nd rfl (by first | exact Or.inl rfl | exact Or.inr rfl)) pgs_nil)))))
      (pss_cons (ps_set (i := 6) sc_how_many_slip.nd rfl (by first | exact Or.inl rfl | exact Or.inr rfl) (pe_op op_sub (pe_op op_sub (pv 1) (pv 2)) pe_int))
      (pss_cons (ps_set (i := 7) sc_how_many_slip.nd rfl (by first | exact Or.inl rfl | exact Or.inr rfl) pe_int)
      (pss_cons (ps_for PassesOwn.never rfl (pi_or (pi_listK C.K (pg_cal hg c_all_swaps hr (by rfl) (pa_cons (pv 3) pa_nil))) (pi_tupK C.K (pg_cal hg c_all_swaps hr (by rfl) (pa_cons (pv 3) pa_nil)))) (pg_tup rfl (pgs_cons (pg_name (i := 8) sc_how_many_slip.nd rfl (by first | exact Or.inl rfl | exact Or.inr rfl)) (pgs_cons (pg_name (i := 9) sc_how_many_slip.nd rfl (by first | exact Or.inl rfl | exact Or.inr rfl)) (pgs_cons (pg_name (i := 10) sc_how_many_slip.nd rfl (by first | exact Or.inl rfl | exact Or.inr rfl)) pgs_nil)))) (pss_cons (ps_set (i := 11) sc_how_many_slip.nd rfl (by first | exact Or.inl rfl | exact Or.inr rfl) (pe_ix (ixK C.K) (pe_ix (ixK C.K) (pv 3) (pe_ix (ixK C.K) (pe_ix (ixK C.K) (pv 3) (pv 8) (fun _ _ => rfl)) (pv 9) (fun _ _ => rfl)) (fun _ _ => rfl)) (pv 10) (fun _ _ => rfl)))
      (pss_one (ps_set (i := 7) sc_how_many_slip.nd rfl (by first | exact Or.inl rfl | exact Or.inr rfl) (pe_op (addK C.K) (pv 7) (pe_op op_mulA (pe_op op_mulA pe_int (pg_cal hg c_how_many_ways hr (by rfl) (pa_cons (pv 0) (pa_cons (pv 4) (pa_cons (pv 8) (pa_cons (pv 2) pa_nil)))))) (pg_cal hg c_how_many_ways hr (by rfl) (pa_cons (pv 0) (pa_cons (pv 11) (pa_cons (pv 5) (pa_cons (pv 6) pa_nil)))))))))))
      (pss_one (ps_ret (pv 7)))))))))), by kernel_rfl⟩
theorem sc_how_many_right_lists : FnScope ["chain", "length"] ["chain", "length"] (defScope s_how_many_right_lists) := ⟨rfl, rfl, rfl, by decide +kernel, rfl, by decide +kernel, by decide +kernel⟩
theorem ok_how_many_right_lists {P : Program} {w : World} {C : N.Ctx} {mg : Str → Option Value} {base : Heap} (B : Bi mg) (sm : smB C.K = true) (c_check_chain : Cal P w C.K mg base 7 "check_chain" ["chain"] (spN C false D.F_check_chain)) (c_check_length : Cal P w C.K mg base 3 "check_length" ["length", "least"] (spN C false D.F_check_length)) (c_power : Cal P w C.K mg base 1 "power" ["base", "times"] (spN C false D.F_power)) (h : Has C.K mg "how_many_right_lists" s_how_many_right_lists ["chain", "length"]) :
    Cal P w C.K mg base 8 "how_many_right_lists" ["chain", "length"] (spN C false D.F_how_many_right_lists) :=
  has_m (N := ["chain", "length"]) (ps := ["chain", "length"]) h sc_how_many_right_lists fun f cdv A outer s H E hg hr =>
    ⟨_, (pss_cons (ps_expr (pg_cal hg c_check_chain hr (by rfl) (pa_cons (pv 0) pa_nil)))
      (pss_cons (ps_expr (pg_cal hg c_check_length hr (by rfl) (pa_cons (pv 1) (pa_cons pe_int pa_nil))))
      (pss_one (ps_ret (pg_cal hg c_power hr (by rfl) (pa_cons (pe_callB (lenA C.K) (by rfl) B.len PySem.boot_len (pa_cons (pe_ix (ixK C.K) (pv 0) pe_int (fun _ _ => rfl)) pa_nil)) (pa_cons (pe_op op_sub (pv 1) pe_int) pa_nil))))))), by kernel_rfl⟩
theorem sc_law_right : FnScope ["generator", "square", "size", "chain", "kept", "length", "place", "due", "inner", "state", "sign"] ["generator"] (defScope s_law_right) := ⟨rfl, rfl, rfl, by decide +kernel, rfl, by decide +kernel, by decide +kernel⟩
theorem ok_law_right {P : Program} {w : World} {C : N.Ctx} {mg : Str → Option Value} {base : Heap} (B : Bi mg) (sm : smB C.K = true) (c_law_square : Cal P w C.K mg base 4 "_law_square" ["generator"] (spN C false D.F_law_square_v2)) (c_law_random : Cal P w C.K mg base 2 "_law_random" ["generator", "limit"] (spN C false D.F_law_random_v2)) (c_how_many_slip : Cal P w C.K mg base 8 "how_many_slip" ["chain", "length", "place"] (spN C false D.F_how_many_slip_v2)) (c_law_slips : Cal P w C.K mg base 2 "_law_slips" ["chain", "length", "place"] (spN C false D.F_law_slips)) (c_law_power : Cal P w C.K mg base 1 "_law_power" ["base", "many"] (spN C false D.F_law_power)) (c_law_counted : Cal P w C.K mg base 2 "_law_counted" ["chain", "length", "place"] (spN C false D.F_law_counted_v2)) (c_law_swaps : Cal P w C.K mg base 1 "_law_swaps" ["square"] (spN C false D.F_law_swaps)) (c_how_many_right_lists : Cal P w C.K mg base 8 "how_many_right_lists" ["chain", "length"] (spN C false D.F_how_many_right_lists)) (k_how_many_slip_place_length_chain : CalK P w C.K mg base 8 "how_many_slip" ["chain", "length", "place"] ["place", "length", "chain"] (kwgI [2, 1, 0]) (spN C false D.F_how_many_slip_v2)) (h : Has C.K mg "_law_right" s_law_right ["generator"]) :
    Cal P w C.K mg base 9 "_law_right" ["generator"] (spN C false D.F_law_right_v53) :=
  has_m (N := ["generator", "square", "size", "chain", "kept", "length", "place", "due", "inner", "state", "sign"]) (ps := ["generator"]) h sc_law_right fun f cdv A outer s H E hg hr =>
    ⟨_, (pss_cons (ps_set (i := 1) sc_law_right.nd rfl (by first | exact Or.inl rfl | exact Or.inr rfl) (pg_cal hg c_law_square hr (by rfl) (pa_cons (pv 0) pa_nil)))
      (pss_cons (ps_if (pt_cmpR op_gt (pe_callB (lenA C.K) (by rfl) B.len PySem.boot_len (pa_cons (pv 1) pa_nil)) pe_int (nomark _)) (pss_one (ps_setLc (i := 1) (own := [("state", 9)]) rfl sc_law_right.nd rfl rfl (sw_true rfl rfl rfl (by decide +kernel)) (pi_range1 (by rfl) B.range (pa_cons pe_int pa_nil)) (blkOk_by (N := ["generator", "square", "size", "chain", "kept", "length", "place", "due", "inner", "state", "sign"]) (sc := defScope s_law_right) (own := [("state", 9)]) (by decide +kernel)) (fun _ _ _ _ _ => (pg_name (i := 9) sc_law_right.nd rfl (by first | exact Or.inl rfl | exact Or.inr rfl))) (fun _ _ _ _ _ => pts_nil) (fun _ _ _ _ _ => (pe_lc (own := [("sign", 10)]) rfl sc_law_right.nd (pi_range1 (by rfl) B.range (pa_cons pe_int pa_nil)) (blkOk_by (own := [("sign", 10)]) (by kernel_rfl)) (fun _ _ _ _ _ => (pg_name (i := 10) sc_law_right.nd rfl (by first | exact Or.inl rfl | exact Or.inr rfl))) (fun _ _ _ _ _ => pts_nil) (fun _ _ _ _ _ => (pe_op op_modN (pe_callTy call_int1 (by rfl) B.int (by decide +kernel) (pa_cons (pe_op (addK C.K) (pe_op op_mulA pe_int (pv 9)) (pv 10)) pa_nil)) pe_int)))))) pss_nil)
      (pss_cons (ps_set (i := 2) sc_law_right.nd rfl (by first | exact Or.inl rfl | exact Or.inr rfl) (pe_callB (lenA C.K) (by rfl) B.len PySem.boot_len (pa_cons (pv 1) pa_nil)))
      (pss_cons (ps_set (i := 3) sc_law_right.nd rfl (by first | exact Or.inl rfl | exact Or.inr rfl) (pe_tup (pa_cons (pv 1) (pa_cons (pg_cal hg c_law_random hr (by rfl) (pa_cons (pv 0) (pa_cons (pv 2) pa_nil))) (pa_cons (pg_cal hg c_law_random hr (by rfl) (pa_cons (pv 0) (pa_cons (pv 2) pa_nil))) pa_nil)))))
      (pss_cons (ps_set (i := 4) sc_law_right.nd rfl (by first | exact Or.inl rfl | exact Or.inr rfl) (pe_callB (reprQK sm hg hr) (by rfl) B.repr (by decide +kernel) (pa_cons (pv 3) pa_nil)))
      (pss_cons (ps_for PassesOwn.never rfl (pi_listK C.K (pe_lst (pa_cons pe_int (pa_cons pe_int (pa_cons pe_int pa_nil))))) (pg_name (i := 5) sc_law_right.nd rfl (by first | exact Or.inl rfl | exact Or.inr rfl)) (pss_one (ps_for PassesOwn.never rfl (pi_range1 (by rfl) B.range (pa_cons (pe_op op_sub (pv 5) pe_int) pa_nil)) (pg_name (i := 6) sc_law_right.nd rfl (by first | exact Or.inl rfl | exact Or.inr rfl)) (pss_cons (ps_set (i := 7) sc_law_right.nd rfl (by first | exact Or.inl rfl | exact Or.inr rfl) (pg_cal hg c_law_counted hr (by rfl) (pa_cons (pv 3) (pa_cons (pv 5) (pa_cons (pv 6) pa_nil)))))
      (pss_cons (ps_if (PW.pt (pw_and (pt_cmpR op_lt (pg_cal hg c_law_power hr (by rfl) (pa_cons (pv 2) (pa_cons (pv 5) pa_nil))) pe_int (nomark _)) (pw_and1 (pt_cmpR (neRK C.K hr) (pv 7) (pg_cal hg c_law_slips hr (by rfl) (pa_cons (pv 3) (pa_cons (pv 5) (pa_cons (pv 6) pa_nil)))) (nomark _))))) (pss_one (ps_ret pe_bl)) pss_nil)
      (pss_one (ps_if (PW.pt (pw_or (pt_cmpR (neRK C.K hr) (pe_callB (reprQK sm hg hr) (by rfl) B.repr (by decide +kernel) (pa_cons (pg_cal hg c_how_many_slip hr (by rfl) (pa_cons (pv 3) (pa_cons (pv 5) (pa_cons (pv 6) pa_nil)))) pa_nil)) (pe_callB (reprQK sm hg hr) (by rfl) B.repr (by decide +kernel) (pa_cons (pv 7) pa_nil)) (nomark _)) (pw_or1 (pt_cmpR (neRK C.K hr) (pg_calK hg k_how_many_slip_place_length_chain hr (by rfl) (pk_cons (pv 6) (pk_cons (pv 5) (pk_cons (pv 3) pk_nil)))) (pv 7) (nomark _))))) (pss_one (ps_ret pe_bl)) pss_nil)))))))
      (pss_cons (ps_set (i := 5) sc_law_right.nd rfl (by first | exact Or.inl rfl | exact Or.inr rfl) (pe_op (addK C.K) pe_int (pg_cal hg c_law_random hr (by rfl) (pa_cons (pv 0) (pa_cons pe_int pa_nil)))))
      (pss_cons (ps_setLc (i := 8) (own := [("place", 6)]) rfl sc_law_right.nd rfl rfl (sw_true rfl rfl rfl (by decide +kernel)) (pi_range2 (by rfl) B.range (pa_cons pe_int (pa_cons (pe_op op_sub (pv 5) pe_int) pa_nil))) (blkOk_by (N := ["generator", "square", "size", "chain", "kept", "length", "place", "due", "inner", "state", "sign"]) (sc := defScope s_law_right) (own := [("place", 6)]) (by decide +kernel)) (fun _ _ _ _ _ => (pg_name (i := 6) sc_law_right.nd rfl (by first | exact Or.inl rfl | exact Or.inr rfl))) (fun _ _ _ _ _ => pts_nil) (fun _ _ _ _ _ => (pg_cal hg c_how_many_slip hr (by rfl) (pa_cons (pv 3) (pa_cons (pv 5) (pa_cons (pv 6) pa_nil))))))
      (pss_cons (ps_if (PW.pt (pw_or (pt_cmpR (neRK C.K hr) (lenSetX C.K (by rfl) B.len (by rfl) B.set (pv 8)) pe_int (nomark _)) (pw_or (pt_cmpR (neRK C.K hr) (pe_ix (ixK C.K) (pv 8) pe_int (fun _ _ => rfl)) (pg_cal hg c_law_counted hr (by rfl) (pa_cons (pv 3) (pa_cons (pv 5) (pa_cons pe_int pa_nil)))) (nomark _)) (pw_or1 (pt_cmpR (neRK C.K hr) (pe_ix (ixK C.K) (pv 8) pe_int (fun _ _ => rfl)) (pe_op op_mulA (pe_op op_mulA pe_int (pe_callB (lenA C.K) (by rfl) B.len PySem.boot_len (pa_cons (pg_cal hg c_law_swaps hr (by rfl) (pa_cons (pv 1) pa_nil)) pa_nil))) (pg_cal hg c_law_power hr (by rfl) (pa_cons (pv 2) (pa_cons (pe_op op_sub (pv 5) pe_int) pa_nil)))) (nomark _)))))) (pss_one (ps_ret pe_bl)) pss_nil)
      (pss_one (ps_ret (pe_and (pe_cmpR (eqRK C.K hr) (pe_callB (reprQK sm hg hr) (by rfl) B.repr (by decide +kernel) (pa_cons (pv 3) pa_nil)) (pv 4) (nomark _)) (pe_one (pe_cmpR (eqRK C.K hr) (pg_cal hg c_how_many_right_lists hr (by rfl) (pa_cons (pv 3) (pa_cons (pv 5) pa_nil))) (pg_cal hg c_law_power hr (by rfl) (pa_cons (pv 2) (pa_cons (pe_op op_sub (pv 5) pe_int) pa_nil))) (nomark _))))))))))))))), by kernel_rfl⟩
theorem sc_law : FnScope ["script", "index", "two"] ["script"] (defScope s_law) := ⟨rfl, rfl, rfl, by decide +kernel, rfl, by decide +kernel, by decide +kernel⟩
theorem ok_law {P : Program} {w : World} {C : N.Ctx} {mg : Str → Option Value} {base : Heap} (B : Bi mg) (sm : smB C.K = true) (c_law_right : Cal P w C.K mg base 9 "_law_right" ["generator"] (spN C false D.F_law_right_v53)) (c_law_generator : Cal P w C.K mg base 2 "_law_generator" ["script", "index"] (spN C false D.F_law_generator)) (c_how_many_slip : Cal P w C.K mg base 8 "how_many_slip" ["chain", "length", "place"] (spN C false D.F_how_many_slip_v2)) (h : Has C.K mg "law" s_law ["script"]) :
    Cal P w C.K mg base 10 "law" ["script"] (spN C false D.F_law_v76) :=
  has_m (N := ["script", "index", "two"]) (ps := ["script"]) h sc_law fun f cdv A outer s H E hg hr =>
    ⟨_, (pss_cons (ps_for PassesOwn.never rfl (pi_range1 (by rfl) B.range (pa_cons pe_int pa_nil)) (pg_name (i := 1) sc_law.nd rfl (by first | exact Or.inl rfl | exact Or.inr rfl)) (pss_one (ps_if (pt_not (pt_val (pg_cal hg c_law_right hr (by rfl) (pa_cons (pg_cal hg c_law_generator hr (by rfl) (pa_cons (pv 0) (pa_cons (pv 1) pa_nil))) pa_nil)))) (pss_one (ps_ret pe_bl)) pss_nil)))
      (pss_cons (ps_set (i := 2) sc_law.nd rfl (by first | exact Or.inl rfl | exact Or.inr rfl) (pe_tup (pa_cons (pe_lst (pa_cons (pe_lst (pa_cons pe_int (pa_cons pe_int pa_nil))) (pa_cons (pe_lst (pa_cons pe_int (pa_cons pe_int pa_nil))) pa_nil))) (pa_cons pe_int (pa_cons pe_int pa_nil)))))
      (pss_one (ps_ret (pe_cmpR (eqRK C.K hr) (pe_lst (pa_cons (pg_cal hg c_how_many_slip hr (by rfl) (pa_cons (pv 2) (pa_cons pe_int (pa_cons pe_int pa_nil)))) (pa_cons (pg_cal hg c_how_many_slip hr (by rfl) (pa_cons (pv 2) (pa_cons pe_int (pa_cons pe_int pa_nil)))) (pa_cons (pg_cal hg c_how_many_slip hr (by rfl) (pa_cons (pv 2) (pa_cons pe_int (pa_cons pe_int pa_nil)))) (pa_cons (pg_cal hg c_how_many_slip hr (by rfl) (pa_cons (pv 2) (pa_cons pe_int (pa_cons pe_int pa_nil)))) pa_nil))))) (pe_lst (pa_cons pe_int (pa_cons pe_int (pa_cons pe_int (pa_cons (pe_op op_shl pe_int pe_int) pa_nil))))) (nomark _)))))), by kernel_rfl⟩
theorem kw_how_many_slip_place_length_chain {P : Program} {w : World} {K : PySem.W.Frag} {mg : Str → Option Value} {base : Heap} {k : Nat} {q : Sp} (c : Cal P w K mg base k "how_many_slip" ["chain", "length", "place"] q) (h : Has K mg "how_many_slip" s_how_many_slip ["chain", "length", "place"]) : CalK P w K mg base k "how_many_slip" ["chain", "length", "place"] ["place", "length", "chain"] (kwgI [2, 1, 0]) q :=
  c.kw h (g := kwgI [2, 1, 0]) (fun _ _ _ _ _ _ us ws hl => by obtain ⟨rfl, hl2⟩ := kwgI_len hl; match ws, hl2 with | [a0, a1, a2], _ => rfl) (kwgI_rel [2, 1, 0])
end K50
end
section
set_option maxRecDepth 100000
set_option maxHeartbeats 0
namespace K50
open PySem PySem.Spec PyProof.Rows L2 G N
theorem facts {P : Program} {w : World} {K : PySem.W.Frag} {h : Heap} {mg : Str → Option Value} (X : K.In h) (Gn : h.Ns mainGlobals mg) (c : He.SaysM fa fn ex K) :
    ∃ fd : FuncData, (∀ (s : Shared) (v : Value), BindsTo s fd ⟨[v], []⟩ [("script", v)]) ∧ ∀ base : Heap, K.In base → base.Ns mainGlobals mg → FnG P w K mg base CX0 10 (He.ga K "law") fd ["script"] (spN ⟨K, fun _ => 0⟩ false D.F_law_v76) := by
  have mo : (G.smB K) = true := c.more
  have sm0 := mo
  have sm : smB (N.Ctx.mk K fun _ => 0).K = true := sm0
  have B : Bi mg := ⟨He.free_ok X Gn (c.d.fact 33 (f := .free "all") rfl), He.free_ok X Gn (c.d.fact 34 (f := .free "bool") rfl), He.free_ok X Gn (c.d.fact 35 (f := .free "enumerate") rfl), He.free_ok X Gn (c.d.fact 36 (f := .free "int") rfl), He.free_ok X Gn (c.d.fact 37 (f := .free "isinstance") rfl), He.free_ok X Gn (c.d.fact 38 (f := .free "len") rfl), He.free_ok X Gn (c.d.fact 39 (f := .free "list") rfl), He.free_ok X Gn (c.d.fact 40 (f := .free "max") rfl), He.free_ok X Gn (c.d.fact 41 (f := .free "range") rfl), He.free_ok X Gn (c.d.fact 42 (f := .free "repr") rfl), He.free_ok X Gn (c.d.fact 43 (f := .free "set") rfl), He.free_ok X Gn (c.d.fact 44 (f := .free "sum") rfl), He.free_ok X Gn (c.d.fact 45 (f := .free "tuple") rfl)⟩
  have h_is_whole : Has K mg "is_whole" s_is_whole ["value"] := has_of (c.d.def_ 0 (d := mkD "is_whole" s_is_whole) rfl) (He.glo_ok X Gn (c.d.fact 0 (f := .glo "is_whole") rfl)) fun _ _ _ _ _ _ us hl => match us, hl with | [_], _ => rfl
  have h_is_from : Has K mg "is_from" s_is_from ["value", "least"] := has_of (c.d.def_ 1 (d := mkD "is_from" s_is_from) rfl) (He.glo_ok X Gn (c.d.fact 1 (f := .glo "is_from") rfl)) fun _ _ _ _ _ _ us hl => match us, hl with | [_, _], _ => rfl
  have h_is_below : Has K mg "is_below" s_is_below ["value", "many"] := has_of (c.d.def_ 2 (d := mkD "is_below" s_is_below) rfl) (He.glo_ok X Gn (c.d.fact 2 (f := .glo "is_below") rfl)) fun _ _ _ _ _ _ us hl => match us, hl with | [_, _], _ => rfl
  have h_are_below : Has K mg "are_below" s_are_below ["value", "many"] := has_of (c.d.def_ 3 (d := mkD "are_below" s_are_below) rfl) (He.glo_ok X Gn (c.d.fact 3 (f := .glo "are_below") rfl)) fun _ _ _ _ _ _ us hl => match us, hl with | [_, _], _ => rfl
  have h_is_each_once : Has K mg "is_each_once" s_is_each_once ["value", "many"] := has_of (c.d.def_ 4 (d := mkD "is_each_once" s_is_each_once) rfl) (He.glo_ok X Gn (c.d.fact 4 (f := .glo "is_each_once") rfl)) fun _ _ _ _ _ _ us hl => match us, hl with | [_, _], _ => rfl
  have h_power : Has K mg "power" s_power ["base", "times"] := has_of (c.d.def_ 5 (d := mkD "power" s_power) rfl) (He.glo_ok X Gn (c.d.fact 5 (f := .glo "power") rfl)) fun _ _ _ _ _ _ us hl => match us, hl with | [_, _], _ => rfl
  have h_is_square : Has K mg "is_square" s_is_square ["value"] := has_of (c.d.def_ 6 (d := mkD "is_square" s_is_square) rfl) (He.glo_ok X Gn (c.d.fact 6 (f := .glo "is_square") rfl)) fun _ _ _ _ _ _ us hl => match us, hl with | [_], _ => rfl
  have h_all_swaps : Has K mg "all_swaps" s_all_swaps ["square"] := has_of (c.d.def_ 7 (d := mkD "all_swaps" s_all_swaps) rfl) (He.glo_ok X Gn (c.d.fact 7 (f := .glo "all_swaps") rfl)) fun _ _ _ _ _ _ us hl => match us, hl with | [_], _ => rfl
  have h_is_chain : Has K mg "is_chain" s_is_chain ["value"] := has_of (c.d.def_ 8 (d := mkD "is_chain" s_is_chain) rfl) (He.glo_ok X Gn (c.d.fact 8 (f := .glo "is_chain") rfl)) fun _ _ _ _ _ _ us hl => match us, hl with | [_], _ => rfl
  have h_how_many_slip : Has K mg "how_many_slip" s_how_many_slip ["chain", "length", "place"] := has_of (c.d.def_ 9 (d := mkD "how_many_slip" s_how_many_slip) rfl) (He.glo_ok X Gn (c.d.fact 9 (f := .glo "how_many_slip") rfl)) fun _ _ _ _ _ _ us hl => match us, hl with | [_, _, _], _ => rfl
  have h_how_many_right_lists : Has K mg "how_many_right_lists" s_how_many_right_lists ["chain", "length"] := has_of (c.d.def_ 10 (d := mkD "how_many_right_lists" s_how_many_right_lists) rfl) (He.glo_ok X Gn (c.d.fact 10 (f := .glo "how_many_right_lists") rfl)) fun _ _ _ _ _ _ us hl => match us, hl with | [_, _], _ => rfl
  have h_check_chain : Has K mg "check_chain" s_check_chain ["chain"] := has_of (c.d.def_ 11 (d := mkD "check_chain" s_check_chain) rfl) (He.glo_ok X Gn (c.d.fact 11 (f := .glo "check_chain") rfl)) fun _ _ _ _ _ _ us hl => match us, hl with | [_], _ => rfl
  have h_check_length : Has K mg "check_length" s_check_length ["length", "least"] := has_of (c.d.def_ 12 (d := mkD "check_length" s_check_length) rfl) (He.glo_ok X Gn (c.d.fact 12 (f := .glo "check_length") rfl)) fun _ _ _ _ _ _ us hl => match us, hl with | [_, _], _ => rfl
  have h_how_many_ways : Has K mg "how_many_ways" s_how_many_ways ["chain", "state", "other", "length"] := has_of (c.d.def_ 13 (d := mkD "how_many_ways" s_how_many_ways) rfl) (He.glo_ok X Gn (c.d.fact 13 (f := .glo "how_many_ways") rfl)) fun _ _ _ _ _ _ us hl => match us, hl with | [_, _, _, _], _ => rfl
  have h_law_cell : Has K mg "_law_cell" s_law_cell ["script", "index"] := has_of (c.d.def_ 14 (d := mkD "_law_cell" s_law_cell) rfl) (He.glo_ok X Gn (c.d.fact 14 (f := .glo "_law_cell") rfl)) fun _ _ _ _ _ _ us hl => match us, hl with | [_, _], _ => rfl
  have h_law_hash : Has K mg "_law_hash" s_law_hash ["seed", "index"] := has_of (c.d.def_ 15 (d := mkD "_law_hash" s_law_hash) rfl) (He.glo_ok X Gn (c.d.fact 15 (f := .glo "_law_hash") rfl)) fun _ _ _ _ _ _ us hl => match us, hl with | [_, _], _ => rfl
  have h_law_generator : Has K mg "_law_generator" s_law_generator ["script", "index"] := has_of (c.d.def_ 16 (d := mkD "_law_generator" s_law_generator) rfl) (He.glo_ok X Gn (c.d.fact 16 (f := .glo "_law_generator") rfl)) fun _ _ _ _ _ _ us hl => match us, hl with | [_, _], _ => rfl
  have h_law_random : Has K mg "_law_random" s_law_random ["generator", "limit"] := has_of (c.d.def_ 17 (d := mkD "_law_random" s_law_random) rfl) (He.glo_ok X Gn (c.d.fact 17 (f := .glo "_law_random") rfl)) fun _ _ _ _ _ _ us hl => match us, hl with | [_, _], _ => rfl
  have h_law_abelian : Has K mg "_law_abelian" s_law_abelian ["orders"] := has_of (c.d.def_ 18 (d := mkD "_law_abelian" s_law_abelian) rfl) (He.glo_ok X Gn (c.d.fact 18 (f := .glo "_law_abelian") rfl)) fun _ _ _ _ _ _ us hl => match us, hl with | [_], _ => rfl
  have h_law_dihedral : Has K mg "_law_dihedral" s_law_dihedral ["turns"] := has_of (c.d.def_ 19 (d := mkD "_law_dihedral" s_law_dihedral) rfl) (He.glo_ok X Gn (c.d.fact 19 (f := .glo "_law_dihedral") rfl)) fun _ _ _ _ _ _ us hl => match us, hl with | [_], _ => rfl
  have h_law_group : Has K mg "_law_group" s_law_group ["generator"] := has_of (c.d.def_ 20 (d := mkD "_law_group" s_law_group) rfl) (He.glo_ok X Gn (c.d.fact 20 (f := .glo "_law_group") rfl)) fun _ _ _ _ _ _ us hl => match us, hl with | [_], _ => rfl
  have h_law_shuffled : Has K mg "_law_shuffled" s_law_shuffled ["generator", "size"] := has_of (c.d.def_ 21 (d := mkD "_law_shuffled" s_law_shuffled) rfl) (He.glo_ok X Gn (c.d.fact 21 (f := .glo "_law_shuffled") rfl)) fun _ _ _ _ _ _ us hl => match us, hl with | [_, _], _ => rfl
  have h_law_all_codes : Has K mg "_law_all_codes" s_law_all_codes ["size", "places"] := has_of (c.d.def_ 22 (d := mkD "_law_all_codes" s_law_all_codes) rfl) (He.glo_ok X Gn (c.d.fact 22 (f := .glo "_law_all_codes") rfl)) fun _ _ _ _ _ _ us hl => match us, hl with | [_, _], _ => rfl
  have h_law_square : Has K mg "_law_square" s_law_square ["generator"] := has_of (c.d.def_ 23 (d := mkD "_law_square" s_law_square) rfl) (He.glo_ok X Gn (c.d.fact 23 (f := .glo "_law_square") rfl)) fun _ _ _ _ _ _ us hl => match us, hl with | [_], _ => rfl
  have h_law_swaps : Has K mg "_law_swaps" s_law_swaps ["square"] := has_of (c.d.def_ 24 (d := mkD "_law_swaps" s_law_swaps) rfl) (He.glo_ok X Gn (c.d.fact 24 (f := .glo "_law_swaps") rfl)) fun _ _ _ _ _ _ us hl => match us, hl with | [_], _ => rfl
  have h_law_last : Has K mg "_law_last" s_law_last ["chain", "code"] := has_of (c.d.def_ 25 (d := mkD "_law_last" s_law_last) rfl) (He.glo_ok X Gn (c.d.fact 25 (f := .glo "_law_last") rfl)) fun _ _ _ _ _ _ us hl => match us, hl with | [_, _], _ => rfl
  have h_law_slips : Has K mg "_law_slips" s_law_slips ["chain", "length", "place"] := has_of (c.d.def_ 26 (d := mkD "_law_slips" s_law_slips) rfl) (He.glo_ok X Gn (c.d.fact 26 (f := .glo "_law_slips") rfl)) fun _ _ _ _ _ _ us hl => match us, hl with | [_, _, _], _ => rfl
  have h_law_reached : Has K mg "_law_reached" s_law_reached ["square", "start", "length"] := has_of (c.d.def_ 27 (d := mkD "_law_reached" s_law_reached) rfl) (He.glo_ok X Gn (c.d.fact 27 (f := .glo "_law_reached") rfl)) fun _ _ _ _ _ _ us hl => match us, hl with | [_, _, _], _ => rfl
  have h_law_counted : Has K mg "_law_counted" s_law_counted ["chain", "length", "place"] := has_of (c.d.def_ 28 (d := mkD "_law_counted" s_law_counted) rfl) (He.glo_ok X Gn (c.d.fact 28 (f := .glo "_law_counted") rfl)) fun _ _ _ _ _ _ us hl => match us, hl with | [_, _, _], _ => rfl
  have h_law_right : Has K mg "_law_right" s_law_right ["generator"] := has_of (c.d.def_ 29 (d := mkD "_law_right" s_law_right) rfl) (He.glo_ok X Gn (c.d.fact 29 (f := .glo "_law_right") rfl)) fun _ _ _ _ _ _ us hl => match us, hl with | [_], _ => rfl
  have h_law_power : Has K mg "_law_power" s_law_power ["base", "many"] := has_of (c.d.def_ 30 (d := mkD "_law_power" s_law_power) rfl) (He.glo_ok X Gn (c.d.fact 30 (f := .glo "_law_power") rfl)) fun _ _ _ _ _ _ us hl => match us, hl with | [_, _], _ => rfl
  have h_law : Has K mg "law" s_law ["script"] := has_of (c.d.def_ 31 (d := mkD "law" s_law) rfl) (He.glo_ok X Gn (c.d.fact 31 (f := .glo "law") rfl)) fun _ _ _ _ _ _ us hl => match us, hl with | [_], _ => rfl
  refine law_end (x := "law") (y := "script") (st := s_law) (c.d.def_ 31 (d := mkD "law" s_law) rfl) (He.glo_ok X Gn (c.d.fact 31 (f := .glo "law") rfl)) (fun _ _ _ _ _ _ us hl => match us, hl with | [_], _ => rfl) fun base hb hn => ?_
  have c_is_whole := ok_is_whole (P := P) (w := w) (C := ⟨K, fun _ => 0⟩) (base := base) B sm h_is_whole
  have c_power := ok_power (P := P) (w := w) (C := ⟨K, fun _ => 0⟩) (base := base) B sm h_power
  have c_all_swaps := ok_all_swaps (P := P) (w := w) (C := ⟨K, fun _ => 0⟩) (base := base) B sm h_all_swaps
  have c_law_cell := ok_law_cell (P := P) (w := w) (C := ⟨K, fun _ => 0⟩) (base := base) B sm h_law_cell
  have c_law_hash := ok_law_hash (P := P) (w := w) (C := ⟨K, fun _ => 0⟩) (base := base) B sm h_law_hash
  have c_law_abelian := ok_law_abelian (P := P) (w := w) (C := ⟨K, fun _ => 0⟩) (base := base) B sm h_law_abelian
  have c_law_dihedral := ok_law_dihedral (P := P) (w := w) (C := ⟨K, fun _ => 0⟩) (base := base) B sm h_law_dihedral
  have c_law_all_codes := ok_law_all_codes (P := P) (w := w) (C := ⟨K, fun _ => 0⟩) (base := base) B sm h_law_all_codes
  have c_law_swaps := ok_law_swaps (P := P) (w := w) (C := ⟨K, fun _ => 0⟩) (base := base) B sm h_law_swaps
  have c_law_last := ok_law_last (P := P) (w := w) (C := ⟨K, fun _ => 0⟩) (base := base) B sm h_law_last
  have c_law_reached := ok_law_reached (P := P) (w := w) (C := ⟨K, fun _ => 0⟩) (base := base) B sm h_law_reached
  have c_law_power := ok_law_power (P := P) (w := w) (C := ⟨K, fun _ => 0⟩) (base := base) B sm h_law_power
  have c_is_from := ok_is_from (P := P) (w := w) (C := ⟨K, fun _ => 0⟩) (base := base) B sm c_is_whole h_is_from
  have c_is_below := ok_is_below (P := P) (w := w) (C := ⟨K, fun _ => 0⟩) (base := base) B sm c_is_whole h_is_below
  have c_how_many_ways := ok_how_many_ways (P := P) (w := w) (C := ⟨K, fun _ => 0⟩) (base := base) B sm c_power h_how_many_ways
  have c_law_generator := ok_law_generator (P := P) (w := w) (C := ⟨K, fun _ => 0⟩) (base := base) B sm c_law_cell h_law_generator
  have c_law_random := ok_law_random (P := P) (w := w) (C := ⟨K, fun _ => 0⟩) (base := base) B sm c_law_hash h_law_random
  have c_law_slips := ok_law_slips (P := P) (w := w) (C := ⟨K, fun _ => 0⟩) (base := base) B sm c_law_all_codes c_law_last h_law_slips
  have c_law_counted := ok_law_counted (P := P) (w := w) (C := ⟨K, fun _ => 0⟩) (base := base) B sm c_law_reached c_law_swaps h_law_counted
  have c_are_below := ok_are_below (P := P) (w := w) (C := ⟨K, fun _ => 0⟩) (base := base) B sm c_is_below h_are_below
  have c_check_length := ok_check_length (P := P) (w := w) (C := ⟨K, fun _ => 0⟩) (base := base) B sm c_is_from h_check_length
  have c_law_group := ok_law_group (P := P) (w := w) (C := ⟨K, fun _ => 0⟩) (base := base) B sm c_law_random c_law_dihedral c_law_abelian h_law_group
  have c_law_shuffled := ok_law_shuffled (P := P) (w := w) (C := ⟨K, fun _ => 0⟩) (base := base) B sm c_law_random h_law_shuffled
  have c_is_each_once := ok_is_each_once (P := P) (w := w) (C := ⟨K, fun _ => 0⟩) (base := base) B sm c_are_below h_is_each_once
  have c_law_square := ok_law_square (P := P) (w := w) (C := ⟨K, fun _ => 0⟩) (base := base) B sm c_law_random c_law_group c_law_shuffled h_law_square
  have c_is_square := ok_is_square (P := P) (w := w) (C := ⟨K, fun _ => 0⟩) (base := base) B sm c_is_each_once h_is_square
  have c_is_chain := ok_is_chain (P := P) (w := w) (C := ⟨K, fun _ => 0⟩) (base := base) B sm c_is_below c_is_square h_is_chain
  have c_check_chain := ok_check_chain (P := P) (w := w) (C := ⟨K, fun _ => 0⟩) (base := base) B sm c_is_chain h_check_chain
  have c_how_many_slip := ok_how_many_slip (P := P) (w := w) (C := ⟨K, fun _ => 0⟩) (base := base) B sm c_check_chain c_check_length c_is_below c_all_swaps c_how_many_ways h_how_many_slip
  have c_how_many_right_lists := ok_how_many_right_lists (P := P) (w := w) (C := ⟨K, fun _ => 0⟩) (base := base) B sm c_check_chain c_check_length c_power h_how_many_right_lists
  have k_how_many_slip_place_length_chain := kw_how_many_slip_place_length_chain c_how_many_slip h_how_many_slip
  have c_law_right := ok_law_right (P := P) (w := w) (C := ⟨K, fun _ => 0⟩) (base := base) B sm c_law_square c_law_random c_how_many_slip c_law_slips c_law_power c_law_counted c_law_swaps c_how_many_right_lists k_how_many_slip_place_length_chain h_law_right
  exact ok_law (P := P) (w := w) (C := ⟨K, fun _ => 0⟩) (base := base) B sm c_law_right c_law_generator c_how_many_slip h_law
/-- what is left to be shown: over functions alone -/
def Good : Prop := ∀ ns : List Int, ns.length ≤ 63 → FD D.F_law_v76 [.list (ns.map .int)] = some (.bool true)
end K50
open PySem PySem.W PySem.Calls PyProof.Rows
theorem K50.holds_of (good : K50.Good) : PySem.Challenge.rw_checkwright_k50_whole_lists_that_slip.Holds := by
  w_on; o_law
  refine HandSHeadRun.head_any (r := OpenLaw.row PySem.Challenge.rw_checkwright_k50_whole_lists_that_slip) (q := view (OpenLaw.row PySem.Challenge.rw_checkwright_k50_whole_lists_that_slip).prog [39]) (H := K50.hk) (ob := K50.ob) (M := 3800) (loose := K50.ls) (d := HandSHeadRun.topDef (OpenLaw.row PySem.Challenge.rw_checkwright_k50_whole_lists_that_slip).prog 39) (kwd := []) K50.ob_eq
    (by kernel_rfl) (fun s => by kernel_rfl) K50.run (by kernel_rfl) (by kernel_rfl) (by kernel_rfl) (by rfl) (by first | assumption | decide +kernel) (by decide +kernel) ⟨rfl, rfl, rfl, rfl, rfl, by decide +kernel⟩ ?hw ?hc
  case hw => w_witness2
  case hc =>
    refine G.walk_gE (l := PySem.Challenge.rw_checkwright_k50_whole_lists_that_slip) (n := 63) (k := 10) (x := "script") rfl (by decide) (by kernel_rfl) ⟨rfl, by decide, by decide⟩ ?F
    intro w mg fa h Y Gn hmg0
    obtain ⟨K, KX, c⟩ := Y
    have hmg : mg ("law" : PySem.Str) = some (.ref fa) := by
      have e : (HandSHeadRun.topDef (OpenLaw.row PySem.Challenge.rw_checkwright_k50_whole_lists_that_slip).prog 39).name = ("law" : PySem.Str) := by kernel_rfl
      rw [← e]
      exact hmg0
    have e2 := hmg.symm.trans (He.glo_ok KX Gn (c.d.fact 31 (f := .glo "law") rfl))
    cases e2
    obtain ⟨fd, hb, hF⟩ := K50.facts (P := (PySem.Challenge.rw_checkwright_k50_whole_lists_that_slip).prog) (w := w) KX Gn c
    exact ⟨K, fd, _, KX, hb, fun H a ns hl _ hS => N.law_sp hS (good ns hl), hF⟩
end
section
set_option maxRecDepth 100000
set_option maxHeartbeats 0
namespace D
open PySem PySem.Spec PyProof.Rows L2 G N
def L_law_states_0 : SS := (SS.drop (SE.app (SE.var 2) (SE.ix (SE.ix (SE.ix (SE.var 0) (SE.int 0)) (SE.ix (SE.var 2) (SE.un oNeg (SE.int 1)))) (SE.var 3))))
def S_law_states_0 : SS := (SS.set 2 (SE.lstM (SL.cons (SE.ix (SE.var 0) (SE.int 1)) SL.nil)))
def S_law_states_1 : SS := (SS.forS (SI.seq (SE.var 1)) (ST.name 3) (L_law_states_0))
def S_law_states_2 : SS := (SS.ret (SE.var 2))
def B_law_states : SS := (SS.seq (S_law_states_0) (SS.seq (S_law_states_1) (S_law_states_2)))
def F_law_states : FSem := runDef B_law_states 4 2
def L_law_right_v40_0 : SS := (SS.seq (SS.set 12 (SE.lc (SI.rng1 (SL.cons (SE.var 2) SL.nil)) (ST.name 16) (SB.test (SE.op oEq (SE.ix (SE.call F_law_states (SL.cons (SE.var 3) (SL.cons (SE.op oAdd (SE.op oAdd (SE.sl (SE.var 7) SO.none (SO.some (SE.var 11))) (SE.lst (SL.cons (SE.var 16) SL.nil))) (SE.sl (SE.var 7) (SO.some (SE.op oAdd (SE.var 11) (SE.int 1))) SO.none)) SL.nil))) (SE.un oNeg (SE.int 1))) (SE.ix (SE.var 3) (SE.int 2)))) (SE.var 16)))
      (SS.seq (SS.ite (SB.or (SB.test (SE.op oNe (SE.cb bRepr (SL.cons (SE.lst (SL.cons (SE.call F_sign_at_v2 (SL.cons (SE.var 3) (SL.cons (SE.var 7) (SL.cons (SE.var 11) SL.nil)))) SL.nil)) SL.nil)) (SE.cb bRepr (SL.cons (SE.var 12) SL.nil)))) (SB.test (SE.op oNe (SE.callK F_sign_at_v2 [2, 1, 0] (SL.cons (SE.var 11) (SL.cons (SE.var 7) (SL.cons (SE.var 3) SL.nil)))) (SE.ix (SE.var 12) (SE.int 0))))) (SS.ret (SE.bl false)) SS.nil)
      (SS.ite (SB.test (SE.op oNotB (SE.callK F_is_right_chain [1, 0] (SL.cons (SE.op oAdd (SE.op oAdd (SE.sl (SE.var 7) SO.none (SO.some (SE.var 11))) (SE.var 12)) (SE.sl (SE.var 7) (SO.some (SE.op oAdd (SE.var 11) (SE.int 1))) SO.none)) (SL.cons (SE.var 3) SL.nil))) (SE.bl true))) (SS.ret (SE.bl false)) SS.nil)))
def L_law_right_v40_1 : SS := (SS.seq (SS.set 7 (SE.lc (SI.rng1 (SL.cons (SE.op oAdd (SE.int 1) (SE.callG F_law_random_v2 (SL.cons (SE.var 0) (SL.cons (SE.int 8) SL.nil)))) SL.nil)) (ST.name 11) SB.yes (SE.callG F_law_random_v2 (SL.cons (SE.var 0) (SL.cons (SE.var 2) SL.nil)))))
      (SS.seq (SS.par 8 9 (SL.cons (SE.call F_law_states (SL.cons (SE.var 3) (SL.cons (SE.var 7) SL.nil))) (SL.cons (SE.cb bRepr (SL.cons (SE.var 7) SL.nil)) SL.nil)))
      (SS.seq (SS.set 10 (SE.callM F_states_of (SL.cons (SE.var 3) (SL.cons (SE.var 7) SL.nil))))
      (SS.seq (SS.ite (SB.or (SB.test (SE.op oNe (SE.cb bRepr (SL.cons (SE.var 10) SL.nil)) (SE.cb bRepr (SL.cons (SE.var 8) SL.nil)))) (SB.or (SB.test (SE.op oNe (SE.callK F_states_of [1, 0] (SL.cons (SE.var 7) (SL.cons (SE.var 3) SL.nil))) (SE.var 8))) (SB.test (SE.op oNe (SE.cb bRepr (SL.cons (SE.call F_is_right_chain (SL.cons (SE.var 3) (SL.cons (SE.var 7) SL.nil))) SL.nil)) (SE.cb bRepr (SL.cons (SE.op oEq (SE.ix (SE.var 8) (SE.un oNeg (SE.int 1))) (SE.ix (SE.var 3) (SE.int 2))) SL.nil)))))) (SS.ret (SE.bl false)) SS.nil)
      (SS.seq (SS.drop (SE.app (SE.var 10) SE.non))
      (SS.seq (SS.forS (SI.rng1 (SL.cons (SE.cb bLen (SL.cons (SE.var 7) SL.nil)) SL.nil)) (ST.name 11) (L_law_right_v40_0))
      (SS.ite (SB.or (SB.test (SE.op oNe (SE.cb bRepr (SL.cons (SE.var 7) SL.nil)) (SE.var 9))) (SB.test (SE.op oNe (SE.call F_states_of (SL.cons (SE.var 3) (SL.cons (SE.var 7) SL.nil))) (SE.var 8)))) (SS.ret (SE.bl false)) SS.nil)))))))
def L_law_right_v40_2 : SS := (SS.seq (SS.ite (SB.test (SE.op oLt (SE.call F_law_power (SL.cons (SE.var 2) (SL.cons (SE.var 13) SL.nil))) (SE.int 130))) (SS.seq (SS.set 14 (SE.lc (SI.seq (SE.call F_law_all_codes (SL.cons (SE.var 2) (SL.cons (SE.var 13) SL.nil)))) (ST.name 7) (SB.val (SE.call F_is_right_chain (SL.cons (SE.var 3) (SL.cons (SE.var 7) SL.nil)))) (SE.var 7)))
      (SS.ite (SB.test (SE.op oNe (SE.cb bLen (SL.cons (SE.var 14) SL.nil)) (SE.call F_how_many_right_lists (SL.cons (SE.var 3) (SL.cons (SE.var 13) SL.nil))))) (SS.ret (SE.bl false)) SS.nil)) SS.nil)
      (SS.ite (SB.or (SB.test (SE.op oNe (SE.cb bRepr (SL.cons (SE.call F_how_many_right_lists (SL.cons (SE.var 3) (SL.cons (SE.var 13) SL.nil))) SL.nil)) (SE.cb bRepr (SL.cons (SE.call F_law_power (SL.cons (SE.var 2) (SL.cons (SE.op oSub (SE.var 13) (SE.int 1)) SL.nil))) SL.nil)))) (SB.test (SE.op oNe (SE.callK F_how_many_right_lists [1, 0] (SL.cons (SE.var 13) (SL.cons (SE.var 3) SL.nil))) (SE.call F_law_power (SL.cons (SE.var 2) (SL.cons (SE.op oSub (SE.var 13) (SE.int 1)) SL.nil)))))) (SS.ret (SE.bl false)) SS.nil))
def S_law_right_v40_0 : SS := (SS.set 1 (SE.callG F_law_square_v2 (SL.cons (SE.var 0) SL.nil)))
def S_law_right_v40_1 : SS := (SS.set 2 (SE.cb bLen (SL.cons (SE.var 1) SL.nil)))
def S_law_right_v40_2 : SS := (SS.set 3 (SE.tup (SL.cons (SE.var 1) (SL.cons (SE.callG F_law_random_v2 (SL.cons (SE.var 0) (SL.cons (SE.var 2) SL.nil))) (SL.cons (SE.callG F_law_random_v2 (SL.cons (SE.var 0) (SL.cons (SE.var 2) SL.nil))) SL.nil)))))
def S_law_right_v40_3 : SS := (SS.set 4 (SE.cb bRepr (SL.cons (SE.var 3) SL.nil)))
def S_law_right_v40_4 : SS := (SS.ite (SB.or (SB.test (SE.op oNotB (SE.call F_is_chain (SL.cons (SE.var 3) SL.nil)) (SE.bl true))) (SB.test (SE.op oNotB (SE.callK F_is_chain [0] (SL.cons (SE.var 3) SL.nil)) (SE.bl true)))) (SS.ret (SE.bl false)) SS.nil)
def S_law_right_v40_5 : SS := (SS.set 5 (SE.lst (SL.cons SE.non (SL.cons (SE.tup SL.nil) (SL.cons (SE.lst SL.nil) (SL.cons SE.dnew (SL.cons (SE.int 5) (SL.cons (SE.cb bList (SL.cons (SE.var 3) SL.nil)) (SL.cons (SE.sl (SE.var 3) SO.none (SO.some (SE.int 2))) (SL.cons (SE.op oAdd (SE.var 3) (SE.tup (SL.cons (SE.int 0) SL.nil))) (SL.cons (SE.tup (SL.cons (SE.var 1) (SL.cons (SE.un oNeg (SE.int 1)) (SL.cons (SE.int 0) SL.nil)))) (SL.cons (SE.tup (SL.cons (SE.var 1) (SL.cons (SE.var 2) (SL.cons (SE.int 0) SL.nil)))) (SL.cons (SE.tup (SL.cons (SE.var 1) (SL.cons (SE.bl true) (SL.cons (SE.int 0) SL.nil)))) SL.nil)))))))))))))
def S_law_right_v40_6 : SS := (SS.set 5 (SE.op oAdd (SE.var 5) (SE.lst (SL.cons (SE.tup (SL.cons (SE.var 1) (SL.cons (SE.int 0) (SL.cons (SE.var 2) SL.nil)))) (SL.cons (SE.tup (SL.cons (SE.var 1) (SL.cons (SE.int 0) (SL.cons SE.non SL.nil)))) (SL.cons (SE.tup (SL.cons (SE.var 1) (SL.cons (SE.str "0") (SL.cons (SE.int 0) SL.nil)))) (SL.cons (SE.tup (SL.cons (SE.sl (SE.var 1) (SO.some (SE.int 1)) SO.none) (SL.cons (SE.int 0) (SL.cons (SE.int 0) SL.nil)))) (SL.cons (SE.tup (SL.cons (SE.cb bTuple (SL.cons (SE.var 1) SL.nil)) (SL.cons (SE.int 0) (SL.cons (SE.int 0) SL.nil)))) (SL.cons (SE.tup (SL.cons (SE.lst (SL.cons (SE.lst (SL.cons (SE.int 0) SL.nil)) SL.nil)) (SL.cons (SE.int 0) (SL.cons (SE.int 0) SL.nil)))) SL.nil)))))))))
def S_law_right_v40_7 : SS := (SS.set 5 (SE.op oAdd (SE.var 5) (SE.lst (SL.cons (SE.tup (SL.cons (SE.var 1) (SL.cons (SE.int 0) (SL.cons (SE.un oNeg (SE.int 1)) SL.nil)))) (SL.cons (SE.tup (SL.cons (SE.var 1) (SL.cons (SE.int 0) (SL.cons (SE.bl true) SL.nil)))) (SL.cons (SE.tup (SL.cons (SE.var 1) (SL.cons SE.non (SL.cons (SE.int 0) SL.nil)))) (SL.cons (SE.tup (SL.cons (SE.lst (SL.cons (SE.lst (SL.cons (SE.int 0) (SL.cons (SE.int 1) SL.nil))) (SL.cons (SE.lst (SL.cons (SE.int 0) (SL.cons (SE.int 1) SL.nil))) SL.nil))) (SL.cons (SE.int 0) (SL.cons (SE.int 0) SL.nil)))) (SL.cons (SE.tup (SL.cons (SE.lst (SL.cons (SE.lst (SL.cons (SE.int 0) (SL.cons (SE.int 0) SL.nil))) (SL.cons (SE.lst (SL.cons (SE.int 1) (SL.cons (SE.int 1) SL.nil))) SL.nil))) (SL.cons (SE.int 0) (SL.cons (SE.int 0) SL.nil)))) (SL.cons (SE.tup (SL.cons (SE.repO (SE.slM (SE.var 1) SO.none (SO.some (SE.int 1))) (SE.var 2)) (SL.cons (SE.int 0) (SL.cons (SE.int 0) SL.nil)))) SL.nil)))))))))
def S_law_right_v40_8 : SS := (SS.ite (SB.test (SE.op oNe (SE.lc (SI.seq (SE.var 5)) (ST.name 15) (SB.test (SE.op oNotB (SE.call F_is_chain (SL.cons (SE.var 15) SL.nil)) (SE.bl false))) (SE.var 15)) (SE.lst SL.nil))) (SS.ret (SE.bl false)) SS.nil)
def S_law_right_v40_9 : SS := (SS.forS (SI.rng1 (SL.cons (SE.int 4) SL.nil)) (ST.name 6) (L_law_right_v40_1))
def S_law_right_v40_10 : SS := (SS.forS (SI.dis (SE.lst (SL.cons (SE.int 1) (SL.cons (SE.int 2) (SL.cons (SE.int 3) (SL.cons (SE.int 4) SL.nil)))))) (ST.name 13) (L_law_right_v40_2))
def S_law_right_v40_11 : SS := (SS.ret (SE.op oEq (SE.cb bRepr (SL.cons (SE.var 3) SL.nil)) (SE.var 4)))
def B_law_right_v40 : SS := (SS.seq (S_law_right_v40_0) (SS.seq (S_law_right_v40_1) (SS.seq (S_law_right_v40_2) (SS.seq (S_law_right_v40_3) (SS.seq (S_law_right_v40_4) (SS.seq (S_law_right_v40_5) (SS.seq (S_law_right_v40_6) (SS.seq (S_law_right_v40_7) (SS.seq (S_law_right_v40_8) (SS.seq (S_law_right_v40_9) (SS.seq (S_law_right_v40_10) (S_law_right_v40_11))))))))))))
def F_law_right_v40 : FSem := runDef B_law_right_v40 17 1
def L_law_v56_0 : SS := (SS.ite (SB.not (SB.val (SE.callG F_law_right_v40 (SL.cons (SE.callM F_law_generator (SL.cons (SE.var 0) (SL.cons (SE.var 1) SL.nil))) SL.nil)))) (SS.ret (SE.bl false)) SS.nil)
def S_law_v56_0 : SS := (SS.forS (SI.rng1 (SL.cons (SE.int 3) SL.nil)) (ST.name 1) (L_law_v56_0))
def S_law_v56_1 : SS := (SS.set 2 (SE.tup (SL.cons (SE.lc (SI.rng1 (SL.cons (SE.int 5) SL.nil)) (ST.name 4) SB.yes (SE.lc (SI.rng1 (SL.cons (SE.int 5) SL.nil)) (ST.name 5) SB.yes (SE.op oMod (SE.cb bInt (SL.cons (SE.op oAdd (SE.op oMul (SE.int 2) (SE.var 4)) (SE.var 5)) SL.nil)) (SE.int 5)))) (SL.cons (SE.int 0) (SL.cons (SE.int 0) SL.nil)))))
def S_law_v56_2 : SS := (SS.ite (SB.or (SB.test (SE.op oNotB (SE.call F_is_chain (SL.cons (SE.tup (SL.cons (SE.lst (SL.cons (SE.lst (SL.cons (SE.int 0) (SL.cons (SE.int 1) (SL.cons (SE.int 2) SL.nil)))) (SL.cons (SE.lst (SL.cons (SE.int 1) (SL.cons (SE.int 0) (SL.cons (SE.int 2) SL.nil)))) (SL.cons (SE.lst (SL.cons (SE.int 2) (SL.cons (SE.int 1) (SL.cons (SE.int 0) SL.nil)))) SL.nil)))) (SL.cons (SE.int 0) (SL.cons (SE.int 0) SL.nil)))) SL.nil)) (SE.bl false))) (SB.test (SE.op oNotB (SE.call F_is_chain (SL.cons (SE.tup (SL.cons (SE.lst (SL.cons (SE.lst (SL.cons (SE.int 0) (SL.cons (SE.int 1) (SL.cons (SE.int 2) SL.nil)))) (SL.cons (SE.lst (SL.cons (SE.int 1) (SL.cons (SE.int 2) (SL.cons (SE.int 0) SL.nil)))) (SL.cons (SE.lst (SL.cons (SE.int 2) (SL.cons (SE.int 0) (SL.cons (SE.int 1) SL.nil)))) SL.nil)))) (SL.cons (SE.int 0) (SL.cons (SE.int 0) SL.nil)))) SL.nil)) (SE.bl true)))) (SS.ret (SE.bl false)) SS.nil)
def S_law_v56_3 : SS := (SS.set 3 (SE.lst (SL.cons (SE.call F_states_of (SL.cons (SE.var 2) (SL.cons (SE.lst (SL.cons (SE.int 1) (SL.cons (SE.int 2) (SL.cons (SE.int 3) SL.nil)))) SL.nil))) (SL.cons (SE.call F_is_right_chain (SL.cons (SE.var 2) (SL.cons (SE.lst (SL.cons (SE.int 1) (SL.cons (SE.int 2) (SL.cons (SE.int 3) SL.nil)))) SL.nil))) (SL.cons (SE.call F_sign_at_v2 (SL.cons (SE.var 2) (SL.cons (SE.lst (SL.cons (SE.int 1) (SL.cons (SE.int 2) (SL.cons (SE.int 3) SL.nil)))) (SL.cons (SE.int 0) SL.nil)))) (SL.cons (SE.call F_sign_at_v2 (SL.cons (SE.var 2) (SL.cons (SE.lst (SL.cons (SE.int 1) (SL.cons (SE.int 2) (SL.cons (SE.int 3) SL.nil)))) (SL.cons (SE.int 2) SL.nil)))) (SL.cons (SE.call F_how_many_right_lists (SL.cons (SE.var 2) (SL.cons (SE.int 100) SL.nil))) SL.nil)))))))
def S_law_v56_4 : SS := (SS.ret (SE.op oEq (SE.var 3) (SE.lst (SL.cons (SE.lst (SL.cons (SE.int 0) (SL.cons (SE.int 1) (SL.cons (SE.int 4) (SL.cons (SE.int 1) SL.nil))))) (SL.cons (SE.bl false) (SL.cons (SE.int 2) (SL.cons (SE.int 2) (SL.cons (SE.op oMul (SE.int 5) (SE.op oPow (SE.op oPow (SE.int 5) (SE.int 49)) (SE.int 2))) SL.nil))))))))
def B_law_v56 : SS := (SS.seq (S_law_v56_0) (SS.seq (S_law_v56_1) (SS.seq (S_law_v56_2) (SS.seq (S_law_v56_3) (S_law_v56_4)))))
def F_law_v56 : FSem := runDef B_law_v56 6 1
end D
end
section
set_option maxRecDepth 100000
set_option maxHeartbeats 2000000
/-! what each is worth, as rules to rewrite by -/
namespace N
open PySem PySem.Spec PyProof.Rows L2 G
namespace SE
@[simp] theorem var_ev (i : Nat) {ρ} {h} : (SE.var i).ev ρ h = (match ρ[i]? with
    | some (some x) => .ok x h
    | _ => .no) := (rfl)
@[simp] theorem op_ev (o : O2) (a b : SE) {ρ} {h} : (SE.op o a b).ev ρ h = ((a.ev ρ h).bind fun x h1 => (b.ev ρ h1).bind fun y h2 => fnV (f2 o.f) [x, y] h2) := (rfl)
@[simp] theorem un_ev (o : O1) (a : SE) {ρ} {h} : (SE.un o a).ev ρ h = ((a.ev ρ h).bind fun x h1 => fnV (fun xs => match xs with | [x] => o.f x | _ => none) [x] h1) := (rfl)
@[simp] theorem chain_ev (o o' : O2) (a b c : SE) {ρ} {h} : (SE.chain o o' a b c).ev ρ h = ((a.ev ρ h).bind fun x h1 => (b.ev ρ h1).bind fun y h2 => (fnV (f2 o.f) [x, y] h2).bind fun k h3 => match k with
    | .d (.bool true) => (c.ev ρ h3).bind fun z h4 => fnV (f2 o'.f) [y, z] h4
    | .d (.bool false) => .ok (.d (.bool false)) h3
    | _ => .no) := (rfl)
@[simp] theorem cb_ev (o : ON) (a : SL) {ρ} {h} : (SE.cb o a).ev ρ h = ((a.ev ρ h).bind fun xs h1 => fnV o.f xs h1) := (rfl)
@[simp] theorem andV_ev (a b : SE) {ρ} {h} : (SE.andV a b).ev ρ h = ((a.ev ρ h).bind fun x h1 => match x with
    | .d (.bool true) => b.ev ρ h1
    | .d (.bool false) => .ok (.d (.bool false)) h1
    | _ => .no) := (rfl)
@[simp] theorem orV_ev (a b : SE) {ρ} {h} : (SE.orV a b).ev ρ h = ((a.ev ρ h).bind fun x h1 => match x with
    | .d (.bool false) => b.ev ρ h1
    | .d (.bool true) => .ok (.d (.bool true)) h1
    | _ => .no) := (rfl)
@[simp] theorem notV_ev (a : SE) {ρ} {h} : (SE.notV a).ev ρ h = ((a.ev ρ h).bind fun x h1 => match x with
    | .d (.bool c) => .ok (.d (.bool (!c))) h1
    | _ => .no) := (rfl)
@[simp] theorem ifx_ev (c : SB) (a b : SE) {ρ} {h} : (SE.ifx c a b).ev ρ h = ((c.ev ρ h).bind fun x h1 => match x with
    | true => a.ev ρ h1
    | false => b.ev ρ h1) := (rfl)
@[simp] theorem tup_ev (a : SL) {ρ} {h} : (SE.tup a).ev ρ h = ((a.ev ρ h).bind fun xs h1 => match frzL h1 xs with
    | none => .no
    | some (ds, h2) => if ds.length ≤ 1000000 then .ok (.d (.tuple ds)) h2 else .no) := (rfl)
@[simp] theorem lst_ev (a : SL) {ρ} {h} : (SE.lst a).ev ρ h = ((a.ev ρ h).bind fun xs h1 => match frzL h1 xs with
    | none => .no
    | some (ds, h2) => if ds.length ≤ 1000000 then .ok (.d (.list ds)) h2 else .no) := (rfl)
end SE
namespace SL
@[simp] theorem nil_ev {z0} {h} : (SL.nil ).ev z0 h = (.ok [] h) := (rfl)
@[simp] theorem cons_ev (a : SE) (r : SL) {ρ} {h} : (SL.cons a r).ev ρ h = ((a.ev ρ h).bind fun x h1 => (r.ev ρ h1).bind fun xs h2 => .ok (x :: xs) h2) := (rfl)
end SL
namespace SB
@[simp] theorem test_ev (a : SE) {ρ} {h} : (SB.test a).ev ρ h = ((a.ev ρ h).bind fun x h1 => match x with
    | .d (.bool c) => .ok c h1
    | _ => .no) := (rfl)
@[simp] theorem val_ev (a : SE) {ρ} {h} : (SB.val a).ev ρ h = ((a.ev ρ h).bind fun x h1 => match x with
    | .d (.bool c) => .ok c h1
    | _ => .no) := (rfl)
@[simp] theorem and_ev (a b : SB) {ρ} {h} : (SB.and a b).ev ρ h = ((a.ev ρ h).bind fun x h1 => match x with
    | true => b.ev ρ h1
    | false => .ok false h1) := (rfl)
@[simp] theorem or_ev (a b : SB) {ρ} {h} : (SB.or a b).ev ρ h = ((a.ev ρ h).bind fun x h1 => match x with
    | true => .ok true h1
    | false => b.ev ρ h1) := (rfl)
@[simp] theorem not_ev (a : SB) {ρ} {h} : (SB.not a).ev ρ h = ((a.ev ρ h).bind fun x h1 => .ok (!x) h1) := (rfl)
end SB
namespace SE
@[simp] theorem isi_ev (T : Ty) (a : SE) {ρ} {h} : (SE.isi T a).ev ρ h = ((a.ev ρ h).bind fun x h1 => fnV (isiD T) [x] h1) := (rfl)
@[simp] theorem ix_ev (a b : SE) {ρ} {h} : (SE.ix a b).ev ρ h = ((a.ev ρ h).bind fun x h1 => (b.ev ρ h1).bind fun y h2 => ixV h2 x y) := (rfl)
end SE
@[simp] theorem SO_none_ev {z0} {h} : (SO.none ).ev z0 h = (.ok Option.none h) := (rfl)
@[simp] theorem SO_some_ev (a : SE) {ρ} {h} : (SO.some a).ev ρ h = ((a.ev ρ h).bind fun x h1 => match x with
    | .d (.int i) => .ok (Option.some i) h1
    | _ => .no) := (rfl)
namespace SE
@[simp] theorem sl_ev (a : SE) (lo hi : SO) {ρ} {h} : (SE.sl a lo hi).ev ρ h = ((a.ev ρ h).bind fun x h1 => (lo.ev ρ h1).bind fun l h2 => (hi.ev ρ h2).bind fun u h3 => match x with
    | .d (.tuple ds) => .ok (.d (.tuple (G.cutD ds l u))) h3
    | x => match itemsD h3 x with
      | some ds => .ok (.d (.list (G.cutD ds l u))) h3
      | Option.none => .no) := (rfl)
@[simp] theorem rev_ev (a : SE) {ρ} {h} : (SE.rev a).ev ρ h = ((a.ev ρ h).bind fun x h1 => match x with
    | .d (.tuple ds) => .ok (.d (.tuple ds.reverse)) h1
    | x => match itemsD h1 x with
      | some ds => .ok (.d (.list ds.reverse)) h1
      | Option.none => .no) := (rfl)
@[simp] theorem lstM_ev (a : SL) {ρ} {h} : (SE.lstM a).ev ρ h = ((a.ev ρ h).bind fun xs h1 => if xs.length ≤ 1000000 then .ok (.r h1.length) (h1 ++ [.lst xs]) else .no) := (rfl)
@[simp] theorem listM_ev (a : SE) {ρ} {h} : (SE.listM a).ev ρ h = ((a.ev ρ h).bind fun x h1 => match itemsV h1 x with
    | some xs => .ok (.r h1.length) (h1 ++ [.lst xs])
    | Option.none => .no) := (rfl)
@[simp] theorem slM_ev (a : SE) (lo hi : SO) {ρ} {h} : (SE.slM a lo hi).ev ρ h = ((a.ev ρ h).bind fun x h1 => (lo.ev ρ h1).bind fun l h2 => (hi.ev ρ h2).bind fun u h3 => match itemsL h3 x with
    | some xs => .ok (.r h3.length) (h3 ++ [.lst (cutX xs l u)])
    | Option.none => .no) := (rfl)
@[simp] theorem addM_ev (a b : SE) {ρ} {h} : (SE.addM a b).ev ρ h = ((a.ev ρ h).bind fun x h1 => (b.ev ρ h1).bind fun y h2 => match itemsL h2 x, itemsL h2 y with
    | some xs, some ys => if xs.length + ys.length ≤ 1000000 then .ok (.r h2.length) (h2 ++ [.lst (xs ++ ys)]) else .no
    | _, _ => .no) := (rfl)
@[simp] theorem revM_ev (a : SE) {ρ} {h} : (SE.revM a).ev ρ h = ((a.ev ρ h).bind fun x h1 => match itemsL h1 x with
    | some xs => .ok (.r h1.length) (h1 ++ [.lst xs.reverse])
    | Option.none => .no) := (rfl)
@[simp] theorem frz_ev (a : SE) {ρ} {h} : (SE.frz a).ev ρ h = ((a.ev ρ h).bind fun x h1 => match N.frz h1 x with
    | some (d, h2) => .ok (.d d) h2
    | Option.none => .no) := (rfl)
end SE
namespace SI
@[simp] theorem seq_ev (a : SE) {ρ} {h} : (SI.seq a).ev ρ h = ((a.ev ρ h).bind fun x h1 => match frz h1 x with
    | some (d, h2) => match seqD d with
      | some ds => .ok ds h2
      | none => .no
    | none => .no) := (rfl)
@[simp] theorem dis_ev (a : SE) {ρ} {h} : (SI.dis a).ev ρ h = ((a.ev ρ h).bind fun x h1 => match x with
    | .d (.list ds) => .ok ds h1
    | _ => .no) := (rfl)
theorem rng1_ev (a : SL) {ρ} {h} : (SI.rng1 a).ev ρ h = ((a.ev ρ h).bind fun xs h1 => match xs with
    | [.d (.int n)] => if big62 n = true then .ok (rng 0 n) h1 else .no
    | _ => .no) := (rfl)
theorem rng2_ev (a : SL) {ρ} {h} : (SI.rng2 a).ev ρ h = ((a.ev ρ h).bind fun xs h1 => match xs with
    | [.d (.int l), .d (.int n)] => if (big62 l && big62 n) = true then .ok (rng l n) h1 else .no
    | _ => .no) := (rfl)
@[simp] theorem zip_ev (a : SL) {ρ} {h} : (SI.zip a).ev ρ h = ((a.ev ρ h).bind fun xs h1 => match frzL h1 xs with
    | some (ds, h2) => match zipE ds with
      | some es => .ok es h2
      | none => .no
    | none => .no) := (rfl)
@[simp] theorem enum_ev (a : SL) {ρ} {h} : (SI.enum a).ev ρ h = ((a.ev ρ h).bind fun xs h1 => match frzL h1 xs with
    | some ([.list ds], h2) => .ok (enumD ds) h2
    | _ => .no) := (rfl)
@[simp] theorem revd_ev (a : SE) {ρ} {h} : (SI.revd a).ev ρ h = ((a.ev ρ h).bind fun x h1 => match frz h1 x with
    | some (d, h2) => match seqD d with
      | some ds => .ok ds.reverse h2
      | none => .no
    | none => .no) := (rfl)
end SI
namespace ST
@[simp] theorem name_put (i : Nat) {x} {ρ} : (ST.name i).put x ρ = (some (ρ.set i (some x))) := (rfl)
@[simp] theorem tup_put (ts : STs) {x} {ρ} : (ST.tup ts).put x ρ = (match x with
    | .d (.tuple ds) => ts.put ds ρ
    | _ => none) := (rfl)
end ST
namespace STs
@[simp] theorem nil_put {xs} {ρ} : (STs.nil ).put xs ρ = (match xs with
    | [] => some ρ
    | _ => none) := (rfl)
@[simp] theorem cons_put (a : ST) (r : STs) {xs} {ρ} : (STs.cons a r).put xs ρ = (match xs with
    | x :: xs => match a.put (.d x) ρ with
      | some ρ1 => r.put xs ρ1
      | none => none
    | [] => none) := (rfl)
end STs
@[simp] theorem SB_yes_ev {z0} {h} : (SB.yes ).ev z0 h = (.ok true h) := (rfl)
namespace SE
theorem lc_ev (it : SI) (tg : ST) (c : SB) (g : SE) {ρ} {h} : (SE.lc it tg c g).ev ρ h = ((it.ev ρ h).bind fun es h1 => if es.length ≤ 1000000 then match lcR tg.put c.ev g.ev (wipeN ρ tg.vs) es [] h1 with
      | .ok out h2 => match frzL h2 out with
        | some (ds, h3) => .ok (.d (.list ds)) h3
        | none => .no
      | _ => .no
    else .no) := (rfl)
theorem lcM_ev (it : SI) (tg : ST) (c : SB) (g : SE) {ρ} {h} : (SE.lcM it tg c g).ev ρ h = ((it.ev ρ h).bind fun es h1 => if es.length ≤ 1000000 then match lcR tg.put c.ev g.ev (wipeN ρ tg.vs) es [] h1 with
      | .ok out h2 => .ok (.r h2.length) (h2 ++ [.lst out])
      | _ => .no
    else .no) := (rfl)
end SE
namespace SS
@[simp] theorem nil_run {ρ} {h} : (SS.nil ).run ρ h = (.nx ρ h) := (rfl)
@[simp] theorem never_run {z0} {z1} : (SS.never ).run z0 z1 = (.no) := (rfl)
@[simp] theorem brk_run {ρ} {h} : (SS.brk ).run ρ h = (.bk ρ h) := (rfl)
@[simp] theorem cont_run {ρ} {h} : (SS.cont ).run ρ h = (.ct ρ h) := (rfl)
@[simp] theorem seq_run (a b : SS) {ρ} {h} : (SS.seq a b).run ρ h = ((a.run ρ h).seq b.run) := (rfl)
@[simp] theorem ret_run (a : SE) {ρ} {h} : (SS.ret a).run ρ h = ((a.ev ρ h).thn ρ fun x h1 => .rt x h1) := (rfl)
@[simp] theorem retN_run {ρ} {h} : (SS.retN ).run ρ h = (.rt (.d .none) h) := (rfl)
@[simp] theorem drop_run (a : SE) {ρ} {h} : (SS.drop a).run ρ h = ((a.ev ρ h).thn ρ fun _ h1 => .nx ρ h1) := (rfl)
@[simp] theorem ite_run (c : SB) (a b : SS) {ρ} {h} : (SS.ite c a b).run ρ h = ((c.ev ρ h).thn ρ fun x h1 => match x with
    | true => a.run ρ h1
    | false => b.run ρ h1) := (rfl)
@[simp] theorem asg_run (a : SE) (g : ST) {ρ} {h} : (SS.asg a g).run ρ h = ((a.ev ρ h).thn ρ fun x h1 => match g.put x ρ with
    | some ρ1 => .nx ρ1 h1
    | none => .no) := (rfl)
@[simp] theorem set_run (i : Nat) (a : SE) {ρ} {h} : (SS.set i a).run ρ h = ((a.ev ρ h).thn ρ fun x h1 => .nx (ρ.set i (some x)) h1) := (rfl)
@[simp] theorem par_run (i j : Nat) (a : SL) {ρ} {h} : (SS.par i j a).run ρ h = ((a.ev ρ h).thn ρ fun xs h1 => match xs with
    | [x, y] => .nx ((ρ.set i (some x)).set j (some y)) h1
    | _ => .no) := (rfl)
@[simp] theorem par3_run (i j l : Nat) (a : SL) {ρ} {h} : (SS.par3 i j l a).run ρ h = ((a.ev ρ h).thn ρ fun xs h1 => match xs with
    | [x, y, z] => .nx (((ρ.set i (some x)).set j (some y)).set l (some z)) h1
    | _ => .no) := (rfl)
@[simp] theorem forS_run (it : SI) (tg : ST) (body : SS) {ρ} {h} : (SS.forS it tg body).run ρ h = ((it.ev ρ h).thn ρ fun es h1 => forR tg.put body.run es ρ h1) := (rfl)
@[simp] theorem whS_run (c : SB) (body : SS) {ρ} {h} : (SS.whS c body).run ρ h = (whR c.ev body.run fuel ρ h) := (rfl)
end SS
namespace SE
@[simp] theorem app_ev (o a : SE) {ρ} {h} : (SE.app o a).ev ρ h = ((o.ev ρ h).bind fun x h1 => match ownL h1 x with
    | some _ => (a.ev ρ h1).bind fun y h2 => match ownL h2 x with
      | some (n, xs) => if xs.length < 1000000 then .ok (.d .none) (h2.set n (.lst (xs ++ [y]))) else .no
      | none => .no
    | none => .no) := (rfl)
@[simp] theorem popAt_ev (o a : SE) {ρ} {h} : (SE.popAt o a).ev ρ h = ((o.ev ρ h).bind fun x h1 => match ownL h1 x with
    | some _ => (a.ev ρ h1).bind fun y h2 => match ownL h2 x, y with
      | some (n, xs), .d (.int i) => if 0 ≤ i ∧ i < xs.length ∧ xs.length ≤ 1000000 then match xs[i.toNat]? with
          | some z => .ok z (h2.set n (.lst (xs.eraseIdx i.toNat)))
          | none => .no
        else .no
      | _, _ => .no
    | none => .no) := (rfl)
end SE
namespace SG
@[simp] theorem name_run (i : Nat) {x} {ρ} {h} : (SG.name i).run x ρ h = (.nx (ρ.set i (some x)) h) := (rfl)
@[simp] theorem sub_run (o i : SE) {x} {ρ} {h} : (SG.sub o i).run x ρ h = ((o.ev ρ h).thn ρ fun y h1 => (i.ev ρ h1).thn ρ fun k h2 => match ownL h2 y, k with
    | some (n, xs), .d (.int j) => match L2.ixN xs.length j with
      | some l => .nx ρ (h2.set n (.lst (xs.set l x)))
      | none => .no
    | _, _ => .no) := (rfl)
@[simp] theorem tup_run (ts : SGs) {x} {ρ} {h} : (SG.tup ts).run x ρ h = (match x with
    | .d (.tuple ds) => if ds.length = ts.n then ts.run ds ρ h else .no
    | _ => .no) := (rfl)
end SG
namespace SGs
@[simp] theorem nil_run {z0} {ρ} {h} : (SGs.nil ).run z0 ρ h = (.nx ρ h) := (rfl)
@[simp] theorem cons_run (a : SG) (r : SGs) {xs} {ρ} {h} : (SGs.cons a r).run xs ρ h = (match xs with
    | x :: xs => match (a.run (.d x) ρ h) with
      | .nx ρ1 h1 => r.run xs ρ1 h1
      | .ex c y ρ1 h1 => .ex c y ρ1 h1
      | _ => .no
    | [] => .no) := (rfl)
end SGs
namespace SS
@[simp] theorem asgG_run (a : SE) (g : SG) {ρ} {h} : (SS.asgG a g).run ρ h = ((a.ev ρ h).thn ρ fun x h1 => (g.run x ρ h1).only) := (rfl)
end SS
namespace SE
@[simp] theorem call_ev (F : FSem) (a : SL) {ρ} {h} : (SE.call F a).ev ρ h = ((a.ev ρ h).bind fun xs h1 => fnV (FD F) xs h1) := (rfl)
@[simp] theorem callK_ev (F : FSem) (is : List Nat) (a : SL) {ρ} {h} : (SE.callK F is a).ev ρ h = ((a.ev ρ h).bind fun xs h1 => if xs.length = is.length then fnV (FD F) (permL is xs) h1 else .no) := (rfl)
@[simp] theorem callM_ev (F : FSem) (a : SL) {ρ} {h} : (SE.callM F a).ev ρ h = ((a.ev ρ h).bind fun xs h1 => match frzL h1 xs with
    | some (ds, h2) => match FM F ds with
      | some zs => .ok (.r h2.length) (h2 ++ [.lst (zs.map .d)])
      | none => .no
    | none => .no) := (rfl)
@[simp] theorem callG_ev (F : FSem) (a : SL) {ρ} {h} : (SE.callG F a).ev ρ h = ((a.ev ρ h).bind fun xs h1 => match xs with
    | .r n :: rest => match frzL h1 rest with
      | some (ds, h2) => match h2[n]? with
        | some (.lst ys) => match datas ys with
          | some es => match FG F es ds with
            | some (z, es') => .ok (.d z) (h2.set n (.lst (es'.map .d)))
            | none => .no
          | none => .no
        | _ => .no
      | none => .no
    | _ => .no) := (rfl)
@[simp] theorem callGM_ev (F : FSem) (a : SL) {ρ} {h} : (SE.callGM F a).ev ρ h = ((a.ev ρ h).bind fun xs h1 => match xs with
    | .r n :: rest => match frzL h1 rest with
      | some (ds, h2) => match h2[n]? with
        | some (.lst ys) => match datas ys with
          | some es => match FGM F es ds with
            | some (out, es') => .ok (.r h2.length) (h2.set n (.lst (es'.map .d)) ++ [.lst (out.map .d)])
            | none => .no
          | none => .no
        | _ => .no
      | none => .no
    | _ => .no) := (rfl)
@[simp] theorem bits_ev (a : SE) {ρ} {h} : (SE.bits a).ev ρ h = ((a.ev ρ h).bind fun x h1 => match x with
    | .d (.int i) => .ok (.d (.int (bitsOf i))) h1
    | _ => .no) := (rfl)
theorem listRg1_ev (n : SE) {ρ} {h} : (SE.listRg1 n).ev ρ h = ((n.ev ρ h).bind fun x h1 => match x with
    | .d (.int i) => if rgOk 0 i = true then .ok (.d (.list (SI.rng 0 i))) h1 else .no
    | _ => .no) := (rfl)
theorem listRg2_ev (l n : SE) {ρ} {h} : (SE.listRg2 l n).ev ρ h = ((l.ev ρ h).bind fun x h1 => (n.ev ρ h1).bind fun y h2 => match x, y with
    | .d (.int j), .d (.int i) => if rgOk j i = true then .ok (.d (.list (SI.rng j i))) h2 else .no
    | _, _ => .no) := (rfl)
theorem listRg1M_ev (n : SE) {ρ} {h} : (SE.listRg1M n).ev ρ h = ((n.ev ρ h).bind fun x h1 => match x with
    | .d (.int i) => if rgOk 0 i = true then .ok (.r h1.length) (h1 ++ [.lst ((SI.rng 0 i).map .d)]) else .no
    | _ => .no) := (rfl)
theorem listRg2M_ev (l n : SE) {ρ} {h} : (SE.listRg2M l n).ev ρ h = ((l.ev ρ h).bind fun x h1 => (n.ev ρ h1).bind fun y h2 => match x, y with
    | .d (.int j), .d (.int i) => if rgOk j i = true then .ok (.r h2.length) (h2 ++ [.lst ((SI.rng j i).map .d)]) else .no
    | _, _ => .no) := (rfl)
@[simp] theorem rep_ev (a : SL) (b : SE) {ρ} {h} : (SE.rep a b).ev ρ h = ((a.ev ρ h).bind fun xs h1 => match frzL h1 xs with
    | some (ds, h2) => if ds.length ≤ 1000000 then (b.ev ρ h2).bind fun y h3 => match y with
        | .d (.int k) => if repOk ds.length k = true then .ok (.d (.list (List.replicate k.toNat ds).flatten)) h3 else .no
        | _ => .no
      else .no
    | none => .no) := (rfl)
@[simp] theorem repM_ev (a : SL) (b : SE) {ρ} {h} : (SE.repM a b).ev ρ h = ((a.ev ρ h).bind fun xs h1 => match frzL h1 xs with
    | some (ds, h2) => if ds.length ≤ 1000000 then (b.ev ρ h2).bind fun y h3 => match y with
        | .d (.int k) => if repOk ds.length k = true then .ok (.r h3.length) (h3 ++ [.lst ((List.replicate k.toNat ds).flatten.map .d)]) else .no
        | _ => .no
      else .no
    | none => .no) := (rfl)
@[simp] theorem dnew_ev {z0} {h} : (SE.dnew ).ev z0 h = (.ok (.d (.dict [])) h) := (rfl)
end SE
@[simp] theorem SE_index_ev (o a : SE) {ρ} {h} : (SE.index o a).ev ρ h = ((o.ev ρ h).bind fun x h1 => if isL h1 x = true then (a.ev ρ h1).bind fun y h2 => fnV (f2 indexD) [x, y] h2 else .no) := (rfl)
namespace SE
@[simp] theorem revTo_ev (a : SE) (hi : SO) {ρ} {h} : (SE.revTo a hi).ev ρ h = ((a.ev ρ h).bind fun x h1 => (hi.ev ρ h1).bind fun u h2 => match u with
    | some i => if 0 ≤ i then (match itemsD h2 x with
      | some ds => if i.toNat < ds.length then .ok (.d (.list (ds.drop (i.toNat + 1)).reverse)) h2 else .no
      | Option.none => .no) else .no
    | Option.none => .no) := (rfl)
end SE
namespace SG
@[simp] theorem lst_run (ts : SGs) {x} {ρ} {h} : (SG.lst ts).run x ρ h = (match x with
    | .d (.list ds) => if ds.length = ts.n then ts.run ds ρ h else .no
    | _ => .no) := (rfl)
end SG
namespace SE
@[simp] theorem repO_ev (a b : SE) {ρ} {h} : (SE.repO a b).ev ρ h = ((a.ev ρ h).bind fun x h1 => (b.ev ρ h1).bind fun y h2 => match ownL h2 x, y with
    | some (_, xs), .d (.int k) => match datas xs with
      | some ds => if (decide (ds.length ≤ 1000000) && repOk ds.length k) = true then .ok (.d (.list (List.replicate k.toNat ds).flatten)) h2 else .no
      | Option.none => .no
    | _, _ => .no) := (rfl)
@[simp] theorem extend_ev (o a : SE) {ρ} {h} : (SE.extend o a).ev ρ h = ((o.ev ρ h).bind fun x h1 => match ownL h1 x with
    | some _ => (a.ev ρ h1).bind fun y h2 => match ownL h2 x, ownL h2 y with
      | some (n, xs), some (_, zs) => if xs.length + zs.length ≤ 1000000 then .ok (.d .none) (h2.set n (.lst (xs ++ zs))) else .no
      | _, _ => .no
    | none => .no) := (rfl)
theorem lc2_ev (vs : List Nat) (it : SI) (tg : ST) (c : SB) (it1 : SI) (tg1 : ST) (c1 : SB) (g : SE) (hs : ∀ i ∈ tg.vs, i ∈ vs) {ρ} {h} : (SE.lc2 vs it tg c it1 tg1 c1 g hs).ev ρ h = ((it.ev ρ h).bind fun es h1 => if es.length ≤ 1000000 then match lcR2 tg.put c.ev it1.ev tg1.put tg1.vs c1.ev g.ev (wipeN ρ vs) es [] h1 with
      | .ok out h2 => match frzL h2 out with
        | some (ds, h3) => .ok (.d (.list ds)) h3
        | none => .no
      | _ => .no
    else .no) := (rfl)
theorem lc2M_ev (vs : List Nat) (it : SI) (tg : ST) (c : SB) (it1 : SI) (tg1 : ST) (c1 : SB) (g : SE) (hs : ∀ i ∈ tg.vs, i ∈ vs) {ρ} {h} : (SE.lc2M vs it tg c it1 tg1 c1 g hs).ev ρ h = ((it.ev ρ h).bind fun es h1 => if es.length ≤ 1000000 then match lcR2 tg.put c.ev it1.ev tg1.put tg1.vs c1.ev g.ev (wipeN ρ vs) es [] h1 with
      | .ok out h2 => .ok (.r h2.length) (h2 ++ [.lst out])
      | _ => .no
    else .no) := (rfl)
@[simp] theorem sortedM_ev (a : SE) {ρ} {h} : (SE.sortedM a).ev ρ h = ((a.ev ρ h).bind fun x h1 => match itemsD h1 x with
    | some ds => match intsOf ds with
      | some ns => .ok (.r h1.length) (h1 ++ [.lst (((sortI ns).map .int).map .d)])
      | Option.none => .no
    | Option.none => .no) := (rfl)
end SE
end N
namespace N
open PySem PySem.Spec PyProof.Rows L2 G
section
variable {ρ : Rh} {h : Hd}
@[simp] theorem SE.int_ev (i : Int) : (SE.int i).ev ρ h = .ok (.d (.int i)) h := (rfl)
@[simp] theorem SE.bl_ev (b : Bool) : (SE.bl b).ev ρ h = .ok (.d (.bool b)) h := (rfl)
@[simp] theorem SE.non_ev : SE.non.ev ρ h = .ok (.d .none) h := (rfl)
@[simp] theorem SE.str_ev (x : Str) : (SE.str x).ev ρ h = .ok (.d (.str x)) h := (rfl)
@[simp] theorem fnV0 (f : List PyData → Option PyData) : fnV f [] h = (match f [] with | some z => .ok (.d z) h | none => .no) := (rfl)
@[simp] theorem fnV1 (f : List PyData → Option PyData) (x : PyData) : fnV f [.d x] h = (match f [x] with | some z => .ok (.d z) h | none => .no) := (rfl)
@[simp] theorem fnV2 (f : List PyData → Option PyData) (x y : PyData) : fnV f [.d x, .d y] h = (match f [x, y] with | some z => .ok (.d z) h | none => .no) := (rfl)
@[simp] theorem fnV3 (f : List PyData → Option PyData) (x y z : PyData) : fnV f [.d x, .d y, .d z] h = (match f [x, y, z] with | some z => .ok (.d z) h | none => .no) := (rfl)
@[simp] theorem fnV4 (f : List PyData → Option PyData) (x y z u : PyData) : fnV f [.d x, .d y, .d z, .d u] h = (match f [x, y, z, u] with | some z => .ok (.d z) h | none => .no) := (rfl)
@[simp] theorem fnV5 (f : List PyData → Option PyData) (x y z u v : PyData) : fnV f [.d x, .d y, .d z, .d u, .d v] h = (match f [x, y, z, u, v] with | some z => .ok (.d z) h | none => .no) := (rfl)
@[simp] theorem fnV6 (f : List PyData → Option PyData) (x y z u v w : PyData) : fnV f [.d x, .d y, .d z, .d u, .d v, .d w] h = (match f [x, y, z, u, v, w] with | some z => .ok (.d z) h | none => .no) := (rfl)
@[simp] theorem f2_2 (f : PyData → PyData → Option PyData) (x y : PyData) : f2 f [x, y] = f x y := (rfl)
@[simp] theorem datas_nil : datas [] = some [] := (rfl)
@[simp] theorem datas_cons (x : PyData) (xs : List Vd) : datas (.d x :: xs) = (match datas xs with | none => none | some ys => some (x :: ys)) := (rfl)
@[simp] theorem datas_mp (xs : List PyData) : datas (xs.map .d) = some xs := datas_map xs
theorem frzL_datas (ds : List PyData) : frzL h (ds.map .d) = some (ds, h) := by
  unfold frzL
  induction ds with
  | nil => rfl
  | cons d ds ih => rw [List.map_cons]; unfold mapH; unfold frz at ih ⊢; rw [show fz 4 h (.d d) = some (d, h) from rfl]; dsimp only; rw [ih]
@[simp] theorem frzL0 : frzL h [] = some ([], h) := (rfl)
@[simp] theorem frzL1 (x : PyData) : frzL h [.d x] = some ([x], h) := (rfl)
@[simp] theorem frzL2 (x y : PyData) : frzL h [.d x, .d y] = some ([x, y], h) := (rfl)
@[simp] theorem frzL3 (x y z : PyData) : frzL h [.d x, .d y, .d z] = some ([x, y, z], h) := (rfl)
@[simp] theorem frzL4 (x y z u : PyData) : frzL h [.d x, .d y, .d z, .d u] = some ([x, y, z, u], h) := (rfl)
@[simp] theorem frz_d (x : PyData) : frz h (.d x) = some (x, h) := (rfl)
@[simp] theorem look_d (x : PyData) : look h (.d x) = some x := (rfl)
@[simp] theorem ixV_d (x y : PyData) : SE.ixV h (.d x) (.d y) = (match ixD x y with | some z => .ok (.d z) h | none => .no) := (rfl)
@[simp] theorem ixV_r (n : Nat) (i : Int) : SE.ixV h (.r n) (.d (.int i)) = (match h[n]? with
  | some (.lst xs) => (match atD xs i with | some x => .ok x h | none => .no)
  | some (.frz x) => fnV (f2 ixD) [.d x, .d (.int i)] h
  | none => .no) := (rfl)
end
@[simp] theorem oAdd_f : oAdd.f = addD := (rfl)
@[simp] theorem oSub_f : oSub.f = subD := (rfl)
@[simp] theorem oMul_f : oMul.f = mulD := (rfl)
@[simp] theorem oMod_f : oMod.f = modD := (rfl)
@[simp] theorem oFdiv_f : oFdiv.f = fdivD := (rfl)
@[simp] theorem oPow_f : oPow.f = powD := (rfl)
@[simp] theorem oShl_f : oShl.f = shlD := (rfl)
@[simp] theorem oLt_f : oLt.f = cmpD fun i j => decide (i < j) := (rfl)
@[simp] theorem oLe_f : oLe.f = cmpD fun i j => decide (i ≤ j) := (rfl)
@[simp] theorem oGt_f : oGt.f = cmpD fun i j => decide (j < i) := (rfl)
@[simp] theorem oGe_f : oGe.f = cmpD fun i j => decide (j ≤ i) := (rfl)
@[simp] theorem oEq_f : oEq.f = eqD false := (rfl)
@[simp] theorem oNe_f : oNe.f = eqD true := (rfl)
@[simp] theorem oIn_f : oIn.f = inD false := (rfl)
@[simp] theorem oNin_f : oNin.f = inD true := (rfl)
@[simp] theorem oIsN_f : oIsN.f = isND false := (rfl)
@[simp] theorem oNotN_f : oNotN.f = isND true := (rfl)
@[simp] theorem oIsB_f : oIsB.f = isBD false := (rfl)
@[simp] theorem oNotB_f : oNotB.f = isBD true := (rfl)
@[simp] theorem bLen_f : bLen.f = lenD := (rfl)
@[simp] theorem bAll_f : bAll.f = allD := (rfl)
@[simp] theorem bAny_f : bAny.f = anyD := (rfl)
@[simp] theorem bSum_f : bSum.f = sumD := (rfl)
@[simp] theorem bMax_f : bMax.f = maxD := (rfl)
@[simp] theorem bMin_f : bMin.f = minD := (rfl)
@[simp] theorem bInt_f : bInt.f = intD := (rfl)
@[simp] theorem bList_f : bList.f = listD := (rfl)
@[simp] theorem bTuple_f : bTuple.f = tupleD := (rfl)
@[simp] theorem bRepr_f : bRepr.f = reprD := (rfl)
@[simp] theorem bSorted_f : bSorted.f = sortD := (rfl)
@[simp] theorem oNeg_f : oNeg.f = negD := (rfl)
section
variable {a b : Int}
@[simp] theorem addD_i : addD (.int a) (.int b) = some (.int (a + b)) := (rfl)
@[simp] theorem subD_i : subD (.int a) (.int b) = some (.int (a - b)) := (rfl)
@[simp] theorem mulD_i : mulD (.int a) (.int b) = if (sm a && sm b) = true then some (.int (a * b)) else none := (rfl)
@[simp] theorem modD_i : modD (.int a) (.int b) = if 0 < b then some (.int (a % b)) else none := (rfl)
@[simp] theorem fdivD_i : fdivD (.int a) (.int b) = if (decide (0 < b) && sm b) = true then some (.int (a / b)) else none := (rfl)
@[simp] theorem cmpD_i (p : Int → Int → Bool) : cmpD p (.int a) (.int b) = some (.bool (p a b)) := (rfl)
@[simp] theorem negD_i : negD (.int a) = some (.int (-a)) := (rfl)
@[simp] theorem intD_i : intD [.int a] = some (.int a) := (rfl)
@[simp] theorem intD_b (c : Bool) : intD [.bool c] = some (.int (if c then 1 else 0)) := (rfl)
@[simp] theorem maxD_i : maxD [.int a, .int b] = some (.int (if b > a then b else a)) := (rfl)
@[simp] theorem minD_i : minD [.int a, .int b] = some (.int (if b < a then b else a)) := (rfl)
theorem eqD_i (neg : Bool) : eqD neg (.int a) (.int b) = some (.bool (if neg then !decide (a = b) else decide (a = b))) := by
  unfold eqD
  have s1 : ∀ i : Int, SeqAt.shaped (.int i) = true := fun _ => rfl
  simp only [s1, Bool.and_self, if_true]
  have e : PyData.eqv (.int a) (.int b) = decide (a = b) := by
    first | rfl | (unfold PyData.eqv; simp [beq_eq_decide])
  rw [e]
@[simp] theorem eqD_if : eqD false (.int a) (.int b) = some (.bool (decide (a = b))) := by rw [eqD_i]; rfl
@[simp] theorem eqD_it : eqD true (.int a) (.int b) = some (.bool (!decide (a = b))) := by rw [eqD_i]; rfl
@[simp] theorem ixD_l (xs : List PyData) (i : Int) : ixD (.list xs) (.int i) = atD xs i := (rfl)
@[simp] theorem ixD_t (xs : List PyData) (i : Int) : ixD (.tuple xs) (.int i) = atD xs i := (rfl)
end
@[simp] theorem atD0 {α : Type} (x : α) (xs : List α) : atD (x :: xs) 0 = some x := (rfl)
@[simp] theorem atD1 {α : Type} (x y : α) (xs : List α) : atD (x :: y :: xs) 1 = some y := (rfl)
@[simp] theorem atD2 {α : Type} (x y z : α) (xs : List α) : atD (x :: y :: z :: xs) 2 = some z := (rfl)
@[simp] theorem runDef_eq (body : SS) (n np : Nat) (args : List Vd) (h : Hd) : runDef body n np args h = if args.length = np then (match body.run (startN n args) h with
    | .rt x h1 => .ok x h1
    | .nx _ h1 => .ok (.d .none) h1
    | .ex c x _ h1 => .ex c x h1
    | _ => .no) else .no := (rfl)
@[simp] theorem wipe_nil (ρ : Rh) : wipeN ρ [] = ρ := (rfl)
@[simp] theorem wipe_cons (ρ : Rh) (i : Nat) (is : List Nat) : wipeN ρ (i :: is) = (wipeN ρ is).set i none := (rfl)
@[simp] theorem ST_name_vs (i : Nat) : (ST.name i).vs = [i] := (rfl)
@[simp] theorem ST_tup_vs (ts : STs) : (ST.tup ts).vs = ts.vs := (rfl)
@[simp] theorem STs_nil_vs : STs.nil.vs = [] := (rfl)
@[simp] theorem STs_cons_vs (a : ST) (r : STs) : (STs.cons a r).vs = a.vs ++ r.vs := (rfl)
@[simp] theorem SGs_n0 : SGs.nil.n = 0 := (rfl)
@[simp] theorem SGs_n1 (a : SG) (r : SGs) : (SGs.cons a r).n = r.n + 1 := (rfl)
@[simp] theorem STs_n0 : STs.nil.n = 0 := (rfl)
@[simp] theorem STs_n1 (a : ST) (r : STs) : (STs.cons a r).n = r.n + 1 := (rfl)
@[simp] theorem isBD_b (neg a b : Bool) : isBD neg (.bool a) (.bool b) = some (.bool (if neg then !decide (a = b) else decide (a = b))) := (rfl)
@[simp] theorem ixN30 : ixN 3 0 = some 0 := (rfl)
@[simp] theorem ixN31 : ixN 3 1 = some 1 := (rfl)
@[simp] theorem ixN32 : ixN 3 2 = some 2 := (rfl)
@[simp] theorem OcS.only_nx (ρ : Rh) (h : Hd) : (OcS.nx ρ h).only = .nx ρ h := (rfl)
/-! step by step -/
section
variable {a b : SS} {ρ ρ1 : Rh} {h h1 : Hd} {o : OcS} {x : Vd}
theorem seq_of (e : a.run ρ h = .nx ρ1 h1) (e2 : b.run ρ1 h1 = o) : (SS.seq a b).run ρ h = o := by rw [SS.seq_run, e, OcS.seq_nx, e2]
theorem seq_ret (e : a.run ρ h = .rt x h1) : (SS.seq a b).run ρ h = .rt x h1 := by rw [SS.seq_run, e, OcS.seq_rt]
theorem set_of {i : Nat} {s : SE} (e : s.ev ρ h = .ok x h1) : (SS.set i s).run ρ h = .nx (ρ.set i (some x)) h1 := by rw [SS.set_run, e, Oc.thn_ok]
theorem ret_of {s : SE} (e : s.ev ρ h = .ok x h1) : (SS.ret s).run ρ h = .rt x h1 := by rw [SS.ret_run, e, Oc.thn_ok]
theorem drop_of {s : SE} (e : s.ev ρ h = .ok x h1) : (SS.drop s).run ρ h = .nx ρ h1 := by rw [SS.drop_run, e, Oc.thn_ok]
theorem ite_t {c : SB} (e : c.ev ρ h = .ok true h1) (e2 : a.run ρ h1 = o) : (SS.ite c a b).run ρ h = o := by rw [SS.ite_run, e, Oc.thn_ok]; exact e2
theorem ite_f {c : SB} (e : c.ev ρ h = .ok false h1) (e2 : b.run ρ h1 = o) : (SS.ite c a b).run ρ h = o := by rw [SS.ite_run, e, Oc.thn_ok]; exact e2
theorem for_of {it : SI} {tg : ST} {es : List PyData} (e : it.ev ρ h = .ok es h1) (e2 : SS.forR tg.put a.run es ρ h1 = o) : (SS.forS it tg a).run ρ h = o := by rw [SS.forS_run, e, Oc.thn_ok]; exact e2
theorem forR_step {put : Vd → Rh → Option Rh} {f : Rh → Hd → OcS} {y : PyData} {ys : List PyData} {ρ2 : Rh} {h2 : Hd} (e : put (.d y) ρ = some ρ1) (e2 : f ρ1 h = .nx ρ2 h2) (e3 : SS.forR put f ys ρ2 h2 = o) : SS.forR put f (y :: ys) ρ h = o := by rw [SS.forR, e]; dsimp only; rw [e2]; exact e3
theorem runDef_rt {n np : Nat} {args : List Vd} (hl : args.length = np) (e : a.run (startN n args) h = .rt x h1) : runDef a n np args h = .ok x h1 := by rw [runDef_eq, if_pos hl, e]
theorem fg_of {F : FSem} {es ds es' : List PyData} {z : PyData} {rest : Hd} (e : F (.r 0 :: ds.map .d) [.lst (es.map .d)] = .ok (.d z) (.lst (es'.map .d) :: rest)) : FG F es ds = some (z, es') := by unfold FG; rw [e]; simp
theorem fd_of {F : FSem} {ds : List PyData} {d : PyData} (e : F (ds.map .d) [] = .ok (.d d) h1) : FD F ds = some d := by unfold FD; rw [e]; rfl
end
theorem big62_ok {i : Int} (h0 : 0 ≤ i) (h1 : i ≤ 1000000000000000000) : SI.big62 i = true := by
  unfold SI.big62
  rw [decide_eq_true (Int.le_trans (by decide +kernel) h0), decide_eq_true (Int.lt_of_le_of_lt h1 (by decide +kernel))]
  rfl
theorem rgOk_of {a b : Int} (h0 : 0 ≤ a) (h1 : a ≤ 16777216) (h2 : 0 ≤ b) (h3 : b ≤ 1000000) : SE.rgOk a b = true := by
  unfold SE.rgOk
  rw [decide_eq_true (Int.le_trans (by decide) h0), decide_eq_true h1, decide_eq_true (Int.le_trans (by decide) h2), decide_eq_true (Int.le_trans h3 (by decide)), decide_eq_true (by omega)]
  rfl
section
variable {ρ : Rh} {h h1 : Hd}
theorem rng1_of {a : SL} {n : Int} (e : a.ev ρ h = .ok [.d (.int n)] h1) (h0 : 0 ≤ n) (hn : n ≤ 1000000000000000000) : (SI.rng1 a).ev ρ h = .ok (SI.rng 0 n) h1 := by
  rw [SI.rng1_ev, e, Oc.bind_ok]
  dsimp only
  rw [big62_ok h0 hn]
  rfl
theorem rng2_of {a : SL} {l n : Int} (e : a.ev ρ h = .ok [.d (.int l), .d (.int n)] h1) (h0 : 0 ≤ l) (hl : l ≤ 1000000000000000000) (h2 : 0 ≤ n) (hn : n ≤ 1000000000000000000) : (SI.rng2 a).ev ρ h = .ok (SI.rng l n) h1 := by
  rw [SI.rng2_ev, e, Oc.bind_ok]
  dsimp only
  rw [big62_ok h0 hl, big62_ok h2 hn]
  rfl
theorem listRg1_of {a : SE} {n : Int} (e : a.ev ρ h = .ok (.d (.int n)) h1) (h0 : 0 ≤ n) (hn : n ≤ 1000000) : (SE.listRg1 a).ev ρ h = .ok (.d (.list (SI.rng 0 n))) h1 := by
  rw [SE.listRg1_ev, e, Oc.bind_ok]
  dsimp only
  rw [rgOk_of (by decide) (by decide) h0 hn]
  rfl
theorem listRg1M_of {a : SE} {n : Int} (e : a.ev ρ h = .ok (.d (.int n)) h1) (h0 : 0 ≤ n) (hn : n ≤ 1000000) : (SE.listRg1M a).ev ρ h = .ok (.r h1.length) (h1 ++ [.lst ((SI.rng 0 n).map .d)]) := by
  rw [SE.listRg1M_ev, e, Oc.bind_ok]
  dsimp only
  rw [rgOk_of (by decide) (by decide) h0 hn]
  rfl
theorem listRg2_of {a b : SE} {l n : Int} {h2 : Hd} (e : a.ev ρ h = .ok (.d (.int l)) h1) (e2 : b.ev ρ h1 = .ok (.d (.int n)) h2) (h0 : 0 ≤ l) (hl : l ≤ 16777216) (h3 : 0 ≤ n) (hn : n ≤ 1000000) : (SE.listRg2 a b).ev ρ h = .ok (.d (.list (SI.rng l n))) h2 := by
  rw [SE.listRg2_ev, e, Oc.bind_ok, e2, Oc.bind_ok]
  dsimp only
  rw [rgOk_of h0 hl h3 hn]
  rfl
end
end N
end
section
set_option maxRecDepth 100000
set_option maxHeartbeats 2000000
/-! what a law draws -/
namespace D
open PySem PySem.Spec PyProof.Rows L2 G N
def hashI (s i : Int) : Int := ((((s * 1140671 + 27644437 * i * i + 131 * i + 19) % 2147483629) * ((s * 1140671 + 27644437 * i * i + 131 * i + 19) % 2147483629) + 62089 * i + 32416187) % 2147483587 * 48271) % 2147483647
theorem mod_lo {a m : Int} (h : 0 < m) : 0 ≤ a % m := Int.emod_nonneg _ (by omega)
theorem mod_hi {a m : Int} (h : 0 < m) : a % m < m := Int.emod_lt_of_pos _ h
theorem hashI_lo (s i : Int) : 0 ≤ hashI s i := mod_lo (by decide)
theorem hashI_hi (s i : Int) : hashI s i < 2147483647 := mod_hi (by decide)
theorem sm_nat {a : Int} {m : Nat} (h0 : 0 ≤ a) (h1 : a < (m : Int)) (h : m ≤ 2 ^ 4000) : sm a = true := by
  unfold sm
  refine decide_eq_true (Nat.lt_of_lt_of_le ?_ h)
  omega
theorem sm_lo {a : Int} (h0 : 0 ≤ a) (h1 : a < 1000000000000000000000000000000000000000000000000000000000000) : sm a = true := sm_nat (m := 1000000000000000000000000000000000000000000000000000000000000) h0 h1 (by decide +kernel)
theorem hash_fd {s i : Int} (hs : 0 ≤ s) (hs2 : s < 2147483647) (hi : 0 ≤ i) (hi2 : i < 1000000000000) : FD F_law_hash [.int s, .int i] = some (.int (hashI s i)) := by
  have a1 : sm s = true := sm_lo hs (by omega)
  have a2 : sm i = true := sm_lo hi (by omega)
  have n1 : sm 1140671 = true := by decide +kernel
  have n2 : sm 27644437 = true := by decide +kernel
  have n3 : sm 131 = true := by decide +kernel
  have n4 : sm 62089 = true := by decide +kernel
  have n5 : sm 48271 = true := by decide +kernel
  have a3 : sm (27644437 * i) = true := sm_lo (by omega) (by omega)
  have m1 : sm ((s * 1140671 + 27644437 * i * i + 131 * i + 19) % 2147483629) = true := sm_lo (mod_lo (by decide)) (by have := mod_hi (a := s * 1140671 + 27644437 * i * i + 131 * i + 19) (m := 2147483629) (by decide); omega)
  have m2 : sm (((((s * 1140671 + 27644437 * i * i + 131 * i + 19) % 2147483629) * ((s * 1140671 + 27644437 * i * i + 131 * i + 19) % 2147483629) + 62089 * i + 32416187) % 2147483587)) = true := sm_lo (mod_lo (by decide)) (by have := mod_hi (a := (((s * 1140671 + 27644437 * i * i + 131 * i + 19) % 2147483629) * ((s * 1140671 + 27644437 * i * i + 131 * i + 19) % 2147483629) + 62089 * i + 32416187)) (m := 2147483587) (by decide); omega)
  simp [FD, F_law_hash, B_law_hash, S_law_hash_0, S_law_hash_1, S_law_hash_2, startN, a1, a2, a3, n1, n2, n3, n4, n5, m1, m2, hashI]
/-- a generator: at most k drawn -/
structure Gn (k : Nat) (es : List PyData) : Prop where
  ex : ∃ a b c : Int, es = [.int a, .int b, .int c] ∧ 0 ≤ a ∧ sm a = true ∧ 0 ≤ b ∧ b < 2147483647 ∧ 0 ≤ c ∧ c ≤ (k : Int)
theorem Gn.mono {k l : Nat} {es : List PyData} (g : Gn k es) (h : k ≤ l) : Gn l es := by
  obtain ⟨a, b, c, h1, h2, h3, h4, h5, h6, h7⟩ := g.ex
  exact ⟨a, b, c, h1, h2, h3, h4, h5, h6, by omega⟩
theorem rand_body (a b c n dr : Int) (v : Option Vd) (x : PyData) (xs : List PyData) (hb : 0 ≤ b) (hb2 : b < 2147483647) (hc : 0 ≤ c) (hc2 : c < 999999999999) (hd : sm dr = true) :
    SS.forR (ST.name 3).put L_law_random_0.run (x :: xs) [some (.r 0), some (.d (.int n)), some (.d (.int dr)), v] [.lst [.d (.int a), .d (.int b), .d (.int c)]] =
      SS.forR (ST.name 3).put L_law_random_0.run xs [some (.r 0), some (.d (.int n)), some (.d (.int (dr * 2147483587 + hashI b (c + 1)))), some (.d x)] [.lst [.d (.int a), .d (.int b), .d (.int (c + 1))]] := by
  have n1 : sm 2147483587 = true := by decide +kernel
  rw [SS.forR]
  simp [L_law_random_0, hash_fd hb hb2 (show 0 ≤ c + 1 by omega) (show c + 1 < 1000000000000 by omega), hd, n1, ownL]
theorem rand_loop (a b n : Int) (hb : 0 ≤ b) (hb2 : b < 2147483647) : ∀ (xs : List PyData) (j : Nat) (c dr : Int) (v : Option Vd), xs.length + j ≤ 12 → 0 ≤ c → c < 999999999000 + j → 0 ≤ dr → dr < ((2147483648 ^ j : Nat) : Int) →
    ∃ dr' v', SS.forR (ST.name 3).put L_law_random_0.run xs [some (.r 0), some (.d (.int n)), some (.d (.int dr)), v] [.lst [.d (.int a), .d (.int b), .d (.int c)]] =
      .nx [some (.r 0), some (.d (.int n)), some (.d (.int dr')), v'] [.lst [.d (.int a), .d (.int b), .d (.int (c + xs.length))]] ∧ 0 ≤ dr'
  | [], j, c, dr, v, hl, hc, hc2, h0, h1 => ⟨dr, v, by simp [SS.forR], h0⟩
  | x :: xs, j, c, dr, v, hl, hc, hc2, h0, h1 => by
    have hl' : xs.length + 1 + j ≤ 12 := hl
    have sd : sm dr = true := sm_nat h0 h1 (Nat.le_trans (Nat.pow_le_pow_right (by decide) (show j ≤ 12 by omega)) (by decide +kernel))
    rw [rand_body a b c n dr v x xs hb hb2 hc (by omega) sd]
    have k1 := hashI_lo b (c + 1)
    have k2 := hashI_hi b (c + 1)
    have up : dr * 2147483587 + hashI b (c + 1) < ((2147483648 ^ (j + 1) : Nat) : Int) := by
      have z : ((2147483648 ^ (j + 1) : Nat) : Int) = ((2147483648 ^ j : Nat) : Int) * 2147483648 := by rw [Nat.pow_succ, Int.natCast_mul]; rfl
      rw [z]
      generalize ((2147483648 ^ j : Nat) : Int) = w at h1
      omega
    obtain ⟨dr', v', e, h⟩ := rand_loop a b n hb hb2 xs (j + 1) (c + 1) (dr * 2147483587 + hashI b (c + 1)) (some (.d x)) (by omega) (by omega) (by omega) (by omega) up
    refine ⟨dr', v', ?_, h⟩
    rw [e, List.length_cons, show c + 1 + (xs.length : Int) = c + ((xs.length + 1 : Nat) : Int) by omega]
theorem rng_len (a b : Int) : (SI.rng a b).length = (b - a).toNat := by unfold SI.rng; rw [List.length_map, List.length_range]
theorem bitsOf_le {n : Int} {m : Nat} (h0 : 0 < n) (h : n < ((2 ^ m : Nat) : Int)) : 0 ≤ bitsOf n ∧ bitsOf n ≤ m := by
  refine ⟨Int.natCast_nonneg _, ?_⟩
  have e : n.natAbs < 2 ^ m := by
    have : (n.natAbs : Int) < ((2 ^ m : Nat) : Int) := by rw [Int.natAbs_of_nonneg (by omega)]; exact h
    exact_mod_cast this
  have := PyProof.Rows.intBits_le e
  unfold bitsOf
  exact_mod_cast this
theorem rand0 (a b c n : Int) (p : ¬ 0 < a) :
   S_law_random_0.run [some (.r 0), some (.d (.int n)), none, none] [.lst [.d (.int a), .d (.int b), .d (.int c)]] = .nx [some (.r 0), some (.d (.int n)), none, none] [.lst [.d (.int a), .d (.int b), .d (.int c)]] := by
  simp [S_law_random_0, p]
theorem rand1 {v : Option Vd} {n : Int} {h : Hd} : S_law_random_1.run [some (.r 0), some (.d (.int n)), none, v] h = .nx [some (.r 0), some (.d (.int n)), some (.d (.int 0)), v] h := by
  simp [S_law_random_1]
theorem rand2 {q : Int} {ρ : Rh} {h : Hd} {R : OcS} (q0 : 0 ≤ q) (q1 : q ≤ 100) (e : SS.forR (ST.name 3).put L_law_random_0.run (SI.rng 0 (1 + q / 30)) ρ h = R) (eb : (SE.bits (SE.var 1)).ev ρ h = .ok (.d (.int q)) h) : S_law_random_2.run ρ h = R := by
  have n30 : sm 30 = true := by decide +kernel
  exact for_of (rng1_of (by simp [-SE.bits_ev, n30, eb]) (by omega) (by omega)) e
theorem rand3 {n dr : Int} {v : Option Vd} {h : Hd} (h0 : 0 < n) : S_law_random_3.run [some (.r 0), some (.d (.int n)), some (.d (.int dr)), v] h = .rt (.d (.int (dr % n))) h := by
  simp [S_law_random_3, h0]
/-- a draw below n -/
theorem rand_ok {k : Nat} {es : List PyData} (g : Gn k es) (hk : k ≤ 99999999999) {n : Int} (h0 : 0 < n) (h1 : n ≤ 1000000000000000000000000000000) :
    ∃ r es', FG F_law_random es [.int n] = some (.int r, es') ∧ 0 ≤ r ∧ r < n ∧ Gn (k + 4) es' := by
  obtain ⟨a, b, c, rfl, ha, ha2, hb, hb2, hc, hck⟩ := g.ex
  have sn : sm n = true := sm_lo (Int.le_of_lt h0) (Int.lt_of_le_of_lt h1 (by decide))
  obtain ⟨q1, q2⟩ := bitsOf_le (m := 100) h0 (Int.lt_of_le_of_lt h1 (by decide +kernel))
  have q2 : bitsOf n ≤ 100 := q2
  clear h1
  by_cases p : 0 < a
  · refine ⟨a % n, [.int (a / n), .int b, .int c], ?_, mod_lo h0, mod_hi h0, ⟨_, b, c, rfl, Int.ediv_nonneg ha (by omega), ?_, hb, hb2, hc, by omega⟩⟩
    · simp [FG, F_law_random, B_law_random, S_law_random_0, startN, p, h0, sn, ownL]
    · refine decide_eq_true (Nat.lt_of_le_of_lt ?_ (sm_lt ha2))
      have := Int.ediv_le_self (b := n) ha
      have := Int.ediv_nonneg ha (show (0 : Int) ≤ n by omega)
      omega
  · generalize hq : bitsOf n = q at q1 q2
    have q3 : q / 30 ≤ 3 := by omega
    have q4 : 0 ≤ q / 30 := by omega
    have n30 : sm 30 = true := by decide +kernel
    obtain ⟨dr, v, e, hd⟩ := rand_loop a b n hb hb2 (SI.rng 0 (1 + q / 30)) 0 c 0 none (by rw [rng_len]; omega) hc (by omega) (by decide) (by decide)
    refine ⟨dr % n, [.int a, .int b, .int (c + (SI.rng 0 (1 + q / 30)).length)], ?_, mod_lo h0, mod_hi h0, ⟨a, b, _, rfl, ha, ha2, hb, hb2, by omega, ?_⟩⟩
    · have eb : (SE.bits (SE.var 1)).ev [some (.r 0), some (.d (.int n)), some (.d (.int 0)), none] [.lst [.d (.int a), .d (.int b), .d (.int c)]] = .ok (.d (.int q)) [.lst [.d (.int a), .d (.int b), .d (.int c)]] := by
        rw [← hq]
        rfl
      have r2 := rand2 q1 q2 e eb
      generalize c + ((SI.rng 0 (1 + q / 30)).length : Int) = c2 at r2 ⊢
      clear eb e
      have st : startN 4 [Vd.r 0, Vd.d (.int n)] = [some (.r 0), some (.d (.int n)), none, none] := rfl
      have run : B_law_random.run [some (.r 0), some (.d (.int n)), none, none] [.lst [.d (.int a), .d (.int b), .d (.int c)]] = .rt (.d (.int (dr % n))) [.lst [.d (.int a), .d (.int b), .d (.int c2)]] := by
        exact seq_of (rand0 _ _ _ _ p) (seq_of rand1 (seq_of r2 (rand3 h0)))
      simp [FG, F_law_random, st, run]
    · rw [rng_len]
      push_cast
      omega
end D
end
section
set_option maxRecDepth 100000
set_option maxHeartbeats 2000000
/-! the script's cells, generators -/
namespace D
open PySem PySem.Spec PyProof.Rows L2 G N
theorem atD_ints {ns : List Int} {i : Int} (h0 : 0 ≤ i) (h1 : i < ns.length) : ∃ j, atD (ns.map PyData.int) i = some (.int j) := by
  unfold atD
  rw [if_pos h0]
  have hl : i.toNat < ns.length := by omega
  exact ⟨ns[i.toNat], by rw [List.getElem?_map, List.getElem?_eq_getElem hl]; rfl⟩
theorem len_ints (ns : List Int) : ((ns.map PyData.int).length : Int) = ns.length := by rw [List.length_map]
theorem cut_ints (ns : List Int) (l u : Option Int) : ∃ ms : List Int, G.cutD (ns.map PyData.int) l u = ms.map .int := by
  unfold G.cutD
  rw [List.map_drop.symm, List.map_take.symm]
  exact ⟨_, rfl⟩
theorem cell_fd (ns : List Int) {i : Int} (h0 : 0 ≤ i) : ∃ j, FD F_law_cell [.list (ns.map .int), .int i] = some (.int j) := by
  by_cases c : i < ns.length
  · obtain ⟨j, hj⟩ := atD_ints h0 c
    refine ⟨j, ?_⟩
    simp [FD, F_law_cell, B_law_cell, S_law_cell_0, startN, lenD, len_ints, c, hj]
  · obtain ⟨ms, e⟩ := cut_ints ns none (some 1)
    refine ⟨ms.sum % 1000003, ?_⟩
    simp [FD, F_law_cell, B_law_cell, S_law_cell_0, S_law_cell_1, startN, lenD, len_ints, c, e, itemsD, sumD, intsOf_map]
def M600 : Int := 1000000000000000000000000000000000000000000000000000000000000 ^ 10
theorem gen_fm (ns : List Int) {i : Int} (h0 : 0 ≤ i) (h1 : i ≤ 1000) : ∃ es, FM F_law_generator [.list (ns.map .int), .int i] = some es ∧ Gn (1000 * i.toNat) es := by
  obtain ⟨j, e⟩ := cell_fd ns h0
  have p1 : powD (.int 10) (.int 18) = some (.int 1000000000000000000) := by kernel_rfl
  have p2 : powD (.int 10) (.int 60) = some (.int 1000000000000000000000000000000000000000000000000000000000000) := by kernel_rfl
  have p3 : powD (.int 1000000000000000000000000000000000000000000000000000000000000) (.int 10) = some (.int M600) := by kernel_rfl
  have p4 : (0 : Int) < M600 := by decide +kernel
  have p5 : sm 1000 = true := by decide +kernel
  have p6 : sm i = true := sm_lo h0 (by omega)
  refine ⟨[.int ((if 0 > j - 1000000000000000000 then 0 else j - 1000000000000000000) % M600), .int (j % 2147483647), .int (1000 * i)], ?_, ⟨_, _, _, rfl, mod_lo p4, ?_, mod_lo (by decide), mod_hi (by decide), by omega, by omega⟩⟩
  · simp [FM, F_law_generator, B_law_generator, S_law_generator_0, S_law_generator_1, startN, e, p1, p2, p3, p4, p5, p6]
  · refine sm_nat (m := 1000000000000000000000000000000000000000000000000000000000000 ^ 10) (mod_lo p4) (mod_hi p4) (by decide +kernel)
end D
end
section
set_option maxRecDepth 100000
set_option maxHeartbeats 2000000
/-! what the plain defs tell -/
namespace D
open PySem PySem.Spec PyProof.Rows L2 G N
/-! ### data that is shown and compared -/
structure Ps (d : PyData) : Prop where
  p : pl d = true
  dep : d.depth ≤ 60
  blk : d.bulk ≤ 900000
theorem Ps.pl {d : PyData} (h : Ps d) : Pl d := ⟨h.p, by have := h.dep; omega, by have := h.blk; omega⟩
theorem okR_of {d : PyData} (h : Ps d) : okR d = true := by
  have q := PyData.shown_le_bulk 13 (by decide) d (pl_facts d h.p).2.1
  have b := h.blk
  have e := h.dep
  unfold okR
  rw [(pl_facts d h.p).2.2.1, decide_eq_true (show d.depth ≤ 100 by omega), decide_eq_true (show d.shown.length ≤ 16000000 by omega)]
  rfl
theorem repr_pl {d : PyData} (h : Ps d) : reprD [d] = some (.str d.shown) := by
  show (if okR d = true then _ else _) = _
  rw [if_pos (okR_of h)]
theorem eq_pl {d : PyData} (h : Pl d) : eqD false d d = some (.bool true) := by
  unfold eqD
  split
  · simp
  · rw [h.shaped, h.refl]; rfl
theorem ne_pl {d : PyData} (h : Pl d) : eqD true d d = some (.bool false) := by
  unfold eqD
  split
  · simp
  · rw [h.shaped, h.refl]; rfl
@[simp] theorem eqS (x : Str) : eqD false (.str x) (.str x) = some (.bool true) := by unfold eqD; simp
@[simp] theorem neS (x : Str) : eqD true (.str x) (.str x) = some (.bool false) := by unfold eqD; simp
theorem pl_b (b : Bool) : Pl (.bool b) := ⟨rfl, by rw [PyData.depth] <;> simp, by rw [PyData.bulk] <;> simp⟩
/-! ### comprehensions, loops -/
theorem frzL_data (h : Hd) : ∀ ds : List PyData, frzL h (ds.map .d) = some (ds, h) := fun ds => frzL_datas ds
theorem lcR_of {put : Vd → Rh → Option Rh} {f : Rh → Hd → Oc Bool} {g : Rh → Hd → Oc Vd} {ρ : Rh} {h : Hd} {p : PyData → Bool} {φ : PyData → PyData} : ∀ (xs : List PyData) (out : List Vd),
    (∀ x ∈ xs, ∃ ρ1, put (.d x) ρ = some ρ1 ∧ f ρ1 h = .ok (p x) h ∧ (p x = true → g ρ1 h = .ok (.d (φ x)) h)) → lcR put f g ρ xs out h = .ok (out ++ ((xs.filter p).map φ).map .d) h
  | [], out, _ => by unfold lcR; simp
  | x :: xs, out, k => by
    obtain ⟨ρ1, h1, h2, h3⟩ := k x (List.mem_cons_self ..)
    unfold lcR
    rw [h1]
    dsimp only
    rw [h2]
    cases c : p x with
    | true =>
      dsimp only
      rw [h3 c]
      dsimp only
      rw [lcR_of xs _ fun y hy => k y (List.mem_cons_of_mem _ hy), List.filter_cons_of_pos c]
      simp
    | false =>
      dsimp only
      rw [lcR_of xs _ fun y hy => k y (List.mem_cons_of_mem _ hy), List.filter_cons_of_neg (by simp [c])]
theorem lc_of {it : SI} {tg : ST} {c : SB} {g : SE} {ρ : Rh} {h h1 : Hd} {xs : List PyData} (p : PyData → Bool) (φ : PyData → PyData) (e : it.ev ρ h = .ok xs h1) (hl : xs.length ≤ 1000000)
    (k : ∀ x ∈ xs, ∃ ρ1, tg.put (.d x) (wipeN ρ tg.vs) = some ρ1 ∧ c.ev ρ1 h1 = .ok (p x) h1 ∧ (p x = true → g.ev ρ1 h1 = .ok (.d (φ x)) h1)) : (SE.lc it tg c g).ev ρ h = .ok (.d (.list ((xs.filter p).map φ))) h1 := by
  rw [SE.lc_ev, e, Oc.bind_ok, if_pos hl, lcR_of xs [] k]
  dsimp only
  rw [List.nil_append, frzL_data]
theorem lcM_of {it : SI} {tg : ST} {c : SB} {g : SE} {ρ : Rh} {h h1 : Hd} {xs : List PyData} (p : PyData → Bool) (φ : PyData → PyData) (e : it.ev ρ h = .ok xs h1) (hl : xs.length ≤ 1000000)
    (k : ∀ x ∈ xs, ∃ ρ1, tg.put (.d x) (wipeN ρ tg.vs) = some ρ1 ∧ c.ev ρ1 h1 = .ok (p x) h1 ∧ (p x = true → g.ev ρ1 h1 = .ok (.d (φ x)) h1)) : (SE.lcM it tg c g).ev ρ h = .ok (.r h1.length) (h1 ++ [.lst (((xs.filter p).map φ).map .d)]) := by
  rw [SE.lcM_ev, e, Oc.bind_ok, if_pos hl, lcR_of xs [] k]
  simp
/-- all of them -/
theorem lcY_of {it : SI} {tg : ST} {g : SE} {ρ : Rh} {h h1 : Hd} {xs : List PyData} (φ : PyData → PyData) (e : it.ev ρ h = .ok xs h1) (hl : xs.length ≤ 1000000)
    (k : ∀ x ∈ xs, ∃ ρ1, tg.put (.d x) (wipeN ρ tg.vs) = some ρ1 ∧ g.ev ρ1 h1 = .ok (.d (φ x)) h1) : (SE.lc it tg SB.yes g).ev ρ h = .ok (.d (.list (xs.map φ))) h1 := by
  have z := lc_of (c := SB.yes) (fun _ => true) φ e hl fun x hx => by
    obtain ⟨ρ1, h1', h2⟩ := k x hx
    exact ⟨ρ1, h1', rfl, fun _ => h2⟩
  rw [List.filter_eq_self.mpr fun _ _ => rfl] at z
  exact z
/-- a loop over a list, a state carried along -/
theorem for_fold {σ : Type} {put : Vd → Rh → Option Rh} {body : Rh → Hd → OcS} (E : σ → Option Vd → Rh) (Hf : σ → Hd) (f : σ → PyData → σ) (I : σ → Nat → Prop) : ∀ (xs : List PyData) (s : σ) (v : Option Vd), I s xs.length →
    (∀ s x v k, x ∈ xs → I s (k + 1) → ∃ ρ1, put (.d x) (E s v) = some ρ1 ∧ ∃ v', body ρ1 (Hf s) = .nx (E (f s x) v') (Hf (f s x)) ∧ I (f s x) k) →
    ∃ v', SS.forR put body xs (E s v) (Hf s) = .nx (E (xs.foldl f s) v') (Hf (xs.foldl f s)) ∧ I (xs.foldl f s) 0
  | [], s, v, i, _ => ⟨v, rfl, i⟩
  | x :: xs, s, v, i, k => by
    obtain ⟨ρ1, h1, v', h2, h3⟩ := k s x v xs.length (List.mem_cons_self ..) i
    obtain ⟨v2, e, z⟩ := for_fold E Hf f I xs (f s x) v' h3 fun s y v k' hy => k s y v k' (List.mem_cons_of_mem _ hy)
    exact ⟨v2, forR_step h1 h2 e, z⟩
/-! ### is_whole, is_below, are_below, is_each_once -/
def isI : PyData → Bool
  | .int _ => true
  | _ => false
def below (n : Int) : PyData → Bool
  | .int i => decide (0 ≤ i) && decide (i < n)
  | _ => false
theorem whole_fd (d : PyData) : FD F_is_whole [d] = some (.bool (isI d)) := by cases d <;> rfl
theorem below_fd (d : PyData) (n : Int) : FD F_is_below [d, .int n] = some (.bool (below n d)) := by
  refine fd_of (h1 := []) (runDef_rt rfl (ret_of ?_))
  cases d with
  | int i =>
    by_cases c : 0 ≤ i <;> simp [startN, whole_fd, isI, below, c]
  | _ => simp [startN, whole_fd, isI, below]
def fromB (n : Int) : PyData → Bool
  | .int i => decide (n ≤ i)
  | _ => false
theorem from_fd (d : PyData) (n : Int) : FD F_is_from [d, .int n] = some (.bool (fromB n d)) := by
  refine fd_of (h1 := []) (runDef_rt rfl (ret_of ?_))
  cases d <;> simp [startN, whole_fd, isI, fromB]
theorem boolsOf_fun (f : PyData → Bool) (xs : List PyData) : boolsOf (xs.map fun x => .bool (f x)) = some (xs.map f) := by
  have e : (xs.map fun x => PyData.bool (f x)) = (xs.map f).map .bool := by rw [List.map_map]; rfl
  rw [e, boolsOf_map]
theorem all_fun (f : PyData → Bool) (xs : List PyData) : allD [.list (xs.map fun x => .bool (f x))] = some (.bool (xs.all f)) := by
  show (boolsOf _).map _ = _
  rw [boolsOf_fun]
  simp [List.all_map]
def belowL (n : Int) : PyData → Bool
  | .list xs => xs.all (below n)
  | _ => false
theorem are_below_fd (d : PyData) (n : Int) (hl : ∀ xs, d = .list xs → xs.length ≤ 1000000) : FD F_are_below [d, .int n] = some (.bool (belowL n d)) := by
  refine fd_of (h1 := []) (runDef_rt rfl (ret_of ?_))
  cases d with
  | list xs =>
    have e := lcY_of (it := SI.seq (SE.var 0)) (tg := ST.name 2) (g := SE.call F_is_below (SL.cons (SE.var 2) (SL.cons (SE.var 1) SL.nil))) (ρ := [some (.d (.list xs)), some (.d (.int n)), none]) (h := []) (h1 := []) (xs := xs) (fun x => .bool (below n x)) rfl (hl xs rfl) fun x _ => ⟨_, rfl, by simp [below_fd, wipeN]⟩
    simp [startN, isiD, isT, e, all_fun, belowL]
  | _ => simp [startN, isiD, isT, belowL]
def toInt : PyData → Int
  | .int i => i
  | _ => 0
theorem ints_of_below {n : Int} : ∀ {xs : List PyData}, xs.all (below n) = true → intsOf xs = some (xs.map toInt)
  | [], _ => rfl
  | x :: xs, h => by
    rw [List.all_cons, Bool.and_eq_true] at h
    cases x with
    | int i =>
      rw [intsOf, ints_of_below h.2]
      rfl
    | _ => simp [below] at h
def eachB (n : Int) : PyData → Bool
  | .list xs => decide ((xs.length : Int) = n) && (xs.all (below n) && decide (((disL (xs.map toInt)).length : Int) = n))
  | _ => false
theorem each_fd (d : PyData) (n : Int) (hl : ∀ xs, d = .list xs → xs.length ≤ 4000) : FD F_is_each_once [d, .int n] = some (.bool (eachB n d)) := by
  have hb := are_below_fd d n fun xs e => Nat.le_trans (hl xs e) (by decide)
  cases d with
  | list xs =>
    by_cases c : (xs.length : Int) = n
    · refine fd_of (h1 := []) (runDef_rt rfl (seq_of (ρ1 := [some (.d (.list xs)), some (.d (.int n))]) (h1 := []) ?_ (ret_of ?_)))
      · simp [S_is_each_once_0, startN, isiD, isT, lenD, c]
      · cases a : xs.all (below n) with
        | false =>
          simp [hb, eachB, a, c, belowL]
        | true =>
          have l := hl xs rfl
          have e : lenSetD (.list xs) = some (.int ((disL (xs.map toInt)).length : Nat)) := by
            simp [lenSetD, ints_of_below a, l]
          simp [hb, eachB, a, c, SE.lenSet, oLenSet, e, belowL]
    · refine fd_of (h1 := []) (runDef_rt rfl (seq_ret ?_))
      simp [S_is_each_once_0, startN, isiD, isT, lenD, c, eachB]
  | _ =>
    refine fd_of (h1 := []) (runDef_rt rfl (seq_ret ?_))
    simp [S_is_each_once_0, startN, isiD, isT, eachB]
/-- lists of members, each once -/
structure IsP (n : Nat) (r : List Int) : Prop where
  len : r.length = n
  nd : r.Nodup
  lo : ∀ x ∈ r, 0 ≤ x
  hi : ∀ x ∈ r, x < n
theorem all_below {n : Int} {r : List Int} (lo : ∀ x ∈ r, 0 ≤ x) (hi : ∀ x ∈ r, x < n) : (r.map PyData.int).all (below n) = true := by
  rw [List.all_eq_true]
  intro d hd
  obtain ⟨x, hx, rfl⟩ := List.mem_map.mp hd
  simp [below, lo x hx, hi x hx]
theorem toInt_ints (r : List Int) : (r.map PyData.int).map toInt = r := by
  rw [List.map_map]
  exact List.map_id r
theorem IsP.each {n : Nat} {r : List Int} (h : IsP n r) : eachB n (.list (r.map .int)) = true := by
  simp only [eachB, toInt_ints, List.length_map, h.len, all_below h.lo h.hi, Bool.and_eq_true, decide_eq_true_eq, true_and]
  rw [(dis_iff r).mpr h.nd, h.len]
/-! ### own lists that come back -/
theorem mapH_data (k : Nat) (h : Hd) : ∀ ds : List PyData, mapH (fz k) h (ds.map .d) = some (ds, h)
  | [] => rfl
  | d :: ds => by
    rw [List.map_cons, mapH]
    have e : fz k h (.d d) = some (d, h) := by cases k <;> rfl
    rw [e]
    dsimp only
    rw [mapH_data k h ds]
theorem frz_r {h : Hd} {n : Nat} {ds : List PyData} (e : h[n]? = some (.lst (ds.map .d))) : frz h (.r n) = some (.list ds, h.set n (.frz (.list ds))) := by
  show fz 4 h (.r n) = _
  rw [fz, e]
  dsimp only
  rw [mapH_data]
theorem fd_own {F : FSem} {ds : List PyData} {h1 : Hd} {n : Nat} {ys : List PyData} (e : F (ds.map .d) [] = .ok (.r n) h1) (e2 : h1[n]? = some (.lst (ys.map .d))) : FD F ds = some (.list ys) := by
  unfold FD
  rw [e]
  dsimp only
  rw [frz_r e2]
theorem fm_own {F : FSem} {ds : List PyData} {h1 : Hd} {n : Nat} {ys : List PyData} (e : F (ds.map .d) [] = .ok (.r n) h1) (e2 : h1[n]? = some (.lst (ys.map .d))) : FM F ds = some ys := by
  unfold FM
  rw [e]
  dsimp only
  rw [e2]
  exact datas_map ys
theorem at_lastG {α : Type} (xs : List α) (a : α) : atD (xs ++ [a]) (-1) = some a := by
  unfold atD
  have hl : (xs ++ [a]).length = xs.length + 1 := by rw [List.length_append]; rfl
  rw [if_neg (by decide), if_pos (by rw [hl]; omega), hl, show ((-1 : Int) + ((xs.length + 1 : Nat) : Int)).toNat = xs.length by omega, List.getElem?_append_right (Nat.le_refl _), Nat.sub_self]
  rfl
end D
end
section
set_option maxRecDepth 100000
set_option maxHeartbeats 2000000
/-! k47: squares, chains -/
namespace K47
open PySem PySem.Spec PyProof.Rows L2 G N D
def rowD (r : List Int) : PyData := .list (r.map .int)
def sqD (sq : List (List Int)) : PyData := .list (sq.map rowD)
def col (sq : List (List Int)) (j : Nat) : List Int := sq.map fun r => r.getD j 0
structure Latin (n : Nat) (sq : List (List Int)) : Prop where
  two : 2 ≤ n
  top : n ≤ 40
  len : sq.length = n
  rows : ∀ r ∈ sq, IsP n r
  cols : ∀ j, j < n → IsP n (col sq j)
theorem atD_map {α β : Type} [Inhabited α] (f : α → β) {l : List α} {x : Int} (h0 : 0 ≤ x) (h1 : x < l.length) (y : α) : atD (l.map f) x = some (f (l.getD x.toNat y)) := by
  unfold atD
  rw [if_pos h0]
  have hl : x.toNat < l.length := by omega
  rw [List.getElem?_map, List.getElem?_eq_getElem hl, List.getD_eq_getElem?_getD, List.getElem?_eq_getElem hl]
  rfl
theorem mem_rng {n : Int} {x : PyData} (h : x ∈ SI.rng 0 n) : ∃ i : Nat, x = .int i ∧ (i : Int) < n := by
  unfold SI.rng at h
  obtain ⟨i, hi, rfl⟩ := List.mem_map.mp h
  have := List.mem_range.mp hi
  exact ⟨i, by simp, by omega⟩
theorem col_ev {sq : List (List Int)} {n j : Nat} (len : sq.length = n) (rows : ∀ r ∈ sq, IsP n r) (hj : j < n) (hn : n ≤ 4000) (ρ : Rh) (h : Hd) (b : Option Vd) (hr : ρ = [some (.d (sqD sq)), some (.d (.int n)), b, some (.d (.int j))]) :
    (SE.lc (SI.seq (SE.var 0)) (ST.name 2) SB.yes (SE.ix (SE.var 2) (SE.var 3))).ev ρ h = .ok (.d (rowD (col sq j))) h := by
  subst hr
  have e := lcY_of (it := SI.seq (SE.var 0)) (tg := ST.name 2) (g := SE.ix (SE.var 2) (SE.var 3)) (ρ := [some (.d (sqD sq)), some (.d (.int n)), b, some (.d (.int j))]) (h := h) (h1 := h) (xs := sq.map rowD) (fun x => match x with | .list ds => ds.getD j (.int 0) | _ => .none) rfl (by rw [List.length_map]; omega) fun x hx => by
    obtain ⟨r, hr, rfl⟩ := List.mem_map.mp hx
    have hl := (rows r hr).len
    refine ⟨_, rfl, ?_⟩
    simp [wipeN, rowD]
    rw [atD_map PyData.int (by omega) (by omega) 0]
    have hj' : j < r.length := by omega
    simp [List.getD_eq_getElem?_getD, List.getElem?_eq_getElem hj']
  rw [e]
  have e2 : (sq.map rowD).map (fun x => match x with | .list ds => ds.getD j (.int 0) | _ => .none) = (col sq j).map .int := by
    unfold col
    rw [List.map_map, List.map_map]
    apply List.map_congr_left
    intro r hr
    have hl : j < r.length := by rw [(rows r hr).len]; exact hj
    simp [rowD, List.getD_eq_getElem?_getD, List.getElem?_eq_getElem hl]
  rw [e2]
  rfl
def colB (n : Nat) (sq : List (List Int)) : PyData → Bool
  | .int j => eachB n (rowD (col sq j.toNat))
  | _ => false
theorem square_fd {sq : List (List Int)} {n : Nat} (two : 2 ≤ n) (hn : n ≤ 4000) (len : sq.length = n) (rows : ∀ r ∈ sq, IsP n r) :
    FD F_is_square [sqD sq] = some (.bool ((SI.rng 0 n).all (colB n sq))) := by
  refine fd_of (h1 := []) (runDef_rt rfl (seq_of (ρ1 := [some (.d (sqD sq)), none, none, none]) (h1 := []) ?_ (seq_of (ρ1 := [some (.d (sqD sq)), some (.d (.int n)), none, none]) (h1 := []) ?_ (seq_of (ρ1 := [some (.d (sqD sq)), some (.d (.int n)), none, none]) (h1 := []) ?_ (ret_of ?_)))))
  · have d : ¬ ((n : Int) < 2) := by omega
    simp [S_is_square_0, startN, sqD, isiD, isT, lenD, len, d]
  · simp [S_is_square_1, startN, sqD, lenD, len]
  · have e := lcY_of (it := SI.seq (SE.var 0)) (tg := ST.name 2) (g := SE.call F_is_each_once (SL.cons (SE.var 2) (SL.cons (SE.var 1) SL.nil))) (ρ := [some (.d (sqD sq)), some (.d (.int n)), none, none]) (h := []) (h1 := []) (xs := sq.map rowD) (fun x => .bool (eachB n x)) rfl (by rw [List.length_map]; omega) fun x hx => by
      obtain ⟨r, hr, rfl⟩ := List.mem_map.mp hx
      have hl := (rows r hr).len
      refine ⟨_, rfl, ?_⟩
      have z := each_fd (rowD r) n (fun xs hx => by cases hx; rw [List.length_map]; omega)
      simp [wipeN, z]
    have a : (sq.map rowD).all (eachB n) = true := by
      rw [List.all_eq_true]
      intro d hd
      obtain ⟨r, hr, rfl⟩ := List.mem_map.mp hd
      exact (rows r hr).each
    simp [-List.map_map, S_is_square_2, e, all_fun, a]
  · have e := lcY_of (it := SI.rng1 (SL.cons (SE.var 1) SL.nil)) (tg := ST.name 3) (g := SE.call F_is_each_once (SL.cons (SE.lc (SI.seq (SE.var 0)) (ST.name 2) SB.yes (SE.ix (SE.var 2) (SE.var 3))) (SL.cons (SE.var 1) SL.nil))) (ρ := [some (.d (sqD sq)), some (.d (.int n)), none, none]) (h := []) (h1 := []) (xs := SI.rng 0 n) (fun x => .bool (colB n sq x)) (rng1_of (n := (n : Int)) (by simp) (by omega) (by omega)) (by rw [rng_len]; omega) fun x hx => by
      obtain ⟨j, rfl, hj⟩ := mem_rng hx
      refine ⟨_, rfl, ?_⟩
      have z := each_fd (rowD (col sq j)) n (fun xs hx => by cases hx; rw [List.length_map]; unfold col; rw [List.length_map]; omega)
      have ce := col_ev len rows (show j < n by omega) hn [some (.d (sqD sq)), some (.d (.int n)), none, some (.d (.int j))] [] none rfl
      simp [wipeN, ce, z, colB]
    simp [-List.map_map, e, all_fun]
end K47
end
section
set_option maxRecDepth 100000
set_option maxHeartbeats 2000000
/-! k47: what is a chain -/
namespace K47
open PySem PySem.Spec PyProof.Rows L2 G N D
theorem square_true {sq : List (List Int)} {n : Nat} (L : Latin n sq) : FD F_is_square [sqD sq] = some (.bool true) := by
  rw [square_fd L.two (by have := L.top; omega) L.len L.rows]
  have e : ((SI.rng 0 n).all (colB n sq)) = true := by
    rw [List.all_eq_true]
    intro x hx
    obtain ⟨j, rfl, hj⟩ := mem_rng hx
    exact (L.cols j (by omega)).each
  rw [e]
theorem square_const {r : List Int} {n : Nat} (two : 2 ≤ n) (hn : n ≤ 4000) (h : IsP n r) : FD F_is_square [sqD (List.replicate n r)] = some (.bool false) := by
  rw [square_fd two hn (List.length_replicate) fun x hx => by rw [List.eq_of_mem_replicate hx]; exact h]
  have e : ((SI.rng 0 n).all (colB n (List.replicate n r))) = false := by
    rw [List.all_eq_false]
    refine ⟨.int 0, List.mem_map.mpr ⟨0, List.mem_range.mpr (by omega), rfl⟩, ?_⟩
    have e1 : col (List.replicate n r) 0 = List.replicate n (r.getD 0 0) := by unfold col; rw [List.map_replicate]
    show ¬ eachB n (rowD (col (List.replicate n r) 0)) = true
    rw [e1]
    intro z
    unfold rowD eachB at z
    simp only [toInt_ints, List.length_map, List.length_replicate, Bool.and_eq_true, decide_eq_true_eq] at z
    have nd := (dis_iff (List.replicate n (r.getD 0 0))).mp (by rw [List.length_replicate]; omega)
    rw [List.nodup_replicate] at nd
    omega
  rw [e]
theorem square_short {d : PyData} (h : ∀ xs, d = .list xs → xs.length < 2) : FD F_is_square [d] = some (.bool false) := by
  refine fd_of (h1 := []) (runDef_rt rfl (seq_ret ?_))
  cases d with
  | list xs =>
    have l : (xs.length : Int) < 2 := by have := h xs rfl; omega
    simp [S_is_square_0, startN, isiD, isT, lenD, l]
  | _ => simp [S_is_square_0, startN, isiD, isT]
theorem square_bad {xs : List PyData} (two : 2 ≤ xs.length) (hn : xs.length ≤ 4000) (hl : ∀ x ∈ xs, ∀ ys, x = .list ys → ys.length ≤ 4000) (b : ∃ x ∈ xs, eachB xs.length x = false) : FD F_is_square [.list xs] = some (.bool false) := by
  refine fd_of (h1 := []) (runDef_rt rfl (seq_of (ρ1 := [some (.d (.list xs)), none, none, none]) (h1 := []) ?_ (seq_of (ρ1 := [some (.d (.list xs)), some (.d (.int xs.length)), none, none]) (h1 := []) ?_ (seq_ret ?_))))
  · have d : ¬ ((xs.length : Int) < 2) := by omega
    simp [S_is_square_0, startN, isiD, isT, lenD, d]
  · simp [S_is_square_1, startN, lenD]
  · have e := lcY_of (it := SI.seq (SE.var 0)) (tg := ST.name 2) (g := SE.call F_is_each_once (SL.cons (SE.var 2) (SL.cons (SE.var 1) SL.nil))) (ρ := [some (.d (.list xs)), some (.d (.int xs.length)), none, none]) (h := []) (h1 := []) (xs := xs) (fun x => .bool (eachB xs.length x)) rfl (by omega) fun x hx => by
      refine ⟨_, rfl, ?_⟩
      have z := each_fd x xs.length (hl x hx)
      simp [wipeN, z]
    have a : xs.all (eachB xs.length) = false := by
      rw [List.all_eq_false]
      obtain ⟨x, h1, h2⟩ := b
      exact ⟨x, h1, by rw [h2]; decide⟩
    simp [S_is_square_2, e, all_fun, a]
def is3 : PyData → Bool
  | .tuple [_, _, _] => true
  | _ => false
theorem chain_not {d : PyData} (h : is3 d = false) : FD F_is_chain [d] = some (.bool false) := by
  refine fd_of (h1 := []) (runDef_rt rfl (seq_ret ?_))
  cases d with
  | tuple xs =>
    have l : ¬ ((xs.length : Int) = 3) := by
      intro z
      match xs, z, h with
      | [a, b, c], _, h => simp [is3] at h
      | [], z, _ => simp at z
      | [a], z, _ => simp at z
      | [a, b], z, _ => simp at z
      | a :: b :: c :: d :: r, z, _ => simp at z; omega
    simp [S_is_chain_0, startN, isiD, isT, lenD, l]
  | _ => simp [S_is_chain_0, startN, isiD, isT]
theorem chain_bad {q a b : PyData} (h : FD F_is_square [q] = some (.bool false)) : FD F_is_chain [.tuple [q, a, b]] = some (.bool false) := by
  refine fd_of (h1 := []) (runDef_rt rfl (seq_of (ρ1 := [some (.d (.tuple [q, a, b])), none, none, none]) (h1 := []) ?_ (seq_of (ρ1 := [some (.d (.tuple [q, a, b])), some (.d q), some (.d a), some (.d b)]) (h1 := []) ?_ (ret_of ?_))))
  · simp [S_is_chain_0, startN, isiD, isT, lenD]
  · simp [S_is_chain_1]
  · simp [h]
theorem chain_fd {sq : List (List Int)} {n : Nat} (L : Latin n sq) (a b : PyData) : FD F_is_chain [.tuple [sqD sq, a, b]] = some (.bool (below n a && below n b)) := by
  refine fd_of (h1 := []) (runDef_rt rfl (seq_of (ρ1 := [some (.d (.tuple [sqD sq, a, b])), none, none, none]) (h1 := []) ?_ (seq_of (ρ1 := [some (.d (.tuple [sqD sq, a, b])), some (.d (sqD sq)), some (.d a), some (.d b)]) (h1 := []) ?_ (ret_of ?_))))
  · simp [S_is_chain_0, startN, isiD, isT, lenD]
  · simp [S_is_chain_1]
  · have l : lenD [sqD sq] = some (.int n) := by simp [sqD, lenD, L.len]
    cases c : below n a <;> simp [square_true L, l, below_fd, c]
end K47
end
section
set_option maxRecDepth 100000
set_option maxHeartbeats 2000000
/-! k47: along a list of signs -/
namespace K47
open PySem PySem.Spec PyProof.Rows L2 G N D
def rowOf (sq : List (List Int)) (x : Int) : List Int := sq.getD x.toNat []
def at2 (sq : List (List Int)) (x c : Int) : Int := (rowOf sq x).getD c.toNat 0
def states (sq : List (List Int)) : Int → List Int → List Int
  | s, [] => [s]
  | s, c :: cs => s :: states sq (at2 sq s c) cs
def fin (sq : List (List Int)) (s : Int) (cs : List Int) : Int := cs.foldl (at2 sq) s
def In (n : Nat) (x : Int) : Prop := 0 ≤ x ∧ x < n
def Ins (n : Nat) (cs : List Int) : Prop := ∀ x ∈ cs, In n x
theorem row_at {sq : List (List Int)} {n : Nat} (L : Latin n sq) {x : Int} (h : In n x) : rowOf sq x ∈ sq := by
  unfold rowOf
  have hl : x.toNat < sq.length := by rw [L.len]; have := h.1; have := h.2; omega
  rw [List.getD_eq_getElem?_getD, List.getElem?_eq_getElem hl]
  exact List.getElem_mem hl
theorem getD_mem {r : List Int} {j : Nat} (h : j < r.length) : r.getD j 0 ∈ r := by
  rw [List.getD_eq_getElem?_getD, List.getElem?_eq_getElem h]
  exact List.getElem_mem h
theorem at_in {sq : List (List Int)} {n : Nat} (L : Latin n sq) {x c : Int} (h : In n x) (hc : In n c) : In n (at2 sq x c) := by
  have r := L.rows _ (row_at L h)
  have m : (rowOf sq x).getD c.toNat 0 ∈ rowOf sq x := getD_mem (by rw [r.len]; have := hc.1; have := hc.2; omega)
  exact ⟨r.lo _ m, r.hi _ m⟩
theorem fin_in {sq : List (List Int)} {n : Nat} (L : Latin n sq) : ∀ {cs : List Int} {s : Int}, In n s → Ins n cs → In n (fin sq s cs)
  | [], _, h, _ => h
  | c :: cs, s, h, hc => fin_in L (cs := cs) (at_in L h (hc c (List.mem_cons_self ..))) fun x hx => hc x (List.mem_cons_of_mem _ hx)
theorem ix_sq {sq : List (List Int)} {n : Nat} (L : Latin n sq) {x : Int} (h : In n x) : ixD (sqD sq) (.int x) = some (rowD (rowOf sq x)) := by
  show atD (sq.map rowD) x = _
  exact atD_map rowD h.1 (by rw [L.len]; exact h.2) []
theorem ix_row {r : List Int} {c : Int} (h0 : 0 ≤ c) (h1 : c < r.length) : ixD (rowD r) (.int c) = some (.int (r.getD c.toNat 0)) := by
  show atD (r.map PyData.int) c = _
  exact atD_map PyData.int h0 h1 0
theorem ix_at {sq : List (List Int)} {n : Nat} (L : Latin n sq) {x c : Int} (h : In n x) (hc : In n c) : ixD (rowD (rowOf sq x)) (.int c) = some (.int (at2 sq x c)) :=
  ix_row hc.1 (by rw [(L.rows _ (row_at L h)).len]; exact hc.2)
def ownI (ns : List Int) : List Vd := (ns.map PyData.int).map .d
theorem ownI_app (a b : List Int) : ownI (a ++ b) = ownI a ++ ownI b := by unfold ownI; rw [List.map_append, List.map_append]
theorem own_last (acc : List Int) (s : Int) : atD (ownI (acc ++ [s])) (-1) = some (.d (.int s)) := by rw [ownI_app]; exact at_lastG _ _
theorem own_len (ns : List Int) : (ownI ns).length = ns.length := by simp [ownI]
theorem along {sq : List (List Int)} {n : Nat} (L : Latin n sq) (a b d e f : Option Vd) : ∀ (cs : List Int) (acc : List Int) (s : Int) (v : Option Vd), In n s → Ins n cs → acc.length + cs.length ≤ 100000 →
    ∃ v', SS.forR (ST.name 6).put L_states_along_0.run (cs.map .int) [a, b, some (.d (sqD sq)), d, e, some (.r 0), v] [.lst (ownI (acc ++ [s]))] = .nx [a, b, some (.d (sqD sq)), d, e, some (.r 0), v'] [.lst (ownI (acc ++ states sq s cs))]
  | [], acc, s, v, _, _, _ => ⟨v, rfl⟩
  | c :: cs, acc, s, v, h, hc, hl => by
    have hc0 := hc c (List.mem_cons_self ..)
    rw [List.length_cons] at hl
    obtain ⟨v', z⟩ := along L a b d e f cs (acc ++ [s]) (at2 sq s c) (some (.d (.int c))) (at_in L h hc0) (fun x hx => hc x (List.mem_cons_of_mem _ hx)) (by rw [List.length_append]; simp; omega)
    refine ⟨v', forR_step (ρ1 := [a, b, some (.d (sqD sq)), d, e, some (.r 0), some (.d (.int c))]) rfl (ρ2 := [a, b, some (.d (sqD sq)), d, e, some (.r 0), some (.d (.int c))]) (h2 := [.lst (ownI (acc ++ [s] ++ [at2 sq s c]))]) ?_ ?_⟩
    · have lim : acc.length + 1 < 1000000 := by omega
      have e1 : ownI (acc ++ [s] ++ [at2 sq s c]) = ownI (acc ++ [s]) ++ [.d (.int (at2 sq s c))] := ownI_app _ _
      simp [L_states_along_0, ownL, own_last, ix_sq L h, ix_at L h hc0, own_len, lim, ← e1, -List.append_assoc]
    · rw [z]
      simp [states]
end K47
end
section
set_option maxRecDepth 100000
set_option maxHeartbeats 2000000
/-! k47: the package's defs -/
namespace K47
open PySem PySem.Spec PyProof.Rows L2 G N D
def chD (sq : List (List Int)) (s e : Int) : PyData := .tuple [sqD sq, .int s, .int e]
theorem states_last (sq : List (List Int)) : ∀ (cs : List Int) (s : Int), ∃ xs, states sq s cs = xs ++ [fin sq s cs]
  | [], s => ⟨[], rfl⟩
  | c :: cs, s => by
    obtain ⟨xs, e⟩ := states_last sq cs (at2 sq s c)
    exact ⟨s :: xs, by rw [states, e]; rfl⟩
theorem states_len (sq : List (List Int)) : ∀ (cs : List Int) (s : Int), (states sq s cs).length = cs.length + 1
  | [], s => rfl
  | c :: cs, s => by rw [states, List.length_cons, states_len sq cs, List.length_cons]
theorem states_in {sq : List (List Int)} {n : Nat} (L : Latin n sq) : ∀ {cs : List Int} {s : Int}, In n s → Ins n cs → Ins n (states sq s cs)
  | [], s, h, _ => fun x hx => by rw [states] at hx; rw [List.mem_singleton.mp hx]; exact h
  | c :: cs, s, h, hc => fun x hx => by
    rw [states] at hx
    rcases List.mem_cons.mp hx with rfl | hx
    · exact h
    · exact states_in L (at_in L h (hc c (List.mem_cons_self ..))) (fun y hy => hc y (List.mem_cons_of_mem _ hy)) x hx
theorem states_at (sq : List (List Int)) : ∀ (cs : List Int) (s : Int) (p : Nat), p ≤ cs.length → (states sq s cs).getD p 0 = fin sq s (cs.take p)
  | [], s, 0, _ => rfl
  | c :: cs, s, 0, _ => rfl
  | c :: cs, s, p + 1, h => by
    rw [states, List.take_succ_cons]
    show (states sq (at2 sq s c) cs).getD p 0 = _
    rw [states_at sq cs _ p (by simpa using h)]
    rfl
section
variable {sq : List (List Int)} {n : Nat} {s e : Int} {cs : List Int}
theorem along_run (L : Latin n sq) (hs : In n s) (hc : Ins n cs) (hl : cs.length ≤ 90000) : F_states_along [.d (chD sq s e), .d (rowD cs)] [] = .ok (.r 0) [.lst ((states sq s cs |>.map PyData.int).map .d)] := by
  obtain ⟨v, z⟩ := along L (some (.d (chD sq s e))) (some (.d (rowD cs))) (some (.d (.int s))) (some (.d (.int e))) none cs [] s none hs hc (by simp; omega)
  refine runDef_rt rfl (seq_of (ρ1 := [some (.d (chD sq s e)), some (.d (rowD cs)), some (.d (sqD sq)), some (.d (.int s)), some (.d (.int e)), none, none]) (h1 := []) ?_ (seq_of (ρ1 := [some (.d (chD sq s e)), some (.d (rowD cs)), some (.d (sqD sq)), some (.d (.int s)), some (.d (.int e)), some (.r 0), none]) (h1 := [.lst (ownI [s])]) ?_ (seq_of (for_of (es := cs.map .int) ?_ z) (ret_of ?_))))
  · simp [S_states_along_0, startN, chD]
  · simp [S_states_along_1, ownI]
  · rfl
  · simp [ownI]
theorem along_fd (L : Latin n sq) (hs : In n s) (hc : Ins n cs) (hl : cs.length ≤ 90000) : FD F_states_along [chD sq s e, rowD cs] = some (rowD (states sq s cs)) := fd_own (along_run L hs hc hl) rfl
theorem along_fm (L : Latin n sq) (hs : In n s) (hc : Ins n cs) (hl : cs.length ≤ 90000) : FM F_states_along [chD sq s e, rowD cs] = some ((states sq s cs).map .int) := fm_own (along_run L hs hc hl) rfl
theorem below_in {x : Int} (h : In n x) : below n (.int x) = true := by simp [below, h.1, h.2]
theorem chk_chain (L : Latin n sq) (hs : In n s) (he : In n e) : FD F_check_chain [chD sq s e] = some .none := by
  have c := chain_fd L (.int s) (.int e)
  rw [below_in hs, below_in he] at c
  have c2 : FD F_is_chain [chD sq s e] = some (.bool true) := c
  refine fd_of (h1 := []) ?_
  simp [F_check_chain, B_check_chain, S_check_chain_0, startN, c2]
theorem len_row (cs : List Int) : lenD [rowD cs] = some (.int cs.length) := by simp [rowD, lenD]
theorem len_sq (L : Latin n sq) : lenD [sqD sq] = some (.int n) := by simp [sqD, lenD, L.len]
theorem below_row (hc : Ins n cs) (hl : cs.length ≤ 90000) : FD F_are_below [rowD cs, .int n] = some (.bool true) := by
  rw [are_below_fd (rowD cs) n fun xs e => by cases e; rw [List.length_map]; omega]
  show some (PyData.bool ((cs.map PyData.int).all (below n))) = _
  rw [all_below (fun x hx => (hc x hx).1) fun x hx => (hc x hx).2]
theorem chk_signs (L : Latin n sq) (hc : Ins n cs) (hn : cs ≠ []) (hl : cs.length ≤ 90000) : FD F_check_signs [chD sq s e, rowD cs] = some .none := by
  have l : ¬ ((cs.length : Int) = 0) := by
    intro z
    exact hn (List.length_eq_zero_iff.mp (by omega))
  have i : ixD (chD sq s e) (.int 0) = some (sqD sq) := rfl
  refine fd_of (h1 := []) ?_
  simp [F_check_signs, B_check_signs, S_check_signs_0, startN, i, len_sq L, below_row hc hl, len_row, hn]
theorem states_of_fm (L : Latin n sq) (hs : In n s) (he : In n e) (hc : Ins n cs) (hn : cs ≠ []) (hl : cs.length ≤ 90000) : FM F_states_of [chD sq s e, rowD cs] = some ((states sq s cs).map .int) := by
  refine fm_own (h1 := [.lst (((states sq s cs).map PyData.int).map .d)]) (n := 0) ?_ rfl
  simp [F_states_of, B_states_of, S_states_of_0, S_states_of_1, S_states_of_2, startN, chk_chain L hs he, chk_signs L hc hn hl, along_fm L hs hc hl]
theorem states_of_fd (L : Latin n sq) (hs : In n s) (he : In n e) (hc : Ins n cs) (hn : cs ≠ []) (hl : cs.length ≤ 90000) : FD F_states_of [chD sq s e, rowD cs] = some (rowD (states sq s cs)) := by
  refine fd_own (h1 := [.lst (((states sq s cs).map PyData.int).map .d)]) (n := 0) ?_ rfl
  simp [F_states_of, B_states_of, S_states_of_0, S_states_of_1, S_states_of_2, startN, chk_chain L hs he, chk_signs L hc hn hl, along_fm L hs hc hl]
theorem ix_last (sq : List (List Int)) (s : Int) (cs : List Int) : ixD (rowD (states sq s cs)) (.int (-1)) = some (.int (fin sq s cs)) := by
  obtain ⟨xs, e⟩ := states_last sq cs s
  rw [e]
  show atD ((xs ++ [fin sq s cs]).map PyData.int) (-1) = _
  rw [List.map_append]
  exact at_lastG _ _
theorem right_fd (L : Latin n sq) (hs : In n s) (he : In n e) (hc : Ins n cs) (hn : cs ≠ []) (hl : cs.length ≤ 90000) : FD F_is_right_chain [chD sq s e, rowD cs] = some (.bool (decide (fin sq s cs = e))) := by
  have i : ixD (chD sq s e) (.int 2) = some (.int e) := rfl
  refine fd_of (h1 := []) ?_
  simp [F_is_right_chain, B_is_right_chain, S_is_right_chain_0, S_is_right_chain_1, S_is_right_chain_2, startN, chk_chain L hs he, chk_signs L hc hn hl, along_fd L hs hc hl, ix_last, i]
end
/-! ### which place of a list -/
def ixOf : List Int → Int → Nat
  | [], _ => 0
  | y :: ys, x => if y = x then 0 else ixOf ys x + 1
theorem ixOf_lt : ∀ {l : List Int} {x : Int}, x ∈ l → ixOf l x < l.length
  | y :: ys, x, h => by
    unfold ixOf
    split
    · simp
    · rename_i c
      have := ixOf_lt (l := ys) (x := x) ((List.mem_cons.mp h).resolve_left fun z => c z.symm)
      simpa using this
theorem ixOf_at : ∀ {l : List Int} {x : Int}, x ∈ l → l.getD (ixOf l x) 0 = x
  | y :: ys, x, h => by
    unfold ixOf
    split
    · rename_i c; exact c
    · rename_i c
      exact ixOf_at (l := ys) (x := x) ((List.mem_cons.mp h).resolve_left fun z => c z.symm)
theorem ixOf_of : ∀ {l : List Int}, l.Nodup → ∀ {i : Nat}, i < l.length → ixOf l (l.getD i 0) = i
  | y :: ys, nd, 0, _ => by simp [ixOf]
  | y :: ys, nd, i + 1, h => by
    obtain ⟨h1, h2⟩ := List.nodup_cons.mp nd
    have hi : i < ys.length := by simpa using h
    have m : ys.getD i 0 ∈ ys := getD_mem hi
    show ixOf (y :: ys) (ys.getD i 0) = i + 1
    unfold ixOf
    rw [if_neg (fun z => h1 (by rw [z]; exact m)), ixOf_of h2 hi]
theorem eqv_i (a b : Int) : PyData.eqv (.int a) (.int b) = decide (a = b) := by
  first | rfl | (unfold PyData.eqv; simp [beq_eq_decide])
theorem idxD_ints : ∀ {l : List Int} {x : Int}, x ∈ l → idxD (l.map .int) (.int x) = some (ixOf l x)
  | y :: ys, x, h => by
    rw [List.map_cons, idxD, eqv_i]
    unfold ixOf
    by_cases c : y = x
    · simp [c]
    · rw [if_neg (by simpa using c), if_neg c, idxD_ints ((List.mem_cons.mp h).resolve_left fun z => c z.symm)]
      rfl
theorem index_ints {n : Nat} (hn : n ≤ 4000) {l : List Int} {x : Int} (p : IsP n l) (h : x ∈ l) : indexD (rowD l) (.int x) = some (.int (ixOf l x)) := by
  have s1 : SeqAt.shaped (rowD l) = true := (Pl.ints (ns := l) (fun y hy => by have := p.lo y hy; have := p.hi y hy; omega) (by rw [p.len]; omega)).shaped
  have s2 : SeqAt.shaped (.int x) = true := rfl
  show (if (SeqAt.shaped (rowD l) && SeqAt.shaped (.int x)) = true then _ else _) = _
  rw [s1, s2]
  show (idxD (l.map .int) (.int x)).map _ = _
  rw [idxD_ints h]
  rfl
end K47
end
section
set_option maxRecDepth 100000
set_option maxHeartbeats 2000000
/-! k47: the sign that is wanted at a place; counts -/
namespace K47
open PySem PySem.Spec PyProof.Rows L2 G N D
def back (sq : List (List Int)) (e : Int) (cs : List Int) : Int := cs.foldr (fun c w => (ixOf (col sq c.toNat) w : Int)) e
section
variable {sq : List (List Int)} {n : Nat} {s e : Int} {cs : List Int}
theorem col_len (L : Latin n sq) {c : Int} (h : In n c) : (col sq c.toNat).length = n := (L.cols c.toNat (by have := h.1; have := h.2; omega)).len
theorem col_at (L : Latin n sq) {x : Int} (h : In n x) (c : Int) : (col sq c.toNat).getD x.toNat 0 = at2 sq x c := by
  unfold col at2 rowOf
  have hl : x.toNat < sq.length := by rw [L.len]; have := h.1; have := h.2; omega
  simp [List.getD_eq_getElem?_getD, List.getElem?_eq_getElem hl]
theorem nodup_le : ∀ {l S : List Int}, l.Nodup → (∀ x ∈ l, x ∈ S) → l.length ≤ S.length
  | [], _, _, _ => Nat.zero_le _
  | x :: l, S, nd, h => by
    have hx := h x (List.mem_cons_self ..)
    have nd' := List.nodup_cons.mp nd
    have ih := nodup_le (l := l) (S := S.erase x) nd'.2 fun y hy => by
      have ne : y ≠ x := fun e => nd'.1 (e ▸ hy)
      exact (List.mem_erase_of_ne ne).mpr (h y (List.mem_cons_of_mem _ hy))
    have e := List.length_erase_of_mem hx
    have p := List.length_pos_of_mem hx
    show l.length + 1 ≤ _
    omega
/-- a list of members with as many as there are has them all -/
theorem perm_all {l : List Int} (p : IsP n l) {x : Int} (h : In n x) : x ∈ l := by
  have q : l ⊆ (List.range n).map fun (i : Nat) => (i : Int) := fun y hy => List.mem_map.mpr ⟨y.toNat, List.mem_range.mpr (by have := p.lo y hy; have := p.hi y hy; omega), by have := p.lo y hy; omega⟩
  refine Classical.byContradiction fun no => ?_
  have nd2 : (x :: l).Nodup := List.nodup_cons.mpr ⟨no, p.nd⟩
  have le := nodup_le (S := (List.range n).map fun (i : Nat) => (i : Int)) nd2 fun y hy => by
    rcases List.mem_cons.mp hy with rfl | hy
    · exact List.mem_map.mpr ⟨y.toNat, List.mem_range.mpr (by have := h.1; have := h.2; omega), by have := h.1; omega⟩
    · exact q hy
  rw [List.length_cons, p.len, List.length_map, List.length_range] at le
  omega
theorem ix_in {l : List Int} (p : IsP n l) {x : Int} (h : In n x) : In n (ixOf l x : Nat) := by
  have := ixOf_lt (perm_all p h)
  rw [p.len] at this
  exact ⟨by omega, by omega⟩
theorem ix_iff {l : List Int} (p : IsP n l) {x y : Int} (h : In n x) (hy : In n y) : l.getD y.toNat 0 = x ↔ y = (ixOf l x : Nat) := by
  have hl : y.toNat < l.length := by rw [p.len]; have := hy.1; have := hy.2; omega
  constructor
  · intro z
    have := ixOf_of p.nd hl
    rw [z] at this
    have := hy.1
    omega
  · intro z
    have e1 : y.toNat = ixOf l x := by omega
    rw [e1]
    exact ixOf_at (perm_all p h)
theorem back_in (L : Latin n sq) (he : In n e) : ∀ {cs : List Int}, Ins n cs → In n (back sq e cs)
  | [], _ => he
  | c :: cs, h => ix_in (L.cols c.toNat (by have := (h c (List.mem_cons_self ..)).1; have := (h c (List.mem_cons_self ..)).2; omega)) (back_in L he fun x hx => h x (List.mem_cons_of_mem _ hx))
theorem back_iff (L : Latin n sq) (he : In n e) : ∀ {cs : List Int} {y : Int}, In n y → Ins n cs → (fin sq y cs = e ↔ y = back sq e cs)
  | [], y, _, _ => Iff.rfl
  | c :: cs, y, hy, h => by
    have hc := h c (List.mem_cons_self ..)
    have ht : Ins n cs := fun x hx => h x (List.mem_cons_of_mem _ hx)
    have q := back_iff L he (cs := cs) (at_in L hy hc) ht
    show fin sq (at2 sq y c) cs = e ↔ _
    rw [q, ← col_at L hy c]
    exact ix_iff (L.cols c.toNat (by have := hc.1; have := hc.2; omega)) (back_in L he ht) hy
/-- the sign -/
def wanted (sq : List (List Int)) (s e : Int) (cs : List Int) (p : Nat) : Int := (ixOf (rowOf sq (fin sq s (cs.take p))) (back sq e (cs.drop (p + 1))) : Nat)
theorem ins_take (h : Ins n cs) (p : Nat) : Ins n (cs.take p) := fun x hx => h x (List.mem_of_mem_take hx)
theorem ins_drop (h : Ins n cs) (p : Nat) : Ins n (cs.drop p) := fun x hx => h x (List.mem_of_mem_drop hx)
theorem wanted_in (L : Latin n sq) (hs : In n s) (he : In n e) (hc : Ins n cs) (p : Nat) : In n (wanted sq s e cs p) := by
  have hf := fin_in L hs (ins_take hc p)
  exact ix_in (L.rows _ (row_at L hf)) (back_in L he (ins_drop hc _))
theorem wanted_iff (L : Latin n sq) (hs : In n s) (he : In n e) (hc : Ins n cs) (p : Nat) {x : Int} (hx : In n x) : fin sq s (cs.take p ++ [x] ++ cs.drop (p + 1)) = e ↔ x = wanted sq s e cs p := by
  have hf := fin_in L hs (ins_take hc p)
  have e1 : fin sq s (cs.take p ++ [x] ++ cs.drop (p + 1)) = fin sq (at2 sq (fin sq s (cs.take p)) x) (cs.drop (p + 1)) := by
    unfold fin
    rw [List.foldl_append, List.foldl_append]
    rfl
  rw [e1, back_iff L he (at_in L hf hx) (ins_drop hc _)]
  exact ix_iff (L.rows _ (row_at L hf)) (back_in L he (ins_drop hc _)) hx
theorem col_of {it : SI} {tg : ST} {g : SE} {ρ : Rh} {h : Hd} {j : Nat} (L : Latin n sq) (hj : j < n) (e : it.ev ρ h = .ok (sq.map rowD) h)
    (k : ∀ r ∈ sq, ∃ ρ1, tg.put (.d (rowD r)) (wipeN ρ tg.vs) = some ρ1 ∧ g.ev ρ1 h = .ok (.d (.int (r.getD j 0))) h) : (SE.lc it tg SB.yes g).ev ρ h = .ok (.d (rowD (col sq j))) h := by
  have z := lcY_of (fun x => match x with | .list ds => ds.getD j (.int 0) | _ => .none) e (by rw [List.length_map, L.len]; have := L.top; omega) fun x hx => by
    obtain ⟨r, hr, rfl⟩ := List.mem_map.mp hx
    obtain ⟨ρ1, h1, h2⟩ := k r hr
    refine ⟨ρ1, h1, ?_⟩
    have hl : j < r.length := by rw [(L.rows r hr).len]; exact hj
    rw [h2]
    simp [rowD, List.getD_eq_getElem?_getD, List.getElem?_eq_getElem hl]
  rw [z]
  have e2 : (sq.map rowD).map (fun x => match x with | .list ds => ds.getD j (.int 0) | _ => .none) = (col sq j).map .int := by
    unfold col
    rw [List.map_map, List.map_map]
    apply List.map_congr_left
    intro r hr
    have hl : j < r.length := by rw [(L.rows r hr).len]; exact hj
    simp [rowD, List.getD_eq_getElem?_getD, List.getElem?_eq_getElem hl]
  rw [e2]
  rfl
theorem solve (L : Latin n sq) (a b c d : Option Vd) : ∀ (xs : List Int) (w : Int) (u v : Option Vd), In n w → Ins n xs →
    ∃ u' v', SS.forR (ST.name 6).put L_sign_at_v2_0.run (xs.map .int) [a, b, c, some (.d (sqD sq)), d, some (.d (.int w)), u, v] [] = .nx [a, b, c, some (.d (sqD sq)), d, some (.d (.int (xs.foldl (fun w c => (ixOf (col sq c.toNat) w : Int)) w))), u', v'] []
  | [], w, u, v, _, _ => ⟨u, v, rfl⟩
  | x :: xs, w, u, v, hw, h => by
    have hx := h x (List.mem_cons_self ..)
    have hj : x.toNat < n := by have := hx.1; have := hx.2; omega
    have pc := L.cols x.toNat hj
    obtain ⟨u', v', z⟩ := solve L a b c d xs (ixOf (col sq x.toNat) w : Nat) (some (.d (.int x))) v (ix_in pc hw) fun y hy => h y (List.mem_cons_of_mem _ hy)
    refine ⟨u', v', forR_step (ρ1 := [a, b, c, some (.d (sqD sq)), d, some (.d (.int w)), some (.d (.int x)), v]) rfl (ρ2 := [a, b, c, some (.d (sqD sq)), d, some (.d (.int (ixOf (col sq x.toNat) w : Nat))), some (.d (.int x)), v]) (h2 := []) ?_ z⟩
    have ce := col_of (it := SI.seq (SE.var 3)) (tg := ST.name 7) (g := SE.ix (SE.var 7) (SE.var 6)) (ρ := [a, b, c, some (.d (sqD sq)), d, some (.d (.int w)), some (.d (.int x)), v]) (h := []) L hj rfl fun r hr => by
      refine ⟨_, rfl, ?_⟩
      have i := ix_row (r := r) hx.1 (by rw [(L.rows r hr).len]; exact hx.2)
      simp [wipeN, i]
    have isl : isL [] (.d (rowD (col sq x.toNat))) = true := rfl
    have ixe := index_ints (n := n) (by have := L.top; omega) pc (perm_all pc hw)
    refine set_of ?_
    simp [ce, isl, ixe]
theorem sign_fd (L : Latin n sq) (hs : In n s) (he : In n e) (hc : Ins n cs) (hl : cs.length ≤ 90000) {p : Nat} (hp : p < cs.length) : FD F_sign_at_v2 [chD sq s e, rowD cs, .int p] = some (.int (wanted sq s e cs p)) := by
  have hn : cs ≠ [] := fun z => by rw [z] at hp; simp at hp
  obtain ⟨u, v, z⟩ := solve L (some (.d (chD sq s e))) (some (.d (rowD cs))) (some (.d (.int p))) (some (.d (.int s))) (cs.drop (p + 1)).reverse e none none he fun x hx => ins_drop hc _ x (List.mem_reverse.mp hx)
  rw [List.foldl_reverse] at z
  have hf := fin_in L hs (ins_take hc p)
  have b : FD F_is_below [.int p, .int cs.length] = some (.bool true) := by rw [below_fd]; simp [below, hp]
  refine fd_of (h1 := []) (runDef_rt rfl (seq_of (ρ1 := startN 8 [.d (chD sq s e), .d (rowD cs), .d (.int p)]) (h1 := []) ?_ (seq_of (ρ1 := startN 8 [.d (chD sq s e), .d (rowD cs), .d (.int p)]) (h1 := []) ?_ (seq_of (ρ1 := startN 8 [.d (chD sq s e), .d (rowD cs), .d (.int p)]) (h1 := []) ?_
    (seq_of (ρ1 := [some (.d (chD sq s e)), some (.d (rowD cs)), some (.d (.int p)), some (.d (sqD sq)), some (.d (.int s)), some (.d (.int e)), none, none]) (h1 := []) ?_ (seq_of (for_of (es := (cs.drop (p + 1)).reverse.map .int) (h1 := []) ?_ z) (ret_of ?_)))))))
  · simp [S_sign_at_v2_0, startN, chk_chain L hs he]
  · simp [S_sign_at_v2_1, startN, chk_signs L hc hn hl]
  · simp [S_sign_at_v2_2, startN, len_row, b]
  · simp [S_sign_at_v2_3, startN, chD]
  · simp [rowD, itemsD, hp, seqD]
  · have i : ixD (rowD (states sq s cs)) (.int p) = some (.int (fin sq s (cs.take p))) := by
      rw [ix_row (by omega) (by rw [states_len]; omega), Int.toNat_natCast, states_at sq cs s p (by omega)]
    have isl : isL [] (.d (rowD (rowOf sq (fin sq s (cs.take p))))) = true := rfl
    have pr := L.rows _ (row_at L hf)
    have ixe := index_ints (n := n) (by have := L.top; omega) pr (perm_all pr (back_in L he (ins_drop hc (p + 1))))
    simp [along_fd L hs hc hl, i, ix_sq L hf, isl]
    rw [show (cs.drop (p + 1)).foldr (fun x y => (ixOf (col sq x.toNat) y : Int)) e = back sq e (cs.drop (p + 1)) from rfl, ixe]
    rfl
end
end K47
end
section
set_option maxRecDepth 100000
set_option maxHeartbeats 2000000
/-! k47: powers, all lists, how many are right -/
namespace K47
open PySem PySem.Spec PyProof.Rows L2 G N D
theorem sm_pow {b : Int} (h0 : 0 ≤ b) (h1 : b ≤ 40) {k : Nat} (hk : k ≤ 100) : sm (b ^ k) = true := by
  refine sm_of (n := 600) ?_ (by decide)
  rw [Int.natAbs_pow]
  have e : b.natAbs ≤ 40 := by omega
  exact Nat.lt_of_le_of_lt (Nat.le_trans (Nat.pow_le_pow_left e k) (Nat.pow_le_pow_right (by decide) hk)) (by decide +kernel)
theorem pow_loop {b : Int} (h0 : 0 ≤ b) (h1 : b ≤ 40) (c : Option Vd) : ∀ (xs : List PyData) (k : Nat) (v : Option Vd), k + xs.length ≤ 100 →
    ∃ v', SS.forR (ST.name 3).put (SS.set 2 (SE.op oMul (SE.var 2) (SE.var 0))).run xs [some (.d (.int b)), c, some (.d (.int (b ^ k))), v] [] = .nx [some (.d (.int b)), c, some (.d (.int (b ^ (k + xs.length)))), v'] []
  | [], k, v, _ => ⟨v, rfl⟩
  | x :: xs, k, v, h => by
    rw [List.length_cons] at h
    obtain ⟨v', z⟩ := pow_loop h0 h1 c xs (k + 1) (some (.d x)) (by omega)
    refine ⟨v', forR_step (ρ1 := [some (.d (.int b)), c, some (.d (.int (b ^ k))), some (.d x)]) rfl (ρ2 := [some (.d (.int b)), c, some (.d (.int (b ^ (k + 1)))), some (.d x)]) (h2 := []) ?_ ?_⟩
    · have s1 := sm_pow h0 h1 (k := k) (by omega)
      have s2 : sm b = true := sm_lo h0 (by omega)
      simp [s1, s2, Int.pow_succ]
    · rw [z, List.length_cons, show k + 1 + xs.length = k + (xs.length + 1) by omega]
theorem pow_run {b : Int} (h0 : 0 ≤ b) (h1 : b ≤ 40) {t : Nat} (ht : t ≤ 100) : (SS.seq (SS.set 2 (SE.int 1)) (SS.seq (SS.forS (SI.rng1 (SL.cons (SE.var 1) SL.nil)) (ST.name 3) (SS.set 2 (SE.op oMul (SE.var 2) (SE.var 0)))) (SS.ret (SE.var 2)))).run [some (.d (.int b)), some (.d (.int t)), none, none] [] = .rt (.d (.int (b ^ t))) [] := by
  obtain ⟨v, z⟩ := pow_loop h0 h1 (some (.d (.int t))) (SI.rng 0 t) 0 none (by rw [rng_len]; omega)
  rw [rng_len, Nat.zero_add, Int.sub_zero, Int.toNat_natCast] at z
  exact seq_of (ρ1 := [some (.d (.int b)), some (.d (.int t)), some (.d (.int (b ^ 0))), none]) (h1 := []) (by simp) (seq_of (for_of (rng1_of (n := (t : Int)) (by simp) (by omega) (by omega)) z) (ret_of (by simp)))
theorem power_fd {b : Int} (h0 : 0 ≤ b) (h1 : b ≤ 40) {t : Nat} (ht : t ≤ 100) : FD F_power [.int b, .int t] = some (.int (b ^ t)) := fd_of (h1 := []) (runDef_rt rfl (pow_run h0 h1 ht))
theorem lpower_fd {b : Int} (h0 : 0 ≤ b) (h1 : b ≤ 40) {t : Nat} (ht : t ≤ 100) : FD F_law_power [.int b, .int t] = some (.int (b ^ t)) := fd_of (h1 := []) (runDef_rt rfl (pow_run h0 h1 ht))
theorem chk_len {u : Int} (h : 1 ≤ u) : FD F_check_length [.int u, .int 1] = some .none := by
  have f := from_fd (.int u) 1
  have d : fromB 1 (.int u) = true := decide_eq_true h
  rw [d] at f
  refine fd_of (h1 := []) ?_
  simp [F_check_length, B_check_length, S_check_length_0, startN, f]
theorem many_of {ch sd u n t p : PyData} {a b c : Int} (c1 : FD F_check_chain [ch] = some .none) (c2 : FD F_check_length [.int a, .int 1] = some .none) (i : ixD ch (.int 0) = some sd) (l : lenD [sd] = some (.int b)) (pw : FD F_power [.int b, .int (a - 1)] = some (.int c)) :
    FD F_how_many_right_lists [ch, .int a] = some (.int c) := by
  refine fd_of (h1 := []) ?_
  simp [F_how_many_right_lists, B_how_many_right_lists, S_how_many_right_lists_0, S_how_many_right_lists_1, S_how_many_right_lists_2, startN, c1, c2, i, l, pw]
section
variable {sq : List (List Int)} {n : Nat} {s e : Int}
theorem many_fd (L : Latin n sq) (hs : In n s) (he : In n e) {t : Nat} (ht : t ≤ 99) : FD F_how_many_right_lists [chD sq s e, .int (t + 1 : Nat)] = some (.int ((n : Int) ^ t)) := by
  have sb : ((t + 1 : Nat) : Int) - 1 = (t : Int) := by omega
  exact many_of (u := .none) (n := .none) (t := .none) (p := .none) (chk_chain L hs he) (chk_len (by omega)) rfl (len_sq L) (by rw [sb]; exact power_fd (b := n) (by omega) (by have := L.top; omega) (t := t) (by omega))
end
end K47
end
section
set_option maxRecDepth 100000
set_option maxHeartbeats 2000000
namespace K47
open PySem PySem.Spec PyProof.Rows L2 G N D
/-! ### all lists of so many signs -/
def ext (n : Nat) (c : List Int) : List (List Int) := (List.range n).map fun (i : Nat) => c ++ [(i : Int)]
def allC (n : Nat) : Nat → List (List Int)
  | 0 => [[]]
  | k + 1 => (allC n k).flatMap (ext n)
theorem ext_len (n : Nat) (c : List Int) : (ext n c).length = n := by unfold ext; rw [List.length_map, List.length_range]
theorem allC_mem {n : Nat} : ∀ {k : Nat} {c : List Int}, c ∈ allC n k → c.length = k ∧ Ins n c
  | 0, c, h => by
    rw [List.mem_singleton.mp h]
    exact ⟨rfl, fun x hx => by simp at hx⟩
  | k + 1, c, h => by
    obtain ⟨d, hd, h2⟩ := List.mem_flatMap.mp h
    obtain ⟨l, i⟩ := allC_mem hd
    obtain ⟨j, hj, rfl⟩ := List.mem_map.mp h2
    have := List.mem_range.mp hj
    refine ⟨by rw [List.length_append, l]; rfl, fun x hx => ?_⟩
    rcases List.mem_append.mp hx with hx | hx
    · exact i x hx
    · rw [List.mem_singleton.mp hx]
      exact ⟨by omega, by omega⟩
theorem flat_len {α β : Type} {f : α → List β} {m : Nat} : ∀ {l : List α}, (∀ x ∈ l, (f x).length = m) → (l.flatMap f).length = l.length * m
  | [], _ => by simp
  | x :: l, h => by
    rw [List.flatMap_cons, List.length_append, h x (List.mem_cons_self ..), flat_len fun y hy => h y (List.mem_cons_of_mem _ hy), List.length_cons, Nat.succ_mul, Nat.add_comm]
theorem allC_len (n : Nat) : ∀ k, (allC n k).length = n ^ k
  | 0 => rfl
  | k + 1 => by
    rw [allC, flat_len fun x _ => ext_len n x, allC_len n k, Nat.pow_succ]
theorem ext_rng (n : Nat) (c : List Int) : (SI.rng 0 (n : Int)).map (fun x => PyData.list (c.map PyData.int ++ [x])) = (ext n c).map rowD := by
  unfold SI.rng ext
  rw [List.map_map, List.map_map, Int.sub_zero, Int.toNat_natCast]
  apply List.map_congr_left
  intro i _
  simp [rowD]
theorem ext_ev {m : Int} (h0 : 0 ≤ m) (h1 : m ≤ 40) {c : List Int} (hc : c.length ≤ 100) (L F T A V : Option Vd) : (SE.lc (SI.rng1 (SL.cons (SE.var 0) SL.nil)) (ST.name 6) SB.yes (SE.op oAdd (SE.var 5) (SE.lst (SL.cons (SE.var 6) SL.nil)))).ev [some (.d (.int m)), L, F, T, A, some (.d (rowD c)), V] [] = .ok (.d (.list ((SI.rng 0 m).map fun x => PyData.list (c.map PyData.int ++ [x])))) [] :=
  lcY_of (fun x => .list (c.map .int ++ [x])) (rng1_of (n := m) (by simp) h0 (by omega)) (by rw [rng_len]; omega) fun x hx => by
    refine ⟨_, rfl, ?_⟩
    have lim : c.length + 1 ≤ 1000000 := by omega
    simp [wipeN, rowD, addD, lim]
theorem add_lists {xs ys : List PyData} (h : xs.length + ys.length ≤ 1000000) : addD (.list xs) (.list ys) = some (.list (xs ++ ys)) := by
  show (if _ then _ else _) = _
  rw [if_pos h]
theorem inner_step {ρ : Rh} {xs ys : List PyData} (e4 : ρ[4]? = some (some (.d (.list xs)))) (le : (SE.lc (SI.rng1 (SL.cons (SE.var 0) SL.nil)) (ST.name 6) SB.yes (SE.op oAdd (SE.var 5) (SE.lst (SL.cons (SE.var 6) SL.nil)))).ev ρ [] = .ok (.d (.list ys)) []) (h : xs.length + ys.length ≤ 1000000) :
    L_law_all_codes_0.run ρ [] = .nx (ρ.set 4 (some (.d (.list (xs ++ ys))))) [] := by
  refine set_of ?_
  rw [SE.op_ev, SE.var_ev, e4]
  dsimp only
  rw [Oc.bind_ok, le, Oc.bind_ok, fnV2, f2_2, oAdd_f, add_lists h]
theorem inner {n : Nat} (hn : n ≤ 40) (L F T : Option Vd) : ∀ (cs : List (List Int)) (acc : List (List Int)) (u v : Option Vd), (acc.length + cs.length * n) ≤ 1000000 → (∀ c ∈ cs, c.length ≤ 100) →
    ∃ u' v', SS.forR (ST.name 5).put L_law_all_codes_0.run (cs.map rowD) [some (.d (.int n)), L, F, T, some (.d (.list (acc.map rowD))), u, v] [] = .nx [some (.d (.int n)), L, F, T, some (.d (.list ((acc ++ cs.flatMap (ext n)).map rowD))), u', v'] [] := by
  intro cs
  induction cs with
  | nil => exact fun acc u v _ _ => ⟨u, v, by rw [List.flatMap_nil, List.append_nil]; rfl⟩
  | cons c cs ih =>
    intro acc u v h hc
    rw [List.length_cons, Nat.succ_mul] at h
    obtain ⟨u', v', z⟩ := ih (acc ++ ext n c) (some (.d (rowD c))) v (by rw [List.length_append, ext_len]; omega) fun x hx => hc x (List.mem_cons_of_mem _ hx)
    have le := ext_ev (m := (n : Int)) (by omega) (by omega) (hc c (List.mem_cons_self ..)) L F T (some (.d (.list (acc.map rowD)))) v
    rw [ext_rng] at le
    have st := inner_step (ρ := [some (.d (.int n)), L, F, T, some (.d (.list (acc.map rowD))), some (.d (rowD c)), v]) rfl le (by rw [List.length_map, List.length_map, ext_len]; omega)
    rw [← List.map_append] at st
    rw [List.map_cons, List.flatMap_cons, ← List.append_assoc]
    exact ⟨u', v', forR_step rfl st z⟩
theorem outer {n : Nat} (h1 : 1 ≤ n) (hn : n ≤ 40) (L : Option Vd) : ∀ (xs : List PyData) (k : Nat) (a b c d : Option Vd), k + xs.length ≤ 4 → n ^ (k + xs.length) ≤ 1000000 →
    ∃ a' b' c' d', SS.forR (ST.name 3).put L_law_all_codes_1.run xs [some (.d (.int n)), L, some (.d (.list ((allC n k).map rowD))), a, b, c, d] [] = .nx [some (.d (.int n)), L, some (.d (.list ((allC n (k + xs.length)).map rowD))), a', b', c', d'] []
  | [], k, a, b, c, d, _, _ => ⟨a, b, c, d, rfl⟩
  | x :: xs, k, a, b, c, d, h, hp => by
    rw [List.length_cons] at h hp
    have sz : n ^ (k + 1) ≤ n ^ (k + (xs.length + 1)) := Nat.pow_le_pow_right h1 (by omega)
    obtain ⟨u, v, zi⟩ := inner hn L (some (.d (.list ((allC n k).map rowD)))) (some (.d x)) (allC n k) [] c d (by rw [List.length_nil, allC_len, ← Nat.pow_succ]; show 0 + n ^ (k + 1) ≤ 1000000; omega) fun y hy => by rw [(allC_mem hy).1]; omega
    obtain ⟨a', b', c', d', z⟩ := outer h1 hn L xs (k + 1) (some (.d x)) (some (.d (.list ((allC n (k + 1)).map rowD)))) u v (by omega) (by rw [show k + 1 + xs.length = k + (xs.length + 1) by omega]; exact hp)
    refine ⟨a', b', c', d', forR_step (ρ1 := [some (.d (.int n)), L, some (.d (.list ((allC n k).map rowD))), some (.d x), b, c, d]) rfl (ρ2 := [some (.d (.int n)), L, some (.d (.list ((allC n (k + 1)).map rowD))), some (.d x), some (.d (.list ((allC n (k + 1)).map rowD))), u, v]) (h2 := []) ?_ ?_⟩
    · exact seq_of (ρ1 := [some (.d (.int n)), L, some (.d (.list ((allC n k).map rowD))), some (.d x), some (.d (.list (([] : List (List Int)).map rowD))), c, d]) (h1 := []) rfl (seq_of (for_of (es := (allC n k).map rowD) rfl zi) rfl)
    · rw [z, List.length_cons, show k + 1 + xs.length = k + (xs.length + 1) by omega]
theorem all_fd {n : Nat} (h1 : 1 ≤ n) (hn : n ≤ 40) {t : Nat} (ht : t ≤ 4) (hp : n ^ t ≤ 1000000) : FD F_law_all_codes [.int n, .int t] = some (.list ((allC n t).map rowD)) := by
  obtain ⟨a, b, c, d, z⟩ := outer h1 hn (some (.d (.int t))) (SI.rng 0 t) 0 none none none none (by rw [rng_len]; omega) (by rw [rng_len, Nat.zero_add, Int.sub_zero, Int.toNat_natCast]; exact hp)
  rw [rng_len, Nat.zero_add, Int.sub_zero, Int.toNat_natCast] at z
  exact fd_of (h1 := []) (runDef_rt rfl (seq_of (ρ1 := [some (.d (.int n)), some (.d (.int t)), some (.d (.list ((allC n 0).map rowD))), none, none, none, none]) (h1 := []) rfl (seq_of (for_of (rng1_of (n := (t : Int)) rfl (by omega) (by omega)) z) (ret_of rfl))))
end K47
end
section
set_option maxRecDepth 100000
set_option maxHeartbeats 2000000
/-! k47: the law's own walk; the signs that fit; how many lists are right -/
namespace K47
open PySem PySem.Spec PyProof.Rows L2 G N D
section
variable {sq : List (List Int)} {n : Nat} {s e : Int}
theorem along2 (L : Latin n sq) (b : Option Vd) : ∀ (cs : List Int) (acc : List Int) (s0 : Int) (v : Option Vd), In n s0 → Ins n cs → acc.length + cs.length ≤ 100000 →
    ∃ v', SS.forR (ST.name 3).put L_law_states_0.run (cs.map .int) [some (.d (chD sq s e)), b, some (.r 0), v] [.lst (ownI (acc ++ [s0]))] = .nx [some (.d (chD sq s e)), b, some (.r 0), v'] [.lst (ownI (acc ++ states sq s0 cs))]
  | [], acc, s0, v, _, _, _ => ⟨v, rfl⟩
  | c :: cs, acc, s0, v, h, hc, hl => by
    have hc0 := hc c (List.mem_cons_self ..)
    rw [List.length_cons] at hl
    obtain ⟨v', z⟩ := along2 L b cs (acc ++ [s0]) (at2 sq s0 c) (some (.d (.int c))) (at_in L h hc0) (fun x hx => hc x (List.mem_cons_of_mem _ hx)) (by rw [List.length_append]; simp; omega)
    refine ⟨v', forR_step (ρ1 := [some (.d (chD sq s e)), b, some (.r 0), some (.d (.int c))]) rfl (ρ2 := [some (.d (chD sq s e)), b, some (.r 0), some (.d (.int c))]) (h2 := [.lst (ownI (acc ++ [s0] ++ [at2 sq s0 c]))]) ?_ ?_⟩
    · have lim : acc.length + 1 < 1000000 := by omega
      have e1 : ownI (acc ++ [s0] ++ [at2 sq s0 c]) = ownI (acc ++ [s0]) ++ [.d (.int (at2 sq s0 c))] := ownI_app _ _
      have i : ixD (chD sq s e) (.int 0) = some (sqD sq) := rfl
      simp [L_law_states_0, ownL, own_last, ix_sq L h, ix_at L h hc0, own_len, lim, ← e1, -List.append_assoc, i]
    · rw [z]
      simp [states]
theorem lstates_fd (L : Latin n sq) {cs : List Int} (hs : In n s) (hc : Ins n cs) (hl : cs.length ≤ 90000) : FD F_law_states [chD sq s e, rowD cs] = some (rowD (states sq s cs)) := by
  obtain ⟨v, z⟩ := along2 (s := s) (e := e) L (some (.d (rowD cs))) cs [] s none hs hc (by simp; omega)
  refine fd_own (h1 := [.lst ((states sq s cs |>.map PyData.int).map .d)]) (n := 0) ?_ rfl
  refine runDef_rt rfl (seq_of (ρ1 := [some (.d (chD sq s e)), some (.d (rowD cs)), some (.r 0), none]) (h1 := [.lst (ownI [s])]) ?_ (seq_of (for_of (es := cs.map .int) rfl z) (ret_of ?_)))
  · have i : ixD (chD sq s e) (.int 1) = some (.int s) := rfl
    simp [S_law_states_0, startN, i, ownI]
  · simp [ownI]
/-! just one number below n -/
theorem filter_one : ∀ (n t : Nat), (List.range n).filter (fun i => decide (i = t)) = if t < n then [t] else []
  | 0, t => by simp
  | n + 1, t => by
    rw [List.range_succ, List.filter_append, filter_one n t]
    by_cases h : t < n
    · rw [if_pos h, if_pos (by omega), List.filter_cons_of_neg (by simp; omega)]
      simp
    · by_cases h2 : n = t
      · rw [if_neg h, if_pos (by omega), List.filter_cons_of_pos (by simpa using h2)]
        simp [h2]
      · rw [if_neg h, if_neg (by omega), List.filter_cons_of_neg (by simpa using h2)]
        simp
def isI' (t : Int) : PyData → Bool
  | .int i => decide (i = t)
  | _ => false
theorem rng_filter {t : Int} (h : In n t) : ((SI.rng 0 (n : Int)).filter (isI' t)).map (fun x => x) = [.int t] := by
  have e : SI.rng 0 (n : Int) = (List.range n).map fun (i : Nat) => PyData.int (i : Int) := by
    unfold SI.rng
    rw [Int.sub_zero, Int.toNat_natCast]
    apply List.map_congr_left
    intro i _
    simp
  rw [e, List.filter_map]
  have e2 : (isI' t ∘ fun (i : Nat) => PyData.int (i : Int)) = fun i => decide (i = t.toNat) := by
    funext i
    show decide ((i : Int) = t) = decide (i = t.toNat)
    exact decide_eq_decide.mpr (by have := h.1; omega)
  rw [e2, filter_one, if_pos (by have := h.1; have := h.2; omega)]
  simp
  have := h.1
  omega
def unD : PyData → List Int
  | .list ds => ds.map toInt
  | _ => []
theorem unD_row (c : List Int) : unD (rowD c) = c := toInt_ints c
theorem count (L : Latin n sq) (hs : In n s) (he : In n e) : ∀ k, ((allC n (k + 1)).filter fun c => decide (fin sq s c = e)).length = n ^ k := by
  intro k
  have g : ∀ l : List (List Int), (∀ c ∈ l, Ins n c) → ((l.flatMap (ext n)).filter fun c => decide (fin sq s c = e)).length = l.length := by
    intro l
    induction l with
    | nil => exact fun _ => rfl
    | cons c l ih =>
      intro h
      have hf := fin_in L hs (h c (List.mem_cons_self ..))
      have pr := L.rows _ (row_at L hf)
      have t := ix_in pr he
      rw [List.flatMap_cons, List.filter_append, List.length_append, ih fun x hx => h x (List.mem_cons_of_mem _ hx)]
      have one : ((ext n c).filter fun c => decide (fin sq s c = e)).length = 1 := by
        unfold ext
        rw [List.filter_map, List.length_map]
        have e2 : (List.range n).filter ((fun c => decide (fin sq s c = e)) ∘ fun (i : Nat) => c ++ [(i : Int)]) = (List.range n).filter fun i => decide (i = ixOf (rowOf sq (fin sq s c)) e) := by
          apply List.filter_congr
          intro i hi
          have hi2 : In n (i : Int) := ⟨by omega, by have := List.mem_range.mp hi; omega⟩
          show decide (fin sq s (c ++ [(i : Int)]) = e) = _
          refine decide_eq_decide.mpr ?_
          have e3 : fin sq s (c ++ [(i : Int)]) = at2 sq (fin sq s c) i := by unfold fin; rw [List.foldl_append]; rfl
          rw [e3]
          have := ix_iff pr he hi2
          unfold at2
          rw [this]
          omega
        rw [e2, filter_one, if_pos (by have := t.2; omega)]
        rfl
      rw [one, List.length_cons, Nat.add_comm]
  rw [allC, g _ fun c hc => (allC_mem hc).2, allC_len]
end
end K47
end
section
set_option maxRecDepth 100000
set_option maxHeartbeats 2000000
/-! k47: what is shuffled -/
namespace K47
open PySem PySem.Spec PyProof.Rows L2 G N D
theorem rand2_ok {k : Nat} {es : List PyData} (g : Gn k es) (hk : k ≤ 99999999999) {n : Int} (h0 : 0 < n) (h1 : n ≤ 1000000000000000000000000000000) :
    ∃ r es', FG F_law_random_v2 es [.int n] = some (.int r, es') ∧ 0 ≤ r ∧ r < n ∧ Gn (k + 4) es' := rand_ok g hk h0 h1
theorem own_get (l : List Int) (i : Nat) : (ownI l)[i]? = (l[i]?).map fun x => .d (.int x) := by
  unfold ownI
  rw [List.getElem?_map, List.getElem?_map, Option.map_map]
  rfl
theorem erase_map {α β : Type} (f : α → β) : ∀ (l : List α) (i : Nat), (l.map f).eraseIdx i = (l.eraseIdx i).map f
  | [], _ => rfl
  | _ :: _, 0 => rfl
  | x :: xs, i + 1 => congrArg (f x :: ·) (erase_map f xs i)
theorem own_erase (l : List Int) (i : Nat) : (ownI l).eraseIdx i = ownI (l.eraseIdx i) := by
  unfold ownI
  rw [erase_map, erase_map]
theorem fnV_look {f : List PyData → Option PyData} {rs : List Vd} {h : Hd} {xs : List PyData} {z : PyData} (e1 : datas rs = none) (e2 : lookL h rs = some xs) (e3 : f xs = some z) (a : atom z = true) : fnV f rs h = .ok (.d z) h := by
  unfold fnV
  rw [e1]
  dsimp only
  rw [e2]
  dsimp only
  rw [e3]
  dsimp only
  rw [if_pos a]
theorem look_own {h : Hd} {n : Nat} {ns : List Int} (e : h[n]? = some (.lst (ownI ns))) : look h (.r n) = some (rowD ns) := by
  show pk 4 h (.r n) = _
  rw [pk, e]
  dsimp only
  have m : ∀ l : List PyData, mapO (pk 3 h) (l.map .d) = some l := by
    intro l
    induction l with
    | nil => rfl
    | cons d l ih => rw [List.map_cons, mapO, show pk 3 h (.d d) = some d from rfl]; dsimp only; rw [ih]
  unfold ownI
  rw [m]
  rfl
theorem len_own {ρ : Rh} {h : Hd} {i n : Nat} {ns : List Int} (e1 : ρ[i]? = some (some (.r n))) (e : h[n]? = some (.lst (ownI ns))) : (SE.cb bLen (SL.cons (SE.var i) SL.nil)).ev ρ h = .ok (.d (.int ns.length)) h := by
  rw [SE.cb_ev, SL.cons_ev, SE.var_ev, e1]
  dsimp only
  have l : lookL h [.r n] = some [rowD ns] := by
    unfold lookL
    rw [mapO, look_own e]
    rfl
  exact fnV_look rfl l (len_row ns) rfl
theorem eqv_nil (ns : List Int) : PyData.eqv (rowD ns) (.list []) = decide (ns = []) := by
  cases ns with
  | nil => rfl
  | cons a b => rfl
theorem more_own {ρ : Rh} {h : Hd} {i n : Nat} {ns : List Int} (e1 : ρ[i]? = some (some (.r n))) (e : h[n]? = some (.lst (ownI ns))) (hl : ns.length ≤ 1000) (hm : ∀ x ∈ ns, x.natAbs < 10 ^ 12) : (SB.test (SE.op oNe (SE.var i) (SE.lst SL.nil))).ev ρ h = .ok (!decide (ns = [])) h := by
  have p := (Pl.ints (ns := ns) hm (by omega)).shaped
  have q : eqD true (rowD ns) (.list []) = some (.bool (!decide (ns = []))) := by
    show (if (SeqAt.shaped (rowD ns) && SeqAt.shaped (.list [])) = true then _ else _) = _
    rw [show SeqAt.shaped (rowD ns) = true from p, show SeqAt.shaped (.list []) = true from rfl]
    show some (PyData.bool (!PyData.eqv (rowD ns) (.list []))) = _
    rw [eqv_nil]
  have l : lookL h [.r n, .d (.list [])] = some [rowD ns, .list []] := by
    unfold lookL
    rw [mapO, look_own e]
    rfl
  have f : fnV (f2 (eqD true)) [.r n, .d (.list [])] h = .ok (.d (.bool (!decide (ns = [])))) h := fnV_look rfl l q rfl
  simp [e1, f]
theorem erase_perm : ∀ {l : List Int} {i : Nat} {x : Int}, l[i]? = some x → (x :: l.eraseIdx i).Perm l
  | y :: ys, 0, x, h => by cases h; exact .refl _
  | y :: ys, i + 1, x, h => by
    have h' : ys[i]? = some x := h
    exact (List.Perm.swap y x _).trans ((erase_perm h').cons y)
theorem shuf (b : Option Vd) : ∀ (m : Nat) (left found : List Int) (es : List PyData) (k : Nat), left.length = m → found.length + m ≤ 1000 → (∀ x ∈ left, x.natAbs < 10 ^ 12) → Gn k es → k + 4 * m ≤ 99999999999 →
    ∃ found' es', SS.whR (SB.test (SE.op oNe (SE.var 2) (SE.lst SL.nil))).ev L_law_shuffled_v4_0.run (m + 1) [some (.r 0), b, some (.r 1), some (.r 2)] [.lst (es.map .d), .lst (ownI left), .lst (ownI found)] = .nx [some (.r 0), b, some (.r 1), some (.r 2)] [.lst (es'.map .d), .lst (ownI []), .lst (ownI found')] ∧ found'.Perm (found ++ left) ∧ Gn (k + 4 * m) es'
  | 0, left, found, es, k, h0, _, _, g, _ => by
    have e0 : left = [] := List.length_eq_zero_iff.mp h0
    subst e0
    refine ⟨found, es, ?_, by simp, g⟩
    rw [SS.whR, more_own (ns := []) rfl rfl (by simp) (by simp)]
    rfl
  | m + 1, left, found, es, k, h0, hl, hm, g, hk => by
    obtain ⟨r, es1, e1, r0, r1, g1⟩ := rand2_ok g (by omega) (n := (left.length : Int)) (by omega) (by omega)
    have hr : r.toNat < left.length := by omega
    have gx : left[r.toNat]? = some left[r.toNat] := List.getElem?_eq_getElem hr
    obtain ⟨found', es', z, pm, g2⟩ := shuf b m (left.eraseIdx r.toNat) (found ++ [left[r.toNat]]) es1 (k + 4) (by rw [List.length_eraseIdx_of_lt hr]; omega) (by rw [List.length_append]; simp; omega) (fun x hx => hm x (List.mem_of_mem_eraseIdx hx)) g1 (by omega)
    refine ⟨found', es', ?_, ?_, g2.mono (by omega)⟩
    · have ne : decide (left = []) = false := decide_eq_false fun z => by rw [z] at h0; simp at h0
      rw [SS.whR, more_own (ns := left) rfl rfl (by omega) hm, ne]
      have bd : L_law_shuffled_v4_0.run [some (.r 0), b, some (.r 1), some (.r 2)] [.lst (es.map .d), .lst (ownI left), .lst (ownI found)] = .nx [some (.r 0), b, some (.r 1), some (.r 2)] [.lst (es1.map .d), .lst (ownI (left.eraseIdx r.toNat)), .lst (ownI (found ++ [left[r.toNat]]))] := by
        have ln := len_own (ρ := [some (.r 0), b, some (.r 1), some (.r 2)]) (h := [.lst (es.map .d), .lst (ownI left), .lst (ownI found)]) (i := 2) (n := 1) (ns := left) rfl rfl
        have r1' : r < (left.length : Int) := r1
        have l1 : left.length ≤ 1000000 := by omega
        have l2 : found.length < 1000000 := by omega
        generalize hL : (left.length : Int) = Ln at ln e1 r1'
        have cnd : 0 ≤ r ∧ r < ((ownI left).length : Int) ∧ (ownI left).length ≤ 1000000 := by
          rw [own_len]
          exact ⟨r0, by omega, l1⟩
        have c1 : r < (left.length : Int) := by omega
        have gx2 : (ownI left)[r.toNat]? = some (.d (.int left[r.toNat])) := by rw [own_get, gx]; rfl
        simp [-SE.cb_ev, L_law_shuffled_v4_0, ln, e1, ownL, cnd, gx2, own_erase, own_len, c1, l1, l2, ownI_app]
        simp [ownI]
      show (match L_law_shuffled_v4_0.run _ _ with | .nx ρ2 h2 => _ | .ct ρ2 h2 => _ | .bk ρ2 h2 => _ | .rt v h2 => _ | .ex c' v ρ2 h2 => _ | .no => _) = _
      rw [bd]
      exact z
    · refine pm.trans ?_
      rw [List.append_assoc]
      exact List.Perm.append_left found (erase_perm gx)
theorem isP_of {n : Nat} {t : List Int} (p : t.Perm ((List.range n).map fun (i : Nat) => (i : Int))) : IsP n t := by
  have nd : ((List.range n).map fun (i : Nat) => (i : Int)).Nodup := by
    rw [List.nodup_iff_pairwise_ne, List.pairwise_map]
    exact (List.nodup_iff_pairwise_ne.mp List.nodup_range).imp fun h z => h (by omega)
  refine ⟨by rw [p.length_eq, List.length_map, List.length_range], p.nodup_iff.mpr nd, fun x hx => ?_, fun x hx => ?_⟩
  · obtain ⟨i, _, rfl⟩ := List.mem_map.mp (p.mem_iff.mp hx)
    omega
  · obtain ⟨i, hi, rfl⟩ := List.mem_map.mp (p.mem_iff.mp hx)
    have := List.mem_range.mp hi
    omega
theorem rng_own (n : Nat) : (SI.rng 0 (n : Int)).map Vd.d = ownI ((List.range n).map fun (i : Nat) => (i : Int)) := by
  unfold SI.rng ownI
  rw [List.map_map, List.map_map, List.map_map, Int.sub_zero, Int.toNat_natCast]
  apply List.map_congr_left
  intro i _
  simp
theorem whR_mono {c : Rh → Hd → Oc Bool} {body : Rh → Hd → OcS} : ∀ {m m' : Nat} {ρ : Rh} {h : Hd} {ρ1 : Rh} {h1 : Hd}, m ≤ m' → SS.whR c body m ρ h = .nx ρ1 h1 → SS.whR c body m' ρ h = .nx ρ1 h1
  | 0, _, _, _, _, _, _, e => by cases e
  | m + 1, 0, _, _, _, _, h, _ => by omega
  | m + 1, m' + 1, ρ, h, ρ1, h1, hm, e => by
    rw [SS.whR] at e ⊢
    cases c0 : c ρ h with
    | ok b h2 =>
      rw [c0] at e
      dsimp only [Oc.thn] at e ⊢
      cases b with
      | false => exact e
      | true =>
        dsimp only at e ⊢
        cases b0 : body ρ h2 with
        | nx ρ2 h3 => rw [b0] at e; exact whR_mono (by omega) e
        | ct ρ2 h3 => rw [b0] at e; exact whR_mono (by omega) e
        | bk ρ2 h3 => rw [b0] at e; exact e
        | rt v h3 => rw [b0] at e; cases e
        | ex c' v ρ2 h3 => rw [b0] at e; cases e
        | no => rw [b0] at e; cases e
    | ex c' x h2 => rw [c0] at e; cases e
    | no => rw [c0] at e; cases e
theorem shuffled_ok {k : Nat} {es : List PyData} (g : Gn k es) {n : Nat} (hn : n ≤ 40) (hk : k ≤ 999999999) : ∃ t es', FG F_law_shuffled_v4 es [.int n] = some (rowD t, es') ∧ IsP n t ∧ Gn (k + 160) es' := by
  obtain ⟨t, es', z, p, g'⟩ := shuf (some (.d (.int n))) n ((List.range n).map fun (i : Nat) => (i : Int)) [] es k (by rw [List.length_map, List.length_range]) (by simp; omega) (fun x hx => by
    obtain ⟨i, hi, rfl⟩ := List.mem_map.mp hx
    have := List.mem_range.mp hi
    omega) g (by omega)
  rw [List.nil_append] at p
  have z2 := whR_mono (m' := SS.fuel) (by show n + 1 ≤ 1000000; omega) z
  refine ⟨t, es', ?_, isP_of p, g'.mono (by omega)⟩
  have run : F_law_shuffled_v4 [.r 0, .d (.int n)] [.lst (es.map .d)] = .ok (.r 2) [.lst (es'.map .d), .lst (ownI []), .lst (ownI t)] := by
    refine runDef_rt rfl (seq_of (ρ1 := [some (.r 0), some (.d (.int n)), some (.r 1), some (.r 2)]) (h1 := [.lst (es.map .d), .lst (ownI ((List.range n).map fun (i : Nat) => (i : Int))), .lst (ownI [])]) ?_ (seq_of (ρ1 := [some (.r 0), some (.d (.int n)), some (.r 1), some (.r 2)]) (h1 := [.lst (es'.map .d), .lst (ownI []), .lst (ownI t)]) ?_ (ret_of rfl)))
    · have lr := listRg1M_of (ρ := [some (.r 0), some (.d (.int n)), none, none]) (h := [.lst (es.map .d)]) (h1 := [.lst (es.map .d)]) (a := SE.var 1) (n := (n : Int)) rfl (by omega) (by omega)
      rw [rng_own] at lr
      generalize (n : Int) = m at lr ⊢
      simp [S_law_shuffled_v4_0, startN, lr]
      simp [ownI]
    · exact z2
  unfold FG
  rw [show (Vd.r 0 :: ([PyData.int (n : Int)] : List PyData).map .d) = [.r 0, .d (.int n)] from rfl, run]
  dsimp only
  rw [frz_r (n := 2) (ds := t.map .int) rfl]
  dsimp only [List.set, List.getElem?_cons_zero]
  rw [datas_map]
  rfl
end K47
end
section
set_option maxRecDepth 100000
set_option maxHeartbeats 2000000
/-! k47: the squares that are drawn: finitely many at first -/
namespace K47
open PySem PySem.Spec PyProof.Rows L2 G N D
def permB (n : Nat) (r : List Int) : Bool := decide (r.length = n) && (decide r.Nodup && r.all fun x => decide (0 ≤ x) && decide (x < n))
def latB (n : Nat) (sq : List (List Int)) : Bool := decide (2 ≤ n) && (decide (n ≤ 40) && (decide (sq.length = n) && (sq.all (permB n) && (List.range n).all fun j => permB n (col sq j))))
theorem perm_of {n : Nat} {r : List Int} (h : permB n r = true) : IsP n r := by
  unfold permB at h
  simp only [Bool.and_eq_true, decide_eq_true_eq, List.all_eq_true] at h
  exact ⟨h.1, h.2.1, fun x hx => (h.2.2 x hx).1, fun x hx => (h.2.2 x hx).2⟩
theorem latin_of {n : Nat} {sq : List (List Int)} (h : latB n sq = true) : Latin n sq := by
  unfold latB at h
  simp only [Bool.and_eq_true, decide_eq_true_eq, List.all_eq_true] at h
  exact ⟨h.1, h.2.1, h.2.2.1, fun r hr => perm_of (h.2.2.2.1 r hr), fun j hj => perm_of (h.2.2.2.2 j (List.mem_range.mpr hj))⟩
def dh3 : List (List Int) := [[0, 1, 2, 3, 4, 5], [1, 2, 0, 4, 5, 3], [2, 0, 1, 5, 3, 4], [3, 5, 4, 0, 2, 1], [4, 3, 5, 1, 0, 2], [5, 4, 3, 2, 1, 0]]
theorem dh3_fd : FD F_law_dihedral [.int 3] = some (sqD dh3) := by kernel_rfl
theorem dh3_l : Latin 6 dh3 := latin_of (by decide +kernel)
def dh4 : List (List Int) := [[0, 1, 2, 3, 4, 5, 6, 7], [1, 2, 3, 0, 5, 6, 7, 4], [2, 3, 0, 1, 6, 7, 4, 5], [3, 0, 1, 2, 7, 4, 5, 6], [4, 7, 6, 5, 0, 3, 2, 1], [5, 4, 7, 6, 1, 0, 3, 2], [6, 5, 4, 7, 2, 1, 0, 3], [7, 6, 5, 4, 3, 2, 1, 0]]
theorem dh4_fd : FD F_law_dihedral [.int 4] = some (sqD dh4) := by kernel_rfl
theorem dh4_l : Latin 8 dh4 := latin_of (by decide +kernel)
def dh5 : List (List Int) := [[0, 1, 2, 3, 4, 5, 6, 7, 8, 9], [1, 2, 3, 4, 0, 6, 7, 8, 9, 5], [2, 3, 4, 0, 1, 7, 8, 9, 5, 6], [3, 4, 0, 1, 2, 8, 9, 5, 6, 7], [4, 0, 1, 2, 3, 9, 5, 6, 7, 8], [5, 9, 8, 7, 6, 0, 4, 3, 2, 1], [6, 5, 9, 8, 7, 1, 0, 4, 3, 2], [7, 6, 5, 9, 8, 2, 1, 0, 4, 3], [8, 7, 6, 5, 9, 3, 2, 1, 0, 4], [9, 8, 7, 6, 5, 4, 3, 2, 1, 0]]
theorem dh5_fd : FD F_law_dihedral [.int 5] = some (sqD dh5) := by kernel_rfl
theorem dh5_l : Latin 10 dh5 := latin_of (by decide +kernel)
def menuL : List PyData := [.tuple [.int 2], .tuple [.int 3], .tuple [.int 4], .tuple [.int 2, .int 2], .tuple [.int 5], .tuple [.int 6], .tuple [.int 7], .tuple [.int 8], .tuple [.int 2, .int 4], .tuple [.int 2, .int 2, .int 2], .tuple [.int 3, .int 3], .tuple [.int 9], .tuple [.int 10], .tuple [.int 2, .int 6]]
def ab0 : List (List Int) := [[0, 1], [1, 0]]
theorem ab0_fd : FD F_law_abelian [.tuple [.int 2]] = some (sqD ab0) := by kernel_rfl
theorem ab0_l : Latin 2 ab0 := latin_of (by decide +kernel)
def ab1 : List (List Int) := [[0, 1, 2], [1, 2, 0], [2, 0, 1]]
theorem ab1_fd : FD F_law_abelian [.tuple [.int 3]] = some (sqD ab1) := by kernel_rfl
theorem ab1_l : Latin 3 ab1 := latin_of (by decide +kernel)
def ab2 : List (List Int) := [[0, 1, 2, 3], [1, 2, 3, 0], [2, 3, 0, 1], [3, 0, 1, 2]]
theorem ab2_fd : FD F_law_abelian [.tuple [.int 4]] = some (sqD ab2) := by kernel_rfl
theorem ab2_l : Latin 4 ab2 := latin_of (by decide +kernel)
def ab3 : List (List Int) := [[0, 1, 2, 3], [1, 0, 3, 2], [2, 3, 0, 1], [3, 2, 1, 0]]
theorem ab3_fd : FD F_law_abelian [.tuple [.int 2, .int 2]] = some (sqD ab3) := by kernel_rfl
theorem ab3_l : Latin 4 ab3 := latin_of (by decide +kernel)
def ab4 : List (List Int) := [[0, 1, 2, 3, 4], [1, 2, 3, 4, 0], [2, 3, 4, 0, 1], [3, 4, 0, 1, 2], [4, 0, 1, 2, 3]]
theorem ab4_fd : FD F_law_abelian [.tuple [.int 5]] = some (sqD ab4) := by kernel_rfl
theorem ab4_l : Latin 5 ab4 := latin_of (by decide +kernel)
def ab5 : List (List Int) := [[0, 1, 2, 3, 4, 5], [1, 2, 3, 4, 5, 0], [2, 3, 4, 5, 0, 1], [3, 4, 5, 0, 1, 2], [4, 5, 0, 1, 2, 3], [5, 0, 1, 2, 3, 4]]
theorem ab5_fd : FD F_law_abelian [.tuple [.int 6]] = some (sqD ab5) := by kernel_rfl
theorem ab5_l : Latin 6 ab5 := latin_of (by decide +kernel)
def ab6 : List (List Int) := [[0, 1, 2, 3, 4, 5, 6], [1, 2, 3, 4, 5, 6, 0], [2, 3, 4, 5, 6, 0, 1], [3, 4, 5, 6, 0, 1, 2], [4, 5, 6, 0, 1, 2, 3], [5, 6, 0, 1, 2, 3, 4], [6, 0, 1, 2, 3, 4, 5]]
theorem ab6_fd : FD F_law_abelian [.tuple [.int 7]] = some (sqD ab6) := by kernel_rfl
theorem ab6_l : Latin 7 ab6 := latin_of (by decide +kernel)
def ab7 : List (List Int) := [[0, 1, 2, 3, 4, 5, 6, 7], [1, 2, 3, 4, 5, 6, 7, 0], [2, 3, 4, 5, 6, 7, 0, 1], [3, 4, 5, 6, 7, 0, 1, 2], [4, 5, 6, 7, 0, 1, 2, 3], [5, 6, 7, 0, 1, 2, 3, 4], [6, 7, 0, 1, 2, 3, 4, 5], [7, 0, 1, 2, 3, 4, 5, 6]]
theorem ab7_fd : FD F_law_abelian [.tuple [.int 8]] = some (sqD ab7) := by kernel_rfl
theorem ab7_l : Latin 8 ab7 := latin_of (by decide +kernel)
def ab8 : List (List Int) := [[0, 1, 2, 3, 4, 5, 6, 7], [1, 2, 3, 0, 5, 6, 7, 4], [2, 3, 0, 1, 6, 7, 4, 5], [3, 0, 1, 2, 7, 4, 5, 6], [4, 5, 6, 7, 0, 1, 2, 3], [5, 6, 7, 4, 1, 2, 3, 0], [6, 7, 4, 5, 2, 3, 0, 1], [7, 4, 5, 6, 3, 0, 1, 2]]
theorem ab8_fd : FD F_law_abelian [.tuple [.int 2, .int 4]] = some (sqD ab8) := by kernel_rfl
theorem ab8_l : Latin 8 ab8 := latin_of (by decide +kernel)
def ab9 : List (List Int) := [[0, 1, 2, 3, 4, 5, 6, 7], [1, 0, 3, 2, 5, 4, 7, 6], [2, 3, 0, 1, 6, 7, 4, 5], [3, 2, 1, 0, 7, 6, 5, 4], [4, 5, 6, 7, 0, 1, 2, 3], [5, 4, 7, 6, 1, 0, 3, 2], [6, 7, 4, 5, 2, 3, 0, 1], [7, 6, 5, 4, 3, 2, 1, 0]]
theorem ab9_fd : FD F_law_abelian [.tuple [.int 2, .int 2, .int 2]] = some (sqD ab9) := by kernel_rfl
theorem ab9_l : Latin 8 ab9 := latin_of (by decide +kernel)
def ab10 : List (List Int) := [[0, 1, 2, 3, 4, 5, 6, 7, 8], [1, 2, 0, 4, 5, 3, 7, 8, 6], [2, 0, 1, 5, 3, 4, 8, 6, 7], [3, 4, 5, 6, 7, 8, 0, 1, 2], [4, 5, 3, 7, 8, 6, 1, 2, 0], [5, 3, 4, 8, 6, 7, 2, 0, 1], [6, 7, 8, 0, 1, 2, 3, 4, 5], [7, 8, 6, 1, 2, 0, 4, 5, 3], [8, 6, 7, 2, 0, 1, 5, 3, 4]]
theorem ab10_fd : FD F_law_abelian [.tuple [.int 3, .int 3]] = some (sqD ab10) := by kernel_rfl
theorem ab10_l : Latin 9 ab10 := latin_of (by decide +kernel)
def ab11 : List (List Int) := [[0, 1, 2, 3, 4, 5, 6, 7, 8], [1, 2, 3, 4, 5, 6, 7, 8, 0], [2, 3, 4, 5, 6, 7, 8, 0, 1], [3, 4, 5, 6, 7, 8, 0, 1, 2], [4, 5, 6, 7, 8, 0, 1, 2, 3], [5, 6, 7, 8, 0, 1, 2, 3, 4], [6, 7, 8, 0, 1, 2, 3, 4, 5], [7, 8, 0, 1, 2, 3, 4, 5, 6], [8, 0, 1, 2, 3, 4, 5, 6, 7]]
theorem ab11_fd : FD F_law_abelian [.tuple [.int 9]] = some (sqD ab11) := by kernel_rfl
theorem ab11_l : Latin 9 ab11 := latin_of (by decide +kernel)
def ab12 : List (List Int) := [[0, 1, 2, 3, 4, 5, 6, 7, 8, 9], [1, 2, 3, 4, 5, 6, 7, 8, 9, 0], [2, 3, 4, 5, 6, 7, 8, 9, 0, 1], [3, 4, 5, 6, 7, 8, 9, 0, 1, 2], [4, 5, 6, 7, 8, 9, 0, 1, 2, 3], [5, 6, 7, 8, 9, 0, 1, 2, 3, 4], [6, 7, 8, 9, 0, 1, 2, 3, 4, 5], [7, 8, 9, 0, 1, 2, 3, 4, 5, 6], [8, 9, 0, 1, 2, 3, 4, 5, 6, 7], [9, 0, 1, 2, 3, 4, 5, 6, 7, 8]]
theorem ab12_fd : FD F_law_abelian [.tuple [.int 10]] = some (sqD ab12) := by kernel_rfl
theorem ab12_l : Latin 10 ab12 := latin_of (by decide +kernel)
def ab13 : List (List Int) := [[0, 1, 2, 3, 4, 5, 6, 7, 8, 9, 10, 11], [1, 2, 3, 4, 5, 0, 7, 8, 9, 10, 11, 6], [2, 3, 4, 5, 0, 1, 8, 9, 10, 11, 6, 7], [3, 4, 5, 0, 1, 2, 9, 10, 11, 6, 7, 8], [4, 5, 0, 1, 2, 3, 10, 11, 6, 7, 8, 9], [5, 0, 1, 2, 3, 4, 11, 6, 7, 8, 9, 10], [6, 7, 8, 9, 10, 11, 0, 1, 2, 3, 4, 5], [7, 8, 9, 10, 11, 6, 1, 2, 3, 4, 5, 0], [8, 9, 10, 11, 6, 7, 2, 3, 4, 5, 0, 1], [9, 10, 11, 6, 7, 8, 3, 4, 5, 0, 1, 2], [10, 11, 6, 7, 8, 9, 4, 5, 0, 1, 2, 3], [11, 6, 7, 8, 9, 10, 5, 0, 1, 2, 3, 4]]
theorem ab13_fd : FD F_law_abelian [.tuple [.int 2, .int 6]] = some (sqD ab13) := by kernel_rfl
theorem ab13_l : Latin 12 ab13 := latin_of (by decide +kernel)
theorem menu_at : ∀ {r : Int}, 0 ≤ r → r < 14 → ∃ d n sq, atD menuL r = some d ∧ FD F_law_abelian [d] = some (sqD sq) ∧ Latin n sq := by
  intro r h0 h1
  obtain rfl | rfl | rfl | rfl | rfl | rfl | rfl | rfl | rfl | rfl | rfl | rfl | rfl | rfl : r = 0 ∨ r = 1 ∨ r = 2 ∨ r = 3 ∨ r = 4 ∨ r = 5 ∨ r = 6 ∨ r = 7 ∨ r = 8 ∨ r = 9 ∨ r = 10 ∨ r = 11 ∨ r = 12 ∨ r = 13 := by omega
  · exact ⟨_, _, _, rfl, ab0_fd, ab0_l⟩
  · exact ⟨_, _, _, rfl, ab1_fd, ab1_l⟩
  · exact ⟨_, _, _, rfl, ab2_fd, ab2_l⟩
  · exact ⟨_, _, _, rfl, ab3_fd, ab3_l⟩
  · exact ⟨_, _, _, rfl, ab4_fd, ab4_l⟩
  · exact ⟨_, _, _, rfl, ab5_fd, ab5_l⟩
  · exact ⟨_, _, _, rfl, ab6_fd, ab6_l⟩
  · exact ⟨_, _, _, rfl, ab7_fd, ab7_l⟩
  · exact ⟨_, _, _, rfl, ab8_fd, ab8_l⟩
  · exact ⟨_, _, _, rfl, ab9_fd, ab9_l⟩
  · exact ⟨_, _, _, rfl, ab10_fd, ab10_l⟩
  · exact ⟨_, _, _, rfl, ab11_fd, ab11_l⟩
  · exact ⟨_, _, _, rfl, ab12_fd, ab12_l⟩
  · exact ⟨_, _, _, rfl, ab13_fd, ab13_l⟩
theorem dih_at : ∀ {r : Int}, 0 ≤ r → r < 3 → ∃ n sq, FD F_law_dihedral [.int (3 + r)] = some (sqD sq) ∧ Latin n sq := by
  intro r h0 h1
  obtain rfl | rfl | rfl : r = 0 ∨ r = 1 ∨ r = 2 := by omega
  · exact ⟨_, _, dh3_fd, dh3_l⟩
  · exact ⟨_, _, dh4_fd, dh4_l⟩
  · exact ⟨_, _, dh5_fd, dh5_l⟩
def wSE : SE := (SE.lc (SI.rng2 (SL.cons (SE.int 1) (SL.cons (SE.var 2) SL.nil))) (ST.name 4) (SB.test (SE.op oEq (SE.lc (SI.rng2 (SL.cons (SE.int 2) (SL.cons (SE.var 2) SL.nil))) (ST.name 10) (SB.and (SB.test (SE.op oEq (SE.op oMod (SE.var 2) (SE.var 10)) (SE.int 0))) (SB.test (SE.op oEq (SE.op oMod (SE.var 4) (SE.var 10)) (SE.int 0)))) (SE.var 10)) (SE.lst SL.nil))) (SE.var 4))
def qSE : SE := (SE.lcM (SI.rng1 (SL.cons (SE.var 2) SL.nil)) (ST.name 11) SB.yes (SE.lc (SI.rng1 (SL.cons (SE.var 2) SL.nil)) (ST.name 12) SB.yes (SE.op oMod (SE.cb bInt (SL.cons (SE.op oAdd (SE.op oMul (SE.var 4) (SE.var 11)) (SE.var 12)) SL.nil)) (SE.var 2))))
theorem w3 (X : Ent) : wSE.ev [some (.r 0), some (.d (.int 0)), some (.d (.int 3)), none, none, none, none, none, none, none, none, none, none, none] [X] = .ok (.d (.list (([1, 2] : List Int).map .int))) [X] := by kernel_rfl
def q3_1 : List (List Int) := [[0, 1, 2], [1, 2, 0], [2, 0, 1]]
theorem q3_1_ev (X : Ent) : qSE.ev [some (.r 0), some (.d (.int 0)), some (.d (.int 3)), some (.d (.list (([1, 2] : List Int).map .int))), some (.d (.int 1)), none, none, none, none, none, none, none, none, none] [X] = .ok (.r 1) [X, .lst ((q3_1.map rowD).map .d)] := by kernel_rfl
theorem q3_1_l : Latin 3 q3_1 := latin_of (by decide +kernel)
def q3_2 : List (List Int) := [[0, 1, 2], [2, 0, 1], [1, 2, 0]]
theorem q3_2_ev (X : Ent) : qSE.ev [some (.r 0), some (.d (.int 0)), some (.d (.int 3)), some (.d (.list (([1, 2] : List Int).map .int))), some (.d (.int 2)), none, none, none, none, none, none, none, none, none] [X] = .ok (.r 1) [X, .lst ((q3_2.map rowD).map .d)] := by kernel_rfl
theorem q3_2_l : Latin 3 q3_2 := latin_of (by decide +kernel)
theorem w4 (X : Ent) : wSE.ev [some (.r 0), some (.d (.int 0)), some (.d (.int 4)), none, none, none, none, none, none, none, none, none, none, none] [X] = .ok (.d (.list (([1, 3] : List Int).map .int))) [X] := by kernel_rfl
def q4_1 : List (List Int) := [[0, 1, 2, 3], [1, 2, 3, 0], [2, 3, 0, 1], [3, 0, 1, 2]]
theorem q4_1_ev (X : Ent) : qSE.ev [some (.r 0), some (.d (.int 0)), some (.d (.int 4)), some (.d (.list (([1, 3] : List Int).map .int))), some (.d (.int 1)), none, none, none, none, none, none, none, none, none] [X] = .ok (.r 1) [X, .lst ((q4_1.map rowD).map .d)] := by kernel_rfl
theorem q4_1_l : Latin 4 q4_1 := latin_of (by decide +kernel)
def q4_3 : List (List Int) := [[0, 1, 2, 3], [3, 0, 1, 2], [2, 3, 0, 1], [1, 2, 3, 0]]
theorem q4_3_ev (X : Ent) : qSE.ev [some (.r 0), some (.d (.int 0)), some (.d (.int 4)), some (.d (.list (([1, 3] : List Int).map .int))), some (.d (.int 3)), none, none, none, none, none, none, none, none, none] [X] = .ok (.r 1) [X, .lst ((q4_3.map rowD).map .d)] := by kernel_rfl
theorem q4_3_l : Latin 4 q4_3 := latin_of (by decide +kernel)
theorem w5 (X : Ent) : wSE.ev [some (.r 0), some (.d (.int 0)), some (.d (.int 5)), none, none, none, none, none, none, none, none, none, none, none] [X] = .ok (.d (.list (([1, 2, 3, 4] : List Int).map .int))) [X] := by kernel_rfl
def q5_1 : List (List Int) := [[0, 1, 2, 3, 4], [1, 2, 3, 4, 0], [2, 3, 4, 0, 1], [3, 4, 0, 1, 2], [4, 0, 1, 2, 3]]
theorem q5_1_ev (X : Ent) : qSE.ev [some (.r 0), some (.d (.int 0)), some (.d (.int 5)), some (.d (.list (([1, 2, 3, 4] : List Int).map .int))), some (.d (.int 1)), none, none, none, none, none, none, none, none, none] [X] = .ok (.r 1) [X, .lst ((q5_1.map rowD).map .d)] := by kernel_rfl
theorem q5_1_l : Latin 5 q5_1 := latin_of (by decide +kernel)
def q5_2 : List (List Int) := [[0, 1, 2, 3, 4], [2, 3, 4, 0, 1], [4, 0, 1, 2, 3], [1, 2, 3, 4, 0], [3, 4, 0, 1, 2]]
theorem q5_2_ev (X : Ent) : qSE.ev [some (.r 0), some (.d (.int 0)), some (.d (.int 5)), some (.d (.list (([1, 2, 3, 4] : List Int).map .int))), some (.d (.int 2)), none, none, none, none, none, none, none, none, none] [X] = .ok (.r 1) [X, .lst ((q5_2.map rowD).map .d)] := by kernel_rfl
theorem q5_2_l : Latin 5 q5_2 := latin_of (by decide +kernel)
def q5_3 : List (List Int) := [[0, 1, 2, 3, 4], [3, 4, 0, 1, 2], [1, 2, 3, 4, 0], [4, 0, 1, 2, 3], [2, 3, 4, 0, 1]]
theorem q5_3_ev (X : Ent) : qSE.ev [some (.r 0), some (.d (.int 0)), some (.d (.int 5)), some (.d (.list (([1, 2, 3, 4] : List Int).map .int))), some (.d (.int 3)), none, none, none, none, none, none, none, none, none] [X] = .ok (.r 1) [X, .lst ((q5_3.map rowD).map .d)] := by kernel_rfl
theorem q5_3_l : Latin 5 q5_3 := latin_of (by decide +kernel)
def q5_4 : List (List Int) := [[0, 1, 2, 3, 4], [4, 0, 1, 2, 3], [3, 4, 0, 1, 2], [2, 3, 4, 0, 1], [1, 2, 3, 4, 0]]
theorem q5_4_ev (X : Ent) : qSE.ev [some (.r 0), some (.d (.int 0)), some (.d (.int 5)), some (.d (.list (([1, 2, 3, 4] : List Int).map .int))), some (.d (.int 4)), none, none, none, none, none, none, none, none, none] [X] = .ok (.r 1) [X, .lst ((q5_4.map rowD).map .d)] := by kernel_rfl
theorem q5_4_l : Latin 5 q5_4 := latin_of (by decide +kernel)
theorem w6 (X : Ent) : wSE.ev [some (.r 0), some (.d (.int 0)), some (.d (.int 6)), none, none, none, none, none, none, none, none, none, none, none] [X] = .ok (.d (.list (([1, 5] : List Int).map .int))) [X] := by kernel_rfl
def q6_1 : List (List Int) := [[0, 1, 2, 3, 4, 5], [1, 2, 3, 4, 5, 0], [2, 3, 4, 5, 0, 1], [3, 4, 5, 0, 1, 2], [4, 5, 0, 1, 2, 3], [5, 0, 1, 2, 3, 4]]
theorem q6_1_ev (X : Ent) : qSE.ev [some (.r 0), some (.d (.int 0)), some (.d (.int 6)), some (.d (.list (([1, 5] : List Int).map .int))), some (.d (.int 1)), none, none, none, none, none, none, none, none, none] [X] = .ok (.r 1) [X, .lst ((q6_1.map rowD).map .d)] := by kernel_rfl
theorem q6_1_l : Latin 6 q6_1 := latin_of (by decide +kernel)
def q6_5 : List (List Int) := [[0, 1, 2, 3, 4, 5], [5, 0, 1, 2, 3, 4], [4, 5, 0, 1, 2, 3], [3, 4, 5, 0, 1, 2], [2, 3, 4, 5, 0, 1], [1, 2, 3, 4, 5, 0]]
theorem q6_5_ev (X : Ent) : qSE.ev [some (.r 0), some (.d (.int 0)), some (.d (.int 6)), some (.d (.list (([1, 5] : List Int).map .int))), some (.d (.int 5)), none, none, none, none, none, none, none, none, none] [X] = .ok (.r 1) [X, .lst ((q6_5.map rowD).map .d)] := by kernel_rfl
theorem q6_5_l : Latin 6 q6_5 := latin_of (by decide +kernel)
theorem w7 (X : Ent) : wSE.ev [some (.r 0), some (.d (.int 0)), some (.d (.int 7)), none, none, none, none, none, none, none, none, none, none, none] [X] = .ok (.d (.list (([1, 2, 3, 4, 5, 6] : List Int).map .int))) [X] := by kernel_rfl
def q7_1 : List (List Int) := [[0, 1, 2, 3, 4, 5, 6], [1, 2, 3, 4, 5, 6, 0], [2, 3, 4, 5, 6, 0, 1], [3, 4, 5, 6, 0, 1, 2], [4, 5, 6, 0, 1, 2, 3], [5, 6, 0, 1, 2, 3, 4], [6, 0, 1, 2, 3, 4, 5]]
theorem q7_1_ev (X : Ent) : qSE.ev [some (.r 0), some (.d (.int 0)), some (.d (.int 7)), some (.d (.list (([1, 2, 3, 4, 5, 6] : List Int).map .int))), some (.d (.int 1)), none, none, none, none, none, none, none, none, none] [X] = .ok (.r 1) [X, .lst ((q7_1.map rowD).map .d)] := by kernel_rfl
theorem q7_1_l : Latin 7 q7_1 := latin_of (by decide +kernel)
def q7_2 : List (List Int) := [[0, 1, 2, 3, 4, 5, 6], [2, 3, 4, 5, 6, 0, 1], [4, 5, 6, 0, 1, 2, 3], [6, 0, 1, 2, 3, 4, 5], [1, 2, 3, 4, 5, 6, 0], [3, 4, 5, 6, 0, 1, 2], [5, 6, 0, 1, 2, 3, 4]]
theorem q7_2_ev (X : Ent) : qSE.ev [some (.r 0), some (.d (.int 0)), some (.d (.int 7)), some (.d (.list (([1, 2, 3, 4, 5, 6] : List Int).map .int))), some (.d (.int 2)), none, none, none, none, none, none, none, none, none] [X] = .ok (.r 1) [X, .lst ((q7_2.map rowD).map .d)] := by kernel_rfl
theorem q7_2_l : Latin 7 q7_2 := latin_of (by decide +kernel)
def q7_3 : List (List Int) := [[0, 1, 2, 3, 4, 5, 6], [3, 4, 5, 6, 0, 1, 2], [6, 0, 1, 2, 3, 4, 5], [2, 3, 4, 5, 6, 0, 1], [5, 6, 0, 1, 2, 3, 4], [1, 2, 3, 4, 5, 6, 0], [4, 5, 6, 0, 1, 2, 3]]
theorem q7_3_ev (X : Ent) : qSE.ev [some (.r 0), some (.d (.int 0)), some (.d (.int 7)), some (.d (.list (([1, 2, 3, 4, 5, 6] : List Int).map .int))), some (.d (.int 3)), none, none, none, none, none, none, none, none, none] [X] = .ok (.r 1) [X, .lst ((q7_3.map rowD).map .d)] := by kernel_rfl
theorem q7_3_l : Latin 7 q7_3 := latin_of (by decide +kernel)
def q7_4 : List (List Int) := [[0, 1, 2, 3, 4, 5, 6], [4, 5, 6, 0, 1, 2, 3], [1, 2, 3, 4, 5, 6, 0], [5, 6, 0, 1, 2, 3, 4], [2, 3, 4, 5, 6, 0, 1], [6, 0, 1, 2, 3, 4, 5], [3, 4, 5, 6, 0, 1, 2]]
theorem q7_4_ev (X : Ent) : qSE.ev [some (.r 0), some (.d (.int 0)), some (.d (.int 7)), some (.d (.list (([1, 2, 3, 4, 5, 6] : List Int).map .int))), some (.d (.int 4)), none, none, none, none, none, none, none, none, none] [X] = .ok (.r 1) [X, .lst ((q7_4.map rowD).map .d)] := by kernel_rfl
theorem q7_4_l : Latin 7 q7_4 := latin_of (by decide +kernel)
def q7_5 : List (List Int) := [[0, 1, 2, 3, 4, 5, 6], [5, 6, 0, 1, 2, 3, 4], [3, 4, 5, 6, 0, 1, 2], [1, 2, 3, 4, 5, 6, 0], [6, 0, 1, 2, 3, 4, 5], [4, 5, 6, 0, 1, 2, 3], [2, 3, 4, 5, 6, 0, 1]]
theorem q7_5_ev (X : Ent) : qSE.ev [some (.r 0), some (.d (.int 0)), some (.d (.int 7)), some (.d (.list (([1, 2, 3, 4, 5, 6] : List Int).map .int))), some (.d (.int 5)), none, none, none, none, none, none, none, none, none] [X] = .ok (.r 1) [X, .lst ((q7_5.map rowD).map .d)] := by kernel_rfl
theorem q7_5_l : Latin 7 q7_5 := latin_of (by decide +kernel)
def q7_6 : List (List Int) := [[0, 1, 2, 3, 4, 5, 6], [6, 0, 1, 2, 3, 4, 5], [5, 6, 0, 1, 2, 3, 4], [4, 5, 6, 0, 1, 2, 3], [3, 4, 5, 6, 0, 1, 2], [2, 3, 4, 5, 6, 0, 1], [1, 2, 3, 4, 5, 6, 0]]
theorem q7_6_ev (X : Ent) : qSE.ev [some (.r 0), some (.d (.int 0)), some (.d (.int 7)), some (.d (.list (([1, 2, 3, 4, 5, 6] : List Int).map .int))), some (.d (.int 6)), none, none, none, none, none, none, none, none, none] [X] = .ok (.r 1) [X, .lst ((q7_6.map rowD).map .d)] := by kernel_rfl
theorem q7_6_l : Latin 7 q7_6 := latin_of (by decide +kernel)
theorem w8 (X : Ent) : wSE.ev [some (.r 0), some (.d (.int 0)), some (.d (.int 8)), none, none, none, none, none, none, none, none, none, none, none] [X] = .ok (.d (.list (([1, 3, 5, 7] : List Int).map .int))) [X] := by kernel_rfl
def q8_1 : List (List Int) := [[0, 1, 2, 3, 4, 5, 6, 7], [1, 2, 3, 4, 5, 6, 7, 0], [2, 3, 4, 5, 6, 7, 0, 1], [3, 4, 5, 6, 7, 0, 1, 2], [4, 5, 6, 7, 0, 1, 2, 3], [5, 6, 7, 0, 1, 2, 3, 4], [6, 7, 0, 1, 2, 3, 4, 5], [7, 0, 1, 2, 3, 4, 5, 6]]
theorem q8_1_ev (X : Ent) : qSE.ev [some (.r 0), some (.d (.int 0)), some (.d (.int 8)), some (.d (.list (([1, 3, 5, 7] : List Int).map .int))), some (.d (.int 1)), none, none, none, none, none, none, none, none, none] [X] = .ok (.r 1) [X, .lst ((q8_1.map rowD).map .d)] := by kernel_rfl
theorem q8_1_l : Latin 8 q8_1 := latin_of (by decide +kernel)
def q8_3 : List (List Int) := [[0, 1, 2, 3, 4, 5, 6, 7], [3, 4, 5, 6, 7, 0, 1, 2], [6, 7, 0, 1, 2, 3, 4, 5], [1, 2, 3, 4, 5, 6, 7, 0], [4, 5, 6, 7, 0, 1, 2, 3], [7, 0, 1, 2, 3, 4, 5, 6], [2, 3, 4, 5, 6, 7, 0, 1], [5, 6, 7, 0, 1, 2, 3, 4]]
theorem q8_3_ev (X : Ent) : qSE.ev [some (.r 0), some (.d (.int 0)), some (.d (.int 8)), some (.d (.list (([1, 3, 5, 7] : List Int).map .int))), some (.d (.int 3)), none, none, none, none, none, none, none, none, none] [X] = .ok (.r 1) [X, .lst ((q8_3.map rowD).map .d)] := by kernel_rfl
theorem q8_3_l : Latin 8 q8_3 := latin_of (by decide +kernel)
def q8_5 : List (List Int) := [[0, 1, 2, 3, 4, 5, 6, 7], [5, 6, 7, 0, 1, 2, 3, 4], [2, 3, 4, 5, 6, 7, 0, 1], [7, 0, 1, 2, 3, 4, 5, 6], [4, 5, 6, 7, 0, 1, 2, 3], [1, 2, 3, 4, 5, 6, 7, 0], [6, 7, 0, 1, 2, 3, 4, 5], [3, 4, 5, 6, 7, 0, 1, 2]]
theorem q8_5_ev (X : Ent) : qSE.ev [some (.r 0), some (.d (.int 0)), some (.d (.int 8)), some (.d (.list (([1, 3, 5, 7] : List Int).map .int))), some (.d (.int 5)), none, none, none, none, none, none, none, none, none] [X] = .ok (.r 1) [X, .lst ((q8_5.map rowD).map .d)] := by kernel_rfl
theorem q8_5_l : Latin 8 q8_5 := latin_of (by decide +kernel)
def q8_7 : List (List Int) := [[0, 1, 2, 3, 4, 5, 6, 7], [7, 0, 1, 2, 3, 4, 5, 6], [6, 7, 0, 1, 2, 3, 4, 5], [5, 6, 7, 0, 1, 2, 3, 4], [4, 5, 6, 7, 0, 1, 2, 3], [3, 4, 5, 6, 7, 0, 1, 2], [2, 3, 4, 5, 6, 7, 0, 1], [1, 2, 3, 4, 5, 6, 7, 0]]
theorem q8_7_ev (X : Ent) : qSE.ev [some (.r 0), some (.d (.int 0)), some (.d (.int 8)), some (.d (.list (([1, 3, 5, 7] : List Int).map .int))), some (.d (.int 7)), none, none, none, none, none, none, none, none, none] [X] = .ok (.r 1) [X, .lst ((q8_7.map rowD).map .d)] := by kernel_rfl
theorem q8_7_l : Latin 8 q8_7 := latin_of (by decide +kernel)
theorem w9 (X : Ent) : wSE.ev [some (.r 0), some (.d (.int 0)), some (.d (.int 9)), none, none, none, none, none, none, none, none, none, none, none] [X] = .ok (.d (.list (([1, 2, 4, 5, 7, 8] : List Int).map .int))) [X] := by kernel_rfl
def q9_1 : List (List Int) := [[0, 1, 2, 3, 4, 5, 6, 7, 8], [1, 2, 3, 4, 5, 6, 7, 8, 0], [2, 3, 4, 5, 6, 7, 8, 0, 1], [3, 4, 5, 6, 7, 8, 0, 1, 2], [4, 5, 6, 7, 8, 0, 1, 2, 3], [5, 6, 7, 8, 0, 1, 2, 3, 4], [6, 7, 8, 0, 1, 2, 3, 4, 5], [7, 8, 0, 1, 2, 3, 4, 5, 6], [8, 0, 1, 2, 3, 4, 5, 6, 7]]
theorem q9_1_ev (X : Ent) : qSE.ev [some (.r 0), some (.d (.int 0)), some (.d (.int 9)), some (.d (.list (([1, 2, 4, 5, 7, 8] : List Int).map .int))), some (.d (.int 1)), none, none, none, none, none, none, none, none, none] [X] = .ok (.r 1) [X, .lst ((q9_1.map rowD).map .d)] := by kernel_rfl
theorem q9_1_l : Latin 9 q9_1 := latin_of (by decide +kernel)
def q9_2 : List (List Int) := [[0, 1, 2, 3, 4, 5, 6, 7, 8], [2, 3, 4, 5, 6, 7, 8, 0, 1], [4, 5, 6, 7, 8, 0, 1, 2, 3], [6, 7, 8, 0, 1, 2, 3, 4, 5], [8, 0, 1, 2, 3, 4, 5, 6, 7], [1, 2, 3, 4, 5, 6, 7, 8, 0], [3, 4, 5, 6, 7, 8, 0, 1, 2], [5, 6, 7, 8, 0, 1, 2, 3, 4], [7, 8, 0, 1, 2, 3, 4, 5, 6]]
theorem q9_2_ev (X : Ent) : qSE.ev [some (.r 0), some (.d (.int 0)), some (.d (.int 9)), some (.d (.list (([1, 2, 4, 5, 7, 8] : List Int).map .int))), some (.d (.int 2)), none, none, none, none, none, none, none, none, none] [X] = .ok (.r 1) [X, .lst ((q9_2.map rowD).map .d)] := by kernel_rfl
theorem q9_2_l : Latin 9 q9_2 := latin_of (by decide +kernel)
def q9_4 : List (List Int) := [[0, 1, 2, 3, 4, 5, 6, 7, 8], [4, 5, 6, 7, 8, 0, 1, 2, 3], [8, 0, 1, 2, 3, 4, 5, 6, 7], [3, 4, 5, 6, 7, 8, 0, 1, 2], [7, 8, 0, 1, 2, 3, 4, 5, 6], [2, 3, 4, 5, 6, 7, 8, 0, 1], [6, 7, 8, 0, 1, 2, 3, 4, 5], [1, 2, 3, 4, 5, 6, 7, 8, 0], [5, 6, 7, 8, 0, 1, 2, 3, 4]]
theorem q9_4_ev (X : Ent) : qSE.ev [some (.r 0), some (.d (.int 0)), some (.d (.int 9)), some (.d (.list (([1, 2, 4, 5, 7, 8] : List Int).map .int))), some (.d (.int 4)), none, none, none, none, none, none, none, none, none] [X] = .ok (.r 1) [X, .lst ((q9_4.map rowD).map .d)] := by kernel_rfl
theorem q9_4_l : Latin 9 q9_4 := latin_of (by decide +kernel)
def q9_5 : List (List Int) := [[0, 1, 2, 3, 4, 5, 6, 7, 8], [5, 6, 7, 8, 0, 1, 2, 3, 4], [1, 2, 3, 4, 5, 6, 7, 8, 0], [6, 7, 8, 0, 1, 2, 3, 4, 5], [2, 3, 4, 5, 6, 7, 8, 0, 1], [7, 8, 0, 1, 2, 3, 4, 5, 6], [3, 4, 5, 6, 7, 8, 0, 1, 2], [8, 0, 1, 2, 3, 4, 5, 6, 7], [4, 5, 6, 7, 8, 0, 1, 2, 3]]
theorem q9_5_ev (X : Ent) : qSE.ev [some (.r 0), some (.d (.int 0)), some (.d (.int 9)), some (.d (.list (([1, 2, 4, 5, 7, 8] : List Int).map .int))), some (.d (.int 5)), none, none, none, none, none, none, none, none, none] [X] = .ok (.r 1) [X, .lst ((q9_5.map rowD).map .d)] := by kernel_rfl
theorem q9_5_l : Latin 9 q9_5 := latin_of (by decide +kernel)
def q9_7 : List (List Int) := [[0, 1, 2, 3, 4, 5, 6, 7, 8], [7, 8, 0, 1, 2, 3, 4, 5, 6], [5, 6, 7, 8, 0, 1, 2, 3, 4], [3, 4, 5, 6, 7, 8, 0, 1, 2], [1, 2, 3, 4, 5, 6, 7, 8, 0], [8, 0, 1, 2, 3, 4, 5, 6, 7], [6, 7, 8, 0, 1, 2, 3, 4, 5], [4, 5, 6, 7, 8, 0, 1, 2, 3], [2, 3, 4, 5, 6, 7, 8, 0, 1]]
theorem q9_7_ev (X : Ent) : qSE.ev [some (.r 0), some (.d (.int 0)), some (.d (.int 9)), some (.d (.list (([1, 2, 4, 5, 7, 8] : List Int).map .int))), some (.d (.int 7)), none, none, none, none, none, none, none, none, none] [X] = .ok (.r 1) [X, .lst ((q9_7.map rowD).map .d)] := by kernel_rfl
theorem q9_7_l : Latin 9 q9_7 := latin_of (by decide +kernel)
def q9_8 : List (List Int) := [[0, 1, 2, 3, 4, 5, 6, 7, 8], [8, 0, 1, 2, 3, 4, 5, 6, 7], [7, 8, 0, 1, 2, 3, 4, 5, 6], [6, 7, 8, 0, 1, 2, 3, 4, 5], [5, 6, 7, 8, 0, 1, 2, 3, 4], [4, 5, 6, 7, 8, 0, 1, 2, 3], [3, 4, 5, 6, 7, 8, 0, 1, 2], [2, 3, 4, 5, 6, 7, 8, 0, 1], [1, 2, 3, 4, 5, 6, 7, 8, 0]]
theorem q9_8_ev (X : Ent) : qSE.ev [some (.r 0), some (.d (.int 0)), some (.d (.int 9)), some (.d (.list (([1, 2, 4, 5, 7, 8] : List Int).map .int))), some (.d (.int 8)), none, none, none, none, none, none, none, none, none] [X] = .ok (.r 1) [X, .lst ((q9_8.map rowD).map .d)] := by kernel_rfl
theorem q9_8_l : Latin 9 q9_8 := latin_of (by decide +kernel)
def zL : List PyData := [.int 3, .int 4, .int 5, .int 6, .int 7, .int 8, .int 9]
theorem lin_at (X : Ent) : ∀ {r : Int}, 0 ≤ r → r < 7 → ∃ z W, atD zL r = some (.int z) ∧ wSE.ev [some (.r 0), some (.d (.int 0)), some (.d (.int z)), none, none, none, none, none, none, none, none, none, none, none] [X] = .ok (.d (.list (W.map .int))) [X] ∧ W ≠ [] ∧ W.length ≤ 10 ∧
    ∀ w ∈ W, ∀ Y : Ent, ∃ n sq, qSE.ev [some (.r 0), some (.d (.int 0)), some (.d (.int z)), some (.d (.list (W.map .int))), some (.d (.int w)), none, none, none, none, none, none, none, none, none] [Y] = .ok (.r 1) [Y, .lst ((sq.map rowD).map .d)] ∧ Latin n sq := by
  intro r h0 h1
  obtain rfl | rfl | rfl | rfl | rfl | rfl | rfl : r = 0 ∨ r = 1 ∨ r = 2 ∨ r = 3 ∨ r = 4 ∨ r = 5 ∨ r = 6 := by omega
  · refine ⟨3, [1, 2], rfl, w3 X, by simp, by simp, fun w hw Y => ?_⟩
    simp only [List.mem_cons, List.not_mem_nil, or_false] at hw
    obtain rfl | rfl := hw
    · exact ⟨_, _, q3_1_ev Y, q3_1_l⟩
    · exact ⟨_, _, q3_2_ev Y, q3_2_l⟩
  · refine ⟨4, [1, 3], rfl, w4 X, by simp, by simp, fun w hw Y => ?_⟩
    simp only [List.mem_cons, List.not_mem_nil, or_false] at hw
    obtain rfl | rfl := hw
    · exact ⟨_, _, q4_1_ev Y, q4_1_l⟩
    · exact ⟨_, _, q4_3_ev Y, q4_3_l⟩
  · refine ⟨5, [1, 2, 3, 4], rfl, w5 X, by simp, by simp, fun w hw Y => ?_⟩
    simp only [List.mem_cons, List.not_mem_nil, or_false] at hw
    obtain rfl | rfl | rfl | rfl := hw
    · exact ⟨_, _, q5_1_ev Y, q5_1_l⟩
    · exact ⟨_, _, q5_2_ev Y, q5_2_l⟩
    · exact ⟨_, _, q5_3_ev Y, q5_3_l⟩
    · exact ⟨_, _, q5_4_ev Y, q5_4_l⟩
  · refine ⟨6, [1, 5], rfl, w6 X, by simp, by simp, fun w hw Y => ?_⟩
    simp only [List.mem_cons, List.not_mem_nil, or_false] at hw
    obtain rfl | rfl := hw
    · exact ⟨_, _, q6_1_ev Y, q6_1_l⟩
    · exact ⟨_, _, q6_5_ev Y, q6_5_l⟩
  · refine ⟨7, [1, 2, 3, 4, 5, 6], rfl, w7 X, by simp, by simp, fun w hw Y => ?_⟩
    simp only [List.mem_cons, List.not_mem_nil, or_false] at hw
    obtain rfl | rfl | rfl | rfl | rfl | rfl := hw
    · exact ⟨_, _, q7_1_ev Y, q7_1_l⟩
    · exact ⟨_, _, q7_2_ev Y, q7_2_l⟩
    · exact ⟨_, _, q7_3_ev Y, q7_3_l⟩
    · exact ⟨_, _, q7_4_ev Y, q7_4_l⟩
    · exact ⟨_, _, q7_5_ev Y, q7_5_l⟩
    · exact ⟨_, _, q7_6_ev Y, q7_6_l⟩
  · refine ⟨8, [1, 3, 5, 7], rfl, w8 X, by simp, by simp, fun w hw Y => ?_⟩
    simp only [List.mem_cons, List.not_mem_nil, or_false] at hw
    obtain rfl | rfl | rfl | rfl := hw
    · exact ⟨_, _, q8_1_ev Y, q8_1_l⟩
    · exact ⟨_, _, q8_3_ev Y, q8_3_l⟩
    · exact ⟨_, _, q8_5_ev Y, q8_5_l⟩
    · exact ⟨_, _, q8_7_ev Y, q8_7_l⟩
  · refine ⟨9, [1, 2, 4, 5, 7, 8], rfl, w9 X, by simp, by simp, fun w hw Y => ?_⟩
    simp only [List.mem_cons, List.not_mem_nil, or_false] at hw
    obtain rfl | rfl | rfl | rfl | rfl | rfl := hw
    · exact ⟨_, _, q9_1_ev Y, q9_1_l⟩
    · exact ⟨_, _, q9_2_ev Y, q9_2_l⟩
    · exact ⟨_, _, q9_4_ev Y, q9_4_l⟩
    · exact ⟨_, _, q9_5_ev Y, q9_5_l⟩
    · exact ⟨_, _, q9_7_ev Y, q9_7_l⟩
    · exact ⟨_, _, q9_8_ev Y, q9_8_l⟩
end K47
end
section
set_option maxRecDepth 100000
set_option maxHeartbeats 2000000
/-! k47: groups, squares that are drawn -/
namespace K47
open PySem PySem.Spec PyProof.Rows L2 G N D
theorem group_ok {k : Nat} {es : List PyData} (g : Gn k es) (hk : k ≤ 999999999) : ∃ n sq es', FG F_law_group_v4 es [] = some (sqD sq, es') ∧ Latin n sq ∧ Gn (k + 8) es' := by
  obtain ⟨w, es1, e1, w0, w1, g1⟩ := rand2_ok g (by omega) (n := 4) (by decide) (by decide)
  by_cases c : w = 0
  · subst c
    obtain ⟨r, es2, e2, r0, r1, g2⟩ := rand2_ok g1 (by omega) (n := 3) (by decide) (by decide)
    obtain ⟨n, sq, ed, L⟩ := dih_at r0 r1
    refine ⟨n, sq, es2, fg_of (rest := []) (runDef_rt rfl (seq_of (ρ1 := [some (.r 0), some (.d (.int 0)), none]) (h1 := [.lst (es1.map .d)]) ?_ (seq_ret ?_))), L, g2⟩
    · simp [S_law_group_v4_0, startN, e1]
    · simp [S_law_group_v4_1, e2, ed]
  · obtain ⟨r, es2, e2, r0, r1, g2⟩ := rand2_ok g1 (by omega) (n := 14) (by decide) (by decide)
    obtain ⟨d, n, sq, em, ed, L⟩ := menu_at r0 r1
    refine ⟨n, sq, es2, fg_of (rest := []) (runDef_rt rfl (seq_of (ρ1 := [some (.r 0), some (.d (.int w)), none]) (h1 := [.lst (es1.map .d)]) ?_ (seq_of (ρ1 := [some (.r 0), some (.d (.int w)), none]) (h1 := [.lst (es1.map .d)]) ?_ (seq_of (ρ1 := [some (.r 0), some (.d (.int w)), some (.d (.list menuL))]) (h1 := [.lst (es1.map .d)]) ?_ (ret_of ?_))))), L, g2⟩
    · simp [S_law_group_v4_0, startN, e1]
    · simp [S_law_group_v4_1, c]
    · rfl
    · have l : lenD [.list menuL] = some (.int 14) := rfl
      have i : ixD (.list menuL) (.int r) = some d := em
      simp [l, e2, i, ed]
/-! ### a square turned by three lists -/
def at1 (l : List Int) (i : Int) : Int := l.getD i.toNat 0
theorem at1_in {n : Nat} {l : List Int} (p : IsP n l) {i : Int} (h : In n i) : In n (at1 l i) := by
  have m : l.getD i.toNat 0 ∈ l := getD_mem (by rw [p.len]; have := h.1; have := h.2; omega)
  exact ⟨p.lo _ m, p.hi _ m⟩
theorem at1_inj {n : Nat} {l : List Int} (p : IsP n l) {i j : Int} (hi : In n i) (hj : In n j) (e : at1 l i = at1 l j) : i = j := by
  have a := (ix_iff p (at1_in p hi) hi).mp rfl
  have b := (ix_iff p (at1_in p hi) hj).mp e.symm
  omega
theorem isP_map {n : Nat} {f : Int → Int} (h1 : ∀ i, In n i → In n (f i)) (h2 : ∀ i j, In n i → In n j → f i = f j → i = j) : IsP n ((List.range n).map fun (i : Nat) => f i) := by
  have inr : ∀ i : Nat, i ∈ List.range n → In n (i : Int) := fun i hi => ⟨by omega, by have := List.mem_range.mp hi; omega⟩
  refine ⟨by rw [List.length_map, List.length_range], ?_, fun x hx => ?_, fun x hx => ?_⟩
  · rw [List.nodup_iff_pairwise_ne, List.pairwise_map]
    refine (List.nodup_iff_pairwise_ne.mp List.nodup_range).imp_of_mem fun {a b} ha hb h z => h ?_
    have := h2 a b (inr a ha) (inr b hb) z
    omega
  · obtain ⟨i, hi, rfl⟩ := List.mem_map.mp hx
    exact (h1 i (inr i hi)).1
  · obtain ⟨i, hi, rfl⟩ := List.mem_map.mp hx
    exact (h1 i (inr i hi)).2
def conj (n : Nat) (sq : List (List Int)) (a b c : List Int) : List (List Int) := (List.range n).map fun (i : Nat) => (List.range n).map fun (j : Nat) => at1 c (at2 sq (at1 a i) (at1 b j))
theorem getD_range {α : Type} (f : Nat → α) {n j : Nat} (h : j < n) (d : α) : ((List.range n).map f).getD j d = f j := by
  rw [List.getD_eq_getElem?_getD, List.getElem?_map, List.getElem?_range h]
  rfl
theorem at2_row {n : Nat} {sq : List (List Int)} (L : Latin n sq) {x c d : Int} (h : In n x) (hc : In n c) (hd : In n d) (e : at2 sq x c = at2 sq x d) : c = d := at1_inj (L.rows _ (row_at L h)) hc hd e
theorem at2_col {n : Nat} {sq : List (List Int)} (L : Latin n sq) {x y c : Int} (h : In n x) (hy : In n y) (hc : In n c) (e : at2 sq x c = at2 sq y c) : x = y :=
  at1_inj (L.cols c.toNat (by have := hc.1; have := hc.2; omega)) h hy (by
    show (col sq c.toNat).getD x.toNat 0 = (col sq c.toNat).getD y.toNat 0
    rw [col_at L h c, col_at L hy c, e])
theorem conj_latin {n : Nat} {sq : List (List Int)} {a b c : List Int} (L : Latin n sq) (pa : IsP n a) (pb : IsP n b) (pc : IsP n c) : Latin n (conj n sq a b c) := by
  refine ⟨L.two, L.top, by unfold conj; rw [List.length_map, List.length_range], fun r hr => ?_, fun j hj => ?_⟩
  · obtain ⟨i, hi, rfl⟩ := List.mem_map.mp hr
    have hi2 : In n (i : Int) := ⟨by omega, by have := List.mem_range.mp hi; omega⟩
    have h0 := at1_in pa hi2
    exact isP_map (f := fun j => at1 c (at2 sq (at1 a i) (at1 b j))) (fun j hj => at1_in pc (at_in L h0 (at1_in pb hj))) fun x y hx hy e =>
      at1_inj pb hx hy (at2_row L h0 (at1_in pb hx) (at1_in pb hy) (at1_inj pc (at_in L h0 (at1_in pb hx)) (at_in L h0 (at1_in pb hy)) e))
  · have hj2 : In n (j : Int) := ⟨by omega, by omega⟩
    have h0 := at1_in pb hj2
    have e : col (conj n sq a b c) j = (List.range n).map fun (i : Nat) => at1 c (at2 sq (at1 a i) (at1 b j)) := by
      unfold col conj
      rw [List.map_map]
      apply List.map_congr_left
      intro i _
      exact getD_range (fun (j : Nat) => at1 c (at2 sq (at1 a i) (at1 b j))) hj 0
    rw [e]
    exact isP_map (f := fun i => at1 c (at2 sq (at1 a i) (at1 b j))) (fun i hi => at1_in pc (at_in L (at1_in pa hi) h0)) fun x y hx hy e =>
      at1_inj pa hx hy (at2_col L (at1_in pa hx) (at1_in pa hy) h0 (at1_inj pc (at_in L (at1_in pa hx) h0) (at_in L (at1_in pa hy) h0) e))
theorem ix_p {n : Nat} {l : List Int} (p : IsP n l) {i : Int} (h : In n i) : ixD (rowD l) (.int i) = some (.int (at1 l i)) := ix_row h.1 (by rw [p.len]; exact h.2)
theorem ix_at' {n : Nat} {sq : List (List Int)} (L : Latin n sq) {x c : Int} (h : In n x) (hc : In n c) : ixD (rowD (rowOf sq x)) (.int c) = some (.int (at2 sq x c)) := ix_at L h hc
end K47
end
section
set_option maxRecDepth 100000
set_option maxHeartbeats 2000000
/-! k47: the square that is drawn -/
namespace K47
open PySem PySem.Spec PyProof.Rows L2 G N D
theorem lcR_step {put : Vd → Rh → Option Rh} {g : Rh → Hd → Oc Vd} {ρ ρ1 : Rh} {x : PyData} {xs : List PyData} {out : List Vd} {h h1 : Hd} {y : Vd} (e1 : put (.d x) ρ = some ρ1) (e2 : g ρ1 h = .ok y h1) : lcR put SB.yes.ev g ρ (x :: xs) out h = lcR put SB.yes.ev g ρ xs (out ++ [y]) h1 := by
  rw [lcR, e1]
  dsimp only
  rw [show SB.yes.ev ρ1 h = .ok true h from rfl]
  dsimp only
  rw [e2]
theorem one_shuf {ρ : Rh} {es es' : List PyData} {n : Nat} {sq : List (List Int)} {t : List Int} (L : Latin n sq) (e0 : ρ[0]? = some (some (.r 0))) (e5 : ρ[5]? = some (some (.d (sqD sq)))) (e : FG F_law_shuffled_v4 es [.int n] = some (rowD t, es')) :
    (SE.callG F_law_shuffled_v4 (SL.cons (SE.var 0) (SL.cons (SE.cb bLen (SL.cons (SE.var 5) SL.nil)) SL.nil))).ev ρ [.lst (es.map .d)] = .ok (.d (rowD t)) [.lst (es'.map .d)] := by
  have l := len_sq L
  generalize (n : Int) = m at l e
  simp [e0, e5, l, e]
def sSE : SE := SE.lc (SI.rng1 (SL.cons (SE.int 3) SL.nil)) (ST.name 13) SB.yes (SE.callG F_law_shuffled_v4 (SL.cons (SE.var 0) (SL.cons (SE.cb bLen (SL.cons (SE.var 5) SL.nil)) SL.nil)))
theorem three_shuf {n : Nat} {sq : List (List Int)} (L : Latin n sq) (w : Option Vd) {k : Nat} {es : List PyData} (g : Gn k es) (hk : k ≤ 9999999) : ∃ a b c es',
    sSE.ev [some (.r 0), w, none, none, none, some (.d (sqD sq)), none, none, none, none, none, none, none, none] [.lst (es.map .d)] = .ok (.d (.list [rowD a, rowD b, rowD c])) [.lst (es'.map .d)] ∧ IsP n a ∧ IsP n b ∧ IsP n c ∧ Gn (k + 480) es' := by
  obtain ⟨a, es1, e1, pa, g1⟩ := shuffled_ok g L.top (by omega)
  obtain ⟨b, es2, e2, pb, g2⟩ := shuffled_ok g1 L.top (by omega)
  obtain ⟨c, es3, e3, pc, g3⟩ := shuffled_ok g2 L.top (by omega)
  refine ⟨a, b, c, es3, ?_, pa, pb, pc, g3⟩
  rw [sSE, SE.lc_ev, rng1_of (n := 3) (h1 := [.lst (es.map .d)]) rfl (by decide) (by decide), Oc.bind_ok, if_pos (by rw [rng_len]; decide), show SI.rng 0 3 = [.int 0, .int 1, .int 2] from rfl]
  rw [lcR_step rfl (one_shuf L rfl rfl e1), lcR_step rfl (one_shuf L rfl rfl e2), lcR_step rfl (one_shuf L rfl rfl e3)]
  rfl
def cSE : SE := SE.lc (SI.rng1 (SL.cons (SE.cb bLen (SL.cons (SE.var 5) SL.nil)) SL.nil)) (ST.name 11) SB.yes (SE.lc (SI.rng1 (SL.cons (SE.cb bLen (SL.cons (SE.var 5) SL.nil)) SL.nil)) (ST.name 12) SB.yes (SE.ix (SE.var 8) (SE.ix (SE.ix (SE.var 5) (SE.ix (SE.var 6) (SE.var 11))) (SE.ix (SE.var 7) (SE.var 12)))))
def toI : PyData → Int := toInt
theorem map_rng (n : Nat) (f : Int → PyData) : (SI.rng 0 (n : Int)).map (fun x => f (toInt x)) = (List.range n).map fun (i : Nat) => f i := by
  unfold SI.rng
  rw [List.map_map, Int.sub_zero, Int.toNat_natCast]
  apply List.map_congr_left
  intro i _
  simp [toInt]
theorem conj_ev {n : Nat} {sq : List (List Int)} {a b c : List Int} (L : Latin n sq) (pa : IsP n a) (pb : IsP n b) (pc : IsP n c) (w : Option Vd) (h : Hd) :
    cSE.ev [some (.r 0), w, none, none, none, some (.d (sqD sq)), some (.d (rowD a)), some (.d (rowD b)), some (.d (rowD c)), none, none, none, none, none] h = .ok (.d (sqD (conj n sq a b c))) h := by
  have top := L.top
  have le : ∀ ρ : Rh, ρ[5]? = some (some (.d (sqD sq))) → (SL.cons (SE.cb bLen (SL.cons (SE.var 5) SL.nil)) SL.nil).ev ρ h = .ok [.d (.int n)] h := fun ρ e5 => by
    have l := len_sq L
    generalize (n : Int) = m at l
    simp [e5, l]
  have z := lcY_of (it := SI.rng1 (SL.cons (SE.cb bLen (SL.cons (SE.var 5) SL.nil)) SL.nil)) (tg := ST.name 11) (g := SE.lc (SI.rng1 (SL.cons (SE.cb bLen (SL.cons (SE.var 5) SL.nil)) SL.nil)) (ST.name 12) SB.yes (SE.ix (SE.var 8) (SE.ix (SE.ix (SE.var 5) (SE.ix (SE.var 6) (SE.var 11))) (SE.ix (SE.var 7) (SE.var 12)))))
    (ρ := [some (.r 0), w, none, none, none, some (.d (sqD sq)), some (.d (rowD a)), some (.d (rowD b)), some (.d (rowD c)), none, none, none, none, none]) (h := h) (h1 := h) (xs := SI.rng 0 (n : Int)) (fun x => .list ((SI.rng 0 (n : Int)).map fun y => .int (at1 c (at2 sq (at1 a (toInt x)) (at1 b (toInt y))))))
    (rng1_of (n := (n : Int)) (le _ rfl) (by omega) (by omega)) (by rw [rng_len]; omega) fun x hx => by
    obtain ⟨i, rfl, hi⟩ := mem_rng hx
    have hi2 : In n (i : Int) := ⟨by omega, hi⟩
    refine ⟨_, rfl, ?_⟩
    exact lcY_of (fun y => .int (at1 c (at2 sq (at1 a (toInt (.int i))) (at1 b (toInt y))))) (rng1_of (n := (n : Int)) (le _ rfl) (by omega) (by omega)) (by rw [rng_len]; omega) fun y hy => by
      obtain ⟨j, rfl, hj⟩ := mem_rng hy
      have hj2 : In n (j : Int) := ⟨by omega, hj⟩
      refine ⟨_, rfl, ?_⟩
      have i1 := ix_p pa hi2
      have i2 := ix_p pb hj2
      have h1 := at1_in pa hi2
      have h2 := at1_in pb hj2
      have i3 := ix_sq L h1
      have i4 := ix_at' L h1 h2
      have i5 := ix_p pc (at_in L h1 h2)
      show _ = Oc.ok (Vd.d (.int (at1 c (at2 sq (at1 a (i : Int)) (at1 b (j : Int)))))) h
      generalize (i : Int) = i' at i1 i3 i4 i5 ⊢
      generalize (j : Int) = j' at i2 i4 i5 ⊢
      simp [wipeN, i1, i2, i3, i4, i5]
  rw [cSE, z]
  have e : (SI.rng 0 (n : Int)).map (fun x => PyData.list ((SI.rng 0 (n : Int)).map fun y => .int (at1 c (at2 sq (at1 a (toInt x)) (at1 b (toInt y)))))) = (conj n sq a b c).map rowD := by
    rw [map_rng n fun i => PyData.list ((SI.rng 0 (n : Int)).map fun y => .int (at1 c (at2 sq (at1 a i) (at1 b (toInt y)))))]
    unfold conj
    rw [List.map_map]
    apply List.map_congr_left
    intro i _
    show PyData.list _ = PyData.list _
    rw [map_rng n fun j => PyData.int (at1 c (at2 sq (at1 a i) (at1 b j))), List.map_map]
    rfl
  rw [e]
  rfl
theorem square_ok {k : Nat} {es : List PyData} (g : Gn k es) (hk : k ≤ 999999) : ∃ n sq es', FG F_law_square_v2 es [] = some (sqD sq, es') ∧ Latin n sq ∧ Gn (k + 600) es' := by
  obtain ⟨w, es1, e1, w0, w1, g1⟩ := rand2_ok g (by omega) (n := 4) (by decide) (by decide)
  have s0 : S_law_square_v2_0.run (startN 14 [.r 0]) [.lst (es.map .d)] = .nx [some (.r 0), some (.d (.int w)), none, none, none, none, none, none, none, none, none, none, none, none] [.lst (es1.map .d)] := by
    simp [S_law_square_v2_0, startN, e1]
  by_cases c : w = 0
  · subst c
    obtain ⟨r, es2, e2, r0, r1, g2⟩ := rand2_ok g1 (by omega) (n := 7) (by decide) (by decide)
    obtain ⟨z, W, ez, ew, hW, lW, q⟩ := lin_at (.lst (es2.map .d)) r0 r1
    have lw : (0 : Int) < (W.length : Int) := by have := List.length_pos_iff.mpr hW; omega
    obtain ⟨t, es3, e3, t0, t1, g3⟩ := rand2_ok g2 (by omega) (n := (W.length : Int)) lw (by omega)
    have ht : t.toNat < W.length := by omega
    have mw : W.getD t.toNat 0 ∈ W := getD_mem ht
    obtain ⟨n, sq, eq, L⟩ := q _ mw (.lst (es3.map .d))
    refine ⟨n, sq, es3, ?_, L, g3.mono (by omega)⟩
    have run : F_law_square_v2 [.r 0] [.lst (es.map .d)] = .ok (.r 1) [.lst (es3.map .d), .lst ((sq.map rowD).map .d)] := by
      refine runDef_rt rfl (seq_of s0 (seq_ret (ite_t (h1 := [.lst (es1.map .d)]) ?_ (seq_of (ρ1 := [some (.r 0), some (.d (.int 0)), some (.d (.int z)), none, none, none, none, none, none, none, none, none, none, none]) (h1 := [.lst (es2.map .d)]) ?_ (seq_of (set_of ew) (seq_of (ρ1 := [some (.r 0), some (.d (.int 0)), some (.d (.int z)), some (.d (.list (W.map .int))), some (.d (.int (W.getD t.toNat 0))), none, none, none, none, none, none, none, none, none]) (h1 := [.lst (es3.map .d)]) ?_ (ret_of eq)))))))
      · simp
      · have i : ixD (.list zL) (.int r) = some (.int z) := ez
        have dl : (SE.lst (SL.cons (SE.int 3) (SL.cons (SE.int 4) (SL.cons (SE.int 5) (SL.cons (SE.int 6) (SL.cons (SE.int 7) (SL.cons (SE.int 8) (SL.cons (SE.int 9) SL.nil)))))))).ev [some (.r 0), some (.d (.int 0)), none, none, none, none, none, none, none, none, none, none, none, none] [.lst (es1.map .d)] = .ok (.d (.list zL)) [.lst (es1.map .d)] := rfl
        refine set_of (x := .d (.int z)) ?_
        rw [SE.ix_ev, dl]
        simp [e2, i]
      · have l : lenD [.list (W.map .int)] = some (.int W.length) := len_row W
        have i : ixD (.list (W.map .int)) (.int t) = some (.int (W.getD t.toNat 0)) := ix_row t0 t1
        generalize (W.length : Int) = wl at l e3
        generalize W.getD t.toNat 0 = wt at i
        simp [l, e3, i]
    unfold FG
    rw [show (Vd.r 0 :: ([] : List PyData).map .d) = [.r 0] from rfl, run]
    dsimp only
    rw [frz_r (n := 1) (ds := sq.map rowD) rfl]
    dsimp only [List.set, List.getElem?_cons_zero]
    rw [datas_map]
    rfl
  · obtain ⟨n, gr, es2, e2, L, g2⟩ := group_ok g1 (by omega)
    obtain ⟨a, b, d, es3, e3, pa, pb, pd, g3⟩ := three_shuf L (some (.d (.int w))) g2 (by omega)
    have s1 : S_law_square_v2_1.run [some (.r 0), some (.d (.int w)), none, none, none, none, none, none, none, none, none, none, none, none] [.lst (es1.map .d)] = .nx [some (.r 0), some (.d (.int w)), none, none, none, none, none, none, none, none, none, none, none, none] [.lst (es1.map .d)] := ite_f (by simp [c]) rfl
    have s2 : S_law_square_v2_2.run [some (.r 0), some (.d (.int w)), none, none, none, none, none, none, none, none, none, none, none, none] [.lst (es1.map .d)] = .nx [some (.r 0), some (.d (.int w)), none, none, none, some (.d (sqD gr)), none, none, none, none, none, none, none, none] [.lst (es2.map .d)] := by
      refine set_of (x := .d (sqD gr)) ?_
      simp [e2]
    have s3 : S_law_square_v2_3.run [some (.r 0), some (.d (.int w)), none, none, none, some (.d (sqD gr)), none, none, none, none, none, none, none, none] [.lst (es2.map .d)] = .nx [some (.r 0), some (.d (.int w)), none, none, none, some (.d (sqD gr)), some (.d (rowD a)), some (.d (rowD b)), some (.d (rowD d)), none, none, none, none, none] [.lst (es3.map .d)] := by
      show (SS.asgG sSE _).run _ _ = _
      rw [SS.asgG_run, e3]
      simp
    by_cases c1 : w = 1
    · refine ⟨n, gr, es3, fg_of (rest := []) (runDef_rt rfl (seq_of s0 (seq_of s1 (seq_of s2 (seq_of s3 (seq_ret (ite_t (h1 := [.lst (es3.map .d)]) ?_ (ret_of rfl)))))))), L, g3.mono (by omega)⟩
      simp [c1]
    · refine ⟨n, conj n gr a b d, es3, fg_of (rest := []) (runDef_rt rfl (seq_of s0 (seq_of s1 (seq_of s2 (seq_of s3 (seq_of (ite_f (h1 := [.lst (es3.map .d)]) ?_ rfl) (seq_of (set_of (conj_ev L pa pb pd (some (.d (.int w))) [.lst (es3.map .d)])) (ret_of rfl)))))))), conj_latin L pa pb pd, g3.mono (by omega)⟩
      simp [c1]
end K47
end
section
set_option maxRecDepth 100000
set_option maxHeartbeats 2000000
/-! k47: one place of a list -/
namespace K47
open PySem PySem.Spec PyProof.Rows L2 G N D
theorem ps_row {n : Nat} {c : List Int} (h : Ins n c) (hn : n ≤ 1000) (hl : c.length ≤ 1000) : Ps (rowD c) := by
  have q := Pl.ints (ns := c) (fun x hx => by have := (h x hx).1; have := (h x hx).2; omega) (by omega)
  refine ⟨q.p, ?_, ?_⟩
  · have := depth_list (depth_ints c)
    show (PyData.list (c.map .int)).depth ≤ 60
    omega
  · have := bulk_list (bulk_ints c)
    rw [List.length_map] at this
    show (PyData.list (c.map .int)).bulk ≤ 900000
    omega
section
variable {sq : List (List Int)} {n : Nat} {s e : Int}
theorem row_ins (L : Latin n sq) {r : List Int} (h : r ∈ sq) : Ins n r := fun x hx => ⟨(L.rows r h).lo x hx, (L.rows r h).hi x hx⟩
theorem ps_ch (L : Latin n sq) (hs : In n s) (he : In n e) : Ps (chD sq s e) := by
  have top := L.top
  have pr : ∀ d ∈ sq.map rowD, Ps d ∧ d.depth ≤ 1 ∧ d.bulk ≤ 40 := fun d hd => by
    obtain ⟨r, hr, rfl⟩ := List.mem_map.mp hd
    refine ⟨ps_row (row_ins L hr) (by omega) (by rw [(L.rows r hr).len]; omega), depth_list (depth_ints r), ?_⟩
    have := bulk_list (bulk_ints r)
    rw [List.length_map, (L.rows r hr).len] at this
    show (PyData.list (r.map .int)).bulk ≤ 40
    omega
  have p1 : pl (sqD sq) = true := pl_list fun d hd => (pr d hd).1.p
  have d1 : (sqD sq).depth ≤ 2 := depth_list fun d hd => (pr d hd).2.1
  have b1 : (sqD sq).bulk ≤ 40 * 41 := by
    have := bulk_list (ds := sq.map rowD) fun d hd => (pr d hd).2.2
    rw [List.length_map, L.len] at this
    exact Nat.le_trans this (Nat.mul_le_mul_right _ top)
  have si : s.natAbs < 10 ^ 12 := by have := hs.1; have := hs.2; omega
  have ei : e.natAbs < 10 ^ 12 := by have := he.1; have := he.2; omega
  have al : ∀ d ∈ [sqD sq, PyData.int s, PyData.int e], pl d = true ∧ d.depth ≤ 2 ∧ d.bulk ≤ 40 * 41 := fun d hd => by
    rcases List.mem_cons.mp hd with rfl | hd
    · exact ⟨p1, d1, b1⟩
    · rcases List.mem_cons.mp hd with rfl | hd
      · exact ⟨pl_int si, by rw [depth_int]; omega, by rw [bulk_int]; omega⟩
      · rw [List.mem_singleton.mp hd]
        exact ⟨pl_int ei, by rw [depth_int]; omega, by rw [bulk_int]; omega⟩
  refine ⟨pl_tuple fun d hd => (al d hd).1, ?_, ?_⟩
  · have := depth_tuple fun d hd => (al d hd).2.1
    show (PyData.tuple _).depth ≤ 60
    omega
  · have := bulk_tuple fun d hd => (al d hd).2.2
    show (PyData.tuple _).bulk ≤ 900000
    simp only [List.length_cons, List.length_nil] at this
    omega
theorem cut_to (xs : List PyData) {p : Nat} (h : p ≤ xs.length) : G.cutD xs none (some (p : Int)) = xs.take p := by
  unfold G.cutD
  rw [HT.sIx_nat, HT.sIx_none, List.drop_zero, Nat.sub_zero, Nat.min_eq_left h]
theorem cut_from (xs : List PyData) {p : Nat} (h : p ≤ xs.length) : G.cutD xs (some (p : Int)) none = xs.drop p := by
  unfold G.cutD
  rw [HT.sIx_nat, HT.sIx_none, Nat.min_eq_left h, List.take_of_length_le (by rw [List.length_drop]; exact Nat.le_refl _)]
/-- code[:place] + [x] + code[place + 1:] -/
def put (c : List Int) (p : Nat) (x : Int) : List Int := c.take p ++ [x] ++ c.drop (p + 1)
theorem put_ins {c : List Int} (h : Ins n c) {x : Int} (hx : In n x) (p : Nat) : Ins n (put c p x) := fun y hy => by
  unfold put at hy
  rcases List.mem_append.mp hy with hy | hy
  · rcases List.mem_append.mp hy with hy | hy
    · exact ins_take h p y hy
    · rw [List.mem_singleton.mp hy]; exact hx
  · exact ins_drop h _ y hy
theorem put_len {c : List Int} {p : Nat} (h : p < c.length) (x : Int) : (put c p x).length = c.length := by
  unfold put
  rw [List.length_append, List.length_append, List.length_take, List.length_drop, List.length_singleton]
  omega
theorem sl_to {ρ : Rh} {h : Hd} {i j : Nat} {c : List Int} {p : Nat} (e1 : ρ[i]? = some (some (.d (rowD c)))) (e2 : ρ[j]? = some (some (.d (.int p)))) (hp : p < c.length) : (SE.sl (SE.var i) SO.none (SO.some (SE.var j))).ev ρ h = .ok (.d (rowD (c.take p))) h := by
  have k : G.cutD (c.map .int) none (some (p : Int)) = (c.take p).map .int := by rw [cut_to _ (by rw [List.length_map]; omega), List.map_take]
  generalize (p : Int) = p' at e2 k
  simp [e1, e2, rowD, itemsD, k]
theorem sl_from {ρ : Rh} {h : Hd} {i j : Nat} {c : List Int} {p : Nat} (e1 : ρ[i]? = some (some (.d (rowD c)))) (e2 : ρ[j]? = some (some (.d (.int p)))) (hp : p < c.length) : (SE.sl (SE.var i) (SO.some (SE.op oAdd (SE.var j) (SE.int 1))) SO.none).ev ρ h = .ok (.d (rowD (c.drop (p + 1)))) h := by
  have k : G.cutD (c.map .int) (some ((p : Int) + 1)) none = (c.drop (p + 1)).map .int := by
    have := cut_from (c.map .int) (p := p + 1) (by rw [List.length_map]; omega)
    rw [show (((p + 1 : Nat)) : Int) = (p : Int) + 1 by omega] at this
    rw [this, List.map_drop]
  generalize (p : Int) = p' at e2 k
  simp [e1, e2, rowD, itemsD, k]
theorem add_rows {a b : List Int} (h : a.length + b.length ≤ 1000000) : addD (rowD a) (rowD b) = some (rowD (a ++ b)) := by
  have := add_lists (xs := a.map .int) (ys := b.map .int) (by rw [List.length_map, List.length_map]; exact h)
  rw [← List.map_append] at this
  exact this
theorem put_ev {ρ : Rh} {h : Hd} {i j : Nat} {c : List Int} {p : Nat} {x : Int} {m : SE} (e1 : ρ[i]? = some (some (.d (rowD c)))) (e2 : ρ[j]? = some (some (.d (.int p)))) (hp : p < c.length) (hl : c.length ≤ 1000) (em : m.ev ρ h = .ok (.d (rowD [x])) h) :
    (SE.op oAdd (SE.op oAdd (SE.sl (SE.var i) SO.none (SO.some (SE.var j))) m) (SE.sl (SE.var i) (SO.some (SE.op oAdd (SE.var j) (SE.int 1))) SO.none)).ev ρ h = .ok (.d (rowD (put c p x))) h := by
  rw [SE.op_ev, SE.op_ev, sl_to e1 e2 hp, Oc.bind_ok, em, Oc.bind_ok, fnV2, f2_2, oAdd_f, add_rows (by rw [List.length_take]; simp; omega)]
  dsimp only
  rw [Oc.bind_ok, sl_from e1 e2 hp, Oc.bind_ok, fnV2, f2_2, add_rows (by rw [List.length_append, List.length_take, List.length_drop]; simp; omega)]
  rfl
theorem one_lst {ρ : Rh} {h : Hd} {i : Nat} {x : Int} (e : ρ[i]? = some (some (.d (.int x)))) : (SE.lst (SL.cons (SE.var i) SL.nil)).ev ρ h = .ok (.d (rowD [x])) h := by
  simp [e, rowD]
end
end K47
end
section
set_option maxRecDepth 100000
set_option maxHeartbeats 2000000
/-! k47: the signs at a place -/
namespace K47
open PySem PySem.Spec PyProof.Rows L2 G N D
section
variable {sq : List (List Int)} {n : Nat} {s e : Int} {c : List Int} {p : Nat}
theorem fits_ev (L : Latin n sq) (hs : In n s) (he : In n e) (hc : Ins n c) (hl : c.length ≤ 1000) (hp : p < c.length) (g k4 k5 k6 k8 k9 k10 k12 k13 k14 k15 k16 : Option Vd) (h : Hd) :
    (SE.lc (SI.rng1 (SL.cons (SE.var 2) SL.nil)) (ST.name 16) (SB.test (SE.op oEq (SE.ix (SE.call F_law_states (SL.cons (SE.var 3) (SL.cons (SE.op oAdd (SE.op oAdd (SE.sl (SE.var 7) SO.none (SO.some (SE.var 11))) (SE.lst (SL.cons (SE.var 16) SL.nil))) (SE.sl (SE.var 7) (SO.some (SE.op oAdd (SE.var 11) (SE.int 1))) SO.none)) SL.nil))) (SE.un oNeg (SE.int 1))) (SE.ix (SE.var 3) (SE.int 2)))) (SE.var 16)).ev
      [g, some (.d (sqD sq)), some (.d (.int n)), some (.d (chD sq s e)), k4, k5, k6, some (.d (rowD c)), k8, k9, k10, some (.d (.int p)), k12, k13, k14, k15, k16] h = .ok (.d (rowD [wanted sq s e c p])) h := by
  have top := L.top
  have z := lc_of (it := SI.rng1 (SL.cons (SE.var 2) SL.nil)) (tg := ST.name 16) (c := (SB.test (SE.op oEq (SE.ix (SE.call F_law_states (SL.cons (SE.var 3) (SL.cons (SE.op oAdd (SE.op oAdd (SE.sl (SE.var 7) SO.none (SO.some (SE.var 11))) (SE.lst (SL.cons (SE.var 16) SL.nil))) (SE.sl (SE.var 7) (SO.some (SE.op oAdd (SE.var 11) (SE.int 1))) SO.none)) SL.nil))) (SE.un oNeg (SE.int 1))) (SE.ix (SE.var 3) (SE.int 2))))) (g := SE.var 16)
    (ρ := [g, some (.d (sqD sq)), some (.d (.int n)), some (.d (chD sq s e)), k4, k5, k6, some (.d (rowD c)), k8, k9, k10, some (.d (.int p)), k12, k13, k14, k15, k16]) (h := h) (h1 := h) (xs := SI.rng 0 (n : Int)) (isI' (wanted sq s e c p)) (fun x => x)
    (rng1_of (n := (n : Int)) rfl (by omega) (by omega)) (by rw [rng_len]; omega) fun x hx => by
    obtain ⟨i, rfl, hi⟩ := mem_rng hx
    have hi2 : In n (i : Int) := ⟨by omega, hi⟩
    refine ⟨_, rfl, ?_, fun _ => rfl⟩
    have w := wanted_iff L hs he hc p hi2
    have r : isI' (wanted sq s e c p) (.int i) = decide (fin sq s (put c p i) = e) := decide_eq_decide.mpr w.symm
    rw [r]
    generalize hρ : (List.set (wipeN [g, some (.d (sqD sq)), some (.d (.int n)), some (.d (chD sq s e)), k4, k5, k6, some (.d (rowD c)), k8, k9, k10, some (.d (.int p)), k12, k13, k14, k15, k16] (ST.name 16).vs) 16 (some (Vd.d (PyData.int i)))) = ρ
    have e3 : ρ[3]? = some (some (.d (chD sq s e))) := by rw [← hρ]; rfl
    have e7 : ρ[7]? = some (some (.d (rowD c))) := by rw [← hρ]; rfl
    have e11 : ρ[11]? = some (some (.d (.int p))) := by rw [← hρ]; rfl
    have e16 : ρ[16]? = some (some (.d (.int i))) := by rw [← hρ]; rfl
    clear hρ
    have pe := put_ev (h := h) e7 e11 hp hl (one_lst (h := h) e16)
    have ls := lstates_fd (s := s) (e := e) L hs (put_ins hc hi2 p) (by rw [put_len hp]; omega)
    have il := ix_last sq s (put c p i)
    have i2 : ixD (chD sq s e) (.int 2) = some (.int e) := rfl
    generalize put c p (i : Int) = pc at pe ls il ⊢
    rw [SB.test_ev, SE.op_ev, SE.ix_ev, SE.call_ev, SL.cons_ev, SE.var_ev, e3]
    dsimp only
    rw [Oc.bind_ok, SL.cons_ev, pe]
    simp [ls, il, e3, i2]
  rw [z, rng_filter (wanted_in L hs he hc p)]
  rfl
theorem place_ok (L : Latin n sq) (hs : In n s) (he : In n e) (hc : Ins n c) (hl : c.length ≤ 1000) (hp : p < c.length) (g k4 k5 k6 k8 k9 k10 k12 k13 k14 k15 k16 : Option Vd) (h : Hd) :
    L_law_right_v40_0.run [g, some (.d (sqD sq)), some (.d (.int n)), some (.d (chD sq s e)), k4, k5, k6, some (.d (rowD c)), k8, k9, k10, some (.d (.int p)), k12, k13, k14, k15, k16] h =
      .nx [g, some (.d (sqD sq)), some (.d (.int n)), some (.d (chD sq s e)), k4, k5, k6, some (.d (rowD c)), k8, k9, k10, some (.d (.int p)), some (.d (rowD [wanted sq s e c p])), k13, k14, k15, k16] h := by
  have top := L.top
  have hw := wanted_in L hs he hc p
  have w1 := sign_fd L hs he hc (by omega) hp
  have pw : Ps (rowD [wanted sq s e c p]) := ps_row (n := n) (fun x hx => by rw [List.mem_singleton.mp hx]; exact hw) (by omega) (by simp)
  have rp := repr_pl pw
  have i0 : ixD (rowD [wanted sq s e c p]) (.int 0) = some (.int (wanted sq s e c p)) := rfl
  have ft : fin sq s (put c p (wanted sq s e c p)) = e := (wanted_iff L hs he hc p hw).mpr rfl
  have rt := right_fd L hs he (put_ins hc hw p) (fun z => by have := put_len hp (wanted sq s e c p); rw [z] at this; simp at this; omega) (by rw [put_len hp]; omega)
  rw [ft] at rt
  have fe := fits_ev L hs he hc hl hp g k4 k5 k6 k8 k9 k10 k12 k13 k14 k15 k16 h
  generalize wanted sq s e c p = w at *
  have pe := put_ev (ρ := [g, some (.d (sqD sq)), some (.d (.int n)), some (.d (chD sq s e)), k4, k5, k6, some (.d (rowD c)), k8, k9, k10, some (.d (.int p)), some (.d (rowD [w])), k13, k14, k15, k16]) (h := h) (i := 7) (j := 11) (m := SE.var 12) (x := w) rfl rfl hp hl rfl
  refine seq_of (set_of fe) (seq_of (ρ1 := [g, some (.d (sqD sq)), some (.d (.int n)), some (.d (chD sq s e)), k4, k5, k6, some (.d (rowD c)), k8, k9, k10, some (.d (.int p)), some (.d (rowD [w])), k13, k14, k15, k16]) (h1 := h) (ite_f (h1 := h) ?_ rfl) (ite_f (h1 := h) ?_ rfl))
  · generalize (p : Int) = p' at w1
    generalize (n : Int) = n'
    generalize chD sq s e = ch at *
    have l1 : (PyData.list [.int w]) = rowD [w] := rfl
    simp [w1, l1, rp, i0, permL]
  · generalize put c p w = pc at pe rt
    generalize (n : Int) = n' at pe ⊢
    generalize (p : Int) = p' at pe ⊢
    generalize chD sq s e = ch at *
    show (SB.test (SE.op oNotB (SE.callK F_is_right_chain [1, 0] (SL.cons _ (SL.cons (SE.var 3) SL.nil))) (SE.bl true))).ev _ h = _
    rw [SB.test_ev, SE.op_ev, SE.callK_ev, SL.cons_ev]
    erw [pe]
    simp [permL, rt]
end
end K47
end
section
set_option maxRecDepth 100000
set_option maxHeartbeats 2000000
/-! k47: one turn with a drawn list -/
namespace K47
open PySem PySem.Spec PyProof.Rows L2 G N D
section
variable {sq : List (List Int)} {n : Nat} {s e : Int} {c : List Int} {p : Nat}
theorem one_rand {ρ : Rh} {R : Hd} {es es' : List PyData} {n : Int} {r : Int} (e0 : ρ[0]? = some (some (.r 0))) (e2 : ρ[2]? = some (some (.d (.int n)))) (e : FG F_law_random_v2 es [.int n] = some (.int r, es')) :
    (SE.callG F_law_random_v2 (SL.cons (SE.var 0) (SL.cons (SE.var 2) SL.nil))).ev ρ (.lst (es.map .d) :: R) = .ok (.d (.int r)) (.lst (es'.map .d) :: R) := by
  simp [e0, e2, e]
theorem draw_list (hn : 0 < n) (hn2 : n ≤ 40) {put : Vd → Rh → Option Rh} {ρ : Rh} {R : Hd} (hput : ∀ x, ∃ ρ1, put (.d x) ρ = some ρ1 ∧ ρ1[0]? = some (some (.r 0)) ∧ ρ1[2]? = some (some (.d (.int n)))) : ∀ (xs : List PyData) (out : List Int) (es : List PyData) (k : Nat), Gn k es → k + 4 * xs.length ≤ 99999999999 →
    ∃ c es', lcR put SB.yes.ev (SE.callG F_law_random_v2 (SL.cons (SE.var 0) (SL.cons (SE.var 2) SL.nil))).ev ρ xs (ownI out) (.lst (es.map .d) :: R) = .ok (ownI (out ++ c)) (.lst (es'.map .d) :: R) ∧ Ins n c ∧ c.length = xs.length ∧ Gn (k + 4 * xs.length) es'
  | [], out, es, k, g, _ => ⟨[], es, by rw [List.append_nil]; rfl, fun x hx => by simp at hx, rfl, g⟩
  | x :: xs, out, es, k, g, hk => by
    rw [List.length_cons] at hk
    obtain ⟨r, es1, e1, r0, r1, g1⟩ := rand2_ok g (by omega) (n := (n : Int)) (by omega) (by omega)
    obtain ⟨c, es', z, i, l, g2⟩ := draw_list hn hn2 hput xs (out ++ [r]) es1 (k + 4) g1 (by omega)
    obtain ⟨ρ1, h1, h2, h3⟩ := hput x
    refine ⟨r :: c, es', ?_, fun y hy => ?_, by rw [List.length_cons, l, List.length_cons], g2.mono (by rw [List.length_cons]; omega)⟩
    · rw [lcR_step h1 (one_rand (R := R) h2 h3 e1)]
      have e4 : ownI out ++ [.d (.int r)] = ownI (out ++ [r]) := (ownI_app out [r]).symm
      rw [e4, z, List.append_assoc]
      rfl
    · rcases List.mem_cons.mp hy with rfl | hy
      · exact ⟨r0, r1⟩
      · exact i y hy
theorem frzL_own (c : List Int) (h : Hd) : frzL h (ownI c) = some (c.map .int, h) := frzL_datas _
theorem code_ok (hn : 0 < n) (hn2 : n ≤ 40) {k : Nat} {es : List PyData} (g : Gn k es) (hk : k ≤ 999999999) (R : Hd) (a1 k3 k4 k5 k6 k7 k8 k9 k10 k11 k12 k13 k14 k15 k16 : Option Vd) : ∃ c es',
    (SE.lc (SI.rng1 (SL.cons (SE.op oAdd (SE.int 1) (SE.callG F_law_random_v2 (SL.cons (SE.var 0) (SL.cons (SE.int 8) SL.nil)))) SL.nil)) (ST.name 11) SB.yes (SE.callG F_law_random_v2 (SL.cons (SE.var 0) (SL.cons (SE.var 2) SL.nil)))).ev
      [some (.r 0), a1, some (.d (.int n)), k3, k4, k5, k6, k7, k8, k9, k10, k11, k12, k13, k14, k15, k16] (.lst (es.map .d) :: R) = .ok (.d (rowD c)) (.lst (es'.map .d) :: R) ∧ Ins n c ∧ c ≠ [] ∧ c.length ≤ 8 ∧ Gn (k + 40) es' := by
  obtain ⟨t, es1, e1, t0, t1, g1⟩ := rand2_ok g (by omega) (n := 8) (by decide) (by decide)
  obtain ⟨c, es', z, i, l, g2⟩ := draw_list (put := (ST.name 11).put) (ρ := wipeN [some (.r 0), a1, some (.d (.int n)), k3, k4, k5, k6, k7, k8, k9, k10, k11, k12, k13, k14, k15, k16] (ST.name 11).vs) (R := R) hn hn2 (fun x => ⟨_, rfl, rfl, rfl⟩) (SI.rng 0 (1 + t)) [] es1 (k + 4) g1 (by rw [rng_len]; omega)
  rw [rng_len] at l g2
  refine ⟨c, es', ?_, i, fun z => by rw [z] at l; simp at l; omega, by omega, g2.mono (by omega)⟩
  have it : (SI.rng1 (SL.cons (SE.op oAdd (SE.int 1) (SE.callG F_law_random_v2 (SL.cons (SE.var 0) (SL.cons (SE.int 8) SL.nil)))) SL.nil)).ev [some (.r 0), a1, some (.d (.int n)), k3, k4, k5, k6, k7, k8, k9, k10, k11, k12, k13, k14, k15, k16] (.lst (es.map .d) :: R) = .ok (SI.rng 0 (1 + t)) (.lst (es1.map .d) :: R) := rng1_of (n := 1 + t) (by simp [e1]) (by omega) (by omega)
  have z' := z
  rw [List.nil_append] at z'
  rw [SE.lc_ev, it, Oc.bind_ok, if_pos (by rw [rng_len]; omega)]
  show (match lcR _ _ _ _ _ (ownI []) _ with | .ok out h2 => _ | _ => _) = _
  rw [z']
  dsimp only
  rw [frzL_own]
  rfl
theorem repr_own {ρ : Rh} {h : Hd} {i m : Nat} {ns : List Int} (e1 : ρ[i]? = some (some (.r m))) (e : h[m]? = some (.lst (ownI ns))) (ps : Ps (rowD ns)) : (SE.cb bRepr (SL.cons (SE.var i) SL.nil)).ev ρ h = .ok (.d (.str (rowD ns).shown)) h := by
  have l : lookL h [.r m] = some [rowD ns] := by
    unfold lookL
    rw [mapO, look_own e]
    rfl
  rw [SE.cb_ev, SL.cons_ev, SE.var_ev, e1]
  exact fnV_look rfl l (repr_pl ps) rfl
theorem places (L : Latin n sq) (hs : In n s) (he : In n e) (hc : Ins n c) (hl : c.length ≤ 1000) (g k4 k5 k6 k8 k9 k10 k13 k14 k15 k16 : Option Vd) (h : Hd) : ∀ (xs : List PyData) (u v : Option Vd), (∀ x ∈ xs, ∃ p : Nat, x = .int p ∧ p < c.length) →
    ∃ u' v', SS.forR (ST.name 11).put L_law_right_v40_0.run xs [g, some (.d (sqD sq)), some (.d (.int n)), some (.d (chD sq s e)), k4, k5, k6, some (.d (rowD c)), k8, k9, k10, u, v, k13, k14, k15, k16] h =
      .nx [g, some (.d (sqD sq)), some (.d (.int n)), some (.d (chD sq s e)), k4, k5, k6, some (.d (rowD c)), k8, k9, k10, u', v', k13, k14, k15, k16] h
  | [], u, v, _ => ⟨u, v, rfl⟩
  | x :: xs, u, v, hx => by
    obtain ⟨p, rfl, hp⟩ := hx x (List.mem_cons_self ..)
    obtain ⟨u', v', z⟩ := places L hs he hc hl g k4 k5 k6 k8 k9 k10 k13 k14 k15 k16 h xs (some (.d (.int p))) (some (.d (rowD [wanted sq s e c p]))) fun y hy => hx y (List.mem_cons_of_mem _ hy)
    exact ⟨u', v', forR_step rfl (place_ok L hs he hc hl hp g k4 k5 k6 k8 k9 k10 v k13 k14 k15 k16 h) z⟩
theorem turn_ok (L : Latin n sq) (hs : In n s) (he : In n e) {k : Nat} {es : List PyData} (g : Gn k es) (hk : k ≤ 999999999) (R : Hd) (k4 k5 k6 k7 k8 k9 k10 k11 k12 k13 k14 k15 k16 : Option Vd) : ∃ R' es' k7' k8' k9' k10' k11' k12',
    L_law_right_v40_1.run [some (.r 0), some (.d (sqD sq)), some (.d (.int n)), some (.d (chD sq s e)), k4, k5, k6, k7, k8, k9, k10, k11, k12, k13, k14, k15, k16] (.lst (es.map .d) :: R) =
      .nx [some (.r 0), some (.d (sqD sq)), some (.d (.int n)), some (.d (chD sq s e)), k4, k5, k6, k7', k8', k9', k10', k11', k12', k13, k14, k15, k16] (.lst (es'.map .d) :: R') ∧ Gn (k + 40) es' := by
  have top := L.top
  obtain ⟨c, es1, ce, hc, hn, hl, g1⟩ := code_ok (n := n) (by have := L.two; omega) L.top g hk R (some (.d (sqD sq))) (some (.d (chD sq s e))) k4 k5 k6 k7 k8 k9 k10 k11 k12 k13 k14 k15 k16
  have hst : Ins n (states sq s c) := states_in L hs hc
  have psc := ps_row hc (by omega) (by omega)
  have pss := ps_row hst (by omega) (by rw [states_len]; omega)
  have rc := repr_pl psc
  have rs := repr_pl pss
  have ls := lstates_fd (s := s) (e := e) L hs hc (by omega)
  have sm := states_of_fm L hs he hc hn (by omega)
  have sd := states_of_fd L hs he hc hn (by omega)
  have rt := right_fd L hs he hc hn (by omega)
  have il := ix_last sq s c
  have i2 : ixD (chD sq s e) (.int 2) = some (.int e) := rfl
  have eqs := ne_pl pss.pl
  have rb : reprD [.bool (decide (fin sq s c = e))] = some (.str (PyData.bool (decide (fin sq s c = e))).shown) := repr_pl ⟨rfl, by rw [PyData.depth] <;> simp, by rw [PyData.bulk] <;> simp⟩
  have lr := len_row c
  obtain ⟨u', v', zp⟩ := places L hs he hc (by omega) (some (.r 0)) k4 k5 k6 (some (.d (rowD (states sq s c)))) (some (.d (.str (rowD c).shown))) (some (.r (R.length + 1))) k13 k14 k15 k16 (.lst (es1.map .d) :: (R ++ [.lst (ownI (states sq s c) ++ [.d .none])])) (SI.rng 0 (c.length : Int)) k11 k12 fun x hx => by
    obtain ⟨i, rfl, hi⟩ := mem_rng hx
    exact ⟨i, rfl, by omega⟩
  refine ⟨R ++ [.lst (ownI (states sq s c) ++ [.d .none])], es1, some (.d (rowD c)), some (.d (rowD (states sq s c))), some (.d (.str (rowD c).shown)), some (.r (R.length + 1)), u', v', ?_, g1⟩
  have sl : (ownI (states sq s c)).length < 1000000 := by rw [own_len, states_len]; omega
  refine seq_of (set_of ce) (seq_of (ρ1 := [some (.r 0), some (.d (sqD sq)), some (.d (.int n)), some (.d (chD sq s e)), k4, k5, k6, some (.d (rowD c)), some (.d (rowD (states sq s c))), some (.d (.str (rowD c).shown)), k10, k11, k12, k13, k14, k15, k16]) (h1 := .lst (es1.map .d) :: R) ?_
    (seq_of (ρ1 := [some (.r 0), some (.d (sqD sq)), some (.d (.int n)), some (.d (chD sq s e)), k4, k5, k6, some (.d (rowD c)), some (.d (rowD (states sq s c))), some (.d (.str (rowD c).shown)), some (.r (R.length + 1)), k11, k12, k13, k14, k15, k16]) (h1 := .lst (es1.map .d) :: (R ++ [.lst (ownI (states sq s c))])) ?_
    (seq_of (ρ1 := [some (.r 0), some (.d (sqD sq)), some (.d (.int n)), some (.d (chD sq s e)), k4, k5, k6, some (.d (rowD c)), some (.d (rowD (states sq s c))), some (.d (.str (rowD c).shown)), some (.r (R.length + 1)), k11, k12, k13, k14, k15, k16]) (h1 := .lst (es1.map .d) :: (R ++ [.lst (ownI (states sq s c))])) (ite_f (h1 := .lst (es1.map .d) :: (R ++ [.lst (ownI (states sq s c))])) ?_ rfl)
    (seq_of (ρ1 := [some (.r 0), some (.d (sqD sq)), some (.d (.int n)), some (.d (chD sq s e)), k4, k5, k6, some (.d (rowD c)), some (.d (rowD (states sq s c))), some (.d (.str (rowD c).shown)), some (.r (R.length + 1)), k11, k12, k13, k14, k15, k16]) (h1 := .lst (es1.map .d) :: (R ++ [.lst (ownI (states sq s c) ++ [.d .none])])) ?_
    (seq_of (for_of (rng1_of (n := (c.length : Int)) ?_ (by omega) (by omega)) zp) (ite_f (h1 := .lst (es1.map .d) :: (R ++ [.lst (ownI (states sq s c) ++ [.d .none])])) ?_ rfl))))))
  · generalize chD sq s e = ch at *
    generalize sqD sq = sd' at *
    generalize (n : Int) = n' at *
    simp [ls, rc]
  · generalize chD sq s e = ch at *
    generalize sqD sq = sd' at *
    generalize (n : Int) = n' at *
    simp [sm, ownI]
  · have ro := repr_own (ρ := [some (.r 0), some (.d (sqD sq)), some (.d (.int n)), some (.d (chD sq s e)), k4, k5, k6, some (.d (rowD c)), some (.d (rowD (states sq s c))), some (.d (.str (rowD c).shown)), some (.r (R.length + 1)), k11, k12, k13, k14, k15, k16]) (h := .lst (es1.map .d) :: (R ++ [.lst (ownI (states sq s c))])) (i := 10) (m := R.length + 1) (ns := states sq s c) rfl (by simp) pss
    rw [SB.or_ev, SB.test_ev, SE.op_ev, ro]
    clear ro
    generalize chD sq s e = ch at *
    generalize sqD sq = sd' at *
    generalize (n : Int) = n' at *
    simp [rs, sd, eqs, rt, rb, il, i2, permL]
  · generalize chD sq s e = ch at *
    generalize sqD sq = sd' at *
    generalize (n : Int) = n' at *
    simp [ownL, sl]
  · generalize chD sq s e = ch at *
    generalize sqD sq = sd' at *
    generalize (n : Int) = n' at *
    generalize (c.length : Int) = cl at *
    simp [lr]
  · generalize chD sq s e = ch at *
    generalize sqD sq = sd' at *
    generalize (n : Int) = n' at *
    simp [rc, sd, eqs]
end
end K47
end
section
set_option maxRecDepth 100000
set_option maxHeartbeats 2000000
/-! k47: how many lists of a length are right -/
namespace K47
open PySem PySem.Spec PyProof.Rows L2 G N D
section
variable {sq : List (List Int)} {n : Nat} {s e : Int}
theorem it_all {ρ : Rh} {h : Hd} {a b : Int} {xs : List PyData} (e2 : ρ[2]? = some (some (.d (.int a)))) (e13 : ρ[13]? = some (some (.d (.int b)))) (al : FD F_law_all_codes [.int a, .int b] = some (.list xs)) : (SI.seq (SE.call F_law_all_codes (SL.cons (SE.var 2) (SL.cons (SE.var 13) SL.nil)))).ev ρ h = .ok xs h := by
  simp [e2, e13, al, seqD]
theorem is_right_b {ρ : Rh} {h : Hd} {ch c : PyData} {b : Bool} (e3 : ρ[3]? = some (some (.d ch))) (e7 : ρ[7]? = some (some (.d c))) (r : FD F_is_right_chain [ch, c] = some (.bool b)) : (SB.val (SE.call F_is_right_chain (SL.cons (SE.var 3) (SL.cons (SE.var 7) SL.nil)))).ev ρ h = .ok b h := by
  simp [e3, e7, r]
theorem last_b {ρ : Rh} {h : Hd} {ch : PyData} {a b b1 q : Int} (e2 : ρ[2]? = some (some (.d (.int a)))) (e3 : ρ[3]? = some (some (.d ch))) (e13 : ρ[13]? = some (some (.d (.int b)))) (mf : FD F_how_many_right_lists [ch, .int b] = some (.int q)) (sb : b - 1 = b1) (p0 : FD F_law_power [.int a, .int b1] = some (.int q)) (rp : reprD [.int q] = some (.str (PyData.int q).shown)) :
    (SB.or (SB.test (SE.op oNe (SE.cb bRepr (SL.cons (SE.call F_how_many_right_lists (SL.cons (SE.var 3) (SL.cons (SE.var 13) SL.nil))) SL.nil)) (SE.cb bRepr (SL.cons (SE.call F_law_power (SL.cons (SE.var 2) (SL.cons (SE.op oSub (SE.var 13) (SE.int 1)) SL.nil))) SL.nil)))) (SB.test (SE.op oNe (SE.callK F_how_many_right_lists [1, 0] (SL.cons (SE.var 13) (SL.cons (SE.var 3) SL.nil))) (SE.call F_law_power (SL.cons (SE.var 2) (SL.cons (SE.op oSub (SE.var 13) (SE.int 1)) SL.nil)))))).ev ρ h = .ok false h := by
  simp [e2, e3, e13, mf, sb, p0, rp, permL]
theorem lt_b {ρ : Rh} {h : Hd} {a b q : Int} (e2 : ρ[2]? = some (some (.d (.int a)))) (e13 : ρ[13]? = some (some (.d (.int b)))) (p1 : FD F_law_power [.int a, .int b] = some (.int q)) : (SB.test (SE.op oLt (SE.call F_law_power (SL.cons (SE.var 2) (SL.cons (SE.var 13) SL.nil))) (SE.int 130))).ev ρ h = .ok (decide (q < 130)) h := by
  simp [e2, e13, p1]
theorem len_b {ρ : Rh} {h : Hd} {ch rl : PyData} {b q : Int} (e3 : ρ[3]? = some (some (.d ch))) (e13 : ρ[13]? = some (some (.d (.int b)))) (e14 : ρ[14]? = some (some (.d rl))) (mf : FD F_how_many_right_lists [ch, .int b] = some (.int q)) (ln : lenD [rl] = some (.int q)) : (SB.test (SE.op oNe (SE.cb bLen (SL.cons (SE.var 14) SL.nil)) (SE.call F_how_many_right_lists (SL.cons (SE.var 3) (SL.cons (SE.var 13) SL.nil))))).ev ρ h = .ok false h := by
  simp [e3, e13, e14, mf, ln]
theorem rights_ev (L : Latin n sq) (hs : In n s) (he : In n e) {t : Nat} (ht : t ≤ 3) (hp : n ^ (t + 1) ≤ 1000000) (g k4 k5 k6 k7 k8 k9 k10 k11 k12 k14 k15 k16 : Option Vd) (h : Hd) :
    (SE.lc (SI.seq (SE.call F_law_all_codes (SL.cons (SE.var 2) (SL.cons (SE.var 13) SL.nil)))) (ST.name 7) (SB.val (SE.call F_is_right_chain (SL.cons (SE.var 3) (SL.cons (SE.var 7) SL.nil)))) (SE.var 7)).ev
      [g, some (.d (sqD sq)), some (.d (.int n)), some (.d (chD sq s e)), k4, k5, k6, k7, k8, k9, k10, k11, k12, some (.d (.int (t + 1 : Nat))), k14, k15, k16] h = .ok (.d (.list (((allC n (t + 1)).filter fun c => decide (fin sq s c = e)).map rowD))) h := by
  have al := all_fd (n := n) (by have := L.two; omega) L.top (t := t + 1) (by omega) hp
  have z := lc_of (it := SI.seq (SE.call F_law_all_codes (SL.cons (SE.var 2) (SL.cons (SE.var 13) SL.nil)))) (tg := ST.name 7) (c := SB.val (SE.call F_is_right_chain (SL.cons (SE.var 3) (SL.cons (SE.var 7) SL.nil)))) (g := SE.var 7)
    (ρ := [g, some (.d (sqD sq)), some (.d (.int n)), some (.d (chD sq s e)), k4, k5, k6, k7, k8, k9, k10, k11, k12, some (.d (.int (t + 1 : Nat))), k14, k15, k16]) (h := h) (h1 := h) (xs := (allC n (t + 1)).map rowD) (fun x => decide (fin sq s (unD x) = e)) (fun x => x)
    (it_all rfl rfl al) (by rw [List.length_map, allC_len]; exact hp) fun x hx => by
    obtain ⟨c, hc, rfl⟩ := List.mem_map.mp hx
    obtain ⟨l, i⟩ := allC_mem hc
    have r := right_fd L hs he i (fun z => by rw [z] at l; simp at l) (by omega)
    refine ⟨_, rfl, ?_, fun _ => rfl⟩
    rw [unD_row]
    exact is_right_b rfl rfl r
  rw [z]
  have e1 : ((((allC n (t + 1)).map rowD).filter fun x => decide (fin sq s (unD x) = e)).map fun x => x) = ((allC n (t + 1)).filter fun c => decide (fin sq s c = e)).map rowD := by
    rw [List.map_id', List.filter_map]
    refine congrArg (List.map rowD) (List.filter_congr fun c _ => ?_)
    show decide (fin sq s (unD (rowD c)) = e) = _
    rw [unD_row]
  rw [e1]
theorem length_ok (L : Latin n sq) (hs : In n s) (he : In n e) {t : Nat} (ht : t ≤ 3) (g k4 k5 k6 k7 k8 k9 k10 k11 k12 k14 k15 k16 : Option Vd) (h : Hd) : ∃ k14',
    L_law_right_v40_2.run [g, some (.d (sqD sq)), some (.d (.int n)), some (.d (chD sq s e)), k4, k5, k6, k7, k8, k9, k10, k11, k12, some (.d (.int (t + 1 : Nat))), k14, k15, k16] h =
      .nx [g, some (.d (sqD sq)), some (.d (.int n)), some (.d (chD sq s e)), k4, k5, k6, k7, k8, k9, k10, k11, k12, some (.d (.int (t + 1 : Nat))), k14', k15, k16] h := by
  have top := L.top
  have p1 := lpower_fd (b := (n : Int)) (by omega) (by omega) (t := t + 1) (by omega)
  have p0 := lpower_fd (b := (n : Int)) (by omega) (by omega) (t := t) (by omega)
  have mf := many_fd L hs he (t := t) (by omega)
  have sb : ((t + 1 : Nat) : Int) - 1 = (t : Int) := by omega
  have small : ((n : Int) ^ t).natAbs < 10 ^ 12 := by
    rw [Int.natAbs_pow, Int.natAbs_natCast]
    exact Nat.lt_of_le_of_lt (Nat.le_trans (Nat.pow_le_pow_left top t) (Nat.pow_le_pow_right (by decide) ht)) (by decide)
  have rp : reprD [.int ((n : Int) ^ t)] = some (.str (PyData.int ((n : Int) ^ t)).shown) := repr_pl ⟨pl_int small, by rw [depth_int]; omega, by rw [bulk_int]; omega⟩
  have last : ∀ k14', (SS.ite (SB.or (SB.test (SE.op oNe (SE.cb bRepr (SL.cons (SE.call F_how_many_right_lists (SL.cons (SE.var 3) (SL.cons (SE.var 13) SL.nil))) SL.nil)) (SE.cb bRepr (SL.cons (SE.call F_law_power (SL.cons (SE.var 2) (SL.cons (SE.op oSub (SE.var 13) (SE.int 1)) SL.nil))) SL.nil)))) (SB.test (SE.op oNe (SE.callK F_how_many_right_lists [1, 0] (SL.cons (SE.var 13) (SL.cons (SE.var 3) SL.nil))) (SE.call F_law_power (SL.cons (SE.var 2) (SL.cons (SE.op oSub (SE.var 13) (SE.int 1)) SL.nil)))))) (SS.ret (SE.bl false)) SS.nil).run [g, some (.d (sqD sq)), some (.d (.int n)), some (.d (chD sq s e)), k4, k5, k6, k7, k8, k9, k10, k11, k12, some (.d (.int (t + 1 : Nat))), k14', k15, k16] h = .nx [g, some (.d (sqD sq)), some (.d (.int n)), some (.d (chD sq s e)), k4, k5, k6, k7, k8, k9, k10, k11, k12, some (.d (.int (t + 1 : Nat))), k14', k15, k16] h := fun k14' => by
    exact ite_f (h1 := h) (last_b rfl rfl rfl mf sb p0 rp) rfl
  by_cases c : (n : Int) ^ (t + 1) < 130
  · have hp : n ^ (t + 1) ≤ 1000000 := by
      have : ((n ^ (t + 1) : Nat) : Int) < 130 := by rw [Int.natCast_pow]; exact c
      omega
    have re := rights_ev L hs he ht hp g k4 k5 k6 k7 k8 k9 k10 k11 k12 k14 k15 k16 h
    have ct := count L hs he t
    have ln : lenD [.list (((allC n (t + 1)).filter fun c => decide (fin sq s c = e)).map rowD)] = some (.int ((n : Int) ^ t)) := by
      show some (PyData.int _) = _
      rw [List.length_map, ct, Int.natCast_pow]
    generalize (PyData.list (((allC n (t + 1)).filter fun c => decide (fin sq s c = e)).map rowD)) = rl at re ln
    refine ⟨some (.d rl), seq_of (ρ1 := [g, some (.d (sqD sq)), some (.d (.int n)), some (.d (chD sq s e)), k4, k5, k6, k7, k8, k9, k10, k11, k12, some (.d (.int (t + 1 : Nat))), some (.d rl), k15, k16]) (h1 := h) (ite_t (h1 := h) ((lt_b rfl rfl p1).trans (by rw [decide_eq_true c])) (seq_of (set_of re) (ite_f (h1 := h) (len_b rfl rfl rfl mf ln) rfl))) (last _)⟩
  · refine ⟨k14, seq_of (ρ1 := [g, some (.d (sqD sq)), some (.d (.int n)), some (.d (chD sq s e)), k4, k5, k6, k7, k8, k9, k10, k11, k12, some (.d (.int (t + 1 : Nat))), k14, k15, k16]) (h1 := h) (ite_f (h1 := h) ((lt_b rfl rfl p1).trans (by rw [decide_eq_false c])) rfl) (last _)⟩
end
end K47
end
section
set_option maxRecDepth 100000
set_option maxHeartbeats 2000000
/-! k50: ways; what a row adds -/
namespace K50
open PySem PySem.Spec PyProof.Rows L2 G N D K47
theorem ways0 {ch : PyData} {x y : Int} : FD F_how_many_ways [ch, .int x, .int y, .int 0] = some (.int (if x = y then 1 else 0)) := by
  refine fd_of (h1 := []) (runDef_rt rfl (seq_ret (ite_t (h1 := []) (by simp [startN]) (ret_of ?_))))
  by_cases c : x = y <;> simp [startN, c]
theorem waysS {ch sd : PyData} {x y t m q : Int} (t0 : ¬ t = 0) (i : ixD ch (.int 0) = some sd) (l : lenD [sd] = some (.int m)) (p : FD F_power [.int m, .int (t - 1)] = some (.int q)) : FD F_how_many_ways [ch, .int x, .int y, .int t] = some (.int q) := by
  refine fd_of (h1 := []) (runDef_rt rfl (seq_of (ρ1 := startN 4 [.d ch, .d (.int x), .d (.int y), .d (.int t)]) (h1 := []) (ite_f (h1 := []) (by simp [startN, t0]) rfl) (ret_of ?_)))
  simp [startN, i, l, p]
def ways (n : Nat) (x y : Int) : Nat → Int
  | 0 => if x = y then 1 else 0
  | t + 1 => (n : Int) ^ t
theorem ways_fd {sq : List (List Int)} {n : Nat} {s e x y : Int} (L : Latin n sq) {t : Nat} (ht : t ≤ 100) : FD F_how_many_ways [chD sq s e, .int x, .int y, .int t] = some (.int (ways n x y t)) := by
  cases t with
  | zero => exact ways0
  | succ t =>
    have p := power_fd (b := (n : Int)) (by omega) (by have := L.top; omega) (t := t) (by omega)
    exact waysS (by omega) rfl (len_sq L) (by rw [show ((t + 1 : Nat) : Int) - 1 = (t : Int) by omega]; exact p)
/-- one more at each place of a row -/
def bump (many : Int) (l : List Int) (ys : List Int) : List Int := ys.foldl (fun l y => l.set y.toNat (l.getD y.toNat 0 + many)) l
theorem bump_len (many : Int) : ∀ (ys l : List Int), (bump many l ys).length = l.length
  | [], _ => rfl
  | y :: ys, l => by
    show (bump many (l.set y.toNat (l.getD y.toNat 0 + many)) ys).length = _
    rw [bump_len many ys, List.length_set]
theorem bump_at (many : Int) {n : Nat} : ∀ (ys l : List Int), l.length = n → ys.Nodup → (∀ y ∈ ys, In n y) → ∀ j, j < n → (bump many l ys).getD j 0 = l.getD j 0 + if (j : Int) ∈ ys then many else 0
  | [], l, _, _, _, j, _ => by simp [bump]
  | y :: ys, l, hl, nd, hy, j, hj => by
    obtain ⟨n1, n2⟩ := List.nodup_cons.mp nd
    have y0 := hy y (List.mem_cons_self ..)
    have ih := bump_at many ys (l.set y.toNat (l.getD y.toNat 0 + many)) (by rw [List.length_set]; exact hl) n2 (fun z hz => hy z (List.mem_cons_of_mem _ hz)) j hj
    show (bump many (l.set y.toNat (l.getD y.toNat 0 + many)) ys).getD j 0 = _
    rw [ih]
    by_cases c : (j : Int) = y
    · have e : y.toNat = j := by omega
      have no : ¬ (j : Int) ∈ ys := by rw [c]; exact n1
      rw [if_neg no, if_pos (by rw [c]; exact List.mem_cons_self ..), e]
      have hj' : j < l.length := by omega
      simp [List.getD_eq_getElem?_getD, hj']
    · have ne : y.toNat ≠ j := by have := y0.1; omega
      have e1 : (l.set y.toNat (l.getD y.toNat 0 + many)).getD j 0 = l.getD j 0 := by
        rw [List.getD_eq_getElem?_getD, List.getElem?_set_ne ne, ← List.getD_eq_getElem?_getD]
      rw [e1]
      by_cases m : (j : Int) ∈ ys
      · rw [if_pos m, if_pos (List.mem_cons_of_mem _ m)]
      · rw [if_neg m, if_neg fun z => (List.mem_cons.mp z).elim c m]
end K50
end
section
set_option maxRecDepth 100000
set_option maxHeartbeats 2000000
/-! k50: which exchanges pass, as the law lists them -/
namespace K50
open PySem PySem.Spec PyProof.Rows L2 G N D K47
def hit (sq : List (List Int)) (x a b : Int) : Bool := decide (at2 sq (at2 sq x a) b = at2 sq (at2 sq x b) a)
def trip (x a b : Int) : PyData := .tuple [.int x, .int a, .int b]
def rgI (lo n : Nat) : List Int := (List.range (n - lo)).map fun (i : Nat) => (lo : Int) + (i : Int)
theorem rng_rgI (lo n : Nat) : SI.rng (lo : Int) (n : Int) = (rgI lo n).map .int := by
  unfold SI.rng rgI
  rw [List.map_map, show ((n : Int) - (lo : Int)).toNat = n - lo by omega]
  rfl
theorem rgI_in {lo n : Nat} : Ins n (rgI lo n) := fun x hx => by
  obtain ⟨i, hi, rfl⟩ := List.mem_map.mp hx
  have := List.mem_range.mp hi
  exact ⟨by omega, by omega⟩
theorem rgI_len (lo n : Nat) : (rgI lo n).length = n - lo := by unfold rgI; rw [List.length_map, List.length_range]
def sw3 (sq : List (List Int)) (x a : Int) (bs : List Int) : List PyData := (bs.filter (hit sq x a)).map (trip x a)
theorem sw3_len (sq : List (List Int)) (x a : Int) (bs : List Int) : (sw3 sq x a bs).length ≤ bs.length := by unfold sw3; rw [List.length_map]; exact List.length_filter_le ..
section
variable {sq : List (List Int)} {n : Nat}
theorem hit_ev (L : Latin n sq) {x a b : Int} (hx : In n x) (ha : In n a) (hb : In n b) (o : Option Vd) (h : Hd) :
    (SB.test (SE.op oEq (SE.ix (SE.ix (SE.var 0) (SE.ix (SE.ix (SE.var 0) (SE.var 2)) (SE.var 3))) (SE.var 4)) (SE.ix (SE.ix (SE.var 0) (SE.ix (SE.ix (SE.var 0) (SE.var 2)) (SE.var 4))) (SE.var 3)))).ev [some (.d (sqD sq)), o, some (.d (.int x)), some (.d (.int a)), some (.d (.int b))] h = .ok (hit sq x a b) h := by
  have i1 := ix_sq L hx
  have i2 := ix_at L hx ha
  have i3 := ix_at L hx hb
  have h1 := at_in L hx ha
  have h2 := at_in L hx hb
  have i4 := ix_sq L h1
  have i5 := ix_sq L h2
  have i6 := ix_at L h1 hb
  have i7 := ix_at L h2 ha
  simp [i1, i2, i3, i4, i5, i6, i7, hit]
theorem lsw0 (L : Latin n sq) {x a : Int} (hx : In n x) (ha : In n a) : ∀ (bs : List Int) (out : List PyData) (v : Option Vd), Ins n bs → out.length + bs.length ≤ 500000 →
    ∃ v', SS.forR (ST.name 4).put L_law_swaps_0.run (bs.map .int) [some (.d (sqD sq)), some (.r 0), some (.d (.int x)), some (.d (.int a)), v] [.lst (out.map .d)] = .nx [some (.d (sqD sq)), some (.r 0), some (.d (.int x)), some (.d (.int a)), v'] [.lst ((out ++ sw3 sq x a bs).map .d)]
  | [], out, v, _, _ => ⟨v, by simp [sw3, SS.forR]⟩
  | b :: bs, out, v, h, hl => by
    have hb := h b (List.mem_cons_self ..)
    have ht : Ins n bs := fun y hy => h y (List.mem_cons_of_mem _ hy)
    rw [List.length_cons] at hl
    have he := hit_ev L hx ha hb (some (.r 0)) [.lst (out.map .d)]
    cases c : hit sq x a b with
    | true =>
      obtain ⟨v', z⟩ := lsw0 L hx ha bs (out ++ [trip x a b]) (some (.d (.int b))) ht (by rw [List.length_append]; simp; omega)
      refine ⟨v', forR_step rfl (ite_t (he.trans (by rw [c])) (drop_of (x := .d .none) (h1 := [.lst ((out ++ [trip x a b]).map .d)]) ?_)) ?_⟩
      · have lim : out.length < 1000000 := by omega
        simp [ownL, lim, trip]
      · refine z.trans ?_
        unfold sw3
        rw [List.filter_cons_of_pos c, List.map_cons, List.append_assoc]
        rfl
    | false =>
      obtain ⟨v', z⟩ := lsw0 L hx ha bs out (some (.d (.int b))) ht (by omega)
      refine ⟨v', forR_step rfl (ite_f (he.trans (by rw [c])) rfl) ?_⟩
      refine z.trans ?_
      unfold sw3
      rw [List.filter_cons_of_neg (by simp [c])]
def sw2 (sq : List (List Int)) (n : Nat) (x : Int) (as : List Nat) : List PyData := as.flatMap fun (a : Nat) => sw3 sq x (a : Int) (rgI (a + 1) n)
theorem rng2_ev {sd : PyData} {m a : Int} {o x v : Option Vd} {h : Hd} (l : lenD [sd] = some (.int m)) : (SL.cons (SE.op oAdd (SE.var 3) (SE.int 1)) (SL.cons (SE.cb bLen (SL.cons (SE.var 0) SL.nil)) SL.nil)).ev [some (.d sd), o, x, some (.d (.int a)), v] h = .ok [.d (.int (a + 1)), .d (.int m)] h := by
  simp [l]
theorem lsw1 (L : Latin n sq) {x : Int} (hx : In n x) : ∀ (as : List Nat) (out : List PyData) (u v : Option Vd), (∀ a ∈ as, a < n) → out.length + as.length * n ≤ 500000 →
    ∃ u' v', SS.forR (ST.name 3).put L_law_swaps_1.run (as.map fun (a : Nat) => .int a) [some (.d (sqD sq)), some (.r 0), some (.d (.int x)), u, v] [.lst (out.map .d)] = .nx [some (.d (sqD sq)), some (.r 0), some (.d (.int x)), u', v'] [.lst ((out ++ sw2 sq n x as).map .d)]
  | [], out, u, v, _, _ => ⟨u, v, by simp [sw2, SS.forR]⟩
  | a :: as, out, u, v, h, hl => by
    have ha := h a (List.mem_cons_self ..)
    have top := L.top
    rw [List.length_cons, Nat.succ_mul] at hl
    have sl := sw3_len sq x a (rgI (a + 1) n)
    rw [rgI_len] at sl
    obtain ⟨v1, z1⟩ := lsw0 L hx (a := (a : Int)) ⟨by omega, by omega⟩ (rgI (a + 1) n) out v rgI_in (by rw [rgI_len]; omega)
    obtain ⟨u2, v2, z2⟩ := lsw1 L hx as (out ++ sw3 sq x a (rgI (a + 1) n)) (some (.d (.int a))) v1 (fun y hy => h y (List.mem_cons_of_mem _ hy)) (by rw [List.length_append]; omega)
    refine ⟨u2, v2, forR_step rfl (for_of (rng2_of (l := (a : Int) + 1) (n := (n : Int)) (rng2_ev (len_sq L)) (by omega) (by omega) (by omega) (by omega)) ((by rw [show ((a : Int) + 1) = ((a + 1 : Nat) : Int) by omega, rng_rgI]; exact z1))) ?_⟩
    refine z2.trans ?_
    rw [List.append_assoc]
    rfl
theorem sw2_len (sq : List (List Int)) (n : Nat) (x : Int) : ∀ as : List Nat, (sw2 sq n x as).length ≤ as.length * n
  | [] => Nat.zero_le _
  | a :: as => by
    have h := sw2_len sq n x as
    have k := sw3_len sq x (a : Int) (rgI (a + 1) n)
    rw [rgI_len] at k
    unfold sw2 at h ⊢
    rw [List.flatMap_cons, List.length_append, List.length_cons, Nat.succ_mul]
    omega
def sw1 (sq : List (List Int)) (n : Nat) (xs : List Nat) : List PyData := xs.flatMap fun (x : Nat) => sw2 sq n (x : Int) (List.range n)
def swaps (sq : List (List Int)) (n : Nat) : List PyData := sw1 sq n (List.range n)
theorem len0_ev {sd : PyData} {m : Int} {a b c d : Option Vd} {h : Hd} (l : lenD [sd] = some (.int m)) : (SL.cons (SE.cb bLen (SL.cons (SE.var 0) SL.nil)) SL.nil).ev [some (.d sd), a, b, c, d] h = .ok [.d (.int m)] h := by
  simp [l]
theorem rng0 (n : Nat) : SI.rng 0 (n : Int) = (List.range n).map fun (i : Nat) => .int i := by
  unfold SI.rng
  rw [Int.sub_zero, Int.toNat_natCast]
  apply List.map_congr_left
  intro i _
  simp
theorem lsw2 (L : Latin n sq) : ∀ (xs : List Nat) (out : List PyData) (u v w : Option Vd), (∀ a ∈ xs, a < n) → out.length + xs.length * (n * n) ≤ 300000 →
    ∃ u' v' w', SS.forR (ST.name 2).put L_law_swaps_2.run (xs.map fun (a : Nat) => .int a) [some (.d (sqD sq)), some (.r 0), u, v, w] [.lst (out.map .d)] = .nx [some (.d (sqD sq)), some (.r 0), u', v', w'] [.lst ((out ++ sw1 sq n xs).map .d)]
  | [], out, u, v, w, _, _ => ⟨u, v, w, by simp [sw1, SS.forR]⟩
  | x :: xs, out, u, v, w, h, hl => by
    have hx := h x (List.mem_cons_self ..)
    have top := L.top
    rw [List.length_cons, Nat.succ_mul] at hl
    have sl := sw2_len sq n (x : Int) (List.range n)
    rw [List.length_range] at sl
    have nn : n * n ≤ 1600 := Nat.mul_le_mul top top
    obtain ⟨u1, v1, z1⟩ := lsw1 L (x := (x : Int)) ⟨by omega, by omega⟩ (List.range n) out v w (fun a ha => List.mem_range.mp ha) (by rw [List.length_range]; omega)
    obtain ⟨u2, v2, w2, z2⟩ := lsw2 L xs (out ++ sw2 sq n (x : Int) (List.range n)) (some (.d (.int x))) u1 v1 (fun y hy => h y (List.mem_cons_of_mem _ hy)) (by rw [List.length_append]; omega)
    refine ⟨u2, v2, w2, forR_step rfl (for_of (rng1_of (n := (n : Int)) (len0_ev (len_sq L)) (by omega) (by omega)) (by rw [rng0]; exact z1)) ?_⟩
    refine z2.trans ?_
    rw [List.append_assoc]
    rfl
theorem lswaps_fd (L : Latin n sq) : FD F_law_swaps [sqD sq] = some (.list (swaps sq n)) := by
  have top := L.top
  have nnn : n * (n * n) ≤ 64000 := Nat.mul_le_mul top (Nat.mul_le_mul top top)
  obtain ⟨u, v, w, z⟩ := lsw2 L (List.range n) [] none none none (fun a ha => List.mem_range.mp ha) (by rw [List.length_range]; simp; omega)
  exact fd_own (h1 := [.lst ((swaps sq n).map .d)]) (n := 0) (runDef_rt rfl (seq_of (ρ1 := [some (.d (sqD sq)), some (.r 0), none, none, none]) (h1 := [.lst (([] : List PyData).map .d)]) rfl (seq_of (for_of (rng1_of (n := (n : Int)) (len0_ev (len_sq L)) (by omega) (by omega)) (by rw [rng0]; exact z)) (ret_of rfl)))) rfl
end
end K50
end
section
set_option maxRecDepth 100000
set_option maxHeartbeats 2000000
/-! k50: which exchanges pass, as the program lists them -/
namespace K50
open PySem PySem.Spec PyProof.Rows L2 G N D K47
section
variable {sq : List (List Int)} {n : Nat}
theorem phit_ev (L : Latin n sq) {x a b : Int} (hx : In n x) (ha : In n a) (hb : In n b) (o : Option Vd) (h : Hd) :
    (SB.test (SE.op oEq (SE.ix (SE.var 5) (SE.var 6)) (SE.ix (SE.ix (SE.var 0) (SE.ix (SE.var 3) (SE.var 6))) (SE.var 4)))).ev [some (.d (sqD sq)), o, some (.d (.int x)), some (.d (rowD (rowOf sq x))), some (.d (.int a)), some (.d (rowD (rowOf sq (at2 sq x a)))), some (.d (.int b))] h = .ok (hit sq x a b) h := by
  have i3 := ix_at L hx hb
  have h1 := at_in L hx ha
  have h2 := at_in L hx hb
  have i5 := ix_sq L h2
  have i6 := ix_at L h1 hb
  have i7 := ix_at L h2 ha
  simp [i3, i5, i6, i7, hit]
theorem prng2_ev {row sd : PyData} {m a : Int} {o x s v w : Option Vd} {h : Hd} (l : lenD [row] = some (.int m)) : (SL.cons (SE.op oAdd (SE.var 4) (SE.int 1)) (SL.cons (SE.cb bLen (SL.cons (SE.var 3) SL.nil)) SL.nil)).ev [s, o, x, some (.d row), some (.d (.int a)), v, w] h = .ok [.d (.int (a + 1)), .d (.int m)] h := by
  simp [l]
theorem plc (L : Latin n sq) {x : Int} (hx : In n x) {a : Nat} (ha : a < n) (w : Option Vd) (h : Hd) :
    (SE.lcM (SI.rng2 (SL.cons (SE.op oAdd (SE.var 4) (SE.int 1)) (SL.cons (SE.cb bLen (SL.cons (SE.var 3) SL.nil)) SL.nil))) (ST.name 6) (SB.test (SE.op oEq (SE.ix (SE.var 5) (SE.var 6)) (SE.ix (SE.ix (SE.var 0) (SE.ix (SE.var 3) (SE.var 6))) (SE.var 4)))) (SE.tup (SL.cons (SE.var 2) (SL.cons (SE.var 4) (SL.cons (SE.var 6) SL.nil))))).ev
      [some (.d (sqD sq)), some (.r 0), some (.d (.int x)), some (.d (rowD (rowOf sq x))), some (.d (.int a)), some (.d (rowD (rowOf sq (at2 sq x a)))), w] h = .ok (.r h.length) (h ++ [.lst ((sw3 sq x a (rgI (a + 1) n)).map .d)]) := by
  have top := L.top
  have lr : lenD [rowD (rowOf sq x)] = some (.int n) := by rw [len_row, (L.rows _ (row_at L hx)).len]
  have z := lcM_of (it := SI.rng2 (SL.cons (SE.op oAdd (SE.var 4) (SE.int 1)) (SL.cons (SE.cb bLen (SL.cons (SE.var 3) SL.nil)) SL.nil))) (tg := ST.name 6) (c := SB.test (SE.op oEq (SE.ix (SE.var 5) (SE.var 6)) (SE.ix (SE.ix (SE.var 0) (SE.ix (SE.var 3) (SE.var 6))) (SE.var 4)))) (g := SE.tup (SL.cons (SE.var 2) (SL.cons (SE.var 4) (SL.cons (SE.var 6) SL.nil))))
    (ρ := [some (.d (sqD sq)), some (.r 0), some (.d (.int x)), some (.d (rowD (rowOf sq x))), some (.d (.int a)), some (.d (rowD (rowOf sq (at2 sq x a)))), w]) (h := h) (h1 := h) (xs := (rgI (a + 1) n).map .int) (fun y => hit sq x a (toInt y)) (fun y => trip x a (toInt y))
    ((rng2_of (l := (a : Int) + 1) (n := (n : Int)) (prng2_ev (sd := .none) lr) (by omega) (by omega) (by omega) (by omega)).trans (by rw [show ((a : Int) + 1) = ((a + 1 : Nat) : Int) by omega, rng_rgI])) (by rw [List.length_map, rgI_len]; omega) fun y hy => by
    obtain ⟨b, hb, rfl⟩ := List.mem_map.mp hy
    have hb2 := rgI_in b hb
    exact ⟨_, rfl, phit_ev L hx ⟨by omega, by omega⟩ hb2 (some (.r 0)) h, fun _ => rfl⟩
  rw [z]
  have e : ((((rgI (a + 1) n).map PyData.int).filter fun y => hit sq x a (toInt y)).map fun y => trip x a (toInt y)) = sw3 sq x a (rgI (a + 1) n) := by
    unfold sw3
    rw [List.filter_map, List.map_map]
    rfl
  rw [e]
theorem psw1 (L : Latin n sq) {x : Int} (hx : In n x) : ∀ (as : List Nat) (out : List PyData) (R : Hd) (u v w : Option Vd), (∀ a ∈ as, a < n) → out.length + as.length * n ≤ 500000 →
    ∃ R' u' v' w', SS.forR (ST.name 4).put L_all_swaps_v2_0.run (as.map fun (a : Nat) => .int a) [some (.d (sqD sq)), some (.r 0), some (.d (.int x)), some (.d (rowD (rowOf sq x))), u, v, w] (.lst (out.map .d) :: R) = .nx [some (.d (sqD sq)), some (.r 0), some (.d (.int x)), some (.d (rowD (rowOf sq x))), u', v', w'] (.lst ((out ++ sw2 sq n x as).map .d) :: R')
  | [], out, R, u, v, w, _, _ => ⟨R, u, v, w, by simp [sw2, SS.forR]⟩
  | a :: as, out, R, u, v, w, h, hl => by
    have ha := h a (List.mem_cons_self ..)
    have top := L.top
    rw [List.length_cons, Nat.succ_mul] at hl
    have sl := sw3_len sq x a (rgI (a + 1) n)
    rw [rgI_len] at sl
    obtain ⟨R2, u2, v2, w2, z2⟩ := psw1 L hx as (out ++ sw3 sq x a (rgI (a + 1) n)) (R ++ [.lst ((sw3 sq x a (rgI (a + 1) n)).map .d)]) (some (.d (.int a))) (some (.d (rowD (rowOf sq (at2 sq x a))))) w (fun y hy => h y (List.mem_cons_of_mem _ hy)) (by rw [List.length_append]; omega)
    have ia : In n (a : Int) := ⟨by omega, by omega⟩
    have i2 := ix_at L hx ia
    have i4 := ix_sq L (at_in L hx ia)
    have pl := plc L hx ha w (.lst (out.map .d) :: R)
    have lim : out.length + (sw3 sq x a (rgI (a + 1) n)).length ≤ 1000000 := by omega
    generalize hS : sw3 sq x a (rgI (a + 1) n) = S at *
    have e9 : sw2 sq n x (a :: as) = S ++ sw2 sq n x as := by rw [← hS]; rfl
    refine ⟨R2, u2, v2, w2, forR_step rfl (seq_of (ρ1 := [some (.d (sqD sq)), some (.r 0), some (.d (.int x)), some (.d (rowD (rowOf sq x))), some (.d (.int a)), some (.d (rowD (rowOf sq (at2 sq x a)))), w]) (h1 := .lst (out.map .d) :: R) (set_of (x := .d (rowD (rowOf sq (at2 sq x a)))) ?_) (drop_of (x := .d .none) (h1 := .lst ((out ++ S).map .d) :: (R ++ [.lst (S.map .d)])) ?_)) (z2.trans ?_)⟩
    · simp [i2, i4]
    · rw [SE.extend_ev, SE.var_ev]
      show Oc.bind (Oc.ok (Vd.r 0) _) _ = _
      rw [Oc.bind_ok]
      simp [ownL, pl, lim]
    · rw [List.append_assoc, e9]
theorem plen3 {row : PyData} {m : Int} {a b c d e f : Option Vd} {h : Hd} (l : lenD [row] = some (.int m)) : (SL.cons (SE.cb bLen (SL.cons (SE.var 3) SL.nil)) SL.nil).ev [a, b, c, some (.d row), d, e, f] h = .ok [.d (.int m)] h := by
  simp [l]
def enumL (sq : List (List Int)) (xs : List Nat) : List PyData := xs.map fun (x : Nat) => .tuple [.int x, rowD (rowOf sq x)]
theorem psw2 (L : Latin n sq) : ∀ (xs : List Nat) (out : List PyData) (R : Hd) (s r u v w : Option Vd), (∀ a ∈ xs, a < n) → out.length + xs.length * (n * n) ≤ 300000 →
    ∃ R' s' r' u' v' w', SS.forR (ST.tup (STs.cons (ST.name 2) (STs.cons (ST.name 3) STs.nil))).put L_all_swaps_v2_1.run (enumL sq xs) [some (.d (sqD sq)), some (.r 0), s, r, u, v, w] (.lst (out.map .d) :: R) = .nx [some (.d (sqD sq)), some (.r 0), s', r', u', v', w'] (.lst ((out ++ sw1 sq n xs).map .d) :: R')
  | [], out, R, s, r, u, v, w, _, _ => ⟨R, s, r, u, v, w, by simp [sw1, enumL, SS.forR]⟩
  | x :: xs, out, R, s, r, u, v, w, h, hl => by
    have hx := h x (List.mem_cons_self ..)
    have top := L.top
    rw [List.length_cons, Nat.succ_mul] at hl
    have sl := sw2_len sq n (x : Int) (List.range n)
    rw [List.length_range] at sl
    have nn : n * n ≤ 1600 := Nat.mul_le_mul top top
    have hx2 : In n (x : Int) := ⟨by omega, by omega⟩
    obtain ⟨R1, u1, v1, w1, z1⟩ := psw1 L hx2 (List.range n) out R u v w (fun a ha => List.mem_range.mp ha) (by rw [List.length_range]; omega)
    obtain ⟨R2, s2, r2, u2, v2, w2, z2⟩ := psw2 L xs (out ++ sw2 sq n (x : Int) (List.range n)) R1 (some (.d (.int x))) (some (.d (rowD (rowOf sq x)))) u1 v1 w1 (fun y hy => h y (List.mem_cons_of_mem _ hy)) (by rw [List.length_append]; omega)
    have lr : lenD [rowD (rowOf sq (x : Int))] = some (.int n) := by rw [len_row, (L.rows _ (row_at L hx2)).len]
    refine ⟨R2, s2, r2, u2, v2, w2, forR_step rfl (for_of (rng1_of (n := (n : Int)) (plen3 lr) (by omega) (by omega)) (by rw [rng0]; exact z1)) (z2.trans ?_)⟩
    rw [List.append_assoc]
    rfl
end
end K50
end
section
set_option maxRecDepth 100000
set_option maxHeartbeats 2000000
/-! k50: how many slip, by the program -/
namespace K50
open PySem PySem.Spec PyProof.Rows L2 G N D K47
section
variable {sq : List (List Int)} {n : Nat} {s e : Int}
theorem enum_eq (L : Latin n sq) : enumD (sq.map rowD) = enumL sq (List.range n) := by
  unfold enumD enumL
  apply List.ext_getElem?
  intro i
  rw [List.getElem?_map, List.getElem?_map, List.getElem?_zipIdx, List.getElem?_map]
  by_cases h : i < n
  · have hl : i < sq.length := by rw [L.len]; exact h
    rw [List.getElem?_eq_getElem hl, List.getElem?_range h]
    simp [rowOf, List.getD_eq_getElem?_getD, List.getElem?_eq_getElem hl]
  · rw [List.getElem?_eq_none (by rw [L.len]; omega), List.getElem?_eq_none (by rw [List.length_range]; omega)]
    rfl
theorem aswaps_fd (L : Latin n sq) : FD F_all_swaps_v2 [sqD sq] = some (.list (swaps sq n)) := by
  have top := L.top
  have nnn : n * (n * n) ≤ 64000 := Nat.mul_le_mul top (Nat.mul_le_mul top top)
  obtain ⟨R, s, r, u, v, w, z⟩ := psw2 L (List.range n) [] [] none none none none none (fun a ha => List.mem_range.mp ha) (by rw [List.length_range]; simp; omega)
  refine fd_own (h1 := .lst ((swaps sq n).map .d) :: R) (n := 0) (runDef_rt rfl (seq_of (ρ1 := [some (.d (sqD sq)), some (.r 0), none, none, none, none, none]) (h1 := [.lst (([] : List PyData).map .d)]) rfl (seq_of (for_of (es := enumL sq (List.range n)) (h1 := [.lst (([] : List PyData).map .d)]) ?_ z) (ret_of rfl)))) rfl
  rw [← enum_eq L]
  rfl
/-- what the two sums add up -/
def term (f g : Int → Int) (sq : List (List Int)) : PyData → Int
  | .tuple [.int x, .int a, .int b] => 2 * f x * g (at2 sq (at2 sq x a) b)
  | _ => 0
def total (f g : Int → Int) (sq : List (List Int)) (ts : List PyData) : Int := (ts.map (term f g sq)).sum
end
end K50
end
section
set_option maxRecDepth 100000
set_option maxHeartbeats 2000000
/-! k50: the sums -/
namespace K50
open PySem PySem.Spec PyProof.Rows L2 G N D K47
section
variable {sq : List (List Int)} {n : Nat} {s e : Int}
theorem ways_small (hn : n ≤ 40) (x y : Int) {t : Nat} (ht : t ≤ 100) : (ways n x y t).natAbs < 2 ^ 600 := by
  cases t with
  | zero =>
    show (if x = y then (1 : Int) else 0).natAbs < 2 ^ 600
    by_cases c : x = y
    · rw [if_pos c]; decide +kernel
    · rw [if_neg c]; decide +kernel
  | succ t =>
    show ((n : Int) ^ t).natAbs < 2 ^ 600
    rw [Int.natAbs_pow, Int.natAbs_natCast]
    exact Nat.lt_of_le_of_lt (Nat.le_trans (Nat.pow_le_pow_left hn t) (Nat.pow_le_pow_right (by decide) (show t ≤ 100 by omega))) (by decide +kernel)
theorem sm_w (hn : n ≤ 40) (x y : Int) {t : Nat} (ht : t ≤ 100) : sm (ways n x y t) = true := sm_of (ways_small hn x y ht) (by decide)
theorem sm_2w (hn : n ≤ 40) (x y : Int) {t : Nat} (ht : t ≤ 100) : sm (2 * ways n x y t) = true := by
  refine sm_of (n := 602) ?_ (by decide)
  rw [Int.natAbs_mul]
  have := ways_small hn x y ht
  show 2 * _ < _
  rw [show (2 : Nat) ^ 602 = 4 * 2 ^ 600 by decide +kernel]
  omega
def Trips (n : Nat) (ts : List PyData) : Prop := ∀ t ∈ ts, ∃ x a b, t = trip x a b ∧ In n x ∧ In n a ∧ In n b
theorem swaps_trips (sq : List (List Int)) (n : Nat) : Trips n (swaps sq n) := fun t ht => by
  obtain ⟨x, hx, h1⟩ := List.mem_flatMap.mp ht
  obtain ⟨a, ha, h2⟩ := List.mem_flatMap.mp h1
  unfold sw3 at h2
  obtain ⟨b, hb, rfl⟩ := List.mem_map.mp h2
  have := List.mem_range.mp hx
  have := List.mem_range.mp ha
  exact ⟨x, a, b, rfl, ⟨by omega, by omega⟩, ⟨by omega, by omega⟩, rgI_in b (List.mem_filter.mp hb).1⟩
/-- one exchange's share -/
theorem share_ev {ch sd r1 r2 : PyData} {L p : Option Vd} {c s e q acc x a b i1 l f g pp : Int} {k11 : Option Vd} {h : Hd} (e1 : ixD sd (.int x) = some r1) (e2 : ixD r1 (.int a) = some (.int i1)) (e3 : ixD sd (.int i1) = some r2) (e4 : ixD r2 (.int b) = some (.int l))
    (w1 : FD F_how_many_ways [ch, .int s, .int x, .int pp] = some (.int f)) (w2 : FD F_how_many_ways [ch, .int l, .int e, .int q] = some (.int g)) (m1 : sm f = true) (m2 : sm (2 * f) = true) (m3 : sm g = true) :
    L_how_many_slip_v2_0.run [some (.d ch), L, some (.d (.int pp)), some (.d sd), some (.d (.int s)), some (.d (.int e)), some (.d (.int q)), some (.d (.int acc)), some (.d (.int x)), some (.d (.int a)), some (.d (.int b)), k11] h = .nx [some (.d ch), L, some (.d (.int pp)), some (.d sd), some (.d (.int s)), some (.d (.int e)), some (.d (.int q)), some (.d (.int (acc + 2 * f * g))), some (.d (.int x)), some (.d (.int a)), some (.d (.int b)), some (.d (.int l))] h := by
  have n2 : sm 2 = true := by decide +kernel
  simp [L_how_many_slip_v2_0, e1, e2, e3, e4, w1, w2, m1, m2, m3, n2]
theorem slip_loop (L : Latin n sq) {p q : Nat} (hp : p ≤ 100) (hq : q ≤ 100) (k1 : Option Vd) (h : Hd) : ∀ (ts : List PyData) (acc : Int) (a8 a9 a10 a11 : Option Vd), Trips n ts →
    ∃ b8 b9 b10 b11, SS.forR (ST.tup (STs.cons (ST.name 8) (STs.cons (ST.name 9) (STs.cons (ST.name 10) STs.nil)))).put L_how_many_slip_v2_0.run ts [some (.d (chD sq s e)), k1, some (.d (.int p)), some (.d (sqD sq)), some (.d (.int s)), some (.d (.int e)), some (.d (.int q)), some (.d (.int acc)), a8, a9, a10, a11] h =
      .nx [some (.d (chD sq s e)), k1, some (.d (.int p)), some (.d (sqD sq)), some (.d (.int s)), some (.d (.int e)), some (.d (.int q)), some (.d (.int (acc + total (fun x => ways n s x p) (fun y => ways n y e q) sq ts))), b8, b9, b10, b11] h
  | [], acc, a8, a9, a10, a11, _ => ⟨a8, a9, a10, a11, by simp [total, SS.forR]⟩
  | t :: ts, acc, a8, a9, a10, a11, ht => by
    have top := L.top
    obtain ⟨x, a, b, rfl, hx, ha, hb⟩ := ht t (List.mem_cons_self ..)
    have h1 := at_in L hx ha
    have st := share_ev (ch := chD sq s e) (L := k1) (c := 0) (acc := acc) (k11 := a11) (h := h) (p := none) (ix_sq L hx) (ix_at L hx ha) (ix_sq L h1) (ix_at L h1 hb) (ways_fd (s := s) (e := e) (x := s) (y := x) L hp) (ways_fd (s := s) (e := e) (x := at2 sq (at2 sq x a) b) (y := e) L hq) (sm_w top _ _ hp) (sm_2w top _ _ hp) (sm_w top _ _ hq)
    obtain ⟨b8, b9, b10, b11, z⟩ := slip_loop L hp hq k1 h ts (acc + 2 * ways n s x p * ways n (at2 sq (at2 sq x a) b) e q) (some (.d (.int x))) (some (.d (.int a))) (some (.d (.int b))) (some (.d (.int (at2 sq (at2 sq x a) b)))) fun y hy => ht y (List.mem_cons_of_mem _ hy)
    refine ⟨b8, b9, b10, b11, forR_step rfl st (z.trans ?_)⟩
    have e9 : acc + 2 * ways n s x p * ways n (at2 sq (at2 sq x a) b) e q + total (fun x => ways n s x p) (fun y => ways n y e q) sq ts = acc + total (fun x => ways n s x p) (fun y => ways n y e q) sq (trip x a b :: ts) := by
      unfold total
      rw [List.map_cons, List.sum_cons, Int.add_assoc]
      rfl
    rw [e9]
end
end K50
end
section
set_option maxRecDepth 100000
set_option maxHeartbeats 2000000
/-! k50: how many slip -/
namespace K50
open PySem PySem.Spec PyProof.Rows L2 G N D K47
theorem chk_len2 {u : Int} (h : 2 ≤ u) : FD F_check_length [.int u, .int 2] = some .none := by
  have f := from_fd (.int u) 2
  have d : fromB 2 (.int u) = true := decide_eq_true h
  rw [d] at f
  refine fd_of (h1 := []) ?_
  simp [F_check_length, B_check_length, S_check_length_0, startN, f]
theorem slip_of {ch sd : PyData} {ts : List PyData} {s e l p l1 q r : Int} (c1 : FD F_check_chain [ch] = some .none) (c2 : FD F_check_length [.int l, .int 2] = some .none) (c3 : FD F_is_below [.int p, .int (l - 1)] = some (.bool true)) (hch : ch = .tuple [sd, .int s, .int e]) (hq : l - p - 2 = q) (sw : FD F_all_swaps_v2 [sd] = some (.list ts))
    (lp : ∃ b8 b9 b10 b11, SS.forR (ST.tup (STs.cons (ST.name 8) (STs.cons (ST.name 9) (STs.cons (ST.name 10) STs.nil)))).put L_how_many_slip_v2_0.run ts [some (.d ch), some (.d (.int l)), some (.d (.int p)), some (.d sd), some (.d (.int s)), some (.d (.int e)), some (.d (.int q)), some (.d (.int 0)), none, none, none, none] [] =
      .nx [some (.d ch), some (.d (.int l)), some (.d (.int p)), some (.d sd), some (.d (.int s)), some (.d (.int e)), some (.d (.int q)), some (.d (.int r)), b8, b9, b10, b11] []) : FD F_how_many_slip_v2 [ch, .int l, .int p] = some (.int r) := by
  obtain ⟨b8, b9, b10, b11, z⟩ := lp
  refine fd_of (h1 := []) (runDef_rt rfl (seq_of (ρ1 := startN 12 [.d ch, .d (.int l), .d (.int p)]) (h1 := []) ?_ (seq_of (ρ1 := startN 12 [.d ch, .d (.int l), .d (.int p)]) (h1 := []) ?_ (seq_of (ρ1 := startN 12 [.d ch, .d (.int l), .d (.int p)]) (h1 := []) (ite_f (h1 := []) ?_ rfl)
    (seq_of (ρ1 := [some (.d ch), some (.d (.int l)), some (.d (.int p)), some (.d sd), some (.d (.int s)), some (.d (.int e)), none, none, none, none, none, none]) (h1 := []) ?_ (seq_of (ρ1 := [some (.d ch), some (.d (.int l)), some (.d (.int p)), some (.d sd), some (.d (.int s)), some (.d (.int e)), some (.d (.int q)), none, none, none, none, none]) (h1 := []) ?_ (seq_of (ρ1 := [some (.d ch), some (.d (.int l)), some (.d (.int p)), some (.d sd), some (.d (.int s)), some (.d (.int e)), some (.d (.int q)), some (.d (.int 0)), none, none, none, none]) (h1 := []) rfl (seq_of (for_of (es := ts) (h1 := []) ?_ z) (ret_of rfl)))))))))
  · simp [S_how_many_slip_v2_0, startN, c1]
  · simp [S_how_many_slip_v2_1, startN, c2]
  · simp [startN, c3]
  · simp [S_how_many_slip_v2_3, startN, hch]
  · simp [S_how_many_slip_v2_4, hq]
  · simp [sw, seqD]
theorem slip_fd {sq : List (List Int)} {n : Nat} {s e : Int} (L : Latin n sq) (hs : In n s) (he : In n e) {l p : Nat} (hl : l ≤ 100) (hp : p + 2 ≤ l) : FD F_how_many_slip_v2 [chD sq s e, .int l, .int p] = some (.int (total (fun x => ways n s x p) (fun y => ways n y e (l - p - 2)) sq (swaps sq n))) := by
  have lo := slip_loop (s := s) (e := e) L (p := p) (q := l - p - 2) (by omega) (by omega) (some (.d (.int l))) [] (swaps sq n) 0 none none none none (swaps_trips sq n)
  rw [Int.zero_add] at lo
  have c3 : FD F_is_below [.int p, .int ((l : Int) - 1)] = some (.bool true) := by
    rw [below_fd]
    have h1 : (0 : Int) ≤ p := by omega
    have h2 : (p : Int) < (l : Int) - 1 := by omega
    show some (PyData.bool (decide ((0 : Int) ≤ p) && decide ((p : Int) < (l : Int) - 1))) = _
    rw [decide_eq_true h1, decide_eq_true h2]
    rfl
  exact slip_of (l1 := 0) (chk_chain L hs he) (chk_len2 (by omega)) c3 rfl (by omega) (aswaps_fd L) lo
end K50
end
section
set_option maxRecDepth 100000
set_option maxHeartbeats 2000000
/-! k50: what is reached -/
namespace K50
open PySem PySem.Spec PyProof.Rows L2 G N D K47
theorem own_set (l : List Int) (j : Nat) (v : Int) : (ownI l).set j (.d (.int v)) = ownI (l.set j v) := by
  unfold ownI
  rw [List.map_set, List.map_set]
theorem atD_own {l : List Int} {y : Int} (h0 : 0 ≤ y) (h1 : y < l.length) : atD (ownI l) y = some (.d (.int (l.getD y.toNat 0))) := by
  unfold ownI
  rw [List.map_map]
  exact atD_map (fun i => Vd.d (.int i)) h0 h1 0
theorem ixN_at {m : Nat} {y : Int} (h0 : 0 ≤ y) (h1 : y < (m : Int)) : ixN m y = some y.toNat := by
  unfold ixN
  rw [if_pos h0, if_pos h1]
theorem bump_step {a b c d t x : Option Vd} {i : Nat} {many y : Int} {l : List Int} {h : Hd} (e : h[i]? = some (.lst (ownI l))) (at_ : atD (ownI l) y = some (.d (.int (l.getD y.toNat 0)))) (ix : ixN (ownI l).length y = some y.toNat) :
    L_law_reached_0.run [a, b, c, d, t, some (.r i), x, some (.d (.int many)), some (.d (.int y))] h = .nx [a, b, c, d, t, some (.r i), x, some (.d (.int many)), some (.d (.int y))] (h.set i (.lst (ownI (l.set y.toNat (l.getD y.toNat 0 + many))))) := by
  generalize hv : l.getD y.toNat 0 = v at *
  simp [L_law_reached_0, e, at_, ownL, ix, own_set]
theorem row_loop {n : Nat} {a b c d t x : Option Vd} {i : Nat} {many : Int} : ∀ (ys l : List Int) (h : Hd) (v : Option Vd), h[i]? = some (.lst (ownI l)) → l.length = n → Ins n ys →
    ∃ v', SS.forR (ST.name 8).put L_law_reached_0.run (ys.map .int) [a, b, c, d, t, some (.r i), x, some (.d (.int many)), v] h = .nx [a, b, c, d, t, some (.r i), x, some (.d (.int many)), v'] (h.set i (.lst (ownI (bump many l ys))))
  | [], l, h, v, e, _, _ => ⟨v, by
    have : h.set i (.lst (ownI l)) = h := by
      obtain ⟨h1, h2⟩ := List.getElem?_eq_some_iff.mp e
      rw [← h2]
      exact List.set_getElem_self h1
    show OcS.nx _ h = OcS.nx _ (h.set i (.lst (ownI l)))
    rw [this]⟩
  | y :: ys, l, h, v, e, hl, hy => by
    have y0 := hy y (List.mem_cons_self ..)
    have hi : i < h.length := (List.getElem?_eq_some_iff.mp e).1
    have st := bump_step (a := a) (b := b) (c := c) (d := d) (t := t) (x := x) (many := many) e (atD_own y0.1 (by rw [hl]; exact y0.2)) (ixN_at y0.1 (by rw [own_len, hl]; exact y0.2))
    obtain ⟨v', z⟩ := row_loop ys (l.set y.toNat (l.getD y.toNat 0 + many)) (h.set i (.lst (ownI (l.set y.toNat (l.getD y.toNat 0 + many))))) (some (.d (.int y))) (by rw [List.getElem?_set_self hi]) (by rw [List.length_set]; exact hl) fun z hz => hy z (List.mem_cons_of_mem _ hz)
    refine ⟨v', forR_step rfl st (z.trans ?_)⟩
    rw [List.set_set]
    rfl
end K50
end
section
set_option maxRecDepth 100000
set_option maxHeartbeats 2000000
/-! k50: what is reached, turn by turn -/
namespace K50
open PySem PySem.Spec PyProof.Rows L2 G N D K47
section
variable {sq : List (List Int)} {n : Nat}
def adds (sq : List (List Int)) (l : List Int) (ps : List (Nat × Int)) : List Int := ps.foldl (fun l p => bump p.2 l (rowOf sq p.1)) l
def pairD (p : Nat × Int) : PyData := .tuple [.int p.1, .int p.2]
theorem seq_row {sd r : PyData} {xs : List PyData} {x : Int} {b c d t l m v : Option Vd} {h : Hd} (e : ixD sd (.int x) = some r) (hr : seqD r = some xs) : (SI.seq (SE.ix (SE.var 0) (SE.var 6))).ev [some (.d sd), b, c, d, t, l, some (.d (.int x)), m, v] h = .ok xs h := by
  simp [e, hr]
theorem adds_loop (L : Latin n sq) {b c d t : Option Vd} {i : Nat} : ∀ (ps : List (Nat × Int)) (l : List Int) (h : Hd) (u v w : Option Vd), (∀ p ∈ ps, p.1 < n) → h[i]? = some (.lst (ownI l)) → l.length = n →
    ∃ u' v' w', SS.forR (ST.tup (STs.cons (ST.name 6) (STs.cons (ST.name 7) STs.nil))).put L_law_reached_1.run (ps.map pairD) [some (.d (sqD sq)), b, c, d, t, some (.r i), u, v, w] h = .nx [some (.d (sqD sq)), b, c, d, t, some (.r i), u', v', w'] (h.set i (.lst (ownI (adds sq l ps))))
  | [], l, h, u, v, w, _, e, _ => ⟨u, v, w, by
    have : h.set i (.lst (ownI l)) = h := by
      obtain ⟨h1, h2⟩ := List.getElem?_eq_some_iff.mp e
      rw [← h2]
      exact List.set_getElem_self h1
    show OcS.nx _ h = OcS.nx _ (h.set i (.lst (ownI l)))
    rw [this]⟩
  | (x, many) :: ps, l, h, u, v, w, hp, e, hl => by
    have hx := hp _ (List.mem_cons_self ..)
    have hx2 : In n (x : Int) := ⟨by omega, by show (x : Int) < n; have : x < n := hx; omega⟩
    have hi : i < h.length := (List.getElem?_eq_some_iff.mp e).1
    obtain ⟨w1, z1⟩ := row_loop (a := some (.d (sqD sq))) (b := b) (c := c) (d := d) (t := t) (x := some (.d (.int x))) (i := i) (many := many) (rowOf sq x) l h w e hl (row_ins L (row_at L hx2))
    obtain ⟨u2, v2, w2, z2⟩ := adds_loop L ps (bump many l (rowOf sq x)) (h.set i (.lst (ownI (bump many l (rowOf sq x))))) (some (.d (.int x))) (some (.d (.int many))) w1 (fun p hp2 => hp p (List.mem_cons_of_mem _ hp2)) (by rw [List.getElem?_set_self hi]) (by rw [bump_len]; exact hl)
    refine ⟨u2, v2, w2, forR_step rfl (for_of (seq_row (ix_sq L hx2) rfl) z1) (z2.trans ?_)⟩
    rw [List.set_set]
    rfl
theorem adds_len (L : Latin n sq) : ∀ (ps : List (Nat × Int)) (l : List Int), (adds sq l ps).length = l.length
  | [], _ => rfl
  | p :: ps, l => by
    show (adds sq (bump p.2 l (rowOf sq p.1)) ps).length = _
    rw [adds_len L ps, bump_len]
theorem adds_at (L : Latin n sq) : ∀ (ps : List (Nat × Int)) (l : List Int), (∀ p ∈ ps, p.1 < n) → l.length = n → ∀ j, j < n → (adds sq l ps).getD j 0 = l.getD j 0 + (ps.map (·.2)).sum
  | [], l, _, _, j, _ => by simp [adds]
  | (x, many) :: ps, l, hp, hl, j, hj => by
    have hx := hp _ (List.mem_cons_self ..)
    have hx2 : In n (x : Int) := ⟨by omega, by show (x : Int) < n; have : x < n := hx; omega⟩
    have pr := L.rows _ (row_at L hx2)
    show (adds sq (bump many l (rowOf sq x)) ps).getD j 0 = _
    rw [adds_at L ps _ (fun p hp2 => hp p (List.mem_cons_of_mem _ hp2)) (by rw [bump_len]; exact hl) j hj, bump_at many (rowOf sq x) l hl pr.nd (row_ins L (row_at L hx2)) j hj, if_pos (perm_all pr ⟨by omega, by omega⟩), List.map_cons, List.sum_cons, Int.add_assoc]
theorem adds_all (L : Latin n sq) (ps : List (Nat × Int)) (hp : ∀ p ∈ ps, p.1 < n) : adds sq (List.replicate n 0) ps = List.replicate n (ps.map (·.2)).sum := by
  apply List.ext_getElem
  · rw [adds_len L, List.length_replicate, List.length_replicate]
  · intro j h1 h2
    have hj : j < n := by rw [List.length_replicate] at h2; exact h2
    have k := adds_at L ps (List.replicate n 0) hp List.length_replicate j hj
    rw [List.getD_eq_getElem?_getD, List.getElem?_eq_getElem h1] at k
    rw [List.getElem_replicate]
    have z : (List.replicate n (0 : Int)).getD j 0 = 0 := by rw [List.getD_eq_getElem?_getD, List.getElem?_replicate]; split <;> rfl
    rw [z, Int.zero_add] at k
    exact k
end
end K50
end
section
set_option maxRecDepth 100000
set_option maxHeartbeats 2000000
/-! k47: what is no chain -/
namespace K47
open PySem PySem.Spec PyProof.Rows L2 G N D
def T1 (rows : List PyData) (m s e : Int) : List PyData := [.none, .tuple [], .list [], .dict [], .int 5, .list [.list rows, .int s, .int e], .tuple [.list rows, .int s], .tuple [.list rows, .int s, .int e, .int 0], .tuple [.list rows, .int (-1), .int 0], .tuple [.list rows, .int m, .int 0], .tuple [.list rows, .bool true, .int 0]]
def T2 (rows : List PyData) (m : Int) : List PyData := [.tuple [.list rows, .int 0, .int m], .tuple [.list rows, .int 0, .none], .tuple [.list rows, .str "0", .int 0], .tuple [.list (G.cutD rows (some 1) none), .int 0, .int 0], .tuple [.tuple rows, .int 0, .int 0], .tuple [.list [.list [.int 0]], .int 0, .int 0]]
def T3 (rows : List PyData) (m : Int) : List PyData := [.tuple [.list rows, .int 0, .int (-1)], .tuple [.list rows, .int 0, .bool true], .tuple [.list rows, .none, .int 0], .tuple [.list [.list [.int 0, .int 1], .list [.int 0, .int 1]], .int 0, .int 0], .tuple [.list [.list [.int 0, .int 0], .list [.int 1, .int 1]], .int 0, .int 0], .tuple [.list (List.replicate m.toNat (G.cutD rows none (some 1))).flatten, .int 0, .int 0]]
section
variable (rows : List PyData) (m s e : Int) (g k4 k5 k6 k7 k8 k9 k10 k11 k12 k13 k14 k15 k16 : Option Vd) (h : Hd)
theorem s5 : S_law_right_v40_5.run [g, some (.d (.list rows)), some (.d (.int m)), some (.d (.tuple [.list rows, .int s, .int e])), k4, k5, k6, k7, k8, k9, k10, k11, k12, k13, k14, k15, k16] h =
    .nx [g, some (.d (.list rows)), some (.d (.int m)), some (.d (.tuple [.list rows, .int s, .int e])), k4, some (.d (.list (T1 rows m s e))), k6, k7, k8, k9, k10, k11, k12, k13, k14, k15, k16] h := by kernel_rfl
theorem s6 : S_law_right_v40_6.run [g, some (.d (.list rows)), some (.d (.int m)), some (.d (.tuple [.list rows, .int s, .int e])), k4, some (.d (.list (T1 rows m s e))), k6, k7, k8, k9, k10, k11, k12, k13, k14, k15, k16] h =
    .nx [g, some (.d (.list rows)), some (.d (.int m)), some (.d (.tuple [.list rows, .int s, .int e])), k4, some (.d (.list (T1 rows m s e ++ T2 rows m))), k6, k7, k8, k9, k10, k11, k12, k13, k14, k15, k16] h := by kernel_rfl
theorem rep_ev {ρ : Rh} {rows : List PyData} {m : Int} {h : Hd} (e1 : ρ[1]? = some (some (.d (.list rows)))) (e2 : ρ[2]? = some (some (.d (.int m)))) (hr : SE.repOk (G.cutD rows none (some 1)).length m = true) (hl : (G.cutD rows none (some 1)).length ≤ 1000000) :
    (SE.repO (SE.slM (SE.var 1) SO.none (SO.some (SE.int 1))) (SE.var 2)).ev ρ h = .ok (.d (.list (List.replicate m.toNat (G.cutD rows none (some 1))).flatten)) (h ++ [.lst ((G.cutD rows none (some 1)).map .d)]) := by
  have e : SE.cutX (rows.map Vd.d) none (some 1) = (G.cutD rows none (some 1)).map .d := by
    unfold SE.cutX G.cutD
    rw [List.length_map, ← List.map_drop, ← List.map_take]
  simp [e1, e2, SE.itemsL, e, ownL, hr, hl]
theorem s7 (hr : SE.repOk (G.cutD rows none (some 1)).length m = true) (hl : (G.cutD rows none (some 1)).length ≤ 1000000) : S_law_right_v40_7.run [g, some (.d (.list rows)), some (.d (.int m)), some (.d (.tuple [.list rows, .int s, .int e])), k4, some (.d (.list (T1 rows m s e ++ T2 rows m))), k6, k7, k8, k9, k10, k11, k12, k13, k14, k15, k16] h =
    .nx [g, some (.d (.list rows)), some (.d (.int m)), some (.d (.tuple [.list rows, .int s, .int e])), k4, some (.d (.list (T1 rows m s e ++ T2 rows m ++ T3 rows m))), k6, k7, k8, k9, k10, k11, k12, k13, k14, k15, k16] (h ++ [.lst ((G.cutD rows none (some 1)).map .d)]) := by
  have r := rep_ev (ρ := [g, some (.d (.list rows)), some (.d (.int m)), some (.d (.tuple [.list rows, .int s, .int e])), k4, some (.d (.list (T1 rows m s e ++ T2 rows m))), k6, k7, k8, k9, k10, k11, k12, k13, k14, k15, k16]) (h := h) rfl rfl hr hl
  generalize hv : (List.replicate m.toNat (G.cutD rows none (some 1))).flatten = V at r
  have a : addD (.list (T1 rows m s e ++ T2 rows m)) (.list (T3 rows m)) = some (.list (T1 rows m s e ++ T2 rows m ++ T3 rows m)) := add_lists (by show 23 ≤ 1000000; decide)
  have t3 : T3 rows m = [.tuple [.list rows, .int 0, .int (-1)], .tuple [.list rows, .int 0, .bool true], .tuple [.list rows, .none, .int 0], .tuple [.list [.list [.int 0, .int 1], .list [.int 0, .int 1]], .int 0, .int 0], .tuple [.list [.list [.int 0, .int 0], .list [.int 1, .int 1]], .int 0, .int 0], .tuple [.list V, .int 0, .int 0]] := by rw [← hv]; rfl
  rw [t3] at a
  rw [t3]
  refine set_of ?_
  rw [SE.op_ev, SE.var_ev]
  show Oc.bind (Oc.ok (Vd.d (.list (T1 rows m s e ++ T2 rows m))) h) _ = _
  rw [Oc.bind_ok]
  generalize T1 rows m s e ++ T2 rows m = T at *
  have f6 : ∀ (h : Hd) (a b c d e f : PyData), frzL h [.d a, .d b, .d c, .d d, .d e, .d f] = some ([a, b, c, d, e, f], h) := fun _ _ _ _ _ _ _ => rfl
  simp [-SE.repO_ev, r, a, f6]
theorem s8 (T : List PyData) (hT : T.length ≤ 1000000) (all : ∀ x ∈ T, FD F_is_chain [x] = some (.bool false)) (a1 a2 a3 : Option Vd) : S_law_right_v40_8.run [g, a1, a2, a3, k4, some (.d (.list T)), k6, k7, k8, k9, k10, k11, k12, k13, k14, k15, k16] h = .nx [g, a1, a2, a3, k4, some (.d (.list T)), k6, k7, k8, k9, k10, k11, k12, k13, k14, k15, k16] h := by
  have z := lc_of (it := SI.seq (SE.var 5)) (tg := ST.name 15) (c := SB.test (SE.op oNotB (SE.call F_is_chain (SL.cons (SE.var 15) SL.nil)) (SE.bl false))) (g := SE.var 15) (ρ := [g, a1, a2, a3, k4, some (.d (.list T)), k6, k7, k8, k9, k10, k11, k12, k13, k14, k15, k16]) (h := h) (h1 := h) (xs := T) (fun _ => false) (fun x => x) rfl hT fun x hx => by
    have c := all x hx
    exact ⟨_, rfl, by simp [wipeN, c], fun z => by cases z⟩
  refine ite_f (h1 := h) ?_ rfl
  rw [SB.test_ev, SE.op_ev, z]
  have f : (T.filter fun _ => false).map (fun x => x) = [] := by simp
  rw [f]
  have q : eqD true (.list []) (.list []) = some (.bool false) := rfl
  simp [q]
end
section
variable {sq : List (List Int)} {n : Nat} {s e : Int}
theorem cut_tail (rows : List PyData) (h : 1 ≤ rows.length) : G.cutD rows (some 1) none = rows.drop 1 := cut_from rows h
theorem cut_head (rows : List PyData) (h : 1 ≤ rows.length) : G.cutD rows none (some 1) = rows.take 1 := cut_to rows h
theorem bad_ab (L : Latin n sq) {a b : PyData} (h : (below n a && below n b) = false) : FD F_is_chain [.tuple [sqD sq, a, b]] = some (.bool false) := by rw [chain_fd L, h]
theorem below_self (n : Int) : below n (.int n) = false := by simp [below]
theorem below_neg (n : Int) : below n (.int (-1)) = false := by simp [below]
theorem cut_bad (L : Latin n sq) (a b : PyData) : FD F_is_chain [.tuple [.list ((sq.map rowD).drop 1), a, b]] = some (.bool false) := by
  have two := L.two
  have top := L.top
  have len : ((sq.map rowD).drop 1).length = n - 1 := by rw [List.length_drop, List.length_map, L.len]
  by_cases c : n - 1 < 2
  · exact chain_bad (square_short fun xs hx => by cases hx; rw [len]; exact c)
  · have rowlen : ∀ x ∈ (sq.map rowD).drop 1, ∃ r, x = rowD r ∧ r.length = n := fun x hx => by
      obtain ⟨r, hr, rfl⟩ := List.mem_map.mp (List.mem_of_mem_drop hx)
      exact ⟨r, rfl, (L.rows r hr).len⟩
    refine chain_bad (square_bad (by rw [len]; omega) (by rw [len]; omega) (fun x hx ys hy => ?_) ?_)
    · obtain ⟨r, rfl, hr⟩ := rowlen x hx
      cases hy
      rw [List.length_map]
      omega
    · have ne : 0 < ((sq.map rowD).drop 1).length := by rw [len]; omega
      refine ⟨((sq.map rowD).drop 1)[0], List.getElem_mem ne, ?_⟩
      obtain ⟨r, hr, hl⟩ := rowlen _ (List.getElem_mem ne)
      rw [hr, len]
      have d : ¬ ((r.length : Int) = ((n - 1 : Nat) : Int)) := by omega
      simp [rowD, eachB, d]
theorem flat_one {α : Type} (x : α) : ∀ k, (List.replicate k [x]).flatten = List.replicate k x
  | 0 => rfl
  | k + 1 => by rw [List.replicate_succ, List.flatten_cons, flat_one x k, List.replicate_succ]; rfl
theorem const_bad (L : Latin n sq) (a b : PyData) : FD F_is_chain [.tuple [.list (List.replicate n ((sq.map rowD).take 1)).flatten, a, b]] = some (.bool false) := by
  have two := L.two
  have top := L.top
  have h0 : 0 < sq.length := by rw [L.len]; omega
  obtain ⟨r, rs, e⟩ : ∃ r rs, sq = r :: rs := by
    cases sq with
    | nil => simp at h0
    | cons r rs => exact ⟨r, rs, rfl⟩
  have pr : IsP n r := L.rows r (by rw [e]; exact List.mem_cons_self ..)
  have e2 : (List.replicate n ((sq.map rowD).take 1)).flatten = (List.replicate n r).map rowD := by
    rw [e, List.map_cons, List.take_succ_cons, List.take_zero, List.map_replicate, flat_one]
  rw [e2]
  exact chain_bad (square_const two (by omega) pr)
theorem tried (L : Latin n sq) (s e : Int) : ∀ x ∈ T1 (sq.map rowD) n s e ++ T2 (sq.map rowD) n ++ T3 (sq.map rowD) n, FD F_is_chain [x] = some (.bool false) := by
  have one : 1 ≤ (sq.map rowD).length := by rw [List.length_map, L.len]; have := L.two; omega
  unfold T1 T2 T3
  rw [cut_tail _ one, cut_head _ one, Int.toNat_natCast]
  simp only [List.cons_append, List.nil_append, List.forall_mem_cons]
  refine ⟨chain_not rfl, chain_not rfl, chain_not rfl, chain_not rfl, chain_not rfl, chain_not rfl, chain_not rfl, chain_not rfl, bad_ab L (by rw [below_neg]; rfl), bad_ab L (by rw [below_self]; rfl), bad_ab L rfl,
    bad_ab L (by rw [below_self, Bool.and_false]), bad_ab L (Bool.and_false _), bad_ab L rfl, cut_bad L _ _, chain_bad (square_short fun xs hx => by cases hx), by kernel_rfl,
    bad_ab L (by rw [below_neg, Bool.and_false]), bad_ab L (Bool.and_false _), bad_ab L rfl, by kernel_rfl, by kernel_rfl, const_bad L _ _, fun x hx => by simp at hx⟩
end
end K47
end
section
set_option maxRecDepth 100000
set_option maxHeartbeats 2000000
/-! k50: what is reached -/
namespace K50
open PySem PySem.Spec PyProof.Rows L2 G N D K47
section
variable {sq : List (List Int)} {n : Nat}
theorem repM_ev {sd : PyData} {m : Int} {ρ : Rh} {h : Hd} (e0 : ρ[0]? = some (some (.d sd))) (l : lenD [sd] = some (.int m)) (hr : SE.repOk 1 m = true) : (SE.repM (SL.cons (SE.int 0) SL.nil) (SE.cb bLen (SL.cons (SE.var 0) SL.nil))).ev ρ h = .ok (.r h.length) (h ++ [.lst (ownI (List.replicate m.toNat 0))]) := by
  have e : (List.replicate m.toNat [PyData.int 0]).flatten = (List.replicate m.toNat (0 : Int)).map .int := by rw [flat_one, List.map_replicate]
  simp [e0, l, hr, e, ownI]
/-- the counts, told or own -/
def Cnt (h : Hd) (cv : Vd) (c : List Int) : Prop := cv = .d (rowD c) ∨ ∃ m, cv = .r m ∧ h[m]? = some (.lst (ownI c))
theorem frz_cnt {h : Hd} {cv : Vd} {c : List Int} (k : Cnt h cv c) {l : Ent} : ∃ h', frzL (h ++ [l]) [cv] = some ([rowD c], h') ∧ h'[h.length]? = some l := by
  rcases k with rfl | ⟨m, rfl, e⟩
  · exact ⟨h ++ [l], rfl, by simp⟩
  · have hm : m < h.length := (List.getElem?_eq_some_iff.mp e).1
    have e2 : (h ++ [l])[m]? = some (.lst ((c.map PyData.int).map .d)) := by rw [List.getElem?_append_left hm]; exact e
    refine ⟨(h ++ [l]).set m (.frz (.list (c.map .int))), ?_, ?_⟩
    · unfold frzL
      rw [mapH, frz_r e2]
      rfl
    · rw [List.getElem?_set_ne (by omega)]
      simp
def prs (c : List Int) : List (Nat × Int) := c.zipIdx.map fun p => (p.2, p.1)
theorem prs_enum (c : List Int) : enumD (c.map .int) = (prs c).map pairD := by
  unfold enumD prs
  rw [List.zipIdx_map, List.map_map, List.map_map]
  rfl
theorem prs_lt {c : List Int} (hc : c.length = n) : ∀ p ∈ prs c, p.1 < n := fun p hp => by
  obtain ⟨q, hq, rfl⟩ := List.mem_map.mp hp
  have := List.snd_lt_of_mem_zipIdx hq
  show q.2 < n
  omega
theorem prs_sum (c : List Int) : ((prs c).map (·.2)).sum = c.sum := by
  unfold prs
  rw [List.map_map]
  have : ((fun x : Nat × Int => x.2) ∘ fun p : Int × Nat => (p.2, p.1)) = Prod.fst := rfl
  rw [this, List.zipIdx_map_fst]
theorem enum_of {ρ : Rh} {h h' : Hd} {cv : Vd} {c : List Int} (e3 : ρ[3]? = some (some cv)) (f : frzL h [cv] = some ([rowD c], h')) : (SI.enum (SL.cons (SE.var 3) SL.nil)).ev ρ h = .ok ((prs c).map pairD) h' := by
  rw [SI.enum_ev, SL.cons_ev, SE.var_ev, e3]
  dsimp only
  rw [Oc.bind_ok, SL.nil_ev, Oc.bind_ok, Oc.bind_ok, f, ← prs_enum]
  rfl
theorem turn_r (L : Latin n sq) {b c2 t : Option Vd} {h : Hd} {cv : Vd} {c : List Int} (k : Cnt h cv c) (hc : c.length = n) (a5 a6 a7 a8 : Option Vd) :
    ∃ h' m b6 b7 b8, L_law_reached_2.run [some (.d (sqD sq)), b, c2, some cv, t, a5, a6, a7, a8] h = .nx [some (.d (sqD sq)), b, c2, some (.r m), t, some (.r m), b6, b7, b8] h' ∧ h'[m]? = some (.lst (ownI (List.replicate n c.sum))) := by
  have top := L.top
  obtain ⟨h1, f, e⟩ := frz_cnt k (l := .lst (ownI (List.replicate n 0)))
  have ro : SE.repOk 1 (n : Int) = true := by
    unfold SE.repOk
    rw [decide_eq_true (show (n : Int) ≤ 1000000 by omega), decide_eq_true (show (-1000000 : Int) ≤ n by omega), decide_eq_true (show 1 * (n : Int).toNat ≤ 1000000 by rw [Int.toNat_natCast]; omega)]
    rfl
  have rm := repM_ev (ρ := [some (.d (sqD sq)), b, c2, some cv, t, a5, a6, a7, a8]) (h := h) rfl (len_sq L) ro
  rw [Int.toNat_natCast] at rm
  obtain ⟨b6, b7, b8, z⟩ := adds_loop L (b := b) (c := c2) (d := some cv) (t := t) (i := h.length) (prs c) (List.replicate n 0) h1 a6 a7 a8 (prs_lt hc) e List.length_replicate
  rw [adds_all L _ (prs_lt hc), prs_sum] at z
  have hi : h.length < h1.length := (List.getElem?_eq_some_iff.mp e).1
  exact ⟨_, h.length, b6, b7, b8, seq_of (set_of rm) (seq_of (for_of (enum_of rfl f) z) (set_of rfl)), by rw [List.getElem?_set_self hi]⟩
end
end K50
end
section
set_option maxRecDepth 100000
set_option maxHeartbeats 2000000
/-! k50: the law's counts are the ways -/
namespace K50
open PySem PySem.Spec PyProof.Rows L2 G N D K47
section
variable {sq : List (List Int)} {n : Nat}
def iterC (n : Nat) (c : List Int) : Nat → List Int
  | 0 => c
  | k + 1 => iterC n (List.replicate n c.sum) k
theorem turns_r (L : Latin n sq) {b c2 : Option Vd} : ∀ (xs : List PyData) {h : Hd} {cv : Vd} {c : List Int} (k : Cnt h cv c) (hc : c.length = n) (t a5 a6 a7 a8 : Option Vd),
    ∃ h' cv' t' b5 b6 b7 b8, SS.forR (ST.name 4).put L_law_reached_2.run xs [some (.d (sqD sq)), b, c2, some cv, t, a5, a6, a7, a8] h = .nx [some (.d (sqD sq)), b, c2, some cv', t', b5, b6, b7, b8] h' ∧ Cnt h' cv' (iterC n c xs.length)
  | [], h, cv, c, k, hc, t, a5, a6, a7, a8 => ⟨h, cv, t, a5, a6, a7, a8, rfl, k⟩
  | x :: xs, h, cv, c, k, hc, t, a5, a6, a7, a8 => by
    obtain ⟨h1, m, b6, b7, b8, z1, e1⟩ := turn_r L (b := b) (c2 := c2) (t := some (.d x)) k hc a5 a6 a7 a8
    obtain ⟨h2, cv2, t2, d5, d6, d7, d8, z2, k2⟩ := turns_r L xs (c := List.replicate n c.sum) (.inr ⟨m, rfl, e1⟩) List.length_replicate (some (.d x)) (some (.r m)) b6 b7 b8
    exact ⟨h2, cv2, t2, d5, d6, d7, d8, forR_step rfl z1 z2, k2⟩
def waysL (n : Nat) (s : Int) (k : Nat) : List Int := (List.range n).map fun (y : Nat) => ways n s y k
theorem sum_rep (v : Int) : ∀ m : Nat, (List.replicate m v).sum = (m : Int) * v
  | 0 => by simp
  | m + 1 => by
    rw [List.replicate_succ, List.sum_cons, sum_rep v m, Int.natCast_succ, Int.add_mul, Int.one_mul, Int.add_comm]
theorem sum_ind (s : Int) : ∀ m : Nat, ((List.range m).map fun (y : Nat) => if s = (y : Int) then (1 : Int) else 0).sum = if 0 ≤ s ∧ s < (m : Int) then 1 else 0
  | 0 => by
    rw [if_neg (by omega)]
    rfl
  | m + 1 => by
    rw [List.range_succ, List.map_append, List.sum_append, sum_ind s m]
    show _ + ((if s = (m : Int) then (1 : Int) else 0) + 0) = _
    by_cases h : s = (m : Int)
    · rw [if_pos h, if_neg (by omega), if_pos (by omega)]
      rfl
    · rw [if_neg h]
      by_cases h2 : 0 ≤ s ∧ s < (m : Int)
      · rw [if_pos h2, if_pos (by omega)]
        rfl
      · rw [if_neg h2, if_neg (by omega)]
        rfl
theorem iter_rep (v : Int) : ∀ k : Nat, iterC n (List.replicate n v) k = List.replicate n (v * (n : Int) ^ k)
  | 0 => by rw [Int.pow_zero, Int.mul_one]; rfl
  | k + 1 => by
    rw [iterC, iter_rep _ k, sum_rep, Int.pow_succ, Int.mul_comm ((n : Int)) v, Int.mul_assoc, Int.mul_comm ((n : Int)) ((n : Int) ^ k)]
theorem rep_map {α : Type} (v : α) : ∀ m : Nat, (List.range m).map (fun _ => v) = List.replicate m v := fun m => by
  rw [List.map_const', List.length_range]
theorem iter_ways {s : Int} (hs : In n s) : ∀ k : Nat, iterC n (waysL n s 0) k = waysL n s k
  | 0 => rfl
  | k + 1 => by
    have one : (waysL n s 0).sum = 1 := by
      show ((List.range n).map fun (y : Nat) => if s = (y : Int) then (1 : Int) else 0).sum = 1
      rw [sum_ind, if_pos ⟨hs.1, hs.2⟩]
    rw [iterC, one, iter_rep, Int.one_mul]
    exact (rep_map _ n).symm
theorem ind_ev {x s : Int} {a c d e f h2 i : Option Vd} {h : Hd} : (SE.cb bInt (SL.cons (SE.op oEq (SE.var 6) (SE.var 1)) SL.nil)).ev [a, some (.d (.int s)), c, d, e, f, some (.d (.int x)), h2, i] h = .ok (.d (.int (if s = x then 1 else 0))) h := by
  by_cases k : s = x
  · simp [k]
  · have k2 : ¬ x = s := fun z => k z.symm
    simp [k, k2]
theorem rlen_ev {sd : PyData} {m : Int} {a b c d e f g i : Option Vd} {h : Hd} (l : lenD [sd] = some (.int m)) : (SL.cons (SE.cb bLen (SL.cons (SE.var 0) SL.nil)) SL.nil).ev [some (.d sd), a, b, c, d, e, f, g, i] h = .ok [.d (.int m)] h := by
  simp [l]
theorem reached_fd (L : Latin n sq) {s : Int} (hs : In n s) {k : Nat} (hk : k ≤ 1000) : FD F_law_reached [sqD sq, .int s, .int k] = some (rowD (waysL n s k)) := by
  have top := L.top
  have z0 := lcY_of (it := SI.rng1 (SL.cons (SE.cb bLen (SL.cons (SE.var 0) SL.nil)) SL.nil)) (tg := ST.name 6) (g := SE.cb bInt (SL.cons (SE.op oEq (SE.var 6) (SE.var 1)) SL.nil)) (ρ := startN 9 [.d (sqD sq), .d (.int s), .d (.int k)]) (h := []) (h1 := []) (xs := SI.rng 0 (n : Int)) (fun x => .int (if s = toInt x then 1 else 0)) (rng1_of (n := (n : Int)) (rlen_ev (len_sq L)) (by omega) (by omega)) (by rw [rng_len]; omega) fun x hx => by
    obtain ⟨i, rfl, hi⟩ := mem_rng hx
    exact ⟨_, rfl, ind_ev⟩
  have e0 : (SI.rng 0 (n : Int)).map (fun x => PyData.int (if s = toInt x then 1 else 0)) = (waysL n s 0).map .int := by
    rw [map_rng n fun x => PyData.int (if s = x then 1 else 0)]
    unfold waysL
    rw [List.map_map]
    rfl
  rw [e0] at z0
  obtain ⟨h', cv, t, b5, b6, b7, b8, z, kc⟩ := turns_r L (b := some (.d (.int s))) (c2 := some (.d (.int k))) (SI.rng 0 (k : Int)) (h := []) (cv := .d (rowD (waysL n s 0))) (c := waysL n s 0) (.inl rfl) (by unfold waysL; rw [List.length_map, List.length_range]) none none none none none
  rw [rng_len, Int.sub_zero, Int.toNat_natCast, iter_ways hs] at kc
  have run : F_law_reached [.d (sqD sq), .d (.int s), .d (.int k)] [] = .ok cv h' := runDef_rt rfl (seq_of (set_of z0) (seq_of (for_of (rng1_of (n := (k : Int)) rfl (by omega) (by omega)) z) (ret_of rfl)))
  rcases kc with rfl | ⟨m, rfl, e⟩
  · exact fd_of run
  · exact fd_own run e
end
end K50
end
section
set_option maxRecDepth 100000
set_option maxHeartbeats 2000000
/-! k50: the law's sum -/
namespace K50
open PySem PySem.Spec PyProof.Rows L2 G N D K47
section
variable {sq : List (List Int)} {n : Nat} {s e : Int}
theorem getD_ways {f : Nat → Int} {y : Int} (h : In n y) : ((List.range n).map f).getD y.toNat 0 = f y.toNat := by
  have hy : y.toNat < n := by have := h.1; have := h.2; omega
  exact getD_range f hy 0
theorem ix_ways {f : Int → Int} {y : Int} (h : In n y) : ixD (rowD ((List.range n).map fun (i : Nat) => f i)) (.int y) = some (.int (f y)) := by
  rw [ix_row h.1 (by rw [List.length_map, List.length_range]; exact h.2), getD_ways h, Int.toNat_of_nonneg h.1]
theorem cshare_ev {sd r1 r2 ah bh : PyData} {c0 c1 c2 c4 c5 : Option Vd} {acc x a b i1 l f g : Int} {h : Hd} (e1 : ixD sd (.int x) = some r1) (e2 : ixD r1 (.int a) = some (.int i1)) (e3 : ixD sd (.int i1) = some r2) (e4 : ixD r2 (.int b) = some (.int l))
    (w1 : ixD ah (.int x) = some (.int f)) (w2 : ixD bh (.int l) = some (.int g)) (m1 : sm f = true) (m2 : sm (2 * f) = true) (m3 : sm g = true) :
    L_law_counted_v2_0.run [c0, c1, c2, some (.d sd), c4, c5, some (.d ah), some (.d (.int acc)), some (.d bh), some (.d (.int x)), some (.d (.int a)), some (.d (.int b))] h = .nx [c0, c1, c2, some (.d sd), c4, c5, some (.d ah), some (.d (.int (acc + 2 * f * g))), some (.d bh), some (.d (.int x)), some (.d (.int a)), some (.d (.int b))] h := by
  have n2 : sm 2 = true := by decide +kernel
  simp [L_law_counted_v2_0, e1, e2, e3, e4, w1, w2, m1, m2, m3, n2]
def behL (n : Nat) (e : Int) (q : Nat) : List Int := (List.range n).map fun (x : Nat) => ways n x e q
theorem count_loop (L : Latin n sq) {p q : Nat} (hp : p ≤ 100) (hq : q ≤ 100) (k0 k1 k2 k4 k5 : Option Vd) (h : Hd) : ∀ (ts : List PyData) (acc : Int) (a9 a10 a11 : Option Vd), Trips n ts →
    ∃ b9 b10 b11, SS.forR (ST.tup (STs.cons (ST.name 9) (STs.cons (ST.name 10) (STs.cons (ST.name 11) STs.nil)))).put L_law_counted_v2_0.run ts [k0, k1, k2, some (.d (sqD sq)), k4, k5, some (.d (rowD (waysL n s p))), some (.d (.int acc)), some (.d (rowD (behL n e q))), a9, a10, a11] h =
      .nx [k0, k1, k2, some (.d (sqD sq)), k4, k5, some (.d (rowD (waysL n s p))), some (.d (.int (acc + total (fun x => ways n s x p) (fun y => ways n y e q) sq ts))), some (.d (rowD (behL n e q))), b9, b10, b11] h
  | [], acc, a9, a10, a11, _ => ⟨a9, a10, a11, by simp [total, SS.forR]⟩
  | t :: ts, acc, a9, a10, a11, ht => by
    have top := L.top
    obtain ⟨x, a, b, rfl, hx, ha, hb⟩ := ht t (List.mem_cons_self ..)
    have h1 := at_in L hx ha
    have h2 := at_in L h1 hb
    have st := cshare_ev (c0 := k0) (c1 := k1) (c2 := k2) (c4 := k4) (c5 := k5) (acc := acc) (h := h) (ix_sq L hx) (ix_at L hx ha) (ix_sq L h1) (ix_at L h1 hb) (ix_ways (f := fun y => ways n s y p) hx) (ix_ways (f := fun y => ways n y e q) h2) (sm_w top _ _ hp) (sm_2w top _ _ hp) (sm_w top _ _ hq)
    obtain ⟨b9, b10, b11, z⟩ := count_loop L hp hq k0 k1 k2 k4 k5 h ts (acc + 2 * ways n s x p * ways n (at2 sq (at2 sq x a) b) e q) (some (.d (.int x))) (some (.d (.int a))) (some (.d (.int b))) fun y hy => ht y (List.mem_cons_of_mem _ hy)
    refine ⟨b9, b10, b11, forR_step rfl st (z.trans ?_)⟩
    have e9 : acc + 2 * ways n s x p * ways n (at2 sq (at2 sq x a) b) e q + total (fun x => ways n s x p) (fun y => ways n y e q) sq ts = acc + total (fun x => ways n s x p) (fun y => ways n y e q) sq (trip x a b :: ts) := by
      unfold total
      rw [List.map_cons, List.sum_cons, Int.add_assoc]
      rfl
    rw [e9]
theorem beh_ev {sd row : PyData} {x e l p q v : Int} {a0 a4 a6 a7 a8 a10 a11 : Option Vd} {h : Hd} (hq : l - p - 2 = q) (r : FD F_law_reached [sd, .int x, .int q] = some row) (i : ixD row (.int e) = some (.int v)) :
    (SE.ix (SE.call F_law_reached (SL.cons (SE.var 3) (SL.cons (SE.var 9) (SL.cons (SE.op oSub (SE.op oSub (SE.var 1) (SE.var 2)) (SE.int 2)) SL.nil)))) (SE.var 5)).ev [a0, some (.d (.int l)), some (.d (.int p)), some (.d sd), a4, some (.d (.int e)), a6, a7, a8, some (.d (.int x)), a10, a11] h = .ok (.d (.int v)) h := by
  simp [hq, r, i]
theorem clen_ev {sd : PyData} {m : Int} {a0 a1 a2 a4 a5 a6 a7 a8 a9 a10 a11 : Option Vd} {h : Hd} (l : lenD [sd] = some (.int m)) : (SL.cons (SE.cb bLen (SL.cons (SE.var 3) SL.nil)) SL.nil).ev [a0, a1, a2, some (.d sd), a4, a5, a6, a7, a8, a9, a10, a11] h = .ok [.d (.int m)] h := by
  simp [l]
theorem par_ev {sd ah : PyData} {s p : Int} {a0 a1 a5 : Option Vd} {h : Hd} (r : FD F_law_reached [sd, .int s, .int p] = some ah) : S_law_counted_v2_1.run [a0, a1, some (.d (.int p)), some (.d sd), some (.d (.int s)), a5, none, none, none, none, none, none] h = .nx [a0, a1, some (.d (.int p)), some (.d sd), some (.d (.int s)), a5, some (.d ah), some (.d (.int 0)), none, none, none, none] h := by
  simp [S_law_counted_v2_1, r]
theorem csw_ev {sd : PyData} {ts : List PyData} {a0 a1 a2 a4 a5 a6 a7 a8 a9 a10 a11 : Option Vd} {h : Hd} (r : FD F_law_swaps [sd] = some (.list ts)) : (SI.seq (SE.call F_law_swaps (SL.cons (SE.var 3) SL.nil))).ev [a0, a1, a2, some (.d sd), a4, a5, a6, a7, a8, a9, a10, a11] h = .ok ts h := by
  simp [r, seqD]
theorem counted_fd (L : Latin n sq) (hs : In n s) (he : In n e) {l p : Nat} (hl : l ≤ 100) (hp : p + 2 ≤ l) : FD F_law_counted_v2 [chD sq s e, .int l, .int p] = some (.int (total (fun x => ways n s x p) (fun y => ways n y e (l - p - 2)) sq (swaps sq n))) := by
  have top := L.top
  have hq : (l : Int) - (p : Int) - 2 = ((l - p - 2 : Nat) : Int) := by omega
  obtain ⟨b9, b10, b11, z⟩ := count_loop (s := s) (e := e) L (p := p) (q := l - p - 2) (by omega) (by omega) (some (.d (chD sq s e))) (some (.d (.int l))) (some (.d (.int p))) (some (.d (.int s))) (some (.d (.int e))) [] (swaps sq n) 0 none none none (swaps_trips sq n)
  rw [Int.zero_add] at z
  have zb := lcY_of (it := SI.rng1 (SL.cons (SE.cb bLen (SL.cons (SE.var 3) SL.nil)) SL.nil)) (tg := ST.name 9) (g := SE.ix (SE.call F_law_reached (SL.cons (SE.var 3) (SL.cons (SE.var 9) (SL.cons (SE.op oSub (SE.op oSub (SE.var 1) (SE.var 2)) (SE.int 2)) SL.nil)))) (SE.var 5))
    (ρ := [some (.d (chD sq s e)), some (.d (.int l)), some (.d (.int p)), some (.d (sqD sq)), some (.d (.int s)), some (.d (.int e)), some (.d (rowD (waysL n s p))), some (.d (.int 0)), none, none, none, none]) (h := []) (h1 := []) (xs := SI.rng 0 (n : Int)) (fun x => .int (ways n (toInt x) e (l - p - 2))) (rng1_of (n := (n : Int)) (clen_ev (len_sq L)) (by omega) (by omega)) (by rw [rng_len]; omega) fun x hx => by
    obtain ⟨i, rfl, hi⟩ := mem_rng hx
    exact ⟨_, rfl, beh_ev hq (reached_fd L (s := (i : Int)) ⟨by omega, hi⟩ (by omega)) (ix_ways (f := fun y => ways n (i : Int) y (l - p - 2)) he)⟩
  have e0 : (SI.rng 0 (n : Int)).map (fun x => PyData.int (ways n (toInt x) e (l - p - 2))) = (behL n e (l - p - 2)).map .int := by
    rw [map_rng n fun x => PyData.int (ways n x e (l - p - 2))]
    unfold behL
    rw [List.map_map]
    rfl
  rw [e0] at zb
  exact fd_of (h1 := []) (runDef_rt rfl (seq_of (ρ1 := [some (.d (chD sq s e)), some (.d (.int l)), some (.d (.int p)), some (.d (sqD sq)), some (.d (.int s)), some (.d (.int e)), none, none, none, none, none, none]) (h1 := []) rfl (seq_of (par_ev (reached_fd L hs (by omega))) (seq_of (set_of zb) (seq_of (for_of (csw_ev (lswaps_fd L)) z) (ret_of rfl))))))
end
end K50
end
section
set_option maxRecDepth 100000
set_option maxHeartbeats 2000000
/-! k50: the law's count of all lists -/
namespace K50
open PySem PySem.Spec PyProof.Rows L2 G N D K47
section
variable {sq : List (List Int)} {n : Nat} {s e : Int}
theorem last_step {ch sd r : PyData} {x y z : Int} {c : Option Vd} {h : Hd} (i0 : ixD ch (.int 0) = some sd) (i1 : ixD sd (.int x) = some r) (i2 : ixD r (.int y) = some (.int z)) : L_law_last_v2_0.run [some (.d ch), c, some (.d (.int x)), some (.d (.int y))] h = .nx [some (.d ch), c, some (.d (.int z)), some (.d (.int y))] h := by
  simp [L_law_last_v2_0, i0, i1, i2]
theorem last_loop (L : Latin n sq) {b : Option Vd} {h : Hd} : ∀ (cs : List Int) (x : Int) (v : Option Vd), In n x → Ins n cs →
    ∃ v', SS.forR (ST.name 3).put L_law_last_v2_0.run (cs.map .int) [some (.d (chD sq s e)), b, some (.d (.int x)), v] h = .nx [some (.d (chD sq s e)), b, some (.d (.int (fin sq x cs))), v'] h
  | [], x, v, _, _ => ⟨v, rfl⟩
  | c :: cs, x, v, hx, hc => by
    have hc0 := hc c (List.mem_cons_self ..)
    obtain ⟨v', z⟩ := last_loop L cs (at2 sq x c) (some (.d (.int c))) (at_in L hx hc0) fun y hy => hc y (List.mem_cons_of_mem _ hy)
    exact ⟨v', forR_step rfl (last_step rfl (ix_sq L hx) (ix_at L hx hc0)) z⟩
theorem last_fd (L : Latin n sq) (hs : In n s) {cs : List Int} (hc : Ins n cs) : FD F_law_last_v2 [chD sq s e, rowD cs] = some (.int (fin sq s cs)) := by
  obtain ⟨v, z⟩ := last_loop (s := s) (e := e) L (b := some (.d (rowD cs))) (h := []) cs s none hs hc
  exact fd_of (h1 := []) (runDef_rt rfl (seq_of (ρ1 := [some (.d (chD sq s e)), some (.d (rowD cs)), some (.d (.int s)), none]) (h1 := []) rfl (seq_of (for_of (es := cs.map .int) rfl z) (ret_of rfl))))
/-- a list with its signs at a place and the next one exchanged -/
def exch (c : List Int) (p : Nat) : List Int := c.take p ++ [c.getD (p + 1) 0, c.getD p 0] ++ c.drop (p + 2)
def slipB (sq : List (List Int)) (s e : Int) (p : Nat) (c : List Int) : Bool := decide (c.getD p 0 ≠ c.getD (p + 1) 0) && (decide (fin sq s c = e) && decide (fin sq s (exch c p) = e))
theorem exch_ins {c : List Int} (h : Ins n c) {p : Nat} (hp : p + 1 < c.length) : Ins n (exch c p) := fun y hy => by
  unfold exch at hy
  rcases List.mem_append.mp hy with hy | hy
  · rcases List.mem_append.mp hy with hy | hy
    · exact ins_take h p y hy
    · rcases List.mem_cons.mp hy with rfl | hy
      · exact h _ (K47.getD_mem hp)
      · rw [List.mem_singleton.mp hy]
        exact h _ (K47.getD_mem (by omega))
  · exact ins_drop h _ y hy
theorem sl_from2 {ρ : Rh} {h : Hd} {i j : Nat} {c : List Int} {p : Nat} (e1 : ρ[i]? = some (some (.d (rowD c)))) (e2 : ρ[j]? = some (some (.d (.int p)))) (hp : p + 2 ≤ c.length) : (SE.sl (SE.var i) (SO.some (SE.op oAdd (SE.var j) (SE.int 2))) SO.none).ev ρ h = .ok (.d (rowD (c.drop (p + 2)))) h := by
  have k : G.cutD (c.map .int) (some ((p : Int) + 2)) none = (c.drop (p + 2)).map .int := by
    have := cut_from (c.map .int) (p := p + 2) (by rw [List.length_map]; exact hp)
    rw [show (((p + 2 : Nat)) : Int) = (p : Int) + 2 by omega] at this
    rw [this, List.map_drop]
  generalize (p : Int) = p' at e2 k
  simp [e1, e2, rowD, itemsD, k]
end
end K50
end
section
set_option maxRecDepth 100000
set_option maxHeartbeats 2000000
/-! k50: the law's count of all lists, list by list -/
namespace K50
open PySem PySem.Spec PyProof.Rows L2 G N D K47
section
variable {sq : List (List Int)} {n : Nat} {s e : Int}
def exSE : SE := SE.op oAdd (SE.op oAdd (SE.sl (SE.var 4) SO.none (SO.some (SE.var 2))) (SE.lst (SL.cons (SE.var 6) (SL.cons (SE.var 5) SL.nil)))) (SE.sl (SE.var 4) (SO.some (SE.op oAdd (SE.var 2) (SE.int 2))) SO.none)
theorem exch_ev {c : List Int} {p : Nat} {a b : Int} {ρ : Rh} {h : Hd} (e2 : ρ[2]? = some (some (.d (.int p)))) (e4 : ρ[4]? = some (some (.d (rowD c)))) (e5 : ρ[5]? = some (some (.d (.int a)))) (e6 : ρ[6]? = some (some (.d (.int b)))) (hp : p + 2 ≤ c.length) (hl : c.length ≤ 1000) :
    exSE.ev ρ h = .ok (.d (rowD (c.take p ++ [b, a] ++ c.drop (p + 2)))) h := by
  have m : (SE.lst (SL.cons (SE.var 6) (SL.cons (SE.var 5) SL.nil))).ev ρ h = .ok (.d (rowD [b, a])) h := by simp [e5, e6, rowD]
  rw [exSE, SE.op_ev, SE.op_ev, sl_to e4 e2 (by omega), Oc.bind_ok, m, Oc.bind_ok, fnV2, f2_2, oAdd_f, add_rows (by rw [List.length_take]; simp; omega)]
  dsimp only
  rw [Oc.bind_ok, sl_from2 e4 e2 hp, Oc.bind_ok, fnV2, f2_2, add_rows (by rw [List.length_append, List.length_take, List.length_drop]; simp; omega)]
theorem one_slip {ch row : PyData} {ex : PyData} {p a b f1 f2 E acc : Int} {l : Option Vd} (i2 : ixD ch (.int 2) = some (.int E)) (l1 : FD F_law_last_v2 [ch, row] = some (.int f1)) (l2 : FD F_law_last_v2 [ch, ex] = some (.int f2))
    (xe : exSE.ev [some (.d ch), l, some (.d (.int p)), some (.d (.int acc)), some (.d row), some (.d (.int a)), some (.d (.int b))] [] = .ok (.d ex) []) (ia : ixD row (.int p) = some (.int a)) (ib : ixD row (.int (p + 1)) = some (.int b)) (x5 x6 : Option Vd) :
    L_law_slips_0.run [some (.d ch), l, some (.d (.int p)), some (.d (.int acc)), some (.d row), x5, x6] [] = .nx [some (.d ch), l, some (.d (.int p)), some (.d (.int (acc + if (decide (a ≠ b) && (decide (f1 = E) && decide (f2 = E))) = true then 1 else 0))), some (.d row), some (.d (.int a)), some (.d (.int b))] [] := by
  refine seq_of (ρ1 := [some (.d ch), l, some (.d (.int p)), some (.d (.int acc)), some (.d row), some (.d (.int a)), some (.d (.int b))]) (h1 := []) (by simp [ia, ib]) ?_
  by_cases c1 : a = b
  · refine ite_f (h1 := []) (by simp [c1]) ?_
    simp [c1]
  · by_cases c2 : f1 = E
    · refine ite_t (h1 := []) (by simp [c1, c2, l1, i2]) (set_of (x := .d (.int (acc + if (decide (a ≠ b) && (decide (f1 = E) && decide (f2 = E))) = true then 1 else 0))) ?_)
      show (SE.op oAdd (SE.var 3) (SE.cb bInt (SL.cons (SE.op oEq (SE.call F_law_last_v2 (SL.cons (SE.var 0) (SL.cons exSE SL.nil))) (SE.ix (SE.var 0) (SE.int 2))) SL.nil))).ev _ _ = _
      by_cases c3 : f2 = E <;> simp [xe, l2, i2, c1, c2, c3]
    · refine ite_f (h1 := []) (by simp [c1, c2, l1, i2]) ?_
      simp [c1, c2]
theorem slips_loop (L : Latin n sq) (hs : In n s) {p : Nat} {l : Option Vd} : ∀ (cs : List (List Int)) (acc : Int) (x4 x5 x6 : Option Vd), (∀ c ∈ cs, Ins n c ∧ p + 2 ≤ c.length ∧ c.length ≤ 1000) →
    ∃ y4 y5 y6, SS.forR (ST.name 4).put L_law_slips_0.run (cs.map rowD) [some (.d (chD sq s e)), l, some (.d (.int p)), some (.d (.int acc)), x4, x5, x6] [] = .nx [some (.d (chD sq s e)), l, some (.d (.int p)), some (.d (.int (acc + ((cs.filter (slipB sq s e p)).length : Nat)))), y4, y5, y6] []
  | [], acc, x4, x5, x6, _ => ⟨x4, x5, x6, by simp [SS.forR]⟩
  | c :: cs, acc, x4, x5, x6, h => by
    obtain ⟨hc, hp, hl⟩ := h c (List.mem_cons_self ..)
    have ia : ixD (rowD c) (.int p) = some (.int (c.getD p 0)) := by
      rw [ix_row (by omega) (by omega), Int.toNat_natCast]
    have ib : ixD (rowD c) (.int ((p : Int) + 1)) = some (.int (c.getD (p + 1) 0)) := by
      rw [ix_row (by omega) (by omega), show ((p : Int) + 1).toNat = p + 1 by omega]
    have st := one_slip (ch := chD sq s e) (acc := acc) (l := l) (E := e) rfl (last_fd (s := s) (e := e) L hs hc) (last_fd (s := s) (e := e) L hs (exch_ins hc (p := p) (by omega))) (exch_ev rfl rfl rfl rfl hp hl) ia ib x5 x6
    obtain ⟨y4, y5, y6, z⟩ := slips_loop L hs cs (acc + if slipB sq s e p c = true then 1 else 0) (some (.d (rowD c))) (some (.d (.int (c.getD p 0)))) (some (.d (.int (c.getD (p + 1) 0)))) fun d hd => h d (List.mem_cons_of_mem _ hd)
    refine ⟨y4, y5, y6, forR_step rfl st (z.trans ?_)⟩
    have e9 : (acc + if slipB sq s e p c = true then 1 else 0) + ((cs.filter (slipB sq s e p)).length : Nat) = acc + (((c :: cs).filter (slipB sq s e p)).length : Nat) := by
      cases k : slipB sq s e p c with
      | true => rw [List.filter_cons_of_pos k, List.length_cons, if_pos rfl]; omega
      | false => rw [List.filter_cons_of_neg (by simp [k]), if_neg (by decide)]; omega
    rw [e9]
end
end K50
end
section
set_option maxRecDepth 100000
set_option maxHeartbeats 2000000
/-! k50: the law's count; lists cut in two -/
namespace K50
open PySem PySem.Spec PyProof.Rows L2 G N D K47
section
variable {sq : List (List Int)} {n : Nat} {s e : Int}
theorem codes_it {ch sd : PyData} {m t : Int} {xs : List PyData} {p f c5 c6 c7 : Option Vd} {h : Hd} (i : ixD ch (.int 0) = some sd) (l : lenD [sd] = some (.int m)) (al : FD F_law_all_codes [.int m, .int t] = some (.list xs)) :
    (SI.seq (SE.call F_law_all_codes (SL.cons (SE.cb bLen (SL.cons (SE.ix (SE.var 0) (SE.int 0)) SL.nil)) (SL.cons (SE.var 1) SL.nil)))).ev [some (.d ch), some (.d (.int t)), p, f, c5, c6, c7] h = .ok xs h := by
  simp [i, l, al, seqD]
theorem slips_fd (L : Latin n sq) (hs : In n s) {l p : Nat} (hl : l ≤ 4) (hp : p + 2 ≤ l) (hz : n ^ l ≤ 1000000) : FD F_law_slips [chD sq s e, .int l, .int p] = some (.int (((allC n l).filter (slipB sq s e p)).length : Nat)) := by
  have two := L.two
  obtain ⟨y4, y5, y6, z⟩ := slips_loop (e := e) L hs (p := p) (l := some (.d (.int l))) (allC n l) 0 none none none fun c hc => by
    obtain ⟨h1, h2⟩ := allC_mem hc
    exact ⟨h2, by omega, by omega⟩
  rw [Int.zero_add] at z
  exact fd_of (h1 := []) (runDef_rt rfl (seq_of (ρ1 := [some (.d (chD sq s e)), some (.d (.int l)), some (.d (.int p)), some (.d (.int 0)), none, none, none]) (h1 := []) rfl (seq_of (for_of (codes_it rfl (len_sq L) (all_fd (by omega) L.top hl hz)) z) (ret_of rfl))))
theorem ext_app (c d : List Int) : ext n (c ++ d) = (ext n d).map (c ++ ·) := by
  unfold ext
  rw [List.map_map]
  apply List.map_congr_left
  intro i _
  show c ++ d ++ [(i : Int)] = c ++ (d ++ [(i : Int)])
  rw [List.append_assoc]
theorem allC_add (n k : Nat) : ∀ m, allC n (k + m) = (allC n k).flatMap fun c => (allC n m).map (c ++ ·)
  | 0 => by
    show allC n k = (allC n k).flatMap fun c => [c ++ []]
    simp
  | m + 1 => by
    show (allC n (k + m)).flatMap (ext n) = (allC n k).flatMap fun c => ((allC n m).flatMap (ext n)).map (c ++ ·)
    rw [allC_add n k m, List.flatMap_assoc]
    refine congrArg (fun f => (allC n k).flatMap f) (funext fun c => ?_)
    rw [List.flatMap_map, List.map_flatMap]
    refine congrArg (fun f => (allC n m).flatMap f) (funext fun d => ?_)
    exact ext_app c d
/-- how many lists of a length lead from one state to another -/
theorem lead (L : Latin n sq) {y : Int} (hy : In n y) (he : In n e) : ∀ q, (((allC n q).filter fun c => decide (fin sq y c = e)).length : Int) = ways n y e q
  | 0 => by
    show (((([[]] : List (List Int)).filter fun c => decide (fin sq y c = e)).length : Nat) : Int) = if y = e then 1 else 0
    by_cases c : y = e
    · rw [if_pos c, List.filter_cons_of_pos (by show decide (y = e) = true; exact decide_eq_true c)]
      rfl
    · rw [if_neg c, List.filter_cons_of_neg (by show ¬ decide (y = e) = true; rw [decide_eq_false c]; decide)]
      rfl
  | q + 1 => by
    rw [count L hy he q, Int.natCast_pow]
    rfl
end
end K50
end
section
set_option maxRecDepth 100000
set_option maxHeartbeats 2000000
/-! k50: one list cut in three -/
namespace K50
open PySem PySem.Spec PyProof.Rows L2 G N D K47
section
variable {sq : List (List Int)} {n : Nat} {s e : Int}
theorem fin_app (sq : List (List Int)) (s : Int) (a b : List Int) : fin sq s (a ++ b) = fin sq (fin sq s a) b := by
  unfold fin
  rw [List.foldl_append]
theorem exch_cut {pre post : List Int} {a b : Int} {p : Nat} (hp : pre.length = p) : exch (pre ++ ([a, b] ++ post)) p = pre ++ ([b, a] ++ post) := by
  unfold exch
  have h0 : (pre ++ ([a, b] ++ post)).getD p 0 = a := by rw [List.getD_eq_getElem?_getD, List.getElem?_append_right (by omega), hp, Nat.sub_self]; rfl
  have h1 : (pre ++ ([a, b] ++ post)).getD (p + 1) 0 = b := by rw [List.getD_eq_getElem?_getD, List.getElem?_append_right (by omega), hp, show p + 1 - p = 1 by omega]; rfl
  rw [h0, h1, List.take_left' hp, List.drop_append, hp, show p + 2 - p = 2 by omega, List.drop_of_length_le (by omega), List.nil_append, List.append_assoc]
  rfl
theorem slip_cut (L : Latin n sq) (hs : In n s) (he : In n e) {pre post : List Int} {a b : Int} {p : Nat} (hp : pre.length = p) (h1 : Ins n pre) (h2 : Ins n post) (ha : In n a) (hb : In n b) :
    slipB sq s e p (pre ++ ([a, b] ++ post)) = (decide (a ≠ b) && (hit sq (fin sq s pre) a b && decide (fin sq (at2 sq (at2 sq (fin sq s pre) a) b) post = e))) := by
  have g0 : (pre ++ ([a, b] ++ post)).getD p 0 = a := by rw [List.getD_eq_getElem?_getD, List.getElem?_append_right (by omega), hp, Nat.sub_self]; rfl
  have g1 : (pre ++ ([a, b] ++ post)).getD (p + 1) 0 = b := by rw [List.getD_eq_getElem?_getD, List.getElem?_append_right (by omega), hp, show p + 1 - p = 1 by omega]; rfl
  unfold slipB
  rw [exch_cut hp, g0, g1, fin_app sq s pre ([a, b] ++ post), fin_app sq (fin sq s pre) [a, b] post, fin_app sq s pre ([b, a] ++ post), fin_app sq (fin sq s pre) [b, a] post]
  have hx := fin_in L hs h1
  generalize fin sq s pre = x at *
  show (decide (a ≠ b) && (decide (fin sq (at2 sq (at2 sq x a) b) post = e) && decide (fin sq (at2 sq (at2 sq x b) a) post = e))) = _
  have y1 := at_in L (at_in L hx ha) hb
  have y2 := at_in L (at_in L hx hb) ha
  have i1 := back_iff L he (cs := post) y1 h2
  have i2 := back_iff L he (cs := post) y2 h2
  unfold hit
  refine congrArg (decide (a ≠ b) && ·) ?_
  by_cases c : fin sq (at2 sq (at2 sq x a) b) post = e
  · rw [decide_eq_true c, Bool.true_and, Bool.and_true]
    refine decide_eq_decide.mpr ?_
    rw [i2, ← i1.mp c]
    exact ⟨fun z => z.symm, fun z => z.symm⟩
  · rw [decide_eq_false c, Bool.false_and, Bool.and_false]
end
/-- a symmetric sum over pairs is twice that over ascending ones -/
theorem sum_flat {α : Type} (f : α → List Int) : ∀ l : List α, (l.flatMap f).sum = (l.map fun x => (f x).sum).sum
  | [] => rfl
  | x :: l => by rw [List.flatMap_cons, List.sum_append, sum_flat f l, List.map_cons, List.sum_cons]
end K50
end
section
set_option maxRecDepth 100000
set_option maxHeartbeats 2000000
/-! k50: sums over ranges -/
namespace K50
open PySem PySem.Spec PyProof.Rows L2 G N D K47
def S (n : Nat) (f : Nat → Int) : Int := ((List.range n).map f).sum
theorem S_zero (f : Nat → Int) : S 0 f = 0 := rfl
theorem S_succ (n : Nat) (f : Nat → Int) : S (n + 1) f = S n f + f n := by
  unfold S
  rw [List.range_succ, List.map_append, List.sum_append, List.map_singleton, List.sum_singleton]
theorem S_congr {n : Nat} {f g : Nat → Int} (h : ∀ i, i < n → f i = g i) : S n f = S n g := by
  unfold S
  refine congrArg List.sum (List.map_congr_left fun i hi => h i (List.mem_range.mp hi))
theorem S_add (n : Nat) (f g : Nat → Int) : S n (fun i => f i + g i) = S n f + S n g := by
  induction n with
  | zero => rfl
  | succ n ih => rw [S_succ, S_succ, S_succ, ih]; omega
theorem S_mul (c : Int) (n : Nat) (f : Nat → Int) : S n (fun i => c * f i) = c * S n f := by
  induction n with
  | zero => show (0 : Int) = c * 0; rw [Int.mul_zero]
  | succ n ih => rw [S_succ, S_succ, ih, Int.mul_add]
theorem S_nil (n : Nat) : S n (fun _ => 0) = 0 := by
  induction n with
  | zero => rfl
  | succ n ih => rw [S_succ, ih]; rfl
theorem S_one (n k : Nat) (f : Nat → Int) : S n (fun i => (if k = i then 1 else 0) * f i) = if k < n then f k else 0 := by
  induction n with
  | zero => rfl
  | succ n ih =>
    rw [S_succ, ih]
    by_cases h : k = n
    · subst h
      rw [if_neg (Nat.lt_irrefl _), if_pos rfl, if_pos (Nat.lt_succ_self _)]
      omega
    · rw [if_neg h, Int.zero_mul, Int.add_zero]
      by_cases c : k < n
      · rw [if_pos c, if_pos (by omega)]
      · rw [if_neg c, if_neg (by omega)]
theorem sum_S {α : Type} (l : List α) (n : Nat) (f : α → Nat → Int) : (l.map fun x => S n (f x)).sum = S n fun i => (l.map fun x => f x i).sum := by
  induction l with
  | nil => exact (S_nil n).symm
  | cons x l ih =>
    rw [List.map_cons, List.sum_cons, ih, ← S_add]
    rfl
theorem sum_mul {α : Type} (l : List α) (f : α → Int) (c : Int) : (l.map fun x => f x * c).sum = (l.map f).sum * c := by
  induction l with
  | nil => exact (Int.zero_mul c).symm
  | cons x l ih => rw [List.map_cons, List.sum_cons, ih, List.map_cons, List.sum_cons, Int.add_mul]
/-- a symmetric sum over pairs is twice that over ascending ones -/
theorem S_pairs (h : Nat → Nat → Int) (sy : ∀ a b, h a b = h b a) (di : ∀ a, h a a = 0) (n : Nat) : S n (fun a => S n (h a)) = 2 * S n fun a => S (n - (a + 1)) fun i => h a (a + 1 + i) := by
  induction n with
  | zero => rfl
  | succ n ih =>
    have e1 : S n (fun a => S (n + 1) (h a)) = S n (fun a => S n (h a)) + S n (h n) := by
      rw [← S_add]
      exact S_congr fun a _ => by rw [S_succ, sy a n]
    have e2 : S n (fun a => S (n + 1 - (a + 1)) fun i => h a (a + 1 + i)) = S n (fun a => S (n - (a + 1)) fun i => h a (a + 1 + i)) + S n (h n) := by
      rw [← S_add]
      refine S_congr fun a ha => ?_
      rw [show n + 1 - (a + 1) = (n - (a + 1)) + 1 by omega, S_succ, show a + 1 + (n - (a + 1)) = n by omega, sy a n]
    rw [S_succ n fun a => S (n + 1 - (a + 1)) fun i => h a (a + 1 + i), e2, S_succ n fun a => S (n + 1) (h a), e1, S_succ n (h n), ih, di, Nat.sub_self, S_zero]
    omega
/-- how many of a list, as a sum -/
def cn {α : Type} (p : α → Bool) (l : List α) : Int := (l.map fun x => if p x = true then (1 : Int) else 0).sum
theorem cn_len {α : Type} (p : α → Bool) (l : List α) : ((l.filter p).length : Int) = cn p l := by
  induction l with
  | nil => rfl
  | cons x l ih =>
    unfold cn at ih ⊢
    rw [List.map_cons, List.sum_cons, ← ih]
    by_cases c : p x = true
    · rw [List.filter_cons_of_pos c, if_pos c, List.length_cons]; omega
    · rw [List.filter_cons_of_neg c, if_neg c]; omega
theorem cn_flat {α β : Type} (p : β → Bool) (f : α → List β) (l : List α) : cn p (l.flatMap f) = (l.map fun x => cn p (f x)).sum := by
  unfold cn
  rw [List.map_flatMap, sum_flat]
theorem cn_map {α β : Type} (p : β → Bool) (f : α → β) (l : List α) : cn p (l.map f) = cn (fun x => p (f x)) l := by
  unfold cn
  rw [List.map_map]
  rfl
theorem cn_congr {α : Type} {p q : α → Bool} {l : List α} (h : ∀ x ∈ l, p x = q x) : cn p l = cn q l := by
  unfold cn
  refine congrArg List.sum (List.map_congr_left fun x hx => by rw [h x hx])
theorem cn_and {α : Type} (b : Bool) (p : α → Bool) (l : List α) : cn (fun x => b && p x) l = if b = true then cn p l else 0 := by
  cases b with
  | true => rw [if_pos rfl]; exact cn_congr fun x _ => Bool.true_and _
  | false =>
    rw [if_neg (by decide)]
    unfold cn
    induction l with
    | nil => rfl
    | cons x l ih => rw [List.map_cons, List.sum_cons, ih]; rfl
theorem allC_two (n : Nat) : allC n 2 = (List.range n).flatMap fun (a : Nat) => (List.range n).map fun (b : Nat) => [(a : Int), (b : Int)] := by
  show ((([[]] : List (List Int)).flatMap (ext n)).flatMap (ext n)) = _
  rw [List.flatMap_cons, List.flatMap_nil, List.append_nil]
  unfold ext
  rw [List.flatMap_map]
  rfl
section
variable {sq : List (List Int)} {n : Nat} {s e : Int}
/-- the slipping pairs' ways onward, from a state -/
def pr (sq : List (List Int)) (g : Int → Int) (x : Int) (a b : Nat) : Int := if (a : Int) ≠ (b : Int) ∧ hit sq x a b = true then g (at2 sq (at2 sq x a) b) else 0
theorem pr_sy (sq : List (List Int)) (g : Int → Int) (x : Int) (a b : Nat) : pr sq g x a b = pr sq g x b a := by
  unfold pr hit
  by_cases c : at2 sq (at2 sq x a) b = at2 sq (at2 sq x b) a
  · rw [c]
    by_cases d : (a : Int) = b
    · rw [if_neg (fun z => z.1 d), if_neg (fun z => z.1 d.symm)]
    · rw [if_pos ⟨d, decide_eq_true rfl⟩, if_pos ⟨fun z => d z.symm, decide_eq_true rfl⟩]
  · rw [if_neg (fun z => c (of_decide_eq_true z.2)), if_neg (fun z => c (of_decide_eq_true z.2).symm)]
theorem pr_di (sq : List (List Int)) (g : Int → Int) (x : Int) (a : Nat) : pr sq g x a a = 0 := if_neg fun z => z.1 rfl
theorem fan (L : Latin n sq) (hs : In n s) (he : In n e) {pre : List Int} {p : Nat} (hp : pre.length = p) (h1 : Ins n pre) (q : Nat) :
    cn (fun d => slipB sq s e p (pre ++ d)) (allC n (2 + q)) = S n fun a => S n (pr sq (fun y => ways n y e q) (fin sq s pre) a) := by
  have hx := fin_in L hs h1
  rw [allC_add n 2 q, cn_flat, allC_two, List.map_flatMap, sum_flat]
  refine S_congr fun a ha => ?_
  rw [List.map_map]
  refine S_congr fun b hb => ?_
  show cn (fun d => slipB sq s e p (pre ++ d)) ((allC n q).map (([(a : Int), (b : Int)]) ++ ·)) = _
  rw [cn_map]
  have ia : In n (a : Int) := ⟨by omega, by omega⟩
  have ib : In n (b : Int) := ⟨by omega, by omega⟩
  rw [cn_congr (q := fun post => (decide ((a : Int) ≠ b) && hit sq (fin sq s pre) a b) && decide (fin sq (at2 sq (at2 sq (fin sq s pre) a) b) post = e)) fun post hpost => by
    rw [slip_cut L hs he hp h1 (allC_mem hpost).2 ia ib, Bool.and_assoc]]
  rw [cn_and, ← cn_len, lead L (at_in L (at_in L hx ia) ib) he q]
  unfold pr
  by_cases c : (a : Int) ≠ b ∧ hit sq (fin sq s pre) a b = true
  · rw [if_pos c, if_pos (by rw [decide_eq_true c.1, c.2]; rfl)]
  · rw [if_neg c, if_neg fun z => c (by
      rw [Bool.and_eq_true] at z
      exact ⟨of_decide_eq_true z.1, z.2⟩)]
theorem slips_S (L : Latin n sq) (hs : In n s) (he : In n e) (p q : Nat) :
    (((allC n (p + (2 + q))).filter (slipB sq s e p)).length : Int) = S n fun x => ways n s x p * S n fun a => S n (pr sq (fun y => ways n y e q) x a) := by
  rw [cn_len, allC_add n p (2 + q), cn_flat]
  have e1 : ((allC n p).map fun pre => cn (slipB sq s e p) ((allC n (2 + q)).map (pre ++ ·))) = (allC n p).map fun pre => S n fun x => (if fin sq s pre = (x : Int) then 1 else 0) * S n fun a => S n (pr sq (fun y => ways n y e q) x a) := by
    refine List.map_congr_left fun pre hpre => ?_
    obtain ⟨m1, m2⟩ := allC_mem hpre
    rw [cn_map, fan L hs he m1 m2 q]
    have hx := fin_in L hs m2
    obtain ⟨k, hk⟩ : ∃ k : Nat, fin sq s pre = k := ⟨(fin sq s pre).toNat, by have := hx.1; omega⟩
    have kn : k < n := by have := hx.2; omega
    rw [hk]
    have := S_one n k fun x => S n fun a => S n (pr sq (fun y => ways n y e q) x a)
    rw [if_pos kn] at this
    rw [← this]
    refine S_congr fun i _ => ?_
    by_cases c : k = i
    · rw [if_pos c, if_pos (by rw [c])]
    · rw [if_neg c, if_neg (by omega)]
  rw [e1, sum_S]
  refine S_congr fun x hx => ?_
  rw [sum_mul]
  have := lead (e := (x : Int)) L hs ⟨by omega, by omega⟩ p
  rw [cn_len] at this
  rw [← this]
  unfold cn
  refine congrArg (· * _) (congrArg List.sum (List.map_congr_left fun pre _ => ?_))
  by_cases c : fin sq s pre = (x : Int)
  · rw [if_pos c, if_pos (decide_eq_true c)]
  · rw [if_neg c, if_neg (fun z => c (of_decide_eq_true z))]
theorem total_S (f g : Int → Int) (sq : List (List Int)) (n : Nat) : total f g sq (swaps sq n) = S n fun x => 2 * f x * S n fun a => S (n - (a + 1)) fun i => if hit sq x a (a + 1 + i : Nat) = true then g (at2 sq (at2 sq x a) (a + 1 + i : Nat)) else 0 := by
  unfold total swaps sw1
  rw [List.map_flatMap, sum_flat]
  refine S_congr fun x _ => ?_
  unfold sw2
  rw [List.map_flatMap, sum_flat, ← S_mul]
  refine S_congr fun a _ => ?_
  unfold sw3 rgI
  rw [List.map_map, ← S_mul]
  unfold S
  induction (List.range (n - (a + 1))) with
  | nil => rfl
  | cons i l ih =>
    rw [List.map_cons, List.map_cons, List.sum_cons, ← ih]
    have c1 : (((a + 1 : Nat) : Int) + (i : Int)) = ((a + 1 + i : Nat) : Int) := by omega
    rw [c1]
    by_cases c : hit sq x a (a + 1 + i : Nat) = true
    · rw [List.filter_cons_of_pos c, List.map_cons, List.sum_cons, if_pos c]
      rfl
    · rw [List.filter_cons_of_neg c, if_neg c, Int.mul_zero, Int.zero_add]
theorem slips_total (L : Latin n sq) (hs : In n s) (he : In n e) (p q : Nat) :
    (((allC n (p + (2 + q))).filter (slipB sq s e p)).length : Int) = total (fun x => ways n s x p) (fun y => ways n y e q) sq (swaps sq n) := by
  rw [slips_S L hs he, total_S]
  refine S_congr fun x _ => ?_
  rw [S_pairs _ (pr_sy sq _ _) (pr_di sq _ _), ← Int.mul_assoc, Int.mul_comm (ways n s x p) 2]
  refine congrArg (2 * ways n s x p * ·) (S_congr fun a _ => S_congr fun i _ => ?_)
  unfold pr
  by_cases c : hit sq x a (a + 1 + i : Nat) = true
  · rw [if_pos c, if_pos ⟨by omega, c⟩]
  · rw [if_neg c, if_neg fun z => c z.2]
theorem total_const (sq : List (List Int)) (u v : Int) (ts : List PyData) (h : ∀ t ∈ ts, ∃ x a b, t = trip x a b) : total (fun _ => u) (fun _ => v) sq ts = 2 * u * v * ts.length := by
  unfold total
  induction ts with
  | nil => show (0 : Int) = _ * 0; rw [Int.mul_zero]
  | cons t ts ih =>
    obtain ⟨x, a, b, rfl⟩ := h t (List.mem_cons_self ..)
    rw [List.map_cons, List.sum_cons, ih fun t ht => h t (List.mem_cons_of_mem _ ht), List.length_cons]
    show 2 * u * v + _ = _
    rw [Int.natCast_add, Int.mul_add]
    show _ = _ + 2 * u * v * 1
    rw [Int.mul_one, Int.add_comm]
theorem total_inner (sq : List (List Int)) (n : Nat) (s e : Int) {p q : Nat} : total (fun x => ways n s x (p + 1)) (fun y => ways n y e (q + 1)) sq (swaps sq n) = 2 * (swaps sq n).length * (n : Int) ^ (p + q) := by
  show total (fun _ => (n : Int) ^ p) (fun _ => (n : Int) ^ q) sq (swaps sq n) = _
  rw [total_const _ _ _ _ fun t ht => by obtain ⟨x, a, b, h, _⟩ := swaps_trips sq n t ht; exact ⟨x, a, b, h⟩]
  rw [Int.mul_assoc 2 ((n : Int) ^ p), ← Int.pow_add, Int.mul_assoc, Int.mul_comm ((n : Int) ^ (p + q)), ← Int.mul_assoc]
end
end K50
end
section
set_option maxRecDepth 100000
set_option maxHeartbeats 2000000
/-! k50: the law's own turns -/
namespace K50
open PySem PySem.Spec PyProof.Rows L2 G N D K47
theorem t0_ev {sd ch : PyData} {m l p T P : Int} {x : Str} {g k4 k7 k8 k9 k10 : Option Vd} {h : Hd} (c : FD F_law_counted_v2 [ch, .int l, .int p] = some (.int T)) (pw : FD F_law_power [.int m, .int l] = some (.int P)) (sl : FD F_law_slips [ch, .int l, .int p] = some (.int T)) (hs : FD F_how_many_slip_v2 [ch, .int l, .int p] = some (.int T)) (rp : reprD [.int T] = some (.str x)) :
    L_law_right_v53_0.run [g, some (.d sd), some (.d (.int m)), some (.d ch), k4, some (.d (.int l)), some (.d (.int p)), k7, k8, k9, k10] h = .nx [g, some (.d sd), some (.d (.int m)), some (.d ch), k4, some (.d (.int l)), some (.d (.int p)), some (.d (.int T)), k8, k9, k10] h := by
  by_cases q : P < 260 <;> simp [L_law_right_v53_0, c, pw, sl, hs, rp, permL, q]
section
variable {sq : List (List Int)} {n : Nat} {s e : Int}
def tot (sq : List (List Int)) (n : Nat) (s e : Int) (p q : Nat) : Int := total (fun x => ways n s x p) (fun y => ways n y e q) sq (swaps sq n)
theorem tot_lo (L : Latin n sq) (hs : In n s) (he : In n e) (p q : Nat) : 0 ≤ tot sq n s e p q := by
  unfold tot
  rw [← slips_total L hs he]
  omega
theorem tot_hi (L : Latin n sq) (h7 : n ≤ 7) (hs : In n s) (he : In n e) {p q : Nat} (h : p + (2 + q) ≤ 4) : tot sq n s e p q ≤ 2401 := by
  unfold tot
  rw [← slips_total L hs he]
  have a := List.length_filter_le (slipB sq s e p) (allC n (p + (2 + q)))
  rw [allC_len] at a
  have b : n ^ (p + (2 + q)) ≤ 7 ^ 4 := Nat.le_trans (Nat.pow_le_pow_left h7 _) (Nat.pow_le_pow_right (by decide) h)
  have c : (7 : Nat) ^ 4 = 2401 := by decide
  omega
theorem t0_ok (L : Latin n sq) (h7 : n ≤ 7) (hs : In n s) (he : In n e) {l p : Nat} (hl : l ≤ 4) (hp : p + 2 ≤ l) (g k4 k7 k8 k9 k10 : Option Vd) (h : Hd) :
    L_law_right_v53_0.run [g, some (.d (sqD sq)), some (.d (.int n)), some (.d (chD sq s e)), k4, some (.d (.int l)), some (.d (.int p)), k7, k8, k9, k10] h =
      .nx [g, some (.d (sqD sq)), some (.d (.int n)), some (.d (chD sq s e)), k4, some (.d (.int l)), some (.d (.int p)), some (.d (.int (tot sq n s e p (l - p - 2)))), k8, k9, k10] h := by
  have e4 : p + (2 + (l - p - 2)) = l := by omega
  have lo := tot_lo L hs he p (l - p - 2)
  have hi := tot_hi L h7 hs he (p := p) (q := l - p - 2) (by omega)
  have big : n ^ l ≤ 1000000 := Nat.le_trans (Nat.le_trans (Nat.pow_le_pow_left h7 _) (Nat.pow_le_pow_right (by decide) hl)) (by decide)
  have sl := slips_fd (e := e) L hs hl hp big
  have st := slips_total L hs he p (l - p - 2)
  rw [e4] at st
  rw [st] at sl
  have rp : reprD [.int (tot sq n s e p (l - p - 2))] = some (.str (PyData.int (tot sq n s e p (l - p - 2))).shown) := repr_pl ⟨pl_int (by omega), by rw [depth_int]; omega, by rw [bulk_int]; omega⟩
  exact t0_ev (counted_fd L hs he (by omega) hp) (lpower_fd (b := (n : Int)) (by omega) (by omega) (t := l) (by omega)) sl (slip_fd L hs he (by omega) hp) rp
theorem places (L : Latin n sq) (h7 : n ≤ 7) (hs : In n s) (he : In n e) {l : Nat} (hl : l ≤ 4) (g k4 k8 k9 k10 : Option Vd) (h : Hd) : ∀ (ps : List Nat) (k6 k7 : Option Vd), (∀ p ∈ ps, p + 2 ≤ l) → ∃ a6 a7,
    SS.forR (ST.name 6).put L_law_right_v53_0.run (ps.map fun (p : Nat) => .int p) [g, some (.d (sqD sq)), some (.d (.int n)), some (.d (chD sq s e)), k4, some (.d (.int l)), k6, k7, k8, k9, k10] h =
      .nx [g, some (.d (sqD sq)), some (.d (.int n)), some (.d (chD sq s e)), k4, some (.d (.int l)), a6, a7, k8, k9, k10] h
  | [], k6, k7, _ => ⟨k6, k7, rfl⟩
  | p :: ps, k6, k7, hp => by
    have z := t0_ok L h7 hs he hl (hp p (List.mem_cons_self ..)) g k4 k7 k8 k9 k10 h
    obtain ⟨a6, a7, z2⟩ := places L h7 hs he hl g k4 k8 k9 k10 h ps (some (.d (.int p))) (some (.d (.int (tot sq n s e p (l - p - 2))))) fun y hy => hp y (List.mem_cons_of_mem _ hy)
    exact ⟨a6, a7, forR_step rfl z z2⟩
theorem len_1 {ρ : Rh} {h : Hd} {a b : Int} (e5 : ρ[5]? = some (some (.d (.int a)))) (e : a - 1 = b) : (SL.cons (SE.op oSub (SE.var 5) (SE.int 1)) SL.nil).ev ρ h = .ok [.d (.int b)] h := by
  simp [e5, e]
theorem lens (L : Latin n sq) (h7 : n ≤ 7) (hs : In n s) (he : In n e) (g k4 k8 k9 k10 : Option Vd) (h : Hd) : ∀ (ls : List Nat) (k5 k6 k7 : Option Vd), (∀ l ∈ ls, 2 ≤ l ∧ l ≤ 4) → ∃ a5 a6 a7,
    SS.forR (ST.name 5).put L_law_right_v53_1.run (ls.map fun (l : Nat) => .int l) [g, some (.d (sqD sq)), some (.d (.int n)), some (.d (chD sq s e)), k4, k5, k6, k7, k8, k9, k10] h =
      .nx [g, some (.d (sqD sq)), some (.d (.int n)), some (.d (chD sq s e)), k4, a5, a6, a7, k8, k9, k10] h
  | [], k5, k6, k7, _ => ⟨k5, k6, k7, rfl⟩
  | l :: ls, k5, k6, k7, hp => by
    obtain ⟨l2, l4⟩ := hp l (List.mem_cons_self ..)
    obtain ⟨a6, a7, z⟩ := places L h7 hs he l4 g k4 k8 k9 k10 h (List.range (l - 1)) k6 k7 fun p hp => by have := List.mem_range.mp hp; omega
    obtain ⟨b5, b6, b7, z2⟩ := lens L h7 hs he g k4 k8 k9 k10 h ls (some (.d (.int l))) a6 a7 fun y hy => hp y (List.mem_cons_of_mem _ hy)
    refine ⟨b5, b6, b7, forR_step rfl (for_of (rng1_of (n := ((l - 1 : Nat) : Int)) (len_1 rfl (by omega)) (by omega) (by omega)) ?_) z2⟩
    rw [rng0]
    exact z
end
theorem first_const (v : Int) (f : Nat → Int) (hf : ∀ i, f i = v) : ∀ m, PyProof.Rows.firstMet f (m + 1) = [v]
  | 0 => by
    rw [PyProof.Rows.firstMet_succ, hf]
    rfl
  | m + 1 => by
    rw [PyProof.Rows.firstMet_succ, first_const v f hf m, hf]
    unfold PyProof.Rows.step_dedup
    simp
theorem set_one (v : Int) {m : Nat} (h0 : 0 < m) (h1 : m ≤ 4000) : lenSetD (.list (List.replicate m (.int v))) = some (.int 1) := by
  have e : List.replicate m (PyData.int v) = (List.replicate m v).map .int := by rw [List.map_replicate]
  obtain ⟨k, rfl⟩ : ∃ k, m = k + 1 := ⟨m - 1, by omega⟩
  have d : (disL (List.replicate (k + 1) v)).length = 1 := by
    unfold disL
    rw [List.length_replicate]
    have c : PyProof.Rows.firstMet (fun i => (List.replicate (k + 1) v).getD i 0) (k + 1) = PyProof.Rows.firstMet (fun _ => v) (k + 1) := by
      unfold PyProof.Rows.firstMet
      refine congrArg (List.foldl PyProof.Rows.step_dedup []) (List.map_congr_left fun i hi => ?_)
      rw [List.getD_eq_getElem?_getD, List.getElem?_replicate, if_pos (List.mem_range.mp hi)]
      rfl
    rw [c, first_const v (fun _ => v) (fun _ => rfl) k]
    rfl
  rw [e]
  unfold lenSetD
  dsimp only
  rw [intsOf_map]
  dsimp only
  rw [List.length_replicate, if_pos h1, d]
  rfl
end K50
end
section
set_option maxRecDepth 100000
set_option maxHeartbeats 2000000
/-! k50: the law -/
namespace K50
open PySem PySem.Spec PyProof.Rows L2 G N D K47
theorem fixed_ev (sd : PyData) (h : Hd) : (SE.lc (SI.rng1 (SL.cons (SE.int 4) SL.nil)) (ST.name 9) SB.yes (SE.lc (SI.rng1 (SL.cons (SE.int 4) SL.nil)) (ST.name 10) SB.yes (SE.op oMod (SE.cb bInt (SL.cons (SE.op oAdd (SE.op oMul (SE.int 3) (SE.var 9)) (SE.var 10)) SL.nil)) (SE.int 4)))).ev [some (.r 0), some (.d sd), none, none, none, none, none, none, none, none, none] h = .ok (.d (sqD q4_3)) h := by kernel_rfl
theorem lenSet_ev {a : SE} {ρ : Rh} {h : Hd} {d z : PyData} (e : a.ev ρ h = .ok (.d d) h) (l : lenSetD d = some z) : (SE.lenSet a).ev ρ h = .ok (.d z) h := by
  show (SE.un oLenSet a).ev ρ h = _
  have l2 : oLenSet.f d = some z := l
  rw [SE.un_ev, e]
  simp [l2]
theorem gt_ev {sd : PyData} {m : Int} {h : Hd} (l : lenD [sd] = some (.int m)) : (SB.test (SE.op oGt (SE.cb bLen (SL.cons (SE.var 1) SL.nil)) (SE.int 7))).ev [some (.r 0), some (.d sd), none, none, none, none, none, none, none, none, none] h = .ok (decide (7 < m)) h := by
  simp [l]
theorem s1_ok {sq : List (List Int)} {n : Nat} (L : Latin n sq) (h : Hd) : ∃ m sq', Latin m sq' ∧ m ≤ 7 ∧ S_law_right_v53_1.run [some (.r 0), some (.d (sqD sq)), none, none, none, none, none, none, none, none, none] h = .nx [some (.r 0), some (.d (sqD sq')), none, none, none, none, none, none, none, none, none] h := by
  have g := gt_ev (h := h) (len_sq L)
  by_cases c : 7 < (n : Int)
  · rw [decide_eq_true c] at g
    exact ⟨4, q4_3, q4_3_l, by decide, ite_t g (set_of (fixed_ev _ _))⟩
  · rw [decide_eq_false c] at g
    exact ⟨n, sq, L, by omega, ite_f g rfl⟩
theorem s2_ev {sd : PyData} {m : Int} {h : Hd} (l : lenD [sd] = some (.int m)) : S_law_right_v53_2.run [some (.r 0), some (.d sd), none, none, none, none, none, none, none, none, none] h = .nx [some (.r 0), some (.d sd), some (.d (.int m)), none, none, none, none, none, none, none, none] h := by
  simp [S_law_right_v53_2, l]
theorem s3_ev {es es1 es2 : List PyData} {sd : PyData} {m s e : Int} (e1 : FG F_law_random_v2 es [.int m] = some (.int s, es1)) (e2 : FG F_law_random_v2 es1 [.int m] = some (.int e, es2)) :
    S_law_right_v53_3.run [some (.r 0), some (.d sd), some (.d (.int m)), none, none, none, none, none, none, none, none] [.lst (es.map .d)] = .nx [some (.r 0), some (.d sd), some (.d (.int m)), some (.d (.tuple [sd, .int s, .int e])), none, none, none, none, none, none, none] [.lst (es2.map .d)] := by
  simp [S_law_right_v53_3, e1, e2]
theorem s4_ev {sd ch : PyData} {m : Int} {h : Hd} {x : Str} (r : reprD [ch] = some (.str x)) : S_law_right_v53_4.run [some (.r 0), some (.d sd), some (.d (.int m)), some (.d ch), none, none, none, none, none, none, none] h = .nx [some (.r 0), some (.d sd), some (.d (.int m)), some (.d ch), some (.d (.str x)), none, none, none, none, none, none] h := by
  simp [S_law_right_v53_4, r]
theorem s6_ev {es es1 : List PyData} {m : Option Vd} {sd ch k4 : Option Vd} {r r4 : Int} {k5 k6 k7 k8 k9 k10 : Option Vd} (e1 : FG F_law_random_v2 es [.int 20] = some (.int r, es1)) (hr : 4 + r = r4) :
    S_law_right_v53_6.run [some (.r 0), sd, m, ch, k4, k5, k6, k7, k8, k9, k10] [.lst (es.map .d)] = .nx [some (.r 0), sd, m, ch, k4, some (.d (.int r4)), k6, k7, k8, k9, k10] [.lst (es1.map .d)] := by
  simp [S_law_right_v53_6, e1, hr]
theorem sw1_len (sq : List (List Int)) (n : Nat) : ∀ xs : List Nat, (sw1 sq n xs).length ≤ xs.length * (n * n)
  | [] => Nat.zero_le _
  | x :: xs => by
    have h := sw1_len sq n xs
    have k := sw2_len sq n (x : Int) (List.range n)
    rw [List.length_range] at k
    unfold sw1 at h ⊢
    rw [List.flatMap_cons, List.length_append, List.length_cons, Nat.succ_mul]
    omega
theorem rng2b_ev {ρ : Rh} {h : Hd} {a b : Int} (e5 : ρ[5]? = some (some (.d (.int a)))) (e : a - 2 = b) : (SL.cons (SE.int 1) (SL.cons (SE.op oSub (SE.var 5) (SE.int 2)) SL.nil)).ev ρ h = .ok [.d (.int 1), .d (.int b)] h := by
  simp [e5, e]
theorem slipc_ev {ρ : Rh} {h : Hd} {ch : PyData} {a b c : Int} (e3 : ρ[3]? = some (some (.d ch))) (e5 : ρ[5]? = some (some (.d (.int a)))) (e6 : ρ[6]? = some (some (.d (.int b)))) (hs : FD F_how_many_slip_v2 [ch, .int a, .int b] = some (.int c)) :
    (SE.call F_how_many_slip_v2 (SL.cons (SE.var 3) (SL.cons (SE.var 5) (SL.cons (SE.var 6) SL.nil)))).ev ρ h = .ok (.d (.int c)) h := by
  simp [e3, e5, e6, hs]
theorem s8_ev {g k4 k6 k7 k9 k10 : Option Vd} {h : Hd} {sd ch vs : PyData} {ts : List PyData} {l m I P t l4 : Int} (e1 : lenSetD vs = some (.int 1)) (e2 : ixD vs (.int 0) = some (.int I)) (e3 : FD F_law_counted_v2 [ch, .int l, .int 1] = some (.int I)) (e4 : FD F_law_swaps [sd] = some (.list ts)) (el : lenD [.list ts] = some (.int t)) (m0 : sm 2 = true) (m1 : sm t = true) (m2 : sm (2 * t) = true) (m3 : sm P = true) (hl4 : l - 4 = l4) (pw : FD F_law_power [.int m, .int l4] = some (.int P)) (hI : 2 * t * P = I) :
    S_law_right_v53_8.run [g, some (.d sd), some (.d (.int m)), some (.d ch), k4, some (.d (.int l)), k6, k7, some (.d vs), k9, k10] h = .nx [g, some (.d sd), some (.d (.int m)), some (.d ch), k4, some (.d (.int l)), k6, k7, some (.d vs), k9, k10] h := by
  have ls := lenSet_ev (a := SE.var 8) (ρ := [g, some (.d sd), some (.d (.int m)), some (.d ch), k4, some (.d (.int l)), k6, k7, some (.d vs), k9, k10]) (h := h) (d := vs) rfl e1
  simp [S_law_right_v53_8, ls, e2, e3, e4, el, m0, m1, m2, m3, hl4, pw, hI]
theorem s9_ev {g k6 k7 k8 k9 k10 : Option Vd} {h : Hd} {sd ch : PyData} {x : Str} {l m l1 P : Int} (r : reprD [ch] = some (.str x)) (mf : FD F_how_many_right_lists [ch, .int l] = some (.int P)) (hl : l - 1 = l1) (pw : FD F_law_power [.int m, .int l1] = some (.int P)) :
    S_law_right_v53_9.run [g, some (.d sd), some (.d (.int m)), some (.d ch), some (.d (.str x)), some (.d (.int l)), k6, k7, k8, k9, k10] h = .rt (.d (.bool true)) h := by
  simp [S_law_right_v53_9, r, mf, hl, pw]
section
variable {sq : List (List Int)} {n : Nat} {s e : Int}
theorem s7_ev (L : Latin n sq) (hs : In n s) (he : In n e) {l : Nat} (l4 : 4 ≤ l) (l23 : l ≤ 23) (g k4 k6 k7 k8 k9 k10 : Option Vd) (h : Hd) :
    S_law_right_v53_7.run [g, some (.d (sqD sq)), some (.d (.int n)), some (.d (chD sq s e)), k4, some (.d (.int l)), k6, k7, k8, k9, k10] h =
      .nx [g, some (.d (sqD sq)), some (.d (.int n)), some (.d (chD sq s e)), k4, some (.d (.int l)), k6, k7, some (.d (.list (List.replicate (l - 3) (.int (2 * (swaps sq n).length * (n : Int) ^ (l - 4)))))), k9, k10] h := by
  have xs : SI.rng 1 ((l - 2 : Nat) : Int) = (rgI 1 (l - 2)).map .int := rng_rgI 1 (l - 2)
  have z := lcY_of (it := SI.rng2 (SL.cons (SE.int 1) (SL.cons (SE.op oSub (SE.var 5) (SE.int 2)) SL.nil))) (tg := ST.name 6) (g := SE.call F_how_many_slip_v2 (SL.cons (SE.var 3) (SL.cons (SE.var 5) (SL.cons (SE.var 6) SL.nil))))
    (ρ := [g, some (.d (sqD sq)), some (.d (.int n)), some (.d (chD sq s e)), k4, some (.d (.int l)), k6, k7, k8, k9, k10]) (h := h) (h1 := h) (xs := (rgI 1 (l - 2)).map .int) (fun _ => .int (2 * (swaps sq n).length * (n : Int) ^ (l - 4)))
    (by rw [← xs]; exact rng2_of (l := 1) (n := ((l - 2 : Nat) : Int)) (rng2b_ev rfl (by omega)) (by omega) (by omega) (by omega) (by omega)) (by rw [List.length_map, rgI_len]; omega) fun x hx => by
      obtain ⟨y, hy, rfl⟩ := List.mem_map.mp hx
      unfold rgI at hy
      obtain ⟨i, hi, rfl⟩ := List.mem_map.mp hy
      have hi := List.mem_range.mp hi
      refine ⟨_, rfl, ?_⟩
      have c : ((1 : Nat) : Int) + (i : Int) = ((i + 1 : Nat) : Int) := by omega
      rw [c]
      have f := slip_fd (p := i + 1) L hs he (l := l) (by omega) (by omega)
      obtain ⟨q, hq⟩ : ∃ q, l - (i + 1) - 2 = q + 1 := ⟨l - (i + 1) - 3, by omega⟩
      rw [hq, total_inner] at f
      rw [show i + q = l - 4 by omega] at f
      exact slipc_ev rfl rfl rfl f
  have e : ((rgI 1 (l - 2)).map PyData.int).map (fun _ => PyData.int (2 * (swaps sq n).length * (n : Int) ^ (l - 4))) = List.replicate (l - 3) (.int (2 * (swaps sq n).length * (n : Int) ^ (l - 4))) := by
    rw [List.map_const', List.length_map, rgI_len]
    congr 1
  rw [e] at z
  exact set_of z
end
theorem sm_pow {n : Nat} (hn : n ≤ 40) {t : Nat} (ht : t ≤ 99) : sm ((n : Int) ^ t) = true := sm_w (n := n) hn 0 0 (t := t + 1) (by omega)
theorem ix_rep (v : PyData) {k : Nat} (h : 0 < k) : ixD (.list (List.replicate k v)) (.int 0) = some v := by
  obtain ⟨m, rfl⟩ : ∃ m, k = m + 1 := ⟨k - 1, by omega⟩
  rw [List.replicate_succ]
  simp [ixD, atD]
theorem right_ok {k : Nat} {es : List PyData} (g : Gn k es) (hk : k ≤ 99999) : ∃ es', FG F_law_right_v53 es [] = some (.bool true, es') := by
  obtain ⟨n0, sq0, es1, e1, L0, g1⟩ := square_ok g (by omega)
  obtain ⟨n, sq, L, h7, z1⟩ := s1_ok L0 [.lst (es1.map .d)]
  have two := L.two
  have top := L.top
  obtain ⟨s, es2, e2, s0, s1, g2⟩ := rand2_ok g1 (by omega) (n := (n : Int)) (by omega) (by omega)
  obtain ⟨e, es3, e3, e0, e1', g3⟩ := rand2_ok g2 (by omega) (n := (n : Int)) (by omega) (by omega)
  obtain ⟨r, es4, e4, r0, r1, g4⟩ := rand2_ok g3 (by omega) (n := 20) (by omega) (by omega)
  have hs : In n s := ⟨s0, s1⟩
  have he : In n e := ⟨e0, e1'⟩
  have rp := repr_pl (ps_ch L hs he)
  obtain ⟨l, hl⟩ : ∃ l : Nat, 4 + r = l := ⟨(4 + r).toNat, by omega⟩
  have l4 : 4 ≤ l := by omega
  have l23 : l ≤ 23 := by omega
  obtain ⟨a5, a6, a7, z5⟩ := lens L h7 hs he (some (.r 0)) (some (.d (.str (chD sq s e).shown))) none none none [.lst (es3.map .d)] [2, 3, 4] none none none (by decide)
  have z0 : S_law_right_v53_0.run (startN 11 [.r 0]) [.lst (es.map .d)] = .nx [some (.r 0), some (.d (sqD sq0)), none, none, none, none, none, none, none, none, none] [.lst (es1.map .d)] := by
    simp [S_law_right_v53_0, startN, e1]
  have cn := counted_fd L hs he (l := l) (p := 1) (by omega) (by omega)
  obtain ⟨q, hq⟩ : ∃ q, l - 1 - 2 = q + 1 := ⟨l - 4, by omega⟩
  rw [hq, total_inner (p := 0), Nat.zero_add, show q = l - 4 by omega] at cn
  have sl : (swaps sq n).length ≤ 343 := by
    have h := sw1_len sq n (List.range n)
    rw [List.length_range] at h
    exact Nat.le_trans h (Nat.mul_le_mul h7 (Nat.mul_le_mul h7 h7))
  have pw := lpower_fd (b := (n : Int)) (by omega) (by omega) (t := l - 4) (by omega)
  have pw1 := lpower_fd (b := (n : Int)) (by omega) (by omega) (t := l - 1) (by omega)
  have mf := many_fd L hs he (t := l - 1) (by omega)
  rw [show l - 1 + 1 = l by omega] at mf
  have z8 := s8_ev (g := some (.r 0)) (k4 := some (.d (.str (chD sq s e).shown))) (k6 := a6) (k7 := a7) (k9 := none) (k10 := none) (h := [.lst (es4.map .d)]) (t := ((swaps sq n).length : Int)) (l4 := ((l - 4 : Nat) : Int)) (set_one (2 * (swaps sq n).length * (n : Int) ^ (l - 4)) (m := l - 3) (by omega) (by omega)) (ix_rep _ (by omega)) cn (lswaps_fd L) rfl (by decide +kernel) (sm_lo (by omega) (by omega)) (sm_lo (by omega) (by omega)) (sm_pow top (by omega)) (by omega) pw rfl
  refine ⟨es4, fg_of (rest := []) (runDef_rt rfl (seq_of z0 (seq_of z1 (seq_of (s2_ev (len_sq L)) (seq_of (s3_ev e2 e3) (seq_of (s4_ev rp) (seq_of (for_of (es := [.int 2, .int 3, .int 4]) rfl z5) (seq_of (s6_ev e4 hl) (seq_of (s7_ev L hs he l4 l23 _ _ _ _ _ _ _ _) (seq_of z8 (s9_ev rp mf (l1 := ((l - 1 : Nat) : Int)) (by omega) pw1)))))))))))⟩
theorem turn {ns : List Int} {i : Int} (h0 : 0 ≤ i) (h1 : i ≤ 10) (h : Hd) (w a : Option Vd) : ∃ h', L_law_v76_0.run [some (.d (.list (ns.map .int))), some (.d (.int i)), a] h = .nx [some (.d (.list (ns.map .int))), some (.d (.int i)), a] h' := by
  obtain ⟨es, e, g⟩ := gen_fm ns h0 (by omega)
  obtain ⟨es', e'⟩ := right_ok g (by omega)
  refine ⟨h ++ [.lst (es'.map .d)], ?_⟩
  simp [L_law_v76_0, e, e']
def tail : SS := (SS.seq (S_law_v76_1) (S_law_v76_2))
theorem tail_ok (x y : Option Vd) (h : Hd) : tail.run [x, y, none] h = .rt (.d (.bool true)) h := by kernel_rfl
theorem good : Good := fun ns _ => by
  obtain ⟨h1, e1⟩ := turn (ns := ns) (i := 0) (by decide) (by decide) [] none none
  obtain ⟨h2, e2⟩ := turn (ns := ns) (i := 1) (by decide) (by decide) h1 none none
  obtain ⟨h3, e3⟩ := turn (ns := ns) (i := 2) (by decide) (by decide) h2 none none
  refine fd_of (runDef_rt rfl (seq_of (for_of (es := SI.rng 0 3) (h1 := []) ?_ (forR_step (ys := [.int 1, .int 2]) rfl e1 (forR_step (ys := [.int 2]) rfl e2 (forR_step (ys := []) rfl e3 rfl)))) (tail_ok _ _ _)))
  rfl
end K50
end
theorem PySem.Challenge.cw_checkwright_k50_whole_lists_that_slip_holds : PySem.Challenge.rw_checkwright_k50_whole_lists_that_slip.Holds := by
  exact K50.holds_of K50.good
