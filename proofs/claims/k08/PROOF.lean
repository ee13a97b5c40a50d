import PyProof.Rows.All
import Wide.All
import OpenK.AllK
import Wide.FinOn
import HandS.Base
import HandS.Call
import HandS.List
import HandS.Comp
import HandS.Ends
import HandS.Exc
import HandS.ExcOwn
import HandS.Words
import HandS.WordsList
import HandS.WordsExc
import HandS.Iter
import HandS.Zip
import HandS.Wide
import HandS.WideBits
import HandS.Flow
import HandS.IsInst
import HandS.Rev
import HandS.Walk
import HandS.Style
import HandS.TupAny
import HandS.Conv
import PyProof.ReprBulk
import HandS.HeadEnd
import HandS.HeadHook2
import HandS.SortInts
import KE.KStateDown
import HandS.More
import HandS.Defaults
import HandS.Head0
import HandS.Head1
import HandS.Head2
import HandS.HeadHook1
import PySem.Challenge.RW_checkwright_k08_whole_systems_turned
set_option Elab.async false
set_option linter.all false
section
set_option maxRecDepth 100000
set_option maxHeartbeats 2000000
/-! calls where no repr is under way (the guards are known to be none) -/
namespace G
open PySem PySem.Spec PyProof.Rows L2

/-- a promise that may lean on: no repr is under way -/
structure FnG (P : Program) (w : World) (K : PySem.W.Frag) (mg : Str → Option Value) (base : Heap)
    (CX : CXT) (k : Nat) (f : Addr) (fd : FuncData) (ps : List Str) (sp : Sp) : Prop where
  ar : ∀ vs H Q E, sp vs H Q E → vs.length = ps.length
  go : ∀ (A : Around) (outer : List Env) (s : Shared) (H : Hp) (args : Args) (us : List Value)
    (vs : List V) (Q : VK) (E : XK), A.guards = some [] → Room k A → Env0 P w K mg base A outer s H →
    BindsTo s fd args (ps.zip us) → Vals vs us → sp vs H Q E →
    codeAny (model P w) A (.call (.ref f) args) (CR CX outer P w H s Q E) s

section
variable {P : Program} {w : World} {K : PySem.W.Frag} {mg : Str → Option Value} {base : Heap} {CX : CXT}
theorem FnG.lift {j k : Nat} {f : Addr} {fd : FuncData} {ps : List Str} {sp : Sp}
    (F : FnG P w K mg base CX j f fd ps sp) (h : j ≤ k) : FnG P w K mg base CX k f fd ps sp :=
  ⟨F.ar, fun A outer s H args us vs Q E hg hr => F.go A outer s H args us vs Q E hg (hr.mono h)⟩
theorem FnG.ofOk {k : Nat} {f : Addr} {fd : FuncData} {ps : List Str} {sp : Sp}
    (F : FnOk P w K mg base CX k f fd ps sp) : FnG P w K mg base CX k f fd ps sp :=
  ⟨F.len, fun A outer s H args us vs Q E _ => F.run A outer s H args us vs Q E⟩

/-- the context of a body -/
abbrev bodyCx (CX : CXT) (P : Program) (w : World) (K : PySem.W.Frag) (mg : Str → Option Value) (base : Heap) (N : List Str)
    (qual : Str) (st : Stmt) (f : Addr) (cdv : Value) (A : Around) (outer : List Env) (s : Shared) (H : Hp) (E : XK) : Cx :=
  cxOf CX P w K mg base N qual (defScope st) f cdv A outer s H E

/-- a def, by its body's reading, where no repr is under way -/
theorem fn_g {x qual : Str} {st : Stmt} {f : Addr} {fd : FuncData} {N ps : List Str} {k : Nat} {sp : Sp}
    (F : Fun K x qual st f fd) (S : FnScope N ps (defScope st)) (ar : ∀ vs H Q E, sp vs H Q E → vs.length = ps.length)
    (hb : ∀ (cdv : Value) (A : Around) (outer : List Env) (s : Shared) (H : Hp) (vs : List V) (Q : VK) (E : XK),
      A.guards = some [] → Room k (A.deeper (envOfC qual (defScope st) s.heap.objs.size f cdv)) → sp vs H Q E →
      ∃ t, PSs (bodyCx CX P w K mg base N qual st f cdv A outer s H E) (defBody st) t ∧
        t { nx := fun _ H' => Q .non H', rt := Q } (start N vs) H) : FnG P w K mg base CX (k + 1) f fd ps sp := by
  obtain ⟨oc, od, kV, doc, pm, an, cdv, ct, osl, rfl, lk, hcd⟩ := F.ex
  refine ⟨ar, fun A outer s H args us vs Q E hg hr e0 bt rv hsp => ?_⟩
  have up : ∀ b o, base.get? b = some o → s.heap.get? b = some o := fun b o e => (e0.bs b o e).1
  have inK := e0.mod.kin.keeps up
  have noL := e0.mod.nolimit.keeps up
  have slots : ∀ y ∈ ps.zip us, (defScope st).names.lookup y.1 = some .local ∨
      ((defScope st).names.lookup y.1 = some .cell ∧ ((cellsFrom (s.heap.objs.size + 1) (defScope st).names []).lookup y.1).isSome = true) := by
    intro ⟨n, v⟩ hy
    rcases S.par n (List.of_mem_zip hy).1 with q | q
    · exact .inl q
    · exact .inr ⟨q, PySem.W.cellsFrom_some _ _ _ (.inl q)⟩
  refine codeAny_call_function hr.depth (inK _ _ lk) rfl S.co S.gen rfl (PySem.W.codeRec_of inK hcd) (bt _ _ _ _ ?_)
  refine wpAny_newFunctionEnv_cells S.kind slots fun env he s1 hs1 => ?_
  subst he
  refine ⟨noL.keeps hs1.toInCall.keep, codeAny_func ?_⟩
  obtain ⟨t, ht, rd⟩ := hb cdv A outer s H vs Q E hg (hr.deeper _) hsp
  have J0 := inv_start (CX := CX) (E := E) S hr.hd e0 (ar _ _ _ _ hsp) rv hs1
  refine wpAny_mono (ht.run [] s1 (start N vs) H _ J0 rd) (fun fl s' hs => ?_) fun _ _ hs => hs
  cases fl with
  | next =>
    obtain ⟨_, H2, J, q⟩ := hs
    exact ⟨.non, H2, J.os, J.bare, J.base, J.hok, rfl, q⟩
  | ret u =>
    obtain ⟨v, _, H2, J, r2, q⟩ := hs
    exact ⟨v, H2, J.os, J.bare, J.base, J.hok, r2, q⟩
  | brk => exact (hs.elim fun _ z => z.elim fun _ y => y.2).elim
  | cont => exact (hs.elim fun _ z => z.elim fun _ y => y.2).elim

/-- .. that lets nothing out -/
theorem fn_g0 {x qual : Str} {st : Stmt} {f : Addr} {fd : FuncData} {N ps : List Str} {k : Nat} {sp : Sp}
    (F : Fun K x qual st f fd) (S : FnScope N ps (defScope st)) (ar : ∀ vs H Q E, sp vs H Q E → vs.length = ps.length)
    (hb : ∀ (cdv : Value) (A : Around) (outer : List Env) (s : Shared) (H : Hp) (vs : List V) (Q : VK) (E : XK),
      A.guards = some [] → Room k (A.deeper (envOfC qual (defScope st) s.heap.objs.size f cdv)) → sp vs H Q E →
      ∃ t, PSs (bodyCx CX0 P w K mg base N qual st f cdv A outer s H E).nox (defBody st) t ∧
        t { nx := fun _ H' => Q .non H', rt := Q } (start N vs) H) : FnG P w K mg base CX0 (k + 1) f fd ps sp :=
  fn_g F S ar fun cdv A outer s H vs Q E hg hr h =>
    (hb cdv A outer s H vs Q E hg hr h).imp fun _ z => ⟨z.1.nox, z.2⟩
end

/-! ### calls -/
section
variable {X : Cx} {CX : CXT} {k : Nat} {f : Addr} {fd : FuncData} {ps ks : List Str} {sp : Sp} {dvs : List V} {ds : List Value}
  {E : XK} {x : Str} {p pos : Pos} {e : Expr} {es : List Expr} {kws : List Keyword} {t tk : TA}
/-- behind a call -/
def Bh (X : Cx) (pins : List (Addr × Obj)) (σ : L2.St) (Q : VK) : Result → Shared → Prop
  | .ok (.ret u), s' => EP X pins σ Q u s'
  | .ok _, _ => False
  | .error e, s' => X.xe e s'
theorem ended {pins : List (Addr × Obj)} {σ : L2.St} {H : Hp} {s s' : Shared} {Q : VK} (hx : Passes CX X E) (I : Inv X pins σ H s) :
    ∀ {r : Result}, CR CX X.stack X.prog X.w H s Q E r s' → Bh X pins σ Q r s'
  | .error _, hq => hx pins σ H s _ s' I hq
  | .ok (.ret _), hq => I.after hq
  | .ok .next, hq => hq
  | .ok .brk, hq => hq
  | .ok .cont, hq => hq
theorem enter {pins : List (Addr × Obj)} {σ : L2.St} {H : Hp} {s : Shared} {Q : VK} {args : Args} {us : List Value} {vs : List V}
    (hg : X.A.guards = some []) (F : FnG X.prog X.w X.K X.mg X.base CX k f fd ps sp) (hr : Room k X.A) (hx : Passes CX X E) (I : Inv X pins σ H s)
    (hb : BindsTo s fd args (ps.zip us)) (r : Vals vs us) (h : sp vs H Q E) :
    codeAny (model X.prog X.w) X.A (.call (.ref f) args) (Bh X pins σ Q) s :=
  codeAny_mono (F.go X.A X.stack s H args us vs Q E hg hr I.env0 hb r h) fun _ _ hq => ended hx I hq
theorem bh_out {pins : List (Addr × Obj)} {σ : L2.St} {Q : VK} {s' : Shared} : ∀ {r : Result}, Bh X pins σ Q r s' →
    (match r with | .ok (.ret v) => EP X pins σ Q v s' | .ok _ => False | .error e => X.xe e s')
  | .error _, h => h
  | .ok (.ret _), h => h
  | .ok .next, h => h
  | .ok .brk, h => h
  | .ok .cont, h => h
theorem run_g {pins : List (Addr × Obj)} {σ : L2.St} {H : Hp} {s : Shared} {Q : VK} {us : List Value} {vs : List V}
    (hg : X.A.guards = some []) (F : FnG X.prog X.w X.K X.mg X.base CX k f fd ps sp) (hr : Room k X.A) (hb : Binds X.K fd ps ds) (hd : Vals dvs ds)
    (hx : Passes CX X E) (I : Inv X pins σ H s) (r : Vals vs us) (h : sp (vs ++ dvs) H Q E) :
    wpAny (model X.prog X.w) X.A (call (.ref f) us) (EP X pins σ Q) X.xe s := by
  have r2 := r.append hd
  refine wpAny_call (codeAny_mono (enter hg F hr hx I (hb s us I.kIn (r2.length ▸ F.ar _ _ _ _ h)) r2 h) fun r s' hq => ?_)
  exact bh_out hq
/-- f(e, ..) -/
theorem pg_call (hg : X.A.guards = some []) (F : FnG X.prog X.w X.K X.mg X.base CX k f fd ps sp) (hr : Room k X.A) (hgl : Gl X x) (hm : X.mg x = some (.ref f))
    (hk : PySem.W.keepIn X.K (.ref f) = true) (hb : Binds X.K fd ps ds) (hd : Vals dvs ds) (hx : Passes CX X E) (ha : PA X (e :: es) t)
    (hdb : (x == ("__debug__" : Str)) = false := by decide)
    (he : starEach (e :: es) X.env = (false, eval e X.env) :: starEach es X.env := by rfl)
    (hpl : (backTo pos (starEach es X.env)).any (·.1) = false := by rfl) : PE X (.Call (.Name x p) (e :: es) [] pos) (tCall sp dvs E t) := by
  refine ⟨fun pins s σ H Q I h => wpAny_Call_Name_kw (ld_glob I hgl hm ?_ hdb)⟩
  refine PySem.W.callWith_K (h₀ := X.base) I.ok.mod.kin hk (thn (ha.run pos pins s σ H _ I h) ?_) he hpl
  rintro us s1 ⟨vs, H1, I1, r, q⟩
  exact ⟨I1.kIn, run_g hg F hr hb hd hx I1 r q⟩
/-- f() -/
theorem pg_call0 (hg : X.A.guards = some []) (F : FnG X.prog X.w X.K X.mg X.base CX k f fd ps sp) (hr : Room k X.A) (hgl : Gl X x) (hm : X.mg x = some (.ref f))
    (hk : PySem.W.keepIn X.K (.ref f) = true) (hb : Binds X.K fd ps ds) (hd : Vals dvs ds) (hx : Passes CX X E)
    (hdb : (x == ("__debug__" : Str)) = false := by decide) : PE X (.Call (.Name x p) [] [] pos) (tCall sp dvs E tNil) :=
  ⟨fun pins s σ H Q I h => wpAny_Call_Name_kw (ld_glob I hgl hm (PySem.W.callWith_K0 I.kIn hk (run_g (us := []) hg F hr hb hd hx I .nil h)) hdb)⟩
/-- f(k = v, ..): keywords alone -/
theorem run_gk {g : List Value → List Value → List Value} {gV : List V → List V → List V} {pins : List (Addr × Obj)} {σ : L2.St} {H : Hp} {s : Shared} {Q : VK} {us ws : List Value} {vs zs : List V}
    (hg : X.A.guards = some []) (F : FnG X.prog X.w X.K X.mg X.base CX k f fd ps sp) (hr : Room k X.A) (hb : KBinds X.K fd ps ks g gV)
    (hx : Passes CX X E) (I : Inv X pins σ H s) (r : Vals vs us) (rz : Vals zs ws) (h : sp (gV vs zs) H Q E) :
    wpAny (model X.prog X.w) X.A (call (.ref f) us (ks.zip ws)) (EP X pins σ Q) X.xe s := by
  have r2 := hb.rel r rz
  refine wpAny_call (codeAny_mono (enter hg F hr hx I (hb.to s us ws I.kIn (r2.length ▸ F.ar _ _ _ _ h)) r2 h) fun r s' hq => ?_)
  exact bh_out hq
end

section
variable {X : Cx} {CX : CXT} {k : Nat} {f : Addr} {fd : FuncData} {ps ks : List Str} {sp : Sp} {E : XK} {x : Str} {p pos : Pos} {kws : List Keyword} {tk : TA}
  {g : List Value → List Value → List Value} {gV : List V → List V → List V}
/-- f(k = v, ..), all by keywords -/
theorem pg_callK0 (hg : X.A.guards = some []) (F : FnG X.prog X.w X.K X.mg X.base CX k f fd ps sp) (hr : Room k X.A) (hgl : Gl X x) (hm : X.mg x = some (.ref f))
    (hk : PySem.W.keepIn X.K (.ref f) = true) (hb : KBinds X.K fd ps ks g gV) (hx : Passes CX X E) (hkw : PK X kws tk)
    (hall : (backToKw pos (keywordEach kws X.env)).all (·.1.isSome) = true := by rfl)
    (hks : (backToKw pos (keywordEach kws X.env)).filterMap (·.1) = ks := by rfl)
    (hdb : (x == ("__debug__" : Str)) = false := by decide)
    (hpl : ((backTo pos (starEach [] X.env)).any (·.1) || (backToKw pos (keywordEach kws X.env)).any (·.1.isNone)) = false := by rfl) :
    PE X (.Call (.Name x p) [] kws pos) (tCallK sp gV E tNil tk) := by
  refine ⟨fun pins s σ H Q I h => wpAny_Call_Name_kw (ld_glob I hgl hm ?_ hdb)⟩
  refine PySem.W.callWith_KW0 (h₀ := X.base) I.ok.mod.kin hk hall (thn (hkw.run pos pins s σ H _ I h) ?_) hpl
  rintro ws s2 ⟨zs, H2, I2, rz, q⟩
  rw [hks]
  exact ⟨I2.kIn, run_gk (us := []) (vs := []) hg F hr hb hx I2 .nil rz q⟩
end

/-! ### repr of data -/
section
variable {X : Cx}
/-- repr(x), x data without dicts -/
def rRepr (K : PySem.W.Frag) : List V → Hp → VK → Prop := fun xs H Q => ∃ v d, xs = [v] ∧ Dp K H v d ∧
  d.showable = true ∧ d.hasDict = false ∧ d.depth ≤ 100 ∧ d.shown.length ≤ sizeLine ∧ Q (.str d.shown) H
theorem call_repr {k : Nat} (hg : X.A.guards = some []) (hr : Room k X.A) : CallR X (.builtin "repr") (rRepr X.K) := by
  intro pins s σ H xs us Q I r h
  obtain ⟨v, d, rfl, hd, hs, hn, hp, hz, q⟩ := h
  obtain ⟨u, rfl, ru⟩ := vals1 r
  obtain ⟨as, rd⟩ := Dp.reads I d v u hd ru
  have hu := hr.un
  have flat : ∀ (t : Tok), EP X pins σ Q (.str d.shown t) { s with toks := s.toks + 1 } := fun t => ⟨.str d.shown, H, I.tok _, ⟨t, rfl⟩, q⟩
  have tall : ∀ {a : Addr}, Reads s.heap (.ref a) d as → wpAny (model X.prog X.w) X.A (call (.builtin "repr") [.ref a]) (EP X pins σ Q) X.xe s := fun {a} rd =>
    repr_of_reads' rd hs (PyData.noDict_hsm hn) hg (by omega) (fun _ _ e => e)
      (fun h' t tk hk => ⟨.str d.shown, H, I.kept hk, ⟨t, rfl⟩, q⟩) hz
  cases hd with
  | non => obtain rfl : u = Value.none := ru; exact PySem.P.repr_of_none (by simpa only [PyData.shown] using flat _)
  | bl b => obtain rfl : u = Value.bool b := ru; exact PySem.P.repr_of_bool (by simpa only [PyData.shown] using flat _)
  | int i =>
    obtain ⟨t, rfl⟩ := ru
    exact PySem.P.repr_of_int (by simpa [PyData.showable] using hs) (by simpa only [PyData.shown] using flat _)
  | str x =>
    obtain ⟨t, rfl⟩ := ru
    exact PySem.P.repr_of_str (by simpa only [PyData.shown] using flat _) (by simpa only [PyData.shown] using hz)
  | lst _ _ => obtain rfl := ru; exact tall rd
  | tup _ _ => obtain rfl := ru; exact tall rd
end

/-! ### the law's own call -/
/-- the names' dicts stay where a list is hidden -/
theorem ns_hid {h : Heap} {H : Hp} (none_of : ∀ b o es ep, h.get? b = some o → o.data = .dict es ep → H b = none) {b : Addr} {m : Str → Option Value}
    (n : h.Ns b m) : (hidT h H).Ns b m := by
  obtain ⟨o, es, ep, e, d, r⟩ := n
  exact ⟨o, es, ep, hidT_get e (none_of _ _ _ _ e d), d, r⟩
/-- where the script alone is tracked, or nothing -/
theorem law_at {P : Program} {w : World} {K : PySem.W.Frag} {mg mb : Str → Option Value} {CX : CXT} {k : Nat} {fa a : Addr} {fd : FuncData} {x : Str} {sp : Sp}
    {s : Shared} {vs : List Value} {H : Hp} (inK : K.In s.heap) (ng : s.heap.Ns mainGlobals mg) (nb : s.heap.Ns builtinsNs mb)
    (bb : ∀ x : Str, x ≠ "__name__" → mb x = bootBuiltins x) (lim : s.heap.NoLimit) (gens : s.gens = #[])
    (ha : s.heap.get? a = some { cls := .type "list", data := .seq vs.toArray }) (hr : Room k callerA)
    (F : ∀ base : Heap, K.In base → base.Ns mainGlobals mg → FnG P w K mg base CX k fa fd [x] sp)
    (bt : ∀ (s : Shared) (u : Value), BindsTo s fd ⟨[u], []⟩ [(x, u)]) (ok : HOk P w H s.heap) (one : ∀ b, H b ≠ none → b = a)
    (away : H a ≠ none → K.lookup a = none) (hO : Only H)
    (h : sp [.ref a] H (fun v _ => v = .bl true) fun _ _ _ => False) (noX : ∀ e s', CX [] H s (fun _ _ _ => False) e s' → False) :
    codeAny (model P w) callerA (.call (.ref fa) ⟨[.ref a], []⟩)
      (fun r s' => r = .ok (.ret (.bool true)) ∧ OldK s.heap s'.heap ∧ s'.os = s.os ∧ AllBare s'.gens) s := by
  have free : ∀ b o es ep, s.heap.get? b = some o → o.data = .dict es ep → H b = none := fun b o es ep e d => by
    cases q : H b with
    | none => rfl
    | some u =>
      obtain rfl := one b (by rw [q]; simp)
      rw [ha] at e
      cases e
      exact nomatch (show Data.seq vs.toArray _ = Data.dict es ep from d)
  have inB : K.In (hidT s.heap H) := fun b o e => by
    refine hidT_get (inK b o e) ?_
    cases q : H b with
    | none => rfl
    | some u =>
      obtain rfl := one b (by rw [q]; simp)
      rw [away (by rw [q]; simp)] at e
      cases e
  have md : Mod K mg (hidT s.heap H) := by
    obtain ⟨mc, l1, l2⟩ := lim
    exact ⟨inB, ns_hid free ng, ⟨mb, ns_hid free nb, bb⟩, mc, ns_hid free l1, l2⟩
  have e0 : Env0 P w K mg (hidT s.heap H) callerA [] s H :=
    ⟨rfl, md, fun _ _ e => of_hidT e, Nat.le_of_eq (hidT_size _ _), trivial, fun _ hb => (List.not_mem_nil hb).elim, ok, .of_eq gens⟩
  have run := (F _ inB (ns_hid free ng)).go callerA [] s H ⟨[.ref a], []⟩ [.ref a] [.ref a] _ _ rfl hr e0 (bt s (.ref a)) (.cons rfl .nil) h
  refine codeAny_mono run fun r s' hq => ?_
  match r, hq with
  | .error e, hq => exact (noX e s' hq).elim
  | .ok (.ret u), hq =>
    obtain ⟨v, H', os, bare, un, ok', rv, ev⟩ := hq
    subst ev
    obtain rfl : u = Value.bool true := rv
    refine ⟨rfl, .of_keep fun b o e => ?_, os, bare⟩
    cases q : H b with
    | none => exact un.keep b o e q List.not_mem_nil List.not_mem_nil
    | some u =>
      rcases hO b with z | ⟨ob, xs, z⟩
      · rw [q] at z
        cases z
      · have e1 := (ok b _ z).1
        have e2 := (ok' b _ (un.frzs b ob _ z)).1
        rw [e] at e1
        cases e1
        exact e2
/-- the script, tracked as what is known to its object -/
def scriptAt (a : Addr) (o : Obj) (xs : List V) : Hp := fun b => if b = a then some (.frz o (.lst xs)) else none
theorem scriptAt_ne {a b : Addr} {o : Obj} {xs : List V} (h : b ≠ a) : scriptAt a o xs b = none := if_neg h
theorem scriptAt_at {a : Addr} {o : Obj} {xs : List V} : scriptAt a o xs a = some (.frz o (.lst xs)) := if_pos rfl
theorem law_g {P : Program} {w : World} {K : PySem.W.Frag} {mg mb : Str → Option Value} {CX : CXT} {k : Nat} {fa a : Addr} {fd : FuncData} {x : Str} {sp : Sp}
    {s : Shared} {vs : List Value} {ns : List Int} (inK : K.In s.heap) (ng : s.heap.Ns mainGlobals mg) (nb : s.heap.Ns builtinsNs mb)
    (bb : ∀ x : Str, x ≠ "__name__" → mb x = bootBuiltins x) (lim : s.heap.NoLimit) (gens : s.gens = #[])
    (ha : s.heap.get? a = some { cls := .type "list", data := .seq vs.toArray }) (hi : IntsAre vs ns) (hl : ns.length ≤ sizeLine) (hr : Room k callerA)
    (F : ∀ base : Heap, K.In base → base.Ns mainGlobals mg → FnG P w K mg base CX k fa fd [x] sp)
    (bt : ∀ (s : Shared) (u : Value), BindsTo s fd ⟨[u], []⟩ [(x, u)])
    (h : ∀ H : Hp, Only H → SqL K H a (ns.map V.int) → sp [.ref a] H (fun v _ => v = .bl true) fun _ _ _ => False)
    (noX : ∀ H e s', CX [] H s (fun _ _ _ => False) e s' → False) :
    codeAny (model P w) callerA (.call (.ref fa) ⟨[.ref a], []⟩)
      (fun r s' => r = .ok (.ret (.bool true)) ∧ OldK s.heap s'.heap ∧ s'.os = s.os ∧ AllBare s'.gens) s := by
  cases hk : K.lookup a with
  | none =>
    have only : Only (scriptAt a { cls := .type "list", data := .seq vs.toArray } (ns.map V.int)) := fun b => by
      by_cases e : b = a
      · subst e
        exact .inr ⟨_, _, scriptAt_at⟩
      · exact .inl (scriptAt_ne e)
    refine law_at inK ng nb bb lim gens ha hr F bt (fun b u z => ?_) (fun b z => ?_) (fun _ => hk) only (h _ only (.inl (.inr ⟨_, scriptAt_at⟩))) (noX _)
    · by_cases e : b = a
      · subst e
        rw [scriptAt_at] at z
        cases z
        exact ⟨ha, by rw [List.length_map]; exact hl, vs, _, vals_ints hi, ha⟩
      · rw [scriptAt_ne e] at z
        cases z
    · exact Decidable.byContradiction fun e => z (scriptAt_ne e)
  | some o =>
    have e := inK a o hk
    rw [ha] at e
    cases e
    have sz : vs.toArray.size ≤ sizeLine := by rw [List.size_toArray, hi.length]; exact hl
    exact law_at (H := fun _ => none) inK ng nb bb lim gens ha hr F bt (fun _ _ z => nomatch z) (fun _ z => (z rfl).elim) (fun z => (z rfl).elim)
      (fun _ => .inl rfl) (h _ (fun _ => .inl rfl) (.inr ⟨_, vs.toArray, _, hk, rfl, rfl, rfl, sz, vals_ints hi⟩)) (noX _)

/-- the end of a law's row -/
theorem end_g {l : PySem.W.OpenLaw} {n k : Nat} {q : Program} {loose : List Str} {XP : (Str → Option Value) → Heap → Prop} {YP : World → Heap → Prop}
    {d : DefRec} {K : Params → PySem.W.Frag} {sp : PySem.W.Frag → Sp} {x : Str} (hn : l.most = some n) (hn2 : n ≤ sizeLine) (hdf : d.params.defaults = [])
    (hr : Room k callerA) (hY : ∀ (w : World) (h : Heap), YP w h → (K w.params).In h)
    (F : ∀ (w : World) (mg : Str → Option Value) (fa : Addr) (h : Heap), (K w.params).In h → h.Ns mainGlobals mg → mg d.name = some (.ref fa) →
      ∃ fd : FuncData, (∀ (s : Shared) (u : Value), BindsTo s fd ⟨[u], []⟩ [(x, u)]) ∧
        ∀ base : Heap, (K w.params).In base → base.Ns mainGlobals mg → FnG l.prog w (K w.params) mg base CX0 k fa fd [x] (sp (K w.params)))
    (hsp : ∀ (K : PySem.W.Frag) (H : Hp) (a : Addr) (ns : List Int), ns.length ≤ n → Only H → SqL K H a (ns.map V.int) →
      sp K [.ref a] H (fun v _ => v = .bl true) fun _ _ _ => False) :
    PySem.W.WalkO q loose XP YP l.row.toRowW d [] (fun f vs => PySem.call f vs) := by
  refine Att.attach_call hn hdf fun w s0 s1 mg mb fa o pm cd doc a vs ns G Y ho hd hcd hmg hobj hints hlen hg => ?_
  have inK := hY w _ Y
  obtain ⟨fd, hb, hF⟩ := F w mg fa _ inK G.T.g hmg
  exact law_g inK G.T.g G.T.b G.T.builtins G.T.nolimit hg hobj hints (Nat.le_trans hlen hn2) hr hF hb
    (fun H hO hS => hsp _ H a ns hlen hO hS) fun _ _ _ z => z
end G
end
section
set_option maxRecDepth 100000
set_option maxHeartbeats 2000000
/-! readings over data: what an expression gives is told as data, whatever stands in the heap -/
namespace G
open PySem PySem.Spec PyProof.Rows L2

/-! ### data in a heap: lists that are the call's own, tuples -/
mutual
inductive Da (K : PySem.W.Frag) (B : Hp) : V → PyData → Prop
  | non : Da K B .non .none
  | bl (b : Bool) : Da K B (.bl b) (.bool b)
  | int (i : Int) : Da K B (.int i) (.int i)
  | str (x : Str) : Da K B (.str x) (.str x)
  | lst {a : Addr} {xs : List V} {ds : List PyData} (h : B a = some (.lst xs)) (hs : DaAll K B xs ds) : Da K B (.ref a) (.list ds)
  | tup {a : Addr} {xs : List V} {ds : List PyData} (h : SqT K B a xs) (hs : DaAll K B xs ds) : Da K B (.ref a) (.tuple ds)
inductive DaAll (K : PySem.W.Frag) (B : Hp) : List V → List PyData → Prop
  | nil : DaAll K B [] []
  | cons {v : V} {vs : List V} {d : PyData} {ds : List PyData} (h : Da K B v d) (t : DaAll K B vs ds) : DaAll K B (v :: vs) (d :: ds)
end
section
variable {K : PySem.W.Frag} {B B' : Hp}
theorem same_t {H H' : Hp} {a : Addr} {xs : List V} (e : Same H H') (h : SqT K H a xs) : SqT K H' a xs := by
  rcases h with (h | ⟨o, h⟩) | h
  · exact .inl (.inl (e _ _ h))
  · exact .inl (.inr ⟨o, e _ _ h⟩)
  · exact .inr h
mutual
theorem Da.mono (e : Same B B') : ∀ (d : PyData) {v : V}, Da K B v d → Da K B' v d
  | .none, _, .non => .non
  | .bool _, _, .bl b => .bl b
  | .int _, _, .int i => .int i
  | .str _, _, .str x => .str x
  | .list ds, _, .lst h hs => .lst (e _ _ h) (DaAll.mono e ds hs)
  | .tuple ds, _, .tup h hs => .tup (same_t e h) (DaAll.mono e ds hs)
theorem DaAll.mono (e : Same B B') : ∀ (ds : List PyData) {vs : List V}, DaAll K B vs ds → DaAll K B' vs ds
  | [], _, .nil => .nil
  | d :: ds, _, .cons h t => .cons (Da.mono e d h) (DaAll.mono e ds t)
end
mutual
theorem Da.dp : ∀ (d : PyData) {v : V}, Da K B v d → Dp K B v d
  | .none, _, .non => .non
  | .bool _, _, .bl b => .bl b
  | .int _, _, .int i => .int i
  | .str _, _, .str x => .str x
  | .list ds, _, .lst h hs => .lst (.of h) (DaAll.dp ds hs)
  | .tuple ds, _, .tup h hs => .tup h (DaAll.dp ds hs)
theorem DaAll.dp : ∀ (ds : List PyData) {vs : List V}, DaAll K B vs ds → DpAll K B vs ds
  | [], _, .nil => .nil
  | d :: ds, _, .cons h t => .cons (Da.dp d h) (DaAll.dp ds t)
end
theorem DaAll.len : ∀ {vs : List V} {ds : List PyData}, DaAll K B vs ds → vs.length = ds.length
  | _, _, .nil => rfl
  | _, _, .cons _ t => congrArg Nat.succ t.len
theorem DaAll.at : ∀ {vs : List V} {ds : List PyData} {i : Nat} {d : PyData}, DaAll K B vs ds → ds[i]? = some d → ∃ v, vs[i]? = some v ∧ Da K B v d
  | _, _, _, _, .nil, e => by simp at e
  | _, _, 0, _, .cons h _, e => by
    simp at e
    subst e
    exact ⟨_, rfl, h⟩
  | _, _, i + 1, _, .cons _ t, e => by
    obtain ⟨v, h1, h2⟩ := DaAll.at (i := i) t (by simpa using e)
    exact ⟨v, by simpa using h1, h2⟩
theorem DaAll.app : ∀ {vs ws : List V} {ds es : List PyData}, DaAll K B vs ds → DaAll K B ws es → DaAll K B (vs ++ ws) (ds ++ es)
  | _, _, _, _, .nil, h => h
  | _, _, _, _, .cons a t, h => .cons a (t.app h)
theorem DaAll.take : ∀ {vs : List V} {ds : List PyData} (n : Nat), DaAll K B vs ds → DaAll K B (vs.take n) (ds.take n)
  | _, _, 0, _ => .nil
  | _, _, _ + 1, .nil => .nil
  | _, _, n + 1, .cons a t => .cons a (t.take n)
theorem DaAll.drop : ∀ {vs : List V} {ds : List PyData} (n : Nat), DaAll K B vs ds → DaAll K B (vs.drop n) (ds.drop n)
  | _, _, 0, h => h
  | _, _, _ + 1, .nil => .nil
  | _, _, n + 1, .cons _ t => t.drop n
theorem DaAll.rev : ∀ {vs : List V} {ds : List PyData}, DaAll K B vs ds → DaAll K B vs.reverse ds.reverse
  | _, _, .nil => .nil
  | _, _, .cons a t => by
    rw [List.reverse_cons, List.reverse_cons]
    exact t.rev.app (.cons a .nil)
theorem daInts : ∀ {vs : List V} {ns : List Int}, DaAll K B vs (ns.map .int) → vs = ns.map .int
  | _, [], .nil => rfl
  | _, _ :: ns, .cons (.int _) t => by rw [daInts (ns := ns) t]; rfl
theorem daBools : ∀ {vs : List V} {bs : List Bool}, DaAll K B vs (bs.map .bool) → vs = bs.map .bl
  | _, [], .nil => rfl
  | _, _ :: bs, .cons (.bl _) t => by rw [daBools (bs := bs) t]; rfl
end

/-! ### how the heap grows: H all that is tracked, B what the data lie in -/
structure Gr (B H B' H' : Hp) : Prop where
  ex : Same H H'
  bb : Same B B'
  sub : Same B' H'
  new : ∀ a o, B' a = some o → B a = none → H a = none
section
variable {B H B1 H1 B2 H2 : Hp}
theorem Gr.refl (h : Same B H) : Gr B H B H := ⟨Same.refl _, Same.refl _, h, fun a o e n => by rw [n] at e; cases e⟩
theorem Gr.trans (g : Gr B H B1 H1) (k : Gr B1 H1 B2 H2) : Gr B H B2 H2 := ⟨g.ex.trans k.ex, g.bb.trans k.bb, k.sub, fun a o e n => by
  cases q : B1 a with
  | none => exact g.ex.free (k.new a o e q)
  | some u => exact g.new a u q n⟩
theorem same_new {p : Addr} {o : HO} (h : H p = none) : Same H (upd H p o) := fun b u q => by
  rw [upd_ne (ne_of_none q h)]
  exact q
theorem Gr.add (h : Same B H) {p : Addr} (hp : H p = none) (o : HO) : Gr B H (upd B p o) (upd H p o) :=
  ⟨same_new hp, same_new (h.free hp), fun a u e => by
    by_cases q : a = p
    · subst q
      rw [upd_same] at e ⊢
      exact e
    · rw [upd_ne q] at e ⊢
      exact h a u e, fun a u e n => by
    by_cases q : a = p
    · subst q
      exact hp
    · rw [upd_ne q, n] at e
      cases e⟩
/-- a new object that is no data -/
theorem Gr.side (h : Same B H) {p : Addr} (hp : H p = none) (o : HO) : Gr B H B (upd H p o) :=
  ⟨same_new hp, Same.refl _, h.trans (same_new hp), fun a u e n => by rw [n] at e; cases e⟩
end

/-! ### the names' data -/
abbrev Rho := List (Option PyData)
structure EnvOk (K : PySem.W.Frag) (B : Hp) (σ : L2.St) (ρ : Rho) : Prop where
  len : σ.length = ρ.length
  look : ∀ (i : Nat) (d : PyData), ρ[i]? = some (some d) → ∃ v, σ[i]? = some (some v) ∧ Da K B v d
section
variable {K : PySem.W.Frag} {B B' : Hp} {σ : L2.St} {ρ : Rho}
theorem EnvOk.mono (e : Same B B') (h : EnvOk K B σ ρ) : EnvOk K B' σ ρ := ⟨h.len, fun i d q => by
  obtain ⟨v, h1, h2⟩ := h.look i d q
  exact ⟨v, h1, h2.mono e⟩⟩
theorem EnvOk.set (h : EnvOk K B σ ρ) {v : V} {d : PyData} (hv : Da K B v d) (i : Nat) : EnvOk K B (σ.set i (some v)) (ρ.set i (some d)) :=
  ⟨by rw [List.length_set, List.length_set]; exact h.len, fun j e q => by
    by_cases c : i = j
    · subst c
      have l : i < ρ.length := by
        have z := (List.getElem?_eq_some_iff.mp q).1
        rw [List.length_set] at z
        exact z
      rw [List.getElem?_set_self l] at q
      cases q
      exact ⟨v, by rw [List.getElem?_set_self (by rw [h.len]; exact l)], hv⟩
    · rw [List.getElem?_set_ne c] at q
      obtain ⟨w, h1, h2⟩ := h.look j e q
      exact ⟨w, by rw [List.getElem?_set_ne c]; exact h1, h2⟩⟩
theorem EnvOk.unset (h : EnvOk K B σ ρ) (i : Nat) : EnvOk K B (σ.set i none) (ρ.set i none) :=
  ⟨by rw [List.length_set, List.length_set]; exact h.len, fun j e q => by
    by_cases c : i = j
    · subst c
      have l : i < ρ.length := by
        have z := (List.getElem?_eq_some_iff.mp q).1
        rw [List.length_set] at z
        exact z
      rw [List.getElem?_set_self l] at q
      cases q
    · rw [List.getElem?_set_ne c] at q
      obtain ⟨w, h1, h2⟩ := h.look j e q
      exact ⟨w, by rw [List.getElem?_set_ne c]; exact h1, h2⟩⟩
end
def wipeR (ρ : Rho) : List Nat → Rho
  | [] => ρ
  | v :: vs => (wipeR ρ vs).set v none
theorem EnvOk.wiped {K : PySem.W.Frag} {B : Hp} {σ : L2.St} {ρ : Rho} (h : EnvOk K B σ ρ) : ∀ vs, EnvOk K B (wipe σ vs) (wipeR ρ vs)
  | [] => h
  | v :: vs => (h.wiped vs).unset v
def startR (N : List Str) (ds : List PyData) : Rho := ds.map some ++ List.replicate (N.length - ds.length) none
theorem env_start {K : PySem.W.Frag} {B : Hp} {N : List Str} {vs : List V} {ds : List PyData} (h : DaAll K B vs ds) : EnvOk K B (L2.start N vs) (startR N ds) := by
  have hl := h.len
  refine ⟨by unfold L2.start startR; simp [hl], fun i d q => ?_⟩
  unfold startR at q
  by_cases hi : i < ds.length
  · rw [List.getElem?_append_left (by simpa using hi), List.getElem?_map] at q
    cases e : ds[i]? with
    | none => rw [e] at q; cases q
    | some c =>
      rw [e] at q
      cases q
      obtain ⟨v, h1, h2⟩ := h.at e
      refine ⟨v, ?_, h2⟩
      unfold L2.start
      rw [List.getElem?_append_left (by simpa [hl] using hi), List.getElem?_map, h1]
      rfl
  · rw [List.getElem?_append_right (by simpa using hi), List.getElem?_replicate] at q
    split at q <;> cases q

/-! ### what evaluates to what data -/
def Ev (K : PySem.W.Frag) (te : TE) (ρ : Rho) (d : PyData) : Prop := ∀ σ B H, EnvOk K B σ ρ → Same B H → ∀ Q : VK, (∀ v B' H', Gr B H B' H' → Da K B' v d → Q v H') → te σ H Q
def EvL (K : PySem.W.Frag) (ta : TA) (ρ : Rho) (ds : List PyData) : Prop := ∀ σ B H, EnvOk K B σ ρ → Same B H → ∀ Q : List V → Hp → Prop, (∀ vs B' H', Gr B H B' H' → DaAll K B' vs ds → Q vs H') → ta σ H Q
def EvB (K : PySem.W.Frag) (tt : TT) (ρ : Rho) (b : Bool) : Prop := ∀ σ B H, EnvOk K B σ ρ → Same B H → ∀ Q : Bool → Hp → Prop, (∀ B' H', Gr B H B' H' → Q b H') → tt σ H Q
/-- an operation on values, by data -/
def Op2 (K : PySem.W.Frag) (r : R2) (x y z : PyData) : Prop := ∀ B H, Same B H → ∀ u v, Da K B u x → Da K B v y → ∀ Q : VK, (∀ w B' H', Gr B H B' H' → Da K B' w z → Q w H') → r u v H Q
def Fn (K : PySem.W.Frag) (r : List V → Hp → VK → Prop) (xs : List PyData) (z : PyData) : Prop := ∀ B H, Same B H → ∀ us, DaAll K B us xs → ∀ Q : VK, (∀ w B' H', Gr B H B' H' → Da K B' w z → Q w H') → r us H Q
section
variable {K : PySem.W.Frag} {ρ : Rho} {ta tb te tc : TE} {d x y z : PyData} {t u : TT} {r : R2}
theorem ev_var {i : Nat} (h : ρ[i]? = some (some d)) : Ev K (tVar i) ρ d := fun σ B H e s Q q => by
  obtain ⟨v, h1, h2⟩ := e.look i d h
  exact ⟨v, h1, q v B H (.refl s) h2⟩
theorem ev_int {i : Int} : Ev K (tC (.int i)) ρ (.int i) := fun _ B H _ s _ q => q _ B H (.refl s) (.int i)
theorem ev_bl {b : Bool} : Ev K (tC (.bl b)) ρ (.bool b) := fun _ B H _ s _ q => q _ B H (.refl s) (.bl b)
theorem ev_non : Ev K (tC .non) ρ .none := fun _ B H _ s _ q => q _ B H (.refl s) .non
theorem ev_str {c : Str} : Ev K (tC (.str c)) ρ (.str c) := fun _ B H _ s _ q => q _ B H (.refl s) (.str c)
theorem ev_op (ha : Ev K ta ρ x) (hb : Ev K tb ρ y) (hr : Op2 K r x y z) : Ev K (tOp r ta tb) ρ z := fun σ B H e s Q q =>
  ha σ B H e s _ fun u B1 H1 g1 hu => hb σ B1 H1 (e.mono g1.bb) g1.sub _ fun v B2 H2 g2 hv =>
    hr B2 H2 g2.sub u v (hu.mono g2.bb) hv Q fun w B3 H3 g3 hw => q w B3 H3 ((g1.trans g2).trans g3) hw
theorem ev_un {r : V → Hp → VK → Prop} (ha : Ev K ta ρ x) (hr : ∀ B H, Same B H → ∀ u, Da K B u x → ∀ Q : VK, (∀ w B' H', Gr B H B' H' → Da K B' w z → Q w H') → r u H Q) : Ev K (tUn r ta) ρ z := fun σ B H e s Q q =>
  ha σ B H e s _ fun u B1 H1 g1 hu => hr B1 H1 g1.sub u hu Q fun w B2 H2 g2 hw => q w B2 H2 (g1.trans g2) hw
theorem el_nil : EvL K tNil ρ [] := fun _ B H _ s _ q => q _ B H (.refl s) .nil
theorem el_cons {tr : TA} {ds : List PyData} (ha : Ev K ta ρ d) (hr : EvL K tr ρ ds) : EvL K (tCons ta tr) ρ (d :: ds) := fun σ B H e s Q q =>
  ha σ B H e s _ fun u B1 H1 g1 hu => hr σ B1 H1 (e.mono g1.bb) g1.sub _ fun vs B2 H2 g2 hv => q _ B2 H2 (g1.trans g2) (.cons (hu.mono g2.bb) hv)
theorem ev_tup {tr : TA} {ds : List PyData} (h : EvL K tr ρ ds) (hl : ds.length ≤ sizeLine) : Ev K (tTup tr) ρ (.tuple ds) := fun σ B H e s Q q =>
  h σ B H e s _ fun vs B1 H1 g1 hv => ⟨by rw [hv.len]; exact hl, fun p hp => by
    have g := Gr.add g1.sub hp (.tup vs)
    exact q _ _ _ (g1.trans g) (.tup (.of upd_same) (hv.mono g.bb))⟩
theorem ev_lst {tr : TA} {ds : List PyData} (h : EvL K tr ρ ds) (hl : ds.length ≤ sizeLine) : Ev K (tLst tr) ρ (.list ds) := fun σ B H e s Q q =>
  h σ B H e s _ fun vs B1 H1 g1 hv => ⟨by rw [hv.len]; exact hl, fun p hp => by
    have g := Gr.add g1.sub hp (.lst vs)
    exact q _ _ _ (g1.trans g) (.lst upd_same (hv.mono g.bb))⟩
theorem ev_cb {rr : List V → Hp → VK → Prop} {tr : TA} {ds : List PyData} (h : EvL K tr ρ ds) (hr : Fn K rr ds z) : Ev K (tCB rr tr) ρ z := fun σ B H e s Q q =>
  h σ B H e s _ fun vs B1 H1 g1 hv => hr B1 H1 g1.sub vs hv Q fun w B2 H2 g2 hw => q w B2 H2 (g1.trans g2) hw
theorem eb_test {b : Bool} (h : Ev K te ρ (.bool b)) : EvB K (tTest te) ρ b := fun σ B H e s Q q =>
  h σ B H e s _ fun v B1 H1 g1 hv => by cases hv; exact ⟨b, rfl, q B1 H1 g1⟩
theorem eb_B {b : Bool} (h : Ev K te ρ (.bool b)) : EvB K (tB te) ρ b := fun σ B H e s Q q =>
  h σ B H e s _ fun v B1 H1 g1 hv => by cases hv; exact ⟨b, rfl, q B1 H1 g1⟩
theorem eb_and {a b : Bool} (h1 : EvB K t ρ a) (h2 : a = true → EvB K u ρ b) (hf : a = false → b = false) : EvB K (tAnd t u) ρ b := fun σ B H e s Q q =>
  h1 σ B H e s _ fun B1 H1 g1 => by
    cases a with
    | true => exact iteT (h2 rfl σ B1 H1 (e.mono g1.bb) g1.sub _ fun B2 H2 g2 => q B2 H2 (g1.trans g2))
    | false => rw [hf rfl] at q; exact iteF (q B1 H1 g1)
theorem eb_or {a b : Bool} (h1 : EvB K t ρ a) (h2 : a = false → EvB K u ρ b) (ht : a = true → b = true) : EvB K (tOr t u) ρ b := fun σ B H e s Q q =>
  h1 σ B H e s _ fun B1 H1 g1 => by
    cases a with
    | true => rw [ht rfl] at q; exact iteT (q B1 H1 g1)
    | false => exact iteF (h2 rfl σ B1 H1 (e.mono g1.bb) g1.sub _ fun B2 H2 g2 => q B2 H2 (g1.trans g2))
theorem eb_not {a b : Bool} (h1 : EvB K t ρ a) (hb : (!a) = b) : EvB K (tNot t) ρ b := fun σ B H e s Q q =>
  h1 σ B H e s _ fun B1 H1 g1 => by rw [hb]; exact q B1 H1 g1
theorem ev_and {a : Bool} (h1 : Ev K ta ρ (.bool a)) (h2 : a = true → Ev K tb ρ z) (hf : a = false → z = .bool false) : Ev K (tAndV ta tb) ρ z := fun σ B H e s Q q =>
  h1 σ B H e s _ fun v B1 H1 g1 hv => by
    cases hv
    refine ⟨a, rfl, ?_⟩
    cases a with
    | true => exact iteT (h2 rfl σ B1 H1 (e.mono g1.bb) g1.sub Q fun w B2 H2 g2 => q w B2 H2 (g1.trans g2))
    | false => exact iteF (q _ B1 H1 g1 (by rw [hf rfl]; exact .bl false))
theorem ev_or {a : Bool} (h1 : Ev K ta ρ (.bool a)) (h2 : a = false → Ev K tb ρ z) (ht : a = true → z = .bool true) : Ev K (tOrV ta tb) ρ z := fun σ B H e s Q q =>
  h1 σ B H e s _ fun v B1 H1 g1 hv => by
    cases hv
    refine ⟨a, rfl, ?_⟩
    cases a with
    | true => exact iteT (q _ B1 H1 g1 (by rw [ht rfl]; exact .bl true))
    | false => exact iteF (h2 rfl σ B1 H1 (e.mono g1.bb) g1.sub Q fun w B2 H2 g2 => q w B2 H2 (g1.trans g2))
theorem ev_not {a : Bool} (h1 : Ev K ta ρ (.bool a)) (hz : z = .bool (!a)) : Ev K (tNotV ta) ρ z := fun σ B H e s Q q =>
  h1 σ B H e s _ fun v B1 H1 g1 hv => by cases hv; exact ⟨a, rfl, q _ B1 H1 g1 (by rw [hz]; exact .bl _)⟩
theorem ev_ifx {b : Bool} (h : EvB K t ρ b) (h1 : b = true → Ev K ta ρ z) (h2 : b = false → Ev K tb ρ z) : Ev K (tIf t ta tb) ρ z := fun σ B H e s Q q =>
  h σ B H e s _ fun B1 H1 g1 => by
    cases b with
    | true => exact iteT (h1 rfl σ B1 H1 (e.mono g1.bb) g1.sub Q fun w B2 H2 g2 => q w B2 H2 (g1.trans g2))
    | false => exact iteF (h2 rfl σ B1 H1 (e.mono g1.bb) g1.sub Q fun w B2 H2 g2 => q w B2 H2 (g1.trans g2))
theorem ev_chain {r' : R2} {a : Bool} {w : PyData} (ha : Ev K ta ρ x) (hb : Ev K tb ρ y) (hr : Op2 K r x y (.bool a)) (hc : a = true → Ev K tc ρ w) (hr' : a = true → Op2 K r' y w z) (hf : a = false → z = .bool false) : Ev K (tChain r r' ta tb tc) ρ z := fun σ B H e s Q q =>
  ha σ B H e s _ fun u B1 H1 g1 hu => hb σ B1 H1 (e.mono g1.bb) g1.sub _ fun v B2 H2 g2 hv =>
    hr B2 H2 g2.sub u v (hu.mono g2.bb) hv _ fun k B3 H3 g3 hk => by
      cases hk
      refine ⟨a, rfl, ?_⟩
      have g := (g1.trans g2).trans g3
      cases a with
      | true => exact iteT (hc rfl σ B3 H3 (e.mono g.bb) g.sub _ fun w' B4 H4 g4 hw => hr' rfl B4 H4 g4.sub v w' (hv.mono (g3.bb.trans g4.bb)) hw Q fun w5 B5 H5 g5 h5 => q w5 B5 H5 ((g.trans g4).trans g5) h5)
      | false => exact iteF (q _ B3 H3 g (by rw [hf rfl]; exact .bl false))
/-! operations -/
theorem op_I0 {g : Int → Int → V} {i j : Int} (h : ∀ B, Da K B (g i j) z) : Op2 K (rI0 g) (.int i) (.int j) z := fun B H s u v hu hv Q q => by
  cases hu
  cases hv
  exact ⟨i, j, rfl, rfl, q _ B H (.refl s) (h B)⟩
theorem op_I {C : Int → Int → Prop} {g : Int → Int → V} {i j : Int} (hc : C i j) (h : ∀ B, Da K B (g i j) z) : Op2 K (rI C g) (.int i) (.int j) z := fun B H s u v hu hv Q q => by
  cases hu
  cases hv
  exact ⟨i, j, rfl, rfl, hc, q _ B H (.refl s) (h B)⟩
theorem opp_cat {xs ys : List PyData} (hl : xs.length + ys.length ≤ sizeLine) : Op2 K rCat (.list xs) (.list ys) (.list (xs ++ ys)) := fun B H s u v hu hv Q q => by
  cases hu with
  | @lst a us _ h1 a1 =>
    cases hv with
    | @lst b vs _ h2 a2 =>
      refine ⟨_, _, _, _, rfl, rfl, s _ _ h1, s _ _ h2, by rw [a1.len, a2.len]; exact hl, fun p hp => ?_⟩
      have g := Gr.add s hp (.lst (us ++ vs))
      exact q _ _ _ g (.lst upd_same ((a1.app a2).mono g.bb))
theorem opp_ixL {xs : List PyData} {i : Nat} (h : xs[i]? = some z) : Op2 K (rIxL K) (.list xs) (.int i) z := fun B H s u v hu hv Q q => by
  cases hv
  cases hu with
  | lst h1 a1 =>
    obtain ⟨w, e1, e2⟩ := a1.at h
    exact ⟨_, _, _, w, rfl, rfl, .of (s _ _ h1), atI_nat e1, q _ B H (.refl s) e2⟩
theorem opp_ixT {xs : List PyData} {i : Nat} (h : xs[i]? = some z) : Op2 K (rIxT K) (.tuple xs) (.int i) z := fun B H s u v hu hv Q q => by
  cases hv
  cases hu with
  | tup h1 a1 =>
    obtain ⟨w, e1, e2⟩ := a1.at h
    exact ⟨_, _, _, w, rfl, rfl, same_t s h1, atI_nat e1, q _ B H (.refl s) e2⟩
theorem opp_eqD {x y : PyData} (hx : SeqAt.shaped x = true) (hy : SeqAt.shaped y = true) (hz : z = .bool (PyData.eqv x y)) : Op2 K (rEqD K) x y z := fun B H s u v hu hv Q q =>
  ⟨x, y, (hu.mono s).dp, (hv.mono s).dp, hx, hy, q _ B H (.refl s) (by rw [hz]; exact .bl _)⟩
theorem opp_neD {x y : PyData} (hx : SeqAt.shaped x = true) (hy : SeqAt.shaped y = true) (hz : z = .bool (!PyData.eqv x y)) : Op2 K (rNeD K) x y z := fun B H s u v hu hv Q q =>
  ⟨x, y, (hu.mono s).dp, (hv.mono s).dp, hx, hy, q _ B H (.refl s) (by rw [hz]; exact .bl _)⟩
theorem opp_eqI {i j : Int} (hz : z = .bool (decide (i = j))) : Op2 K rEq (.int i) (.int j) z := fun B H s u v hu hv Q q => by
  cases hu
  cases hv
  refine ⟨rfl, q _ B H (.refl s) ?_⟩
  rw [hz, show decide (V.int i = V.int j) = decide (i = j) from decide_eq_decide.mpr ⟨fun e => V.int.inj e, fun e => congrArg V.int e⟩]
  exact .bl _
theorem opp_neI {i j : Int} (hz : z = .bool (!decide (i = j))) : Op2 K rNe (.int i) (.int j) z := fun B H s u v hu hv Q q => by
  cases hu
  cases hv
  refine ⟨rfl, q _ B H (.refl s) ?_⟩
  rw [hz, show decide (V.int i = V.int j) = decide (i = j) from decide_eq_decide.mpr ⟨fun e => V.int.inj e, fun e => congrArg V.int e⟩]
  exact .bl _
theorem opp_eqS {a b : Str} (hz : z = .bool (decide (a = b))) : Op2 K rEq (.str a) (.str b) z := fun B H s u v hu hv Q q => by
  cases hu
  cases hv
  refine ⟨rfl, q _ B H (.refl s) ?_⟩
  rw [hz, show decide (V.str a = V.str b) = decide (a = b) from decide_eq_decide.mpr ⟨fun e => V.str.inj e, fun e => congrArg V.str e⟩]
  exact .bl _
theorem opp_neS {a b : Str} (hz : z = .bool (!decide (a = b))) : Op2 K rNe (.str a) (.str b) z := fun B H s u v hu hv Q q => by
  cases hu
  cases hv
  refine ⟨rfl, q _ B H (.refl s) ?_⟩
  rw [hz, show decide (V.str a = V.str b) = decide (a = b) from decide_eq_decide.mpr ⟨fun e => V.str.inj e, fun e => congrArg V.str e⟩]
  exact .bl _
/-! built-ins -/
theorem fn_repr (hs : d.showable = true) (hd : d.hasDict = false) (hp : d.depth ≤ 100) (hz : d.shown.length ≤ sizeLine) : Fn K (rRepr K) [d] (.str d.shown) := fun B H s us hu Q q => by
  cases hu with
  | cons h t =>
    cases t
    exact ⟨_, d, rfl, (h.mono s).dp, hs, hd, hp, hz, q _ B H (.refl s) (.str _)⟩
theorem fn_len {xs : List PyData} : Fn K (fun xs H Q => ∃ p ys, xs = [.ref p] ∧ (SqL K H p ys ∨ SqT K H p ys) ∧ Q (.int ys.length) H) [.list xs] (.int xs.length) := fun B H s us hu Q q => by
  cases hu with
  | cons h t =>
    cases t
    cases h with
    | lst h1 a1 => exact ⟨_, _, rfl, .inl (.of (s _ _ h1)), q _ B H (.refl s) (by rw [a1.len]; exact .int _)⟩
end
end G
end
section
set_option maxRecDepth 100000
set_option maxHeartbeats 2000000
/-! readings over data: statements, loops, comprehensions, defs -/
namespace G
open PySem PySem.Spec PyProof.Rows L2

/-! ### statements: N what the names' data are behind it, R what is returned -/
def Do (K : PySem.W.Frag) (ts : TS) (ρ : Rho) (N : Rho → Prop) (R : PyData → Prop) : Prop := ∀ σ B H (D : Ends), EnvOk K B σ ρ → Same B H →
  (∀ σ' B' H' ρ', Gr B H B' H' → EnvOk K B' σ' ρ' → N ρ' → D.nx σ' H') → (∀ v B' H' d, Gr B H B' H' → Da K B' v d → R d → D.rt v H') → ts D σ H
section
variable {K : PySem.W.Frag} {ρ : Rho} {N M : Rho → Prop} {R : PyData → Prop} {te : TE} {t u : TS} {tt : TT} {d : PyData}
theorem do_next (h : N ρ) : Do K tNext ρ N R := fun σ B H D e s n _ => n σ B H ρ (.refl s) e h
theorem do_seq (h : Do K t ρ M R) (k : ∀ ρ', M ρ' → Do K u ρ' N R) : Do K (tSeq t u) ρ N R := fun σ B H D e s n r =>
  h σ B H _ e s (fun σ' B' H' ρ' g e' m => k ρ' m σ' B' H' D e' g.sub (fun σ2 B2 H2 ρ2 g2 => n σ2 B2 H2 ρ2 (g.trans g2)) (fun v B2 H2 d g2 => r v B2 H2 d (g.trans g2))) r
theorem do_ret (h : Ev K te ρ d) (r : R d) : Do K (tRet te) ρ N R := fun σ B H D e s _ k => h σ B H e s _ fun v B' H' g hv => k v B' H' d g hv r
theorem do_retN (r : R .none) : Do K tRetN ρ N R := fun σ B H D e s _ k => k .non B H .none (.refl s) .non r
theorem do_drop (h : Ev K te ρ d) (n : N ρ) : Do K (tDrop te) ρ N R := fun σ B H D e s k _ => h σ B H e s _ fun v B' H' g _ => k σ B' H' ρ g (e.mono g.bb) n
theorem do_if {b : Bool} (h : EvB K tt ρ b) (h1 : b = true → Do K t ρ N R) (h2 : b = false → Do K u ρ N R) : Do K (tIfS tt t u) ρ N R := fun σ B H D e s n r =>
  h σ B H e s _ fun B1 H1 g1 => by
    cases b with
    | true => exact iteT (h1 rfl σ B1 H1 D (e.mono g1.bb) g1.sub (fun σ2 B2 H2 ρ2 g2 => n σ2 B2 H2 ρ2 (g1.trans g2)) fun v B2 H2 d g2 => r v B2 H2 d (g1.trans g2))
    | false => exact iteF (h2 rfl σ B1 H1 D (e.mono g1.bb) g1.sub (fun σ2 B2 H2 ρ2 g2 => n σ2 B2 H2 ρ2 (g1.trans g2)) fun v B2 H2 d g2 => r v B2 H2 d (g1.trans g2))
theorem Do.imp {N' : Rho → Prop} {R' : PyData → Prop} (h : Do K t ρ N R) (hn : ∀ ρ', N ρ' → N' ρ') (hr : ∀ d, R d → R' d) : Do K t ρ N' R' := fun σ B H D e s n r =>
  h σ B H D e s (fun σ' B' H' ρ' g e' m => n σ' B' H' ρ' g e' (hn _ m)) fun v B' H' d g hv m => r v B' H' d g hv (hr _ m)

/-! targets -/
def Tg (K : PySem.W.Frag) (g : TG) (e : PyData) (ρ ρ1 : Rho) : Prop := ∀ σ B H v, EnvOk K B σ ρ → Same B H → Da K B v e → ∀ Q : L2.St → Hp → Prop, (∀ σ', EnvOk K B σ' ρ1 → Q σ' H) → g v σ H Q
def Tgs (K : PySem.W.Frag) (g : TGs) (es : List PyData) (ρ ρ1 : Rho) : Prop := ∀ σ B H vs, EnvOk K B σ ρ → Same B H → DaAll K B vs es → ∀ Q : L2.St → Hp → Prop, (∀ σ', EnvOk K B σ' ρ1 → Q σ' H) → g vs σ H Q
theorem tg_name {i : Nat} {e : PyData} : Tg K (gName i) e ρ (ρ.set i (some e)) := fun σ B H v he s hv Q q => q _ (he.set hv i)
theorem tgs_nil : Tgs K gNil [] ρ ρ := fun σ B H vs he s hv Q q => by cases hv; exact ⟨rfl, q σ he⟩
theorem tgs_cons {g : TG} {gs : TGs} {e : PyData} {es : List PyData} {ρ1 ρ2 : Rho} (h : Tg K g e ρ ρ1) (hs : Tgs K gs es ρ1 ρ2) : Tgs K (gCons g gs) (e :: es) ρ ρ2 := fun σ B H vs he s hv Q q => by
  cases hv with
  | cons a t => exact ⟨_, _, rfl, h σ B H _ he s a _ fun σ' he' => hs σ' B H _ he' s t Q q⟩
theorem tg_tup {gs : TGs} {es : List PyData} {n : Nat} {ρ1 : Rho} (hn : es.length = n) (hs : Tgs K gs es ρ ρ1) : Tg K (gTup K n gs) (.tuple es) ρ ρ1 := fun σ B H v he s hv Q q => by
  cases hv with
  | tup h a => exact ⟨_, _, rfl, same_t s h, by rw [a.len, hn], hs σ B H _ he s a Q q⟩
theorem do_asg {g : TG} {ρ1 : Rho} (h : Ev K te ρ d) (hg : Tg K g d ρ ρ1) (n : N ρ1) : Do K (tAsg te g) ρ N R := fun σ B H D e s k _ =>
  h σ B H e s _ fun v B' H' gr hv => hg σ B' H' v (e.mono gr.bb) gr.sub hv _ fun σ' e' => k σ' B' H' ρ1 gr e' n
theorem do_set {i : Nat} (h : Ev K te ρ d) (n : N (ρ.set i (some d))) : Do K (tAsg te (gName i)) ρ N R := do_asg h tg_name n
theorem do_par {i j : Nat} {ta : TA} {x y : PyData} (h : EvL K ta ρ [x, y]) (n : N ((ρ.set i (some x)).set j (some y))) : Do K (tPar i j ta) ρ N R := fun σ B H D e s k _ =>
  h σ B H e s _ fun vs B' H' g hv => by
    cases hv with
    | cons h1 t =>
      cases t with
      | cons h2 t =>
        cases t
        exact ⟨_, _, rfl, k _ B' H' _ g (((e.mono g.bb).set h1 i).set h2 j) n⟩
theorem do_par3 {i j l : Nat} {ta : TA} {x y z : PyData} (h : EvL K ta ρ [x, y, z]) (n : N (((ρ.set i (some x)).set j (some y)).set l (some z))) : Do K (tPar3 i j l ta) ρ N R := fun σ B H D e s k _ =>
  h σ B H e s _ fun vs B' H' g hv => by
    cases hv with
    | cons h1 t =>
      cases t with
      | cons h2 t =>
        cases t with
        | cons h3 t =>
          cases t
          exact ⟨_, _, _, rfl, k _ B' H' _ g ((((e.mono g.bb).set h1 i).set h2 j).set h3 l) n⟩

/-! what is walked -/
def Goes (K : PySem.W.Frag) (J : It) (B : Hp) (es : List PyData) : Prop := Walk J es.length (fun H => Same B H) fun i H x H' => ∀ B0, Same B B0 → Same B0 H → ∃ B' e, Gr B0 H B' H' ∧ es[i]? = some e ∧ Da K B' x e
def Iter (K : PySem.W.Frag) (wi : TI) (ρ : Rho) (es : List PyData) : Prop := ∀ σ B H, EnvOk K B σ ρ → Same B H → ∀ R : It → Hp → Prop, (∀ J B1 H1, Gr B H B1 H1 → Goes K J B1 es → R J H1) → wi σ H R
theorem goes_at {J : It} {B : Hp} {xs : List V} {es : List PyData} {G : Hp → Prop} (w : Walk J xs.length G (YAt xs)) (hg : ∀ H, Same B H → G H) (a : DaAll K B xs es) : Goes K J B es := by
  have hl := a.len
  unfold Goes
  rw [← hl]
  refine w.mono hg fun i H x H' hi s y B0 s0 h0 => ?_
  obtain ⟨rfl, hx⟩ := y
  have he : es[i]? = some (es[i]'(by omega)) := List.getElem?_eq_getElem _
  obtain ⟨v, e1, e2⟩ := a.at he
  rw [hx] at e1
  cases e1
  exact ⟨B0, _, .refl h0, he, e2.mono s0⟩
theorem it_list {tl : TE} {es : List PyData} (h : Ev K tl ρ (.list es)) : Iter K (iList K tl) ρ es := fun σ B H e s R r =>
  h σ B H e s _ fun v B1 H1 g hv => by
    cases hv with
    | lst h1 a => exact ⟨_, rfl, ⟨_, .of (g.sub _ _ h1)⟩, r _ B1 H1 g (goes_at walk_list (fun H' s' => .of (s' _ _ h1)) a)⟩
theorem it_tup {tl : TE} {es : List PyData} (h : Ev K tl ρ (.tuple es)) : Iter K (iTup K tl) ρ es := fun σ B H e s R r =>
  h σ B H e s _ fun v B1 H1 g hv => by
    cases hv with
    | tup h1 a => exact ⟨_, rfl, ⟨_, same_t g.sub h1⟩, r _ B1 H1 g (goes_at walk_tup (fun H' s' => same_t s' h1) a)⟩
theorem it_range1 {ta : TA} {n : Nat} (h : EvL K ta ρ [.int n]) (hn : (n : Int) < 2 ^ 62) : Iter K (iRng1 ta) ρ ((List.range n).map fun (i : Nat) => .int (i : Int)) := fun σ B H e s R r =>
  h σ B H e s _ fun vs B1 H1 g hv => by
    cases hv with
    | cons h1 t =>
      cases t
      cases h1
      refine ⟨(n : Int), rfl, by omega, hn, r _ B1 H1 g ?_⟩
      unfold Goes
      rw [List.length_map, List.length_range]
      show Walk (Itr 0 (n : Int).toNat) n _ _
      rw [Int.toNat_natCast]
      refine walk_range.mono (fun _ _ => trivial) fun i H x H' hi s y B0 s0 h0 => ?_
      obtain ⟨rfl, rfl⟩ := y
      refine ⟨B0, .int (i : Int), .refl h0, by simp [hi], ?_⟩
      show Da K B0 (V.int (0 + (i : Int))) (.int (i : Int))
      rw [Int.zero_add]
      exact .int _
theorem it_range2 {ta : TA} {lo hi : Int} (h : EvL K ta ρ [.int lo, .int hi]) (hb : -(2 ^ 62) ≤ lo ∧ lo < 2 ^ 62 ∧ -(2 ^ 62) ≤ hi ∧ hi < 2 ^ 62) : Iter K (iRng2 ta) ρ ((List.range (hi - lo).toNat).map fun (i : Nat) => .int (lo + (i : Int))) := fun σ B H e s R r =>
  h σ B H e s _ fun vs B1 H1 g hv => by
    cases hv with
    | cons h1 t =>
      cases t with
      | cons h2 t =>
        cases t
        cases h1
        cases h2
        refine ⟨lo, hi, rfl, hb, r _ B1 H1 g ?_⟩
        unfold Goes
        rw [List.length_map, List.length_range]
        refine walk_range.mono (fun _ _ => trivial) fun i H x H' hi s y B0 s0 h0 => ?_
        obtain ⟨rfl, rfl⟩ := y
        exact ⟨B0, .int (lo + (i : Int)), .refl h0, by simp [hi], .int _⟩
/-- pairs of both, as long as the shorter one -/
def zipD (xs ys : List PyData) : List PyData := (xs.zip ys).map fun p => .tuple [p.1, p.2]
theorem zipD_len (xs ys : List PyData) : (zipD xs ys).length = min xs.length ys.length := by unfold zipD; simp
theorem goes_pair {J : It} {B : Hp} {xs ys : List V} {es fs : List PyData} {G : Hp → Prop} (w : Walk J (min xs.length ys.length) G (YPair (fun i => xs[i]?) fun i => ys[i]?)) (hg : ∀ H, Same B H → G H) (a : DaAll K B xs es) (b : DaAll K B ys fs) : Goes K J B (zipD es fs) := by
  have hl := a.len
  have hm := b.len
  unfold Goes
  rw [zipD_len, ← hl, ← hm]
  refine w.mono hg fun i H x H' hi s y B0 s0 h0 => ?_
  obtain ⟨T, p, q, rfl, hT, rfl, hp, hq⟩ := y
  have hx : i < es.length := by omega
  have hy : i < fs.length := by omega
  obtain ⟨v, e1, e2⟩ := a.at (List.getElem?_eq_getElem hx)
  obtain ⟨u, e3, e4⟩ := b.at (List.getElem?_eq_getElem hy)
  have hp' : xs[i]? = some p := hp
  have hq' : ys[i]? = some q := hq
  rw [e1] at hp'
  rw [e3] at hq'
  cases hp'
  cases hq'
  have g := Gr.add h0 hT (.tup [p, q])
  refine ⟨_, .tuple [es[i], fs[i]], g, ?_, .tup (.of upd_same) (.cons ((e2.mono s0).mono g.bb) (.cons ((e4.mono s0).mono g.bb) .nil))⟩
  unfold zipD
  rw [List.getElem?_map, (List.getElem?_zip_eq_some (z := (es[i], fs[i]))).mpr ⟨List.getElem?_eq_getElem hx, List.getElem?_eq_getElem hy⟩]
  rfl
theorem it_zip {ta : TA} {es fs : List PyData} (h : EvL K ta ρ [.list es, .list fs]) : Iter K (iZip K ta) ρ (zipD es fs) := fun σ B H e s R r =>
  h σ B H e s _ fun vs B1 H1 g hv => by
    cases hv with
    | cons h1 t =>
      cases t with
      | cons h2 t =>
        cases t
        cases h1 with
        | lst p1 a1 =>
          cases h2 with
          | lst p2 a2 => exact ⟨_, _, _, _, rfl, .of (g.sub _ _ p1), .of (g.sub _ _ p2), r _ B1 H1 g (goes_pair (walk_zip rfl) (fun H' s' => ⟨.of (s' _ _ p1), .of (s' _ _ p2)⟩) a1 a2)⟩
def enumD (es : List PyData) : List PyData := es.zipIdx.map fun p => .tuple [.int p.2, p.1]
theorem it_enum {ta : TA} {es : List PyData} (h : EvL K ta ρ [.list es]) : Iter K (iEnum K ta) ρ (enumD es) := fun σ B H e s R r =>
  h σ B H e s _ fun vs B1 H1 g hv => by
    cases hv with
    | cons h1 t =>
      cases t
      cases h1 with
      | lst p1 a1 =>
        refine ⟨_, _, rfl, .of (g.sub _ _ p1), r _ B1 H1 g ?_⟩
        have hl := a1.len
        unfold Goes
        rw [show (enumD es).length = es.length by unfold enumD; simp, ← hl]
        refine walk_enum.mono (fun H' s' => .of (s' _ _ p1)) fun i H x H' hi s y B0 s0 h0 => ?_
        obtain ⟨T, p, q, rfl, hT, rfl, hp, hq⟩ := y
        have hx : i < es.length := by omega
        obtain ⟨v, e1, e2⟩ := a1.at (List.getElem?_eq_getElem hx)
        cases hp
        have hq' := (show _ = some q from hq)
        simp only at hq'
        rw [e1] at hq'
        cases hq'
        have g := Gr.add h0 hT (.tup [.int (i : Nat), q])
        refine ⟨_, .tuple [.int i, es[i]], g, ?_, .tup (.of upd_same) (.cons (.int _) (.cons ((e2.mono s0).mono g.bb) .nil))⟩
        unfold enumD
        simp [hx]
/-- a for -/
theorem do_for {wi : TI} {g : TG} {es : List PyData} (h : Iter K wi ρ es) (I : Nat → Rho → Prop) (h0 : I 0 ρ)
    (hs : ∀ i e ρ', es[i]? = some e → I i ρ' → ∃ ρ1, Tg K g e ρ' ρ1 ∧ Do K t ρ1 (I (i + 1)) R) (hd : ∀ ρ', I es.length ρ' → N ρ') : Do K (tFor wi g t) ρ N R := fun σ B H D e s n r =>
  h σ B H e s _ fun J B1 H1 g1 w => by
    refine for_it w (fun i σ' H' => ∃ B' ρ', Gr B1 H1 B' H' ∧ EnvOk K B' σ' ρ' ∧ I i ρ') ⟨B1, ρ, .refl g1.sub, e.mono g1.bb, h0⟩ (fun i σ' H' _ ⟨B', _, g2, _, _⟩ => g2.bb.trans g2.sub) ?_ ?_
    · rintro i x σ' H' H2 hi ⟨B', ρ', g2, e2, p⟩ y
      obtain ⟨B2, el, g3, hel, hx⟩ := y B' g2.bb g2.sub
      obtain ⟨ρ1, ht, hb⟩ := hs i el ρ' hel p
      have g23 := g2.trans g3
      refine ht σ' B2 H2 x (e2.mono g3.bb) g3.sub hx _ fun σ2 e3 => ?_
      exact hb σ2 B2 H2 _ e3 g3.sub (fun σ4 B4 H4 ρ4 g4 e4 p4 => ⟨B4, ρ4, g23.trans g4, e4, p4⟩) fun v B4 H4 d g4 hv hr => r v B4 H4 d (g1.trans (g23.trans g4)) hv hr
    · rintro σ' H' ⟨B', ρ', g2, e2, p⟩
      exact n σ' B' H' ρ' (g1.trans g2) e2 (hd ρ' p)

/-! comprehensions -/
/-- a target within a comprehension: its names vs are empty at first -/
def TgW (K : PySem.W.Frag) (g : TG) (vs : List Nat) (e : PyData) (ρ ρ1 : Rho) : Prop := ∀ σ B H v, EnvOk K B σ ρ → Same B H → Da K B v e → ∀ Q : L2.St → Hp → Prop, (∀ σ', EnvOk K B σ' ρ1 → wipe σ' vs = wipe σ vs → Q σ' H) → g v (wipe σ vs) H Q
theorem tgw_name {i : Nat} {e : PyData} : TgW K (gName i) [i] e ρ ((wipeR ρ [i]).set i (some e)) := fun σ B H v he s hv Q q =>
  q _ ((he.wiped [i]).set hv i) (by show ((σ.set i none).set i (some v)).set i none = σ.set i none; rw [List.set_set, List.set_set])
theorem tgw_pair {i j : Nat} {x y : PyData} (hij : i ≠ j) : TgW K (gTup K 2 (gCons (gName i) (gCons (gName j) gNil))) [i, j] (.tuple [x, y]) ρ (((wipeR ρ [i, j]).set i (some x)).set j (some y)) := fun σ B H v he s hv Q q => by
  cases hv with
  | tup h a =>
    cases a with
    | cons a1 t =>
      cases t with
      | cons a2 t =>
        cases t
        refine ⟨_, _, rfl, same_t s h, rfl, _, _, rfl, _, _, rfl, rfl, q _ (((he.wiped [i, j]).set a1 i).set a2 j) ?_⟩
        show ((((((σ.set j none).set i none).set i (some _)).set j (some _)).set j none).set i none) = (σ.set j none).set i none
        rw [List.set_set, List.set_set, List.set_comm _ _ (Ne.symm hij), List.set_set, List.set_comm _ _ hij, List.set_set]
theorem ev_lc {wi : TI} {g : TG} {vs : List Nat} {es : List PyData} (h : Iter K wi ρ es) (hz : es.length ≤ 1000000) (f : PyData → Bool) (k : PyData → PyData)
    (hs : ∀ e, e ∈ es → ∃ ρ1, TgW K g vs e ρ ρ1 ∧ EvB K tt ρ1 (f e) ∧ (f e = true → Ev K te ρ1 (k e))) : Ev K (tLc wi g tt te vs) ρ (.list ((es.filter f).map k)) := fun σ B H e s Q q =>
  h σ B H e s _ fun J B1 H1 g1 w => fun Dl hD => by
    refine lc_it w (fun i H' => ∃ B' xs, Gr B1 H1 B' H' ∧ B' Dl = none ∧ H' Dl = some (.lst xs) ∧ DaAll K B' xs (((es.take i).filter f).map k)) ?_ (fun i H' _ ⟨B', _, g2, _, _, _⟩ => g2.bb.trans g2.sub) ?_ ?_
    · exact ⟨B1, [], .side g1.sub hD _, g1.sub.free hD, upd_same, .nil⟩
    · rintro i x H' H2 hi ⟨B', xs, g2, hB, hH, a⟩ y
      obtain ⟨B2, el, g3, hel, hx⟩ := y B' g2.bb g2.sub
      obtain ⟨ρ1, ht, hf, hk⟩ := hs el (List.mem_of_getElem? hel)
      have g23 := g2.trans g3
      have away : ∀ {Ba Ha Bb Hb : Hp}, Gr Ba Ha Bb Hb → Ba Dl = none → Ha Dl = some (.lst xs) → Bb Dl = none := fun {Ba Ha Bb Hb} gg n l => by
        cases z : Bb Dl with
        | none => rfl
        | some o => exact absurd (gg.new Dl o z n) (by rw [l]; simp)
      have hB2 := away g3 hB hH
      refine ht σ B2 H2 x (e.mono (g1.bb.trans g23.bb)) g3.sub hx _ fun σ2 e3 hw => ⟨hw, ?_⟩
      refine hf σ2 B2 H2 e3 g3.sub _ fun B3 H3 g4 => ?_
      have hB3 := away g4 hB2 (g3.ex _ _ hH)
      have tk : es.take (i + 1) = es.take i ++ [el] := by rw [List.take_add_one, hel]; rfl
      have hlen : xs.length ≤ i := by
        rw [a.len, List.length_map]
        exact Nat.le_trans (List.length_filter_le _ _) (List.length_take_le _ _)
      cases hb : f el with
      | true =>
        refine iteT (hk hb σ2 B3 H3 (e3.mono g4.bb) g4.sub _ fun w B4 H4 g5 hw => ?_)
        have hB4 := away g5 hB3 (g4.ex _ _ (g3.ex _ _ hH))
        have g45 := g4.trans g5
        have h4 : H4 Dl = some (.lst xs) := g45.ex _ _ (g3.ex _ _ hH)
        have gg := g23.trans g45
        refine ⟨xs, h4, Nat.lt_of_le_of_lt hlen (by have : es.length ≤ 1000000 := hz; rw [sizeLine_eq]; omega), B4, xs ++ [w], ?_, hB4, upd_same, ?_⟩
        · refine ⟨fun b o z => ?_, gg.bb, fun b o z => ?_, gg.new⟩
          · rw [upd_ne (ne_of_none z hD)]
            exact gg.ex b o z
          · rw [upd_ne (ne_of_none z hB4)]
            exact gg.sub b o z
        · rw [tk, List.filter_append, List.map_append]
          refine (a.mono (g3.bb.trans g45.bb)).app ?_
          rw [List.filter_cons, if_pos hb]
          exact .cons hw .nil
      | false =>
        refine iteF ⟨B3, xs, g23.trans g4, hB3, g4.ex _ _ (g3.ex _ _ hH), ?_⟩
        rw [tk, List.filter_append, List.map_append, List.filter_cons, if_neg (by rw [hb]; simp)]
        show DaAll K B3 xs (_ ++ [])
        rw [List.append_nil]
        exact a.mono (g3.bb.trans g4.bb)
    · rintro H' ⟨B', xs, g2, hB, hH, a⟩
      rw [List.take_length] at a
      refine q _ (upd B' Dl (.lst xs)) H' (g1.trans ⟨g2.ex, g2.bb.trans (same_new hB), fun b o z => ?_, fun b o z n => ?_⟩) (.lst upd_same (a.mono (same_new hB)))
      · by_cases c : b = Dl
        · subst c
          rw [upd_same] at z
          rw [hH]
          exact z
        · rw [upd_ne c] at z
          exact g2.sub b o z
      · by_cases c : b = Dl
        · subst c
          exact hD
        · rw [upd_ne c] at z
          exact g2.new b o z n
/-- .. without a test -/
theorem ev_map {wi : TI} {g : TG} {vs : List Nat} {es : List PyData} (h : Iter K wi ρ es) (hz : es.length ≤ 1000000) (k : PyData → PyData)
    (hs : ∀ e, e ∈ es → ∃ ρ1, TgW K g vs e ρ ρ1 ∧ Ev K te ρ1 (k e)) : Ev K (tLc wi g tYes te vs) ρ (.list (es.map k)) := by
  have q := ev_lc (tt := tYes) h hz (fun _ => true) k fun e he => by
    obtain ⟨ρ1, h1, h2⟩ := hs e he
    exact ⟨ρ1, h1, fun σ B H e s Q q => q B H (.refl s), fun _ => h2⟩
  rw [List.filter_eq_self.mpr (fun _ _ => rfl)] at q
  exact q
end

/-! ### defs: P ds d says what is handed in and what comes back -/
def sp (K : PySem.W.Frag) (P : List PyData → PyData → Prop) : Sp := fun vs H Q _ => ∃ B ds d, Same B H ∧ DaAll K B vs ds ∧ P ds d ∧ ∀ v B' H', Gr B H B' H' → Da K B' v d → Q v H'
section
variable {P : Program} {w : World} {K : PySem.W.Frag} {mg : Str → Option Value} {base : Heap}
theorem def_d {x qual : Str} {st : Stmt} {f : Addr} {fd : FuncData} {N ps : List Str} {k : Nat} {p : List PyData → PyData → Prop} (F : Fun K x qual st f fd) (S : FnScope N ps (defScope st))
    (ar : ∀ ds d, p ds d → ds.length = ps.length)
    (hb : ∀ (cdv : Value) (A : Around) (outer : List Env) (s : Shared) (H : Hp) (E : XK), A.guards = some [] → Room k (A.deeper (envOfC qual (defScope st) s.heap.objs.size f cdv)) →
      ∃ t, PSs (bodyCx CX0 P w K mg base N qual st f cdv A outer s H E).nox (defBody st) t ∧ ∀ ds d, p ds d → Do K t (startR N ds) (fun _ => d = .none) fun d' => d' = d) : FnG P w K mg base CX0 (k + 1) f fd ps (sp K p) := by
  refine fn_g0 F S (fun vs H Q E h => ?_) fun cdv A outer s H vs Q E hg hr h => ?_
  · obtain ⟨B, ds, d, _, a, hp, _⟩ := h
    rw [a.len]
    exact ar ds d hp
  · obtain ⟨B, ds, d, hs, a, hp, q⟩ := h
    obtain ⟨t, ht, hd⟩ := hb cdv A outer s H E hg hr
    refine ⟨t, ht, hd ds d hp _ B H _ (env_start a) hs (fun σ' B' H' ρ' g _ e => ?_) fun v B' H' d' g hv e => ?_⟩
    · exact q .non B' H' g (by rw [e]; exact .non)
    · rw [e] at hv
      exact q v B' H' g hv
variable {ρ : Rho} {ta tk : TA} {ds : List PyData} {d : PyData} {p : List PyData → PyData → Prop}
theorem ev_call {E : XK} (h : EvL K ta ρ ds) (hp : p ds d) : Ev K (tCall (sp K p) [] E ta) ρ d := fun σ B H e s Q q =>
  h σ B H e s _ fun vs B1 H1 g1 hv => ⟨B1, ds, d, g1.sub, by rw [List.append_nil]; exact hv, hp, fun v B2 H2 g2 h2 => q v B2 H2 (g1.trans g2) h2⟩
theorem ev_callK {E : XK} {gV : List V → List V → List V} {zs : List PyData} (h : EvL K tk ρ zs) (hp : p ds d) (hg : ∀ B ws, DaAll K B ws zs → DaAll K B (gV [] ws) ds) : Ev K (tCallK (sp K p) gV E tNil tk) ρ d := fun σ B H e s Q q =>
  h σ B H e s _ fun vs B1 H1 g1 hv => ⟨B1, ds, d, g1.sub, hg B1 vs hv, hp, fun v B2 H2 g2 h2 => q v B2 H2 (g1.trans g2) h2⟩
end
end G
end
section
set_option maxRecDepth 100000
set_option maxHeartbeats 2000000
/-! rules that the layer lacks: t[::-1] of a tuple, zip of a tuple and a list -/
namespace G
open PySem PySem.Spec PyProof.Rows L2 HT

/-! ### t[::-1] -/
section
variable {prog : Program} {w : World} {A : Around} {E : Value → Shared → Prop} {s : Shared}
theorem back_parts {sl : Addr} {v : Value} {n : Nat} {Q : Int × Int × Nat → Shared → Prop} (hs : s.heap.IsSliceOf sl .none .none v) (pv : IsPart v (some (-1)))
    (h : Q ((n : Int) - 1, -1, n) s) : wpAny (model prog w) A (Builtin.Slice.sliceApplied (.ref sl) (pure (n : Int))) Q E s := by
  obtain ⟨os, hos, _, hds⟩ := id hs
  unfold Builtin.Slice.sliceApplied Builtin.Slice.sliceFields
  have e : Builtin.Slice.slicePlaces ((n : Int) - 1) (-1) (-1) = n := by
    unfold Builtin.Slice.slicePlaces
    rw [if_neg (by decide)]
    by_cases c : (n : Int) - 1 > -1
    · rw [if_pos c, show (- -1 : Int) = 1 by decide, Int.ediv_one]
      omega
    · rw [if_neg c]
      omega
  refine wpAny_bind (wpAny_bind (wpAny_field hos hds (x := .none) rfl (wpAny_bind (wpAny_field hos hds (x := .none) rfl (wpAny_bind (wpAny_field hos hds (x := v) rfl (wpAny_pure ?_)))))))
  refine wpAny_bind (slicePart_ pv ?_)
  show wpAny _ _ (if ((-1 : Int) == 0) = true then _ else _) _ _ s
  rw [if_neg (by decide)]
  refine wpAny_bind (slicePart_ .none (wpAny_bind (slicePart_ .none (wpAny_bind (wpAny_pure ?_)))))
  show wpAny _ _ (pure ((n : Int) - 1, (-1 : Int), Builtin.Slice.slicePlaces ((n : Int) - 1) (-1) (-1))) _ _ s
  rw [e]
  exact wpAny_pure h
theorem fm_map {α β : Type} {f : α → Option β} {g : α → β} : ∀ (l : List α), (∀ x ∈ l, f x = some (g x)) → l.filterMap f = l.map g
  | [], _ => rfl
  | x :: l, h => by
    rw [List.filterMap_cons, h x (List.mem_cons_self ..), List.map_cons, fm_map l fun y hy => h y (List.mem_cons_of_mem _ hy)]
theorem back_pick (xs : Array Value) : ((List.range xs.size).filterMap fun (k : Nat) => xs[((xs.size : Int) - 1 + (k : Int) * -1).toNat]?).toArray = xs.toList.reverse.toArray := by
  refine congrArg List.toArray ?_
  apply List.ext_getElem?
  intro i
  by_cases hi : i < xs.size
  · have e1 : xs.toList.reverse[i]? = some xs[xs.size - 1 - i] := by
      rw [List.getElem?_reverse (by simpa using hi)]
      simp only [Array.length_toList, Array.getElem?_toList]
      exact Array.getElem?_eq_getElem _
    rw [e1]
    have e2 : ∀ n, n ≤ xs.size → (List.range n).filterMap (fun (k : Nat) => xs[((xs.size : Int) - 1 + (k : Int) * -1).toNat]?) = (List.range n).map fun k => xs.getD (xs.size - 1 - k) default := by
      intro n hn
      refine fm_map _ fun k hk => ?_
      have hk' := List.mem_range.mp hk
      have e3 : ((xs.size : Int) - 1 + (k : Int) * -1).toNat = xs.size - 1 - k := by omega
      rw [e3]
      have h4 : xs.size - 1 - k < xs.size := by omega
      rw [Array.getElem?_eq_getElem h4]
      simp [Array.getD, h4]
    rw [e2 _ (Nat.le_refl _), List.getElem?_map, List.getElem?_range hi]
    have h4 : xs.size - 1 - i < xs.size := by omega
    simp [Array.getD, h4]
  · have e1 : xs.toList.reverse[i]? = none := List.getElem?_eq_none_iff.mpr (by simp; omega)
    rw [e1, List.getElem?_eq_none_iff]
    refine Nat.le_trans (List.length_filterMap_le _ _) ?_
    rw [List.length_range]
    omega
theorem item_back {t sl : Addr} {items : Array Value} {v : Value} {Q : Value → Shared → Prop} (ht : IsTup s.heap t items) (hs : s.heap.IsSliceOf sl .none .none v) (pv : IsPart v (some (-1)))
    (h : Q (.ref s.heap.objs.size) { s with heap := s.heap.push { cls := .type "tuple", data := .seq items.toList.reverse.toArray } })
    (hsz : items.size ≤ sizeLine) : wpAny (model prog w) A (getItem (.ref t) (.ref sl)) Q E s := by
  have ok : sizeOk (.seq items.toList.reverse.toArray) := by
    show items.toList.reverse.toArray.size ≤ sizeLine
    rw [List.size_toArray, List.length_reverse, Array.length_toList]
    exact hsz
  obtain ⟨os, hos, hcs, hds⟩ := id hs
  have isS : s.TypeIs (.ref sl) "slice" := ⟨os, hos, hcs⟩
  unfold getItem
  try with_reducible refine wpAny_holding ?_
  first | refine wpAny_bind (wpAny_pure ?_) | skip
  refine wpAny_bind (wpAny_sequenceKey ht.typeIs (by decide) ?_)
  refine wpAny_bind (wpAny_callSpecial?_slot (name := Str.ofString "__getitem__") ht.typeIs PyProof.Rows.slot_tuple_getitem
    (wpAny_call_entry PyProof.Rows.slot_tuple_getitem ht.typeIs entry_tuple_getitem ?_ (args_tuple_getitem _ _)))
  show wpAny _ _ (Builtin.Tuple.tupleItemsOf (.ref t) >>= _) _ _ s
  refine wpAny_bind (tupleItemsOf_ ht (wpAny_bind (wpAny_typeOf isS ?_)))
  rw [if_pos (by decide)]
  refine wpAny_bind (back_parts hs pv ?_)
  show wpAny _ _ (if ((items.size : Int) - 1 == 0 && (-1 : Int) == 1 && items.size == items.size) = true then _ else _) _ _ s
  rw [if_neg (by simp), back_pick]
  first
    | exact wpAny_bind (m := Builtin.Tuple.tupleExact _) (wpAny_newObj_type (wpAny_pure ⟨_, rfl, wpAny_pure h⟩) ok)
    | exact wpAny_bind (m := Builtin.Tuple.tupleExact _) (wpAny_newObj_type (wpAny_bind (wpAny_pure (wpAny_pure ⟨_, rfl, wpAny_pure h⟩))) ok)
end
/-- t[::-1] -/
def tRevT (K : PySem.W.Frag) (te : TE) : TE := fun σ H Q => te σ H fun x H1 => ∃ a xs, x = .ref a ∧ SqT K H1 a xs ∧ ∀ p, H1 p = none → Q (.ref p) (upd H1 p (.tup xs.reverse))
theorem pe_revT {X : Cx} {e : Expr} {te : TE} {k : Nat} {p1 p2 p3 pos : Pos} (he : PE X e te) :
    PE X (.Subscript e (.Slice none none (some (.UnaryOp .USub (.Constant (.int 1) k p1) p2)) p3) pos) (tRevT X.K te) := by
  refine ⟨fun pins s σ H Q I h => Subscript_ (thn (he.run pins s σ H _ I h) ?_)⟩
  rintro v s1 ⟨x, H1, I1, r1, a, xs, rfl, hx, q⟩
  cases r1
  have hst : PO X (some (.UnaryOp .USub (.Constant (.int 1) k p1) p2)) (tPart (tUn (rU fun i => .int (-i)) (tC (.int 1)))) := po_some (pe_un un_neg pe_int)
  refine wpAny_Slice (thn (po_none.run pins s1 σ H1 (fun o H2 => o = none ∧ H2 = H1) I1 ⟨rfl, rfl⟩) ?_)
  rintro vl s2 ⟨l, H2, I2, pl, rfl, rfl⟩
  refine thn (po_none.run pins s2 σ H2 (fun o H3 => o = none ∧ H3 = H2) I2 ⟨rfl, rfl⟩) ?_
  rintro vu s3 ⟨u, H3, I3, pu, rfl, rfl⟩
  refine thn (hst.run pins s3 σ H3 (fun o H4 => o = some (-1) ∧ H4 = H3) I3 ⟨1, rfl, -1, rfl, rfl, rfl⟩) ?_
  rintro vs s4 ⟨o, H4, I4, ps, rfl, rfl⟩
  cases pl
  cases pu
  have I5 : Inv X pins σ H4 { s4 with heap := s4.heap.push { cls := .type "slice", data := .fields #[.none, .none, vs] } } :=
    I4.kept (t' := s4.toks) fun b ob q => Heap.get?_push_of_some _ q
  obtain ⟨its, r, ht, hz⟩ := I5.tuple hx
  have hlen := r.length
  refine tail_any (ops := [.ref a, .ref s4.heap.objs.size]) ht.typeIs (PyProof.Rows.slot_tuple_getitem.lookup) ?_ (by with_unfolding_all rfl)
  refine item_back ht (Heap.IsSliceOf.new _ .none .none vs) ps ?_ (by rw [List.size_toArray, ← hlen]; exact hz)
  refine ⟨.ref _, _, I5.laid (t' := s4.toks) (o := .tup xs.reverse) (fun b ob q => Heap.get?_push_of_some _ q) (Nat.le_refl _) ?_, rfl, q _ (I5.hok.fresh (Nat.le_refl _))⟩
  exact ⟨by rw [List.length_reverse]; exact hz, _, r.reverse, IsTup.new _ _⟩
end G
end
section
set_option maxRecDepth 100000
set_option maxHeartbeats 2000000
/-! operations whose kinds are not told in the text, calls by name -/
namespace G
open PySem PySem.Spec PyProof.Rows L2
def orR (r r' : R2) : R2 := fun x y H Q => r x y H Q ∨ r' x y H Q
def orC (r r' : List V → Hp → VK → Prop) : List V → Hp → VK → Prop := fun xs H Q => r xs H Q ∨ r' xs H Q
def orI (w w' : TI) : TI := fun σ H R => w σ H R ∨ w' σ H R
section
variable {X : Cx}
theorem opr_or {f : Value → Value → Sem Value} {r r' : R2} (h : OpR X f r) (h' : OpR X f r') : OpR X f (orR r r') := OpR.or h h'
theorem ixr_or {r r' : R2} (h : IxR X r) (h' : IxR X r') : IxR X (orR r r') := IxR.or h h'
theorem callr_or {f : Value} {r r' : List V → Hp → VK → Prop} (h : CallR X f r) (h' : CallR X f r') : CallR X f (orC r r') := fun pins s σ H xs us Q I rv q => by
  rcases q with q | q
  · exact h pins s σ H xs us Q I rv q
  · exact h' pins s σ H xs us Q I rv q
theorem pi_or {tg e : Expr} {w w' : TI} (h : PI X tg e w) (h' : PI X tg e w') : PI X tg e (orI w w') := ⟨fun pins s σ H R I q => by
  rcases q with q | q
  · exact h.run pins s σ H R I q
  · exact h'.run pins s σ H R I q⟩
end
section
variable {K : PySem.W.Frag} {ρ : Rho} {x y z : PyData} {r r' : R2}
theorem opp_1 (h : Op2 K r x y z) : Op2 K (orR r r') x y z := fun B H s u v hu hv Q q => .inl (h B H s u v hu hv Q q)
theorem opp_2 (h : Op2 K r' x y z) : Op2 K (orR r r') x y z := fun B H s u v hu hv Q q => .inr (h B H s u v hu hv Q q)
theorem fn_1 {c c' : List V → Hp → VK → Prop} {ds : List PyData} (h : Fn K c ds z) : Fn K (orC c c') ds z := fun B H s us hu Q q => .inl (h B H s us hu Q q)
theorem fn_2 {c c' : List V → Hp → VK → Prop} {ds : List PyData} (h : Fn K c' ds z) : Fn K (orC c c') ds z := fun B H s us hu Q q => .inr (h B H s us hu Q q)
theorem it_1 {w w' : TI} {es : List PyData} (h : Iter K w ρ es) : Iter K (orI w w') ρ es := fun σ B H e s R q => .inl (h σ B H e s R q)
theorem it_2 {w w' : TI} {es : List PyData} (h : Iter K w' ρ es) : Iter K (orI w w') ρ es := fun σ B H e s R q => .inr (h σ B H e s R q)
end
/-! a + b, a * b, a % b, a // b, a < b .. -/
section
variable {X : Cx}
abbrev rAddA (K : PySem.W.Frag) : R2 := orR (rI0 fun i j => .int (i + j)) (orR rCat (rCatA K))
theorem op_addA : OpR X (binaryOp .Add) (rAddA X.K) := opr_or op_add (opr_or op_cat op_catA)
abbrev rMulA : R2 := orR (rI CMulW fun i j => .int (i * j)) rRep
theorem op_mulA : OpR X (binaryOp .Mult) rMulA := opr_or op_mulW op_rep
abbrev rIxA (K : PySem.W.Frag) : R2 := orR (rIxL K) (rIxT K)
theorem ix_A : IxR X (rIxA X.K) := ixr_or ix_list ix_tup
abbrev rEqA (K : PySem.W.Frag) : R2 := rEqD K
end
/-! a def by its name -/
def Kq (K : PySem.W.Frag) (f : Addr) (fd : FuncData) : Prop := PySem.W.keepIn K (.ref f) = true ∧ ∃ o, K.lookup f = some o ∧ o.data = .func fd
theorem kq_of {K : PySem.W.Frag} {x qual : Str} {st : Stmt} {f : Addr} {fd : FuncData} (F : Fun K x qual st f fd) : Kq K f fd := by
  obtain ⟨oc, od, kV, doc, pm, an, cdv, ct, osl, _, lk, _⟩ := F.ex
  exact ⟨F.kp, _, lk, rfl⟩
structure Cal (P : Program) (w : World) (K : PySem.W.Frag) (mg : Str → Option Value) (base : Heap) (k : Nat) (x : Str) (ps : List Str) (sp : Sp) : Prop where
  ex : ∃ (f : Addr) (fd : FuncData), mg x = some (.ref f) ∧ Kq K f fd ∧ L2.Binds K fd ps [] ∧ FnG P w K mg base CX0 k f fd ps sp
section
variable {X : Cx} {k j : Nat} {ps : List Str} {q : Sp} {x : Str} {p pos : Pos} {e : Expr} {es : List Expr} {t : TA}
theorem pg_cal (hg : X.A.guards = some []) (c : Cal X.prog X.w X.K X.mg X.base j x ps q) (hr : Room k X.A) (hgl : Gl X x) (ha : PA X (e :: es) t) (hj : j ≤ k := by decide)
    (hdb : (x == ("__debug__" : Str)) = false := by decide) (he : starEach (e :: es) X.env = (false, eval e X.env) :: starEach es X.env := by rfl)
    (hpl : (backTo pos (starEach es X.env)).any (·.1) = false := by rfl) : PE X (.Call (.Name x p) (e :: es) [] pos) (tCall q [] E0 t) := by
  obtain ⟨f, fd, hm, hk, hb, F⟩ := c.ex
  exact pg_call hg F (hr.mono hj) hgl hm hk.1 hb .nil pass0 ha hdb he hpl
/-! .. by keywords -/
structure CalK (P : Program) (w : World) (K : PySem.W.Frag) (mg : Str → Option Value) (base : Heap) (k : Nat) (x : Str) (ps ks : List Str) (gV : List V → List V → List V) (sp : Sp) : Prop where
  ex : ∃ (f : Addr) (fd : FuncData) (g : List Value → List Value → List Value), mg x = some (.ref f) ∧ PySem.W.keepIn K (.ref f) = true ∧ KBinds K fd ps ks g gV ∧ FnG P w K mg base CX0 k f fd ps sp
theorem pg_calK {ks : List Str} {gV : List V → List V → List V} {kws : List Keyword} {tk : TA} (hg : X.A.guards = some []) (c : CalK X.prog X.w X.K X.mg X.base j x ps ks gV q) (hr : Room k X.A) (hgl : Gl X x) (hkw : PK X kws tk) (hj : j ≤ k := by decide)
    (hall : (backToKw pos (keywordEach kws X.env)).all (·.1.isSome) = true := by rfl)
    (hks : (backToKw pos (keywordEach kws X.env)).filterMap (·.1) = ks := by rfl)
    (hdb : (x == ("__debug__" : Str)) = false := by decide)
    (hpl : ((backTo pos (starEach [] X.env)).any (·.1) || (backToKw pos (keywordEach kws X.env)).any (·.1.isNone)) = false := by rfl) :
    PE X (.Call (.Name x p) [] kws pos) (tCallK q gV E0 tNil tk) := by
  obtain ⟨f, fd, g, hm, hk, hb, F⟩ := c.ex
  exact pg_callK0 hg F (hr.mono hj) hgl hm hk hb pass0 hkw hall hks hdb hpl
end
end G
end
section
set_option maxRecDepth 100000
set_option maxHeartbeats 2000000
/-! zip of a tuple and a list: two iterators of whatever kind, told by what their next one does -/
namespace G
open PySem PySem.Spec PyProof.Rows L2
/-- the iterator at i over the items xs of what lies at l, k of them gone -/
structure Nx (i l : Addr) (xs : Array Value) (S : Heap → Nat → Prop) : Prop where
  stay : ∀ {h h' : Heap} {k : Nat}, S h k → (∀ o, h.get? i = some o → h'.get? i = some o) → (∀ o, h.get? l = some o → h'.get? l = some o) → S h' k
  some_ : ∀ {h : Heap} {k : Nat}, S h k → ∃ o, h.get? i = some o ∧ ∀ v, o.data ≠ .cell v
  item : ∀ {prog : Program} {w : World} {A : Around} {E : Value → Shared → Prop} {s : Shared} {k : Nat} {x : Value} {Q : Value → Shared → Prop}, S s.heap k → xs[k]? = some x →
    (∀ h', S h' (k + 1) → Heap.SameBut i s.heap h' → Q x { s with heap := h' }) → wpAny (model prog w) A (Builtin.SmallTypes.nextOf (.ref i)) Q E s
  done : ∀ {prog : Program} {w : World} {A : Around} {E : Value → Shared → Prop} {s : Shared} {k : Nat} {Q : Value → Shared → Prop}, A.handled = none → S s.heap k → xs[k]? = none →
    (∀ h' e, Heap.ExtBut i s.heap h' → (∃ o, h'.get? e = some o ∧ o.cls = .type "StopIteration") → E (.ref e) { s with heap := h' }) → wpAny (model prog w) A (Builtin.SmallTypes.nextOf (.ref i)) Q E s
theorem nx_list {i l : Addr} {xs : Array Value} (hil : i ≠ l) : Nx i l xs fun h k => h.IsListIter i l k ∧ h.IsList l xs where
  stay := fun h a b => ⟨h.1.at a, h.2.at b⟩
  some_ := fun ⟨⟨o, e, _, d⟩, _⟩ => ⟨o, e, fun v q => by rw [d] at q; cases q⟩
  item := fun h hx q => wpAny_nextOf_list_item h.1 h.2 hx fun h' a b => q h' ⟨a, h.2.at fun o e => b.extBut _ _ (Ne.symm hil) e⟩ b
  done := fun hh h hx q => wpAny_nextOf_list_end hh h.1 h.2 hx q
theorem nx_tup {i l : Addr} {xs : Array Value} (hil : i ≠ l) : Nx i l xs fun h k => h.IsTupleIter i l k ∧ h.IsTuple l xs where
  stay := fun h a b => ⟨h.1.at a, let ⟨o, e, r⟩ := h.2; ⟨o, b o e, r⟩⟩
  some_ := fun ⟨⟨o, e, _, d⟩, _⟩ => ⟨o, e, fun v q => by rw [d] at q; cases q⟩
  item := fun h hx q => RZ.nextOf_tuple_item h.1 h.2 hx fun h' a b => q h' ⟨a, let ⟨o, e, r⟩ := h.2; ⟨o, b.extBut _ _ (Ne.symm hil) e, r⟩⟩ b
  done := fun hh h hx q => RZ.nextOf_tuple_end hh h.1 h.2 hx q
section
variable {prog : Program} {w : World} {A : Around} {E : Value → Shared → Prop} {s : Shared} {z T1 T2 i j l m : Addr} {xs ys : Array Value} {S U : Heap → Nat → Prop} {k n : Nat} {a b : Value}
theorem zipM_item {x y : Value} {Q : Value → Shared → Prop} (X : Nx i l xs S) (Y : Nx j m ys U) (D : ZipApart z T1 T2 i j l m)
    (hz : IsZip s.heap z T1 T2 .none) (h1 : IsPair s.heap T1 (.ref i) (.ref j)) (h2 : IsPair s.heap T2 a b) (hS : S s.heap k) (hU : U s.heap n) (hx : xs[k]? = some x) (hy : ys[n]? = some y)
    (hQ : ∀ h', IsZip h' z T1 T2 (rawInt s.heap.objs.size) → IsPair h' T2 x y → S h' (k + 1) → U h' (n + 1) → IsPair h' s.heap.objs.size x y → h'.objs.size = s.heap.objs.size + 1 →
      (∀ c o, c ≠ z → c ≠ T2 → c ≠ i → c ≠ j → s.heap.get? c = some o → h'.get? c = some o) → Q (.ref s.heap.objs.size) { s with heap := h' }) :
    wpAny (model prog w) A (Builtin.«zip.__next__» ⟨[.ref z], []⟩) (fun fin s' => ∃ v, fin = .done (.ret v) ∧ Q v s') E s := by
  show wpAny _ _ (field (.ref z) 2 >>= _) _ _ _
  refine wpAny_bind (wpAny_field hz rfl (x := .bool false) rfl ?_); show wpAny _ _ (field (.ref z) 3 >>= _) _ _ _
  refine wpAny_bind (wpAny_field hz rfl (x := .ref T1) rfl (wpAny_bind (wpAny_seqItems h1 rfl ?_)))
  show wpAny _ _ (Builtin.SmallTypes.ownedTupleIsFree (.ref z) >>= _) _ _ _; refine wpAny_bind ?_
  unfold Builtin.SmallTypes.ownedTupleIsFree
  refine wpAny_bind (wpAny_field hz rfl (x := .none) rfl (wpAny_pure ?_)); simp only [if_true]
  refine wpAny_bind (wpAny_rule (wpAny_bind (wpAny_field hz rfl (x := .ref T2) rfl (wpAny_bind (wpAny_setField_rec hz (by simp) fun g1 z1 s1 => ?_)))))
  replace z1 : IsZip g1 z T1 T2 .ellipsis := z1
  refine wpAny_bind ?_; simp only [List.zipIdx_cons, List.zipIdx_nil, List.forIn_cons, List.forIn_nil]
  refine wpAny_bind (wpAny_bind (wpAny_onRaise ?_)); show wpAny _ _ (Builtin.SmallTypes.nextOf (.ref i) >>= _) _ _ _
  have e1 := s1.extBut
  refine wpAny_bind (X.item (X.stay hS (fun o => e1 _ o D.i1z) (fun o => e1 _ o D.l1z)) hx fun g2 S2 s2 => wpAny_pure ?_)
  have e2 := s2.extBut
  have p2 : IsPair g2 T2 a b := e2 _ _ D.TOi1 (e1 _ _ D.TOz h2)
  refine wpAny_bind (wpAny_seqItems p2 rfl (wpAny_bind (wpAny_updateSeq_pair p2 fun g3 p3 s3 => ?_)))
  replace p3 : IsPair g3 T2 x b := p3
  have e3 := s3.extBut
  refine wpAny_bind (wpAny_letGo (wpAny_pure (wpAny_bind (wpAny_bind (wpAny_onRaise ?_))))); show wpAny _ _ (Builtin.SmallTypes.nextOf (.ref j) >>= _) _ _ _
  have up3 : ∀ c o, c ≠ z → c ≠ i → c ≠ T2 → s.heap.get? c = some o → g3.get? c = some o := fun c o c1 c2 c3 e => e3 _ _ c3 (e2 _ _ c2 (e1 _ _ c1 e))
  refine wpAny_bind (Y.item (Y.stay hU (fun o => up3 _ o D.i2z D.i12.symm D.TOi2.symm) (fun o => up3 _ o D.l2z D.l2i1 D.l2TO)) hy fun g4 U4 s4 => wpAny_pure ?_)
  have e4 := s4.extBut
  have p4 : IsPair g4 T2 x b := e4 _ _ D.TOi2 p3
  refine wpAny_bind (wpAny_seqItems p4 rfl (wpAny_bind (wpAny_updateSeq_pair p4 fun g5 p5 s5 => ?_)))
  replace p5 : IsPair g5 T2 x y := p5
  have e5 := s5.extBut
  refine wpAny_bind (wpAny_letGo (wpAny_pure (wpAny_pure (wpAny_bind (wpAny_seqItems p5 rfl (wpAny_bind (wpAny_newTuple ?_)))))))
  have sz : g5.objs.size = s.heap.objs.size := by rw [s5.1, s4.1, s3.1, s2.1, s1.1]
  have z5 : IsZip g5 z T1 T2 .ellipsis := e5 _ _ D.TOz.symm (e4 _ _ D.i2z.symm (e3 _ _ D.TOz.symm (e2 _ _ D.i1z.symm z1)))
  have k5 : ∀ c o, c ≠ z → c ≠ T2 → c ≠ i → c ≠ j → s.heap.get? c = some o → g5.get? c = some o := fun c o c1 c2 c3 c4 e => e5 _ _ c2 (e4 _ _ c4 (up3 _ _ c1 c3 c2 e))
  have zl : z < g5.objs.size := Heap.lt_size z5
  show wpAny _ _ (Builtin.SmallTypes.ownedTupleHandOut (.ref z) (.ref g5.objs.size) >>= _) _ _ _; refine wpAny_bind ?_
  unfold Builtin.SmallTypes.ownedTupleHandOut
  refine wpAny_bind (wpAny_setField_rec (show IsZip (g5.push { cls := .type "tuple", data := .seq #[x, y] }) z T1 T2 .ellipsis from Heap.get?_push_of_some _ z5) (by simp) fun g7 z7 s7 => ?_)
  replace z7 : IsZip g7 z T1 T2 (rawInt g5.objs.size) := z7
  refine wpAny_setField_rec z7 (by simp) fun g8 z8 s8 => ?_
  replace z8 : IsZip g8 z T1 T2 (rawInt g5.objs.size) := z8
  have up8 : ∀ c o, c ≠ z → g5.get? c = some o → g8.get? c = some o := fun c o c1 e => s8.extBut _ _ c1 (s7.extBut _ _ c1 (Heap.get?_push_of_some _ e))
  have t8 : IsPair g8 g5.objs.size x y := s8.extBut _ _ (Nat.ne_of_gt zl) (s7.extBut _ _ (Nat.ne_of_gt zl) (Heap.get?_push_size _ rfl))
  have n8 : g8.objs.size = g5.objs.size + 1 := by rw [s8.1, s7.1, Heap.size_push]
  rw [sz] at z8 t8 n8
  refine wpAny_pure ⟨_, rfl, ?_⟩; show Q (.ref g5.objs.size) _
  rw [sz]
  refine hQ g8 z8 (up8 _ _ D.TOz p5) ?_ ?_ t8 n8 fun c o c1 c2 c3 c4 e => up8 c o c1 (k5 c o c1 c2 c3 c4 e)
  · exact X.stay S2 (fun o e => up8 _ o D.i1z (e5 _ _ D.TOi1.symm (e4 _ _ D.i12 (e3 _ _ D.TOi1.symm e)))) fun o e => up8 _ o D.l1z (e5 _ _ D.l1TO (e4 _ _ D.l1i2 (e3 _ _ D.l1TO e)))
  · exact Y.stay U4 (fun o e => up8 _ o D.i2z (e5 _ _ D.TOi2.symm e)) fun o e => up8 _ o D.l2z (e5 _ _ D.l2TO e)
theorem zipM_end {Q : Fin → Shared → Prop} (hh : A.handled = none) (X : Nx i l xs S) (Y : Nx j m ys U) (D : ZipApart z T1 T2 i j l m)
    (hz : IsZip s.heap z T1 T2 .none) (h1 : IsPair s.heap T1 (.ref i) (.ref j)) (h2 : IsPair s.heap T2 a b) (hS : S s.heap k) (hU : U s.heap n) (he : xs[k]? = none ∨ ys[n]? = none)
    (hE : ∀ h' e, (∀ c o, c ≠ z → c ≠ T2 → c ≠ i → c ≠ j → s.heap.get? c = some o → h'.get? c = some o) → (∃ o, h'.get? e = some o ∧ o.cls = .type "StopIteration") → E (.ref e) { s with heap := h' }) :
    wpAny (model prog w) A (Builtin.«zip.__next__» ⟨[.ref z], []⟩) Q E s := by
  show wpAny _ _ (field (.ref z) 2 >>= _) _ _ _
  refine wpAny_bind (wpAny_field hz rfl (x := .bool false) rfl ?_); show wpAny _ _ (field (.ref z) 3 >>= _) _ _ _
  refine wpAny_bind (wpAny_field hz rfl (x := .ref T1) rfl (wpAny_bind (wpAny_seqItems h1 rfl ?_)))
  show wpAny _ _ (Builtin.SmallTypes.ownedTupleIsFree (.ref z) >>= _) _ _ _; refine wpAny_bind ?_
  unfold Builtin.SmallTypes.ownedTupleIsFree
  refine wpAny_bind (wpAny_field hz rfl (x := .none) rfl (wpAny_pure ?_)); simp only [if_true]
  refine wpAny_bind (wpAny_rule (wpAny_bind (wpAny_field hz rfl (x := .ref T2) rfl (wpAny_bind (wpAny_setField_rec hz (by simp) fun g1 z1 s1 => ?_)))))
  replace z1 : IsZip g1 z T1 T2 .ellipsis := z1
  have e1 := s1.extBut
  refine wpAny_bind ?_; simp only [List.zipIdx_cons, List.zipIdx_nil, List.forIn_cons, List.forIn_nil]
  refine wpAny_bind (wpAny_bind (wpAny_onRaise ?_)); show wpAny _ _ (Builtin.SmallTypes.nextOf (.ref i) >>= _) _ _ _
  cases hx : xs[k]? with
  | none =>
    refine wpAny_bind (X.done hh (X.stay hS (fun o => e1 _ o D.i1z) (fun o => e1 _ o D.l1z)) hx fun g2 e e2 he2 => ?_)
    obtain ⟨oe, hoe, hce⟩ := he2
    have z2 : IsZip g2 z T1 T2 .ellipsis := e2 _ _ D.i1z.symm z1
    have ne : e ≠ z := fun q => by subst q; rw [z2] at hoe; cases hoe; simp at hce
    refine wpAny_setField_rec z2 (by simp) fun g3 _ s3 => hE g3 e (fun c o c1 _ c3 _ q => s3.extBut _ _ c1 (e2 _ _ c3 (e1 _ _ c1 q))) ⟨oe, s3.extBut _ _ ne hoe, hce⟩
  | some x =>
    have hy : ys[n]? = none := by
      rcases he with q | q
      · rw [hx] at q; cases q
      · exact q
    refine wpAny_bind (X.item (X.stay hS (fun o => e1 _ o D.i1z) (fun o => e1 _ o D.l1z)) hx fun g2 S2 s2 => wpAny_pure ?_)
    have e2 := s2.extBut
    have p2 : IsPair g2 T2 a b := e2 _ _ D.TOi1 (e1 _ _ D.TOz h2)
    refine wpAny_bind (wpAny_seqItems p2 rfl (wpAny_bind (wpAny_updateSeq_pair p2 fun g3 p3 s3 => ?_)))
    have e3 := s3.extBut
    refine wpAny_bind (wpAny_letGo (wpAny_pure (wpAny_bind (wpAny_bind (wpAny_onRaise ?_))))); show wpAny _ _ (Builtin.SmallTypes.nextOf (.ref j) >>= _) _ _ _
    have up3 : ∀ c o, c ≠ z → c ≠ i → c ≠ T2 → s.heap.get? c = some o → g3.get? c = some o := fun c o c1 c2 c3 e => e3 _ _ c3 (e2 _ _ c2 (e1 _ _ c1 e))
    refine wpAny_bind (Y.done hh (Y.stay hU (fun o => up3 _ o D.i2z D.i12.symm D.TOi2.symm) (fun o => up3 _ o D.l2z D.l2i1 D.l2TO)) hy fun g4 e e4 he4 => ?_)
    obtain ⟨oe, hoe, hce⟩ := he4
    have z4 : IsZip g4 z T1 T2 .ellipsis := e4 _ _ D.i2z.symm (e3 _ _ D.TOz.symm (e2 _ _ D.i1z.symm z1))
    have ne : e ≠ z := fun q => by subst q; rw [z4] at hoe; cases hoe; simp at hce
    refine wpAny_setField_rec z4 (by simp) fun g5 _ s5 => hE g5 e (fun c o c1 c2 c3 c4 q => s5.extBut _ _ c1 (e4 _ _ c4 (up3 _ _ c1 c3 c2 q))) ⟨oe, s5.extBut _ _ ne hoe, hce⟩
theorem nextM_item {x y : Value} {Q : Option Value → Shared → Prop} (X : Nx i l xs S) (Y : Nx j m ys U) (D : ZipApart z T1 T2 i j l m)
    (hz : IsZip s.heap z T1 T2 .none) (h1 : IsPair s.heap T1 (.ref i) (.ref j)) (h2 : IsPair s.heap T2 a b) (hS : S s.heap k) (hU : U s.heap n) (hx : xs[k]? = some x) (hy : ys[n]? = some y)
    (hQ : ∀ h', IsZip h' z T1 T2 (rawInt s.heap.objs.size) → IsPair h' T2 x y → S h' (k + 1) → U h' (n + 1) → IsPair h' s.heap.objs.size x y → h'.objs.size = s.heap.objs.size + 1 →
      (∀ c o, c ≠ z → c ≠ T2 → c ≠ i → c ≠ j → s.heap.get? c = some o → h'.get? c = some o) → Q (some (.ref s.heap.objs.size)) { s with heap := h' }) :
    wpAny (model prog w) A (pyNext (.ref z)) Q E s := by
  have isZ : s.TypeIs (.ref z) "zip" := ⟨_, hz, rfl⟩
  unfold pyNext
  refine wpAny_bind (wpAny_attempt (wpAny_callSpecial?_slot (name := Str.ofString "__next__") isZ F.slot_zip_next (wpAny_call_entry F.slot_zip_next isZ F.entry_zip_next ?_ (F.args_zip_next_1 _))))
  exact zipM_item X Y D hz h1 h2 hS hU hx hy fun h' b1 b2 b3 b4 b5 b6 b7 => wpAny_pure (hQ h' b1 b2 b3 b4 b5 b6 b7)
theorem nextM_end {Q : Option Value → Shared → Prop} (hh : A.handled = none) (X : Nx i l xs S) (Y : Nx j m ys U) (D : ZipApart z T1 T2 i j l m)
    (hz : IsZip s.heap z T1 T2 .none) (h1 : IsPair s.heap T1 (.ref i) (.ref j)) (h2 : IsPair s.heap T2 a b) (hS : S s.heap k) (hU : U s.heap n) (he : xs[k]? = none ∨ ys[n]? = none)
    (hQ : ∀ h', (∀ c o, c ≠ z → c ≠ T2 → c ≠ i → c ≠ j → s.heap.get? c = some o → h'.get? c = some o) → Q none { s with heap := h' }) : wpAny (model prog w) A (pyNext (.ref z)) Q E s := by
  have isZ : s.TypeIs (.ref z) "zip" := ⟨_, hz, rfl⟩
  unfold pyNext
  refine wpAny_bind (wpAny_attempt (wpAny_callSpecial?_slot (name := Str.ofString "__next__") isZ F.slot_zip_next (wpAny_call_entry F.slot_zip_next isZ F.entry_zip_next ?_ (F.args_zip_next_1 _))))
  refine zipM_end hh X Y D hz h1 h2 hS hU he fun h' e hk ⟨o, ho, hc⟩ => ?_
  exact wpAny_bind (wpAny_isInstance (T := "StopIteration") (b := true) ⟨o, ho, hc⟩ isSubtype_stop (wpAny_pure (hQ _ hk)))
end
/-! zip(tuple, list) is made -/
abbrev mz1 (h : Heap) (l : Addr) : Heap := h.push { cls := .type "tuple_iterator", data := .fields #[.ref l, .int 0 0] }
abbrev mz2 (h : Heap) (l m : Addr) : Heap := (mz1 h l).push { cls := .type "list_iterator", data := .fields #[.ref m, .int 0 0] }
abbrev mz3 (h : Heap) (l m : Addr) : Heap := (mz2 h l m).push { cls := .type "tuple", data := .seq #[.ref h.objs.size, .ref (mz1 h l).objs.size] }
abbrev mz4 (h : Heap) (l m : Addr) : Heap := (mz3 h l m).push { cls := .type "tuple", data := .seq #[.none, .none] }
abbrev mz5 (h : Heap) (l m : Addr) : Heap := (mz4 h l m).push { cls := .type "zip", data := .fields #[.none, .bool false, .bool false, .ref (mz2 h l m).objs.size, .ref (mz3 h l m).objs.size] }
theorem meets_zipM (l m : Addr) (xs ys : Array Value) : Meets (Builtin.«zip.__new__» ⟨[.type "zip", .ref l, .ref m], []⟩)
    (fun _ R s => s.heap.IsTuple l xs ∧ s.heap.IsList m ys ∧ R (.ok (.ret (.ref (mz4 s.heap l m).objs.size))) { s with heap := mz5 s.heap l m }) :=
  .of_wp fun prog w A R s h => by
    obtain ⟨hp, g, d, tk, os⟩ := s
    obtain ⟨ht, hl, h⟩ := h
    have hsub := sub_zip
    have ht' : Heap.IsTuple (Shared.heap ⟨hp, g, d, tk, os⟩) l xs := ht
    have hl' : Heap.IsList (Shared.heap ⟨hp.push { cls := .type "tuple_iterator", data := .fields #[.ref l, .int 0 0] }, g, d, tk, os⟩) m ys := Heap.IsList.push hl _
    wp_walk using wpAny_pyIter_tuple ht', wpAny_pyIter_list hl'
    exact ⟨_, rfl, h⟩
theorem call_zipM {prog : Program} {w : World} {A : Around} {E : Value → Shared → Prop} {s : Shared} {l m : Addr} {xs ys : Array Value} {Q : Value → Shared → Prop} (ht : s.heap.IsTuple l xs) (hl : s.heap.IsList m ys)
    (h : ∀ h', IsZip h' (s.heap.objs.size + 4) (s.heap.objs.size + 2) (s.heap.objs.size + 3) .none → IsPair h' (s.heap.objs.size + 2) (.ref s.heap.objs.size) (.ref (s.heap.objs.size + 1)) →
      IsPair h' (s.heap.objs.size + 3) .none .none → h'.IsTupleIter s.heap.objs.size l 0 → h'.IsListIter (s.heap.objs.size + 1) m 0 → (∀ c o, s.heap.get? c = some o → h'.get? c = some o) → Q (.ref (s.heap.objs.size + 4)) { s with heap := h' }) :
    wpAny (model prog w) A (call (.type "zip") [.ref l, .ref m]) Q E s := by
  refine callType_new F.called_zip (by decide) (F.typeCall_zip_2 _ _) (F.newCall_zip_2 _ _) (fun obj => F.args_object_init_3 obj _ _) F.entry_zip_new (meets_zipM l m xs ys) ⟨ht, hl, ?_⟩
  have n1 : (mz1 s.heap l).objs.size = s.heap.objs.size + 1 := Heap.size_push ..
  have n2 : (mz2 s.heap l m).objs.size = s.heap.objs.size + 2 := by rw [Heap.size_push, n1]
  have n3 : (mz3 s.heap l m).objs.size = s.heap.objs.size + 3 := by rw [Heap.size_push, n2]
  have n4 : (mz4 s.heap l m).objs.size = s.heap.objs.size + 4 := by rw [Heap.size_push, n3]
  have f5 : (mz5 s.heap l m).get? (mz4 s.heap l m).objs.size = some _ := Heap.get?_push_size _ rfl
  have f4 : (mz5 s.heap l m).get? (mz3 s.heap l m).objs.size = some _ := Heap.get?_push_of_some _ (Heap.get?_push_size _ rfl)
  have f3 : (mz5 s.heap l m).get? (mz2 s.heap l m).objs.size = some _ := Heap.get?_push_of_some _ (Heap.get?_push_of_some _ (Heap.get?_push_size _ rfl))
  have f2 : (mz5 s.heap l m).get? (mz1 s.heap l).objs.size = some _ := Heap.get?_push_of_some _ (Heap.get?_push_of_some _ (Heap.get?_push_of_some _ (Heap.get?_push_size _ rfl)))
  have f1 : (mz5 s.heap l m).get? s.heap.objs.size = some _ := Heap.get?_push_of_some _ (Heap.get?_push_of_some _ (Heap.get?_push_of_some _ (Heap.get?_push_of_some _ (Heap.get?_push_size _ rfl))))
  show _ ∧ _
  rw [n2, n3, n4] at f5
  rw [n1, n2] at f3
  rw [n3] at f4
  rw [n1] at f2
  rw [n4]
  refine ⟨⟨_, f5, rfl⟩, h _ f5 f3 f4 ⟨_, f1, rfl, rfl⟩ ⟨_, f2, rfl, rfl⟩ fun c o q => ?_⟩
  exact Heap.get?_push_of_some _ (Heap.get?_push_of_some _ (Heap.get?_push_of_some _ (Heap.get?_push_of_some _ (Heap.get?_push_of_some _ q))))
/-- the tuple at a and the list at b, the items in new pairs -/
def ItM (K : PySem.W.Frag) (a b : Addr) : It :=
  ⟨fun i H => ∃ (xs ys : List V) (x y : V), SqT K H a xs ∧ SqL K H b ys ∧ xs[i]? = some x ∧ ys[i]? = some y,
    fun i H v H' => ∃ T x y, v = .ref T ∧ H T = none ∧ H' = upd H T (.tup [x, y]) ∧ (∀ xs, SqT K H a xs → xs[i]? = some x) ∧ ∀ ys, SqL K H b ys → ys[i]? = some y,
    fun i H => ∃ xs ys : List V, SqT K H a xs ∧ SqL K H b ys ∧ (xs.length ≤ i ∨ ys.length ≤ i)⟩
theorem turnM {P : Program} {w : World} {K : PySem.W.Frag} {elts : List Expr} {kk : Nat} {tpos : Pos} {a b z T1 T2 i1 i2 : Addr} (D : ZipApart z T1 T2 i1 i2 a b) :
    Turn P w K (.Tuple elts kk tpos) (ItM K a b) [z, T1, T2, i1, i2] z (fun i h => IsZip h z T1 T2 .none ∧ IsPair h T1 (.ref i1) (.ref i2) ∧ (∃ x y, IsPair h T2 x y) ∧ h.IsTupleIter i1 a i ∧ h.IsListIter i2 b i) where
  mem := by simp
  obj := fun i h st c hc => by
    obtain ⟨hz, h1, ⟨x, y, h2⟩, ⟨o1, e1, _, d1⟩, o2, e2, _, d2⟩ := st
    have q : c = z ∨ c = T1 ∨ c = T2 ∨ c = i1 ∨ c = i2 := by simpa using hc
    rcases q with rfl | rfl | rfl | rfl | rfl
    · exact ⟨_, hz, fun v q => nomatch q⟩
    · exact ⟨_, h1, fun v q => nomatch q⟩
    · exact ⟨_, h2, fun v q => nomatch q⟩
    · exact ⟨o1, e1, fun v q => by rw [d1] at q; cases q⟩
    · exact ⟨o2, e2, fun v q => by rw [d2] at q; cases q⟩
  keep := fun i h h' ⟨hz, h1, ⟨x, y, h2⟩, t1, t2⟩ k =>
    ⟨k z (by simp) _ hz, k T1 (by simp) _ h1, ⟨x, y, k T2 (by simp) _ h2⟩, t1.at fun o q => k i1 (by simp) o q, t2.at fun o q => k i2 (by simp) o q⟩
  item := by
    intro X hP hw hK hc i pins s σ H E I hf st hg
    subst hP hw hK
    obtain ⟨hz, h1, ⟨x0, y0, h2⟩, t1, t2⟩ := st
    obtain ⟨xs, ys, x, y, hqx, hqy, hx, hy⟩ := hg
    obtain ⟨its, rv, p, _⟩ := I.tuple hqx
    obtain ⟨jts, rv2, p2, _⟩ := I.list hqy
    obtain ⟨u, hu, ru⟩ := rv.get hx
    obtain ⟨v, hv, rw⟩ := rv2.get hy
    have zl : z < s.heap.objs.size := Heap.lt_size hz
    refine nextM_item (nx_tup (Ne.symm D.l1i1)) (nx_list (Ne.symm D.l2i2)) D hz h1 h2 ⟨t1, p⟩ ⟨t2, p2.isList⟩ (x := u) (y := v) (by simpa using hu) (by simpa using hv) fun h' z' q2 S' U' hT hsz hk => ?_
    refine ⟨_, rfl, wpAny_letOwnedTupleGo_zip (s := { s with heap := h' }) z' fun g gz sb => ?_⟩
    have hT2 : g.get? s.heap.objs.size = some { cls := .type "tuple", data := .seq #[u, v] } := (sb.2 _ (Nat.ne_of_gt zl)).trans hT
    have away : ∀ {c : Addr}, c ∉ [z, T1, T2, i1, i2] → c ≠ z ∧ c ≠ T2 ∧ c ≠ i1 ∧ c ≠ i2 := fun {c} hb => by simp at hb; exact ⟨hb.1, hb.2.2.1, hb.2.2.2.1, hb.2.2.2.2⟩
    have J : Inv X pins σ (upd H s.heap.objs.size (.tup [x, y])) { s with heap := g } :=
      I.turnedNew (t' := s.toks) (ch := [z, T1, T2, i1, i2]) (fun c o hb q => let ⟨a1, a2, a3, a4⟩ := away hb; (sb.2 c a1).trans (hk c o a1 a2 a3 a4 q)) hf (Nat.le_refl _)
        ⟨by show 2 ≤ sizeLine; decide, [u, v], .cons ru (.cons rw .nil), ⟨_, hT2, rfl, _, rfl⟩⟩
    refine ⟨.ref s.heap.objs.size, _, J, rfl, ⟨_, x, y, rfl, I.hok.fresh (Nat.le_refl _), rfl, fun l hl => by rw [I.tuple_inj hl hqx]; exact hx, fun l hl => by rw [I.list_inj hl hqy]; exact hy⟩,
      ⟨gz, (sb.2 _ D.TIz).trans (hk _ _ D.TIz D.TITO D.TIi1 D.TIi2 h1), ⟨u, v, (sb.2 _ D.TOz).trans q2⟩, S'.1.at fun o q => (sb.2 _ D.i1z).trans q, U'.1.at fun o q => (sb.2 _ D.i2z).trans q⟩, fun c hcm => ?_⟩
    have lt : c < s.heap.objs.size := by
      have q : c = z ∨ c = T1 ∨ c = T2 ∨ c = i1 ∨ c = i2 := by simpa using hcm
      rcases q with rfl | rfl | rfl | rfl | rfl
      · exact zl
      · exact Heap.lt_size h1
      · exact Heap.lt_size h2
      · obtain ⟨_, e1, _⟩ := t1; exact Heap.lt_size e1
      · obtain ⟨_, e2, _⟩ := t2; exact Heap.lt_size e2
    rw [upd_ne (Nat.ne_of_lt lt)]
    exact (hf c hcm).1
  done := by
    intro X hP hw hK hc i pins s σ H E I hf st hg
    subst hP hw hK
    obtain ⟨hz, h1, ⟨x0, y0, h2⟩, t1, t2⟩ := st
    obtain ⟨xs, ys, hqx, hqy, hend⟩ := hg
    obtain ⟨its, rv, p, _⟩ := I.tuple hqx
    obtain ⟨jts, rv2, p2, _⟩ := I.list hqy
    have n1 := rv.length
    have n2 := rv2.length
    have he : its.toArray[i]? = none ∨ jts.toArray[i]? = none := hend.imp (fun q => by simp; omega) fun q => by simp; omega
    refine nextM_end (I.ok.hd hc) (nx_tup (Ne.symm D.l1i1)) (nx_list (Ne.symm D.l2i2)) D hz h1 h2 ⟨t1, p⟩ ⟨t2, p2.isList⟩ he fun h' hk => ?_
    exact ⟨rfl, I.turnedL (t' := s.toks) (ch := [z, T1, T2, i1, i2]) (fun c o hb q => by simp at hb; exact hk c o hb.1 hb.2.2.1 hb.2.2.2.1 hb.2.2.2.2 q) hf⟩
  self := fun A i s Q E st h => wpAny_pyIter_zip st.1 h
/-- zip(t, xs) -/
def iZipM (K : PySem.W.Frag) (ta : TA) : TI := fun σ H R => ta σ H fun vs H1 => ∃ a b xs ys, vs = [.ref a, .ref b] ∧ SqT K H1 a xs ∧ SqL K H1 b ys ∧ R (ItM K a b) H1
theorem pi_zipTL {X : Cx} {e e2 : Expr} {ta : TA} {p pos tpos : Pos} {elts : List Expr} {kk : Nat} (hg : Gl X "zip") (hm : X.mg "zip" = none) (ha : PA X [e, e2] ta)
    (hs : starEach [e, e2] X.env = (false, eval e X.env) :: starEach [e2] X.env := by rfl) (hpl : (backTo pos (starEach [e2] X.env)).any (·.1) = false := by rfl) :
    PI X (.Tuple elts kk tpos) (.Call (.Name "zip" p) [e, e2] [] pos) (iZipM X.K ta) := by
  refine ⟨fun pins s σ H R I h => Call_ (ld_blt I hg hm PyProof.Rows.boot_zip (PyProof.Rows.callWith_type1 (thn (ha.run pos pins s σ H _ I h) ?_) hs hpl))⟩
  rintro us s1 ⟨vs, H1, I1, r1, a, b, xs, ys, rfl, hqx, hqy, q⟩
  cases r1 with
  | cons r rr =>
    cases rr with
    | cons r' rr =>
      cases rr
      cases r
      cases r'
      obtain ⟨its, rv, p1, _⟩ := I1.tuple hqx
      obtain ⟨jts, rv2, p2, _⟩ := I1.list hqy
      obtain ⟨o1, ho1, _⟩ := id p1
      refine call_zipM p1 p2.isList fun h' hz hTI hTO h1 h2 hk => wpAny_pyIter_zip hz ?_
      have I2 : Inv X pins σ H1 { s1 with heap := h' } := I1.kept (t' := s1.toks) hk
      refine ⟨s1.heap.objs.size + 4, [s1.heap.objs.size + 4, s1.heap.objs.size + 2, s1.heap.objs.size + 3, s1.heap.objs.size, s1.heap.objs.size + 1], _, _, H1, rfl, I2,
        turnM (PySem.W.ktu_apart s1.heap.objs.size a b (Heap.lt_size ho1) p2.lt), ⟨hz, hTI, ⟨_, _, hTO⟩, h1, h2⟩, fun c hcm => ?_, q⟩
      have le : s1.heap.objs.size ≤ c := by
        have z : c = s1.heap.objs.size + 4 ∨ c = s1.heap.objs.size + 2 ∨ c = s1.heap.objs.size + 3 ∨ c = s1.heap.objs.size ∨ c = s1.heap.objs.size + 1 := by simpa using hcm
        rcases z with z | z | z | z | z <;> rw [z] <;> first | exact Nat.le_refl _ | exact Nat.le_add_right _ _
      exact I1.fpOk le (I1.hok.fresh le)
/-! what both are walked as -/
theorem walkM {K : PySem.W.Frag} {a b : Addr} {xs ys : List V} : Walk (ItM K a b) (min xs.length ys.length) (fun H => SqT K H a xs ∧ SqL K H b ys) (YPair (fun i => xs[i]?) fun i => ys[i]?) := by
  refine ⟨fun i _ hi q => ?_, fun _ q => ⟨xs, ys, q.1, q.2, by omega⟩, fun i H v H' _ q y => ?_⟩
  · have h1 : i < xs.length := by omega
    have h2 : i < ys.length := by omega
    exact ⟨xs, ys, xs[i], ys[i], q.1, q.2, by simp [h1], by simp [h2]⟩
  · obtain ⟨T, x, z, h1, h2, h3, h4, h5⟩ := y
    exact ⟨T, x, z, h1, h2, h3, h4 xs q.1, h5 ys q.2⟩
theorem walkT {K : PySem.W.Frag} {a b : Addr} {xs ys : List V} : Walk (RZ.ItzT K a b) (min xs.length ys.length) (fun H => SqT K H a xs ∧ SqT K H b ys) (YPair (fun i => xs[i]?) fun i => ys[i]?) := by
  refine ⟨fun i _ hi q => ?_, fun _ q => ⟨xs, ys, q.1, q.2, by omega⟩, fun i H v H' _ q y => ?_⟩
  · have h1 : i < xs.length := by omega
    have h2 : i < ys.length := by omega
    exact ⟨xs, ys, xs[i], ys[i], q.1, q.2, by simp [h1], by simp [h2]⟩
  · obtain ⟨T, x, z, h1, h2, h3, h4, h5⟩ := y
    exact ⟨T, x, z, h1, h2, h3, h4 xs q.1, h5 ys q.2⟩
section
variable {K : PySem.W.Frag} {ρ : Rho} {ta : TA} {es fs : List PyData}
theorem it_zipM (h : EvL K ta ρ [.tuple es, .list fs]) : Iter K (iZipM K ta) ρ (zipD es fs) := fun σ B H e s R r =>
  h σ B H e s _ fun vs B1 H1 g hv => by
    cases hv with
    | cons h1 t =>
      cases t with
      | cons h2 t =>
        cases t
        cases h1 with
        | tup p1 a1 =>
          cases h2 with
          | lst p2 a2 => exact ⟨_, _, _, _, rfl, same_t g.sub p1, .of (g.sub _ _ p2), r _ B1 H1 g (goes_pair walkM (fun H' s' => ⟨same_t s' p1, .of (s' _ _ p2)⟩) a1 a2)⟩
theorem it_zipT (h : EvL K ta ρ [.tuple es, .tuple fs]) : Iter K (RZ.iZipA K ta) ρ (zipD es fs) := fun σ B H e s R r =>
  h σ B H e s _ fun vs B1 H1 g hv => by
    cases hv with
    | cons h1 t =>
      cases t with
      | cons h2 t =>
        cases t
        cases h1 with
        | tup p1 a1 =>
          cases h2 with
          | tup p2 a2 => exact ⟨_, _, _, _, rfl, .inr ⟨same_t g.sub p1, same_t g.sub p2, r _ B1 H1 g (goes_pair walkT (fun H' s' => ⟨same_t s' p1, same_t s' p2⟩) a1 a2)⟩⟩
theorem it_zipL (h : EvL K ta ρ [.list es, .list fs]) : Iter K (RZ.iZipA K ta) ρ (zipD es fs) := fun σ B H e s R r =>
  h σ B H e s _ fun vs B1 H1 g hv => by
    cases hv with
    | cons h1 t =>
      cases t with
      | cons h2 t =>
        cases t
        cases h1 with
        | lst p1 a1 =>
          cases h2 with
          | lst p2 a2 => exact ⟨_, _, _, _, rfl, .inl ⟨.of (g.sub _ _ p1), .of (g.sub _ _ p2), r _ B1 H1 g (goes_pair (walk_zip rfl) (fun H' s' => ⟨.of (s' _ _ p1), .of (s' _ _ p2)⟩) a1 a2)⟩⟩
end
end G
end
section
set_option maxRecDepth 100000
set_option maxHeartbeats 2000000
/-! built-ins by data -/
namespace G
open PySem PySem.Spec PyProof.Rows L2
/-! isinstance -/
def tyD : PyData → String
  | .none => "NoneType"
  | .bool _ => "bool"
  | .int _ => "int"
  | .str _ => "str"
  | .list _ => "list"
  | .tuple _ => "tuple"
  | .dict _ => "dict"
theorem tyx_of {K : PySem.W.Frag} {H : Hp} {v : V} {d : PyData} (h : Da K H v d) : TyX K H v (.type (tyD d)) := by
  cases h with
  | non => exact .base .non
  | bl b => exact .base (.bl b)
  | int i => exact .base (.int i)
  | str x => exact .base (.str x)
  | lst h _ => exact .base (.lst h)
  | tup h _ =>
    rcases h with (h | ⟨o, h⟩) | ⟨o, its, n, h, c, _⟩
    · exact .base (.tup h)
    · exact .fTuple h
    · exact .kTuple h c
section
variable {K : PySem.W.Frag} {ρ : Rho} {ta : TE} {d z : PyData}
theorem ev_isi {T : String} {b : Bool} (h : Ev K ta ρ d) (hb : kitB (tyD d) T = some b) : Ev K (tCB (rIsi K) (tCons ta (tCons (tC (.ty T)) tNil))) ρ (.bool b) := fun σ B H e s Q q =>
  h σ B H e s _ fun v B1 H1 g hv => ⟨v, .ty T, _, _, b, rfl, .ty T, tyx_of (hv.mono g.sub), kit_ty hb, q _ B1 H1 g (.bl b)⟩
theorem fn_lenT {xs : List PyData} : Fn K (fun xs H Q => ∃ p ys, xs = [.ref p] ∧ (SqL K H p ys ∨ SqT K H p ys) ∧ Q (.int ys.length) H) [.tuple xs] (.int xs.length) := fun B H s us hu Q q => by
  cases hu with
  | cons h t =>
    cases t
    cases h with
    | tup h1 a1 => exact ⟨_, _, rfl, .inr (same_t s h1), q _ B H (.refl s) (by rw [a1.len]; exact .int _)⟩
/-! all, any, sum of a list -/
theorem fn_all {bs : List Bool} : Fn K (rAll K) [.list (bs.map .bool)] (.bool (bs.all id)) := fun B H s us hu Q q => by
  cases hu with
  | cons h t =>
    cases t
    cases h with
    | lst h a =>
      obtain rfl := daBools a
      exact ⟨_, bs, rfl, .of (s _ _ h), q _ B H (.refl s) (.bl _)⟩
theorem fn_int {i : Int} : Fn K (fun xs H Q => (∃ i, xs = [.int i] ∧ Q (.int i) H) ∨ ∃ k, xs = [.bl k] ∧ Q (.int (if k then 1 else 0)) H) [.int i] (.int i) := fun B H s us hu Q q => by
  cases hu with
  | cons h t =>
    cases t
    cases h
    exact .inl ⟨i, rfl, q _ B H (.refl s) (.int _)⟩
/-- list(x) of a list or a tuple -/
abbrev rListOf (K : PySem.W.Frag) : List V → Hp → VK → Prop := fun xs H Q => ∃ p ys, xs = [.ref p] ∧ (SqL K H p ys ∨ SqT K H p ys) ∧ ∀ l, H l = none → Q (.ref l) (upd H l (.lst ys))
theorem callA_list {X : Cx} : CallR X (.type "list") (rListOf X.K) := call_list_of
theorem fn_listL {ds : List PyData} : Fn K (rListOf K) [.list ds] (.list ds) := fun B H s us hu Q q => by
  cases hu with
  | cons h t =>
    cases t
    cases h with
    | @lst a xs _ h hs => exact ⟨_, _, rfl, .inl (.of (s _ _ h)), fun l hl => q _ _ _ (Gr.add s hl (.lst xs)) (.lst upd_same (hs.mono (Gr.add s hl (.lst xs)).bb))⟩
theorem fn_listT {ds : List PyData} : Fn K (rListOf K) [.tuple ds] (.list ds) := fun B H s us hu Q q => by
  cases hu with
  | cons h t =>
    cases t
    cases h with
    | @tup a xs _ h hs => exact ⟨_, _, rfl, .inr (same_t s h), fun l hl => q _ _ _ (Gr.add s hl (.lst xs)) (.lst upd_same (hs.mono (Gr.add s hl (.lst xs)).bb))⟩
/-- len(set(xs)), xs unlike ints -/
theorem ev_lenSet {ns : List Int} (h : Ev K ta ρ (.list (ns.map .int))) (hn : ns.Nodup) (hl : ns.length ≤ 4000) : Ev K (RZ.tLenSetI K ta) ρ (.int ns.length) := fun σ B H e s Q q =>
  h σ B H e s _ fun v B1 H1 g hv => by
    cases hv with
    | lst h a =>
      obtain rfl := daInts a
      exact ⟨_, ns, rfl, .of (g.sub _ _ h), hn, hl, q _ B1 H1 g (.int _)⟩
/-- t[::-1] -/
theorem ev_revT {ds : List PyData} (h : Ev K ta ρ (.tuple ds)) : Ev K (tRevT K ta) ρ (.tuple ds.reverse) := fun σ B H e s Q q =>
  h σ B H e s _ fun v B1 H1 g hv => by
    cases hv with
    | @tup a xs _ h hs => exact ⟨_, _, rfl, same_t g.sub h, fun p hp => q _ _ _ (g.trans (Gr.add g.sub hp (.tup xs.reverse))) (.tup (.of upd_same) (hs.rev.mono (Gr.add g.sub hp (.tup xs.reverse)).bb))⟩
/-- xs[i:j] -/
def EvO (K : PySem.W.Frag) (to : TO) (ρ : Rho) (o : Option Int) : Prop := ∀ σ B H, EnvOk K B σ ρ → Same B H → ∀ Q : Option Int → Hp → Prop, (∀ B' H', Gr B H B' H' → Q o H') → to σ H Q
theorem eo_none : EvO K tNoPart ρ none := fun σ B H e s Q q => q B H (.refl s)
theorem eo_some {i : Int} (h : Ev K ta ρ (.int i)) : EvO K (tPart ta) ρ (some i) := fun σ B H e s Q q => h σ B H e s _ fun v B1 H1 g hv => by cases hv; exact ⟨i, rfl, q B1 H1 g⟩
def cutD (ds : List PyData) (lo hi : Option Int) : List PyData := (ds.drop (HT.sIx ds.length 0 lo)).take (HT.sIx ds.length ds.length hi - HT.sIx ds.length 0 lo)
theorem cut_all {B : Hp} {xs : List V} {ds : List PyData} (hs : DaAll K B xs ds) (lo hi : Option Int) : DaAll K B (cutV xs lo hi) (cutD ds lo hi) := by
  have e1 := hs.len
  unfold cutV cutD
  rw [e1]
  exact (hs.drop _).take _
theorem ev_slL {tl th : TO} {ds : List PyData} {lo hi : Option Int} (h : Ev K ta ρ (.list ds)) (h1 : EvO K tl ρ lo) (h2 : EvO K th ρ hi) : Ev K (tSl (rSlL K) ta tl th) ρ (.list (cutD ds lo hi)) := fun σ B H e s Q q =>
  h σ B H e s _ fun v B1 H1 g hv => h1 σ B1 H1 (e.mono g.bb) g.sub _ fun B2 H2 g2 => h2 σ B2 H2 (e.mono (g.trans g2).bb) g2.sub _ fun B3 H3 g3 => by
    cases hv with
    | @lst a xs _ h hs =>
      have gg := (g.trans g2).trans g3
      refine ⟨_, _, rfl, .of (gg.sub _ _ ((g2.trans g3).bb _ _ h)), fun p hp => ?_⟩
      have ga := Gr.add gg.sub hp (.lst (cutV xs lo hi))
      exact q _ _ _ (gg.trans ga) (.lst upd_same ((cut_all (hs.mono (g2.trans g3).bb) lo hi).mono ga.bb))
/-- reversed(t) -/
theorem walk_revT {a : Addr} {xs : List V} : Walk (RT.ItvT K a xs.length) xs.length (fun H => SqT K H a xs) (fun i H x H' => H' = H ∧ xs[xs.length - 1 - i]? = some x) :=
  ⟨fun i _ hi q => ⟨hi, xs, xs[xs.length - 1 - i]'(by omega), q, by simp [show xs.length - 1 - i < xs.length by omega]⟩, fun _ _ => Nat.le_refl _, fun _ _ _ _ _ q y => ⟨y.1, y.2 xs q⟩⟩
theorem goes_rev {J : It} {B : Hp} {xs : List V} {es : List PyData} {G : Hp → Prop} (w : Walk J xs.length G (fun i H x H' => H' = H ∧ xs[xs.length - 1 - i]? = some x)) (hg : ∀ H, Same B H → G H) (a : DaAll K B xs es) : Goes K J B es.reverse := by
  have hl := a.len
  unfold Goes
  rw [List.length_reverse, ← hl]
  refine w.mono hg fun i H x H' hi s y B0 s0 h0 => ?_
  obtain ⟨rfl, hx⟩ := y
  have hi2 : es.length - 1 - i < es.length := by omega
  obtain ⟨v, e1, e2⟩ := a.at (List.getElem?_eq_getElem hi2)
  rw [hl, e1] at hx
  cases hx
  refine ⟨B0, _, .refl h0, ?_, e2.mono s0⟩
  rw [List.getElem?_reverse (by omega)]
  exact List.getElem?_eq_getElem hi2
theorem it_revT {es : List PyData} (h : Ev K ta ρ (.tuple es)) : Iter K (RT.iRevA K ta) ρ es.reverse := fun σ B H e s R r =>
  h σ B H e s _ fun v B1 H1 g hv => by
    cases hv with
    | tup h1 a => exact ⟨_, _, rfl, .inr ⟨same_t g.sub h1, r _ B1 H1 g (goes_rev walk_revT (fun H' s' => same_t s' h1) a)⟩⟩
theorem it_revL {es : List PyData} (h : Ev K ta ρ (.list es)) : Iter K (RT.iRevA K ta) ρ es.reverse := fun σ B H e s R r =>
  h σ B H e s _ fun v B1 H1 g hv => by
    cases hv with
    | lst h1 a => exact ⟨_, _, rfl, .inl ⟨.of (g.sub _ _ h1), r _ B1 H1 g (goes_rev walk_rev (fun H' s' => .of (s' _ _ h1)) a)⟩⟩
end
/-! xs.index(x), xs unlike ints -/
theorem flat_ints (ns : List Int) : (ns.map V.int).all flatV = true := by
  rw [List.all_eq_true]
  intro v hv
  obtain ⟨n, _, rfl⟩ := List.mem_map.mp hv
  rfl
theorem ev_index {K : PySem.W.Frag} {ρ : Rho} {ta tb : TE} {ns : List Int} {x : Int} {j : Nat} (h : Ev K ta ρ (.list (ns.map .int))) (hx : Ev K tb ρ (.int x)) (nd : ns.Nodup) (hj : ns[j]? = some x) :
    Ev K (tBM K "list" (rIndex K) ta (tCons tb tNil)) ρ (.int j) := fun σ B H e s Q q =>
  h σ B H e s _ fun v B1 H1 g hv => by
    cases hv with
    | lst h1 a =>
      obtain rfl := daInts a
      refine ⟨.inl ⟨rfl, _, .of (g.sub _ _ h1)⟩, hx σ B1 H1 (e.mono g.bb) g.sub _ fun u B2 H2 g2 hu => ?_⟩
      cases hu
      refine ⟨_, ns.map .int, .int x, j, .int x, rfl, rfl, .of ((g2.ex _ _ (g.sub _ _ h1))), rfl, flat_ints ns, by rw [List.getElem?_map, hj]; rfl, by simp [eqV], fun m z hm hz => ?_, q _ B2 H2 (g.trans g2) (.int _)⟩
      rw [List.getElem?_map] at hz
      cases e1 : ns[m]? with
      | none => rw [e1] at hz; cases hz
      | some y =>
        rw [e1] at hz
        cases hz
        have ne : y ≠ x := fun e2 => by
          subst e2
          obtain ⟨l1, w1⟩ := List.getElem?_eq_some_iff.mp e1
          obtain ⟨l2, w2⟩ := List.getElem?_eq_some_iff.mp hj
          exact absurd (w1.trans w2.symm) (List.pairwise_iff_getElem.mp nd m j l1 l2 hm)
        show (y == x) = false
        exact beq_eq_false_iff_ne.mpr ne
/-! zip of whatever -/
section
variable {X : Cx}
theorem pi_zipM {e e2 : Expr} {ta : TA} {p pos tpos : Pos} {elts : List Expr} {kk : Nat} (hg : Gl X "zip") (hm : X.mg "zip" = none) (ha : PA X [e, e2] ta)
    (hs : starEach [e, e2] X.env = (false, eval e X.env) :: starEach [e2] X.env := by rfl) (hpl : (backTo pos (starEach [e2] X.env)).any (·.1) = false := by rfl) :
    PI X (.Tuple elts kk tpos) (.Call (.Name "zip" p) [e, e2] [] pos) (orI (RZ.iZipA X.K ta) (iZipM X.K ta)) := pi_or (RZ.pi_zipA hg hm ha hs hpl) (pi_zipTL hg hm ha hs hpl)
end
/-! powers -/
def CPowW (i j : Int) : Prop := 0 ≤ j ∧ (Builtin.Int.intBits i : Int) * j ≤ 2 ^ 27
theorem op_powW {X : Cx} : OpR X (binaryOp .Pow) (rI CPowW fun i j => .int (i ^ j.toNat)) := by
  intro pins s σ H x y v u Q I rx ry h
  obtain ⟨i, j, rfl, rfl, hc, q⟩ := h
  obtain ⟨t, rfl⟩ := (show ∃ t, v = Value.int i t from rx)
  obtain ⟨t', rfl⟩ := (show ∃ t, u = Value.int j t from ry)
  exact pow_int hc.1 hc.2 ⟨.int _, H, I.tok _, ⟨_, rfl⟩, q⟩
end G
namespace G
open PySem PySem.Spec PyProof.Rows L2
def isIntD : PyData → Bool
  | .bool _ => true
  | .int _ => true
  | _ => false
theorem kit_int : ∀ x : PyData, kitB (tyD x) "int" = some (isIntD x)
  | .none => (by decide +kernel : kitB "NoneType" "int" = some false)
  | .bool _ => (by decide +kernel : kitB "bool" "int" = some true)
  | .int _ => (by decide +kernel : kitB "int" "int" = some true)
  | .str _ => (by decide +kernel : kitB "str" "int" = some false)
  | .list _ => (by decide +kernel : kitB "list" "int" = some false)
  | .tuple _ => (by decide +kernel : kitB "tuple" "int" = some false)
  | .dict _ => (by decide +kernel : kitB "dict" "int" = some false)
def isBoolD : PyData → Bool
  | .bool _ => true
  | _ => false
theorem kit_bool : ∀ x : PyData, kitB (tyD x) "bool" = some (isBoolD x)
  | .none => (by decide +kernel : kitB "NoneType" "bool" = some false)
  | .bool _ => (by decide +kernel : kitB "bool" "bool" = some true)
  | .int _ => (by decide +kernel : kitB "int" "bool" = some false)
  | .str _ => (by decide +kernel : kitB "str" "bool" = some false)
  | .list _ => (by decide +kernel : kitB "list" "bool" = some false)
  | .tuple _ => (by decide +kernel : kitB "tuple" "bool" = some false)
  | .dict _ => (by decide +kernel : kitB "dict" "bool" = some false)
def isListD : PyData → Bool
  | .list _ => true
  | _ => false
theorem kit_list : ∀ x : PyData, kitB (tyD x) "list" = some (isListD x)
  | .none => (by decide +kernel : kitB "NoneType" "list" = some false)
  | .bool _ => (by decide +kernel : kitB "bool" "list" = some false)
  | .int _ => (by decide +kernel : kitB "int" "list" = some false)
  | .str _ => (by decide +kernel : kitB "str" "list" = some false)
  | .list _ => (by decide +kernel : kitB "list" "list" = some true)
  | .tuple _ => (by decide +kernel : kitB "tuple" "list" = some false)
  | .dict _ => (by decide +kernel : kitB "dict" "list" = some false)
def isTupD : PyData → Bool
  | .tuple _ => true
  | _ => false
theorem kit_tuple : ∀ x : PyData, kitB (tyD x) "tuple" = some (isTupD x)
  | .none => (by decide +kernel : kitB "NoneType" "tuple" = some false)
  | .bool _ => (by decide +kernel : kitB "bool" "tuple" = some false)
  | .int _ => (by decide +kernel : kitB "int" "tuple" = some false)
  | .str _ => (by decide +kernel : kitB "str" "tuple" = some false)
  | .list _ => (by decide +kernel : kitB "list" "tuple" = some false)
  | .tuple _ => (by decide +kernel : kitB "tuple" "tuple" = some true)
  | .dict _ => (by decide +kernel : kitB "dict" "tuple" = some false)
def isStrD : PyData → Bool
  | .str _ => true
  | _ => false
theorem kit_str : ∀ x : PyData, kitB (tyD x) "str" = some (isStrD x)
  | .none => (by decide +kernel : kitB "NoneType" "str" = some false)
  | .bool _ => (by decide +kernel : kitB "bool" "str" = some false)
  | .int _ => (by decide +kernel : kitB "int" "str" = some false)
  | .str _ => (by decide +kernel : kitB "str" "str" = some true)
  | .list _ => (by decide +kernel : kitB "list" "str" = some false)
  | .tuple _ => (by decide +kernel : kitB "tuple" "str" = some false)
  | .dict _ => (by decide +kernel : kitB "dict" "str" = some false)
end G
namespace G
open PySem PySem.Spec PyProof.Rows L2
/-- a def of the text by its name -/
def Has (K : PySem.W.Frag) (mg : Str → Option Value) (x : Str) (st : Stmt) (ps : List Str) : Prop :=
  ∃ (f : Addr) (fd : FuncData), Fun K x x st f fd ∧ mg x = some (.ref f) ∧ L2.Binds K fd ps []
theorem has_d {P : Program} {w : World} {K : PySem.W.Frag} {mg : Str → Option Value} {base : Heap} {x : Str} {st : Stmt} {N ps : List Str} {k : Nat} {p : List PyData → PyData → Prop} (h : Has K mg x st ps) (S : FnScope N ps (defScope st))
    (ar : ∀ ds d, p ds d → ds.length = ps.length)
    (hb : ∀ (f : Addr) (cdv : Value) (A : Around) (outer : List Env) (s : Shared) (H : Hp) (E : XK), A.guards = some [] → Room k (A.deeper (envOfC x (defScope st) s.heap.objs.size f cdv)) →
      ∃ t, PSs (bodyCx CX0 P w K mg base N x st f cdv A outer s H E).nox (defBody st) t ∧ ∀ ds d, p ds d → Do K t (startR N ds) (fun _ => d = .none) fun d' => d' = d) : Cal P w K mg base (k + 1) x ps (sp K p) := by
  obtain ⟨f, fd, F, hm, bd⟩ := h
  exact ⟨f, fd, hm, kq_of F, bd, def_d F S ar fun cdv A outer s H E hg hr => hb f cdv A outer s H E hg hr⟩
theorem Cal.kw {P : Program} {w : World} {K : PySem.W.Frag} {mg : Str → Option Value} {base : Heap} {k : Nat} {x : Str} {st : Stmt} {ps ks : List Str} {q : Sp} {g : List Value → List Value → List Value} {gV : List V → List V → List V}
    (c : Cal P w K mg base k x ps q) (h : Has K mg x st ps)
    (hk : ∀ (kV doc pm : Value) (an : Option Addr) (cdv ct : Value) (us ws : List Value), (g us ws).length = ps.length → bindArgs (PySem.W.fnOf x x (defArgs st) (defBody st) (defScope st) .none kV doc pm an cdv ct) ⟨us, ks.zip ws⟩ = pure (ps.zip (g us ws)))
    (hr : ∀ {vs : List V} {us : List Value} {zs : List V} {ws : List Value}, Vals vs us → Vals zs ws → Vals (gV vs zs) (g us ws)) : CalK P w K mg base k x ps ks gV q := by
  obtain ⟨f, fd, hm, ⟨hkp, o, lo, od⟩, hb, F⟩ := c.ex
  obtain ⟨f2, fd2, F2, hm2, bd2⟩ := h
  rw [hm] at hm2
  cases hm2
  obtain ⟨oc, od2, kV, doc, pm, an, cdv, ct, osl, e, lk, hcd⟩ := F2.ex
  rw [lo] at lk
  cases lk
  cases od
  subst e
  exact ⟨f, _, g, hm, hkp, ⟨fun s us ws _ hl => .of_eq (hk kV doc pm an cdv ct us ws hl), hr⟩, F⟩
theorem Cal.lift {P : Program} {w : World} {K : PySem.W.Frag} {mg : Str → Option Value} {base : Heap} {j k : Nat} {x : Str} {ps : List Str} {q : Sp} (c : Cal P w K mg base j x ps q) (h : j ≤ k) : Cal P w K mg base k x ps q := by
  obtain ⟨f, fd, hm, hk, hb, F⟩ := c.ex
  exact ⟨f, fd, hm, hk, hb, F.lift h⟩
end G

namespace G
/-! with K told -/
open PySem PySem.Spec PyProof.Rows L2
section
variable {X : Cx} (K : PySem.W.Frag)
theorem ixK (h : X.K = K := by rfl) : IxR X (rIxA K) := h ▸ ix_A
theorem addK (h : X.K = K := by rfl) : OpR X (binaryOp .Add) (rAddA K) := h ▸ op_addA
theorem eqK {k : Nat} (hr : Room k X.A) (h : X.K = K := by rfl) : OpR X (compareOp .Eq) (rEqD K) := h ▸ op_eqD hr.units
theorem neK {k : Nat} (hr : Room k X.A) (h : X.K = K := by rfl) : OpR X (compareOp .NotEq) (rNeD K) := h ▸ op_neD hr.units
theorem inK (h : X.K = K := by rfl) : OpR X (compareOp .In) (rIn K false) := h ▸ op_in_seq
theorem ninK (h : X.K = K := by rfl) : OpR X (compareOp .NotIn) (rIn K true) := h ▸ op_notIn_seq
theorem isiK (h : X.K = K := by rfl) : CallR X (.builtin "isinstance") (rIsi K) := h ▸ call_isi
abbrev rLenK (K : PySem.W.Frag) : List V → Hp → VK → Prop := fun xs H Q => ∃ p ys, xs = [.ref p] ∧ (SqL K H p ys ∨ SqT K H p ys) ∧ Q (.int ys.length) H
theorem lenK (h : X.K = K := by rfl) : CallR X (.builtin "len") (rLenK K) := h ▸ call_len_seq
theorem allK (hc : X.calm = true) (h : X.K = K := by rfl) : CallR X (.builtin "all") (rAll K) := h ▸ cr_all hc
theorem sumK (hc : X.calm = true) (h : X.K = K := by rfl) : CallR X (.builtin "sum") (rSum K) := h ▸ cr_sum hc
theorem reprK {k : Nat} (hg : X.A.guards = some []) (hr : Room k X.A) (h : X.K = K := by rfl) : CallR X (.builtin "repr") (rRepr K) := h ▸ call_repr hg hr
theorem listK (h : X.K = K := by rfl) : CallR X (.type "list") (rListOf K) := h ▸ callA_list
theorem slK (h : X.K = K := by rfl) : SlR X (rSlL K) := h ▸ sl_list
theorem pi_listK {tg e : Expr} {te : TE} (he : PE X e te) (h : X.K = K := by rfl) : PI X tg e (iList K te) := h ▸ pi_list he
theorem pi_tupK {tg e : Expr} {te : TE} (he : PE X e te) (h : X.K = K := by rfl) : PI X tg e (iTup K te) := h ▸ pi_tup he
theorem pi_zipK {e e2 : Expr} {ta : TA} {p pos tpos : Pos} {elts : List Expr} {kk : Nat} (hg : Gl X "zip") (hm : X.mg "zip" = none) (ha : PA X [e, e2] ta) (h : X.K = K := by rfl)
    (hs : starEach [e, e2] X.env = (false, eval e X.env) :: starEach [e2] X.env := by rfl) (hpl : (backTo pos (starEach [e2] X.env)).any (·.1) = false := by rfl) :
    PI X (.Tuple elts kk tpos) (.Call (.Name "zip" p) [e, e2] [] pos) (orI (RZ.iZipA K ta) (iZipM K ta)) := h ▸ pi_zipM hg hm ha hs hpl
theorem pi_revK {tg e : Expr} {te : TE} {p pos : Pos} (hg : Gl X "reversed") (hm : X.mg "reversed" = none) (he : PE X e te) (h : X.K = K := by rfl) (hs : starEach [e] X.env = (false, eval e X.env) :: starEach [] X.env := by rfl) :
    PI X tg (.Call (.Name "reversed" p) [e] [] pos) (RT.iRevA K te) := h ▸ RT.pi_revA hg hm he hs
theorem revK {e : Expr} {te : TE} {k : Nat} {p1 p2 p3 pos : Pos} (he : PE X e te) (h : X.K = K := by rfl) :
    PE X (.Subscript e (.Slice none none (some (.UnaryOp .USub (.Constant (.int 1) k p1) p2)) p3) pos) (tRevT K te) := h ▸ pe_revT he
theorem lenSetK {a : Expr} {ta : TE} {p p2 q pos : Pos} (hg : Gl X "len") (hm : X.mg "len" = none) (hg2 : Gl X "set") (hm2 : X.mg "set" = none) (ha : PE X a ta) (h : X.K = K := by rfl) (hc : X.calm = true := by rfl)
    (na : starEach [a] X.env = (false, eval a X.env) :: starEach [] X.env := by rfl) : PE X (.Call (.Name "len" p) [.Call (.Name "set" p2) [a] [] q] [] pos) (RZ.tLenSetI K ta) := h ▸ RZ.pe_lenSetI hg hm hg2 hm2 ha hc na
theorem indexK (h : X.K = K := by rfl) : MtR X "list.index" (rIndex K) := h ▸ mt_index
end
end G
end
section
set_option maxRecDepth 100000
set_option maxHeartbeats 2000000
/-! readings over data beside one list of three ints that is drawn from and written to -/
namespace G
open PySem PySem.Spec PyProof.Rows L2
/-- the list that is drawn from lies at g; c: a bound of its third int -/
def GenAt (H : Hp) (g : Addr) (c : Nat) : Prop := ∃ a b n : Int, H g = some (.lst [.int a, .int b, .int n]) ∧ 0 ≤ a ∧ a < 10 ^ 600 ∧ 0 ≤ b ∧ b < 2147483647 ∧ 0 ≤ n ∧ n ≤ c
theorem GenAt.le {H : Hp} {g : Addr} {c c' : Nat} (h : GenAt H g c) (l : c ≤ c') : GenAt H g c' := by
  obtain ⟨a, b, n, h1, h2, h3, h4, h5, h6, h7⟩ := h
  exact ⟨a, b, n, h1, h2, h3, h4, h5, h6, by omega⟩
theorem GenAt.same {H H' : Hp} {g : Addr} {c : Nat} (h : GenAt H g c) (s : Same H H') : GenAt H' g c := by
  obtain ⟨a, b, n, h1, r⟩ := h
  exact ⟨a, b, n, s _ _ h1, r⟩
theorem GenAt.ne {H : Hp} {g : Addr} {c : Nat} (h : GenAt H g c) : H g ≠ none := by
  obtain ⟨a, b, n, h1, _⟩ := h
  rw [h1]
  simp
structure Gg (g : Addr) (B H B' H' : Hp) : Prop where
  ex : ∀ a o, a ≠ g → H a = some o → H' a = some o
  bb : Same B B'
  sub : Same B' H'
  new : ∀ a o, B' a = some o → B a = none → H a = none
  off : B' g = none
section
variable {g : Addr} {B H B1 H1 B2 H2 : Hp} {c : Nat}
theorem Gg.refl (s : Same B H) (h : B g = none) : Gg g B H B H := ⟨fun _ _ _ e => e, Same.refl _, s, fun a o e n => (by rw [n] at e; cases e), h⟩
theorem Gg.of (k : Gr B H B1 H1) (h : B g = none) (n : H g ≠ none) : Gg g B H B1 H1 := by
  refine ⟨fun a o _ e => k.ex a o e, k.bb, k.sub, k.new, ?_⟩
  cases z : B1 g with
  | none => rfl
  | some o => exact absurd (k.new g o z h) n
theorem Gg.trans (k : Gg g B H B1 H1) (l : Gg g B1 H1 B2 H2) : Gg g B H B2 H2 := by
  refine ⟨fun a o n e => l.ex a o n (k.ex a o n e), k.bb.trans l.bb, l.sub, fun a o e n => ?_, l.off⟩
  cases q : B1 a with
  | none =>
    have z := l.new a o e q
    cases w : H a with
    | none => rfl
    | some u =>
      have ne : a ≠ g := fun x => by subst x; rw [l.off] at e; cases e
      rw [k.ex a u ne w] at z
      cases z
  | some u => exact k.new a u q n
end
/-- the names' data, and where the drawn list stands -/
structure EnvG (K : PySem.W.Frag) (B : Hp) (σ : L2.St) (ρ : Rho) (g : Addr) (i : Nat) : Prop where
  env : EnvOk K B σ ρ
  here : σ[i]? = some (some (.ref g))
  gone : B g = none
section
variable {K : PySem.W.Frag} {B B' : Hp} {σ : L2.St} {ρ : Rho} {g : Addr} {i : Nat}
theorem EnvG.to (h : EnvG K B σ ρ g i) {H H' : Hp} (k : Gg g B H B' H') : EnvG K B' σ ρ g i := ⟨h.env.mono k.bb, h.here, k.off⟩
theorem EnvG.set (h : EnvG K B σ ρ g i) {v : V} {d : PyData} (hv : Da K B v d) {j : Nat} (n : j ≠ i) : EnvG K B (σ.set j (some v)) (ρ.set j (some d)) g i :=
  ⟨h.env.set hv j, by rw [List.getElem?_set_ne n]; exact h.here, h.gone⟩
end
def Eg (K : PySem.W.Frag) (i : Nat) (te : TE) (ρ : Rho) (c : Nat) (P : PyData → Nat → Prop) : Prop := ∀ g σ B H, EnvG K B σ ρ g i → Same B H → GenAt H g c → ∀ Q : VK,
  (∀ v B' H' d c', Gg g B H B' H' → GenAt H' g c' → Da K B' v d → P d c' → Q v H') → te σ H Q
def El (K : PySem.W.Frag) (i : Nat) (ta : TA) (ρ : Rho) (c : Nat) (P : List PyData → Nat → Prop) : Prop := ∀ g σ B H, EnvG K B σ ρ g i → Same B H → GenAt H g c → ∀ Q : List V → Hp → Prop,
  (∀ vs B' H' ds c', Gg g B H B' H' → GenAt H' g c' → DaAll K B' vs ds → P ds c' → Q vs H') → ta σ H Q
/-- what a def promises whose first argument is the drawn list -/
def spG (K : PySem.W.Frag) (P : List PyData → Nat → (PyData → Nat → Prop) → Prop) : Sp := fun vs H Q _ => ∃ g us B ds c R, vs = .ref g :: us ∧ Same B H ∧ B g = none ∧ GenAt H g c ∧ DaAll K B us ds ∧ P ds c R ∧
  ∀ v B' H' d c', Gg g B H B' H' → GenAt H' g c' → Da K B' v d → R d c' → Q v H'
section
variable {K : PySem.W.Frag} {i : Nat} {ρ : Rho} {c : Nat} {te ta tb : TE} {tr : TA} {d : PyData} {P : PyData → Nat → Prop}
theorem eg_pure (h : Ev K te ρ d) (p : P d c) : Eg K i te ρ c P := fun g σ B H e s n Q q =>
  h σ B H e.env s Q fun v B' H' k hv => q v B' H' d c (.of k e.gone n.ne) (n.same k.ex) hv p
theorem Eg.imp {P' : PyData → Nat → Prop} (h : Eg K i te ρ c P) (k : ∀ d c', P d c' → P' d c') : Eg K i te ρ c P' := fun g σ B H e s n Q q =>
  h g σ B H e s n Q fun v B' H' d c' gg n' hv p => q v B' H' d c' gg n' hv (k d c' p)
theorem eg_op {r : R2} {P1 : PyData → Nat → Prop} {P2 : PyData → PyData → Nat → Prop} (ha : Eg K i ta ρ c P1) (hb : ∀ x c1, P1 x c1 → Eg K i tb ρ c1 (P2 x)) (hr : ∀ x y c1 c2, P1 x c1 → P2 x y c2 → ∃ z, Op2 K r x y z ∧ P z c2) : Eg K i (tOp r ta tb) ρ c P := fun g σ B H e s n Q q =>
  ha g σ B H e s n _ fun u B1 H1 x c1 g1 n1 hu p1 => hb x c1 p1 g σ B1 H1 (e.to g1) g1.sub n1 _ fun v B2 H2 y c2 g2 n2 hv p2 => by
    obtain ⟨z, ho, pz⟩ := hr x y c1 c2 p1 p2
    refine ho B2 H2 g2.sub u v (hu.mono g2.bb) hv Q fun w B3 H3 g3 hw => ?_
    have g12 := g1.trans g2
    exact q w B3 H3 z c2 (g12.trans (.of g3 g12.off n2.ne)) (n2.same g3.ex) hw pz
theorem el_n {P : List PyData → Nat → Prop} (p : P [] c) : El K i tNil ρ c P := fun g σ B H e s n Q q => q [] B H [] c (.refl s e.gone) n .nil p
theorem el_c {P1 : PyData → Nat → Prop} {P : List PyData → Nat → Prop} (ha : Eg K i ta ρ c P1) (hr : ∀ x c1, P1 x c1 → El K i tr ρ c1 fun ds c2 => P (x :: ds) c2) : El K i (tCons ta tr) ρ c P := fun g σ B H e s n Q q =>
  ha g σ B H e s n _ fun u B1 H1 x c1 g1 n1 hu p1 => hr x c1 p1 g σ B1 H1 (e.to g1) g1.sub n1 _ fun vs B2 H2 ds c2 g2 n2 hv p2 => q (u :: vs) B2 H2 (x :: ds) c2 (g1.trans g2) n2 (.cons (hu.mono g2.bb) hv) p2
theorem eg_lst {P1 : List PyData → Nat → Prop} (h : El K i tr ρ c P1) (hp : ∀ ds c', P1 ds c' → ds.length ≤ sizeLine ∧ P (.list ds) c') : Eg K i (tLst tr) ρ c P := fun g σ B H e s n Q q =>
  h g σ B H e s n _ fun vs B1 H1 ds c1 g1 n1 hv p1 => by
    obtain ⟨hl, p⟩ := hp ds c1 p1
    refine ⟨by rw [hv.len]; exact hl, fun a ha => ?_⟩
    have k := Gr.add g1.sub ha (.lst vs)
    exact q _ _ _ _ c1 (g1.trans (.of k g1.off n1.ne)) (n1.same k.ex) (.lst upd_same (hv.mono k.bb)) p
theorem eg_tup {P1 : List PyData → Nat → Prop} (h : El K i tr ρ c P1) (hp : ∀ ds c', P1 ds c' → ds.length ≤ sizeLine ∧ P (.tuple ds) c') : Eg K i (tTup tr) ρ c P := fun g σ B H e s n Q q =>
  h g σ B H e s n _ fun vs B1 H1 ds c1 g1 n1 hv p1 => by
    obtain ⟨hl, p⟩ := hp ds c1 p1
    refine ⟨by rw [hv.len]; exact hl, fun a ha => ?_⟩
    have k := Gr.add g1.sub ha (.tup vs)
    exact q _ _ _ _ c1 (g1.trans (.of k g1.off n1.ne)) (n1.same k.ex) (.tup (.of upd_same) (hv.mono k.bb)) p
theorem eg_call {F : List PyData → Nat → (PyData → Nat → Prop) → Prop} {E : XK} {ds : List PyData} {R : PyData → Nat → Prop} (h : EvL K tr ρ ds) (hf : F ds c R) (hp : ∀ d c', R d c' → P d c') : Eg K i (tCall (spG K F) [] E (tCons (tVar i) tr)) ρ c P := fun g σ B H e s n Q q =>
  ⟨.ref g, e.here, h σ B H e.env s _ fun vs B1 H1 k hv => by
    have g1 : Gg g B H B1 H1 := .of k e.gone n.ne
    exact ⟨g, vs, B1, ds, c, R, by rw [List.append_nil], g1.sub, g1.off, n.same k.ex, hv, hf, fun v B2 H2 d c2 g2 n2 h2 r => q v B2 H2 d c2 (g1.trans g2) n2 h2 (hp d c2 r)⟩⟩
/-- the rest of the arguments drawn, too -/
theorem eg_cb {r : List V → Hp → VK → Prop} {P1 : List PyData → Nat → Prop} (h : El K i tr ρ c P1) (hp : ∀ ds c', P1 ds c' → ∃ z, Fn K r ds z ∧ P z c') : Eg K i (tCB r tr) ρ c P := fun g σ B H e s n Q q =>
  h g σ B H e s n _ fun vs B1 H1 ds c1 g1 n1 hv p1 => by
    obtain ⟨z, hf, p⟩ := hp ds c1 p1
    exact hf B1 H1 g1.sub vs hv Q fun w B2 H2 g2 hw => q w B2 H2 z c1 (g1.trans (.of g2 g1.off n1.ne)) (n1.same g2.ex) hw p
theorem if_true_go {A C : Prop} (h : A) : if true = true then A else C := by rw [if_pos rfl]; exact h
theorem wipe_at (σ : L2.St) {i : Nat} : ∀ {vs : List Nat}, i ∉ vs → (wipe σ vs)[i]? = σ[i]?
  | [], _ => rfl
  | v :: vs, h => by
    show ((wipe σ vs).set v none)[i]? = _
    rw [List.getElem?_set_ne (fun e => h (by rw [e]; exact List.mem_cons_self ..))]
    exact wipe_at σ fun q => h (List.mem_cons_of_mem _ q)
/-- a comprehension whose elements draw; J: what is made so far, the bound -/
theorem eg_lc {wi : TI} {tg : TG} {vs : List Nat} {es : List PyData} (h : Iter K wi ρ es) (hz : es.length ≤ 1000000) (hi : i ∉ vs) (J : Nat → List PyData → Nat → Prop) (h0 : J 0 [] c)
    (hs : ∀ k e out c1, es[k]? = some e → J k out c1 → ∃ ρ1, TgW K tg vs e ρ ρ1 ∧ Eg K i te ρ1 c1 fun d c2 => J (k + 1) (out ++ [d]) c2)
    (hd : ∀ out c', J es.length out c' → out.length = es.length → P (.list out) c') : Eg K i (tLc wi tg tYes te vs) ρ c P := fun g σ B H e s n Q q =>
  h σ B H e.env s _ fun It0 B1 H1 k1 w => fun Dl hD => by
    have g1 : Gg g B H B1 H1 := .of k1 e.gone n.ne
    have n1 : GenAt H1 g c := n.same k1.ex
    have gD : g ≠ Dl := fun x => n1.ne (x ▸ hD)
    refine lc_it w (fun k H' => ∃ B' xs out c', Gg g B1 H1 B' H' ∧ B' Dl = none ∧ H' Dl = some (.lst xs) ∧ DaAll K B' xs out ∧ GenAt H' g c' ∧ J k out c' ∧ out.length = k) ?_ (fun k H' _ ⟨B', _, _, _, g2, _⟩ => g2.bb.trans g2.sub) ?_ ?_
    · have sd := Gr.side g1.sub hD (.lst [])
      exact ⟨B1, [], [], c, .of sd g1.off n1.ne, g1.sub.free hD, upd_same, .nil, n1.same sd.ex, h0, rfl⟩
    · rintro k x H' H2 hk ⟨B', xs, out, c1, g2, hB, hH, ha, n2, hJ, hl⟩ y
      obtain ⟨B2, el, g3, hel, hx⟩ := y B' g2.bb g2.sub
      obtain ⟨ρ1, ht, hv⟩ := hs k el out c1 hel hJ
      have G3 : Gg g B' H' B2 H2 := .of g3 g2.off n2.ne
      have n3 := n2.same g3.ex
      have hB2 : B2 Dl = none := by
        cases z : B2 Dl with
        | none => rfl
        | some o => exact absurd (g3.new Dl o z hB) (by rw [hH]; simp)
      have hH2 : H2 Dl = some (.lst xs) := g3.ex _ _ hH
      have g23 := g2.trans G3
      refine ht σ B2 H2 x (e.env.mono (g1.bb.trans g23.bb)) G3.sub hx _ fun σ2 e3 hwp => ?_
      refine ⟨hwp, ?_⟩
      dsimp only [tYes]
      rw [if_pos rfl]
      have eg : EnvG K B2 σ2 ρ1 g i := ⟨e3, by rw [← wipe_at σ2 hi, hwp, wipe_at σ hi]; exact e.here, G3.off⟩
      refine hv g σ2 B2 H2 eg G3.sub n3 _ fun u B4 H4 d c4 g4 n4 hu hJ4 => ?_
      have hB4 : B4 Dl = none := by
        cases z : B4 Dl with
        | none => rfl
        | some o => exact absurd (g4.new Dl o z hB2) (by rw [hH2]; simp)
      have hH4 : H4 Dl = some (.lst xs) := g4.ex _ _ (Ne.symm gD) hH2
      have gg := g23.trans g4
      have hk' : k < es.length := hk
      refine ⟨xs, hH4, by have := ha.len; rw [sizeLine_eq]; omega, B4, xs ++ [u], out ++ [d], c4, ⟨fun b o nb z => ?_, gg.bb, fun b o z => ?_, gg.new, gg.off⟩, hB4, upd_same, (ha.mono (G3.bb.trans g4.bb)).app (.cons hu .nil), ?_, hJ4, by rw [List.length_append, hl]; rfl⟩
      · rw [upd_ne (ne_of_none z hD)]
        exact gg.ex b o nb z
      · rw [upd_ne (ne_of_none z hB4)]
        exact gg.sub b o z
      · obtain ⟨a, b, m, h1, r⟩ := n4
        exact ⟨a, b, m, by rw [upd_ne gD]; exact h1, r⟩
    · rintro H' ⟨B', xs, out, c', g2, hB, hH, ha, n2, hJ, hl⟩
      refine q _ (upd B' Dl (.lst xs)) H' (.list out) c' (g1.trans ⟨g2.ex, g2.bb.trans (same_new hB), fun b o z => ?_, fun b o z m => ?_, by rw [upd_ne gD]; exact g2.off⟩) n2 (.lst upd_same (ha.mono (same_new hB))) (hd out c' hJ hl)
      · by_cases x : b = Dl
        · subst x
          rw [upd_same] at z
          rw [hH]
          exact z
        · rw [upd_ne x] at z
          exact g2.sub b o z
      · by_cases x : b = Dl
        · subst x
          exact hD
        · rw [upd_ne x] at z
          exact g2.new b o z m
end
/-! statements -/
def Dg (K : PySem.W.Frag) (i : Nat) (ts : TS) (ρ : Rho) (c : Nat) (N : Rho → Nat → Prop) (R : PyData → Nat → Prop) : Prop := ∀ g σ B H (D : Ends), EnvG K B σ ρ g i → Same B H → GenAt H g c →
  (∀ σ' B' H' ρ' c', Gg g B H B' H' → EnvG K B' σ' ρ' g i → GenAt H' g c' → N ρ' c' → D.nx σ' H') → (∀ v B' H' d c', Gg g B H B' H' → GenAt H' g c' → Da K B' v d → R d c' → D.rt v H') → ts D σ H
section
variable {K : PySem.W.Frag} {i : Nat} {ρ : Rho} {c : Nat} {N M : Rho → Nat → Prop} {R : PyData → Nat → Prop} {te : TE} {t u : TS} {tt : TT} {d : PyData} {P : PyData → Nat → Prop}
theorem dg_next (h : N ρ c) : Dg K i tNext ρ c N R := fun g σ B H D e s n nx _ => nx σ B H ρ c (.refl s e.gone) e n h
theorem dg_seq (h : Dg K i t ρ c M R) (k : ∀ ρ' c', M ρ' c' → Dg K i u ρ' c' N R) : Dg K i (tSeq t u) ρ c N R := fun g σ B H D e s n nx r =>
  h g σ B H _ e s n (fun σ' B' H' ρ' c' g1 e' n' m => k ρ' c' m g σ' B' H' D e' g1.sub n' (fun σ2 B2 H2 ρ2 c2 g2 => nx σ2 B2 H2 ρ2 c2 (g1.trans g2)) fun v B2 H2 d c2 g2 => r v B2 H2 d c2 (g1.trans g2)) r
theorem dg_ret (h : Eg K i te ρ c R) : Dg K i (tRet te) ρ c N R := fun g σ B H D e s n _ r => h g σ B H e s n _ fun v B' H' d c' gg n' hv p => r v B' H' d c' gg n' hv p
theorem dg_set {j : Nat} (h : Eg K i te ρ c P) (hj : j ≠ i) (k : ∀ d c', P d c' → N (ρ.set j (some d)) c') : Dg K i (tAsg te (gName j)) ρ c N R := fun g σ B H D e s n nx _ =>
  h g σ B H e s n _ fun v B' H' d c' gg n' hv p => nx _ B' H' _ c' gg ((e.to gg).set hv hj) n' (k d c' p)
theorem dg_par {j l : Nat} {ta : TA} {P : List PyData → Nat → Prop} (h : El K i ta ρ c P) (hj : j ≠ i) (hl : l ≠ i) (k : ∀ ds c', P ds c' → ∃ x y, ds = [x, y] ∧ N ((ρ.set j (some x)).set l (some y)) c') : Dg K i (tPar j l ta) ρ c N R := fun g σ B H D e s n nx _ =>
  h g σ B H e s n _ fun vs B' H' ds c' gg n' hv p => by
    obtain ⟨x, y, rfl, hn⟩ := k ds c' p
    cases hv with
    | cons h1 r =>
      cases r with
      | cons h2 r =>
        cases r
        exact ⟨_, _, rfl, nx _ B' H' _ c' gg (((e.to gg).set h1 hj).set h2 hl) n' hn⟩
theorem dg_if {b : Bool} (h : EvB K tt ρ b) (h1 : b = true → Dg K i t ρ c N R) (h2 : b = false → Dg K i u ρ c N R) : Dg K i (tIfS tt t u) ρ c N R := fun g σ B H D e s n nx r =>
  h σ B H e.env s _ fun B1 H1 k => by
    have g1 : Gg g B H B1 H1 := .of k e.gone n.ne
    have n1 := n.same k.ex
    cases b with
    | true => exact iteT (h1 rfl g σ B1 H1 D (e.to g1) g1.sub n1 (fun σ2 B2 H2 ρ2 c2 g2 => nx σ2 B2 H2 ρ2 c2 (g1.trans g2)) fun v B2 H2 d c2 g2 => r v B2 H2 d c2 (g1.trans g2))
    | false => exact iteF (h2 rfl g σ B1 H1 D (e.to g1) g1.sub n1 (fun σ2 B2 H2 ρ2 c2 g2 => nx σ2 B2 H2 ρ2 c2 (g1.trans g2)) fun v B2 H2 d c2 g2 => r v B2 H2 d c2 (g1.trans g2))
/-- for: what is walked does not draw -/
theorem dg_for {wi : TI} {j : Nat} {es : List PyData} (h : Iter K wi ρ es) (hj : j ≠ i) (I : Nat → Rho → Nat → Prop) (h0 : I 0 ρ c)
    (hs : ∀ k e ρ' c', es[k]? = some e → I k ρ' c' → Dg K i t (ρ'.set j (some e)) c' (I (k + 1)) R) (hd : ∀ ρ' c', I es.length ρ' c' → N ρ' c') : Dg K i (tFor wi (gName j) t) ρ c N R := fun g σ B H D e s n nx r =>
  h σ B H e.env s _ fun J B1 H1 k1 w => by
    have g1 : Gg g B H B1 H1 := .of k1 e.gone n.ne
    refine for_it w (fun k σ' H' => ∃ B' ρ' c', Gg g B1 H1 B' H' ∧ EnvG K B' σ' ρ' g i ∧ GenAt H' g c' ∧ I k ρ' c') ⟨B1, ρ, c, .refl g1.sub g1.off, e.to g1, n.same k1.ex, h0⟩ (fun k σ' H' _ ⟨B', _, _, g2, _⟩ => g2.bb.trans g2.sub) ?_ ?_
    · rintro k x σ' H' H2 hi ⟨B', ρ', c', g2, e2, n2, p⟩ y
      obtain ⟨B2, el, g3, hel, hx⟩ := y B' g2.bb g2.sub
      have G3 : Gg g B' H' B2 H2 := .of g3 e2.gone n2.ne
      have g23 := g2.trans G3
      exact hs k el ρ' c' hel p g _ B2 H2 _ ((e2.to G3).set hx hj) G3.sub (n2.same g3.ex) (fun σ4 B4 H4 ρ4 c4 g4 e4 n4 p4 => ⟨B4, ρ4, c4, g23.trans g4, e4, n4, p4⟩) fun v B4 H4 d c4 g4 n4 hv hr => r v B4 H4 d c4 (g1.trans (g23.trans g4)) n4 hv hr
    · rintro σ' H' ⟨B', ρ', c', g2, e2, n2, p⟩
      exact nx σ' B' H' ρ' c' (g1.trans g2) e2 n2 (hd ρ' c' p)
end
/-! a def whose first argument is drawn from -/
section
variable {P : Program} {w : World} {K : PySem.W.Frag} {mg : Str → Option Value} {base : Heap}
theorem has_g {x : Str} {st : Stmt} {N ps : List Str} {k m : Nat} {p : List PyData → Nat → (PyData → Nat → Prop) → Prop} (h : Has K mg x st ps) (S : FnScope N ps (defScope st)) (hm : ps.length = m + 1)
    (ar : ∀ ds c R, p ds c R → ds.length = m)
    (hb : ∀ (f : Addr) (cdv : Value) (A : Around) (outer : List Env) (s : Shared) (H : Hp) (E : XK), A.guards = some [] → Room k (A.deeper (envOfC x (defScope st) s.heap.objs.size f cdv)) →
      ∃ t, PSs (bodyCx CX0 P w K mg base N x st f cdv A outer s H E).nox (defBody st) t ∧ ∀ ds c R, p ds c R → Dg K 0 t (none :: startR N.tail ds) c (fun _ c' => R .none c') R) (hN : N ≠ []) : Cal P w K mg base (k + 1) x ps (spG K p) := by
  obtain ⟨f, fd, F, hmg, bd⟩ := h
  refine ⟨f, fd, hmg, kq_of F, bd, fn_g0 F S (fun vs H Q E h => ?_) fun cdv A outer s H vs Q E hg hr h => ?_⟩
  · obtain ⟨g, us, B, ds, c, R, rfl, _, _, _, a, hp, _⟩ := h
    rw [hm, List.length_cons, a.len, ar ds c R hp]
  · obtain ⟨g, us, B, ds, c, R, rfl, hs, hgn, n, a, hp, q⟩ := h
    obtain ⟨t, ht, hd⟩ := hb f cdv A outer s H E hg hr
    obtain ⟨x0, N', rfl⟩ : ∃ x N', N = x :: N' := by
      cases N with
      | nil => exact absurd rfl hN
      | cons x N' => exact ⟨x, N', rfl⟩
    have e0 := env_start (N := N') a
    have st0 : L2.start (x0 :: N') (.ref g :: us) = some (.ref g) :: L2.start N' us := by
      unfold L2.start
      simp
    refine ⟨t, ht, ?_⟩
    rw [st0]
    refine hd ds c R hp g _ B H _ ⟨⟨by simp [e0.len], fun j d hj => ?_⟩, rfl, hgn⟩ hs n (fun σ' B' H' ρ' c' gg e n' r => q .non B' H' .none c' gg n' .non r) fun v B' H' d c' gg n' hv r => q v B' H' d c' gg n' hv r
    cases j with
    | zero => simp at hj
    | succ j => exact e0.look j d (by simpa using hj)
end
end G
end
section
/-! sums and differences of members, figure by figure, the lowest order first -/
namespace Lin
def linR : List Int → List Int → List Int → Int
  | [], _, _ => 0
  | o :: r, ps, ns => (ps.sum - ns.sum) % o + o * linR r (ps.map (· / o)) (ns.map (· / o))
def prodR : List Int → Int
  | [] => 1
  | o :: r => o * prodR r
def Pos (r : List Int) : Prop := ∀ o ∈ r, 2 ≤ o
theorem Pos.tail {o : Int} {r : List Int} (h : Pos (o :: r)) : Pos r := fun x hx => h x (List.mem_cons_of_mem _ hx)
theorem Pos.head {o : Int} {r : List Int} (h : Pos (o :: r)) : 2 ≤ o := h o (List.mem_cons_self ..)
theorem prodR_pos : ∀ {r : List Int}, Pos r → 1 ≤ prodR r
  | [], _ => Int.le_refl 1
  | o :: r, h => by
    have a := prodR_pos h.tail
    have b := h.head
    have := Int.mul_le_mul (a := 1) (b := 1) (c := o) (d := prodR r) (by omega) a (by omega) (by omega)
    show 1 ≤ o * prodR r
    omega
theorem lin_rng : ∀ {r : List Int}, Pos r → ∀ ps ns, 0 ≤ linR r ps ns ∧ linR r ps ns < prodR r
  | [], _, ps, ns => by simp [linR, prodR]
  | o :: r, h, ps, ns => by
    have ih := lin_rng h.tail (ps.map (· / o)) (ns.map (· / o))
    have b := h.head
    have m0 := Int.emod_nonneg (ps.sum - ns.sum) (show o ≠ 0 by omega)
    have m1 := Int.emod_lt_of_pos (ps.sum - ns.sum) (show 0 < o by omega)
    show 0 ≤ _ + o * linR r _ _ ∧ _ + o * linR r _ _ < o * prodR r
    generalize linR r (ps.map (· / o)) (ns.map (· / o)) = x at *
    generalize prodR r = p at *
    generalize (ps.sum - ns.sum) % o = m at *
    have h1 : 0 ≤ o * x := Int.mul_nonneg (by omega) ih.1
    have h2 : o * (x + 1) ≤ o * p := Int.mul_le_mul_of_nonneg_left (by omega) (by omega)
    rw [Int.mul_add, Int.mul_one] at h2
    omega
theorem low_of {o m x : Int} (h : 0 < o) (h0 : 0 ≤ m) (h1 : m < o) : (m + o * x) % o = m ∧ (m + o * x) / o = x := by
  constructor
  · rw [Int.add_mul_emod_self_left]
    exact Int.emod_eq_of_lt h0 h1
  · rw [Int.add_mul_ediv_left _ _ (by omega), Int.ediv_eq_zero_of_lt h0 h1, Int.zero_add]
theorem lin_low {o : Int} {r : List Int} (h : 2 ≤ o) (ps ns : List Int) : linR (o :: r) ps ns % o = (ps.sum - ns.sum) % o ∧ linR (o :: r) ps ns / o = linR r (ps.map (· / o)) (ns.map (· / o)) :=
  low_of (by omega) (Int.emod_nonneg _ (by omega)) (Int.emod_lt_of_pos _ (by omega))
/-- what is added by way of a sum that was reckoned before -/
theorem lin_in : ∀ {r : List Int}, Pos r → ∀ ps ns us vs, linR r (linR r us vs :: ps) ns = linR r (us ++ ps) (vs ++ ns)
  | [], _, _, _, _, _ => rfl
  | o :: r, h, ps, ns, us, vs => by
    have l := lin_low (r := r) h.head us vs
    have ih := lin_in h.tail (ps.map (· / o)) (ns.map (· / o)) (us.map (· / o)) (vs.map (· / o))
    have e1 : linR (o :: r) (linR (o :: r) us vs :: ps) ns = ((linR (o :: r) us vs :: ps).sum - ns.sum) % o + o * linR r ((linR (o :: r) us vs :: ps).map (· / o)) (ns.map (· / o)) := rfl
    have e2 : linR (o :: r) (us ++ ps) (vs ++ ns) = ((us ++ ps).sum - (vs ++ ns).sum) % o + o * linR r ((us ++ ps).map (· / o)) ((vs ++ ns).map (· / o)) := rfl
    rw [e1, e2, List.map_cons, l.2, ih, List.map_append, List.map_append, List.sum_cons, List.sum_append, List.sum_append]
    have e3 : (linR (o :: r) us vs + ps.sum - ns.sum) % o = (us.sum + ps.sum - (vs.sum + ns.sum)) % o := by
      have a1 : linR (o :: r) us vs + ps.sum - ns.sum = linR (o :: r) us vs + (ps.sum - ns.sum) := by omega
      have a2 : us.sum + ps.sum - (vs.sum + ns.sum) = (us.sum - vs.sum) + (ps.sum - ns.sum) := by omega
      rw [a1, a2, Int.add_emod, l.1, ← Int.add_emod]
    rw [e3]
theorem lin_out : ∀ {r : List Int}, Pos r → ∀ ps ns us vs, linR r ps (linR r us vs :: ns) = linR r (vs ++ ps) (us ++ ns)
  | [], _, _, _, _, _ => rfl
  | o :: r, h, ps, ns, us, vs => by
    have l := lin_low (r := r) h.head us vs
    have ih := lin_out h.tail (ps.map (· / o)) (ns.map (· / o)) (us.map (· / o)) (vs.map (· / o))
    have e1 : linR (o :: r) ps (linR (o :: r) us vs :: ns) = (ps.sum - (linR (o :: r) us vs :: ns).sum) % o + o * linR r (ps.map (· / o)) ((linR (o :: r) us vs :: ns).map (· / o)) := rfl
    have e2 : linR (o :: r) (vs ++ ps) (us ++ ns) = ((vs ++ ps).sum - (us ++ ns).sum) % o + o * linR r ((vs ++ ps).map (· / o)) ((us ++ ns).map (· / o)) := rfl
    rw [e1, e2, List.map_cons, l.2, ih, List.map_append, List.map_append, List.sum_cons, List.sum_append, List.sum_append]
    have e3 : (ps.sum - (linR (o :: r) us vs + ns.sum)) % o = (vs.sum + ps.sum - (us.sum + ns.sum)) % o := by
      have a1 : ps.sum - (linR (o :: r) us vs + ns.sum) = (ps.sum - ns.sum) - linR (o :: r) us vs := by omega
      have a2 : vs.sum + ps.sum - (us.sum + ns.sum) = (ps.sum - ns.sum) - (us.sum - vs.sum) := by omega
      rw [a1, a2, Int.sub_emod, l.1, ← Int.sub_emod]
    rw [e3]
theorem lin_cancel : ∀ {r : List Int} (x : Int) (ps ns : List Int), linR r (x :: ps) (x :: ns) = linR r ps ns
  | [], _, _, _ => rfl
  | o :: r, x, ps, ns => by
    show ((x :: ps).sum - (x :: ns).sum) % o + o * linR r ((x / o) :: ps.map (· / o)) ((x / o) :: ns.map (· / o)) = _
    rw [lin_cancel (x / o), List.sum_cons, List.sum_cons, show x + ps.sum - (x + ns.sum) = ps.sum - ns.sum by omega]
    rfl
theorem sum_perm {ps qs : List Int} (h : ps.Perm qs) : ps.sum = qs.sum := by
  induction h with
  | nil => rfl
  | cons x _ ih => rw [List.sum_cons, List.sum_cons, ih]
  | swap x y l => simp only [List.sum_cons]; omega
  | trans _ _ a b => rw [a, b]
theorem lin_perm : ∀ {r : List Int} {ps qs ns ms : List Int}, ps.Perm qs → ns.Perm ms → linR r ps ns = linR r qs ms
  | [], _, _, _, _, _, _ => rfl
  | o :: r, ps, qs, ns, ms, h, k => by
    show (ps.sum - ns.sum) % o + o * linR r (ps.map (· / o)) (ns.map (· / o)) = (qs.sum - ms.sum) % o + o * linR r (qs.map (· / o)) (ms.map (· / o))
    rw [sum_perm h, sum_perm k, lin_perm (h.map (· / o)) (k.map (· / o))]
theorem lin_nil : ∀ (r : List Int), linR r [] [] = 0
  | [] => rfl
  | o :: r => by
    show ((0 : Int) - 0) % o + o * linR r [] [] = 0
    rw [lin_nil r]
    simp
theorem lin_one : ∀ {r : List Int}, Pos r → ∀ {x : Int}, 0 ≤ x → x < prodR r → linR r [x] [] = x
  | [], _, x, h0, h1 => by
    have : prodR [] = 1 := rfl
    show (0 : Int) = x
    omega
  | o :: r, h, x, h0, h1 => by
    have b := h.head
    have q : x < o * prodR r := h1
    have ih := lin_one h.tail (x := x / o) (Int.ediv_nonneg h0 (by omega)) (Int.ediv_lt_of_lt_mul (by omega) (by rw [Int.mul_comm]; exact q))
    show ([x].sum - ([] : List Int).sum) % o + o * linR r [x / o] [] = x
    rw [ih]
    have : [x].sum - ([] : List Int).sum = x := by simp
    rw [this]
    exact Int.emod_add_mul_ediv x o
theorem lin_all : ∀ {r : List Int} (xs : List Int), linR r xs xs = 0
  | r, [] => lin_nil r
  | r, x :: xs => by rw [lin_cancel, lin_all xs]
/-- a member that is to be added so that nought comes -/
theorem lin_zero {r : List Int} (h : Pos r) {x t : Int} (h0 : 0 ≤ x) (h1 : x < prodR r) (rest : List Int) : linR r (x :: rest) [t] = 0 ↔ x = linR r [t] rest := by
  constructor
  · intro e
    have a : linR r (linR r (x :: rest) [t] :: [t]) rest = linR r ((x :: rest) ++ [t]) ([t] ++ rest) := lin_in h [t] rest (x :: rest) [t]
    rw [e] at a
    have b : linR r ((0 : Int) :: [t]) rest = linR r [t] rest := by
      have z := lin_in h [t] rest [] []
      rw [lin_nil] at z
      exact z
    rw [b] at a
    have c : linR r ((x :: rest) ++ [t]) ([t] ++ rest) = linR r [x] [] := by
      have p1 : ((x :: rest) ++ [t]).Perm ((t :: rest) ++ [x]) := by
        have q1 : ((x :: rest) ++ [t]).Perm (t :: (x :: rest)) := List.perm_append_comm
        exact q1.trans ((List.Perm.swap x t rest).trans ((List.perm_append_comm (l₁ := t :: rest) (l₂ := [x])).symm))
      rw [lin_perm p1 (List.Perm.refl _)]
      have go : ∀ zs : List Int, linR r (zs ++ [x]) zs = linR r [x] [] := fun zs => by
        induction zs with
        | nil => rfl
        | cons z zs ih => rw [List.cons_append, lin_cancel, ih]
      exact go (t :: rest)
    rw [c, lin_one h h0 h1] at a
    exact a.symm
  · intro e
    rw [e, lin_in h rest [t] [t] rest]
    have p : ([t] ++ rest).Perm (rest ++ [t]) := List.perm_append_comm
    rw [lin_perm p (List.Perm.refl _)]
    exact lin_all _
end Lin
end
section
set_option maxRecDepth 100000
set_option maxHeartbeats 2000000
/-! plain data: ints, truths, None, lists and tuples of them -/
namespace G
open PySem PySem.Spec PyProof.Rows L2
mutual
def pl : PyData → Bool
  | .none => true
  | .bool _ => true
  | .int i => decide (i.natAbs < 10 ^ 12)
  | .list xs => plAll xs
  | .tuple xs => plAll xs
  | .str _ => false
  | .dict _ => false
def plAll : List PyData → Bool
  | [] => true
  | x :: xs => pl x && plAll xs
end
mutual
theorem pl_facts : ∀ d : PyData, pl d = true → d.canLay0 = true ∧ d.leavesShort 13 = true ∧ d.showable = true ∧ PyData.eqv d d = true
  | .none, _ => ⟨rfl, rfl, rfl, rfl⟩
  | .bool b, _ => ⟨rfl, rfl, rfl, by simp [PyData.eqv]⟩
  | .int i, h => by
    have h' : i.natAbs < 10 ^ 12 := by simpa [pl] using h
    refine ⟨rfl, ?_, ?_, by simp [PyData.eqv]⟩
    · rw [PyData.leavesShort]
      exact decide_eq_true (PyData.shown_int_le h')
    · rw [PyData.showable]
      refine decide_eq_true ?_
      by_cases z : i.natAbs = 0
      · rw [z]; decide
      · exact Nat.lt_of_lt_of_le ((Nat.log2_lt (k := 40) z).mpr (by omega)) (by decide)
  | .list xs, h => by
    obtain ⟨a, b, c, d⟩ := pl_factsAll xs (by simpa [pl] using h)
    exact ⟨by rw [PyData.canLay0]; exact a, by rw [PyData.leavesShort]; exact b, by rw [PyData.showable]; exact c, by rw [PyData.eqv]; exact d⟩
  | .tuple xs, h => by
    obtain ⟨a, b, c, d⟩ := pl_factsAll xs (by simpa [pl] using h)
    exact ⟨by rw [PyData.canLay0]; exact a, by rw [PyData.leavesShort]; exact b, by rw [PyData.showable]; exact c, by rw [PyData.eqv]; exact d⟩
  | .str _, h => by simp [pl] at h
  | .dict _, h => by simp [pl] at h
theorem pl_factsAll : ∀ ds : List PyData, plAll ds = true → PyData.canLayAll0 ds = true ∧ PyData.leavesShortAll 13 ds = true ∧ PyData.showableAll ds = true ∧ PyData.eqvAll ds ds = true
  | [], _ => ⟨by simp [PyData.canLayAll0], by simp [PyData.leavesShortAll], by simp [PyData.showableAll], by simp [PyData.eqvAll]⟩
  | x :: xs, h => by
    have h' : pl x = true ∧ plAll xs = true := by simpa [plAll] using h
    obtain ⟨a1, b1, c1, d1⟩ := pl_facts x h'.1
    obtain ⟨a2, b2, c2, d2⟩ := pl_factsAll xs h'.2
    exact ⟨by rw [PyData.canLayAll0, a1, a2]; rfl, by rw [PyData.leavesShortAll, b1, b2]; rfl, by rw [PyData.showableAll, c1, c2]; rfl, by rw [PyData.eqvAll, d1, d2]; rfl⟩
end
theorem plAll_iff : ∀ {ds : List PyData}, (∀ d ∈ ds, pl d = true) → plAll ds = true
  | [], _ => by simp [plAll]
  | d :: ds, h => by
    rw [plAll, h d (List.mem_cons_self ..), plAll_iff fun x hx => h x (List.mem_cons_of_mem _ hx)]
    rfl
theorem pl_int {i : Int} (h : i.natAbs < 10 ^ 12) : pl (.int i) = true := by rw [pl]; exact decide_eq_true h
theorem pl_list {ds : List PyData} (h : ∀ d ∈ ds, pl d = true) : pl (.list ds) = true := by rw [pl]; exact plAll_iff h
theorem pl_tuple {ds : List PyData} (h : ∀ d ∈ ds, pl d = true) : pl (.tuple ds) = true := by rw [pl]; exact plAll_iff h
theorem pl_ints {ns : List Int} (h : ∀ n ∈ ns, n.natAbs < 10 ^ 12) : ∀ d ∈ ns.map PyData.int, pl d = true := fun d hd => by
  obtain ⟨n, hn, rfl⟩ := List.mem_map.mp hd
  exact pl_int (h n hn)
/-- depth and bulk, bounded over all items -/
theorem depth_all {ds : List PyData} {k : Nat} (h : ∀ d ∈ ds, d.depth ≤ k) : PyData.depthAll ds ≤ k := by
  induction ds with
  | nil => rw [PyData.depthAll]; omega
  | cons d ds ih =>
    rw [PyData.depthAll]
    have a := h d (List.mem_cons_self ..)
    have b := ih fun x hx => h x (List.mem_cons_of_mem _ hx)
    omega
theorem depth_list {ds : List PyData} {k : Nat} (h : ∀ d ∈ ds, d.depth ≤ k) : (PyData.list ds).depth ≤ k + 1 := by
  rw [PyData.depth]
  have := depth_all h
  omega
theorem depth_tuple {ds : List PyData} {k : Nat} (h : ∀ d ∈ ds, d.depth ≤ k) : (PyData.tuple ds).depth ≤ k + 1 := by
  rw [PyData.depth]
  have := depth_all h
  omega
theorem depth_int (i : Int) : (PyData.int i).depth = 0 := by rw [PyData.depth]
theorem depth_ints (ns : List Int) : ∀ d ∈ ns.map PyData.int, d.depth ≤ 0 := fun d hd => by
  obtain ⟨n, _, rfl⟩ := List.mem_map.mp hd
  rw [depth_int]
  exact Nat.le_refl 0
theorem bulk_all {ds : List PyData} {k : Nat} (h : ∀ d ∈ ds, d.bulk ≤ k) : PyData.bulkAll ds ≤ ds.length * (k + 1) := by
  induction ds with
  | nil => rw [PyData.bulkAll]; omega
  | cons d ds ih =>
    rw [PyData.bulkAll]
    have a := h d (List.mem_cons_self ..)
    have b := ih fun x hx => h x (List.mem_cons_of_mem _ hx)
    rw [List.length_cons, Nat.add_mul]
    omega
theorem bulk_int (i : Int) : (PyData.int i).bulk = 0 := by rw [PyData.bulk] <;> simp
theorem bulk_ints (ns : List Int) : ∀ d ∈ ns.map PyData.int, d.bulk ≤ 0 := fun d hd => by
  obtain ⟨n, _, rfl⟩ := List.mem_map.mp hd
  rw [bulk_int]
  exact Nat.le_refl 0
theorem bulk_list {ds : List PyData} {k : Nat} (h : ∀ d ∈ ds, d.bulk ≤ k) : (PyData.list ds).bulk ≤ ds.length * (k + 1) := by
  rw [PyData.bulk]
  exact bulk_all h
theorem bulk_tuple {ds : List PyData} {k : Nat} (h : ∀ d ∈ ds, d.bulk ≤ k) : (PyData.tuple ds).bulk ≤ ds.length * (k + 1) := by
  rw [PyData.bulk]
  exact bulk_all h
/-- what is plain and of bounded depth and bulk -/
structure Pl (d : PyData) : Prop where
  p : pl d = true
  dep : d.depth ≤ 64
  blk : d.bulk ≤ 1000000
theorem Pl.shaped {d : PyData} (h : Pl d) : SeqAt.shaped d = true := by
  unfold SeqAt.shaped
  rw [(pl_facts d h.p).1, decide_eq_true h.dep]
  rfl
theorem Pl.refl {d : PyData} (h : Pl d) : PyData.eqv d d = true := (pl_facts d h.p).2.2.2
theorem Pl.len {d : PyData} (h : Pl d) : d.shown.length ≤ sizeLine := by
  have q := PyData.shown_le_bulk 13 (by decide) d (pl_facts d h.p).2.1
  have := h.blk
  rw [sizeLine_eq]
  omega
theorem Pl.repr {K : PySem.W.Frag} {d : PyData} (h : Pl d) : Fn K (rRepr K) [d] (.str d.shown) :=
  fn_repr (pl_facts d h.p).2.2.1 (PyData.hasDict_of_canLay d (pl_facts d h.p).1) (by have := h.dep; omega) h.len
theorem Pl.int {i : Int} (h : i.natAbs < 10 ^ 12) : Pl (.int i) := ⟨pl_int h, by rw [depth_int]; omega, by rw [bulk_int]; omega⟩
theorem Pl.ints {ns : List Int} (h : ∀ n ∈ ns, n.natAbs < 10 ^ 12) (hl : ns.length ≤ 100000) : Pl (.list (ns.map .int)) :=
  ⟨pl_list (pl_ints h), by have := depth_list (depth_ints ns); omega, by have := bulk_list (bulk_ints ns); rw [List.length_map] at this; omega⟩
/-! repr(a) != repr(b), a == b -/
section
variable {X : Cx} (K : PySem.W.Frag)
abbrev rNeR (K : PySem.W.Frag) : R2 := orR (rNeD K) rNe
abbrev rEqR (K : PySem.W.Frag) : R2 := orR (rEqD K) rEq
theorem neRK {k : Nat} (hr : Room k X.A) (h : X.K = K := by rfl) : OpR X (compareOp .NotEq) (rNeR K) := opr_or (neK K hr h) op_ne
theorem eqRK {k : Nat} (hr : Room k X.A) (h : X.K = K := by rfl) : OpR X (compareOp .Eq) (rEqR K) := opr_or (eqK K hr h) op_eq
end
theorem ne_self {K : PySem.W.Frag} {d : PyData} (h : Pl d) : Op2 K (rNeD K) d d (.bool false) := opp_neD h.shaped h.shaped (by rw [h.refl]; rfl)
theorem eq_self {K : PySem.W.Frag} {d : PyData} (h : Pl d) : Op2 K (rEqD K) d d (.bool true) := opp_eqD h.shaped h.shaped (by rw [h.refl])
theorem neS_self {K : PySem.W.Frag} {c : Str} : Op2 K (rNeR K) (.str c) (.str c) (.bool false) := opp_2 (opp_neS (by simp))
theorem eqS_self {K : PySem.W.Frag} {c : Str} : Op2 K (rEqR K) (.str c) (.str c) (.bool true) := opp_2 (opp_eqS (by simp))
end G
end
section
set_option maxRecDepth 100000
set_option maxHeartbeats 2000000
/-! a list of ints that is new: it may be changed afterwards; more of what draws -/
namespace G
open PySem PySem.Spec PyProof.Rows L2
theorem daIn {K : PySem.W.Frag} {B : Hp} : ∀ ns : List Int, DaAll K B (ns.map .int) (ns.map .int)
  | [] => .nil
  | n :: ns => .cons (.int n) (daIn ns)
def FreshQ (B H : Hp) (ns : List Int) (Q : VK) : Prop := ∀ (a : Addr) (B' H' : Hp), Gr B H B' H' → B' a = none → H a = none → H' a = some (.lst (ns.map .int)) → Q (.ref a) H'
def EvF (K : PySem.W.Frag) (te : TE) (ρ : Rho) (ns : List Int) : Prop := ∀ σ B H, EnvOk K B σ ρ → Same B H → ∀ Q : VK, FreshQ B H ns Q → te σ H Q
def DoF (K : PySem.W.Frag) (ts : TS) (ρ : Rho) (ns : List Int) : Prop := ∀ σ B H (D : Ends), EnvOk K B σ ρ → Same B H → FreshQ B H ns D.rt → ts D σ H
def spFr (K : PySem.W.Frag) (P : List PyData → PyData → Prop) : Sp := fun vs H Q _ => ∃ B ds ns, Same B H ∧ DaAll K B vs ds ∧ P ds (.list (ns.map .int)) ∧ FreshQ B H ns Q
section
variable {K : PySem.W.Frag} {ρ : Rho} {te ta tb : TE} {t : TS} {tr : TA} {d : PyData} {ns xs ys : List Int} {B H B1 H1 : Hp} {Q : VK}
theorem FreshQ.after (h : FreshQ B H ns Q) (g : Gr B H B1 H1) : FreshQ B1 H1 ns Q := fun a B' H' g' hb ha hl => h a B' H' (g.trans g') hb (g.ex.free ha) hl
theorem evf_cat (ha : Ev K ta ρ (.list (xs.map .int))) (hb : Ev K tb ρ (.list (ys.map .int))) (hl : xs.length + ys.length ≤ sizeLine) : EvF K (tOp (rAddA K) ta tb) ρ (xs ++ ys) := fun σ B H e s Q q =>
  ha σ B H e s _ fun u B1 H1 g1 hu => hb σ B1 H1 (e.mono g1.bb) g1.sub _ fun v B2 H2 g2 hv => by
    have hu2 := hu.mono g2.bb
    cases hu2 with
    | @lst a us _ h1 a1 =>
      cases hv with
      | @lst b vs _ h2 a2 =>
        obtain rfl := daInts a1
        obtain rfl := daInts a2
        refine .inr (.inl ⟨_, _, _, _, rfl, rfl, g2.sub _ _ h1, g2.sub _ _ h2, by rw [List.length_map, List.length_map]; exact hl, fun p hp => ?_⟩)
        have g12 := g1.trans g2
        refine q p B2 _ (g12.trans (Gr.side g2.sub hp _)) (g2.sub.free hp) (g12.ex.free hp) ?_
        rw [upd_same, List.map_append]
theorem evf_call {P : List PyData → PyData → Prop} {E : XK} {ds : List PyData} (h : EvL K tr ρ ds) (hp : P ds (.list (ns.map .int))) : EvF K (tCall (spFr K P) [] E tr) ρ ns := fun σ B H e s Q q =>
  h σ B H e s _ fun vs B1 H1 g1 hv => ⟨B1, ds, ns, g1.sub, by rw [List.append_nil]; exact hv, hp, q.after g1⟩
theorem EvF.ev (h : EvF K te ρ ns) : Ev K te ρ (.list (ns.map .int)) := fun σ B H e s Q q => h σ B H e s Q fun a B' H' g hb ha hl => by
  have g2 : Gr B H (upd B' a (.lst (ns.map .int))) H' := by
    refine ⟨g.ex, g.bb.trans (same_new hb), fun b o z => ?_, fun b o z n => ?_⟩
    · by_cases c : b = a
      · subst c
        rw [upd_same] at z
        rw [hl]
        exact z
      · rw [upd_ne c] at z
        exact g.sub b o z
    · by_cases c : b = a
      · subst c
        exact ha
      · rw [upd_ne c] at z
        exact g.new b o z n
  exact q _ _ _ g2 (.lst upd_same (daIn ns))
theorem evf_callK {P : List PyData → PyData → Prop} {E : XK} {gV : List V → List V → List V} {ds zs : List PyData} (h : EvL K tr ρ zs) (hp : P ds (.list (ns.map .int))) (hg : ∀ B ws, DaAll K B ws zs → DaAll K B (gV [] ws) ds) : EvF K (tCallK (spFr K P) gV E tNil tr) ρ ns := fun σ B H e s Q q =>
  h σ B H e s _ fun vs B1 H1 g1 hv => ⟨B1, ds, ns, g1.sub, hg B1 vs hv, hp, q.after g1⟩
theorem dof_ret (h : EvF K te ρ ns) : DoF K (tRet te) ρ ns := fun σ B H D e s q => h σ B H e s _ q
theorem dof_set {i : Nat} (h : Ev K te ρ d) (k : DoF K t (ρ.set i (some d)) ns) : DoF K (tSeq (tAsg te (gName i)) t) ρ ns := fun σ B H D e s q =>
  h σ B H e s _ fun v B1 H1 g1 hv => k _ B1 H1 D ((e.mono g1.bb).set hv i) g1.sub (q.after g1)
theorem dof_drop (h : Ev K te ρ d) (k : DoF K t ρ ns) : DoF K (tSeq (tDrop te) t) ρ ns := fun σ B H D e s q =>
  h σ B H e s _ fun v B1 H1 g1 hv => k _ B1 H1 D (e.mono g1.bb) g1.sub (q.after g1)
end
theorem FnG.imp {P : Program} {w : World} {K : PySem.W.Frag} {mg : Str → Option Value} {base : Heap} {CX : CXT} {k : Nat} {f : Addr} {fd : FuncData} {ps : List Str} {p q : Sp} (F : FnG P w K mg base CX k f fd ps p) (h : ∀ vs H Q E, q vs H Q E → p vs H Q E) : FnG P w K mg base CX k f fd ps q :=
  ⟨fun vs H Q E x => F.ar vs H Q E (h vs H Q E x), fun A outer s H args us vs Q E hg hr e0 bt rv x => F.go A outer s H args us vs Q E hg hr e0 bt rv (h vs H Q E x)⟩
theorem Cal.imp {P : Program} {w : World} {K : PySem.W.Frag} {mg : Str → Option Value} {base : Heap} {k : Nat} {x : Str} {ps : List Str} {p q : Sp} (c : Cal P w K mg base k x ps p) (h : ∀ vs H Q E, q vs H Q E → p vs H Q E) : Cal P w K mg base k x ps q := by
  obtain ⟨f, fd, hm, hk, hb, F⟩ := c.ex
  exact ⟨f, fd, hm, hk, hb, F.imp h⟩
/-- who hands on a new list hands on a list -/
theorem Cal.weak {P : Program} {w : World} {K : PySem.W.Frag} {mg : Str → Option Value} {base : Heap} {k : Nat} {x : Str} {ps : List Str} {p : List PyData → PyData → Prop} (c : Cal P w K mg base k x ps (spFr K p)) (h : ∀ ds d, p ds d → ∃ ns : List Int, d = .list (ns.map .int)) : Cal P w K mg base k x ps (sp K p) :=
  c.imp fun vs H Q E ⟨B, ds, d, hs, a, hp, q⟩ => by
    obtain ⟨ns, rfl⟩ := h ds d hp
    refine ⟨B, ds, ns, hs, a, hp, fun a B' H' g hb ha hl => ?_⟩
    have g2 : Gr B H (upd B' a (.lst (ns.map .int))) H' := by
      refine ⟨g.ex, g.bb.trans (same_new hb), fun b o z => ?_, fun b o z n => ?_⟩
      · by_cases c : b = a
        · subst c
          rw [upd_same] at z
          rw [hl]
          exact z
        · rw [upd_ne c] at z
          exact g.sub b o z
      · by_cases c : b = a
        · subst c
          exact ha
        · rw [upd_ne c] at z
          exact g.new b o z n
    exact q _ _ _ g2 (.lst upd_same (daIn ns))
theorem has_f {P : Program} {w : World} {K : PySem.W.Frag} {mg : Str → Option Value} {base : Heap} {x : Str} {st : Stmt} {N ps : List Str} {k : Nat} {p : List PyData → PyData → Prop} (h : Has K mg x st ps) (S : FnScope N ps (defScope st))
    (ar : ∀ ds d, p ds d → ds.length = ps.length)
    (hb : ∀ (f : Addr) (cdv : Value) (A : Around) (outer : List Env) (s : Shared) (H : Hp) (E : XK), A.guards = some [] → Room k (A.deeper (envOfC x (defScope st) s.heap.objs.size f cdv)) →
      ∃ t, PSs (bodyCx CX0 P w K mg base N x st f cdv A outer s H E).nox (defBody st) t ∧ ∀ ds (ns : List Int), p ds (.list (ns.map .int)) → DoF K t (startR N ds) ns) : Cal P w K mg base (k + 1) x ps (spFr K p) := by
  obtain ⟨f, fd, F, hm, bd⟩ := h
  refine ⟨f, fd, hm, kq_of F, bd, fn_g0 F S (fun vs H Q E h => ?_) fun cdv A outer s H vs Q E hg hr h => ?_⟩
  · obtain ⟨B, ds, ns, _, a, hp, _⟩ := h
    rw [a.len]
    exact ar ds _ hp
  · obtain ⟨B, ds, ns, hs, a, hp, q⟩ := h
    obtain ⟨t, ht, hd⟩ := hb f cdv A outer s H E hg hr
    exact ⟨t, ht, hd ds ns hp _ B H _ (env_start a) hs q⟩
/-! more of what draws -/
theorem EnvOk.forget {K : PySem.W.Frag} {B : Hp} {σ : L2.St} {ρ : Rho} (h : EnvOk K B σ ρ) (v : Option V) (i : Nat) : EnvOk K B (σ.set i v) (ρ.set i none) :=
  ⟨by rw [List.length_set, List.length_set]; exact h.len, fun j e q => by
    by_cases c : i = j
    · subst c
      have l : i < ρ.length := by
        have z := (List.getElem?_eq_some_iff.mp q).1
        rw [List.length_set] at z
        exact z
      rw [List.getElem?_set_self l] at q
      cases q
    · rw [List.getElem?_set_ne c] at q
      obtain ⟨w, h1, h2⟩ := h.look j e q
      exact ⟨w, by rw [List.getElem?_set_ne c]; exact h1, h2⟩⟩
def Egb (K : PySem.W.Frag) (i : Nat) (tt : TT) (ρ : Rho) (c : Nat) (P : Bool → Nat → Prop) : Prop := ∀ g σ B H, EnvG K B σ ρ g i → Same B H → GenAt H g c → ∀ Q : Bool → Hp → Prop,
  (∀ b B' H' c', Gg g B H B' H' → GenAt H' g c' → P b c' → Q b H') → tt σ H Q
section
variable {K : PySem.W.Frag} {i : Nat} {ρ : Rho} {c : Nat} {te ta tb : TE} {tr : TA} {tt : TT} {t u : TS} {d : PyData} {P : PyData → Nat → Prop} {N : Rho → Nat → Prop} {R : PyData → Nat → Prop}
theorem el_pure {ds : List PyData} {P : List PyData → Nat → Prop} (h : EvL K tr ρ ds) (p : P ds c) : El K i tr ρ c P := fun g σ B H e s n Q q =>
  h σ B H e.env s Q fun vs B' H' k hv => q vs B' H' ds c (.of k e.gone n.ne) (n.same k.ex) hv p
theorem eg_callE {F : List PyData → Nat → (PyData → Nat → Prop) → Prop} {E : XK} {P1 : List PyData → Nat → Prop} {R : PyData → Nat → Prop} (h : El K i tr ρ c P1) (hf : ∀ ds c1, P1 ds c1 → F ds c1 R) (hp : ∀ d c', R d c' → P d c') : Eg K i (tCall (spG K F) [] E (tCons (tVar i) tr)) ρ c P := fun g σ B H e s n Q q =>
  ⟨.ref g, e.here, h g σ B H e s n _ fun vs B1 H1 ds c1 g1 n1 hv p1 =>
    ⟨g, vs, B1, ds, c1, R, by rw [List.append_nil], g1.sub, g1.off, n1, hv, hf ds c1 p1, fun v B2 H2 d c2 g2 n2 h2 r => q v B2 H2 d c2 (g1.trans g2) n2 h2 (hp d c2 r)⟩⟩
theorem egb_B {P : Bool → Nat → Prop} (h : Eg K i te ρ c fun d c' => ∃ b, d = .bool b ∧ P b c') : Egb K i (tB te) ρ c P := fun g σ B H e s n Q q =>
  h g σ B H e s n _ fun v B' H' d c' gg n' hv ⟨b, hd, p⟩ => by
    subst hd
    cases hv
    exact ⟨b, rfl, q b B' H' c' gg n' p⟩
theorem egb_not {P : Bool → Nat → Prop} (h : Egb K i tt ρ c fun b c' => P (!b) c') : Egb K i (tNot tt) ρ c P := fun g σ B H e s n Q q =>
  h g σ B H e s n _ fun b B' H' c' gg n' p => q (!b) B' H' c' gg n' p
/-- for x in xs, xs drawn -/
theorem dg_forL {j : Nat} {tl : TE} (h : Eg K i tl ρ c P) (hj : j ≠ i) (I : List PyData → Nat → Rho → Nat → Prop) (h0 : ∀ d c', P d c' → ∃ es, d = .list es ∧ I es 0 ρ c' ∧
    (∀ k e ρ' c', es[k]? = some e → I es k ρ' c' → Dg K i t (ρ'.set j (some e)) c' (I es (k + 1)) R) ∧ ∀ ρ' c', I es es.length ρ' c' → N ρ' c') : Dg K i (tFor (iList K tl) (gName j) t) ρ c N R := fun g σ B H D e s n nx r =>
  h g σ B H e s n _ fun v B1 H1 d c1 g1 n1 hv p1 => by
    obtain ⟨es, rfl, i0, hs, hd⟩ := h0 d c1 p1
    cases hv with
    | @lst a xs _ h1 ha =>
      refine ⟨_, rfl, ⟨_, .of (g1.sub _ _ h1)⟩, ?_⟩
      have w : Goes K (Itl K a) B1 es := goes_at walk_list (fun H' s' => .of (s' _ _ h1)) ha
      refine for_it w (fun k σ' H' => ∃ B' ρ' c', Gg g B1 H1 B' H' ∧ EnvG K B' σ' ρ' g i ∧ GenAt H' g c' ∧ I es k ρ' c') ⟨B1, ρ, c1, .refl g1.sub g1.off, e.to g1, n1, i0⟩ (fun k σ' H' _ ⟨B', _, _, g2, _⟩ => g2.bb.trans g2.sub) ?_ ?_
      · rintro k x σ' H' H2 hi ⟨B', ρ', c', g2, e2, n2, p⟩ y
        obtain ⟨B2, el, g3, hel, hx⟩ := y B' g2.bb g2.sub
        have G3 : Gg g B' H' B2 H2 := .of g3 e2.gone n2.ne
        have g23 := g2.trans G3
        exact hs k el ρ' c' hel p g _ B2 H2 _ ((e2.to G3).set hx hj) G3.sub (n2.same g3.ex) (fun σ4 B4 H4 ρ4 c4 g4 e4 n4 p4 => ⟨B4, ρ4, c4, g23.trans g4, e4, n4, p4⟩) fun v B4 H4 d c4 g4 n4 hv hr => r v B4 H4 d c4 (g1.trans (g23.trans g4)) n4 hv hr
      · rintro σ' H' ⟨B', ρ', c', g2, e2, n2, p⟩
        exact nx σ' B' H' ρ' c' (g1.trans g2) e2 n2 (hd ρ' c' p)
/-- x = f(..); if ..: return ..; x.append(None) -/
theorem dg_told {j : Nat} {ns : List Int} (h : EvF K te ρ ns) (hj : j ≠ i) (hj2 : j < ρ.length) (hb : EvB K tt (ρ.set j (some (.list (ns.map .int)))) false) (hl : ns.length ≤ 1000000) (k : Dg K i u (ρ.set j none) c N R) :
    Dg K i (tSeq (tAsg te (gName j)) (tSeq (tIfS tt t tNext) (tSeq (tDrop (tBM K "list" rAppend (tVar j) (tCons (tC .non) tNil))) u))) ρ c N R := fun g σ B H D e s n nx r =>
  h σ B H e.env s _ fun a B1 H1 g1 b1 h1 l1 => by
    have ga : a ≠ g := fun x => n.ne (x ▸ h1)
    have G1 : Gg g B H B1 H1 := .of g1 e.gone n.ne
    have s2 : Same (upd B1 a (.lst (ns.map .int))) H1 := fun b o z => by
      by_cases c : b = a
      · subst c
        rw [upd_same] at z
        rw [l1]
        exact z
      · rw [upd_ne c] at z
        exact g1.sub b o z
    have e2 : EnvOk K (upd B1 a (.lst (ns.map .int))) (σ.set j (some (.ref a))) (ρ.set j (some (.list (ns.map .int)))) := ((e.env.mono g1.bb).mono (same_new b1)).set (.lst upd_same (daIn ns)) j
    refine hb _ _ H1 e2 s2 _ fun B3 H3 g3 => iteF ?_
    have l3 : H3 a = some (.lst (ns.map .int)) := g3.ex _ _ l1
    have hj3 : j < σ.length := by rw [e.env.len]; exact hj2
    refine ⟨_, List.getElem?_set_self hj3, .inl ⟨rfl, _, .of l3⟩, a, ns.map .int, .non, rfl, rfl, l3, by rw [List.length_map, sizeLine_eq]; omega, ?_⟩
    have s4 : Same B1 (upd H3 a (.lst (ns.map .int ++ [.non]))) := fun b o z => by
      rw [upd_ne (ne_of_none z b1)]
      exact g3.ex b o (g1.sub b o z)
    have G4 : Gg g B H B1 (upd H3 a (.lst (ns.map .int ++ [.non]))) := ⟨fun b o nb z => by
      rw [upd_ne (ne_of_none z h1)]
      exact g3.ex b o (g1.ex b o z), g1.bb, s4, g1.new, G1.off⟩
    have n4 : GenAt (upd H3 a (.lst (ns.map .int ++ [.non]))) g c := by
      obtain ⟨x, y, z, q1, q2⟩ := (n.same g1.ex).same g3.ex
      exact ⟨x, y, z, by rw [upd_ne (Ne.symm ga)]; exact q1, q2⟩
    have eG : EnvG K B1 (σ.set j (some (.ref a))) (ρ.set j none) g i := ⟨(e.env.mono g1.bb).forget _ j, by rw [List.getElem?_set_ne hj]; exact e.here, G1.off⟩
    exact k g _ B1 _ D eG s4 n4 (fun σ2 B2 H2 ρ2 c2 g2 => nx σ2 B2 H2 ρ2 c2 (G4.trans g2)) fun v B2 H2 d c2 g2 => r v B2 H2 d c2 (G4.trans g2)
end
end G
end
section
set_option maxRecDepth 100000
set_option maxHeartbeats 2000000
namespace G
open PySem PySem.Spec PyProof.Rows L2
theorem walk_gE {l : PySem.W.OpenLaw} {n k : Nat} {q : Program} {loose : List Str} {XP : (Str → Option Value) → Heap → Prop} {YP : World → Heap → Prop} {d : DefRec} {x : Str}
    (hn : l.most = some n) (hn2 : n ≤ sizeLine) (hdf : d.params.defaults = []) (hr : Room k callerA)
    (F : ∀ (w : World) (mg : Str → Option Value) (fa : Addr) (h : Heap), YP w h → h.Ns mainGlobals mg → mg d.name = some (.ref fa) →
      ∃ (K : PySem.W.Frag) (fd : FuncData) (sp : Sp), K.In h ∧ (∀ (s : Shared) (u : Value), BindsTo s fd ⟨[u], []⟩ [(x, u)]) ∧
        (∀ (H : Hp) (a : Addr) (ns : List Int), ns.length ≤ n → Only H → SqL K H a (ns.map V.int) → sp [.ref a] H (fun v _ => v = .bl true) fun _ _ _ => False) ∧
        ∀ base : Heap, K.In base → base.Ns mainGlobals mg → FnG l.prog w K mg base CX0 k fa fd [x] sp) :
    PySem.W.WalkO q loose XP YP l.row.toRowW d [] (fun f vs => PySem.call f vs) := by
  refine Att.attach_call hn hdf fun w s0 s1 mg mb fa o pm cd doc a vs ns G Y ho hd hcd hmg hobj hints hlen hg => ?_
  obtain ⟨K, fd, sp, KX, hb, hsp, hF⟩ := F w mg fa _ Y G.T.g hmg
  exact law_g KX G.T.g G.T.b G.T.builtins G.T.nolimit hg hobj hints (Nat.le_trans hlen hn2) hr hF hb (fun H hO hS => hsp H a ns hlen hO hS) fun _ _ _ z => z
theorem fun_of {K : PySem.W.Frag} {x : Str} {st : Stmt} {f : Addr} {fd : FuncData} (F : FunD K x x (defArgs st) (defBody st) (defScope st) [] [] f fd) : Fun K x x st f fd := by
  obtain ⟨oc, od, dV, kV, doc, pm, an, cdv, ct, osl, e, lk, hcd, hD, _⟩ := F.ex
  rcases hD with ⟨_, rfl⟩ | ⟨z, _⟩
  · exact ⟨⟨oc, od, kV, doc, pm, an, cdv, ct, osl, e, lk, hcd⟩, F.kp⟩
  · exact absurd rfl z
theorem has_of {K : PySem.W.Frag} {mg : Str → Option Value} {x : Str} {st : Stmt} {ps : List Str} {f : Addr} (F : ∃ fd, FunD K x x (defArgs st) (defBody st) (defScope st) [] [] f fd) (hm : mg x = some (.ref f))
    (h : ∀ (kV doc pm : Value) (an : Option Addr) (cdv ct : Value) (us : List Value), us.length = ps.length → bindArgs (PySem.W.fnOf x x (defArgs st) (defBody st) (defScope st) .none kV doc pm an cdv ct) ⟨us, []⟩ = pure (ps.zip us)) : Has K mg x st ps := by
  obtain ⟨fd, F⟩ := F
  exact ⟨f, fd, fun_of F, hm, F.bindsN h⟩
/-- the law's own def -/
theorem law_end {P : Program} {w : World} {K : PySem.W.Frag} {mg : Str → Option Value} {x y : Str} {st : Stmt} {f : Addr} {k : Nat} {q : Sp} (F : ∃ fd, FunD K x x (defArgs st) (defBody st) (defScope st) [] [] f fd) (hm : mg x = some (.ref f))
    (h : ∀ (kV doc pm : Value) (an : Option Addr) (cdv ct : Value) (us : List Value), us.length = [y].length → bindArgs (PySem.W.fnOf x x (defArgs st) (defBody st) (defScope st) .none kV doc pm an cdv ct) ⟨us, []⟩ = pure ([y].zip us))
    (c : ∀ base : Heap, K.In base → base.Ns mainGlobals mg → Cal P w K mg base k x [y] q) :
    ∃ fd : FuncData, (∀ (s : Shared) (v : Value), BindsTo s fd ⟨[v], []⟩ [(y, v)]) ∧ ∀ base : Heap, K.In base → base.Ns mainGlobals mg → FnG P w K mg base CX0 k f fd [y] q := by
  obtain ⟨fd, F⟩ := F
  refine ⟨fd, fun s v => F.bindsA (ps := [y]) h s [v] rfl, fun base hb hn => ?_⟩
  obtain ⟨f2, fd2, hm2, ⟨_, o, lo, od⟩, _, FG⟩ := (c base hb hn).ex
  rw [hm] at hm2
  cases hm2
  obtain ⟨oc, od2, dV, kV, doc, pm, an, cdv, ct, osl, e, lk, _⟩ := F.ex
  rw [lo] at lk
  cases lk
  cases od
  exact FG
end G
end
section
set_option maxRecDepth 100000
set_option maxHeartbeats 2000000
namespace G
open PySem PySem.Spec PyProof.Rows L2
section
variable {P : Program} {w : World} {K : PySem.W.Frag} {mg : Str → Option Value} {base : Heap} {j k : Nat} {x : Str} {ps : List Str} {q : Sp}
/-- what is never called -/
theorem Cal.void {st : Stmt} (h : Has K mg x st ps) : Cal P w K mg base 0 x ps (fun _ _ _ _ => False) := by
  obtain ⟨f, fd, F, hm, bd⟩ := h
  exact ⟨f, fd, hm, kq_of F, bd, ⟨fun _ _ _ _ z => z.elim, fun _ _ _ _ _ _ _ _ _ _ _ _ _ _ z => z.elim⟩⟩
end
end G
end
section
set_option maxRecDepth 100000
set_option maxHeartbeats 2000000
/-! new lists of new lists; a new tuple that holds one; lent as data, then marked -/
namespace G
open PySem PySem.Spec PyProof.Rows L2
theorem Gr.keepNone {B H B' H' : Hp} (g : Gr B H B' H') {a : Addr} (hb : B a = none) (hh : H a ≠ none) : B' a = none := by
  cases z : B' a with
  | none => rfl
  | some o => exact absurd (g.new a o z hb) hh
structure Nest (B H0 H : Hp) (l : Addr) (as : List Addr) (tss : List (List Int)) : Prop where
  newH : ∀ x ∈ l :: as, H0 x = none
  newB : ∀ x ∈ l :: as, B x = none
  nd : (l :: as).Nodup
  at_l : H l = some (.lst (as.map V.ref))
  len : as.length = tss.length
  at_i : ∀ (i : Nat) (a : Addr) (t : List Int), as[i]? = some a → tss[i]? = some t → H a = some (.lst (t.map .int))
theorem Nest.full {B H0 H : Hp} {l : Addr} {as : List Addr} {tss : List (List Int)} (n : Nest B H0 H l as tss) : ∀ x ∈ l :: as, H x ≠ none := fun x hx => by
  rcases List.mem_cons.mp hx with rfl | hx
  · rw [n.at_l]; simp
  · obtain ⟨i, hi⟩ := List.mem_iff_getElem?.mp hx
    have hl := (List.getElem?_eq_some_iff.mp hi).1
    rw [n.at_i i x _ hi (List.getElem?_eq_getElem (by rw [← n.len]; exact hl))]
    simp
theorem Nest.mono {B H0 H B' H' : Hp} {l : Addr} {as : List Addr} {tss : List (List Int)} (n : Nest B H0 H l as tss) (g : Gr B H B' H') : Nest B' H0 H' l as tss :=
  ⟨n.newH, fun x hx => g.keepNone (n.newB x hx) (n.full x hx), n.nd, g.ex _ _ n.at_l, n.len, fun i a t h1 h2 => g.ex _ _ (n.at_i i a t h1 h2)⟩
theorem Nest.from {B H0 H1 H : Hp} {l : Addr} {as : List Addr} {tss : List (List Int)} (n : Nest B H1 H l as tss) (s : Same H0 H1) : Nest B H0 H l as tss :=
  ⟨fun x hx => s.free (n.newH x hx), n.newB, n.nd, n.at_l, n.len, n.at_i⟩
def NestQ (tss : List (List Int)) (B H : Hp) (Q : VK) : Prop := ∀ (l : Addr) (as : List Addr) (B' H' : Hp), Gr B H B' H' → Nest B' H H' l as tss → Q (.ref l) H'
structure Loan (K : PySem.W.Frag) (B H0 H : Hp) (p : Addr) (ov : V) (l : Addr) (as : List Addr) (os : List Int) (tss : List (List Int)) (tot : Int) : Prop where
  nest : Nest B H0 H l as tss
  pH : H0 p = none
  pB : B p = none
  pt : H p = some (.tup [ov, .ref l, .int tot])
  po : Da K B ov (.tuple (os.map .int))
theorem Loan.mono {K : PySem.W.Frag} {B H0 H B' H' : Hp} {p : Addr} {ov : V} {l : Addr} {as : List Addr} {os : List Int} {tss : List (List Int)} {tot : Int} (n : Loan K B H0 H p ov l as os tss tot) (g : Gr B H B' H') : Loan K B' H0 H' p ov l as os tss tot :=
  ⟨n.nest.mono g, n.pH, g.keepNone n.pB (by rw [n.pt]; simp), g.ex _ _ n.pt, n.po.mono g.bb⟩
def SysQ (K : PySem.W.Frag) (os : List Int) (tss : List (List Int)) (tot : Int) (B H : Hp) (Q : VK) : Prop := ∀ (p : Addr) (ov : V) (l : Addr) (as : List Addr) (B' H' : Hp), Gr B H B' H' → Loan K B' H H' p ov l as os tss tot → Q (.ref p) H'
/-! a family of what is wanted of a value -/
abbrev QF := Hp → Hp → VK → Prop
def Aft (q : QF) : Prop := ∀ (B H B1 H1 : Hp) (Q : VK), q B H Q → Gr B H B1 H1 → q B1 H1 Q
theorem aft_nest {tss : List (List Int)} : Aft (NestQ tss) := fun B H B1 H1 Q h g l as B' H' g' n => h l as B' H' (g.trans g') (n.from g.ex)
theorem aft_sys {K : PySem.W.Frag} {os : List Int} {tss : List (List Int)} {tot : Int} : Aft (SysQ K os tss tot) := fun B H B1 H1 Q h g p ov l as B' H' g' n => h p ov l as B' H' (g.trans g') ⟨n.nest.from g.ex, g.ex.free n.pH, n.pB, n.pt, n.po⟩
def EvQ (K : PySem.W.Frag) (q : QF) (te : TE) (ρ : Rho) : Prop := ∀ σ B H, EnvOk K B σ ρ → Same B H → ∀ Q : VK, q B H Q → te σ H Q
def DoQ (K : PySem.W.Frag) (q : QF) (ts : TS) (ρ : Rho) : Prop := ∀ σ B H (D : Ends), EnvOk K B σ ρ → Same B H → q B H D.rt → ts D σ H
/-- what a def promises that hands on what the family says -/
def spQ (K : PySem.W.Frag) {α : Type} (q : α → QF) (P : List PyData → α → Prop) : Sp := fun vs H Q _ => ∃ B ds a, Same B H ∧ DaAll K B vs ds ∧ P ds a ∧ q a B H Q
section
variable {K : PySem.W.Frag} {ρ : Rho} {te ta tb tn : TE} {t u : TS} {tr : TA} {tt : TT} {d : PyData} {q : QF} {α : Type} {qa : α → QF}
theorem doq_ret (h : EvQ K q te ρ) : DoQ K q (tRet te) ρ := fun σ B H D e s k => h σ B H e s _ k
theorem doq_set (a : Aft q) {i : Nat} (h : Ev K te ρ d) (k : DoQ K q t (ρ.set i (some d))) : DoQ K q (tSeq (tAsg te (gName i)) t) ρ := fun σ B H D e s x =>
  h σ B H e s _ fun v B1 H1 g1 hv => k _ B1 H1 D ((e.mono g1.bb).set hv i) g1.sub (a _ _ _ _ _ x g1)
theorem doq_asg (a : Aft q) {g : TG} {ρ1 : Rho} (h : Ev K te ρ d) (hg : Tg K g d ρ ρ1) (k : DoQ K q t ρ1) : DoQ K q (tSeq (tAsg te g) t) ρ := fun σ B H D e s x =>
  h σ B H e s _ fun v B1 H1 g1 hv => hg σ B1 H1 v (e.mono g1.bb) g1.sub hv _ fun σ' e' => k σ' B1 H1 D e' g1.sub (a _ _ _ _ _ x g1)
theorem doq_drop (a : Aft q) (h : Ev K te ρ d) (k : DoQ K q t ρ) : DoQ K q (tSeq (tDrop te) t) ρ := fun σ B H D e s x =>
  h σ B H e s _ fun v B1 H1 g1 hv => k σ B1 H1 D (e.mono g1.bb) g1.sub (a _ _ _ _ _ x g1)
theorem doq_skip (a : Aft q) (h : EvB K tt ρ false) (k : DoQ K q t ρ) : DoQ K q (tSeq (tIfS tt u tNext) t) ρ := fun σ B H D e s x =>
  h σ B H e s _ fun B1 H1 g1 => iteF (k σ B1 H1 D (e.mono g1.bb) g1.sub (a _ _ _ _ _ x g1))
theorem evq_call (a : ∀ x, Aft (qa x)) {P : List PyData → α → Prop} {E : XK} {ds : List PyData} {x : α} (h : EvL K tr ρ ds) (hp : P ds x) : EvQ K (qa x) (tCall (spQ K qa P) [] E tr) ρ := fun σ B H e s Q k =>
  h σ B H e s _ fun vs B1 H1 g1 hv => ⟨B1, ds, x, g1.sub, by rw [List.append_nil]; exact hv, hp, a x _ _ _ _ _ k g1⟩
theorem evq_callK (a : ∀ x, Aft (qa x)) {P : List PyData → α → Prop} {E : XK} {gV : List V → List V → List V} {ds zs : List PyData} {x : α} (h : EvL K tr ρ zs) (hp : P ds x) (hg : ∀ B ws, DaAll K B ws zs → DaAll K B (gV [] ws) ds) : EvQ K (qa x) (tCallK (spQ K qa P) gV E tNil tr) ρ := fun σ B H e s Q k =>
  h σ B H e s _ fun vs B1 H1 g1 hv => ⟨B1, ds, x, g1.sub, hg B1 vs hv, hp, a x _ _ _ _ _ k g1⟩
theorem has_q {P : Program} {w : World} {mg : Str → Option Value} {base : Heap} {x : Str} {st : Stmt} {N ps : List Str} {k : Nat} {p : List PyData → α → Prop} (h : Has K mg x st ps) (S : FnScope N ps (defScope st))
    (ar : ∀ ds d, p ds d → ds.length = ps.length)
    (hb : ∀ (f : Addr) (cdv : Value) (A : Around) (outer : List Env) (s : Shared) (H : Hp) (E : XK), A.guards = some [] → Room k (A.deeper (envOfC x (defScope st) s.heap.objs.size f cdv)) →
      ∃ t, PSs (bodyCx CX0 P w K mg base N x st f cdv A outer s H E).nox (defBody st) t ∧ ∀ ds y, p ds y → DoQ K (qa y) t (startR N ds)) : Cal P w K mg base (k + 1) x ps (spQ K qa p) := by
  obtain ⟨f, fd, F, hm, bd⟩ := h
  refine ⟨f, fd, hm, kq_of F, bd, fn_g0 F S (fun vs H Q E h => ?_) fun cdv A outer s H vs Q E hg hr h => ?_⟩
  · obtain ⟨B, ds, y, _, a, hp, _⟩ := h
    rw [a.len]
    exact ar ds _ hp
  · obtain ⟨B, ds, y, hs, a, hp, z⟩ := h
    obtain ⟨t, ht, hd⟩ := hb f cdv A outer s H E hg hr
    exact ⟨t, ht, hd ds y hp _ B H _ (env_start a) hs z⟩
/-- [f(x) for x in xs], each time a new list of ints -/
theorem evn_lc {wi : TI} {g : TG} {vs : List Nat} {es : List PyData} (h : Iter K wi ρ es) (hz : es.length ≤ 1000000) (f : PyData → List Int)
    (hs : ∀ e, e ∈ es → ∃ ρ1, TgW K g vs e ρ ρ1 ∧ EvF K te ρ1 (f e)) : EvQ K (NestQ (es.map f)) (tLc wi g tYes te vs) ρ := fun σ B H e s Q q =>
  h σ B H e s _ fun J B1 H1 g1 w => fun Dl hD => by
    refine lc_it w (fun i H' => ∃ (B' : Hp) (as : List Addr), Gr B1 H1 B' H' ∧ B' Dl = none ∧ H' Dl = some (.lst (as.map V.ref)) ∧ (∀ a ∈ as, H1 a = none ∧ B' a = none ∧ a ≠ Dl) ∧ as.Nodup ∧ as.length = i ∧
      (∀ (k : Nat) (a : Addr) (el : PyData), as[k]? = some a → es[k]? = some el → H' a = some (.lst ((f el).map .int)))) ?_ (fun i H' _ ⟨B', _, g2, _⟩ => g2.bb.trans g2.sub) ?_ ?_
    · exact ⟨B1, [], .side g1.sub hD _, g1.sub.free hD, upd_same, fun a ha => by simp at ha, List.nodup_nil, rfl, fun k a el h => by simp at h⟩
    · rintro i x H' H2 hi ⟨B', as, g2, hB, hH, hf, hnd, hl, hc⟩ y
      obtain ⟨B2, el, g3, hel, hx⟩ := y B' g2.bb g2.sub
      obtain ⟨ρ1, ht, hv⟩ := hs el (List.mem_of_getElem? hel)
      have g23 := g2.trans g3
      have inH : ∀ a ∈ as, H' a ≠ none := fun a ha => by
        obtain ⟨k, hk⟩ := List.mem_iff_getElem?.mp ha
        have lk := (List.getElem?_eq_some_iff.mp hk).1
        rw [hc k a _ hk (List.getElem?_eq_getElem (by have : i < es.length := hi; omega))]
        simp
      refine ht σ B2 H2 x (e.mono (g1.bb.trans g23.bb)) g3.sub hx _ fun σ2 e3 hw => ⟨hw, ?_⟩
      dsimp only [tYes]
      rw [if_pos rfl]
      refine hv σ2 B2 H2 e3 g3.sub _ fun a B3 H3 g4 hBa hHa hla => ?_
      have g34 := g3.trans g4
      have h3 : H3 Dl = some (.lst (as.map V.ref)) := g34.ex _ _ hH
      have aD : a ≠ Dl := fun z => by rw [z, g3.ex _ _ hH] at hHa; cases hHa
      have aN : a ∉ as := fun z => by
        have q1 := inH a z
        cases z2 : H' a with
        | none => exact q1 z2
        | some o => rw [g3.ex _ _ z2] at hHa; cases hHa
      have hB3 : B3 Dl = none := g34.keepNone hB (by rw [hH]; simp)
      have gg := g23.trans g4
      have hi2 : i < es.length := hi
      refine ⟨as.map V.ref, h3, by rw [List.length_map, sizeLine_eq]; omega, B3, as ++ [a], ⟨fun b o z => ?_, gg.bb, fun b o z => ?_, gg.new⟩, hB3, ?_, ?_, ?_, by rw [List.length_append, hl]; rfl, ?_⟩
      · rw [upd_ne (ne_of_none z hD)]
        exact gg.ex b o z
      · rw [upd_ne (ne_of_none z hB3)]
        exact gg.sub b o z
      · rw [upd_same, List.map_append]
        rfl
      · intro b hb
        rcases List.mem_append.mp hb with hb | hb
        · obtain ⟨q1, q2, q3⟩ := hf b hb
          exact ⟨q1, g34.keepNone q2 (inH b hb), q3⟩
        · have : b = a := by simpa using hb
          subst this
          exact ⟨(g23.ex.free hHa), hBa, aD⟩
      · rw [List.nodup_append]
        exact ⟨hnd, by simp, fun x hx y hy => by
          have : y = a := by simpa using hy
          rw [this]
          exact fun z => aN (z ▸ hx)⟩
      · intro k b el2 h1 h2
        by_cases hk : k < as.length
        · rw [List.getElem?_append_left hk] at h1
          have bD := (hf b (List.mem_of_getElem? h1)).2.2
          rw [upd_ne bD]
          exact g34.ex _ _ (hc k b el2 h1 h2)
        · have hk2 : k = as.length := by
            have := (List.getElem?_eq_some_iff.mp h1).1
            rw [List.length_append] at this
            have e1 : [a].length = 1 := rfl
            omega
          subst hk2
          rw [List.getElem?_append_right (Nat.le_refl _), Nat.sub_self] at h1
          have : a = b := by simpa using h1
          subst this
          rw [hl, hel] at h2
          cases h2
          rw [upd_ne aD]
          exact hla
    · rintro H' ⟨B', as, g2, hB, hH, hf, hnd, hl, hc⟩
      refine q Dl as B' H' (g1.trans g2) ⟨fun x hx => ?_, fun x hx => ?_, List.nodup_cons.mpr ⟨fun z => (hf Dl z).2.2 rfl, hnd⟩, hH, by rw [List.length_map, hl], fun k a t h1 h2 => ?_⟩
      · rcases List.mem_cons.mp hx with rfl | hx
        · exact g1.ex.free hD
        · exact g1.ex.free (hf x hx).1
      · rcases List.mem_cons.mp hx with rfl | hx
        · exact hB
        · exact (hf x hx).2.1
      · rw [List.getElem?_map] at h2
        cases z : es[k]? with
        | none => rw [z] at h2; cases h2
        | some el =>
          rw [z] at h2
          cases h2
          exact hc k a el h1 z
/-- (orders, [..], total) -/
theorem evs_tup {os : List Int} {tss : List (List Int)} {tot : Int} (ho : Ev K ta ρ (.tuple (os.map .int))) (hn : EvQ K (NestQ tss) tn ρ) (ht : Ev K tb ρ (.int tot)) : EvQ K (SysQ K os tss tot) (tTup (tCons ta (tCons tn (tCons tb tNil)))) ρ := fun σ B H e s Q q =>
  ho σ B H e s _ fun ov B1 H1 g1 hv => hn σ B1 H1 (e.mono g1.bb) g1.sub _ fun l as B2 H2 g2 n => ht σ B2 H2 (e.mono (g1.trans g2).bb) g2.sub _ fun v B3 H3 g3 hi => by
    cases hi
    refine ⟨by show 3 ≤ sizeLine; decide, fun p hp => ?_⟩
    have g123 := (g1.trans g2).trans g3
    have gp := Gr.side g3.sub hp (.tup [ov, .ref l, .int tot])
    have hB3 : B3 p = none := g3.sub.free hp
    exact q p ov l as B3 _ (g123.trans gp) ⟨(((n.mono g3).mono gp).from g1.ex), g123.ex.free hp, hB3, upd_same, hv.mono (g2.trans g3).bb⟩
/-! lent as data -/
def lend (B H : Hp) (S : List Addr) : Hp := fun b => if b ∈ S then H b else B b
theorem lend_in {B H : Hp} {S : List Addr} {a : Addr} (h : a ∈ S) : lend B H S a = H a := if_pos h
theorem lend_out {B H : Hp} {S : List Addr} {a : Addr} (h : a ∉ S) : lend B H S a = B a := if_neg h
theorem lend_up {B H : Hp} {S : List Addr} (h : ∀ x ∈ S, B x = none) : Same B (lend B H S) := fun b o z => by
  rw [lend_out fun m => by rw [h b m] at z; cases z]
  exact z
theorem lend_sub {B H : Hp} {S : List Addr} (s : Same B H) : Same (lend B H S) H := fun b o z => by
  by_cases m : b ∈ S
  · rw [lend_in m] at z
    exact z
  · rw [lend_out m] at z
    exact s b o z
theorem daAll_of {B : Hp} : ∀ {vs : List V} {ds : List PyData}, vs.length = ds.length → (∀ (i : Nat) (v : V) (d : PyData), vs[i]? = some v → ds[i]? = some d → Da K B v d) → DaAll K B vs ds
  | [], [], _, _ => .nil
  | [], _ :: _, h, _ => by simp at h
  | _ :: _, [], h, _ => by simp at h
  | v :: vs, d :: ds, h, f => .cons (f 0 v d rfl rfl) (daAll_of (by simpa using h) fun i x y h1 h2 => f (i + 1) x y (by simpa using h1) (by simpa using h2))
abbrev sysT (os : List Int) (tss : List (List Int)) (tot : Int) : PyData := .tuple [.tuple (os.map .int), .list (tss.map fun t => .list (t.map .int)), .int tot]
theorem Loan.da {B H0 H : Hp} {p : Addr} {ov : V} {l : Addr} {as : List Addr} {os : List Int} {tss : List (List Int)} {tot : Int} (n : Loan K B H0 H p ov l as os tss tot) :
    Same B (lend B H (p :: l :: as)) ∧ Da K (lend B H (p :: l :: as)) (.ref p) (sysT os tss tot) := by
  have up : Same B (lend B H (p :: l :: as)) := lend_up fun x hx => by
    rcases List.mem_cons.mp hx with rfl | hx
    · exact n.pB
    · exact n.nest.newB x hx
  refine ⟨up, .tup (xs := [ov, .ref l, .int tot]) (.of ?_) (.cons (n.po.mono up) (.cons (.lst (xs := as.map V.ref) ?_ ?_) (.cons (.int _) .nil)))⟩
  · rw [lend_in (List.mem_cons_self ..)]
    exact n.pt
  · rw [lend_in (List.mem_cons_of_mem _ (List.mem_cons_self ..))]
    exact n.nest.at_l
  · refine daAll_of (by rw [List.length_map, List.length_map]; exact n.nest.len) fun i v d h1 h2 => ?_
    rw [List.getElem?_map] at h1 h2
    cases z1 : as[i]? with
    | none => rw [z1] at h1; cases h1
    | some a =>
      cases z2 : tss[i]? with
      | none => rw [z2] at h2; cases h2
      | some t =>
        rw [z1] at h1
        rw [z2] at h2
        cases h1
        cases h2
        refine .lst (xs := t.map .int) ?_ (daIn t)
        rw [lend_in (List.mem_cons_of_mem _ (List.mem_cons_of_mem _ (List.mem_of_getElem? z1)))]
        exact n.nest.at_i i a t z1 z2
theorem Loan.new {B H0 H : Hp} {p : Addr} {ov : V} {l : Addr} {as : List Addr} {os : List Int} {tss : List (List Int)} {tot : Int} (n : Loan K B H0 H p ov l as os tss tot) : ∀ x ∈ p :: l :: as, H0 x = none ∧ B x = none := fun x hx => by
  rcases List.mem_cons.mp hx with rfl | hx
  · exact ⟨n.pH, n.pB⟩
  · exact ⟨n.nest.newH x hx, n.nest.newB x hx⟩
theorem EvQ.ev {os : List Int} {tss : List (List Int)} {tot : Int} (h : EvQ K (SysQ K os tss tot) te ρ) : Ev K te ρ (sysT os tss tot) := fun σ B H e s Q q =>
  h σ B H e s Q fun p ov l as B' H' g n => by
    obtain ⟨up, d⟩ := n.da
    refine q _ (lend B' H' (p :: l :: as)) H' ⟨g.ex, g.bb.trans up, lend_sub g.sub, fun b o z nb => ?_⟩ d
    by_cases m : b ∈ p :: l :: as
    · exact (n.new b m).1
    · rw [lend_out m] at z
      exact g.new b o z nb
end
/-! statements while a told tuple is lent: H0 the heap ahead of it -/
def Dl (K : PySem.W.Frag) (i j : Nat) (os : List Int) (tss : List (List Int)) (tot : Int) (ts : TS) (ρ : Rho) (c : Nat) (N : Rho → Nat → Prop) (R : PyData → Nat → Prop) : Prop :=
  ∀ g σ B H0 H (D : Ends) p ov l as, EnvG K B σ ρ g i → Loan K B H0 H p ov l as os tss tot → σ[j]? = some (some (.ref p)) → Gg g B H0 B H → GenAt H0 g c → GenAt H g c →
  (∀ σ' B' H' ρ' c', Gg g B H0 B' H' → EnvG K B' σ' ρ' g i → GenAt H' g c' → N ρ' c' → D.nx σ' H') → (∀ v B' H' d c', Gg g B H0 B' H' → GenAt H' g c' → Da K B' v d → R d c' → D.rt v H') → ts D σ H
section
variable {K : PySem.W.Frag} {i j : Nat} {ρ : Rho} {c : Nat} {N : Rho → Nat → Prop} {R : PyData → Nat → Prop} {te ta tb : TE} {tr : TA} {tt : TT} {t u : TS} {d : PyData} {os : List Int} {tss : List (List Int)} {tot : Int}
/-- within the loan, H grows, the rest is let go again -/
theorem Loan.after {g : Addr} {B H0 H B1 H1 : Hp} {p : Addr} {ov : V} {l : Addr} {as : List Addr} (n : Loan K B H0 H p ov l as os tss tot) (gg : Gg g B H0 B H) (k : Gr (lend B H (p :: l :: as)) H B1 H1) (gen : GenAt H g c) :
    Loan K B H0 H1 p ov l as os tss tot ∧ Gg g B H0 B H1 ∧ GenAt H1 g c := by
  have sb : Same B H1 := n.da.1.trans (k.bb.trans k.sub)
  have kk : Gr B H B H1 := ⟨k.ex, Same.refl _, sb, fun a o z nb => by rw [nb] at z; cases z⟩
  exact ⟨n.mono kk, gg.trans ⟨fun a o _ z => k.ex a o z, Same.refl _, sb, fun a o z nb => (by rw [nb] at z; cases z), gg.off⟩, gen.same k.ex⟩
theorem dl_if (hb : EvB K tt (ρ.set j (some (sysT os tss tot))) false) (hj : j < ρ.length) (k : Dl K i j os tss tot u ρ c N R) : Dl K i j os tss tot (tSeq (tIfS tt t tNext) u) ρ c N R := fun g σ B H0 H D p ov l as e n hp gg gen0 gen nx r => by
  obtain ⟨up, da⟩ := n.da
  have e2 : EnvOk K (lend B H (p :: l :: as)) σ (ρ.set j (some (sysT os tss tot))) := by
    have q := (e.env.mono up).set da j
    have z : σ.set j (some (.ref p)) = σ := by
      obtain ⟨h1, h2⟩ := List.getElem?_eq_some_iff.mp hp
      rw [← h2]
      exact List.set_getElem_self h1
    rw [z] at q
    exact q
  refine hb σ _ H e2 (lend_sub gg.sub) _ fun B1 H1 g1 => iteF ?_
  obtain ⟨n1, gg1, gen1⟩ := n.after gg g1 gen
  exact k g σ B H0 H1 D p ov l as e n1 hp gg1 gen0 gen1 nx r
/-- x = f(..), then lent -/
theorem dg_lend (h : EvQ K (SysQ K os tss tot) te ρ) (hj : j ≠ i) (hj2 : j < ρ.length) (k : Dl K i j os tss tot t (ρ.set j none) c N R) : Dg K i (tSeq (tAsg te (gName j)) t) ρ c N R := fun g σ B H D e s n nx r =>
  h σ B H e.env s _ fun p ov l as B1 H1 g1 ln => by
    have G1 : Gg g B H B1 H1 := .of g1 e.gone n.ne
    have e1 : EnvG K B1 (σ.set j (some (.ref p))) (ρ.set j none) g i := ⟨(e.env.mono g1.bb).forget _ j, by rw [List.getElem?_set_ne hj]; exact e.here, G1.off⟩
    have s1 : Same B1 H1 := g1.sub
    have G2 : Gg g B1 H B1 H1 := ⟨fun a o nb z => G1.ex a o nb z, Same.refl _, s1, fun a o z nb => (by rw [nb] at z; cases z), G1.off⟩
    refine k g _ B1 H H1 D p ov l as e1 ln (List.getElem?_set_self (by rw [e.env.len]; exact hj2)) G2 n (n.same g1.ex) (fun σ2 B2 H2 ρ2 c2 g2 => nx σ2 B2 H2 ρ2 c2 ?_) fun v B2 H2 d c2 g2 => r v B2 H2 d c2 ?_
    · exact ⟨g2.ex, G1.bb.trans g2.bb, g2.sub, fun a o z nb => by
        cases q : B1 a with
        | none => exact g2.new a o z q
        | some u => exact G1.new a u q nb, g2.off⟩
    · exact ⟨g2.ex, G1.bb.trans g2.bb, g2.sub, fun a o z nb => by
        cases q : B1 a with
        | none => exact g2.new a o z q
        | some u => exact G1.new a u q nb, g2.off⟩
/-- what marks: it gives True, and changes lists of S alone -/
def MarkQ (S : List Addr) (H : Hp) (Q : VK) : Prop := ∀ H', (∀ b o, b ∉ S → H b = some o → H' b = some o) → Q (.bl true) H'
theorem Loan.marked {g : Addr} {B H0 H H1 : Hp} {p : Addr} {ov : V} {l : Addr} {as : List Addr} (n : Loan K B H0 H p ov l as os tss tot) (gg : Gg g B H0 B H) (gen0 : GenAt H0 g c) (gen : GenAt H g c) (k : ∀ b o, b ∉ l :: as → H b = some o → H1 b = some o) :
    Gg g B H0 B H1 ∧ GenAt H1 g c := by
  have out : ∀ b, H0 b ≠ none → b ∉ l :: as := fun b hb z => hb (n.nest.newH b z)
  have outB : ∀ b o, B b = some o → b ∉ l :: as := fun b o hb z => by rw [n.nest.newB b z] at hb; cases hb
  refine ⟨⟨fun a o na z => k a o (out a (by rw [z]; simp)) (gg.ex a o na z), Same.refl _, fun a o z => k a o (outB a o z) (gg.sub a o z), fun a o z nb => (by rw [nb] at z; cases z), gg.off⟩, ?_⟩
  obtain ⟨x, y, z, h1, r⟩ := gen
  exact ⟨x, y, z, k g _ (out g gen0.ne) h1, r⟩
/-- if not marked(x): return ..; the loan is over -/
theorem dl_mark {sm : Sp} {E : XK} (hm : ∀ B H0 H p ov l as Q, Loan K B H0 H p ov l as os tss tot → Same B H → MarkQ (l :: as) H Q → sm [.ref p] H Q E) (k : Dg K i u ρ c N R) :
    Dl K i j os tss tot (tSeq (tIfS (tNot (tB (tCall sm [] E (tCons (tVar j) tNil)))) t tNext) u) ρ c N R := fun g σ B H0 H D p ov l as e n hp gg gen0 gen nx r =>
  ⟨.ref p, hp, hm B H0 H p ov l as _ n gg.sub fun H1 kk => ⟨true, rfl, iteF (by
    obtain ⟨gg1, gen1⟩ := n.marked gg gen0 gen kk
    exact k g σ B H1 D e gg1.sub gen1 (fun σ2 B2 H2 ρ2 c2 g2 => nx σ2 B2 H2 ρ2 c2 (gg1.trans g2)) fun v B2 H2 d c2 g2 => r v B2 H2 d c2 (gg1.trans g2))⟩⟩
/-- return marked(x) and .. -/
theorem dl_ret {sm : Sp} {E : XK} (hm : ∀ B H0 H p ov l as Q, Loan K B H0 H p ov l as os tss tot → Same B H → MarkQ (l :: as) H Q → sm [.ref p] H Q E) (h : Ev K tb ρ d) (hr : R d c) :
    Dl K i j os tss tot (tRet (tAndV (tCall sm [] E (tCons (tVar j) tNil)) tb)) ρ c N R := fun g σ B H0 H D p ov l as e n hp gg gen0 gen nx r =>
  ⟨.ref p, hp, hm B H0 H p ov l as _ n gg.sub fun H1 kk => ⟨true, rfl, iteT (by
    obtain ⟨gg1, gen1⟩ := n.marked gg gen0 gen kk
    refine h σ B H1 e.env gg1.sub _ fun v B2 H2 g2 hv => ?_
    exact r v B2 H2 d c (gg1.trans (.of g2 gg1.off gen1.ne)) (gen1.same g2.ex) hv hr)⟩⟩
end
end G
end
section
set_option maxRecDepth 100000
set_option maxHeartbeats 2000000
/-! marking all lists of a value, once each -/
namespace G
open PySem PySem.Spec PyProof.Rows L2
theorem seq_go {t u : TS} {D : Ends} {σ : L2.St} {H : Hp} (h : t { D with nx := u D } σ H) : tSeq t u D σ H := h
theorem for_go {wi : TI} {g : TG} {tb : TS} {D : Ends} {σ : L2.St} {H : Hp} (h : wi σ H fun J H1 => ∃ W : Nat → Nat → L2.St → Hp → Prop, (∃ m, W 0 m σ H1) ∧ ∀ i m σ H, W i m σ H →
  (J.stop i H ∧ D.nx σ H) ∨ (J.go i H ∧ ∃ N : L2.St → Hp → Prop, (∀ σ' H', N σ' H' → ∃ m', m' < m ∧ W (i + 1) m' σ' H') ∧ ∀ x H', J.yld i H x H' → g x σ H' fun σ2 H2 => tb { D with nx := N, ct := N, bk := D.nx } σ2 H2)) : tFor wi g tb D σ H := h
theorem nxt_go {D : Ends} {σ : L2.St} {H : Hp} (h : D.nx σ H) : tNext D σ H := h
theorem ret_go {te : TE} {D : Ends} {σ : L2.St} {H : Hp} (h : te σ H D.rt) : tRet te D σ H := h
theorem orv_go {ta tb : TE} {σ : L2.St} {H : Hp} {Q : VK} (h : ta σ H fun x H1 => ∃ c, x = .bl c ∧ if c = true then Q (.bl true) H1 else tb σ H1 Q) : tOrV ta tb σ H Q := h
theorem asg_go {te : TE} {g : TG} {D : Ends} {σ : L2.St} {H : Hp} (h : te σ H fun x H1 => g x σ H1 D.nx) : tAsg te g D σ H := h
theorem opc_go {r : R2} {v : V} {tb : TE} {σ : L2.St} {H : Hp} {Q : VK} (h : tb σ H fun y H2 => r v y H2 Q) : tOp r (tC v) tb σ H Q := h
theorem if_go {tt : TT} {t u : TS} {D : Ends} {σ : L2.St} {H : Hp} (h : tt σ H fun b H1 => if b = true then t D σ H1 else u D σ H1) : tIfS tt t u D σ H := h
mutual
inductive MkOk (K : PySem.W.Frag) (H : Hp) : Nat → V → PyData → List Addr → Prop where
  | int {n : Nat} (i : Int) : MkOk K H n (.int i) (.int i) []
  | lst {n : Nat} {a : Addr} {xs : List V} {ds : List PyData} {S : List Addr} : H a = some (.lst xs) → xs.length ≤ 1000000 → MkAll K H n xs ds S → a ∉ S → MkOk K H (n + 1) (.ref a) (.list ds) (a :: S)
  | tup {n : Nat} {a : Addr} {xs : List V} {ds : List PyData} {S : List Addr} : SqT K H a xs → xs.length ≤ 1000000 → MkAll K H n xs ds S → MkOk K H (n + 1) (.ref a) (.tuple ds) S
inductive MkAll (K : PySem.W.Frag) (H : Hp) : Nat → List V → List PyData → List Addr → Prop where
  | nil {n : Nat} : MkAll K H n [] [] []
  | cons {n : Nat} {v : V} {d : PyData} {vs : List V} {ds : List PyData} {S T : List Addr} : MkOk K H n v d S → MkAll K H n vs ds T → (∀ x ∈ S, x ∉ T) → MkAll K H n (v :: vs) (d :: ds) (S ++ T)
end
def Keeps (S : List Addr) (H H' : Hp) : Prop := ∀ b o, b ∉ S → H b = some o → H' b = some o
theorem Keeps.refl {S : List Addr} {H : Hp} : Keeps S H H := fun _ _ _ e => e
theorem Keeps.trans {S T : List Addr} {H H1 H2 : Hp} (h : Keeps S H H1) (k : Keeps T H1 H2) : Keeps (S ++ T) H H2 := fun b o nb e => k b o (fun z => nb (List.mem_append_right _ z)) (h b o (fun z => nb (List.mem_append_left _ z)) e)
theorem Keeps.of {S : List Addr} {H H' : Hp} (h : Same H H') : Keeps S H H' := fun b o _ e => h b o e
theorem Keeps.sub {S T : List Addr} {H H' : Hp} (h : Keeps S H H') (s : ∀ x ∈ S, x ∈ T) : Keeps T H H' := fun b o nb e => h b o (fun z => nb (s b z)) e
section
variable {K : PySem.W.Frag} {H H' : Hp}
def Lists (H : Hp) (T : List Addr) : Prop := ∀ x ∈ T, ∃ xs, H x = some (.lst xs)
theorem sqt_keep {a : Addr} {xs : List V} {T : List Addr} (k : Keeps T H H') (l : Lists H T) (h : SqT K H a xs) : SqT K H' a xs := by
  rcases h with (h | ⟨o, h⟩) | h
  · exact .inl (.inl (k _ _ (fun z => by obtain ⟨ys, q⟩ := l _ z; rw [h] at q; cases q) h))
  · exact .inl (.inr ⟨o, k _ _ (fun z => by obtain ⟨ys, q⟩ := l _ z; rw [h] at q; cases q) h⟩)
  · exact .inr h
mutual
theorem MkOk.lists : ∀ {n : Nat} {v : V} {d : PyData} {S : List Addr}, MkOk K H n v d S → Lists H S
  | _, _, _, _, .int i => fun x hx => by simp at hx
  | _, _, _, _, .lst h _ m _ => fun x hx => by
    rcases List.mem_cons.mp hx with rfl | hx
    · exact ⟨_, h⟩
    · exact m.lists x hx
  | _, _, _, _, .tup _ _ m => m.lists
theorem MkAll.lists : ∀ {n : Nat} {vs : List V} {ds : List PyData} {S : List Addr}, MkAll K H n vs ds S → Lists H S
  | _, _, _, _, .nil => fun x hx => by simp at hx
  | _, _, _, _, .cons m ms _ => fun x hx => by
    rcases List.mem_append.mp hx with hx | hx
    · exact m.lists x hx
    · exact ms.lists x hx
end
mutual
theorem MkOk.keep {T : List Addr} (k : Keeps T H H') (l : Lists H T) : ∀ {n : Nat} {v : V} {d : PyData} {S : List Addr}, MkOk K H n v d S → (∀ x ∈ S, x ∉ T) → MkOk K H' n v d S
  | _, _, _, _, .int i, _ => .int i
  | _, _, _, _, .lst h z m na, s => .lst (k _ _ (s _ (List.mem_cons_self ..)) h) z (m.keep k l fun x hx => s x (List.mem_cons_of_mem _ hx)) na
  | _, _, _, _, .tup h z m, s => .tup (sqt_keep k l h) z (m.keep k l s)
theorem MkAll.keep {T : List Addr} (k : Keeps T H H') (l : Lists H T) : ∀ {n : Nat} {vs : List V} {ds : List PyData} {S : List Addr}, MkAll K H n vs ds S → (∀ x ∈ S, x ∉ T) → MkAll K H' n vs ds S
  | _, _, _, _, .nil, _ => .nil
  | _, _, _, _, .cons m ms dj, s => .cons (m.keep k l fun x hx => s x (List.mem_append_left _ hx)) (ms.keep k l fun x hx => s x (List.mem_append_right _ hx)) dj
end
mutual
theorem MkOk.da : ∀ {n : Nat} {v : V} {d : PyData} {S : List Addr}, MkOk K H n v d S → Da K H v d
  | _, _, _, _, .int i => .int i
  | _, _, _, _, .lst h _ m _ => .lst h m.da
  | _, _, _, _, .tup h _ m => .tup h m.da
theorem MkAll.da : ∀ {n : Nat} {vs : List V} {ds : List PyData} {S : List Addr}, MkAll K H n vs ds S → DaAll K H vs ds
  | _, _, _, _, .nil => .nil
  | _, _, _, _, .cons m ms _ => .cons m.da ms.da
end
/-! no text in it, and not deep -/
mutual
theorem MkOk.pl : ∀ {n : Nat} {v : V} {d : PyData} {S : List Addr}, MkOk K H n v d S → d.canLay0 = true ∧ d.depth ≤ n ∧ (∀ c : Str, PyData.eqv d (.str c) = false)
  | _, _, _, _, .int i => ⟨rfl, by rw [depth_int]; omega, fun c => by simp [PyData.eqv]⟩
  | _, _, _, _, .lst _ _ m _ => by
    obtain ⟨a, b⟩ := m.pl
    exact ⟨by rw [PyData.canLay0]; exact a, by rw [PyData.depth]; omega, fun c => by simp [PyData.eqv]⟩
  | _, _, _, _, .tup _ _ m => by
    obtain ⟨a, b⟩ := m.pl
    exact ⟨by rw [PyData.canLay0]; exact a, by rw [PyData.depth]; omega, fun c => by simp [PyData.eqv]⟩
theorem MkAll.pl : ∀ {n : Nat} {vs : List V} {ds : List PyData} {S : List Addr}, MkAll K H n vs ds S → PyData.canLayAll0 ds = true ∧ PyData.depthAll ds ≤ n
  | _, _, _, _, .nil => ⟨by simp [PyData.canLayAll0], by simp [PyData.depthAll]⟩
  | _, _, _, _, .cons m ms _ => by
    obtain ⟨a1, b1, _⟩ := m.pl
    obtain ⟨a2, b2⟩ := ms.pl
    exact ⟨by rw [PyData.canLayAll0, a1, a2]; rfl, by rw [PyData.depthAll]; omega⟩
end
theorem MkAll.len : ∀ {n : Nat} {vs : List V} {ds : List PyData} {S : List Addr}, MkAll K H n vs ds S → vs.length = ds.length
  | _, _, _, _, .nil => rfl
  | _, _, _, _, .cons _ ms _ => by rw [List.length_cons, List.length_cons, ms.len]
theorem MkAll.mem : ∀ {n : Nat} {vs : List V} {ds : List PyData} {S : List Addr}, MkAll K H n vs ds S → ∀ d ∈ ds, ∃ v T, MkOk K H n v d T
  | _, _, _, _, .nil, d, hd => by simp at hd
  | _, _, _, _, .cons m ms _, d, hd => by
    rcases List.mem_cons.mp hd with rfl | hd
    · exact ⟨_, _, m⟩
    · exact ms.mem d hd
/-- what marks such a value -/
def sMk (K : PySem.W.Frag) (n : Nat) : Sp := fun vs H Q _ => ∃ v d S, vs = [v] ∧ MkOk K H n v d S ∧ MarkQ S H Q
/-- [marked(x) for x in xs] -/
theorem mk_lc {n : Nat} {self : Sp} {E : XK} (hs : ∀ v d S H Q, MkOk K H n v d S → MarkQ S H Q → self [v] H Q E) {J : It} {xs : List V} {ds : List PyData} {S : List Addr} {G : Hp → Prop} (w : Walk J xs.length G (YAt xs)) {i : Nat} {σ : L2.St} {H1 : Hp}
    (hi : i < σ.length) (m : MkAll K H1 n xs ds S) (hG : ∀ H', Keeps S H1 H' → G H') (hz : xs.length ≤ 1000000) {Q : VK} (q : ∀ D H', Keeps S H1 H' → H1 D = none → H' D = some (.lst (List.replicate xs.length (.bl true))) → Q (.ref D) H') :
    ∀ D, H1 D = none → ∃ W : Nat → Nat → Hp → Prop, (∃ m, W 0 m (upd H1 D (.lst []))) ∧ ∀ k m H, W k m H →
      (J.stop k H ∧ Q (.ref D) H) ∨ (J.go k H ∧ ∃ Nx : Hp → Prop, (∀ H', Nx H' → ∃ m', m' < m ∧ W (k + 1) m' H') ∧ ∀ x H', J.yld k H x H' → gName i x (wipe σ [i]) H' fun σ2 H2 => wipe σ2 [i] = wipe σ [i] ∧ tYes σ2 H2 fun b H3 =>
        if b = true then tCall self [] E (tCons (tVar i) tNil) σ2 H3 fun y H4 => ∃ acc, H4 D = some (.lst acc) ∧ acc.length < sizeLine ∧ Nx (upd H4 D (.lst (acc ++ [y]))) else Nx H3) := fun D hD => by
  have dS : D ∉ S := fun z => by
    obtain ⟨ys, e⟩ := m.lists D z
    rw [hD] at e
    cases e
  refine lc_it w (fun k H' => ∃ (T U : List Addr), S = T ++ U ∧ Keeps T H1 H' ∧ H' D = some (.lst (List.replicate k (.bl true))) ∧ MkAll K H' n (xs.drop k) (ds.drop k) U ∧ (∀ x ∈ U, x ∉ T)) ?_ (fun k H' _ ⟨T, U, e, kp, _⟩ => hG H' (kp.sub fun x hx => by rw [e]; exact List.mem_append_left _ hx)) ?_ ?_
  · refine ⟨[], S, rfl, fun b o _ e => ?_, upd_same, ?_, fun x _ z => by simp at z⟩
    · rw [upd_ne (ne_of_none e hD)]
      exact e
    · rw [List.drop_zero, List.drop_zero]
      exact m.keep (T := []) (fun b o _ e => by rw [upd_ne (ne_of_none e hD)]; exact e) (fun x hx => by simp at hx) fun x _ z => by simp at z
  · rintro k x H' H2 hk ⟨T, U, e, kp, hDl, mm, dj⟩ y
    obtain ⟨rfl, hx⟩ := y
    have hx' : xs[k]? = some x := hx
    obtain ⟨lk, ek⟩ := List.getElem?_eq_some_iff.mp hx'
    have dk : xs.drop k = x :: xs.drop (k + 1) := by rw [List.drop_eq_getElem_cons lk, ek]
    have hl := m.len
    have lk2 : k < ds.length := by omega
    have dd : ds.drop k = ds[k] :: ds.drop (k + 1) := List.drop_eq_getElem_cons lk2
    rw [dk, dd] at mm
    cases mm with
    | @cons _ _ _ _ _ S1 U1 m1 ms d1 =>
      refine ⟨by show ((σ.set i none).set i (some x)).set i none = σ.set i none; rw [List.set_set, List.set_set], ?_⟩
      dsimp only [tYes]
      rw [if_pos rfl]
      have look : ((wipe σ [i]).set i (some x))[i]? = some (some x) := by
        show ((σ.set i none).set i (some x))[i]? = _
        rw [List.set_set]
        exact List.getElem?_set_self hi
      refine ⟨x, look, ?_⟩
      show self ([x] ++ []) _ _ _
      refine hs x _ S1 _ _ m1 fun H4 k4 => ?_
      have dU : D ∉ S1 := fun z => dS (by rw [e]; exact List.mem_append_right _ (List.mem_append_left _ z))
      refine ⟨_, k4 D _ dU hDl, by rw [List.length_replicate, sizeLine_eq]; omega, T ++ S1, U1, by rw [e, List.append_assoc], ?_, ?_, ?_, ?_⟩
      · intro b o nb eb
        have ne : b ≠ D := ne_of_none eb hD
        rw [upd_ne ne]
        exact (kp.trans k4) b o nb eb
      · rw [upd_same, List.replicate_succ']
      · refine ms.keep (T := D :: S1) (H' := upd H4 D _) (fun b o nb eb => ?_) (fun z hz => ?_) fun z hz hz2 => ?_
        · rw [upd_ne (fun z => nb (by rw [z]; exact List.mem_cons_self ..))]
          exact k4 b o (fun z => nb (List.mem_cons_of_mem _ z)) eb
        · rcases List.mem_cons.mp hz with rfl | hz
          · exact ⟨_, hDl⟩
          · exact m1.lists z hz
        · rcases List.mem_cons.mp hz2 with rfl | hz2
          · exact dS (by rw [e]; exact List.mem_append_right _ (List.mem_append_right _ hz))
          · exact d1 z hz2 hz
      · intro z hz hz2
        rcases List.mem_append.mp hz2 with hz2 | hz2
        · exact dj z (List.mem_append_right _ hz) hz2
        · exact d1 z hz2 hz
  · rintro H' ⟨T, U, e, kp, hDl, _, _⟩
    exact q D H' (kp.sub fun x hx => by rw [e]; exact List.mem_append_left _ hx) hD hDl
theorem mk_tL {n : Nat} {self : Sp} {E : XK} (hs : ∀ v d S H Q, MkOk K H n v d S → MarkQ S H Q → self [v] H Q E) {a : Addr} {xs : List V} {ds : List PyData} {S : List Addr} {i : Nat} {σ : L2.St} {H1 : Hp} (h0 : σ[0]? = some (some (.ref a))) (hL : H1 a = some (.lst xs)) (na : a ∉ S)
    (hi : i < σ.length) (m : MkAll K H1 n xs ds S) (hz : xs.length ≤ 1000000) {Q : VK} (q : ∀ D H', Keeps S H1 H' → H1 D = none → H' D = some (.lst (List.replicate xs.length (.bl true))) → Q (.ref D) H') :
    tLc (orI (iList K (tVar 0)) (iTup K (tVar 0))) (gName i) tYes (tCall self [] E (tCons (tVar i) tNil)) [i] σ H1 Q :=
  .inl ⟨_, h0, a, rfl, ⟨_, .of hL⟩, mk_lc hs walk_list hi m (fun H' k => .of (k _ _ na hL)) hz q⟩
theorem mk_tT {n : Nat} {self : Sp} {E : XK} (hs : ∀ v d S H Q, MkOk K H n v d S → MarkQ S H Q → self [v] H Q E) {a : Addr} {xs : List V} {ds : List PyData} {S : List Addr} {i : Nat} {σ : L2.St} {H1 : Hp} (h0 : σ[0]? = some (some (.ref a))) (hT : SqT K H1 a xs)
    (hi : i < σ.length) (m : MkAll K H1 n xs ds S) (hz : xs.length ≤ 1000000) {Q : VK} (q : ∀ D H', Keeps S H1 H' → H1 D = none → H' D = some (.lst (List.replicate xs.length (.bl true))) → Q (.ref D) H') :
    tLc (orI (iList K (tVar 0)) (iTup K (tVar 0))) (gName i) tYes (tCall self [] E (tCons (tVar i) tNil)) [i] σ H1 Q :=
  .inr ⟨_, h0, a, rfl, ⟨_, hT⟩, mk_lc hs walk_tup hi m (fun H' k => sqt_keep k m.lists hT) hz q⟩
/-- t[-1] -/
theorem opp_last {ds : List PyData} {z : PyData} (h : ds.getLast? = some z) : Op2 K (rIxL K) (.list ds) (.int (-1)) z := fun B H s u v hu hv Q q => by
  cases hv
  cases hu with
  | @lst a us _ h1 a1 =>
    have hl := a1.len
    have ne : ds ≠ [] := fun e => by rw [e] at h; cases h
    have lp : 0 < ds.length := List.length_pos_iff.mpr ne
    have hz : ds[ds.length - 1]? = some z := by rw [← List.getLast?_eq_getElem?]; exact h
    obtain ⟨w, e1, e2⟩ := (a1.mono s).at hz
    refine ⟨_, _, _, w, rfl, rfl, .of (s _ _ h1), ?_, q _ B H (.refl s) ?_⟩
    · unfold atI
      have e3 : ixN us.length (-1) = some (us.length - 1) := by
        unfold ixN
        rw [if_neg (by decide)]
        rw [if_pos (by omega)]
        congr 1
        omega
      rw [e3]
      show us[us.length - 1]? = some w
      rw [hl]
      exact e1
    · exact (a1.at hz).elim fun w2 hw2 => by
        rw [hw2.1] at e1
        cases e1
        exact hw2.2
end
end G
end
section
set_option maxRecDepth 100000
set_option maxHeartbeats 2000000
/-! more of new lists -/
namespace G
open PySem PySem.Spec PyProof.Rows L2
section
variable {K : PySem.W.Frag} {ρ : Rho} {te ta tb : TE} {ns : List Int}
theorem evf_list (h : Ev K ta ρ (.list (ns.map .int))) : EvF K (tCB (rListOf K) (tCons ta tNil)) ρ ns := fun σ B H e s Q q =>
  h σ B H e s _ fun v B1 H1 g hv => by
    cases hv with
    | @lst a xs _ h hs =>
      obtain rfl := daInts hs
      exact ⟨a, _, rfl, .inl (.of (g.sub _ _ h)), fun l hl => q l B1 _ (g.trans (Gr.side g.sub hl _)) (g.sub.free hl) (g.ex.free hl) upd_same⟩
/-- [f(x) for x in xs], ints -/
theorem evf_lc {wi : TI} {g : TG} {vs : List Nat} {es : List PyData} (h : Iter K wi ρ es) (hz : es.length ≤ 1000000) (f : PyData → Int)
    (hs : ∀ e, e ∈ es → ∃ ρ1, TgW K g vs e ρ ρ1 ∧ Ev K te ρ1 (.int (f e))) : EvF K (tLc wi g tYes te vs) ρ (es.map f) := fun σ B H e s Q q =>
  h σ B H e s _ fun J B1 H1 g1 w => fun Dl hD => by
    refine lc_it w (fun i H' => ∃ (B' : Hp), Gr B1 H1 B' H' ∧ B' Dl = none ∧ H' Dl = some (.lst (((es.take i).map f).map .int))) ?_ (fun i H' _ ⟨B', g2, _⟩ => g2.bb.trans g2.sub) ?_ ?_
    · exact ⟨B1, .side g1.sub hD _, g1.sub.free hD, upd_same⟩
    · rintro i x H' H2 hi ⟨B', g2, hB, hH⟩ y
      obtain ⟨B2, el, g3, hel, hx⟩ := y B' g2.bb g2.sub
      obtain ⟨ρ1, ht, hv⟩ := hs el (List.mem_of_getElem? hel)
      have g23 := g2.trans g3
      refine ht σ B2 H2 x (e.mono (g1.bb.trans g23.bb)) g3.sub hx _ fun σ2 e3 hw => ⟨hw, ?_⟩
      dsimp only [tYes]
      rw [if_pos rfl]
      refine hv σ2 B2 H2 e3 g3.sub _ fun u B3 H3 g4 hu => ?_
      cases hu
      have g34 := g3.trans g4
      have h3 : H3 Dl = some (.lst (((es.take i).map f).map .int)) := g34.ex _ _ hH
      have hB3 : B3 Dl = none := g34.keepNone hB (by rw [hH]; simp)
      have gg := g23.trans g4
      have hi2 : i < es.length := hi
      refine ⟨_, h3, by rw [List.length_map, List.length_map, List.length_take, sizeLine_eq]; omega, B3, ⟨fun b o z => ?_, gg.bb, fun b o z => ?_, gg.new⟩, hB3, ?_⟩
      · rw [upd_ne (ne_of_none z hD)]
        exact gg.ex b o z
      · rw [upd_ne (ne_of_none z hB3)]
        exact gg.sub b o z
      · rw [upd_same, List.take_add_one, hel, List.map_append, List.map_append]
        rfl
    · rintro H' ⟨B', g2, hB, hH⟩
      rw [List.take_length] at hH
      exact q Dl B' H' (g1.trans g2) hB (g1.ex.free hD) hH
/-- one of the lists exchanged for a new one -/
theorem Nest.put {B H0 H : Hp} {l a : Addr} {as : List Addr} {tss : List (List Int)} {p : Nat} {ns : List Int} (n : Nest B H0 H l as tss) (h0 : H0 a = none) (hb : B a = none) (ha : H a = some (.lst (ns.map .int))) (na : a ∉ l :: as) (hp : p < as.length) :
    Nest B H0 (upd H l (.lst ((as.map V.ref).set p (.ref a)))) l (as.set p a) (tss.set p ns) := by
  have nal : a ≠ l := fun z => na (by rw [z]; exact List.mem_cons_self ..)
  have nas : a ∉ as := fun z => na (List.mem_cons_of_mem _ z)
  obtain ⟨nl, nn⟩ := List.nodup_cons.mp n.nd
  have sub : ∀ x ∈ as.set p a, x = a ∨ x ∈ as := fun x hx => (List.mem_or_eq_of_mem_set hx).symm
  refine ⟨fun x hx => ?_, fun x hx => ?_, List.nodup_cons.mpr ⟨fun z => ?_, ?_⟩, ?_, by rw [List.length_set, List.length_set]; exact n.len, fun i b t h1 h2 => ?_⟩
  · rcases List.mem_cons.mp hx with rfl | hx
    · exact n.newH x (List.mem_cons_self ..)
    · rcases sub x hx with rfl | hx
      · exact h0
      · exact n.newH x (List.mem_cons_of_mem _ hx)
  · rcases List.mem_cons.mp hx with rfl | hx
    · exact n.newB x (List.mem_cons_self ..)
    · rcases sub x hx with rfl | hx
      · exact hb
      · exact n.newB x (List.mem_cons_of_mem _ hx)
  · rcases sub l z with z | z
    · exact nal z.symm
    · exact nl z
  · rw [List.nodup_iff_pairwise_ne] at *
    rw [List.pairwise_iff_getElem] at nn ⊢
    intro i j hi hj hij
    rw [List.length_set] at hi hj
    rw [List.getElem_set, List.getElem_set]
    split
    · split
      · omega
      · exact fun z => nas (by rw [z]; exact List.getElem_mem ..)
    · split
      · exact fun z => nas (by rw [← z]; exact List.getElem_mem ..)
      · exact nn i j hi hj hij
  · rw [upd_same, List.map_set]
  · have hl := n.len
    by_cases c : i = p
    · subst c
      rw [List.getElem?_set_self hp] at h1
      rw [List.getElem?_set_self (by omega)] at h2
      cases h1
      cases h2
      rw [upd_ne nal]
      exact ha
    · rw [List.getElem?_set_ne (fun z => c z.symm)] at h1 h2
      rw [upd_ne fun z => nl (by rw [← z]; exact List.mem_of_getElem? h1)]
      exact n.at_i i b t h1 h2
/-- (orders, xs, total), xs a name of such a list -/
theorem ret_nest {j : Nat} {os : List Int} {tss : List (List Int)} {tot : Int} {σ : L2.St} {B0 H0 B H : Hp} {l : Addr} {as : List Addr} {D : Ends} (ho : Ev K ta ρ (.tuple (os.map .int))) (ht : Ev K tb ρ (.int tot)) (e : EnvOk K B σ ρ) (g : Gr B0 H0 B H) (hj : σ[j]? = some (some (.ref l))) (n : Nest B H0 H l as tss)
    (q : SysQ K os tss tot B0 H0 D.rt) : tRet (tTup (tCons ta (tCons (tVar j) (tCons tb tNil)))) D σ H :=
  ho σ B H e g.sub _ fun ov B1 H1 g1 hv => ⟨_, hj, ht σ B1 H1 (e.mono g1.bb) g1.sub _ fun v B3 H3 g3 hi => by
    cases hi
    refine ⟨by show 3 ≤ sizeLine; decide, fun p hp => ?_⟩
    have gg := (g.trans g1).trans g3
    have gp := Gr.side g3.sub hp (.tup [ov, .ref l, .int tot])
    exact q p ov l as B3 _ (gg.trans gp) ⟨((n.mono g1).mono g3).mono gp, gg.ex.free hp, g3.sub.free hp, upd_same, hv.mono g3.bb⟩⟩
theorem ix_nat {n i : Nat} (h : i < n) : ixN n (i : Int) = some i := by
  unfold ixN
  rw [if_pos (by omega), if_pos (by omega), Int.toNat_natCast]
/-- xs = f(..); xs[i] = [..]; return (orders, xs, total) -/
theorem doq_put {j jp p : Nat} {os ns : List Int} {tss : List (List Int)} {tot : Int} {tc tl : TE} (hc : EvQ K (NestQ tss) tc ρ) (hl : EvF K tl (ρ.set j none) ns) (hp : (ρ.set j none)[jp]? = some (some (.int (p : Int)))) (lp : p < tss.length) (lj : j < ρ.length)
    (ho : Ev K ta (ρ.set j none) (.tuple (os.map .int))) (ht : Ev K tb (ρ.set j none) (.int tot)) :
    DoQ K (SysQ K os (tss.set p ns) tot) (tSeq (tAsg tc (gName j)) (tSeq (tAsg tl (gSub (tVar j) (tVar jp) rSetL)) (tRet (tTup (tCons ta (tCons (tVar j) (tCons tb tNil))))))) ρ := fun σ B H D e s q =>
  hc σ B H e s _ fun l as B1 H1 g1 n => by
    have e1 : EnvOk K B1 (σ.set j (some (.ref l))) (ρ.set j none) := (e.mono g1.bb).forget _ j
    have lk : (σ.set j (some (.ref l)))[j]? = some (some (.ref l)) := List.getElem?_set_self (by rw [e.len]; exact lj)
    refine hl _ B1 H1 e1 g1.sub _ fun a B2 H2 g2 hBa hHa hla => ?_
    have n2 := n.mono g2
    have na : a ∉ l :: as := fun z => n.full a z hHa
    obtain ⟨v, e3, e4⟩ := e1.look jp _ hp
    cases e4
    have lp2 : p < as.length := by rw [n.len]; exact lp
    refine ⟨_, lk, _, e3, l, as.map V.ref, _, p, rfl, rfl, n2.at_l, by rw [List.length_map]; exact ix_nat lp2, ?_⟩
    have n3 := n2.put (p := p) (g1.ex.free hHa) hBa hla na lp2
    have bl : B2 l = none := n2.newB l (List.mem_cons_self ..)
    have hl0 : H l = none := n2.newH l (List.mem_cons_self ..)
    have g12 := g1.trans g2
    have gg : Gr B H B2 (upd H2 l (.lst ((as.map V.ref).set p (.ref a)))) := ⟨fun b o z => by
      rw [upd_ne (ne_of_none z hl0)]
      exact g12.ex b o z, g12.bb, fun b o z => by
      rw [upd_ne (ne_of_none z bl)]
      exact g12.sub b o z, g12.new⟩
    exact ret_nest ho ht (e1.mono g2.bb) gg lk n3 q
/-- [z] * n -/
theorem evf_rep {z : Int} {n : Nat} (h : Ev K tb ρ (.int (n : Int))) (hn : n ≤ 1000000) : EvF K (tOp rMulA (tLst (tCons (tC (.int z)) tNil)) tb) ρ (List.replicate n z) := fun σ B H e s Q q =>
  ⟨by show 1 ≤ sizeLine; decide, fun p hp => by
    have g0 := Gr.side s hp (.lst [.int z])
    refine h σ B _ e g0.sub _ fun v B1 H1 g1 hv => ?_
    cases hv
    refine .inr ⟨p, _, [.int z], rfl, rfl, g1.ex _ _ upd_same, by omega, by omega, by rw [Int.toNat_natCast, sizeLine_eq]; show 1 * n ≤ _; omega, fun l hl => ?_⟩
    have g01 := g0.trans g1
    refine q l B1 _ (g01.trans (Gr.side g1.sub hl _)) (g1.sub.free hl) (g01.ex.free hl) ?_
    rw [upd_same, Int.toNat_natCast, List.map_replicate]
    congr 2
    induction n with
    | zero => rfl
    | succ n ih => rw [List.replicate_succ, List.flatten_cons, List.replicate_succ]; exact congrArg (V.int z :: ·) (by clear q g1 g01 h hn; clear ih; induction n with | zero => rfl | succ n ih => rw [List.replicate_succ, List.flatten_cons, List.replicate_succ]; exact congrArg (V.int z :: ·) ih)⟩
end
end G
end
section
set_option maxRecDepth 100000
set_option maxHeartbeats 2000000
/-! sorted(xs) of ints, x in texts -/
namespace G
open PySem PySem.Spec PyProof.Rows L2
theorem sortK {X : Cx} (K : PySem.W.Frag) (h : X.K = K := by rfl) : CallR X (.builtin "sorted") (rSortedI K) := h ▸ cr_sortedI
theorem sorted_uniq : ∀ {a b : List Int}, a.Perm b → a.Pairwise (· ≤ ·) → b.Pairwise (· ≤ ·) → a = b
  | [], b, p, _, _ => p.nil_eq
  | x :: a, [], p, _, _ => absurd p.length_eq (by simp)
  | x :: a, y :: b, p, ha, hb => by
    obtain ⟨a1, a2⟩ := List.pairwise_cons.mp ha
    obtain ⟨b1, b2⟩ := List.pairwise_cons.mp hb
    have hx : x ∈ y :: b := p.mem_iff.mp (List.mem_cons_self ..)
    have hy : y ∈ x :: a := p.mem_iff.mpr (List.mem_cons_self ..)
    have e : x = y := by
      rcases List.mem_cons.mp hx with h | h
      · exact h
      · rcases List.mem_cons.mp hy with h2 | h2
        · exact h2.symm
        · have := b1 x h
          have := a1 y h2
          omega
    subst e
    rw [sorted_uniq p.cons_inv a2 b2]
section
variable {K : PySem.W.Frag}
theorem fn_sorted {ns ms : List Int} (p : ms.Perm ns) (s : ms.Pairwise (· ≤ ·)) (hz : ns.length ≤ 1000000) : Fn K (rSortedI K) [.list (ns.map .int)] (.list (ms.map .int)) := fun B H sm us hu Q q => by
  cases hu with
  | cons h t =>
    cases t
    cases h with
    | @lst a xs _ h1 a1 =>
      obtain rfl := daInts a1
      refine ⟨a, ns, rfl, .of (sm _ _ h1), ?_⟩
      first
        | exact fun ns' l h2 h3 hl => by
            obtain rfl := sorted_uniq (h2.trans p.symm) h3 s
            exact q _ _ _ (Gr.add sm hl _) (.lst upd_same (daIn _))
        | exact ⟨by rw [sizeLine_eq]; omega, fun ns' l h2 h3 hl => by
            obtain rfl := sorted_uniq (h2.trans p.symm) h3 s
            exact q _ _ _ (Gr.add sm hl _) (.lst upd_same (daIn _))⟩
theorem daStrs : ∀ {vs : List V} {cs : List Str} {B : Hp}, DaAll K B vs (cs.map .str) → vs = cs.map .str
  | [], [], _, _ => rfl
  | _, [], _, h => by cases h; rfl
  | _, c :: cs, _, h => by
    cases h with
    | cons h1 t =>
      cases h1
      rw [daStrs t]
      rfl
theorem opp_inS {c : Str} {cs : List Str} (h : c ∈ cs) : Op2 K (rIn K false) (.str c) (.list (cs.map .str)) (.bool true) := fun B H s u v hu hv Q q => by
  cases hu
  cases hv with
  | @lst a xs _ h1 a1 =>
    obtain rfl := daStrs a1
    refine ⟨a, _, rfl, .inl (.of (s _ _ h1)), rfl, ?_, q _ B H (.refl s) ?_⟩
    · rw [List.all_eq_true]
      intro y hy
      obtain ⟨z, _, rfl⟩ := List.mem_map.mp hy
      rfl
    · have e : inV (.str c) (cs.map V.str) = true := by
        unfold inV
        rw [List.any_eq_true]
        exact ⟨.str c, List.mem_map.mpr ⟨c, h, rfl⟩, by simp [eqV]⟩
      rw [e]
      exact .bl _
end
end G
end
section
set_option maxRecDepth 100000
set_option maxHeartbeats 2000000
/-! names bound by a tuple, what draws; loans and marks -/
namespace G
open PySem PySem.Spec PyProof.Rows L2
section
variable {K : PySem.W.Frag} {i : Nat} {ρ : Rho} {c : Nat} {N : Rho → Nat → Prop} {R : PyData → Nat → Prop} {te : TE} {P : PyData → Nat → Prop}
theorem dg_asg2 {j l : Nat} (h : Eg K i te ρ c P) (hj : j ≠ i) (hl : l ≠ i) (k : ∀ d c', P d c' → ∃ x y, d = .tuple [x, y] ∧ N ((ρ.set j (some x)).set l (some y)) c') : Dg K i (tAsg te (gTup K 2 (gCons (gName j) (gCons (gName l) gNil)))) ρ c N R := fun g σ B H D e s n nx _ =>
  h g σ B H e s n _ fun v B' H' d c' gg n' hv p => by
    obtain ⟨x, y, rfl, hn⟩ := k d c' p
    cases hv with
    | tup h1 a =>
      cases a with
      | cons a1 t =>
        cases t with
        | cons a2 t =>
          cases t
          exact ⟨_, _, rfl, same_t gg.sub h1, rfl, _, _, rfl, _, _, rfl, rfl, nx _ B' H' _ c' gg (((e.to gg).set a1 hj).set a2 hl) n' hn⟩
theorem dg_asg3 {j l m : Nat} (h : Eg K i te ρ c P) (hj : j ≠ i) (hl : l ≠ i) (hm : m ≠ i) (k : ∀ d c', P d c' → ∃ x y z, d = .tuple [x, y, z] ∧ N (((ρ.set j (some x)).set l (some y)).set m (some z)) c') :
    Dg K i (tAsg te (gTup K 3 (gCons (gName j) (gCons (gName l) (gCons (gName m) gNil))))) ρ c N R := fun g σ B H D e s n nx _ =>
  h g σ B H e s n _ fun v B' H' d c' gg n' hv p => by
    obtain ⟨x, y, z, rfl, hn⟩ := k d c' p
    cases hv with
    | tup h1 a =>
      cases a with
      | cons a1 t =>
        cases t with
        | cons a2 t =>
          cases t with
          | cons a3 t =>
            cases t
            exact ⟨_, _, rfl, same_t gg.sub h1, rfl, _, _, rfl, _, _, rfl, _, _, rfl, rfl, nx _ B' H' _ c' gg ((((e.to gg).set a1 hj).set a2 hl).set a3 hm) n' hn⟩
theorem dg_par3 {j l m : Nat} {ta : TA} {P : List PyData → Nat → Prop} (h : El K i ta ρ c P) (hj : j ≠ i) (hl : l ≠ i) (hm : m ≠ i) (k : ∀ ds c', P ds c' → ∃ x y z, ds = [x, y, z] ∧ N (((ρ.set j (some x)).set l (some y)).set m (some z)) c') : Dg K i (tPar3 j l m ta) ρ c N R := fun g σ B H D e s n nx _ =>
  h g σ B H e s n _ fun vs B' H' ds c' gg n' hv p => by
    obtain ⟨x, y, z, rfl, hn⟩ := k ds c' p
    cases hv with
    | cons h1 r =>
      cases r with
      | cons h2 r =>
        cases r with
        | cons h3 r =>
          cases r
          exact ⟨_, _, _, rfl, nx _ B' H' _ c' gg ((((e.to gg).set h1 hj).set h2 hl).set h3 hm) n' hn⟩
theorem egb_test {P : Bool → Nat → Prop} (h : Eg K i te ρ c fun d c' => ∃ b, d = .bool b ∧ P b c') : Egb K i (tTest te) ρ c P := fun g σ B H e s n Q q =>
  h g σ B H e s n _ fun v B' H' d c' gg n' hv ⟨b, hd, p⟩ => by
    subst hd
    cases hv
    exact ⟨b, rfl, q b B' H' c' gg n' p⟩
theorem dg_ifD {tt : TT} {t u : TS} {P : Bool → Nat → Prop} (h : Egb K i tt ρ c P) (h1 : ∀ c', P true c' → Dg K i t ρ c' N R) (h2 : ∀ c', P false c' → Dg K i u ρ c' N R) : Dg K i (tIfS tt t u) ρ c N R := fun g σ B H D e s n nx r =>
  h g σ B H e s n _ fun b B1 H1 c1 g1 n1 p => by
    cases b with
    | true => exact iteT (h1 c1 p g σ B1 H1 D (e.to g1) g1.sub n1 (fun σ2 B2 H2 ρ2 c2 g2 => nx σ2 B2 H2 ρ2 c2 (g1.trans g2)) fun v B2 H2 d c2 g2 => r v B2 H2 d c2 (g1.trans g2))
    | false => exact iteF (h2 c1 p g σ B1 H1 D (e.to g1) g1.sub n1 (fun σ2 B2 H2 ρ2 c2 g2 => nx σ2 B2 H2 ρ2 c2 (g1.trans g2)) fun v B2 H2 d c2 g2 => r v B2 H2 d c2 (g1.trans g2))
theorem egb_or {tt tu : TT} {m : Nat} {P : Bool → Nat → Prop} (h : Egb K i tt ρ c fun b c' => b = false ∧ c' ≤ m) (k : ∀ c', c' ≤ m → Egb K i tu ρ c' P) : Egb K i (tOr tt tu) ρ c P := fun g σ B H e s n Q q =>
  h g σ B H e s n _ fun b B1 H1 c1 g1 n1 ⟨hb, hm⟩ => by
    subst hb
    exact iteF (k c1 hm g σ B1 H1 (e.to g1) g1.sub n1 Q fun b B2 H2 c2 g2 => q b B2 H2 c2 (g1.trans g2))
theorem EnvOk.weak {B : Hp} {σ : L2.St} {ρ ρ' : Rho} (h : EnvOk K B σ ρ) (hl : ρ'.length = ρ.length) (k : ∀ (i : Nat) (d : PyData), ρ'[i]? = some (some d) → ρ[i]? = some (some d)) : EnvOk K B σ ρ' := ⟨by rw [h.len, hl], fun i d q => h.look i d (k i d q)⟩
/-- a loan's end as the last of a suite -/
theorem dl_markN {j : Nat} {os : List Int} {tss : List (List Int)} {tot : Int} {t : TS} {sm : Sp} {E : XK} (hm : ∀ B H0 H p ov l as Q, Loan K B H0 H p ov l as os tss tot → Same B H → MarkQ (l :: as) H Q → sm [.ref p] H Q E) (k : N ρ c) :
    Dl K i j os tss tot (tIfS (tNot (tB (tCall sm [] E (tCons (tVar j) tNil)))) t tNext) ρ c N R := fun g σ B H0 H D p ov l as e n hp gg gen0 gen nx r =>
  ⟨.ref p, hp, hm B H0 H p ov l as _ n gg.sub fun H1 kk => ⟨true, rfl, iteF (by
    obtain ⟨gg1, gen1⟩ := n.marked gg gen0 gen kk
    exact nx σ B H1 ρ c gg1 e gen1 k)⟩⟩
/-- a if t else b, what draws -/
theorem eg_if {tt : TT} {ta tb : TE} {b : Bool} (h : EvB K tt ρ b) (h1 : b = true → Eg K i ta ρ c P) (h2 : b = false → Eg K i tb ρ c P) : Eg K i (tIf tt ta tb) ρ c P := fun g σ B H e s n Q q =>
  h σ B H e.env s _ fun B1 H1 k => by
    have g1 : Gg g B H B1 H1 := .of k e.gone n.ne
    have n1 := n.same k.ex
    cases b with
    | true => exact iteT (h1 rfl g σ B1 H1 (e.to g1) g1.sub n1 Q fun v B2 H2 d c2 g2 => q v B2 H2 d c2 (g1.trans g2))
    | false => exact iteF (h2 rfl g σ B1 H1 (e.to g1) g1.sub n1 Q fun v B2 H2 d c2 g2 => q v B2 H2 d c2 (g1.trans g2))
end
section
variable {K : PySem.W.Frag}
theorem mk_ints {H : Hp} {n : Nat} : ∀ ns : List Int, MkAll K H n (ns.map .int) (ns.map .int) []
  | [] => .nil
  | z :: ns => .cons (S := []) (T := []) (.int z) (mk_ints ns) fun x hx => by simp at hx
theorem mk_tabs {H : Hp} {n : Nat} : ∀ {as : List Addr} {tss : List (List Int)}, as.Nodup → as.length = tss.length → (∀ (i : Nat) (a : Addr) (t : List Int), as[i]? = some a → tss[i]? = some t → H a = some (.lst (t.map .int))) → (∀ t ∈ tss, t.length ≤ 1000000) →
    MkAll K H (n + 1) (as.map V.ref) (tss.map fun t => .list (t.map .int)) as
  | [], [], _, _, _, _ => .nil
  | [], _ :: _, _, h, _, _ => by simp at h
  | _ :: _, [], _, h, _, _ => by simp at h
  | a :: as, t :: tss, nd, h, f, z => by
    obtain ⟨n1, n2⟩ := List.nodup_cons.mp nd
    have m := mk_tabs (n := n) n2 (by simpa using h) (fun i b u h1 h2 => f (i + 1) b u (by simpa using h1) (by simpa using h2)) fun u hu => z u (List.mem_cons_of_mem _ hu)
    have q := MkAll.cons (MkOk.lst (K := K) (n := n) (f 0 a t rfl rfl) (by rw [List.length_map]; exact z t (List.mem_cons_self ..)) (mk_ints t) (by simp)) m fun x hx => by
      have : x = a := by simpa using hx
      rw [this]
      exact n1
    exact q
theorem loan_mk {B H0 H : Hp} {p : Addr} {ov : V} {l : Addr} {as : List Addr} {os : List Int} {tss : List (List Int)} {tot : Int} (n : Loan K B H0 H p ov l as os tss tot) (s : Same B H) (ho : os.length ≤ 1000000) (ht : tss.length ≤ 1000000) (hz : ∀ t ∈ tss, t.length ≤ 1000000) :
    MkOk K H 3 (.ref p) (sysT os tss tot) (l :: as) := by
  obtain ⟨nl, nn⟩ := List.nodup_cons.mp n.nest.nd
  have m1 : MkOk K H 2 (.ref l) (.list (tss.map fun t => .list (t.map .int))) (l :: as) := .lst n.nest.at_l (by rw [List.length_map, n.nest.len]; exact ht) (mk_tabs nn n.nest.len n.nest.at_i hz) nl
  have m0 : MkOk K H 2 ov (.tuple (os.map .int)) [] := by
    have po := n.po
    cases po with
    | @tup a xs _ h1 a1 =>
      obtain rfl := daInts a1
      exact .tup (same_t s h1) (by rw [List.length_map]; exact ho) (mk_ints os)
  have q : MkAll K H 2 [ov, .ref l, .int tot] [.tuple (os.map .int), .list (tss.map fun t => .list (t.map .int)), .int tot] ([] ++ ((l :: as) ++ ([] ++ []))) :=
    .cons m0 (.cons m1 (.cons (.int tot) .nil fun x hx => by simp at hx) fun x _ h => by simp at h) fun x hx => by simp at hx
  have e : ([] ++ ((l :: as) ++ ([] ++ []))) = l :: as := by simp
  rw [e] at q
  exact .tup (.of n.pt) (by show 3 ≤ 1000000; decide) q
end
theorem bmK {X : Cx} (K : PySem.W.Frag) {o e : Expr} {es : List Expr} {to : TE} {t : TA} {name : Str} {apos cpos : Pos} {T id : String} {r : V → List V → Hp → VK → Prop} (pa : PlainAttrs T) (slot : Slot T name id) (hty : typeOf (.builtin id) = pure (.type "method_descriptor")) (hm : MtR X id r) (ho : PE X o to) (ha : PA X (e :: es) t) (h : X.K = K := by rfl)
    (hbase : attributeBase o name X.env (eval o X.env) = eval o X.env := by rfl)
    (hfew : ((backTo cpos (starEach (e :: es) X.env)).all (fun x => !x.1) && (backToKw cpos (keywordEach [] X.env)).all (fun x => x.1.isSome)
      && decide ((e :: es).length + ([] : List Keyword).length + (if ([] : List Keyword).isEmpty then 0 else 1) < 30)) = true := by rfl)
    (hline : (apos.endLine == cpos.line) = true := by rfl) (hs : starEach (e :: es) X.env = (false, eval e X.env) :: starEach es X.env := by rfl) (hplain : (backTo cpos (starEach es X.env)).any (·.1) = false := by rfl) :
    PE X (.Call (.Attribute o name apos) (e :: es) [] cpos) (tBM K T r to t) := h ▸ pe_bm pa slot hty hm ho ha hbase hfew hline hs hplain
/-- small data: lists of it are shown, too -/
structure PlS (d : PyData) : Prop where
  p : pl d = true
  dep : d.depth ≤ 10
  blk : d.bulk ≤ 20000
theorem PlS.pl {d : PyData} (h : PlS d) : Pl d := ⟨h.p, by have := h.dep; omega, by have := h.blk; omega⟩
theorem PlS.list {ds : List PyData} (h : ∀ d ∈ ds, PlS d) (hl : ds.length ≤ 20) : Pl (.list ds) := by
  refine ⟨pl_list fun d hd => (h d hd).p, ?_, ?_⟩
  · have := depth_list fun d hd => (h d hd).dep
    omega
  · have a := bulk_list fun d hd => (h d hd).blk
    have : ds.length * (20000 + 1) ≤ 20 * 20001 := Nat.mul_le_mul_right _ hl
    omega
theorem PlS.ints {ns : List Int} (h : ∀ n ∈ ns, n.natAbs < 10 ^ 12) (hl : ns.length ≤ 20000) : PlS (.list (ns.map .int)) :=
  ⟨pl_list (pl_ints h), by have := depth_list (depth_ints ns); omega, by have := bulk_list (bulk_ints ns); rw [List.length_map] at this; omega⟩
end G
end
section
set_option maxRecDepth 100000
set_option maxHeartbeats 0
namespace K08
open PySem PySem.Spec PyProof.Rows L2
def top (i : Nat) : Stmt := PySem.Challenge.pw_checkwright_k08_whole_systems_turned.main.body.getD i (.Pass ⟨0, 0, 0, 0⟩)
abbrev s_is_whole : Stmt := top 10
abbrev s_is_from : Stmt := top 11
abbrev s_is_below : Stmt := top 12
abbrev s_are_below : Stmt := top 13
abbrev s_is_each_once : Stmt := top 14
abbrev s_size_of : Stmt := top 15
abbrev s_plus : Stmt := top 16
abbrev s_minus : Stmt := top 17
abbrev s_are_orders : Stmt := top 19
abbrev s_check_member : Stmt := top 20
abbrev s_is_system : Stmt := top 22
abbrev s_check_system : Stmt := top 23
abbrev s_with_signs : Stmt := top 25
abbrev s_reordered : Stmt := top 26
abbrev s_added_to : Stmt := top 27
abbrev s_fixed_at : Stmt := top 28
abbrev s_put_together : Stmt := top 29
abbrev s_check_place : Stmt := top 30
abbrev s_copied : Stmt := top 31
abbrev s_renamed_table : Stmt := top 32
abbrev s_law_hash : Stmt := top 34
abbrev s_law_random : Stmt := top 35
abbrev s_law_cell : Stmt := top 36
abbrev s_law_generator : Stmt := top 37
abbrev s_law_size : Stmt := top 38
abbrev s_law_parts : Stmt := top 39
abbrev s_law_from : Stmt := top 40
abbrev s_law_plus : Stmt := top 41
abbrev s_law_less : Stmt := top 42
abbrev s_law_off : Stmt := top 43
abbrev s_law_shuffled : Stmt := top 44
abbrev s_law_orders : Stmt := top 45
abbrev s_law_system : Stmt := top 46
abbrev s_law_code : Stmt := top 47
abbrev s_law_put : Stmt := top 48
abbrev s_law_righted : Stmt := top 49
abbrev s_law_all : Stmt := top 50
abbrev s_law_is_system : Stmt := top 51
abbrev s_law_marked : Stmt := top 52
abbrev s_law_turned_right : Stmt := top 53
abbrev s_law_cut_right : Stmt := top 54
abbrev s_law : Stmt := top 55
abbrev mkD (x : Str) (st : Stmt) : He.DefD := ⟨(x, none), x, x, defArgs st, defBody st, defScope st, [], []⟩
def fn0 : List He.DefD := [mkD "is_whole" s_is_whole, mkD "is_from" s_is_from, mkD "is_below" s_is_below, mkD "are_below" s_are_below, mkD "is_each_once" s_is_each_once, mkD "size_of" s_size_of, mkD "plus" s_plus, mkD "minus" s_minus, mkD "are_orders" s_are_orders, mkD "check_member" s_check_member, mkD "is_system" s_is_system, mkD "check_system" s_check_system, mkD "with_signs" s_with_signs, mkD "reordered" s_reordered, mkD "added_to" s_added_to, mkD "fixed_at" s_fixed_at, mkD "put_together" s_put_together, mkD "check_place" s_check_place, mkD "copied" s_copied, mkD "renamed_table" s_renamed_table]
def fn1 : List He.DefD := [mkD "_law_hash" s_law_hash, mkD "_law_random" s_law_random, mkD "_law_cell" s_law_cell, mkD "_law_generator" s_law_generator, mkD "_law_size" s_law_size, mkD "_law_parts" s_law_parts, mkD "_law_from" s_law_from, mkD "_law_plus" s_law_plus, mkD "_law_less" s_law_less, mkD "_law_off" s_law_off, mkD "_law_shuffled" s_law_shuffled, mkD "_law_orders" s_law_orders, mkD "_law_system" s_law_system, mkD "_law_code" s_law_code, mkD "_law_put" s_law_put, mkD "_law_righted" s_law_righted, mkD "_law_all" s_law_all, mkD "_law_is_system" s_law_is_system, mkD "_law_marked" s_law_marked, mkD "_law_turned_right" s_law_turned_right]
def fn2 : List He.DefD := [mkD "_law_cut_right" s_law_cut_right, mkD "law" s_law]
def fn : List He.DefD := fn0 ++ fn1 ++ fn2
def fa0 : List He.Fa := [.glo "is_whole", .glo "is_from", .glo "is_below", .glo "are_below", .glo "is_each_once", .glo "size_of", .glo "plus", .glo "minus", .glo "are_orders", .glo "check_member", .glo "is_system", .glo "check_system", .glo "with_signs", .glo "reordered", .glo "added_to", .glo "fixed_at", .glo "put_together", .glo "check_place", .glo "copied", .glo "renamed_table", .glo "_law_hash", .glo "_law_random", .glo "_law_cell", .glo "_law_generator", .glo "_law_size", .glo "_law_parts", .glo "_law_from", .glo "_law_plus", .glo "_law_less", .glo "_law_off"]
def fa1 : List He.Fa := [.glo "_law_shuffled", .glo "_law_orders", .glo "_law_system", .glo "_law_code", .glo "_law_put", .glo "_law_righted", .glo "_law_all", .glo "_law_is_system", .glo "_law_marked", .glo "_law_turned_right", .glo "_law_cut_right", .glo "law", .free "ValueError", .free "all", .free "bool", .free "int", .free "isinstance", .free "len", .free "list", .free "max", .free "range", .free "repr", .free "reversed", .free "set", .free "sorted", .free "sum", .free "tuple", .free "zip"]
def fa : List He.Fa := fa0 ++ fa1
abbrev R : PySem.W.OpenRow := PySem.W.OpenLaw.row PySem.Challenge.rw_checkwright_k08_whole_systems_turned
abbrev hk : PySem.W.Hook := He.hookD 4 fa fn
def ob (s : PySem.W.SharedT) : He.AlD := He.obsDG 4 fa fn (HandSHeadRun.getT s)
theorem ob_eq (s : PySem.W.SharedT) : ob s = hk.obs s.abs := He.obsDG_eq (HandSHeadRun.getT_eq s)
def ls0 : List PySem.Str := ["is_whole", "is_from", "is_below", "are_below", "is_each_once", "size_of", "plus", "minus", "are_orders", "check_member", "is_system", "check_system", "with_signs", "reordered", "added_to", "fixed_at", "put_together", "check_place", "copied", "renamed_table", "_law_hash", "_law_random", "_law_cell", "_law_generator", "_law_size", "_law_parts", "_law_from", "_law_plus", "_law_less", "_law_off"]
def ls1 : List PySem.Str := ["_law_shuffled", "_law_orders", "_law_system", "_law_code", "_law_put", "_law_righted", "_law_all", "_law_is_system", "_law_marked", "_law_turned_right", "_law_cut_right", "CheckError", "InvalidNumber", "InvalidOrders", "InvalidMember", "InvalidTable", "InvalidRow", "InvalidSystem", "Stuck"]
def ls : List PySem.Str := ls0 ++ ls1
theorem run (w : World) : HandSHeadRun.RunEq R (PySem.W.view R.prog [55]) hk ob 3800 ls w := by
  intro os
  kernel_rfl
end K08
end
section
set_option maxRecDepth 100000
set_option maxHeartbeats 4000000
namespace K08
open PySem PySem.Spec PyProof.Rows L2 G Lin
local macro_rules | `(tactic| walk_at "ev") => `(tactic| first
  | exact ev_var rfl | exact ev_int | exact ev_bl | exact ev_non | exact ev_str
  | (apply ev_op; (focus walk_at "ev"); (focus walk_at "ev"); (focus walk_at "op"))
  | (apply ev_cb; (focus walk_at "el"); (focus walk_at "fn"))
  | (apply ev_lst; (focus walk_at "el"); (show _ ≤ sizeLine; decide))
  | (apply ev_tup; (focus walk_at "el"); (show _ ≤ sizeLine; decide)))
local macro_rules | `(tactic| walk_at "el") => `(tactic| first
  | exact el_nil
  | (apply el_cons; (focus walk_at "ev"); (focus walk_at "el")))
local macro_rules | `(tactic| walk_at "fn") => `(tactic| first
  | exact fn_int | exact fn_len | exact fn_all | exact fn_listL | exact fn_listT)
local macro_rules | `(tactic| walk_at "op") => `(tactic| first
  | exact op_I0 (fun _ => .int _) | exact op_I0 (fun _ => .bl _) | exact opp_1 (op_I0 fun _ => .int _)
  | exact op_I (by show (_ : Int) ≠ 0; decide) (fun _ => .int _)
  | exact op_I (by assumption) (fun _ => .int _)
  | exact opp_1 (op_I (by assumption) fun _ => .int _)
  | exact opp_1 (opp_ixL (i := 0) rfl) | exact opp_2 (opp_ixT (i := 0) rfl) | exact opp_2 (opp_ixT (i := 1) rfl) | exact opp_2 (opp_ixT (i := 2) rfl))
/-! what each def does, by data -/
def isBelowD (x : PyData) (n : Int) : Bool := match x with
  | .int i => decide (0 ≤ i) && decide (i < n)
  | _ => false
def isFromD (x : PyData) (n : Int) : Bool := match x with
  | .int i => decide (n ≤ i)
  | _ => false
def isWholeD (x : PyData) : Bool := isIntD x && !isBoolD x
abbrev intsD (ns : List Int) : List PyData := ns.map .int
def p_is_whole (ds : List PyData) (d : PyData) : Prop := ∃ x, ds = [x] ∧ d = .bool (isWholeD x)
def p_is_below (ds : List PyData) (d : PyData) : Prop := ∃ x n, ds = [x, .int n] ∧ d = .bool (isBelowD x n)
def p_is_from (ds : List PyData) (d : PyData) : Prop := ∃ x n, ds = [x, .int n] ∧ d = .bool (isFromD x n)
def p_are_below (ds : List PyData) (d : PyData) : Prop := ∃ ns n, ds = [.list (intsD ns), .int n] ∧ ns.length ≤ 1000 ∧ (∀ x ∈ ns, 0 ≤ x ∧ x < n) ∧ d = .bool true
def p_is_each_once (ds : List PyData) (d : PyData) : Prop := ∃ (ns : List Int) (n : Nat), ds = [.list (intsD ns), .int n] ∧ ns.length = n ∧ n ≤ 1000 ∧ (∀ x ∈ ns, 0 ≤ x ∧ x < n) ∧ ns.Nodup ∧ d = .bool true
def prodI (os : List Int) : Int := os.foldl (· * ·) 1
def Ords (os : List Int) : Prop := os ≠ [] ∧ (∀ o ∈ os, 2 ≤ o) ∧ prodI os ≤ 1000
def p_size_of (ds : List PyData) (d : PyData) : Prop := ∃ os, ds = [.tuple (intsD os)] ∧ Ords os ∧ d = .int (prodI os)
theorem ar_is_whole (ds : List PyData) (d : PyData) (h : p_is_whole ds d) : ds.length = 1 := by obtain ⟨x, rfl, _⟩ := h; rfl
theorem ar_is_below (ds : List PyData) (d : PyData) (h : p_is_below ds d) : ds.length = 2 := by obtain ⟨x, n, rfl, _⟩ := h; rfl
theorem ar_is_from (ds : List PyData) (d : PyData) (h : p_is_from ds d) : ds.length = 2 := by obtain ⟨x, n, rfl, _⟩ := h; rfl
theorem ar_are_below (ds : List PyData) (d : PyData) (h : p_are_below ds d) : ds.length = 2 := by obtain ⟨x, n, rfl, _⟩ := h; rfl
theorem ar_is_each_once (ds : List PyData) (d : PyData) (h : p_is_each_once ds d) : ds.length = 2 := by obtain ⟨x, n, rfl, _⟩ := h; rfl
theorem ar_size_of (ds : List PyData) (d : PyData) (h : p_size_of ds d) : ds.length = 1 := by obtain ⟨x, rfl, _⟩ := h; rfl
theorem sh_int (i : Int) : SeqAt.shaped (.int i) = true := by simp [SeqAt.shaped, PyData.canLay0, PyData.depth]
theorem eqv_int (i j : Int) : PyData.eqv (.int i) (.int j) = (i == j) := by simp [PyData.eqv]
theorem at_ints {ns : List Int} {i : Nat} {e : PyData} (h : (intsD ns)[i]? = some e) : ∃ o, ns[i]? = some o ∧ e = .int o := by
  rw [List.getElem?_map] at h
  cases q : ns[i]? with
  | none => rw [q] at h; cases h
  | some o => rw [q] at h; exact ⟨o, rfl, (Option.some.inj h).symm⟩
theorem take_prod {os : List Int} {i : Nat} {o : Int} (h : os[i]? = some o) : prodI (os.take (i + 1)) = prodI (os.take i) * o := by
  unfold prodI
  rw [List.take_add_one, h, List.foldl_append]
  rfl
theorem prod_from (os : List Int) : ∀ z : Int, os.foldl (· * ·) z = z * prodI os := by
  induction os with
  | nil => intro z; show z = z * 1; omega
  | cons o os ih =>
    intro z
    show os.foldl (· * ·) (z * o) = z * (os.foldl (· * ·) (1 * o))
    rw [ih, ih (1 * o), Int.one_mul, Int.mul_assoc]
theorem prod_app (a b : List Int) : prodI (a ++ b) = prodI a * prodI b := by
  show (a ++ b).foldl (· * ·) 1 = _
  rw [List.foldl_append, prod_from]
  rfl
theorem prod_pos : ∀ {os : List Int}, (∀ o ∈ os, 2 ≤ o) → 1 ≤ prodI os
  | [], _ => Int.le_refl 1
  | o :: os, h => by
    have q := prod_pos (os := os) fun x hx => h x (List.mem_cons_of_mem _ hx)
    have e : prodI (o :: os) = o * prodI os := by
      show os.foldl (· * ·) (1 * o) = _
      rw [prod_from, Int.one_mul]
    have h2 := h o (List.mem_cons_self ..)
    rw [e]
    have := Int.mul_le_mul (a := 1) (b := 1) (c := o) (d := prodI os) (by omega) q (by omega) (by omega)
    omega
theorem prod_take_le {os : List Int} (h : Ords os) (i : Nat) : 1 ≤ prodI (os.take i) ∧ prodI (os.take i) ≤ 1000 := by
  have p1 := prod_pos (os := os.take i) fun o ho => h.2.1 o (List.mem_of_mem_take ho)
  have p2 := prod_pos (os := os.drop i) fun o ho => h.2.1 o (List.mem_of_mem_drop ho)
  have e : prodI os = prodI (os.take i) * prodI (os.drop i) := by rw [← prod_app, List.take_append_drop]
  have h3 := h.2.2
  refine ⟨p1, ?_⟩
  rw [e] at h3
  have := Int.mul_le_mul (a := prodI (os.take i)) (b := 1) (c := prodI (os.take i)) (d := prodI (os.drop i)) (Int.le_refl _) p2 (by omega) (by omega)
  omega
theorem ord_le {os : List Int} (h : Ords os) {o : Int} (ho : o ∈ os) : 2 ≤ o ∧ o ≤ 1000 := by
  refine ⟨h.2.1 o ho, ?_⟩
  obtain ⟨i, hi⟩ := List.mem_iff_getElem?.mp ho
  have a := prod_take_le h (i + 1)
  have b := prod_take_le h i
  rw [take_prod hi] at a
  have := Int.mul_le_mul (a := 1) (b := o) (c := prodI (os.take i)) (d := o) b.1 (Int.le_refl _) (by have := h.2.1 o ho; omega) (by omega)
  omega
def hashI (s n : Int) : Int := ((((s * 1140671 + 27644437 * n * n + 131 * n + 19).fmod 2147483629) * ((s * 1140671 + 27644437 * n * n + 131 * n + 19).fmod 2147483629) + 62089 * n + 32416187).fmod 2147483587 * 48271).fmod 2147483647
def p_law_hash (ds : List PyData) (d : PyData) : Prop := ∃ s n : Int, ds = [.int s, .int n] ∧ 0 ≤ s ∧ s < 2147483647 ∧ 0 ≤ n ∧ n ≤ 2 ^ 40 ∧ d = .int (hashI s n)
theorem ar_law_hash (ds : List PyData) (d : PyData) (h : p_law_hash ds d) : ds.length = 2 := by obtain ⟨x, n, rfl, _⟩ := h; rfl
theorem fmod_rng (x : Int) {m : Int} (h : 0 < m) : 0 ≤ x.fmod m ∧ x.fmod m < m := ⟨Int.fmod_nonneg_of_pos x h, Int.fmod_lt_of_pos x h⟩
theorem hash_rng (s n : Int) : 0 ≤ hashI s n ∧ hashI s n < 2147483647 := fmod_rng _ (by decide)
theorem abs_mul {i j : Int} {a b : Nat} (h : i.natAbs < 2 ^ a) (k : j.natAbs < 2 ^ b) : (i * j).natAbs < 2 ^ (a + b) := by
  rw [Int.natAbs_mul, Nat.pow_add]
  exact Nat.mul_lt_mul'' h k
theorem abs_of {i : Int} {n : Nat} (h : 0 ≤ i) (l : i < (n : Int)) : i.natAbs < n := by omega
theorem bits_le {b : Int} (h0 : 0 < b) (h1 : b < 2 ^ 100) : Builtin.Int.intBits b ≤ 100 := by
  unfold Builtin.Int.intBits
  rw [if_neg (by simp; omega)]
  have h : b.natAbs.log2 < 100 := (Nat.log2_lt (by omega)).mpr (by omega)
  omega
theorem rev_ints (os : List Int) : (intsD os).reverse = intsD os.reverse := (List.map_reverse ..).symm
theorem prod_R : ∀ r : List Int, prodR r = prodI r
  | [] => rfl
  | o :: r => by
    show o * prodR r = r.foldl (· * ·) (1 * o)
    rw [prod_from, Int.one_mul, prod_R r]
theorem prod_rev (os : List Int) : prodI os.reverse = prodI os := by
  induction os with
  | nil => rfl
  | cons o os ih =>
    rw [List.reverse_cons, prod_app, ih]
    show prodI os * (1 * o) = os.foldl (· * ·) (1 * o)
    rw [prod_from, Int.one_mul, Int.mul_comm]
theorem Ords.rev {os : List Int} (h : Ords os) : Ords os.reverse := ⟨by simpa using h.1, fun o ho => h.2.1 o (List.mem_reverse.mp ho), by rw [prod_rev]; exact h.2.2⟩
theorem Ords.pos {os : List Int} (h : Ords os) : Pos os.reverse := fun o ho => h.2.1 o (List.mem_reverse.mp ho)
theorem Ords.n {os : List Int} (h : Ords os) : prodR os.reverse = prodI os := by rw [prod_R, prod_rev]
def p_plus (ds : List PyData) (d : PyData) : Prop := ∃ os a b, ds = [.tuple (intsD os), .int a, .int b] ∧ Ords os ∧ d = .int (linR os.reverse [a, b] [])
def p_minus (ds : List PyData) (d : PyData) : Prop := ∃ os a b, ds = [.tuple (intsD os), .int a, .int b] ∧ Ords os ∧ d = .int (linR os.reverse [a] [b])
def p_sum_up (ds : List PyData) (d : PyData) : Prop := ∃ os xs, ds = [.tuple (intsD os), .list (intsD xs)] ∧ Ords os ∧ d = .int (linR os.reverse xs [])
def p_power (ds : List PyData) (d : PyData) : Prop := ∃ (a : Int) (n : Nat), ds = [.int a, .int n] ∧ 0 ≤ a ∧ a ≤ 1000 ∧ n ≤ 1000 ∧ d = .int (a ^ n)
theorem ar_plus (ds : List PyData) (d : PyData) (h : p_plus ds d) : ds.length = 3 := by obtain ⟨x, n, m, rfl, _⟩ := h; rfl
theorem ar_minus (ds : List PyData) (d : PyData) (h : p_minus ds d) : ds.length = 3 := by obtain ⟨x, n, m, rfl, _⟩ := h; rfl
theorem ar_sum_up (ds : List PyData) (d : PyData) (h : p_sum_up ds d) : ds.length = 2 := by obtain ⟨x, n, rfl, _⟩ := h; rfl
theorem ar_power (ds : List PyData) (d : PyData) (h : p_power ds d) : ds.length = 2 := by obtain ⟨x, n, rfl, _⟩ := h; rfl
theorem step_lin {o : Int} {r : List Int} (h : 2 ≤ o) {t w m k : Int} {z : Int} (e : t + w * linR (o :: r) [m, k] [] = z) : (t + (m + k).fmod o * w) + (w * o) * linR r [m / o, k / o] [] = z := by
  rw [← e, Int.fmod_eq_emod_of_nonneg _ (by omega)]
  have q : linR (o :: r) [m, k] [] = (m + k) % o + o * linR r [m / o, k / o] [] := by
    show ([m, k].sum - ([] : List Int).sum) % o + o * linR r [m / o, k / o] [] = _
    have : [m, k].sum - ([] : List Int).sum = m + k := by simp
    rw [this]
  rw [q, Int.mul_add, Int.mul_comm w ((m + k) % o), Int.mul_assoc]
  omega
theorem step_lis {o : Int} {r : List Int} (h : 2 ≤ o) {t w m k : Int} {z : Int} (e : t + w * linR (o :: r) [m] [k] = z) : (t + (m - k).fmod o * w) + (w * o) * linR r [m / o] [k / o] = z := by
  rw [← e, Int.fmod_eq_emod_of_nonneg _ (by omega)]
  have q : linR (o :: r) [m] [k] = (m - k) % o + o * linR r [m / o] [k / o] := by
    show ([m].sum - [k].sum) % o + o * linR r [m / o] [k / o] = _
    have : [m].sum - [k].sum = m - k := by simp
    rw [this]
  rw [q, Int.mul_add, Int.mul_comm w ((m - k) % o), Int.mul_assoc]
  omega
theorem drop_at {α : Type} {r : List α} {i : Nat} {o : α} (h : r[i]? = some o) : r.drop i = o :: r.drop (i + 1) := by
  obtain ⟨l, e⟩ := List.getElem?_eq_some_iff.mp h
  rw [List.drop_eq_getElem_cons l, e]
theorem mulW_small {i j : Int} (h1 : -1000000 ≤ i) (h2 : i ≤ 1000000) (h3 : -1000000 ≤ j) (h4 : j ≤ 1000000) : CMulW i j := wide_mul (a := 21) (b := 21) (by omega) (by omega) (by decide) (by decide) (by decide)
theorem divW_small {i j : Int} (h1 : 0 < j) (h2 : j ≤ 1000000) : CDivW i j := wide_div h1 (b := 21) (by omega) (by decide) (by decide)
/-! systems -/
structure Tab (n : Int) (t : List Int) : Prop where
  len : (t.length : Int) = n
  mem : ∀ x ∈ t, 0 ≤ x ∧ x < n
  nd : t.Nodup
structure Sys (os : List Int) (ts : List (List Int)) (tot : Int) : Prop where
  ord : Ords os
  two : 2 ≤ ts.length
  few : ts.length ≤ 100
  tabs : ∀ t ∈ ts, Tab (prodI os) t
  t0 : 0 ≤ tot
  t1 : tot < prodI os
def tabsD (ts : List (List Int)) : List PyData := ts.map fun t => .list (intsD t)
def sysD (os : List Int) (ts : List (List Int)) (tot : Int) : PyData := .tuple [.tuple (intsD os), .list (tabsD ts), .int tot]
structure Code (os : List Int) (ts : List (List Int)) (cs : List Int) : Prop where
  len : cs.length = ts.length
  mem : ∀ x ∈ cs, 0 ≤ x ∧ x < prodI os
def vals (ts : List (List Int)) (cs : List Int) : List Int := List.zipWith (fun t c => t.getD c.toNat 0) ts cs
def p_are_orders (ds : List PyData) (d : PyData) : Prop := ∃ os, ds = [.tuple (intsD os)] ∧ Ords os ∧ os.length ≤ 100 ∧ d = .bool true
def p_is_system (ds : List PyData) (d : PyData) : Prop := ∃ os ts tot, ds = [sysD os ts tot] ∧ Sys os ts tot ∧ d = .bool true
def p_check_system (ds : List PyData) (d : PyData) : Prop := ∃ os ts tot, ds = [sysD os ts tot] ∧ Sys os ts tot ∧ d = .none
def p_is_code_of (ds : List PyData) (d : PyData) : Prop := ∃ os ts tot cs, ds = [sysD os ts tot, .list (intsD cs)] ∧ Sys os ts tot ∧ Code os ts cs ∧ d = .bool true
def p_check_code (ds : List PyData) (d : PyData) : Prop := ∃ os ts tot cs, ds = [sysD os ts tot, .list (intsD cs)] ∧ Sys os ts tot ∧ Code os ts cs ∧ d = .none
def p_sum_borne (ds : List PyData) (d : PyData) : Prop := ∃ os ts tot cs, ds = [sysD os ts tot, .list (intsD cs)] ∧ Sys os ts tot ∧ Code os ts cs ∧ d = .int (linR os.reverse (vals ts cs) [])
def p_off_by (ds : List PyData) (d : PyData) : Prop := ∃ os ts tot cs, ds = [sysD os ts tot, .list (intsD cs)] ∧ Sys os ts tot ∧ Code os ts cs ∧ d = .int (linR os.reverse (vals ts cs) [tot])
def p_check_place (ds : List PyData) (d : PyData) : Prop := ∃ os ts tot p, ds = [sysD os ts tot, .int p] ∧ Sys os ts tot ∧ 0 ≤ p ∧ p < (ts.length : Int) ∧ d = .none
def p_how_many_codes (ds : List PyData) (d : PyData) : Prop := ∃ os ts tot, ds = [sysD os ts tot] ∧ Sys os ts tot ∧ d = .int (prodI os ^ (ts.length - 1))
theorem ar_are_orders (ds : List PyData) (d : PyData) (h : p_are_orders ds d) : ds.length = 1 := by obtain ⟨_, rfl, _⟩ := h; rfl
theorem ar_is_system (ds : List PyData) (d : PyData) (h : p_is_system ds d) : ds.length = 1 := by obtain ⟨_, _, _, rfl, _⟩ := h; rfl
theorem ar_check_system (ds : List PyData) (d : PyData) (h : p_check_system ds d) : ds.length = 1 := by obtain ⟨_, _, _, rfl, _⟩ := h; rfl
theorem ar_is_code_of (ds : List PyData) (d : PyData) (h : p_is_code_of ds d) : ds.length = 2 := by obtain ⟨_, _, _, _, rfl, _⟩ := h; rfl
theorem ar_check_code (ds : List PyData) (d : PyData) (h : p_check_code ds d) : ds.length = 2 := by obtain ⟨_, _, _, _, rfl, _⟩ := h; rfl
theorem ar_sum_borne (ds : List PyData) (d : PyData) (h : p_sum_borne ds d) : ds.length = 2 := by obtain ⟨_, _, _, _, rfl, _⟩ := h; rfl
theorem ar_off_by (ds : List PyData) (d : PyData) (h : p_off_by ds d) : ds.length = 2 := by obtain ⟨_, _, _, _, rfl, _⟩ := h; rfl
theorem ar_check_place (ds : List PyData) (d : PyData) (h : p_check_place ds d) : ds.length = 2 := by obtain ⟨_, _, _, _, rfl, _⟩ := h; rfl
theorem ar_how_many_codes (ds : List PyData) (d : PyData) (h : p_how_many_codes ds d) : ds.length = 1 := by obtain ⟨_, _, _, rfl, _⟩ := h; rfl
theorem ords_len {os : List Int} (h : Ords os) : os.length ≤ 10 := by
  have two : ∀ l : List Int, (∀ o ∈ l, 2 ≤ o) → (2 : Int) ^ l.length ≤ prodI l := fun l => by
    induction l with
    | nil => intro _; exact Int.le_refl 1
    | cons o l ih =>
      intro hl
      have a := ih fun x hx => hl x (List.mem_cons_of_mem _ hx)
      have b := hl o (List.mem_cons_self ..)
      have e : prodI (o :: l) = o * prodI l := by
        show l.foldl (· * ·) (1 * o) = _
        rw [prod_from, Int.one_mul]
      rw [e, List.length_cons, Int.pow_succ, Int.mul_comm]
      have z : (0 : Int) ≤ 2 ^ l.length := Int.le_of_lt (Int.pow_pos (by decide))
      exact Int.mul_le_mul b a z (by omega)
  have t := two os h.2.1
  have u := h.2.2
  refine Decidable.byContradiction fun c => ?_
  have k : (2 : Nat) ^ 11 ≤ 2 ^ os.length := Nat.pow_le_pow_right (by decide) (by omega)
  have k2 : ((2 ^ os.length : Nat) : Int) = (2 : Int) ^ os.length := by simp
  omega
theorem at_tabs {ts : List (List Int)} {i : Nat} {t : List Int} (h : ts[i]? = some t) : (tabsD ts)[i]? = some (.list (intsD t)) := by
  unfold tabsD
  rw [List.getElem?_map, h]
  rfl
theorem tabs_len (ts : List (List Int)) : (tabsD ts).length = ts.length := by unfold tabsD; simp
theorem ints_len (ns : List Int) : (intsD ns).length = ns.length := List.length_map ..
theorem get_ints {ns : List Int} {i : Nat} (h : i < ns.length) : (intsD ns)[i]? = some (.int (ns.getD i 0)) := by
  rw [List.getElem?_map, List.getElem?_eq_getElem h]
  simp [List.getD, h]
theorem zip_vals : ∀ (ts : List (List Int)) (cs : List Int) , (zipD (tabsD ts) (intsD cs)) = List.zipWith (fun t c => .tuple [.list (intsD t), .int c]) ts cs
  | [], _ => rfl
  | t :: ts, [] => by unfold zipD tabsD; simp
  | t :: ts, c :: cs => by
    have ih := zip_vals ts cs
    unfold zipD tabsD at ih ⊢
    simp only [List.map_cons, List.zip_cons_cons, List.zipWith_cons_cons]
    rw [← ih]
def tabMark : PyData → PyData
  | .tuple [.list t, .int c] => t.getD c.toNat .none
  | _ => .none
theorem mem_zw {f : List Int → Int → PyData} : ∀ {ts : List (List Int)} {cs : List Int} {e : PyData}, e ∈ List.zipWith f ts cs → ∃ t c, t ∈ ts ∧ c ∈ cs ∧ e = f t c
  | [], _, _, h => by simp at h
  | _ :: _, [], _, h => by simp at h
  | t :: ts, c :: cs, e, h => by
    rw [List.zipWith_cons_cons] at h
    rcases List.mem_cons.mp h with rfl | h
    · exact ⟨t, c, List.mem_cons_self .., List.mem_cons_self .., rfl⟩
    · obtain ⟨a, b, h1, h2, h3⟩ := mem_zw h
      exact ⟨a, b, List.mem_cons_of_mem _ h1, List.mem_cons_of_mem _ h2, h3⟩
theorem mark_at {t : List Int} {c : Int} (h0 : 0 ≤ c) (h1 : c < (t.length : Int)) : (intsD t)[c.toNat]? = some (.int (t.getD c.toNat 0)) := get_ints (by omega)
theorem map_marks : ∀ {ts : List (List Int)} {cs : List Int}, (∀ t ∈ ts, ∀ c ∈ cs, 0 ≤ c ∧ c < (t.length : Int)) → (List.zipWith (fun t c => PyData.tuple [.list (intsD t), .int c]) ts cs).map tabMark = intsD (vals ts cs)
  | [], _, _ => rfl
  | _ :: _, [], _ => rfl
  | t :: ts, c :: cs, h => by
    have ih := map_marks (ts := ts) (cs := cs) fun a ha b hb => h a (List.mem_cons_of_mem _ ha) b (List.mem_cons_of_mem _ hb)
    have hc := h t (List.mem_cons_self ..) c (List.mem_cons_self ..)
    have e : tabMark (.tuple [.list (intsD t), .int c]) = .int (t.getD c.toNat 0) := by
      have q := mark_at hc.1 hc.2
      show (intsD t).getD c.toNat .none = _
      rw [List.getD_eq_getElem?_getD, q]
      rfl
    show tabMark (.tuple [.list (intsD t), .int c]) :: List.map tabMark (List.zipWith _ ts cs) = .int (t.getD c.toNat 0) :: intsD (vals ts cs)
    rw [e, ih]
theorem Code.in_ {os : List Int} {ts : List (List Int)} {tot : Int} {cs : List Int} (hs : Sys os ts tot) (hc : Code os ts cs) : ∀ t ∈ ts, ∀ c ∈ cs, 0 ≤ c ∧ c < (t.length : Int) := fun t ht c hcm => by
  rw [(hs.tabs t ht).len]
  exact hc.mem c hcm
/-! the sign that is wanted -/
def rest (ts : List (List Int)) (cs : List Int) (p : Nat) : List Int := (vals ts cs).eraseIdx p
def p_sign_wanted (ds : List PyData) (d : PyData) : Prop := ∃ (os : List Int) (ts : List (List Int)) (tot : Int) (cs : List Int) (p w : Nat) (t : List Int), ds = [sysD os ts tot, .list (intsD cs), .int p] ∧ Sys os ts tot ∧ Code os ts cs ∧ ts[p]? = some t ∧ t[w]? = some (linR os.reverse [tot] (rest ts cs p)) ∧ d = .int w
def p_set_right (ds : List PyData) (d : PyData) : Prop := ∃ (os : List Int) (ts : List (List Int)) (tot : Int) (cs : List Int) (p w : Nat) (t : List Int), ds = [sysD os ts tot, .list (intsD cs), .int p] ∧ Sys os ts tot ∧ Code os ts cs ∧ ts[p]? = some t ∧ t[w]? = some (linR os.reverse [tot] (rest ts cs p)) ∧ d = .list (intsD (cs.set p w))
theorem ar_sign_wanted (ds : List PyData) (d : PyData) (h : p_sign_wanted ds d) : ds.length = 3 := by obtain ⟨_, _, _, _, _, _, _, rfl, _⟩ := h; rfl
theorem ar_set_right (ds : List PyData) (d : PyData) (h : p_set_right ds d) : ds.length = 3 := by obtain ⟨_, _, _, _, _, _, _, rfl, _⟩ := h; rfl
theorem perm_erase : ∀ {xs : List Int} {p : Nat} {x : Int}, xs[p]? = some x → xs.Perm (x :: xs.eraseIdx p)
  | [], _, _, h => by simp at h
  | y :: xs, 0, x, h => by
    simp at h
    subst h
    exact List.Perm.refl _
  | y :: xs, p + 1, x, h => by
    have ih := perm_erase (xs := xs) (p := p) (by simpa using h)
    exact (ih.cons y).trans (List.Perm.swap x y _)
theorem vals_at : ∀ {ts : List (List Int)} {cs : List Int} {p : Nat} {t : List Int} {c : Int}, ts[p]? = some t → cs[p]? = some c → (vals ts cs)[p]? = some (t.getD c.toNat 0)
  | [], _, _, _, _, h, _ => by simp at h
  | _ :: _, [], _, _, _, _, h => by simp at h
  | t :: ts, c :: cs, 0, _, _, h, k => by
    simp at h k
    subst h
    subst k
    rfl
  | t :: ts, c :: cs, p + 1, _, _, h, k => vals_at (ts := ts) (cs := cs) (p := p) (by simpa using h) (by simpa using k)
theorem wanted_eq {os : List Int} {ts : List (List Int)} {tot : Int} {cs : List Int} (hs : Sys os ts tot) {p : Nat} {x : Int} (h : (vals ts cs)[p]? = some x) :
    linR os.reverse [x] [linR os.reverse (vals ts cs) [tot]] = linR os.reverse [tot] (rest ts cs p) := by
  have a := lin_out hs.ord.pos [x] [] (vals ts cs) [tot]
  rw [List.append_nil] at a
  rw [a]
  have b := lin_perm (r := os.reverse) (ps := [tot] ++ [x]) (qs := x :: [tot]) (List.Perm.swap x tot []) (perm_erase h)
  rw [b, lin_cancel]
  rfl
def exI (os : List Int) (ts : List (List Int)) (cs : List Int) (tot : Int) : Int := linR os.reverse [linR os.reverse (vals ts cs) []] [tot]
theorem ex_eq {os : List Int} {ts : List (List Int)} {tot : Int} {cs : List Int} (hs : Sys os ts tot) : exI os ts cs tot = linR os.reverse (vals ts cs) [tot] := by
  have e := lin_in hs.ord.pos [] [tot] (vals ts cs) []
  rw [List.append_nil] at e
  exact e
theorem cut_to {xs : List PyData} {p : Nat} (h : p ≤ xs.length) : G.cutD xs none (some (p : Int)) = xs.take p := by
  unfold G.cutD
  rw [HT.sIx_none, HT.sIx_nat, Nat.min_eq_left h, Nat.sub_zero, List.drop_zero]
theorem cut_from {xs : List PyData} {p : Nat} (h : p ≤ xs.length) : G.cutD xs (some (p : Int)) none = xs.drop p := by
  unfold G.cutD
  rw [HT.sIx_none, HT.sIx_nat, Nat.min_eq_left h]
  exact List.take_of_length_le (by rw [List.length_drop]; exact Nat.le_refl _)
theorem put_eq {cs : List Int} {p : Nat} {w : Int} (h : p < cs.length) : (intsD cs).take p ++ [.int w] ++ (intsD cs).drop (p + 1) = intsD (cs.set p w) := by
  have e : cs.set p w = cs.take p ++ w :: cs.drop (p + 1) := List.set_eq_take_append_cons_drop .. |>.trans (by rw [if_pos h])
  rw [e, List.append_assoc]
  show _ = (cs.take p ++ w :: cs.drop (p + 1)).map PyData.int
  rw [List.map_append, List.map_cons, List.map_take, List.map_drop]
  rfl
theorem ev_to {K : PySem.W.Frag} {ta tb : TE} {ρ : Rho} {xs : List PyData} {p : Nat} (ha : Ev K ta ρ (.list xs)) (hb : Ev K tb ρ (.int (p : Int))) (h : p ≤ xs.length) : Ev K (tSl (rSlL K) ta tNoPart (tPart tb)) ρ (.list (xs.take p)) := by
  rw [← cut_to h]
  exact ev_slL ha eo_none (eo_some hb)
theorem ev_fr {K : PySem.W.Frag} {ta tb : TE} {ρ : Rho} {xs : List PyData} {p : Nat} (ha : Ev K ta ρ (.list xs)) (hb : Ev K tb ρ (.int (p : Int))) (h : p ≤ xs.length) : Ev K (tSl (rSlL K) ta (tPart tb) tNoPart) ρ (.list (xs.drop p)) := by
  rw [← cut_from h]
  exact ev_slL ha (eo_some hb) eo_none
/-- cs[:p] + [w] + cs[p + 1:] -/
theorem ev_put {K : PySem.W.Frag} {ta tb tc tw : TE} {ρ : Rho} {cs : List Int} {p : Nat} {w : Int} (ha : Ev K ta ρ (.list (intsD cs))) (hb : Ev K tb ρ (.int (p : Int))) (hc : Ev K tc ρ (.int ((p + 1 : Nat) : Int))) (hw : Ev K tw ρ (.int w)) (h : p < cs.length) (hl : cs.length ≤ 1000) {r r' : R2}
    (hr : ∀ {x y z : PyData}, Op2 K rCat x y z → Op2 K r x y z) (hr' : ∀ {x y z : PyData}, Op2 K rCat x y z → Op2 K r' x y z) :
    Ev K (tOp r' (tOp r (tSl (rSlL K) ta tNoPart (tPart tb)) (tLst (tCons tw tNil))) (tSl (rSlL K) ta (tPart tc) tNoPart)) ρ (.list (intsD (cs.set p w))) := by
  rw [← put_eq h]
  have l1 : ((intsD cs).take p).length ≤ 1000 := by rw [List.length_take, ints_len]; omega
  have l2 : ((intsD cs).drop (p + 1)).length ≤ 1000 := by rw [List.length_drop, ints_len]; omega
  refine ev_op (ev_op (ev_to ha hb (by rw [ints_len]; omega)) (ev_lst (el_cons hw el_nil) (by show 1 ≤ sizeLine; decide)) (hr (opp_cat ?_))) (ev_fr ha hc (by rw [ints_len]; omega)) (hr' (opp_cat ?_))
  · rw [sizeLine_eq]
    show _ + 1 ≤ _
    omega
  · rw [sizeLine_eq, List.length_append]
    show _ + 1 + _ ≤ _
    omega
structure Bi (mg : Str → Option Value) : Prop where
  all : mg "all" = none
  bool : mg "bool" = none
  int : mg "int" = none
  isinstance : mg "isinstance" = none
  len : mg "len" = none
  list : mg "list" = none
  max : mg "max" = none
  range : mg "range" = none
  repr : mg "repr" = none
  reversed : mg "reversed" = none
  set : mg "set" = none
  sorted : mg "sorted" = none
  sum : mg "sum" = none
  tuple : mg "tuple" = none
  zip : mg "zip" = none
end K08
end
section
set_option maxRecDepth 100000
set_option maxHeartbeats 4000000
namespace K08
open PySem PySem.Spec PyProof.Rows L2 G Lin
local macro_rules | `(tactic| walk_at "ev") => `(tactic| first
  | exact ev_var rfl | exact ev_int | exact ev_bl | exact ev_non | exact ev_str
  | (apply ev_op; (focus walk_at "ev"); (focus walk_at "ev"); (focus walk_at "op"))
  | (apply ev_cb; (focus walk_at "el"); (focus walk_at "fn"))
  | (apply ev_lst; (focus walk_at "el"); (show _ ≤ sizeLine; decide))
  | (apply ev_tup; (focus walk_at "el"); (show _ ≤ sizeLine; decide)))
local macro_rules | `(tactic| walk_at "el") => `(tactic| first
  | exact el_nil
  | (apply el_cons; (focus walk_at "ev"); (focus walk_at "el")))
local macro_rules | `(tactic| walk_at "fn") => `(tactic| first
  | exact fn_int | exact fn_len | exact fn_all | exact fn_listL | exact fn_listT)
local macro_rules | `(tactic| walk_at "op") => `(tactic| first
  | exact op_I0 (fun _ => .int _) | exact op_I0 (fun _ => .bl _) | exact opp_1 (op_I0 fun _ => .int _)
  | exact op_I (by show (_ : Int) ≠ 0; decide) (fun _ => .int _)
  | exact op_I (by assumption) (fun _ => .int _)
  | exact opp_1 (op_I (by assumption) fun _ => .int _)
  | exact opp_1 (opp_ixL (i := 0) rfl) | exact opp_2 (opp_ixT (i := 0) rfl) | exact opp_2 (opp_ixT (i := 1) rfl) | exact opp_2 (opp_ixT (i := 2) rfl))
theorem sc_is_whole : FnScope ["value"] ["value"] (defScope s_is_whole) := ⟨rfl, rfl, rfl, by decide +kernel, rfl, by decide +kernel, by decide +kernel⟩
theorem ok_is_whole {P : Program} {w : World} {K : PySem.W.Frag} {mg : Str → Option Value} {base : Heap} (B : Bi mg)  (h : Has K mg "is_whole" s_is_whole ["value"]) :
    Cal P w K mg base 1 "is_whole" ["value"] (sp K p_is_whole) := by
  refine has_d h sc_is_whole ar_is_whole fun f cdv A outer s H E hg hr => ⟨_, (pss_one (ps_ret (pe_and (pe_callB (isiK K) (by rfl) B.isinstance (by decide +kernel) (pa_cons (pv 0) (pa_cons (pe_bltn (v := .ty "int") (by rfl) B.int (by decide +kernel) rfl) pa_nil))) (pe_one (pe_not (pe_callB (isiK K) (by rfl) B.isinstance (by decide +kernel) (pa_cons (pv 0) (pa_cons (pe_bltn (v := .ty "bool") (by rfl) B.bool (by decide +kernel) rfl) pa_nil)))))))), fun ds d hp => ?_⟩
  obtain ⟨x, rfl, rfl⟩ := hp
  exact do_ret (ev_and (ev_isi (ev_var rfl) (kit_int x)) (fun ha => ev_not (ev_isi (ev_var rfl) (kit_bool x)) (by unfold isWholeD; rw [ha]; rfl)) (fun ha => by unfold isWholeD; rw [ha]; rfl)) rfl
theorem sc_is_below : FnScope ["value", "many"] ["value", "many"] (defScope s_is_below) := ⟨rfl, rfl, rfl, by decide +kernel, rfl, by decide +kernel, by decide +kernel⟩
theorem ok_is_below {P : Program} {w : World} {K : PySem.W.Frag} {mg : Str → Option Value} {base : Heap} (B : Bi mg) (c_is_whole : Cal P w K mg base 1 "is_whole" ["value"] (sp K p_is_whole)) (h : Has K mg "is_below" s_is_below ["value", "many"]) :
    Cal P w K mg base 2 "is_below" ["value", "many"] (sp K p_is_below) := by
  refine has_d h sc_is_below ar_is_below fun f cdv A outer s H E hg hr => ⟨_, (pss_one (ps_ret (pe_and (pg_cal hg c_is_whole hr (by rfl) (pa_cons (pv 0) pa_nil)) (pe_one (pe_chain op_le op_lt pe_int (pv 0) (pv 1)))))), fun ds d hp => ?_⟩
  obtain ⟨x, n, rfl, rfl⟩ := hp
  refine do_ret (ev_and (ev_call (el_cons (ev_var rfl) el_nil) ⟨x, rfl, rfl⟩) (fun ha => ?_) (fun ha => ?_)) rfl
  · cases x <;> cases ha
    rename_i i
    exact ev_chain (a := decide (0 ≤ i)) ev_int (ev_var rfl) (op_I0 fun _ => .bl _) (fun _ => ev_var rfl) (fun h1 => op_I0 fun _ => by
      show Da _ _ _ (.bool (decide (0 ≤ i) && decide (i < n)))
      rw [h1]
      exact .bl _) (fun h1 => by show PyData.bool (decide (0 ≤ i) && decide (i < n)) = _; rw [h1]; rfl)
  · cases x <;> first | rfl | cases ha
theorem sc_is_from : FnScope ["value", "least"] ["value", "least"] (defScope s_is_from) := ⟨rfl, rfl, rfl, by decide +kernel, rfl, by decide +kernel, by decide +kernel⟩
theorem ok_is_from {P : Program} {w : World} {K : PySem.W.Frag} {mg : Str → Option Value} {base : Heap} (B : Bi mg) (c_is_whole : Cal P w K mg base 1 "is_whole" ["value"] (sp K p_is_whole)) (h : Has K mg "is_from" s_is_from ["value", "least"]) :
    Cal P w K mg base 2 "is_from" ["value", "least"] (sp K p_is_from) := by
  refine has_d h sc_is_from ar_is_from fun f cdv A outer s H E hg hr => ⟨_, (pss_one (ps_ret (pe_and (pg_cal hg c_is_whole hr (by rfl) (pa_cons (pv 0) pa_nil)) (pe_one (pe_cmpR op_ge (pv 0) (pv 1) (nomark _)))))), fun ds d hp => ?_⟩
  obtain ⟨x, n, rfl, rfl⟩ := hp
  refine do_ret (ev_and (ev_call (el_cons (ev_var rfl) el_nil) ⟨x, rfl, rfl⟩) (fun ha => ?_) (fun ha => ?_)) rfl
  · cases x <;> cases ha
    rename_i i
    exact ev_op (ev_var rfl) (ev_var rfl) (op_I0 fun _ => .bl _)
  · cases x <;> first | rfl | cases ha
theorem sc_are_below : FnScope ["value", "many", "one"] ["value", "many"] (defScope s_are_below) := ⟨rfl, rfl, rfl, by decide +kernel, rfl, by decide +kernel, by decide +kernel⟩
theorem ok_are_below {P : Program} {w : World} {K : PySem.W.Frag} {mg : Str → Option Value} {base : Heap} (B : Bi mg) (c_is_below : Cal P w K mg base 2 "is_below" ["value", "many"] (sp K p_is_below)) (h : Has K mg "are_below" s_are_below ["value", "many"]) :
    Cal P w K mg base 3 "are_below" ["value", "many"] (sp K p_are_below) := by
  refine has_d h sc_are_below ar_are_below fun f cdv A outer s H E hg hr => ⟨_, (pss_one (ps_ret (pe_and (pe_callB (isiK K) (by rfl) B.isinstance (by decide +kernel) (pa_cons (pv 0) (pa_cons (pe_bltn (v := .ty "list") (by rfl) B.list (by decide +kernel) rfl) pa_nil))) (pe_one (pe_callB (allK K rfl) (by rfl) B.all (by decide +kernel) (pa_cons (pe_lc (own := [("one", 2)]) (g := (gName 2)) rfl sc_are_below.nd (pi_or (pi_listK K (pv 0)) (pi_tupK K (pv 0))) (blkOk_by (N := ["value", "many", "one"]) (sc := defScope s_are_below) (own := [("one", 2)]) (by decide +kernel)) (fun _ _ _ _ _ => pg_name (i := 2) sc_are_below.nd rfl (Or.inl rfl)) (fun _ _ _ _ _ => pts_nil) (fun _ _ _ _ _ => (pg_cal hg c_is_below hr (by rfl) (pa_cons (pv 2) (pa_cons (pv 1) pa_nil))))) pa_nil)))))), fun ds d hp => ?_⟩
  obtain ⟨ns, n, rfl, hl, hb, rfl⟩ := hp
  refine do_ret (ev_and (ev_isi (ev_var rfl) (kit_list _)) (fun _ => ev_cb (el_cons (ev_map (it_1 (it_list (ev_var rfl))) (by rw [List.length_map]; omega) (fun _ => .bool true) fun e he => ?_) el_nil) ?_) (fun h => nomatch h)) rfl
  · obtain ⟨x, hx, rfl⟩ := List.mem_map.mp he
    refine ⟨_, tgw_name, ev_call (el_cons (ev_var rfl) (el_cons (ev_var rfl) el_nil)) ⟨_, _, rfl, ?_⟩⟩
    have q := hb x hx
    show PyData.bool true = .bool (decide (0 ≤ x) && decide (x < n))
    rw [decide_eq_true q.1, decide_eq_true q.2]
    rfl
  · have q := fn_all (K := K) (bs := ns.map fun _ => true)
    have e1 : (ns.map fun _ => true).all id = true := by rw [List.all_eq_true]; intro b hb; obtain ⟨_, _, rfl⟩ := List.mem_map.mp hb; rfl
    rw [List.map_map, e1] at q
    rw [List.map_map]
    exact q
theorem sc_is_each_once : FnScope ["value", "many"] ["value", "many"] (defScope s_is_each_once) := ⟨rfl, rfl, rfl, by decide +kernel, rfl, by decide +kernel, by decide +kernel⟩
theorem ok_is_each_once {P : Program} {w : World} {K : PySem.W.Frag} {mg : Str → Option Value} {base : Heap} (B : Bi mg) (c_are_below : Cal P w K mg base 3 "are_below" ["value", "many"] (sp K p_are_below)) (h : Has K mg "is_each_once" s_is_each_once ["value", "many"]) :
    Cal P w K mg base 4 "is_each_once" ["value", "many"] (sp K p_is_each_once) := by
  refine has_d h sc_is_each_once ar_is_each_once fun f cdv A outer s H E hg hr => ⟨_, (pss_cons (ps_if (PW.pt (pw_or (pt_not (pt_val (pe_callB (isiK K) (by rfl) B.isinstance (by decide +kernel) (pa_cons (pv 0) (pa_cons (pe_bltn (v := .ty "list") (by rfl) B.list (by decide +kernel) rfl) pa_nil))))) (pw_or1 (pt_cmpR (neK K hr) (pe_callB (lenK K) (by rfl) B.len PySem.boot_len (pa_cons (pv 0) pa_nil)) (pv 1) (nomark _))))) (pss_one (ps_ret pe_bl)) pss_nil)
      (pss_one (ps_ret (pe_and (pg_cal hg c_are_below hr (by rfl) (pa_cons (pv 0) (pa_cons (pv 1) pa_nil))) (pe_one (pe_cmpR (eqK K hr) (lenSetK K (by rfl) B.len (by rfl) B.set (pv 0)) (pv 1) (nomark _))))))), fun ds d hp => ?_⟩
  obtain ⟨ns, n, rfl, hl, hn, hb, nd, rfl⟩ := hp
  refine do_seq (M := fun ρ => ρ = startR ["value", "many"] [.list (intsD ns), .int n]) (do_if (b := false) ?_ (fun h => nomatch h) fun _ => do_next rfl) fun ρ' e => ?_
  · refine eb_or (a := false) (eb_not (eb_B (ev_isi (ev_var rfl) (kit_list _))) rfl) (fun _ => ?_) (fun h => nomatch h)
    refine eb_test (ev_op (ev_cb (el_cons (ev_var rfl) el_nil) fn_len) (ev_var rfl) (opp_neD (sh_int _) (sh_int _) ?_))
    rw [eqv_int, List.length_map, hl]
    simp
  · subst e
    refine do_ret (ev_and (ev_call (el_cons (ev_var rfl) (el_cons (ev_var rfl) el_nil)) ⟨ns, n, rfl, by omega, hb, rfl⟩) (fun _ => ?_) (fun h => nomatch h)) rfl
    refine ev_op (ev_lenSet (ev_var rfl) nd (by omega)) (ev_var rfl) (opp_eqD (sh_int _) (sh_int _) ?_)
    rw [eqv_int, hl]
    simp
theorem sc_size_of : FnScope ["orders", "many", "order"] ["orders"] (defScope s_size_of) := ⟨rfl, rfl, rfl, by decide +kernel, rfl, by decide +kernel, by decide +kernel⟩
theorem ok_size_of {P : Program} {w : World} {K : PySem.W.Frag} {mg : Str → Option Value} {base : Heap} (B : Bi mg)  (h : Has K mg "size_of" s_size_of ["orders"]) :
    Cal P w K mg base 1 "size_of" ["orders"] (sp K p_size_of) := by
  refine has_d h sc_size_of ar_size_of fun f cdv A outer s H E hg hr => ⟨_, (pss_cons (ps_set (i := 1) sc_size_of.nd rfl (Or.inl rfl) pe_int)
      (pss_cons (ps_for PassesOwn.never rfl (pi_or (pi_listK K (pv 0)) (pi_tupK K (pv 0))) (pg_name (i := 2) sc_size_of.nd rfl (Or.inl rfl)) (pss_one (ps_set (i := 1) sc_size_of.nd rfl (Or.inl rfl) (pe_op op_mulA (pv 1) (pv 2)))))
      (pss_one (ps_ret (pv 1))))), fun ds d hp => ?_⟩
  obtain ⟨os, rfl, ho, rfl⟩ := hp
  refine do_seq (M := fun ρ => ρ = [some (.tuple (intsD os)), some (.int 1), none]) (do_set ev_int rfl) fun ρ' e => ?_
  subst e
  refine do_seq (M := fun ρ => ∃ z, ρ = [some (.tuple (intsD os)), some (.int (prodI os)), z]) (do_for (it_2 (it_tup (ev_var rfl))) (fun i ρ => ∃ z, ρ = [some (.tuple (intsD os)), some (.int (prodI (os.take i))), z]) ⟨_, rfl⟩ ?_ ?_) fun ρ' e => ?_
  · rintro i e ρ' he ⟨z, rfl⟩
    obtain ⟨o, ho', rfl⟩ := at_ints he
    have st := take_prod ho'
    refine ⟨_, tg_name, do_set (ev_op (ev_var rfl) (ev_var rfl) (opp_1 (op_I ?_ fun _ => .int _))) ⟨some (.int o), ?_⟩⟩
    · have b1 := prod_take_le ho i
      have b2 := ord_le ho (List.mem_of_getElem? ho')
      exact wide_mul (a := 20) (b := 20) (by have := b1.1; have := b1.2; omega) (by omega) (by decide) (by decide) (by decide)
    · rw [st]
      rfl
  · rintro ρ' ⟨z, rfl⟩
    refine ⟨z, ?_⟩
    rw [List.length_map, List.take_length]
  · obtain ⟨z, rfl⟩ := e
    exact do_ret (ev_var rfl) rfl
theorem sc_plus : FnScope ["orders", "member", "other", "total", "worth", "order"] ["orders", "member", "other"] (defScope s_plus) := ⟨rfl, rfl, rfl, by decide +kernel, rfl, by decide +kernel, by decide +kernel⟩
theorem ok_plus {P : Program} {w : World} {K : PySem.W.Frag} {mg : Str → Option Value} {base : Heap} (B : Bi mg)  (h : Has K mg "plus" s_plus ["orders", "member", "other"]) :
    Cal P w K mg base 1 "plus" ["orders", "member", "other"] (sp K p_plus) := by
  refine has_d h sc_plus ar_plus fun f cdv A outer s H E hg hr => ⟨_, (pss_cons (ps_asg (pe_tup (pa_cons pe_int (pa_cons pe_int pa_nil))) (pg_tup rfl (pgs_cons (pg_name (i := 3) sc_plus.nd rfl (Or.inl rfl)) (pgs_cons (pg_name (i := 4) sc_plus.nd rfl (Or.inl rfl)) pgs_nil))))
      (pss_cons (ps_for PassesOwn.never rfl (pi_revK K (by rfl) B.reversed (pv 0)) (pg_name (i := 5) sc_plus.nd rfl (Or.inl rfl)) (pss_cons (ps_set (i := 3) sc_plus.nd rfl (Or.inl rfl) (pe_op (addK K) (pv 3) (pe_op op_mulA (pe_op op_modN (pe_op (addK K) (pv 1) (pv 2)) (pv 5)) (pv 4))))
      (pss_one (ps_par3 (i := 1) (j := 2) (l := 4) rfl sc_plus.nd rfl rfl rfl (by decide) (by decide) (by decide) rfl rfl rfl (pa_cons (pe_op op_fdivW (pv 1) (pv 5)) (pa_cons (pe_op op_fdivW (pv 2) (pv 5)) (pa_cons (pe_op op_mulA (pv 4) (pv 5)) pa_nil))) (by rfl)))))
      (pss_one (ps_ret (pv 3))))), fun ds d hp => ?_⟩
  obtain ⟨os, a, b, rfl, ho, rfl⟩ := hp
  have hr' := ho.rev
  refine do_seq (M := fun ρ => ρ = [some (.tuple (intsD os)), some (.int a), some (.int b), some (.int 0), some (.int 1), none]) (do_asg (d := .tuple [.int 0, .int 1]) (by walk_at "ev") (tg_tup rfl (tgs_cons tg_name (tgs_cons tg_name tgs_nil))) rfl) fun ρ' e => ?_
  subst e
  refine do_seq (M := fun ρ => ∃ m k w z, ρ = [some (.tuple (intsD os)), m, k, some (.int (linR os.reverse [a, b] [])), w, z]) (do_for (it_revT (ev_var rfl)) (fun i ρ => ∃ m k t z, ρ = [some (.tuple (intsD os)), some (.int m), some (.int k), some (.int t), some (.int (prodI (os.reverse.take i))), z] ∧ t + prodI (os.reverse.take i) * linR (os.reverse.drop i) [m, k] [] = linR os.reverse [a, b] []) ⟨a, b, 0, none, rfl, by simp [prodI]⟩ ?_ ?_) fun ρ' e => ?_
  · rintro i e ρ' he ⟨m, k, t, z, rfl, inv⟩
    rw [rev_ints] at he
    obtain ⟨o, ho', rfl⟩ := at_ints he
    have b1 := prod_take_le hr' i
    have b2 := ord_le hr' (List.mem_of_getElem? ho')
    have r1 := fmod_rng (m + k) (m := o) (by omega)
    have m1 : CMulW ((m + k).fmod o) (prodI (os.reverse.take i)) := mulW_small (by omega) (by omega) (by omega) (by omega)
    have m2 : CMulW (prodI (os.reverse.take i)) o := mulW_small (by omega) (by omega) (by omega) (by omega)
    have d1 : CDivW m o := divW_small (by omega) (by omega)
    have d2 : CDivW k o := divW_small (by omega) (by omega)
    have n1 : o ≠ 0 := by omega
    rw [drop_at ho'] at inv
    have inv2 := step_lin b2.1 inv
    refine ⟨_, tg_name, do_seq (M := fun ρ => ρ = [some (.tuple (intsD os)), some (.int m), some (.int k), some (.int (t + (m + k).fmod o * prodI (os.reverse.take i))), some (.int (prodI (os.reverse.take i))), some (.int o)]) (do_set (d := .int (t + (m + k).fmod o * prodI (os.reverse.take i))) (by walk_at "ev") rfl) fun ρ' e => ?_⟩
    subst e
    refine do_par3 (x := .int (m / o)) (y := .int (k / o)) (z := .int (prodI (os.reverse.take i) * o)) (by walk_at "el") ⟨m / o, k / o, t + (m + k).fmod o * prodI (os.reverse.take i), some (.int o), ?_, ?_⟩
    · rw [take_prod ho']
      rfl
    · rw [take_prod ho']
      exact inv2
  · rintro ρ' ⟨m, k, t, z, rfl, inv⟩
    rw [List.length_reverse, List.length_map, ← List.length_reverse, List.take_length, List.drop_length] at inv
    have e0 : linR [] [m, k] [] = 0 := rfl
    rw [e0, Int.mul_zero, Int.add_zero] at inv
    rw [inv]
    exact ⟨some (.int m), some (.int k), some (.int _), z, rfl⟩
  · obtain ⟨m, k, w, z, rfl⟩ := e
    exact do_ret (ev_var rfl) rfl
theorem sc_minus : FnScope ["orders", "member", "other", "total", "worth", "order"] ["orders", "member", "other"] (defScope s_minus) := ⟨rfl, rfl, rfl, by decide +kernel, rfl, by decide +kernel, by decide +kernel⟩
theorem ok_minus {P : Program} {w : World} {K : PySem.W.Frag} {mg : Str → Option Value} {base : Heap} (B : Bi mg)  (h : Has K mg "minus" s_minus ["orders", "member", "other"]) :
    Cal P w K mg base 1 "minus" ["orders", "member", "other"] (sp K p_minus) := by
  refine has_d h sc_minus ar_minus fun f cdv A outer s H E hg hr => ⟨_, (pss_cons (ps_asg (pe_tup (pa_cons pe_int (pa_cons pe_int pa_nil))) (pg_tup rfl (pgs_cons (pg_name (i := 3) sc_minus.nd rfl (Or.inl rfl)) (pgs_cons (pg_name (i := 4) sc_minus.nd rfl (Or.inl rfl)) pgs_nil))))
      (pss_cons (ps_for PassesOwn.never rfl (pi_revK K (by rfl) B.reversed (pv 0)) (pg_name (i := 5) sc_minus.nd rfl (Or.inl rfl)) (pss_cons (ps_set (i := 3) sc_minus.nd rfl (Or.inl rfl) (pe_op (addK K) (pv 3) (pe_op op_mulA (pe_op op_modN (pe_op op_sub (pv 1) (pv 2)) (pv 5)) (pv 4))))
      (pss_one (ps_par3 (i := 1) (j := 2) (l := 4) rfl sc_minus.nd rfl rfl rfl (by decide) (by decide) (by decide) rfl rfl rfl (pa_cons (pe_op op_fdivW (pv 1) (pv 5)) (pa_cons (pe_op op_fdivW (pv 2) (pv 5)) (pa_cons (pe_op op_mulA (pv 4) (pv 5)) pa_nil))) (by rfl)))))
      (pss_one (ps_ret (pv 3))))), fun ds d hp => ?_⟩
  obtain ⟨os, a, b, rfl, ho, rfl⟩ := hp
  have hr' := ho.rev
  refine do_seq (M := fun ρ => ρ = [some (.tuple (intsD os)), some (.int a), some (.int b), some (.int 0), some (.int 1), none]) (do_asg (d := .tuple [.int 0, .int 1]) (by walk_at "ev") (tg_tup rfl (tgs_cons tg_name (tgs_cons tg_name tgs_nil))) rfl) fun ρ' e => ?_
  subst e
  refine do_seq (M := fun ρ => ∃ m k w z, ρ = [some (.tuple (intsD os)), m, k, some (.int (linR os.reverse [a] [b])), w, z]) (do_for (it_revT (ev_var rfl)) (fun i ρ => ∃ m k t z, ρ = [some (.tuple (intsD os)), some (.int m), some (.int k), some (.int t), some (.int (prodI (os.reverse.take i))), z] ∧ t + prodI (os.reverse.take i) * linR (os.reverse.drop i) [m] [k] = linR os.reverse [a] [b]) ⟨a, b, 0, none, rfl, by simp [prodI]⟩ ?_ ?_) fun ρ' e => ?_
  · rintro i e ρ' he ⟨m, k, t, z, rfl, inv⟩
    rw [rev_ints] at he
    obtain ⟨o, ho', rfl⟩ := at_ints he
    have b1 := prod_take_le hr' i
    have b2 := ord_le hr' (List.mem_of_getElem? ho')
    have r1 := fmod_rng (m - k) (m := o) (by omega)
    have m1 : CMulW ((m - k).fmod o) (prodI (os.reverse.take i)) := mulW_small (by omega) (by omega) (by omega) (by omega)
    have m2 : CMulW (prodI (os.reverse.take i)) o := mulW_small (by omega) (by omega) (by omega) (by omega)
    have d1 : CDivW m o := divW_small (by omega) (by omega)
    have d2 : CDivW k o := divW_small (by omega) (by omega)
    have n1 : o ≠ 0 := by omega
    rw [drop_at ho'] at inv
    have inv2 := step_lis b2.1 inv
    refine ⟨_, tg_name, do_seq (M := fun ρ => ρ = [some (.tuple (intsD os)), some (.int m), some (.int k), some (.int (t + (m - k).fmod o * prodI (os.reverse.take i))), some (.int (prodI (os.reverse.take i))), some (.int o)]) (do_set (d := .int (t + (m - k).fmod o * prodI (os.reverse.take i))) (by walk_at "ev") rfl) fun ρ' e => ?_⟩
    subst e
    refine do_par3 (x := .int (m / o)) (y := .int (k / o)) (z := .int (prodI (os.reverse.take i) * o)) (by walk_at "el") ⟨m / o, k / o, t + (m - k).fmod o * prodI (os.reverse.take i), some (.int o), ?_, ?_⟩
    · rw [take_prod ho']
      rfl
    · rw [take_prod ho']
      exact inv2
  · rintro ρ' ⟨m, k, t, z, rfl, inv⟩
    rw [List.length_reverse, List.length_map, ← List.length_reverse, List.take_length, List.drop_length] at inv
    have e0 : linR [] [m] [k] = 0 := rfl
    rw [e0, Int.mul_zero, Int.add_zero] at inv
    rw [inv]
    exact ⟨some (.int m), some (.int k), some (.int _), z, rfl⟩
  · obtain ⟨m, k, w, z, rfl⟩ := e
    exact do_ret (ev_var rfl) rfl
theorem sc_are_orders : FnScope ["value", "order"] ["value"] (defScope s_are_orders) := ⟨rfl, rfl, rfl, by decide +kernel, rfl, by decide +kernel, by decide +kernel⟩
theorem ok_are_orders {P : Program} {w : World} {K : PySem.W.Frag} {mg : Str → Option Value} {base : Heap} (B : Bi mg) (c_is_from : Cal P w K mg base 2 "is_from" ["value", "least"] (sp K p_is_from)) (h : Has K mg "are_orders" s_are_orders ["value"]) :
    Cal P w K mg base 3 "are_orders" ["value"] (sp K p_are_orders) := by
  refine has_d h sc_are_orders ar_are_orders fun f cdv A outer s H E hg hr => ⟨_, (pss_cons (ps_if (PW.pt (pw_or (pt_not (pt_val (pe_callB (isiK K) (by rfl) B.isinstance (by decide +kernel) (pa_cons (pv 0) (pa_cons (pe_bltn (v := .ty "tuple") (by rfl) B.tuple (by decide +kernel) rfl) pa_nil))))) (pw_or1 (pt_cmpR (eqK K hr) (pe_callB (lenK K) (by rfl) B.len PySem.boot_len (pa_cons (pv 0) pa_nil)) pe_int (nomark _))))) (pss_one (ps_ret pe_bl)) pss_nil)
      (pss_one (ps_ret (pe_callB (allK K rfl) (by rfl) B.all (by decide +kernel) (pa_cons (pe_lc (own := [("order", 1)]) (g := (gName 1)) rfl sc_are_orders.nd (pi_or (pi_listK K (pv 0)) (pi_tupK K (pv 0))) (blkOk_by (N := ["value", "order"]) (sc := defScope s_are_orders) (own := [("order", 1)]) (by decide +kernel)) (fun _ _ _ _ _ => pg_name (i := 1) sc_are_orders.nd rfl (Or.inl rfl)) (fun _ _ _ _ _ => pts_nil) (fun _ _ _ _ _ => (pg_cal hg c_is_from hr (by rfl) (pa_cons (pv 1) (pa_cons pe_int pa_nil))))) pa_nil))))), fun ds d hp => ?_⟩
  obtain ⟨os, rfl, ho, hl, rfl⟩ := hp
  refine do_seq (M := fun ρ => ρ = [some (.tuple (intsD os)), none]) (do_if (b := false) ?_ (fun h => nomatch h) fun _ => do_next rfl) fun ρ' e => ?_
  · refine eb_or (a := false) (eb_not (eb_B (ev_isi (ev_var rfl) (kit_tuple _))) rfl) (fun _ => ?_) (fun h => nomatch h)
    refine eb_test (ev_op (ev_cb (el_cons (ev_var rfl) el_nil) fn_lenT) ev_int (opp_eqD (sh_int _) (sh_int _) ?_))
    rw [eqv_int, ints_len]
    have := ho.1
    cases os with
    | nil => exact absurd rfl this
    | cons o os => simp; omega
  · subst e
    refine do_ret (ev_cb (el_cons (ev_map (it_2 (it_tup (ev_var rfl))) (by rw [ints_len]; omega) (fun _ => .bool true) fun e he => ?_) el_nil) ?_) rfl
    · obtain ⟨x, hx, rfl⟩ := List.mem_map.mp he
      refine ⟨_, tgw_name, ev_call (el_cons (ev_var rfl) (el_cons ev_int el_nil)) ⟨_, _, rfl, ?_⟩⟩
      show PyData.bool true = .bool (decide (2 ≤ x))
      rw [decide_eq_true (ho.2.1 x hx)]
    · have q := fn_all (K := K) (bs := os.map fun _ => true)
      have e1 : (os.map fun _ => true).all id = true := by rw [List.all_eq_true]; intro b hb; obtain ⟨_, _, rfl⟩ := List.mem_map.mp hb; rfl
      rw [List.map_map, e1] at q
      rw [List.map_map]
      exact q
theorem sc_is_system : FnScope ["value", "orders", "tables", "total", "many", "table"] ["value"] (defScope s_is_system) := ⟨rfl, rfl, rfl, by decide +kernel, rfl, by decide +kernel, by decide +kernel⟩
theorem ok_is_system {P : Program} {w : World} {K : PySem.W.Frag} {mg : Str → Option Value} {base : Heap} (B : Bi mg) (c_is_below : Cal P w K mg base 2 "is_below" ["value", "many"] (sp K p_is_below)) (c_is_each_once : Cal P w K mg base 4 "is_each_once" ["value", "many"] (sp K p_is_each_once)) (c_size_of : Cal P w K mg base 1 "size_of" ["orders"] (sp K p_size_of)) (c_are_orders : Cal P w K mg base 3 "are_orders" ["value"] (sp K p_are_orders)) (h : Has K mg "is_system" s_is_system ["value"]) :
    Cal P w K mg base 5 "is_system" ["value"] (sp K p_is_system) := by
  refine has_d h sc_is_system ar_is_system fun f cdv A outer s H E hg hr => ⟨_, (pss_cons (ps_if (PW.pt (pw_or (pt_not (pt_val (pe_callB (isiK K) (by rfl) B.isinstance (by decide +kernel) (pa_cons (pv 0) (pa_cons (pe_bltn (v := .ty "tuple") (by rfl) B.tuple (by decide +kernel) rfl) pa_nil))))) (pw_or1 (pt_cmpR (neK K hr) (pe_callB (lenK K) (by rfl) B.len PySem.boot_len (pa_cons (pv 0) pa_nil)) pe_int (nomark _))))) (pss_one (ps_ret pe_bl)) pss_nil)
      (pss_cons (ps_asg (pv 0) (pg_tup rfl (pgs_cons (pg_name (i := 1) sc_is_system.nd rfl (Or.inl rfl)) (pgs_cons (pg_name (i := 2) sc_is_system.nd rfl (Or.inl rfl)) (pgs_cons (pg_name (i := 3) sc_is_system.nd rfl (Or.inl rfl)) pgs_nil)))))
      (pss_cons (ps_if (PW.pt (pw_or (pt_not (pt_val (pg_cal hg c_are_orders hr (by rfl) (pa_cons (pv 1) pa_nil)))) (pw_or (pt_not (pt_val (pe_callB (isiK K) (by rfl) B.isinstance (by decide +kernel) (pa_cons (pv 2) (pa_cons (pe_bltn (v := .ty "list") (by rfl) B.list (by decide +kernel) rfl) pa_nil))))) (pw_or1 (pt_cmpR op_lt (pe_callB (lenK K) (by rfl) B.len PySem.boot_len (pa_cons (pv 2) pa_nil)) pe_int (nomark _)))))) (pss_one (ps_ret pe_bl)) pss_nil)
      (pss_cons (ps_set (i := 4) sc_is_system.nd rfl (Or.inr rfl) (pg_cal hg c_size_of hr (by rfl) (pa_cons (pv 1) pa_nil)))
      (pss_one (ps_ret (pe_and (pe_callB (allK K rfl) (by rfl) B.all (by decide +kernel) (pa_cons (pe_lc (own := [("table", 5)]) (g := (gName 5)) rfl sc_is_system.nd (pi_or (pi_listK K (pv 2)) (pi_tupK K (pv 2))) (blkOk_by (N := ["value", "orders", "tables", "total", "many", "table"]) (sc := defScope s_is_system) (own := [("table", 5)]) (by decide +kernel)) (fun _ _ _ _ _ => pg_name (i := 5) sc_is_system.nd rfl (Or.inl rfl)) (fun _ _ _ _ _ => pts_nil) (fun _ _ _ _ _ => (pg_cal hg c_is_each_once hr (by rfl) (pa_cons (pv 5) (pa_cons (pv 4) pa_nil))))) pa_nil)) (pe_one (pg_cal hg c_is_below hr (by rfl) (pa_cons (pv 3) (pa_cons (pv 4) pa_nil))))))))))), fun ds d hp => ?_⟩
  obtain ⟨os, ts, tot, rfl, hs, rfl⟩ := hp
  have hl := ords_len hs.ord
  have h3 := hs.two
  have h4 := hs.few
  have pp := (prod_take_le hs.ord os.length).2
  rw [List.take_length] at pp
  have p0 := prod_pos hs.ord.2.1
  refine do_seq (M := fun ρ => ρ = [some (sysD os ts tot), none, none, none, none, none]) (do_if (b := false) ?_ (fun h => nomatch h) fun _ => do_next rfl) fun ρ' e => ?_
  · refine eb_or (a := false) (eb_not (eb_B (ev_isi (ev_var rfl) (kit_tuple _))) rfl) (fun _ => ?_) (fun h => nomatch h)
    refine eb_test (ev_op (ev_cb (el_cons (ev_var rfl) el_nil) fn_lenT) ev_int (opp_neD (sh_int _) (sh_int _) ?_))
    rw [eqv_int]
    rfl
  subst e
  refine do_seq (M := fun ρ => ρ = [some (sysD os ts tot), some (.tuple (intsD os)), some (.list (tabsD ts)), some (.int tot), none, none]) (do_asg (ev_var rfl) (tg_tup rfl (tgs_cons tg_name (tgs_cons tg_name (tgs_cons tg_name tgs_nil)))) rfl) fun ρ' e => ?_
  subst e
  refine do_seq (M := fun ρ => ρ = [some (sysD os ts tot), some (.tuple (intsD os)), some (.list (tabsD ts)), some (.int tot), none, none]) (do_if (b := false) ?_ (fun h => nomatch h) fun _ => do_next rfl) fun ρ' e => ?_
  · refine eb_or (a := false) (eb_not (a := true) (eb_B (ev_call (el_cons (ev_var rfl) el_nil) ⟨os, rfl, hs.ord, by omega, rfl⟩)) rfl) (fun _ => ?_) (fun h => nomatch h)
    refine eb_or (a := false) (eb_not (eb_B (ev_isi (ev_var rfl) (kit_list _))) rfl) (fun _ => ?_) (fun h => nomatch h)
    refine eb_test (ev_op (ev_cb (el_cons (ev_var rfl) el_nil) fn_len) ev_int (op_I0 fun _ => ?_))
    rw [tabs_len, decide_eq_false (by omega)]
    exact .bl _
  subst e
  refine do_seq (M := fun ρ => ρ = [some (sysD os ts tot), some (.tuple (intsD os)), some (.list (tabsD ts)), some (.int tot), some (.int (prodI os)), none]) (do_set (ev_call (el_cons (ev_var rfl) el_nil) ⟨os, rfl, hs.ord, rfl⟩) rfl) fun ρ' e => ?_
  subst e
  refine do_ret (ev_and (a := true) (ev_cb (el_cons (ev_map (it_1 (it_list (ev_var rfl))) (by rw [tabs_len]; omega) (fun _ => .bool true) fun e he => ?_) el_nil) ?_) (fun _ => ev_call (el_cons (ev_var rfl) (el_cons (ev_var rfl) el_nil)) ⟨_, _, rfl, ?_⟩) (fun h => nomatch h)) rfl
  · unfold tabsD at he
    obtain ⟨t, ht, rfl⟩ := List.mem_map.mp he
    have T := hs.tabs t ht
    refine ⟨_, tgw_name, ev_call (el_cons (ev_var rfl) (el_cons (ev_var rfl) el_nil)) ⟨t, t.length, ?_, rfl, ?_, ?_, T.nd, rfl⟩⟩
    · rw [T.len]
    · have := T.len; omega
    · rw [T.len]; exact T.mem
  · have q := fn_all (K := K) (bs := ts.map fun _ => true)
    have e1 : (ts.map fun _ => true).all id = true := by rw [List.all_eq_true]; intro b hb; obtain ⟨_, _, rfl⟩ := List.mem_map.mp hb; rfl
    rw [List.map_map, e1] at q
    unfold tabsD
    rw [List.map_map]
    exact q
  · show PyData.bool true = .bool (decide (0 ≤ tot) && decide (tot < prodI os))
    rw [decide_eq_true hs.t0, decide_eq_true hs.t1]
    rfl
theorem sc_check_system : FnScope ["system"] ["system"] (defScope s_check_system) := ⟨rfl, rfl, rfl, by decide +kernel, rfl, by decide +kernel, by decide +kernel⟩
theorem ok_check_system {P : Program} {w : World} {K : PySem.W.Frag} {mg : Str → Option Value} {base : Heap} (B : Bi mg) (c_is_system : Cal P w K mg base 5 "is_system" ["value"] (sp K p_is_system)) (h : Has K mg "check_system" s_check_system ["system"]) :
    Cal P w K mg base 6 "check_system" ["system"] (sp K p_check_system) := by
  refine has_d h sc_check_system ar_check_system fun f cdv A outer s H E hg hr => ⟨_, (pss_one (ps_if (pt_not (pt_val (pg_cal hg c_is_system hr (by rfl) (pa_cons (pv 0) pa_nil)))) (pss_one ps_never) pss_nil)), fun ds d hp => ?_⟩
  obtain ⟨os, ts, tot, rfl, hs, rfl⟩ := hp
  exact do_if (b := false) (eb_not (a := true) (eb_B (ev_call (el_cons (ev_var rfl) el_nil) ⟨os, ts, tot, rfl, hs, rfl⟩)) rfl) (fun h => nomatch h) fun _ => do_next rfl
theorem sc_check_place : FnScope ["system", "place"] ["system", "place"] (defScope s_check_place) := ⟨rfl, rfl, rfl, by decide +kernel, rfl, by decide +kernel, by decide +kernel⟩
theorem ok_check_place {P : Program} {w : World} {K : PySem.W.Frag} {mg : Str → Option Value} {base : Heap} (B : Bi mg) (c_is_below : Cal P w K mg base 2 "is_below" ["value", "many"] (sp K p_is_below)) (h : Has K mg "check_place" s_check_place ["system", "place"]) :
    Cal P w K mg base 3 "check_place" ["system", "place"] (sp K p_check_place) := by
  refine has_d h sc_check_place ar_check_place fun f cdv A outer s H E hg hr => ⟨_, (pss_one (ps_if (pt_not (pt_val (pg_cal hg c_is_below hr (by rfl) (pa_cons (pv 1) (pa_cons (pe_callB (lenK K) (by rfl) B.len PySem.boot_len (pa_cons (pe_ix (ixK K) (pv 0) pe_int (fun _ _ => rfl)) pa_nil)) pa_nil))))) (pss_one ps_never) pss_nil)), fun ds d hp => ?_⟩
  obtain ⟨os, ts, tot, p, rfl, hs, h0, h1, rfl⟩ := hp
  refine do_if (b := false) (eb_not (a := true) (eb_B (ev_call (el_cons (ev_var rfl) (el_cons (ev_cb (el_cons (ev_op (ev_var rfl) ev_int (opp_2 (opp_ixT (i := 1) rfl))) el_nil) fn_len) el_nil)) ⟨_, _, rfl, ?_⟩)) rfl) (fun h => nomatch h) fun _ => do_next rfl
  show PyData.bool true = .bool (decide (0 ≤ p) && decide (p < ((tabsD ts).length : Int)))
  rw [tabs_len, decide_eq_true h0, decide_eq_true h1]
  rfl
end K08
end
section
set_option maxRecDepth 100000
set_option maxHeartbeats 4000000
namespace K08
open PySem PySem.Spec PyProof.Rows L2 G Lin
local macro_rules | `(tactic| walk_at "ev") => `(tactic| first
  | exact ev_var rfl | exact ev_int | exact ev_bl | exact ev_non | exact ev_str
  | (apply ev_op; (focus walk_at "ev"); (focus walk_at "ev"); (focus walk_at "op"))
  | (apply ev_cb; (focus walk_at "el"); (focus walk_at "fn"))
  | (apply ev_lst; (focus walk_at "el"); (show _ ≤ sizeLine; decide))
  | (apply ev_tup; (focus walk_at "el"); (show _ ≤ sizeLine; decide)))
local macro_rules | `(tactic| walk_at "el") => `(tactic| first
  | exact el_nil
  | (apply el_cons; (focus walk_at "ev"); (focus walk_at "el")))
local macro_rules | `(tactic| walk_at "fn") => `(tactic| first
  | exact fn_int | exact fn_len | exact fn_all | exact fn_listL | exact fn_listT)
local macro_rules | `(tactic| walk_at "op") => `(tactic| first
  | exact op_I0 (fun _ => .int _) | exact op_I0 (fun _ => .bl _) | exact opp_1 (op_I0 fun _ => .int _)
  | exact op_I (by show (_ : Int) ≠ 0; decide) (fun _ => .int _)
  | exact op_I (by assumption) (fun _ => .int _)
  | exact opp_1 (op_I (by assumption) fun _ => .int _)
  | exact opp_1 (opp_ixL (i := 0) rfl) | exact opp_2 (opp_ixT (i := 0) rfl) | exact opp_2 (opp_ixT (i := 1) rfl) | exact opp_2 (opp_ixT (i := 2) rfl))
theorem sc_law_hash : FnScope ["seed", "index", "mixed"] ["seed", "index"] (defScope s_law_hash) := ⟨rfl, rfl, rfl, by decide +kernel, rfl, by decide +kernel, by decide +kernel⟩
theorem ok_law_hash {P : Program} {w : World} {K : PySem.W.Frag} {mg : Str → Option Value} {base : Heap} (B : Bi mg)  (h : Has K mg "_law_hash" s_law_hash ["seed", "index"]) :
    Cal P w K mg base 1 "_law_hash" ["seed", "index"] (sp K p_law_hash) := by
  refine has_d h sc_law_hash ar_law_hash fun f cdv A outer s H E hg hr => ⟨_, (pss_cons (ps_set (i := 2) sc_law_hash.nd rfl (Or.inl rfl) (pe_op op_modN (pe_callTy call_int1 (by rfl) B.int (by decide +kernel) (pa_cons (pe_op (addK K) (pe_op (addK K) (pe_op (addK K) (pe_op op_mulA (pv 0) pe_int) (pe_op op_mulA (pe_op op_mulA pe_int (pv 1)) (pv 1))) (pe_op op_mulA pe_int (pv 1))) pe_int) pa_nil)) pe_int))
      (pss_cons (ps_set (i := 2) sc_law_hash.nd rfl (Or.inl rfl) (pe_op op_modN (pe_callTy call_int1 (by rfl) B.int (by decide +kernel) (pa_cons (pe_op (addK K) (pe_op (addK K) (pe_op op_mulA (pv 2) (pv 2)) (pe_op op_mulA pe_int (pv 1))) pe_int) pa_nil)) pe_int))
      (pss_one (ps_ret (pe_op op_modN (pe_callTy call_int1 (by rfl) B.int (by decide +kernel) (pa_cons (pe_op op_mulA (pv 2) pe_int) pa_nil)) pe_int))))), fun ds d hp => ?_⟩
  obtain ⟨a, n, rfl, h1, h2, h3, h4, rfl⟩ := hp
  have bn : n.natAbs < 2 ^ 41 := by omega
  have ba : a.natAbs < 2 ^ 31 := by omega
  have b1 : (27644437 * n).natAbs < 2 ^ (25 + 41) := abs_mul (by decide) bn
  have m1 : CMulW a 1140671 := wide_mul ba (b := 21) (by decide) (by decide) (by decide) (by decide)
  have m2 : CMulW 27644437 n := wide_mul (a := 25) (by decide) bn (by decide) (by decide) (by decide)
  have m3 : CMulW (27644437 * n) n := wide_mul b1 bn (by decide) (by decide) (by decide)
  have m4 : CMulW 131 n := wide_mul (a := 8) (by decide) bn (by decide) (by decide) (by decide)
  have m5 : CMulW 62089 n := wide_mul (a := 16) (by decide) bn (by decide) (by decide) (by decide)
  have r1 := fmod_rng (a * 1140671 + 27644437 * n * n + 131 * n + 19) (m := 2147483629) (by decide)
  have m6 : CMulW ((a * 1140671 + 27644437 * n * n + 131 * n + 19).fmod 2147483629) ((a * 1140671 + 27644437 * n * n + 131 * n + 19).fmod 2147483629) :=
    wide_mul (a := 31) (b := 31) (by omega) (by omega) (by decide) (by decide) (by decide)
  have r2 := fmod_rng ((a * 1140671 + 27644437 * n * n + 131 * n + 19).fmod 2147483629 * (a * 1140671 + 27644437 * n * n + 131 * n + 19).fmod 2147483629 + 62089 * n + 32416187) (m := 2147483587) (by decide)
  have m7 : CMulW (((a * 1140671 + 27644437 * n * n + 131 * n + 19).fmod 2147483629 * (a * 1140671 + 27644437 * n * n + 131 * n + 19).fmod 2147483629 + 62089 * n + 32416187).fmod 2147483587) 48271 :=
    wide_mul (a := 31) (b := 16) (by omega) (by decide) (by decide) (by decide) (by decide)
  refine do_seq (M := fun ρ => ρ = [some (.int a), some (.int n), some (.int ((a * 1140671 + 27644437 * n * n + 131 * n + 19).fmod 2147483629))]) (do_set (d := .int ((a * 1140671 + 27644437 * n * n + 131 * n + 19).fmod 2147483629)) (by walk_at "ev") rfl) fun ρ' e => ?_
  subst e
  refine do_seq (M := fun ρ => ρ = [some (.int a), some (.int n), some (.int (((a * 1140671 + 27644437 * n * n + 131 * n + 19).fmod 2147483629 * (a * 1140671 + 27644437 * n * n + 131 * n + 19).fmod 2147483629 + 62089 * n + 32416187).fmod 2147483587))]) (do_set (d := .int (((a * 1140671 + 27644437 * n * n + 131 * n + 19).fmod 2147483629 * (a * 1140671 + 27644437 * n * n + 131 * n + 19).fmod 2147483629 + 62089 * n + 32416187).fmod 2147483587)) (by walk_at "ev") rfl) fun ρ' e => ?_
  subst e
  exact do_ret (d := .int (hashI a n)) (by unfold hashI; walk_at "ev") rfl
def p_law_random (ds : List PyData) (c : Nat) (R : PyData → Nat → Prop) : Prop := ∃ b : Int, ds = [.int b] ∧ 0 < b ∧ b < 2 ^ 100 ∧ c ≤ 2 ^ 39 ∧ ∀ i : Int, 0 ≤ i → i < b → R (.int i) (c + 4)
theorem sc_law_random : FnScope ["generator", "bound", "drawn", "turn"] ["generator", "bound"] (defScope s_law_random) := ⟨rfl, rfl, rfl, by decide +kernel, rfl, by decide +kernel, by decide +kernel⟩
theorem ok_law_random {P : Program} {w : World} {K : PySem.W.Frag} {mg : Str → Option Value} {base : Heap} (B : Bi mg) (c_law_hash : Cal P w K mg base 1 "_law_hash" ["seed", "index"] (sp K p_law_hash)) (h : Has K mg "_law_random" s_law_random ["generator", "bound"]) :
    Cal P w K mg base 2 "_law_random" ["generator", "bound"] (spG K p_law_random) := by
  obtain ⟨f, fd, F, hmg, bd⟩ := h
  refine ⟨f, fd, hmg, kq_of F, bd, fn_g0 F sc_law_random (fun vs H Q E h => ?_) fun cdv A outer s H vs Q E hg hr h => ⟨_, (pss_cons (ps_if (pt_cmpR op_gt (pe_ix ix_A (pv 0) pe_int (fun _ _ => rfl)) pe_int (nomark _)) (pss_cons (ps_set (i := 2) sc_law_random.nd rfl (Or.inl rfl) (pe_op op_modN (pe_callTy call_int1 (by rfl) B.int (by decide +kernel) (pa_cons (pe_ix ix_A (pv 0) pe_int (fun _ _ => rfl)) pa_nil)) (pv 1)))
      (pss_cons (ps_asg (pe_op op_fdivW (pe_ix ix_A (pv 0) pe_int (fun _ _ => rfl)) (pv 1)) (pg_sub (pv 0) pe_int set_list))
      (pss_one (ps_ret (pv 2))))) pss_nil)
      (pss_cons (ps_set (i := 2) sc_law_random.nd rfl (Or.inl rfl) pe_int)
      (pss_cons (ps_for PassesOwn.never rfl (pi_range1 (by rfl) B.range (pa_cons (pe_op op_addA pe_int (pe_op op_fdivW (pe_bits (pv 1)) pe_int)) pa_nil)) (pg_name (i := 3) sc_law_random.nd rfl (Or.inl rfl)) (pss_cons (ps_asg (pe_op op_addA (pe_ix ix_A (pv 0) pe_int (fun _ _ => rfl)) pe_int) (pg_sub (pv 0) pe_int set_list))
      (pss_one (ps_set (i := 2) sc_law_random.nd rfl (Or.inl rfl) (pe_op op_addA (pe_op op_mulA (pv 2) pe_int) (pg_cal hg c_law_hash hr (by rfl) (pa_cons (pe_ix ix_A (pv 0) pe_int (fun _ _ => rfl)) (pa_cons (pe_ix ix_A (pv 0) pe_int (fun _ _ => rfl)) pa_nil))))))))
      (pss_one (ps_ret (pe_op op_modN (pe_callTy call_int1 (by rfl) B.int (by decide +kernel) (pa_cons (pv 2) pa_nil)) (pv 1))))))), ?_⟩⟩
  · obtain ⟨g, us, B, ds, c, R, rfl, _, _, _, a, ⟨b, rfl, _⟩, _⟩ := h
    rw [List.length_cons, a.len]
    rfl
  obtain ⟨g, us, B, ds, c, R, rfl, hs, hgn, n, a, ⟨b, rfl, hb0, hb1, hc, hR⟩, q⟩ := h
  cases a with
  | cons h1 t =>
    cases t
    cases h1
    obtain ⟨x, y, z, hH, x0, x1, y0, y1, z0, z1⟩ := n
    have nb : b ≠ 0 := by omega
    have dv : CDivW x b := wide_div hb0 (b := 100) (by omega) (by decide) (by decide)
    refine ⟨_, rfl, .inl ⟨g, _, 0, _, rfl, rfl, .of hH, rfl, _, _, rfl, rfl, _, rfl, ?_⟩⟩
    refine ite2 (fun hx => ?_) (fun hx => ?_)
    · have hx' : 0 < x := of_decide_eq_true hx
      refine ⟨_, rfl, .inl ⟨g, _, 0, _, rfl, rfl, .of hH, rfl, .inl ⟨_, rfl, _, rfl, _, _, rfl, rfl, nb, ?_⟩⟩⟩
      refine ⟨_, rfl, .inl ⟨g, _, 0, _, rfl, rfl, .of hH, rfl, _, rfl, _, _, rfl, rfl, dv, ?_⟩⟩
      refine ⟨_, rfl, g, _, 0, 0, rfl, rfl, hH, rfl, _, rfl, ?_⟩
      have r := fmod_rng x hb0
      have dx : x / b ≤ x := Int.ediv_le_self _ x0
      have dn : 0 ≤ x / b := Int.ediv_nonneg x0 (by omega)
      refine q _ B _ (.int (x.fmod b)) (c + 4) ⟨fun a o ne e => ?_, Same.refl _, fun a o e => ?_, fun a o e m => (by rw [m] at e; cases e), hgn⟩ ⟨x / b, y, z, upd_same, dn, by omega, y0, y1, z0, by omega⟩ (.int _) (hR _ r.1 r.2)
      · rw [upd_ne ne]
        exact e
      · rw [upd_ne (ne_of_none e hgn)]
        exact hs a o e
    · have ib := bits_le hb0 hb1
      generalize hk : Builtin.Int.intBits b = bits at ib
      have hd30 : ((bits : Nat) : Int) / 30 = ((bits / 30 : Nat) : Int) := by omega
      have e1 : (1 : Int) + ((bits : Nat) : Int) / 30 = ((1 + bits / 30 : Nat) : Int) := by omega
      refine ⟨_, rfl, b, rfl, ?_⟩
      rw [hk]
      refine ⟨_, _, rfl, rfl, wide_div (by decide) (b := 5) (by decide) (by decide) (by decide), .inl ⟨_, _, rfl, rfl, _, rfl, by omega, by omega, ?_⟩⟩
      rw [e1, Int.toNat_natCast]
      refine for_range (lo := 0) (n := 1 + bits / 30) (fun i σ' H' => ∃ (dn : Nat) (t : Option V) (B' : Hp), σ' = [some (.ref g), some (.int b), some (.int dn), t] ∧ dn < 2 ^ (32 * i) ∧ Gg g B H B' H' ∧ H' g = some (.lst [.int x, .int y, .int (z + i)])) ?_ ?_ ?_
      · exact ⟨0, none, B, rfl, by decide, .refl hs hgn, by rw [hH]; simp⟩
      · rintro i σ' H' hi ⟨dn, t, B', rfl, hdn, gg, hg'⟩
        refine ⟨_, rfl, .inl ⟨g, _, 2, _, rfl, rfl, .of hg', rfl, .inl ⟨_, _, rfl, rfl, ?_⟩⟩⟩
        refine ⟨_, rfl, g, _, 2, 2, rfl, rfl, hg', rfl, ?_⟩
        have mw : CMulW (dn : Int) 2147483587 := by
          refine wide_mul (a := 32 * i + 1) (b := 32) ?_ (by decide) (by omega) (by decide) (by omega)
          rw [Int.natAbs_natCast, Nat.pow_succ]
          omega
        refine ⟨_, rfl, .inl ⟨_, _, rfl, rfl, mw, ?_⟩⟩
        refine ⟨_, rfl, .inl ⟨g, _, 1, _, rfl, rfl, .of upd_same, rfl, ?_⟩⟩
        refine ⟨_, rfl, .inl ⟨g, _, 2, _, rfl, rfl, .of upd_same, rfl, ?_⟩⟩
        have sb : Same B' (upd H' g (.lst [.int x, .int y, .int (z + i + 1)])) := fun a o e => by
          rw [upd_ne (ne_of_none e gg.off)]
          exact gg.sub a o e
        refine ⟨B', [.int y, .int (z + i + 1)], .int (hashI y (z + i + 1)), sb, .cons (.int _) (.cons (.int _) .nil), ⟨y, z + i + 1, rfl, y0, y1, by omega, by omega, rfl⟩, fun v B2 H2 g2 hv => ?_⟩
        cases hv
        have hr2 := hash_rng y (z + i + 1)
        refine .inl ⟨_, _, rfl, rfl, (dn * 2147483587 + (hashI y (z + i + 1)).toNat), some (.int (0 + i)), B2, ?_, ?_, ?_, ?_⟩
        · have e : ((dn * 2147483587 + (hashI y (z + i + 1)).toNat : Nat) : Int) = (dn : Int) * 2147483587 + hashI y (z + i + 1) := by omega
          rw [e]
          rfl
        · rw [show 32 * (i + 1) = 32 * i + 32 by omega, Nat.pow_add]
          generalize 2 ^ (32 * i) = p at *
          omega
        · have gB2 : B2 g = none := by
            cases zz : B2 g with
            | none => rfl
            | some o => exact absurd (g2.new g o zz gg.off) (by rw [upd_same]; simp)
          refine ⟨fun a o ne e => g2.ex a o ?_, gg.bb.trans g2.bb, g2.sub, fun a o e m => ?_, gB2⟩
          · rw [upd_ne ne]
            exact gg.ex a o ne e
          · cases w1 : B' a with
            | none =>
              have z2 := g2.new a o e w1
              have ne : a ≠ g := fun qq => by subst qq; rw [gB2] at e; cases e
              rw [upd_ne ne] at z2
              cases w2 : H a with
              | none => rfl
              | some u => rw [gg.ex a u ne w2] at z2; cases z2
            | some u => exact gg.new a u w1 m
        · rw [g2.ex _ _ upd_same]
          have e : z + (i : Int) + 1 = z + ((i + 1 : Nat) : Int) := by omega
          show some (HO.lst [V.int x, V.int y, V.int (z + i + 1)]) = _
          rw [e]
      · rintro σ' H' ⟨dn, t, B', rfl, hdn, gg, hg'⟩
        refine ⟨_, rfl, .inl ⟨_, rfl, _, rfl, _, _, rfl, rfl, nb, ?_⟩⟩
        have r := fmod_rng (dn : Int) hb0
        exact q _ B' _ (.int ((dn : Int).fmod b)) (c + 4) gg ⟨x, y, _, hg', x0, x1, y0, y1, by omega, by omega⟩ (.int _) (hR _ r.1 r.2)

end K08
end
section
set_option maxRecDepth 100000
set_option maxHeartbeats 4000000
namespace K08
open PySem PySem.Spec PyProof.Rows L2 G Lin
local macro_rules | `(tactic| walk_at "ev") => `(tactic| first
  | exact ev_var rfl | exact ev_int | exact ev_bl | exact ev_non | exact ev_str
  | (apply ev_op; (focus walk_at "ev"); (focus walk_at "ev"); (focus walk_at "op"))
  | (apply ev_cb; (focus walk_at "el"); (focus walk_at "fn"))
  | (apply ev_lst; (focus walk_at "el"); (show _ ≤ sizeLine; decide))
  | (apply ev_tup; (focus walk_at "el"); (show _ ≤ sizeLine; decide)))
local macro_rules | `(tactic| walk_at "el") => `(tactic| first
  | exact el_nil
  | (apply el_cons; (focus walk_at "ev"); (focus walk_at "el")))
local macro_rules | `(tactic| walk_at "fn") => `(tactic| first
  | exact fn_int | exact fn_len | exact fn_all | exact fn_listL | exact fn_listT)
local macro_rules | `(tactic| walk_at "op") => `(tactic| first
  | exact op_I0 (fun _ => .int _) | exact op_I0 (fun _ => .bl _) | exact opp_1 (op_I0 fun _ => .int _)
  | exact op_I (by show (_ : Int) ≠ 0; decide) (fun _ => .int _)
  | exact op_I (by assumption) (fun _ => .int _)
  | exact opp_1 (op_I (by assumption) fun _ => .int _)
  | exact opp_1 (opp_ixL (i := 0) rfl) | exact opp_2 (opp_ixT (i := 0) rfl) | exact opp_2 (opp_ixT (i := 1) rfl) | exact opp_2 (opp_ixT (i := 2) rfl))
/-! the law's own figures -/
def digR : List Int → Int → List Int
  | [], _ => []
  | o :: r, x => x % o :: digR r (x / o)
def fromR : List Int → List Int → Int
  | o :: r, p :: ps => p % o + o * fromR r ps
  | _, _ => 0
def divR (r : List Int) (x : Int) : Int := r.foldl (fun y o => y / o) x
theorem digR_len : ∀ (r : List Int) (x : Int), (digR r x).length = r.length
  | [], _ => rfl
  | o :: r, x => by
    show (digR r (x / o)).length + 1 = r.length + 1
    rw [digR_len r]
theorem digR_snoc : ∀ (r : List Int) (o x : Int), digR (r ++ [o]) x = digR r x ++ [divR r x % o]
  | [], _, _ => rfl
  | a :: r, o, x => by
    show x % a :: digR (r ++ [o]) (x / a) = x % a :: (digR r (x / a) ++ [divR r (x / a) % o])
    rw [digR_snoc r o (x / a)]
theorem divR_snoc (r : List Int) (o x : Int) : divR (r ++ [o]) x = divR r x / o := by
  unfold divR
  rw [List.foldl_append]
  rfl
theorem fromR_rng : ∀ {r : List Int}, Pos r → ∀ ps, 0 ≤ fromR r ps ∧ fromR r ps < prodR r
  | [], _, ps => by cases ps <;> exact ⟨Int.le_refl 0, (by decide : (0 : Int) < 1)⟩
  | o :: r, h, [] => by
    have := prodR_pos h
    exact ⟨Int.le_refl 0, by show (0 : Int) < _; omega⟩
  | o :: r, h, p :: ps => by
    have ih := fromR_rng h.tail ps
    have h0 := h.head
    have a0 := Int.emod_nonneg p (show o ≠ 0 by omega)
    have a1 := Int.emod_lt_of_pos p (show 0 < o by omega)
    show 0 ≤ p % o + o * fromR r ps ∧ p % o + o * fromR r ps < o * prodR r
    have b0 : 0 ≤ o * fromR r ps := Int.mul_nonneg (by omega) ih.1
    have b1 : o * (fromR r ps + 1) ≤ o * prodR r := Int.mul_le_mul_of_nonneg_left (by omega) (by omega)
    rw [Int.mul_add] at b1
    omega
theorem from_add : ∀ {r : List Int}, Pos r → ∀ a b, fromR r (List.zipWith (· + ·) (digR r a) (digR r b)) = linR r [a, b] []
  | [], _, _, _ => rfl
  | o :: r, h, a, b => by
    have h0 := h.head
    show (a % o + b % o) % o + o * fromR r (List.zipWith (· + ·) (digR r (a / o)) (digR r (b / o))) = ([a, b].sum - ([] : List Int).sum) % o + o * linR r [a / o, b / o] []
    rw [from_add h.tail]
    have e : [a, b].sum - ([] : List Int).sum = a + b := by simp
    rw [e, ← Int.add_emod]
theorem from_sub : ∀ {r : List Int}, Pos r → ∀ a b, fromR r (List.zipWith (· - ·) (digR r a) (digR r b)) = linR r [a] [b]
  | [], _, _, _ => rfl
  | o :: r, h, a, b => by
    have h0 := h.head
    show (a % o - b % o) % o + o * fromR r (List.zipWith (· - ·) (digR r (a / o)) (digR r (b / o))) = ([a].sum - [b].sum) % o + o * linR r [a / o] [b / o]
    rw [from_sub h.tail]
    have e : [a].sum - [b].sum = a - b := by simp
    rw [e, ← Int.sub_emod]
def p_law_size (ds : List PyData) (d : PyData) : Prop := ∃ os, ds = [.tuple (intsD os)] ∧ Ords os ∧ d = .int (prodI os)
def p_law_parts (ds : List PyData) (d : PyData) : Prop := ∃ os x, ds = [.tuple (intsD os), .int x] ∧ Ords os ∧ d = .list (intsD (digR os.reverse x).reverse)
def p_law_from (ds : List PyData) (d : PyData) : Prop := ∃ os ps, ds = [.tuple (intsD os), .list (intsD ps)] ∧ Ords os ∧ ps.length = os.length ∧ d = .int (fromR os.reverse ps.reverse)
def p_law_plus (ds : List PyData) (d : PyData) : Prop := ∃ os a b, ds = [.tuple (intsD os), .int a, .int b] ∧ Ords os ∧ d = .int (linR os.reverse [a, b] [])
def p_law_less (ds : List PyData) (d : PyData) : Prop := ∃ os a b, ds = [.tuple (intsD os), .int a, .int b] ∧ Ords os ∧ d = .int (linR os.reverse [a] [b])
def p_law_off (ds : List PyData) (d : PyData) : Prop := ∃ os ts tot cs, ds = [sysD os ts tot, .list (intsD cs)] ∧ Sys os ts tot ∧ Code os ts cs ∧ d = .int (linR os.reverse (vals ts cs) [tot])
def p_law_put (ds : List PyData) (d : PyData) : Prop := ∃ (cs : List Int) (p : Nat) (w : Int), ds = [.list (intsD cs), .int p, .int w] ∧ p < cs.length ∧ cs.length ≤ 1000 ∧ d = .list (intsD (cs.set p w))
theorem ar_law_size (ds : List PyData) (d : PyData) (h : p_law_size ds d) : ds.length = 1 := by obtain ⟨_, rfl, _⟩ := h; rfl
theorem ar_law_parts (ds : List PyData) (d : PyData) (h : p_law_parts ds d) : ds.length = 2 := by obtain ⟨_, _, rfl, _⟩ := h; rfl
theorem ar_law_from (ds : List PyData) (d : PyData) (h : p_law_from ds d) : ds.length = 2 := by obtain ⟨_, _, rfl, _⟩ := h; rfl
theorem ar_law_plus (ds : List PyData) (d : PyData) (h : p_law_plus ds d) : ds.length = 3 := by obtain ⟨_, _, _, rfl, _⟩ := h; rfl
theorem ar_law_less (ds : List PyData) (d : PyData) (h : p_law_less ds d) : ds.length = 3 := by obtain ⟨_, _, _, rfl, _⟩ := h; rfl
theorem ar_law_off (ds : List PyData) (d : PyData) (h : p_law_off ds d) : ds.length = 2 := by obtain ⟨_, _, _, _, rfl, _⟩ := h; rfl
theorem ar_law_put (ds : List PyData) (d : PyData) (h : p_law_put ds d) : ds.length = 3 := by obtain ⟨_, _, _, rfl, _⟩ := h; rfl
theorem take_snoc {α : Type} {r : List α} {i : Nat} {o : α} (h : r[i]? = some o) : r.take (i + 1) = r.take i ++ [o] := by rw [List.take_add_one, h]; rfl
def addP : PyData → PyData
  | .tuple [.int x, .int y] => .int (x + y)
  | _ => .none
def subP : PyData → PyData
  | .tuple [.int x, .int y] => .int (x - y)
  | _ => .none
theorem zip_ints : ∀ (xs ys : List Int), zipD (intsD xs) (intsD ys) = List.zipWith (fun x y => .tuple [.int x, .int y]) xs ys
  | [], _ => rfl
  | x :: xs, [] => rfl
  | x :: xs, y :: ys => by
    have ih := zip_ints xs ys
    show PyData.tuple [.int x, .int y] :: zipD (intsD xs) (intsD ys) = _
    rw [ih]
    rfl
theorem map_addP (xs ys : List Int) : (List.zipWith (fun x y => PyData.tuple [.int x, .int y]) xs ys).map addP = intsD (List.zipWith (· + ·) xs ys) := by
  rw [List.map_zipWith, intsD, List.map_zipWith]
  rfl
theorem map_subP (xs ys : List Int) : (List.zipWith (fun x y => PyData.tuple [.int x, .int y]) xs ys).map subP = intsD (List.zipWith (· - ·) xs ys) := by
  rw [List.map_zipWith, intsD, List.map_zipWith]
  rfl
theorem mem_zi : ∀ {xs ys : List Int} {e : PyData}, e ∈ List.zipWith (fun x y => PyData.tuple [.int x, .int y]) xs ys → ∃ x y, e = .tuple [.int x, .int y]
  | [], _, _, h => by simp at h
  | _ :: _, [], _, h => by simp at h
  | x :: xs, y :: ys, e, h => by
    rw [List.zipWith_cons_cons] at h
    rcases List.mem_cons.mp h with rfl | h
    · exact ⟨x, y, rfl⟩
    · exact mem_zi h
theorem sc_law_size : FnScope ["orders_there", "found", "order"] ["orders_there"] (defScope s_law_size) := ⟨rfl, rfl, rfl, by decide +kernel, rfl, by decide +kernel, by decide +kernel⟩
theorem ok_law_size {P : Program} {w : World} {K : PySem.W.Frag} {mg : Str → Option Value} {base : Heap} (B : Bi mg)  (h : Has K mg "_law_size" s_law_size ["orders_there"]) :
    Cal P w K mg base 1 "_law_size" ["orders_there"] (sp K p_law_size) := by
  refine has_d h sc_law_size ar_law_size fun f cdv A outer s H E hg hr => ⟨_, (pss_cons (ps_set (i := 1) sc_law_size.nd rfl (Or.inl rfl) pe_int)
      (pss_cons (ps_for PassesOwn.never rfl (pi_or (pi_listK K (pv 0)) (pi_tupK K (pv 0))) (pg_name (i := 2) sc_law_size.nd rfl (Or.inl rfl)) (pss_one (ps_set (i := 1) sc_law_size.nd rfl (Or.inl rfl) (pe_op op_mulA (pv 1) (pv 2)))))
      (pss_one (ps_ret (pv 1))))), fun ds d hp => ?_⟩
  obtain ⟨os, rfl, ho, rfl⟩ := hp
  refine do_seq (M := fun ρ => ρ = [some (.tuple (intsD os)), some (.int 1), none]) (do_set ev_int rfl) fun ρ' e => ?_
  subst e
  refine do_seq (M := fun ρ => ∃ z, ρ = [some (.tuple (intsD os)), some (.int (prodI os)), z]) (do_for (it_2 (it_tup (ev_var rfl))) (fun i ρ => ∃ z, ρ = [some (.tuple (intsD os)), some (.int (prodI (os.take i))), z]) ⟨_, rfl⟩ ?_ ?_) fun ρ' e => ?_
  · rintro i e ρ' he ⟨z, rfl⟩
    obtain ⟨o, ho', rfl⟩ := at_ints he
    have st := take_prod ho'
    refine ⟨_, tg_name, do_set (ev_op (ev_var rfl) (ev_var rfl) (opp_1 (op_I ?_ fun _ => .int _))) ⟨some (.int o), ?_⟩⟩
    · have b1 := prod_take_le ho i
      have b2 := ord_le ho (List.mem_of_getElem? ho')
      exact wide_mul (a := 20) (b := 20) (by have := b1.1; have := b1.2; omega) (by omega) (by decide) (by decide) (by decide)
    · rw [st]
      rfl
  · rintro ρ' ⟨z, rfl⟩
    refine ⟨z, ?_⟩
    rw [List.length_map, List.take_length]
  · obtain ⟨z, rfl⟩ := e
    exact do_ret (ev_var rfl) rfl
theorem sc_law_parts : FnScope ["orders_there", "item", "found", "order"] ["orders_there", "item"] (defScope s_law_parts) := ⟨rfl, rfl, rfl, by decide +kernel, rfl, by decide +kernel, by decide +kernel⟩
theorem ok_law_parts {P : Program} {w : World} {K : PySem.W.Frag} {mg : Str → Option Value} {base : Heap} (B : Bi mg)  (h : Has K mg "_law_parts" s_law_parts ["orders_there", "item"]) :
    Cal P w K mg base 1 "_law_parts" ["orders_there", "item"] (sp K p_law_parts) := by
  refine has_d h sc_law_parts ar_law_parts fun f cdv A outer s H E hg hr => ⟨_, (pss_cons (ps_set (i := 2) sc_law_parts.nd rfl (Or.inl rfl) (pe_lst pa_nil))
      (pss_cons (ps_for PassesOwn.never rfl (pi_or (pi_listK K (revK K (pv 0))) (pi_tupK K (revK K (pv 0)))) (pg_name (i := 3) sc_law_parts.nd rfl (Or.inl rfl)) (pss_cons (ps_set (i := 2) sc_law_parts.nd rfl (Or.inl rfl) (pe_op (addK K) (pe_lst (pa_cons (pe_op op_modN (pe_callTy call_int1 (by rfl) B.int (by decide +kernel) (pa_cons (pv 1) pa_nil)) (pv 3)) pa_nil)) (pv 2)))
      (pss_one (ps_set (i := 1) sc_law_parts.nd rfl (Or.inl rfl) (pe_op op_fdivW (pv 1) (pv 3))))))
      (pss_one (ps_ret (pv 2))))), fun ds d hp => ?_⟩
  obtain ⟨os, x, rfl, ho, rfl⟩ := hp
  have hr' := ho.rev
  have hl := ords_len ho
  refine do_seq (M := fun ρ => ρ = [some (.tuple (intsD os)), some (.int x), some (.list []), none]) (do_set (ev_lst el_nil (by decide)) rfl) fun ρ' e => ?_
  subst e
  refine do_seq (M := fun ρ => ∃ y z, ρ = [some (.tuple (intsD os)), y, some (.list (intsD (digR os.reverse x).reverse)), z]) (do_for (it_2 (it_tup (ev_revT (ev_var rfl)))) (fun i ρ => ∃ z, ρ = [some (.tuple (intsD os)), some (.int (divR (os.reverse.take i) x)), some (.list (intsD (digR (os.reverse.take i) x).reverse)), z]) ⟨none, rfl⟩ ?_ ?_) fun ρ' e => ?_
  · rintro i e ρ' he ⟨z, rfl⟩
    rw [rev_ints] at he
    obtain ⟨o, ho', rfl⟩ := at_ints he
    have b2 := ord_le hr' (List.mem_of_getElem? ho')
    have hi := (List.getElem?_eq_some_iff.mp ho').1
    rw [List.length_reverse] at hi
    have d1 : CDivW (divR (os.reverse.take i) x) o := divW_small (by omega) (by omega)
    have n1 : o ≠ 0 := by omega
    refine ⟨_, tg_name, do_seq (M := fun ρ => ρ = [some (.tuple (intsD os)), some (.int (divR (os.reverse.take i) x)), some (.list (intsD (digR (os.reverse.take (i + 1)) x).reverse)), some (.int o)]) (do_set ?_ rfl) fun ρ' e => ?_⟩
    · rw [take_snoc ho', digR_snoc, List.reverse_append]
      refine ev_op (x := .list [.int ((divR (os.reverse.take i) x).fmod o)]) (ev_lst (el_cons (ev_op (ev_cb (el_cons (ev_var rfl) el_nil) fn_int) (ev_var rfl) (op_I n1 fun _ => .int _)) el_nil) (by show 1 ≤ sizeLine; decide)) (ev_var rfl) (opp_2 (opp_1 ?_))
      have q := opp_cat (K := K) (xs := [PyData.int ((divR (os.reverse.take i) x).fmod o)]) (ys := intsD (digR (os.reverse.take i) x).reverse) (by
        rw [ints_len, List.length_reverse, digR_len, List.length_take, sizeLine_eq]
        show 1 + _ ≤ _
        omega)
      rw [Int.fmod_eq_emod_of_nonneg _ (by omega)] at q ⊢
      exact q
    · subst e
      refine do_set (d := .int (divR (os.reverse.take i) x / o)) (by walk_at "ev") ⟨some (.int o), ?_⟩
      rw [take_snoc ho', divR_snoc]
      rfl
  · rintro ρ' ⟨z, rfl⟩
    refine ⟨some (.int (divR (os.reverse.take (intsD os).reverse.length) x)), z, ?_⟩
    rw [List.length_reverse, List.length_map, ← List.length_reverse, List.take_length]
  · obtain ⟨y, z, rfl⟩ := e
    exact do_ret (ev_var rfl) rfl
theorem sc_law_from : FnScope ["orders_there", "parts", "found", "order", "part"] ["orders_there", "parts"] (defScope s_law_from) := ⟨rfl, rfl, rfl, by decide +kernel, rfl, by decide +kernel, by decide +kernel⟩
theorem ok_law_from {P : Program} {w : World} {K : PySem.W.Frag} {mg : Str → Option Value} {base : Heap} (B : Bi mg)  (h : Has K mg "_law_from" s_law_from ["orders_there", "parts"]) :
    Cal P w K mg base 1 "_law_from" ["orders_there", "parts"] (sp K p_law_from) := by
  refine has_d h sc_law_from ar_law_from fun f cdv A outer s H E hg hr => ⟨_, (pss_cons (ps_set (i := 2) sc_law_from.nd rfl (Or.inl rfl) pe_int)
      (pss_cons (ps_for PassesOwn.never rfl (pi_zipK K (by rfl) B.zip (pa_cons (pv 0) (pa_cons (pv 1) pa_nil))) (pg_tup rfl (pgs_cons (pg_name (i := 3) sc_law_from.nd rfl (Or.inl rfl)) (pgs_cons (pg_name (i := 4) sc_law_from.nd rfl (Or.inl rfl)) pgs_nil))) (pss_one (ps_set (i := 2) sc_law_from.nd rfl (Or.inl rfl) (pe_op (addK K) (pe_op op_mulA (pv 2) (pv 3)) (pe_op op_modN (pe_callTy call_int1 (by rfl) B.int (by decide +kernel) (pa_cons (pv 4) pa_nil)) (pv 3))))))
      (pss_one (ps_ret (pv 2))))), fun ds d hp => ?_⟩
  obtain ⟨os, ps, rfl, ho, hps, rfl⟩ := hp
  have hl := ords_len ho
  refine do_seq (M := fun ρ => ρ = [some (.tuple (intsD os)), some (.list (intsD ps)), some (.int 0), none, none]) (do_set ev_int rfl) fun ρ' e => ?_
  subst e
  have zl : (zipD (intsD os) (intsD ps)).length = os.length := by rw [zipD_len, ints_len, ints_len, hps, Nat.min_self]
  refine do_seq (M := fun ρ => ∃ y z, ρ = [some (.tuple (intsD os)), some (.list (intsD ps)), some (.int (fromR os.reverse ps.reverse)), y, z]) (do_for (it_2 (it_zipM (el_cons (ev_var rfl) (el_cons (ev_var rfl) el_nil)))) (fun i ρ => ∃ y z, ρ = [some (.tuple (intsD os)), some (.list (intsD ps)), some (.int (fromR (os.take i).reverse (ps.take i).reverse)), y, z]) ⟨none, none, rfl⟩ ?_ ?_) fun ρ' e => ?_
  · rintro i e ρ' he ⟨y, z, rfl⟩
    have hi := (List.getElem?_eq_some_iff.mp he).1
    rw [zl] at hi
    obtain ⟨o, ho'⟩ : ∃ o, os[i]? = some o := ⟨_, List.getElem?_eq_getElem hi⟩
    obtain ⟨p, hp'⟩ : ∃ p, ps[i]? = some p := ⟨_, List.getElem?_eq_getElem (by omega)⟩
    have e1 : e = .tuple [.int o, .int p] := by
      rw [zip_ints, List.getElem?_zipWith, ho', hp'] at he
      exact (Option.some.inj he).symm
    subst e1
    have b2 := ord_le ho (List.mem_of_getElem? ho')
    have n1 : o ≠ 0 := by omega
    have hq : Pos (os.take i).reverse := fun o ho2 => ho.2.1 o (List.mem_of_mem_take (List.mem_reverse.mp ho2))
    have fr := fromR_rng hq (ps.take i).reverse
    have pl := prod_take_le ho i
    rw [prod_R, prod_rev] at fr
    have m1 : CMulW (fromR (os.take i).reverse (ps.take i).reverse) o := mulW_small (by omega) (by omega) (by omega) (by omega)
    refine ⟨_, tg_tup rfl (tgs_cons tg_name (tgs_cons tg_name tgs_nil)), do_set (d := .int (fromR (os.take i).reverse (ps.take i).reverse * o + p.fmod o)) (by walk_at "ev") ⟨some (.int o), some (.int p), ?_⟩⟩
    rw [take_snoc ho', take_snoc hp', List.reverse_append, List.reverse_append]
    show _ = [_, _, some (PyData.int (p % o + o * fromR (os.take i).reverse (ps.take i).reverse)), _, _]
    rw [Int.fmod_eq_emod_of_nonneg _ (by omega), Int.add_comm, Int.mul_comm o]
    rfl
  · rintro ρ' ⟨y, z, rfl⟩
    refine ⟨y, z, ?_⟩
    rw [zl, List.take_length, ← hps, List.take_length]
  · obtain ⟨y, z, rfl⟩ := e
    exact do_ret (ev_var rfl) rfl
theorem sc_law_plus : FnScope ["orders_there", "one", "two", "low", "high"] ["orders_there", "one", "two"] (defScope s_law_plus) := ⟨rfl, rfl, rfl, by decide +kernel, rfl, by decide +kernel, by decide +kernel⟩
theorem ok_law_plus {P : Program} {w : World} {K : PySem.W.Frag} {mg : Str → Option Value} {base : Heap} (B : Bi mg) (c_law_from : Cal P w K mg base 1 "_law_from" ["orders_there", "parts"] (sp K p_law_from)) (c_law_parts : Cal P w K mg base 1 "_law_parts" ["orders_there", "item"] (sp K p_law_parts)) (h : Has K mg "_law_plus" s_law_plus ["orders_there", "one", "two"]) :
    Cal P w K mg base 2 "_law_plus" ["orders_there", "one", "two"] (sp K p_law_plus) := by
  refine has_d h sc_law_plus ar_law_plus fun f cdv A outer s H E hg hr => ⟨_, (pss_one (ps_ret (pg_cal hg c_law_from hr (by rfl) (pa_cons (pv 0) (pa_cons (pe_lc (own := [("low", 3), ("high", 4)]) (g := (gTup K 2 (gCons (gName 3) (gCons (gName 4) gNil)))) rfl sc_law_plus.nd (pi_zipK K (by rfl) B.zip (pa_cons (pg_cal hg c_law_parts hr (by rfl) (pa_cons (pv 0) (pa_cons (pv 1) pa_nil))) (pa_cons (pg_cal hg c_law_parts hr (by rfl) (pa_cons (pv 0) (pa_cons (pv 2) pa_nil))) pa_nil))) (blkOk_by (N := ["orders_there", "one", "two", "low", "high"]) (sc := defScope s_law_plus) (own := [("low", 3), ("high", 4)]) (by decide +kernel)) (fun _ _ _ _ _ => pg_tup rfl (pgs_cons (pg_name (i := 3) sc_law_plus.nd rfl (Or.inl rfl)) (pgs_cons (pg_name (i := 4) sc_law_plus.nd rfl (Or.inl rfl)) pgs_nil))) (fun _ _ _ _ _ => pts_nil) (fun _ _ _ _ _ => (pe_op (addK K) (pv 3) (pv 4)))) pa_nil))))), fun ds d hp => ?_⟩
  obtain ⟨os, a, b, rfl, ho, rfl⟩ := hp
  have hl := ords_len ho
  refine do_ret (ev_call (el_cons (ev_var rfl) (el_cons (ev_map (it_1 (it_zipL (el_cons (ev_call (el_cons (ev_var rfl) (el_cons (ev_var rfl) el_nil)) ⟨os, a, rfl, ho, rfl⟩) (el_cons (ev_call (el_cons (ev_var rfl) (el_cons (ev_var rfl) el_nil)) ⟨os, b, rfl, ho, rfl⟩) el_nil)))) ?_ addP fun e he => ?_) el_nil)) ⟨os, List.zipWith (· + ·) (digR os.reverse a).reverse (digR os.reverse b).reverse, ?_, ho, ?_, ?_⟩) rfl
  · rw [zipD_len, ints_len, ints_len, List.length_reverse, List.length_reverse, digR_len, digR_len, List.length_reverse]
    omega
  · rw [zip_ints] at he
    obtain ⟨x, y, rfl⟩ := mem_zi he
    exact ⟨_, tgw_pair (by decide), ev_op (ev_var rfl) (ev_var rfl) (opp_1 (op_I0 fun _ => .int _))⟩
  · rw [zip_ints, map_addP]
  · rw [List.length_zipWith, List.length_reverse, List.length_reverse, digR_len, digR_len, List.length_reverse, Nat.min_self]
  · rw [← List.reverse_zipWith (by rw [digR_len, digR_len]), List.reverse_reverse, from_add ho.pos]
theorem sc_law_less : FnScope ["orders_there", "one", "two", "low", "high"] ["orders_there", "one", "two"] (defScope s_law_less) := ⟨rfl, rfl, rfl, by decide +kernel, rfl, by decide +kernel, by decide +kernel⟩
theorem ok_law_less {P : Program} {w : World} {K : PySem.W.Frag} {mg : Str → Option Value} {base : Heap} (B : Bi mg) (c_law_from : Cal P w K mg base 1 "_law_from" ["orders_there", "parts"] (sp K p_law_from)) (c_law_parts : Cal P w K mg base 1 "_law_parts" ["orders_there", "item"] (sp K p_law_parts)) (h : Has K mg "_law_less" s_law_less ["orders_there", "one", "two"]) :
    Cal P w K mg base 2 "_law_less" ["orders_there", "one", "two"] (sp K p_law_less) := by
  refine has_d h sc_law_less ar_law_less fun f cdv A outer s H E hg hr => ⟨_, (pss_one (ps_ret (pg_cal hg c_law_from hr (by rfl) (pa_cons (pv 0) (pa_cons (pe_lc (own := [("low", 3), ("high", 4)]) (g := (gTup K 2 (gCons (gName 3) (gCons (gName 4) gNil)))) rfl sc_law_less.nd (pi_zipK K (by rfl) B.zip (pa_cons (pg_cal hg c_law_parts hr (by rfl) (pa_cons (pv 0) (pa_cons (pv 1) pa_nil))) (pa_cons (pg_cal hg c_law_parts hr (by rfl) (pa_cons (pv 0) (pa_cons (pv 2) pa_nil))) pa_nil))) (blkOk_by (N := ["orders_there", "one", "two", "low", "high"]) (sc := defScope s_law_less) (own := [("low", 3), ("high", 4)]) (by decide +kernel)) (fun _ _ _ _ _ => pg_tup rfl (pgs_cons (pg_name (i := 3) sc_law_less.nd rfl (Or.inl rfl)) (pgs_cons (pg_name (i := 4) sc_law_less.nd rfl (Or.inl rfl)) pgs_nil))) (fun _ _ _ _ _ => pts_nil) (fun _ _ _ _ _ => (pe_op op_sub (pv 3) (pv 4)))) pa_nil))))), fun ds d hp => ?_⟩
  obtain ⟨os, a, b, rfl, ho, rfl⟩ := hp
  have hl := ords_len ho
  refine do_ret (ev_call (el_cons (ev_var rfl) (el_cons (ev_map (it_1 (it_zipL (el_cons (ev_call (el_cons (ev_var rfl) (el_cons (ev_var rfl) el_nil)) ⟨os, a, rfl, ho, rfl⟩) (el_cons (ev_call (el_cons (ev_var rfl) (el_cons (ev_var rfl) el_nil)) ⟨os, b, rfl, ho, rfl⟩) el_nil)))) ?_ subP fun e he => ?_) el_nil)) ⟨os, List.zipWith (· - ·) (digR os.reverse a).reverse (digR os.reverse b).reverse, ?_, ho, ?_, ?_⟩) rfl
  · rw [zipD_len, ints_len, ints_len, List.length_reverse, List.length_reverse, digR_len, digR_len, List.length_reverse]
    omega
  · rw [zip_ints] at he
    obtain ⟨x, y, rfl⟩ := mem_zi he
    exact ⟨_, tgw_pair (by decide), ev_op (ev_var rfl) (ev_var rfl) (op_I0 fun _ => .int _)⟩
  · rw [zip_ints, map_subP]
  · rw [List.length_zipWith, List.length_reverse, List.length_reverse, digR_len, digR_len, List.length_reverse, Nat.min_self]
  · rw [← List.reverse_zipWith (by rw [digR_len, digR_len]), List.reverse_reverse, from_sub ho.pos]
theorem sc_law_off : FnScope ["system_there", "code_there", "found", "table", "mark"] ["system_there", "code_there"] (defScope s_law_off) := ⟨rfl, rfl, rfl, by decide +kernel, rfl, by decide +kernel, by decide +kernel⟩
theorem ok_law_off {P : Program} {w : World} {K : PySem.W.Frag} {mg : Str → Option Value} {base : Heap} (B : Bi mg) (c_law_less : Cal P w K mg base 2 "_law_less" ["orders_there", "one", "two"] (sp K p_law_less)) (c_law_plus : Cal P w K mg base 2 "_law_plus" ["orders_there", "one", "two"] (sp K p_law_plus)) (h : Has K mg "_law_off" s_law_off ["system_there", "code_there"]) :
    Cal P w K mg base 3 "_law_off" ["system_there", "code_there"] (sp K p_law_off) := by
  refine has_d h sc_law_off ar_law_off fun f cdv A outer s H E hg hr => ⟨_, (pss_cons (ps_set (i := 2) sc_law_off.nd rfl (Or.inl rfl) pe_int)
      (pss_cons (ps_for PassesOwn.never rfl (pi_zipK K (by rfl) B.zip (pa_cons (pe_ix (ixK K) (pv 0) pe_int (fun _ _ => rfl)) (pa_cons (pv 1) pa_nil))) (pg_tup rfl (pgs_cons (pg_name (i := 3) sc_law_off.nd rfl (Or.inl rfl)) (pgs_cons (pg_name (i := 4) sc_law_off.nd rfl (Or.inl rfl)) pgs_nil))) (pss_one (ps_set (i := 2) sc_law_off.nd rfl (Or.inl rfl) (pg_cal hg c_law_plus hr (by rfl) (pa_cons (pe_ix (ixK K) (pv 0) pe_int (fun _ _ => rfl)) (pa_cons (pv 2) (pa_cons (pe_ix (ixK K) (pv 3) (pv 4) (fun _ _ => rfl)) pa_nil)))))))
      (pss_one (ps_ret (pg_cal hg c_law_less hr (by rfl) (pa_cons (pe_ix (ixK K) (pv 0) pe_int (fun _ _ => rfl)) (pa_cons (pv 2) (pa_cons (pe_ix (ixK K) (pv 0) pe_int (fun _ _ => rfl)) pa_nil)))))))), fun ds d hp => ?_⟩
  obtain ⟨os, ts, tot, cs, rfl, hs, hc, rfl⟩ := hp
  have h4 := hs.few
  have h5 := hc.len
  refine do_seq (M := fun ρ => ρ = [some (sysD os ts tot), some (.list (intsD cs)), some (.int 0), none, none]) (do_set ev_int rfl) fun ρ' e => ?_
  subst e
  have zl : (zipD (tabsD ts) (intsD cs)).length = ts.length := by rw [zipD_len, tabs_len, ints_len, h5, Nat.min_self]
  refine do_seq (M := fun ρ => ∃ y z, ρ = [some (sysD os ts tot), some (.list (intsD cs)), some (.int (linR os.reverse (vals ts cs) [])), y, z]) (do_for (it_1 (it_zipL (el_cons (ev_op (ev_var rfl) ev_int (opp_2 (opp_ixT (i := 1) rfl))) (el_cons (ev_var rfl) el_nil)))) (fun i ρ => ∃ y z, ρ = [some (sysD os ts tot), some (.list (intsD cs)), some (.int (linR os.reverse ((vals ts cs).take i) [])), y, z]) ⟨none, none, by rw [List.take_zero, lin_nil]⟩ ?_ ?_) fun ρ' e => ?_
  · rintro i e ρ' he ⟨y, z, rfl⟩
    have hi := (List.getElem?_eq_some_iff.mp he).1
    rw [zl] at hi
    obtain ⟨t, ht⟩ : ∃ t, ts[i]? = some t := ⟨_, List.getElem?_eq_getElem hi⟩
    obtain ⟨c, hcp⟩ : ∃ c, cs[i]? = some c := ⟨_, List.getElem?_eq_getElem (by omega)⟩
    have e1 : e = .tuple [.list (intsD t), .int c] := by
      rw [zip_vals, List.getElem?_zipWith, ht, hcp] at he
      exact (Option.some.inj he).symm
    subst e1
    obtain ⟨c0, c1⟩ := hc.in_ hs t (List.mem_of_getElem? ht) c (List.mem_of_getElem? hcp)
    refine ⟨_, tg_tup rfl (tgs_cons tg_name (tgs_cons tg_name tgs_nil)), do_set (ev_call (el_cons (ev_op (ev_var rfl) ev_int (opp_2 (opp_ixT (i := 0) rfl))) (el_cons (ev_var rfl) (el_cons (ev_op (ev_var rfl) (y := .int ((c.toNat : Nat) : Int)) ?_ (opp_1 (opp_ixL (mark_at c0 c1)))) el_nil))) ⟨os, _, _, rfl, hs.ord, rfl⟩) ⟨some (.list (intsD t)), some (.int c), ?_⟩⟩
    · rw [Int.toNat_of_nonneg c0]
      exact ev_var rfl
    · rw [lin_in hs.ord.pos, List.append_nil, take_snoc (vals_at ht hcp)]
      rfl
  · rintro ρ' ⟨y, z, rfl⟩
    refine ⟨y, z, ?_⟩
    rw [zl, List.take_of_length_le]
    unfold vals
    rw [List.length_zipWith]
    omega
  · obtain ⟨y, z, rfl⟩ := e
    refine do_ret (ev_call (el_cons (ev_op (ev_var rfl) ev_int (opp_2 (opp_ixT (i := 0) rfl))) (el_cons (ev_var rfl) (el_cons (ev_op (ev_var rfl) ev_int (opp_2 (opp_ixT (i := 2) rfl))) el_nil))) ⟨os, _, _, rfl, hs.ord, ?_⟩) rfl
    have e := lin_in hs.ord.pos [] [tot] (vals ts cs) []
    rw [List.append_nil] at e
    rw [e]
    rfl
theorem sc_law_put : FnScope ["code_there", "at", "mark"] ["code_there", "at", "mark"] (defScope s_law_put) := ⟨rfl, rfl, rfl, by decide +kernel, rfl, by decide +kernel, by decide +kernel⟩
theorem ok_law_put {P : Program} {w : World} {K : PySem.W.Frag} {mg : Str → Option Value} {base : Heap} (B : Bi mg)  (h : Has K mg "_law_put" s_law_put ["code_there", "at", "mark"]) :
    Cal P w K mg base 1 "_law_put" ["code_there", "at", "mark"] (sp K p_law_put) := by
  refine has_d h sc_law_put ar_law_put fun f cdv A outer s H E hg hr => ⟨_, (pss_one (ps_ret (pe_op (addK K) (pe_op (addK K) (pe_slice (slK K) (pv 0) po_none (po_some (pv 1))) (pe_lst (pa_cons (pv 2) pa_nil))) (pe_slice (slK K) (pv 0) (po_some (pe_op (addK K) (pv 1) pe_int)) po_none)))), fun ds d hp => ?_⟩
  obtain ⟨cs, p, w, rfl, h1, h2, rfl⟩ := hp
  have e1 : ((p : Int) + 1) = ((p + 1 : Nat) : Int) := by omega
  refine do_ret (ev_put (p := p) (ev_var rfl) (ev_var rfl) (by rw [← e1]; exact ev_op (ev_var rfl) ev_int (opp_1 (op_I0 fun _ => .int _))) (ev_var rfl) (by omega) (by omega) (fun h => opp_2 (opp_1 h)) (fun h => opp_2 (opp_1 h))) rfl
end K08
end
section
set_option maxRecDepth 100000
set_option maxHeartbeats 4000000
namespace K08
open PySem PySem.Spec PyProof.Rows L2 G Lin
local macro_rules | `(tactic| walk_at "ev") => `(tactic| first
  | exact ev_var rfl | exact ev_int | exact ev_bl | exact ev_non | exact ev_str
  | (apply ev_op; (focus walk_at "ev"); (focus walk_at "ev"); (focus walk_at "op"))
  | (apply ev_cb; (focus walk_at "el"); (focus walk_at "fn"))
  | (apply ev_lst; (focus walk_at "el"); (show _ ≤ sizeLine; decide))
  | (apply ev_tup; (focus walk_at "el"); (show _ ≤ sizeLine; decide)))
local macro_rules | `(tactic| walk_at "el") => `(tactic| first
  | exact el_nil
  | (apply el_cons; (focus walk_at "ev"); (focus walk_at "el")))
local macro_rules | `(tactic| walk_at "fn") => `(tactic| first
  | exact fn_int | exact fn_len | exact fn_all | exact fn_listL | exact fn_listT)
local macro_rules | `(tactic| walk_at "op") => `(tactic| first
  | exact op_I0 (fun _ => .int _) | exact op_I0 (fun _ => .bl _) | exact opp_1 (op_I0 fun _ => .int _)
  | exact op_I (by show (_ : Int) ≠ 0; decide) (fun _ => .int _)
  | exact op_I (by assumption) (fun _ => .int _)
  | exact opp_1 (op_I (by assumption) fun _ => .int _)
  | exact opp_1 (opp_ixL (i := 0) rfl) | exact opp_2 (opp_ixT (i := 0) rfl) | exact opp_2 (opp_ixT (i := 1) rfl) | exact opp_2 (opp_ixT (i := 2) rfl))
/-! all numbers, and just one sign -/
theorem nodup_le : ∀ {l S : List Int}, l.Nodup → (∀ x ∈ l, x ∈ S) → l.length ≤ S.length
  | [], _, _, _ => Nat.zero_le _
  | x :: l, S, nd, h => by
    have hx := h x (List.mem_cons_self ..)
    have nd' := List.nodup_cons.mp nd
    have ih := nodup_le (l := l) (S := S.erase x) nd'.2 fun y hy => by
      have ne : y ≠ x := fun e => nd'.1 (e ▸ hy)
      exact (List.mem_erase_of_ne ne).mpr (h y (List.mem_cons_of_mem _ hy))
    have e := List.length_erase_of_mem hx
    have p := List.length_pos_of_mem hx
    show l.length + 1 ≤ _
    omega
theorem Tab.has {n : Int} {t : List Int} (T : Tab n t) {v : Int} (h0 : 0 ≤ v) (h1 : v < n) : v ∈ t := by
  refine Decidable.byContradiction fun c => ?_
  have hv : v ∈ (List.range n.toNat).map (fun i : Nat => (i : Int)) := List.mem_map.mpr ⟨v.toNat, List.mem_range.mpr (by omega), by omega⟩
  have q := nodup_le (l := t) (S := ((List.range n.toNat).map (fun i : Nat => (i : Int))).erase v) T.nd fun y hy => by
    have ne : y ≠ v := fun e => c (e ▸ hy)
    have m := T.mem y hy
    exact (List.mem_erase_of_ne ne).mpr (List.mem_map.mpr ⟨y.toNat, List.mem_range.mpr (by omega), by omega⟩)
  rw [List.length_erase_of_mem hv, List.length_map, List.length_range] at q
  have := T.len
  omega
theorem Tab.one {n : Int} {t : List Int} (T : Tab n t) {v : Int} (h0 : 0 ≤ v) (h1 : v < n) : ∃ w : Nat, w < n.toNat ∧ t[w]? = some v ∧ ∀ m : Nat, t[m]? = some v → m = w := by
  obtain ⟨w, hw⟩ := List.mem_iff_getElem?.mp (T.has h0 h1)
  have l := (List.getElem?_eq_some_iff.mp hw).1
  refine ⟨w, by have := T.len; omega, hw, fun m hm => ?_⟩
  obtain ⟨l1, e1⟩ := List.getElem?_eq_some_iff.mp hm
  obtain ⟨l2, e2⟩ := List.getElem?_eq_some_iff.mp hw
  rcases Nat.lt_trichotomy m w with q | q | q
  · exact absurd (e1.trans e2.symm) (List.pairwise_iff_getElem.mp T.nd m w l1 l2 q)
  · exact q
  · exact absurd (e2.trans e1.symm) (List.pairwise_iff_getElem.mp T.nd w m l2 l1 q)
theorem filter_none {p : Nat → Bool} : ∀ (n : Nat), (∀ m, m < n → p m = false) → (List.range n).filter p = [] := fun n h => by
  rw [List.filter_eq_nil_iff]
  intro a ha
  rw [h a (List.mem_range.mp ha)]
  exact Bool.false_ne_true
theorem filter_one {p : Nat → Bool} {w : Nat} : ∀ (n : Nat), w < n → p w = true → (∀ m, m < n → p m = true → m = w) → (List.range n).filter p = [w]
  | 0, h, _, _ => by omega
  | n + 1, h, hw, hu => by
    rw [List.range_succ, List.filter_append]
    by_cases e : w = n
    · subst e
      rw [filter_none w fun m hm => by
        cases q : p m with
        | false => rfl
        | true => have := hu m (by omega) q; omega]
      rw [List.filter_cons, if_pos hw]
      rfl
    · rw [filter_one n (by omega) hw fun m hm q => hu m (by omega) q]
      have pn : p n = false := by
        cases q : p n with
        | false => rfl
        | true => have := hu n (by omega) q; omega
      rw [List.filter_cons, if_neg (by rw [pn]; exact Bool.false_ne_true)]
      rfl
/-- the sign that is wanted, and no other one -/
def wantV (os : List Int) (ts : List (List Int)) (tot : Int) (cs : List Int) (p : Nat) : Int := linR os.reverse [tot] (rest ts cs p)
theorem want_rng {os : List Int} {ts : List (List Int)} {tot : Int} {cs : List Int} {p : Nat} (hs : Sys os ts tot) : 0 ≤ wantV os ts tot cs p ∧ wantV os ts tot cs p < prodI os := by
  have := lin_rng hs.ord.pos [tot] (rest ts cs p)
  rw [hs.ord.n] at this
  exact this
theorem vals_set : ∀ {ts : List (List Int)} {cs : List Int} {p : Nat} {t : List Int} {m : Int}, ts[p]? = some t → p < cs.length → vals ts (cs.set p m) = (vals ts cs).set p (t.getD m.toNat 0)
  | [], _, _, _, _, h, _ => by simp at h
  | _ :: _, [], _, _, _, _, h => by simp at h
  | t :: ts, c :: cs, 0, _, _, h, _ => by
    simp at h
    subst h
    rfl
  | t :: ts, c :: cs, p + 1, u, m, h, k => by
    have ih := vals_set (ts := ts) (cs := cs) (p := p) (t := u) (m := m) (by simpa using h) (by simpa using k)
    show t.getD c.toNat 0 :: vals ts (cs.set p m) = t.getD c.toNat 0 :: (vals ts cs).set p _
    rw [ih]
theorem set_perm : ∀ {xs : List Int} {p : Nat} {x : Int}, p < xs.length → (xs.set p x).Perm (x :: xs.eraseIdx p)
  | [], _, _, h => by simp at h
  | y :: xs, 0, x, _ => List.Perm.refl _
  | y :: xs, p + 1, x, h => by
    have ih := set_perm (xs := xs) (p := p) (x := x) (by simpa using h)
    exact (ih.cons y).trans (List.Perm.swap x y _)
theorem off_put {os : List Int} {ts : List (List Int)} {tot : Int} {cs : List Int} {p : Nat} {t : List Int} (hs : Sys os ts tot) (hc : Code os ts cs) (ht : ts[p]? = some t) {m : Nat} (hm : m < (prodI os).toNat) :
    linR os.reverse (vals ts (cs.set p (m : Int))) [tot] = 0 ↔ t[m]? = some (wantV os ts tot cs p) := by
  have hp := (List.getElem?_eq_some_iff.mp ht).1
  have T := hs.tabs t (List.mem_of_getElem? ht)
  have lv : (vals ts cs).length = ts.length := by unfold vals; rw [List.length_zipWith, hc.len, Nat.min_self]
  have hl := T.len
  have hm' : m < t.length := by omega
  have e1 : t.getD (m : Int).toNat 0 = t[m] := by rw [Int.toNat_natCast, List.getD_eq_getElem?_getD, List.getElem?_eq_getElem hm']; rfl
  have mm := T.mem t[m] (List.getElem_mem hm')
  rw [vals_set ht (by have := hc.len; omega), e1, lin_perm (set_perm (x := t[m]) (by omega)) (List.Perm.refl [tot]), lin_zero hs.ord.pos mm.1 (by rw [hs.ord.n]; exact mm.2), List.getElem?_eq_getElem hm']
  exact ⟨fun e => congrArg some e, fun e => Option.some.inj e⟩
theorem Code.put {os : List Int} {ts : List (List Int)} {cs : List Int} (hc : Code os ts cs) {p : Nat} {m : Int} (h0 : 0 ≤ m) (h1 : m < prodI os) : Code os ts (cs.set p m) :=
  ⟨by rw [List.length_set]; exact hc.len, fun x hx => by
    rcases List.mem_or_eq_of_mem_set hx with q | rfl
    · exact hc.mem x q
    · exact ⟨h0, h1⟩⟩
/-- all numbers of so many places -/
def allL (n : Nat) : Nat → List (List Int)
  | 0 => [[]]
  | w + 1 => (allL n w).flatMap fun c => (List.range n).map fun m : Nat => c ++ [(m : Int)]
theorem len_flat {α β : Type} {f : α → List β} {n : Nat} (h : ∀ x, (f x).length = n) : ∀ l : List α, (l.flatMap f).length = l.length * n
  | [] => by simp
  | x :: l => by rw [List.flatMap_cons, List.length_append, h, len_flat h l, List.length_cons, Nat.add_mul]; omega
theorem all_len (n : Nat) : ∀ w, (allL n w).length = n ^ w
  | 0 => rfl
  | w + 1 => by
    show ((allL n w).flatMap _).length = _
    rw [len_flat (n := n) (fun x => by rw [List.length_map, List.length_range]), all_len n w, Nat.pow_succ]
theorem all_mem {n : Nat} : ∀ {w : Nat} {c : List Int}, c ∈ allL n w → c.length = w ∧ ∀ x ∈ c, 0 ≤ x ∧ x < (n : Int)
  | 0, c, h => by
    have : c = [] := by simpa [allL] using h
    subst this
    exact ⟨rfl, fun x hx => by simp at hx⟩
  | w + 1, c, h => by
    obtain ⟨a, ha, hb⟩ := List.mem_flatMap.mp h
    obtain ⟨m, hm, rfl⟩ := List.mem_map.mp hb
    obtain ⟨h1, h2⟩ := all_mem ha
    refine ⟨by rw [List.length_append, h1]; rfl, fun x hx => ?_⟩
    rcases List.mem_append.mp hx with q | q
    · exact h2 x q
    · have : x = (m : Int) := by simpa using q
      have := List.mem_range.mp hm
      omega
theorem len_filter_flat {α β : Type} {f : α → List β} {p : β → Bool} : ∀ l : List α, (∀ x ∈ l, ((f x).filter p).length = 1) → ((l.flatMap f).filter p).length = l.length
  | [], _ => rfl
  | x :: l, h => by
    rw [List.flatMap_cons, List.filter_append, List.length_append, h x (List.mem_cons_self ..), len_filter_flat l fun y hy => h y (List.mem_cons_of_mem _ hy), List.length_cons]
    omega
/-- so many are right -/
theorem count_right {os : List Int} {ts : List (List Int)} {tot : Int} (hs : Sys os ts tot) :
    ((allL (prodI os).toNat ts.length).filter fun cs => decide (linR os.reverse (vals ts cs) [tot] = 0)).length = (prodI os).toNat ^ (ts.length - 1) := by
  have h2 := hs.two
  obtain ⟨w, hw⟩ : ∃ w, ts.length = w + 1 := ⟨ts.length - 1, by omega⟩
  rw [hw, Nat.add_sub_cancel, ← all_len]
  show (((allL (prodI os).toNat w).flatMap fun c => (List.range (prodI os).toNat).map fun m : Nat => c ++ [(m : Int)]).filter _).length = _
  refine len_filter_flat _ fun c hc => ?_
  obtain ⟨h1, h3⟩ := all_mem hc
  have p0 := prod_pos hs.ord.2.1
  have hcc : Code os ts (c ++ [0]) := ⟨by rw [List.length_append, h1, hw]; rfl, fun x hx => by
    rcases List.mem_append.mp hx with q | q
    · have := h3 x q
      omega
    · have : x = 0 := by simpa using q
      omega⟩
  obtain ⟨t, ht⟩ : ∃ t, ts[w]? = some t := ⟨_, List.getElem?_eq_getElem (by omega)⟩
  have rg := want_rng (cs := c ++ [0]) (p := w) hs
  obtain ⟨k, k1, k2, k3⟩ := (hs.tabs t (List.mem_of_getElem? ht)).one rg.1 rg.2
  have set_e : ∀ m : Int, (c ++ [0]).set w m = c ++ [m] := fun m => by
    rw [List.set_append_right _ _ (by omega), h1, Nat.sub_self]
    rfl
  rw [List.filter_map, List.length_map, filter_one (w := k) _ k1]
  · rfl
  · show decide (linR os.reverse (vals ts (c ++ [(k : Int)])) [tot] = 0) = true
    rw [← set_e]
    exact decide_eq_true ((off_put hs hcc ht k1).mpr k2)
  · intro m hm q
    have q' : decide (linR os.reverse (vals ts (c ++ [(m : Int)])) [tot] = 0) = true := q
    rw [← set_e] at q'
    exact k3 m ((off_put hs hcc ht hm).mp (of_decide_eq_true q'))
def codesD (cs : List (List Int)) : List PyData := cs.map fun c => .list (intsD c)
def p_law_all (ds : List PyData) (d : PyData) : Prop := ∃ n w : Nat, ds = [.int n, .int w] ∧ 1 ≤ n ∧ w ≤ 100 ∧ n ^ w ≤ 1000 ∧ d = .list (codesD (allL n w))
theorem ar_law_all (ds : List PyData) (d : PyData) (h : p_law_all ds d) : ds.length = 2 := by obtain ⟨_, _, rfl, _⟩ := h; rfl
def extD (c : List Int) (n : Nat) : List (List Int) := (List.range n).map fun m : Nat => c ++ [(m : Int)]
theorem ext_eq (c : List Int) (n : Nat) : ((List.range n).map fun (i : Nat) => PyData.int (i : Int)).map (fun e => PyData.list (intsD c ++ [e])) = codesD (extD c n) := by
  unfold codesD extD
  rw [List.map_map, List.map_map]
  refine List.map_congr_left fun i _ => ?_
  show PyData.list (intsD c ++ [.int (i : Int)]) = .list ((c ++ [(i : Int)]).map PyData.int)
  rw [List.map_append]
  rfl
theorem codes_app (a b : List (List Int)) : codesD (a ++ b) = codesD a ++ codesD b := List.map_append ..
theorem codes_len (a : List (List Int)) : (codesD a).length = a.length := List.length_map ..
theorem pow_le_pow {n i w : Nat} (h : 1 ≤ n) (k : i ≤ w) : n ^ i ≤ n ^ w := Nat.pow_le_pow_right h k
end K08
end
section
set_option maxRecDepth 100000
set_option maxHeartbeats 4000000
namespace K08
open PySem PySem.Spec PyProof.Rows L2 G Lin
local macro_rules | `(tactic| walk_at "ev") => `(tactic| first
  | exact ev_var rfl | exact ev_int | exact ev_bl | exact ev_non | exact ev_str
  | (apply ev_op; (focus walk_at "ev"); (focus walk_at "ev"); (focus walk_at "op"))
  | (apply ev_cb; (focus walk_at "el"); (focus walk_at "fn"))
  | (apply ev_lst; (focus walk_at "el"); (show _ ≤ sizeLine; decide))
  | (apply ev_tup; (focus walk_at "el"); (show _ ≤ sizeLine; decide)))
local macro_rules | `(tactic| walk_at "el") => `(tactic| first
  | exact el_nil
  | (apply el_cons; (focus walk_at "ev"); (focus walk_at "el")))
local macro_rules | `(tactic| walk_at "fn") => `(tactic| first
  | exact fn_int | exact fn_len | exact fn_all | exact fn_listL | exact fn_listT)
local macro_rules | `(tactic| walk_at "op") => `(tactic| first
  | exact op_I0 (fun _ => .int _) | exact op_I0 (fun _ => .bl _) | exact opp_1 (op_I0 fun _ => .int _)
  | exact op_I (by show (_ : Int) ≠ 0; decide) (fun _ => .int _)
  | exact op_I (by assumption) (fun _ => .int _)
  | exact opp_1 (op_I (by assumption) fun _ => .int _)
  | exact opp_1 (opp_ixL (i := 0) rfl) | exact opp_2 (opp_ixT (i := 0) rfl) | exact opp_2 (opp_ixT (i := 1) rfl) | exact opp_2 (opp_ixT (i := 2) rfl))
/-! what is drawn -/
def menuA : List (List Int) := [[2], [3], [4], [2, 2], [5], [6], [2, 3], [7], [8], [2, 4], [2, 2, 2], [9], [3, 3], [10], [2, 5], [12]]
def menuB : List (List Int) := [[4, 2], [3, 2], [6, 2], [2, 6], [2, 2, 3], [4, 3], [11], [5, 2]]
def menuL : List (List Int) := menuA ++ menuB
def tupsD (l : List (List Int)) : List PyData := l.map fun os => .tuple (intsD os)
def Small (os : List Int) : Prop := Ords os ∧ prodI os ≤ 12
theorem menu_small : ∀ os ∈ menuL, Small os := by
  have h : (menuL.all fun os => decide (os ≠ []) && os.all (fun o => decide (2 ≤ o)) && decide (prodI os ≤ 12)) = true := by decide +kernel
  intro os ho
  have q := List.all_eq_true.mp h os ho
  rw [Bool.and_eq_true_iff, Bool.and_eq_true_iff] at q
  obtain ⟨⟨a, b⟩, c⟩ := q
  have c' := of_decide_eq_true c
  exact ⟨⟨of_decide_eq_true a, fun o hx => of_decide_eq_true (List.all_eq_true.mp b o hx), by omega⟩, c'⟩
def p_law_orders (ds : List PyData) (c : Nat) (R : PyData → Nat → Prop) : Prop := ds = [] ∧ c ≤ 2 ^ 39 ∧ ∀ os, os ∈ menuL → R (.tuple (intsD os)) (c + 4)
theorem ar_law_orders (ds : List PyData) (c : Nat) (R : PyData → Nat → Prop) (h : p_law_orders ds c R) : ds.length = 0 := by obtain ⟨rfl, _⟩ := h; rfl
def p_law_code (ds : List PyData) (c : Nat) (R : PyData → Nat → Prop) : Prop := ∃ os ts tot, ds = [sysD os ts tot] ∧ Sys os ts tot ∧ c ≤ 2 ^ 38 ∧ ∀ cs c', Code os ts cs → c' ≤ c + 4 * ts.length → R (.list (intsD cs)) c'
theorem ar_law_code (ds : List PyData) (c : Nat) (R : PyData → Nat → Prop) (h : p_law_code ds c R) : ds.length = 1 := by obtain ⟨_, _, _, rfl, _⟩ := h; rfl
def p_law_shuffled (ds : List PyData) (c : Nat) (R : PyData → Nat → Prop) : Prop := ∃ xs : List Int, ds = [.list (intsD xs)] ∧ xs.length ≤ 1000 ∧ c ≤ 2 ^ 38 ∧ ∀ ys, ys.Perm xs → R (.list (intsD ys)) (c + 4 * xs.length)
theorem ar_law_shuffled (ds : List PyData) (c : Nat) (R : PyData → Nat → Prop) (h : p_law_shuffled ds c R) : ds.length = 1 := by obtain ⟨_, rfl, _⟩ := h; rfl
def p_law_system (ds : List PyData) (c : Nat) (R : PyData → Nat → Prop) : Prop := ∃ (os : List Int) (wide : Nat), ds = [.tuple (intsD os), .int wide] ∧ Small os ∧ 2 ≤ wide ∧ wide ≤ 100 ∧ c ≤ 2 ^ 37 ∧ ∀ ts tot c', Sys os ts tot → ts.length = wide → c' ≤ c + 10000 → R (sysD os ts tot) c'
theorem ar_law_system (ds : List PyData) (c : Nat) (R : PyData → Nat → Prop) (h : p_law_system ds c R) : ds.length = 2 := by obtain ⟨_, _, rfl, _⟩ := h; rfl
def p_law_righted (ds : List PyData) (c : Nat) (R : PyData → Nat → Prop) : Prop := ∃ os ts tot, ds = [sysD os ts tot] ∧ Sys os ts tot ∧ c ≤ 2 ^ 37 ∧ ∀ cs c', Code os ts cs → c' ≤ c + 1000 → R (.list (intsD cs)) c'
theorem ar_law_righted (ds : List PyData) (c : Nat) (R : PyData → Nat → Prop) (h : p_law_righted ds c R) : ds.length = 1 := by obtain ⟨_, _, _, rfl, _⟩ := h; rfl
theorem daI {K : PySem.W.Frag} {B : Hp} : ∀ ns : List Int, DaAll K B (ns.map .int) (intsD ns)
  | [] => .nil
  | n :: ns => .cons (.int n) (daI ns)
theorem sc_law_orders : FnScope ["generator", "menu"] ["generator"] (defScope s_law_orders) := ⟨rfl, rfl, rfl, by decide +kernel, rfl, by decide +kernel, by decide +kernel⟩
theorem ok_law_orders {P : Program} {w : World} {K : PySem.W.Frag} {mg : Str → Option Value} {base : Heap} (B : Bi mg) (c_law_random : Cal P w K mg base 2 "_law_random" ["generator", "bound"] (spG K p_law_random)) (h : Has K mg "_law_orders" s_law_orders ["generator"]) :
    Cal P w K mg base 3 "_law_orders" ["generator"] (spG K p_law_orders) := by
  refine has_g h sc_law_orders rfl ar_law_orders (fun f cdv A outer s H E hg hr => ⟨_, (pss_cons (ps_set (i := 1) sc_law_orders.nd rfl (Or.inl rfl) (pe_lst (pa_cons (pe_tup (pa_cons pe_int pa_nil)) (pa_cons (pe_tup (pa_cons pe_int pa_nil)) (pa_cons (pe_tup (pa_cons pe_int pa_nil)) (pa_cons (pe_tup (pa_cons pe_int (pa_cons pe_int pa_nil))) (pa_cons (pe_tup (pa_cons pe_int pa_nil)) (pa_cons (pe_tup (pa_cons pe_int pa_nil)) (pa_cons (pe_tup (pa_cons pe_int (pa_cons pe_int pa_nil))) (pa_cons (pe_tup (pa_cons pe_int pa_nil)) (pa_cons (pe_tup (pa_cons pe_int pa_nil)) (pa_cons (pe_tup (pa_cons pe_int (pa_cons pe_int pa_nil))) (pa_cons (pe_tup (pa_cons pe_int (pa_cons pe_int (pa_cons pe_int pa_nil)))) (pa_cons (pe_tup (pa_cons pe_int pa_nil)) (pa_cons (pe_tup (pa_cons pe_int (pa_cons pe_int pa_nil))) (pa_cons (pe_tup (pa_cons pe_int pa_nil)) (pa_cons (pe_tup (pa_cons pe_int (pa_cons pe_int pa_nil))) (pa_cons (pe_tup (pa_cons pe_int pa_nil)) pa_nil))))))))))))))))))
      (pss_one (ps_ret (pe_ix (ixK K) (pe_op (addK K) (pv 1) (pe_lst (pa_cons (pe_tup (pa_cons pe_int (pa_cons pe_int pa_nil))) (pa_cons (pe_tup (pa_cons pe_int (pa_cons pe_int pa_nil))) (pa_cons (pe_tup (pa_cons pe_int (pa_cons pe_int pa_nil))) (pa_cons (pe_tup (pa_cons pe_int (pa_cons pe_int pa_nil))) (pa_cons (pe_tup (pa_cons pe_int (pa_cons pe_int (pa_cons pe_int pa_nil)))) (pa_cons (pe_tup (pa_cons pe_int (pa_cons pe_int pa_nil))) (pa_cons (pe_tup (pa_cons pe_int pa_nil)) (pa_cons (pe_tup (pa_cons pe_int (pa_cons pe_int pa_nil))) pa_nil)))))))))) (pg_cal hg c_law_random hr (by rfl) (pa_cons (pv 0) (pa_cons pe_int pa_nil))) (fun _ _ => rfl))))), fun ds c R hp => ?_⟩) (List.cons_ne_nil _ _)
  obtain ⟨rfl, hc, hR⟩ := hp
  refine dg_seq (M := fun ρ c' => ρ = [none, some (.list (tupsD menuA))] ∧ c' = c) (dg_set (P := fun d c' => d = .list (tupsD menuA) ∧ c' = c) (eg_pure (d := .list (tupsD menuA)) (by show Ev K _ _ (PyData.list (tupsD menuA)); unfold tupsD menuA; walk_at "ev") ⟨rfl, rfl⟩) (by decide) ?_) ?_
  · rintro d c' ⟨rfl, rfl⟩
    exact ⟨rfl, rfl⟩
  · rintro ρ' c' ⟨rfl, rfl⟩
    refine dg_ret (eg_op (P1 := fun d c1 => d = .list (tupsD menuL) ∧ c1 = c') (P2 := fun x y c2 => (∃ i : Nat, y = .int i ∧ i < 24) ∧ c2 = c' + 4) (eg_pure (ev_op (y := .list (tupsD menuB)) (ev_var rfl) (by unfold tupsD menuB; walk_at "ev") (opp_2 (opp_1 (opp_cat (by decide))))) ⟨?_, rfl⟩) ?_ ?_)
    · rfl
    · rintro x c1 ⟨rfl, rfl⟩
      exact eg_call (el_cons ev_int el_nil) (R := fun y c2 => (∃ i : Nat, y = .int i ∧ i < 24) ∧ c2 = c1 + 4) ⟨24, rfl, by decide, by decide, hc, fun i h0 h1 => ⟨⟨i.toNat, by rw [Int.toNat_of_nonneg h0], by omega⟩, rfl⟩⟩ fun _ _ h => h
    · rintro x y c1 c2 ⟨rfl, rfl⟩ ⟨⟨i, rfl, hi⟩, rfl⟩
      have hl : i < menuL.length := hi
      refine ⟨.tuple (intsD menuL[i]), opp_1 (opp_ixL ?_), hR _ (List.getElem_mem hl)⟩
      unfold tupsD
      rw [List.getElem?_map, List.getElem?_eq_getElem hl]
      rfl
theorem sc_law_code : FnScope ["generator", "system_there", "table"] ["generator", "system_there"] (defScope s_law_code) := ⟨rfl, rfl, rfl, by decide +kernel, rfl, by decide +kernel, by decide +kernel⟩
theorem ok_law_code {P : Program} {w : World} {K : PySem.W.Frag} {mg : Str → Option Value} {base : Heap} (B : Bi mg) (c_law_random : Cal P w K mg base 2 "_law_random" ["generator", "bound"] (spG K p_law_random)) (c_law_size : Cal P w K mg base 1 "_law_size" ["orders_there"] (sp K p_law_size)) (h : Has K mg "_law_code" s_law_code ["generator", "system_there"]) :
    Cal P w K mg base 3 "_law_code" ["generator", "system_there"] (spG K p_law_code) := by
  refine has_g h sc_law_code rfl ar_law_code (fun f cdv A outer s H E hg hr => ⟨_, (pss_one (ps_ret (pe_lc (own := [("table", 2)]) (g := (gName 2)) rfl sc_law_code.nd (pi_or (pi_listK K (pe_ix (ixK K) (pv 1) pe_int (fun _ _ => rfl))) (pi_tupK K (pe_ix (ixK K) (pv 1) pe_int (fun _ _ => rfl)))) (blkOk_by (N := ["generator", "system_there", "table"]) (sc := defScope s_law_code) (own := [("table", 2)]) (by decide +kernel)) (fun _ _ _ _ _ => pg_name (i := 2) sc_law_code.nd rfl (Or.inl rfl)) (fun _ _ _ _ _ => pts_nil) (fun _ _ _ _ _ => (pg_cal hg c_law_random hr (by rfl) (pa_cons (pv 0) (pa_cons (pg_cal hg c_law_size hr (by rfl) (pa_cons (pe_ix (ixK K) (pv 1) pe_int (fun _ _ => rfl)) pa_nil)) pa_nil))))))), fun ds c R hp => ?_⟩) (List.cons_ne_nil _ _)
  obtain ⟨os, ts, tot, rfl, hs, hc, hR⟩ := hp
  have h4 := hs.few
  have pp := (prod_take_le hs.ord os.length).2
  rw [List.take_length] at pp
  have p0 := prod_pos hs.ord.2.1
  refine dg_ret (eg_lc (it_1 (it_list (ev_op (ev_var rfl) ev_int (opp_2 (opp_ixT (i := 1) rfl))))) (by rw [tabs_len]; omega) (by decide) (fun k out c' => c' = c + 4 * k ∧ ∃ cs, out = intsD cs ∧ cs.length = k ∧ ∀ x ∈ cs, 0 ≤ x ∧ x < prodI os) ⟨rfl, [], rfl, rfl, fun x h => by simp at h⟩ ?_ ?_)
  · rintro k e out c1 he ⟨rfl, cs, rfl, hl, hm⟩
    have hk := (List.getElem?_eq_some_iff.mp he).1
    rw [tabs_len] at hk
    refine ⟨_, tgw_name, eg_call (el_cons (ev_call (el_cons (ev_op (ev_var rfl) ev_int (opp_2 (opp_ixT (i := 0) rfl))) el_nil) ⟨os, rfl, hs.ord, rfl⟩) el_nil) (R := fun y c2 => (∃ i : Int, y = .int i ∧ 0 ≤ i ∧ i < prodI os) ∧ c2 = c + 4 * k + 4) ⟨_, rfl, by omega, by omega, by omega, fun i h0 h1 => ⟨⟨i, rfl, h0, h1⟩, rfl⟩⟩ ?_⟩
    rintro d c2 ⟨⟨i, rfl, h0, h1⟩, rfl⟩
    refine ⟨by omega, cs ++ [i], ?_, by rw [List.length_append, hl]; rfl, fun x hx => ?_⟩
    · show _ = (cs ++ [i]).map PyData.int
      rw [List.map_append]
      rfl
    · rcases List.mem_append.mp hx with q | q
      · exact hm x q
      · have : x = i := by simpa using q
        omega
  · rintro out c' ⟨rfl, cs, rfl, hl, hm⟩ _
    rw [tabs_len] at hl ⊢
    exact hR cs _ ⟨hl, hm⟩ (Nat.le_refl _)
end K08
end
section
set_option maxRecDepth 100000
set_option maxHeartbeats 4000000
namespace K08
open PySem PySem.Spec PyProof.Rows L2 G Lin
local macro_rules | `(tactic| walk_at "ev") => `(tactic| first
  | exact ev_var rfl | exact ev_int | exact ev_bl | exact ev_non | exact ev_str
  | (apply ev_op; (focus walk_at "ev"); (focus walk_at "ev"); (focus walk_at "op"))
  | (apply ev_cb; (focus walk_at "el"); (focus walk_at "fn"))
  | (apply ev_lst; (focus walk_at "el"); (show _ ≤ sizeLine; decide))
  | (apply ev_tup; (focus walk_at "el"); (show _ ≤ sizeLine; decide)))
local macro_rules | `(tactic| walk_at "el") => `(tactic| first
  | exact el_nil
  | (apply el_cons; (focus walk_at "ev"); (focus walk_at "el")))
local macro_rules | `(tactic| walk_at "fn") => `(tactic| first
  | exact fn_int | exact fn_len | exact fn_all | exact fn_listL | exact fn_listT)
local macro_rules | `(tactic| walk_at "op") => `(tactic| first
  | exact op_I0 (fun _ => .int _) | exact op_I0 (fun _ => .bl _) | exact opp_1 (op_I0 fun _ => .int _)
  | exact op_I (by show (_ : Int) ≠ 0; decide) (fun _ => .int _)
  | exact op_I (by assumption) (fun _ => .int _)
  | exact opp_1 (op_I (by assumption) fun _ => .int _)
  | exact opp_1 (opp_ixL (i := 0) rfl) | exact opp_2 (opp_ixT (i := 0) rfl) | exact opp_2 (opp_ixT (i := 1) rfl) | exact opp_2 (opp_ixT (i := 2) rfl))
theorem canLay_ints : ∀ ns : List Int, PyData.canLayAll0 (intsD ns) = true
  | [] => rfl
  | n :: ns => by
    show PyData.canLayAll0 (.int n :: intsD ns) = true
    rw [PyData.canLayAll0, canLay_ints ns]
    rfl
theorem erase_map : ∀ (ls : List Int) (i : Nat), (ls.map V.int).eraseIdx i = (ls.eraseIdx i).map V.int
  | [], _ => rfl
  | y :: ls, 0 => rfl
  | y :: ls, i + 1 => by
    show V.int y :: (ls.map V.int).eraseIdx i = V.int y :: (ls.eraseIdx i).map V.int
    rw [erase_map ls i]
theorem seq_nat {i n : Nat} (h : i < n) : seqIndex? (i : Int) n = some i := by
  have e : (if (i : Int) < 0 then (i : Int) + n else (i : Int)) = (i : Int) := if_neg (by omega)
  unfold seqIndex?
  simp only [e]
  rw [if_pos (by rw [decide_eq_true (show 0 ≤ (i : Int) by omega), decide_eq_true (show (i : Int) < (n : Int) by omega)]; rfl), Int.toNat_natCast]
theorem sc_law_shuffled : FnScope ["generator", "items", "left", "found"] ["generator", "items"] (defScope s_law_shuffled) := ⟨rfl, rfl, rfl, by decide +kernel, rfl, by decide +kernel, by decide +kernel⟩
theorem ok_law_shuffled {P : Program} {w : World} {K : PySem.W.Frag} {mg : Str → Option Value} {base : Heap} (B : Bi mg) (c_law_random : Cal P w K mg base 2 "_law_random" ["generator", "bound"] (spG K p_law_random)) (h : Has K mg "_law_shuffled" s_law_shuffled ["generator", "items"]) :
    Cal P w K mg base 3 "_law_shuffled" ["generator", "items"] (spG K p_law_shuffled) := by
  --RAW
  obtain ⟨f, fd, F, hmg, bd⟩ := h
  refine ⟨f, fd, hmg, kq_of F, bd, fn_g0 F sc_law_shuffled (fun vs H Q E h => ?_) fun cdv A outer s H vs Q E hg hr h => ⟨_, (pss_cons (ps_par (i := 2) (j := 3) rfl sc_law_shuffled.nd rfl rfl (by decide) rfl rfl (pa_cons (pe_callTy (listK K) (by rfl) B.list (by decide +kernel) (pa_cons (pv 1) pa_nil)) (pa_cons (pe_lst pa_nil) pa_nil)) (by rfl))
      (pss_cons (ps_while PassesOwn.never (pt_cmpR (neK K hr) (pv 2) (pe_lst pa_nil) (nomark _)) (pss_one (ps_expr (pe_bm PySem.F.plainAttrs_list PySem.F.slot_list_append PySem.F.type_list_append mt_append (pv 3) (pa_cons (pe_bm PySem.F.plainAttrs_list PySem.F.slot_list_pop PySem.F.type_list_pop mt_popAt (pv 2) (pa_cons (pg_cal hg c_law_random hr (by rfl) (pa_cons (pv 0) (pa_cons (pe_callB (lenK K) (by rfl) B.len PySem.boot_len (pa_cons (pv 2) pa_nil)) pa_nil))) pa_nil)) pa_nil)))))
      (pss_one (ps_ret (pv 3))))), ?_⟩⟩
  · obtain ⟨g, us, B, ds, c, R, rfl, _, _, _, a, hp, _⟩ := h
    rw [List.length_cons, a.len, ar_law_shuffled ds c R hp]
    rfl
  obtain ⟨g, us, B, ds, c, R, rfl, hs, hgn, n, a, ⟨xs, rfl, hl, hc, hR⟩, q⟩ := h
  cases a with
  | cons h1 t =>
    cases t
    cases h1 with
    | @lst a0 vs0 _ h0 ha0 =>
      obtain rfl := daInts ha0
      have H0 : H a0 = some (.lst (xs.map .int)) := hs _ _ h0
      refine ⟨_, rfl, _, _, rfl, .inl (.of H0), fun l hl0 => ⟨Nat.zero_le _, fun f0 hf0 => ⟨_, _, rfl, ?_⟩⟩⟩
      have nlg : l ≠ g := fun e => n.ne (e ▸ hl0)
      have H1s : Same H (upd H l (.lst (xs.map .int))) := same_new hl0
      have nfl : f0 ≠ l := fun e => by rw [e, upd_same] at hf0; cases hf0
      have hfH : H f0 = none := by rw [upd_ne nfl] at hf0; exact hf0
      have nfg : f0 ≠ g := fun e => n.ne (e ▸ hfH)
      have hBl : B l = none := hs.free hl0
      have hBf : B f0 = none := hs.free hfH
      refine while_by (fun σ' H' => ∃ (ls fs : List Int) (c' : Nat), σ' = [some (.ref g), some (.ref a0), some (.ref l), some (.ref f0)] ∧ (∀ b o, b ≠ g → H b = some o → H' b = some o) ∧ Same B H' ∧ H' l = some (.lst (ls.map .int)) ∧ H' f0 = some (.lst (fs.map .int)) ∧ GenAt H' g c' ∧ (fs ++ ls).Perm xs ∧ c' + 4 * ls.length = c + 4 * xs.length) (fun _ H' => match H' l with | some (.lst ys) => ys.length | _ => 0) ?_ ?_ ?_
      · refine ⟨xs, [], c, rfl, fun b o nb e => ?_, (hs.trans H1s).trans (same_new hf0), ?_, upd_same, ?_, List.Perm.refl _, rfl⟩
        · exact same_new hf0 _ _ (H1s _ _ e)
        · rw [upd_ne nfl.symm, upd_same]
        · exact (n.same H1s).same (same_new hf0)
      · rintro σ' H' ⟨ls, fs, c', rfl, ex, sb, hL, hF, nG, pm, hcc⟩
        have hlen := pm.length_eq
        rw [List.length_append] at hlen
        refine ⟨_, rfl, Nat.zero_le _, fun e0 he0 => ?_⟩
        have sN : Same H' (upd H' e0 (.lst [])) := same_new he0
        refine ⟨.list (intsD ls), .list [], (Da.lst (sN _ _ hL) (daI ls)).dp, (Da.lst upd_same .nil).dp, ?_, ?_, _, rfl, ?_⟩
        · unfold SeqAt.shaped
          rw [PyData.canLay0, PyData.depth, canLay_ints, decide_eq_true (by have : PyData.depthAll (intsD ls) ≤ 0 := depth_all (depth_ints ls); omega)]
          rfl
        · rfl
        have exN : ∀ b o, b ≠ g → H b = some o → upd H' e0 (.lst []) b = some o := fun b o nb e => sN _ _ (ex b o nb e)
        cases ls with
        | nil =>
          have ev : (!PyData.eqv (.list (intsD [])) (.list [])) = false := by simp [PyData.eqv, PyData.eqvAll]
          rw [ev]
          refine iteF ⟨_, rfl, ?_⟩
          have gF : Gg g B H (upd B f0 (.lst (fs.map .int))) (upd H' e0 (.lst [])) := by
            refine ⟨exN, same_new hBf, fun b o e => ?_, fun b o e nb => ?_, ?_⟩
            · by_cases z : b = f0
              · subst z
                rw [upd_same] at e
                cases e
                exact sN _ _ hF
              · rw [upd_ne z] at e
                exact sN _ _ (sb _ _ e)
            · by_cases z : b = f0
              · subst z
                exact hfH
              · rw [upd_ne z, nb] at e
                cases e
            · rw [upd_ne nfg.symm]
              exact hgn
          rw [List.append_nil] at pm
          refine q _ _ _ (.list (intsD fs)) c' gF (nG.same sN) (.lst upd_same (daI fs)) ?_
          have e1 : c' = c + 4 * xs.length := by simpa using hcc
          rw [e1]
          exact hR fs pm
        | cons y ls =>
          have ev : (!PyData.eqv (.list (intsD (y :: ls))) (.list [])) = true := by simp [PyData.eqv, PyData.eqvAll]
          rw [ev]
          refine iteT ⟨_, rfl, .inl ⟨rfl, _, .of (sN _ _ hF)⟩, _, rfl, .inl ⟨rfl, _, .of (sN _ _ hL)⟩, _, rfl, _, rfl, _, _, rfl, .inl (.of (sN _ _ hL)), ?_⟩
          have hl2 : (List.map V.int (y :: ls)).length = ls.length + 1 := by rw [List.length_map]; rfl
          rw [hl2]
          refine ⟨g, [.int ((ls.length + 1 : Nat) : Int)], B, [.int ((ls.length + 1 : Nat) : Int)], c', fun d c2 => (∃ i : Nat, d = .int i ∧ i < ls.length + 1) ∧ c2 = c' + 4, rfl, sb.trans sN, hgn, nG.same sN, .cons (.int _) .nil, ⟨_, rfl, by omega, ?_, ?_, fun i h0 h1 => ⟨⟨i.toNat, by rw [Int.toNat_of_nonneg h0], by omega⟩, rfl⟩⟩, ?_⟩
          · rw [List.length_cons] at hlen
            omega
          · rw [List.length_cons] at hcc hlen
            omega
          rintro v B2 H2 d c2 g2 n2 hv ⟨⟨i, rfl, hi⟩, rfl⟩
          cases hv
          have hL2 : H2 l = some (.lst ((y :: ls).map .int)) := g2.ex _ _ nlg (sN _ _ hL)
          have hF2 : H2 f0 = some (.lst (fs.map .int)) := g2.ex _ _ nfg (sN _ _ hF)
          have sb2 : Same B H2 := g2.bb.trans g2.sub
          have ex2 : ∀ b o, b ≠ g → H b = some o → H2 b = some o := fun b o nb e => g2.ex _ _ nb (exN b o nb e)
          obtain ⟨z, hz⟩ : ∃ z, (y :: ls)[i]? = some z := ⟨_, List.getElem?_eq_getElem (by rw [List.length_cons]; exact hi)⟩
          refine ⟨l, (y :: ls).map .int, (i : Int), i, .int z, rfl, rfl, hL2, by omega, ?_, ?_, ?_, f0, fs.map .int, .int z, rfl, rfl, ?_, ?_, ?_⟩
          · rw [List.length_cons] at hlen
            omega
          · rw [hl2]
            exact seq_nat hi
          · rw [List.getElem?_map, hz]
            rfl
          · rw [upd_ne nfl]
            exact hF2
          · rw [List.length_map, sizeLine_eq]
            omega
          refine ⟨⟨(y :: ls).eraseIdx i, fs ++ [z], c' + 4, rfl, fun b o nb e => ?_, fun b o e => ?_, ?_, ?_, ?_, ?_, ?_⟩, ?_⟩
          · rw [upd_ne (ne_of_none e hfH), upd_ne (ne_of_none e hl0)]
            exact ex2 b o nb e
          · rw [upd_ne (ne_of_none e hBf), upd_ne (ne_of_none e hBl)]
            exact sb2 b o e
          · rw [upd_ne nfl.symm, upd_same, erase_map]
          · rw [upd_same, List.map_append]
            rfl
          · obtain ⟨a1, b1, m1, h1, r1⟩ := n2
            exact ⟨a1, b1, m1, by rw [upd_ne nfg.symm, upd_ne nlg.symm]; exact h1, r1⟩
          · have p1 := perm_erase hz
            rw [List.append_assoc]
            refine (List.Perm.append_left fs ?_).trans pm
            exact p1.symm
          · rw [List.length_eraseIdx_of_lt (by rw [List.length_cons]; exact hi)]
            rw [List.length_cons] at hcc ⊢
            omega
          · show (match upd _ f0 _ l with | some (.lst ys) => ys.length | _ => 0) < (match H' l with | some (.lst ys) => ys.length | _ => 0)
            rw [hL, upd_ne nfl.symm, upd_same]
            show (((y :: ls).map V.int).eraseIdx i).length < ((y :: ls).map V.int).length
            rw [List.length_eraseIdx_of_lt (by rw [hl2]; exact hi), hl2]
            omega
      · intro σ' H' Q1 Q2 hq hc1
        obtain ⟨v, e1, hz, k⟩ := hc1
        refine ⟨v, e1, hz, fun p hp => ?_⟩
        obtain ⟨d, e, h1, h2, h3, h4, k', ek, hk⟩ := k p hp
        exact ⟨d, e, h1, h2, h3, h4, k', ek, hq _ _ hk⟩
end K08
end
section
set_option maxRecDepth 100000
set_option maxHeartbeats 4000000
namespace K08
open PySem PySem.Spec PyProof.Rows L2 G Lin
local macro_rules | `(tactic| walk_at "ev") => `(tactic| first
  | exact ev_var rfl | exact ev_int | exact ev_bl | exact ev_non | exact ev_str
  | (apply ev_op; (focus walk_at "ev"); (focus walk_at "ev"); (focus walk_at "op"))
  | (apply ev_cb; (focus walk_at "el"); (focus walk_at "fn"))
  | (apply ev_lst; (focus walk_at "el"); (show _ ≤ sizeLine; decide))
  | (apply ev_tup; (focus walk_at "el"); (show _ ≤ sizeLine; decide)))
local macro_rules | `(tactic| walk_at "el") => `(tactic| first
  | exact el_nil
  | (apply el_cons; (focus walk_at "ev"); (focus walk_at "el")))
local macro_rules | `(tactic| walk_at "fn") => `(tactic| first
  | exact fn_int | exact fn_len | exact fn_all | exact fn_listL | exact fn_listT)
local macro_rules | `(tactic| walk_at "op") => `(tactic| first
  | exact op_I0 (fun _ => .int _) | exact op_I0 (fun _ => .bl _) | exact opp_1 (op_I0 fun _ => .int _)
  | exact op_I (by show (_ : Int) ≠ 0; decide) (fun _ => .int _)
  | exact op_I (by assumption) (fun _ => .int _)
  | exact opp_1 (op_I (by assumption) fun _ => .int _)
  | exact opp_1 (opp_ixL (i := 0) rfl) | exact opp_2 (opp_ixT (i := 0) rfl) | exact opp_2 (opp_ixT (i := 1) rfl) | exact opp_2 (opp_ixT (i := 2) rfl))
theorem ev_listRg {K : PySem.W.Frag} {ta : TE} {ρ : Rho} {n : Nat} (h : Ev K ta ρ (.int (n : Int))) (hn : n ≤ 1000000) : Ev K (tLstRg (tRg1 ta)) ρ (.list ((List.range n).map fun (i : Nat) => .int (i : Int))) := fun σ B H e s Q q =>
  h σ B H e s _ fun v B1 H1 g hv => by
    cases hv
    refine ⟨_, rfl, RgOk.of_le (by decide) (by omega) (by decide) (by omega), fun p hp => ?_⟩
    have ga := Gr.add g.sub hp (.lst (rgV 0 (n : Int)))
    refine q _ _ _ (g.trans ga) (.lst upd_same ?_)
    have e1 : rgV 0 (n : Int) = ((List.range n).map fun i : Nat => (i : Int)).map V.int := by
      unfold rgV
      rw [Int.sub_zero, Int.toNat_natCast, List.map_map]
      refine List.map_congr_left fun i _ => ?_
      show V.int (0 + (i : Int)) = V.int (i : Int)
      rw [Int.zero_add]
    have e2 : ((List.range n).map fun (i : Nat) => PyData.int (i : Int)) = intsD ((List.range n).map fun i : Nat => (i : Int)) := by
      rw [intsD, List.map_map]
      rfl
    rw [e1, e2]
    exact daI _
def rgI (n : Nat) : List Int := (List.range n).map fun i : Nat => (i : Int)
theorem rg_eq (n : Nat) : ((List.range n).map fun (i : Nat) => PyData.int (i : Int)) = intsD (rgI n) := by
  rw [intsD, rgI, List.map_map]
  rfl
theorem rg_len (n : Nat) : (rgI n).length = n := by rw [rgI, List.length_map, List.length_range]
theorem tab_of_perm {n : Nat} {ys : List Int} (h : ys.Perm (rgI n)) : Tab (n : Int) ys := by
  refine ⟨by rw [h.length_eq, rg_len], fun x hx => ?_, ?_⟩
  · obtain ⟨i, hi, rfl⟩ := List.mem_map.mp (h.mem_iff.mp hx)
    have := List.mem_range.mp hi
    omega
  · refine h.nodup_iff.mpr (List.pairwise_map.mpr (List.nodup_range.imp fun {a b} h => by omega))
theorem sc_law_system : FnScope ["generator", "orders_there", "wide", "size_there", "at"] ["generator", "orders_there", "wide"] (defScope s_law_system) := ⟨rfl, rfl, rfl, by decide +kernel, rfl, by decide +kernel, by decide +kernel⟩
theorem ok_law_system {P : Program} {w : World} {K : PySem.W.Frag} {mg : Str → Option Value} {base : Heap} (B : Bi mg) (c_law_random : Cal P w K mg base 2 "_law_random" ["generator", "bound"] (spG K p_law_random)) (c_law_shuffled : Cal P w K mg base 3 "_law_shuffled" ["generator", "items"] (spG K p_law_shuffled)) (c_law_size : Cal P w K mg base 1 "_law_size" ["orders_there"] (sp K p_law_size)) (h : Has K mg "_law_system" s_law_system ["generator", "orders_there", "wide"]) :
    Cal P w K mg base 4 "_law_system" ["generator", "orders_there", "wide"] (spG K p_law_system) := by
  refine has_g h sc_law_system rfl ar_law_system (fun f cdv A outer s H E hg hr => ⟨_, (pss_cons (ps_set (i := 3) sc_law_system.nd rfl (Or.inr rfl) (pg_cal hg c_law_size hr (by rfl) (pa_cons (pv 1) pa_nil)))
      (pss_one (ps_ret (pe_tup (pa_cons (pv 1) (pa_cons (pe_lc (own := [("at", 4)]) (g := (gName 4)) rfl sc_law_system.nd (pi_range1 (by rfl) B.range (pa_cons (pv 2) pa_nil)) (blkOk_by (N := ["generator", "orders_there", "wide", "size_there", "at"]) (sc := defScope s_law_system) (own := [("at", 4)]) (by decide +kernel)) (fun _ _ _ _ _ => pg_name (i := 4) sc_law_system.nd rfl (Or.inl rfl)) (fun _ _ _ _ _ => pts_nil) (fun _ _ _ _ _ => (pg_cal hg c_law_shuffled hr (by rfl) (pa_cons (pv 0) (pa_cons (pe_listRg rfl (by rfl) B.list (prg_1 (by rfl) B.range (pv 3))) pa_nil))))) (pa_cons (pg_cal hg c_law_random hr (by rfl) (pa_cons (pv 0) (pa_cons (pv 3) pa_nil))) pa_nil))))))), fun ds c R hp => ?_⟩) (List.cons_ne_nil _ _)
  obtain ⟨os, wide, rfl, ⟨ho, h12⟩, w2, w100, hc, hR⟩ := hp
  have p0 := prod_pos ho.2.1
  obtain ⟨n, hn⟩ : ∃ n : Nat, prodI os = n := ⟨(prodI os).toNat, by omega⟩
  rw [hn] at h12 p0
  refine dg_seq (M := fun ρ c' => ρ = [none, some (.tuple (intsD os)), some (.int wide), some (.int n), none] ∧ c' = c) (dg_set (P := fun d c' => d = .int n ∧ c' = c) (eg_pure (ev_call (el_cons (ev_var rfl) el_nil) ⟨os, rfl, ho, by rw [hn]⟩) ⟨rfl, rfl⟩) (by decide) ?_) ?_
  · rintro d c' ⟨rfl, rfl⟩
    exact ⟨rfl, rfl⟩
  · rintro ρ' c' ⟨rfl, rfl⟩
    refine dg_ret (eg_tup (P1 := fun ds c2 => ∃ ts tot, ds = [.tuple (intsD os), .list (tabsD ts), .int tot] ∧ Sys os ts tot ∧ ts.length = wide ∧ c2 ≤ c' + 10000) (el_c (P1 := fun d c2 => d = .tuple (intsD os) ∧ c2 = c') (eg_pure (ev_var rfl) ⟨rfl, rfl⟩) ?_) ?_)
    · rintro x c1 ⟨rfl, rfl⟩
      refine el_c (P1 := fun d c2 => (∃ ts : List (List Int), d = .list (tabsD ts) ∧ (∀ t ∈ ts, Tab (prodI os) t) ∧ ts.length = wide) ∧ c2 ≤ c1 + 4 * 12 * wide) (eg_lc (it_range1 (el_cons (ev_var rfl) el_nil) (by omega)) (by rw [List.length_map, List.length_range]; omega) (by decide) (fun k out c2 => (∃ ts : List (List Int), out = tabsD ts ∧ (∀ t ∈ ts, Tab (prodI os) t) ∧ ts.length = k) ∧ c2 ≤ c1 + 4 * 12 * k) ⟨⟨[], rfl, fun t h => by simp at h, rfl⟩, by omega⟩ ?_ ?_) ?_
      · rintro k e out c2 he ⟨⟨ts, rfl, ht, hl⟩, hc2⟩
        have hk := (List.getElem?_eq_some_iff.mp he).1
        rw [List.length_map, List.length_range] at hk
        refine ⟨_, tgw_name, eg_call (el_cons (ev_listRg (ev_var rfl) (by omega)) el_nil) (R := fun d c3 => (∃ ys : List Int, d = .list (intsD ys) ∧ ys.Perm (rgI n)) ∧ c3 = c2 + 4 * n) ⟨rgI n, by rw [rg_eq], by rw [rg_len]; omega, by omega, fun ys hy => ⟨⟨ys, rfl, hy⟩, by rw [rg_len]⟩⟩ ?_⟩
        rintro d c3 ⟨⟨ys, rfl, hy⟩, rfl⟩
        refine ⟨⟨ts ++ [ys], ?_, fun t h => ?_, by rw [List.length_append, hl]; rfl⟩, by omega⟩
        · unfold tabsD
          rw [List.map_append]
          rfl
        · rcases List.mem_append.mp h with q | q
          · exact ht t q
          · have : t = ys := by simpa using q
            rw [this, hn]
            exact tab_of_perm hy
      · rintro out c2 ⟨⟨ts, rfl, ht, hl⟩, hc2⟩ _
        rw [List.length_map, List.length_range] at hl hc2
        exact ⟨⟨ts, rfl, ht, hl⟩, hc2⟩
      · rintro x c2 ⟨⟨ts, rfl, ht, hl⟩, hc2⟩
        refine el_c (P1 := fun d c3 => (∃ tot : Int, d = .int tot ∧ 0 ≤ tot ∧ tot < prodI os) ∧ c3 = c2 + 4) (eg_call (el_cons (ev_var rfl) el_nil) (R := fun d c3 => (∃ tot : Int, d = .int tot ∧ 0 ≤ tot ∧ tot < prodI os) ∧ c3 = c2 + 4) ⟨_, rfl, by omega, by omega, by omega, fun i h0 h1 => ⟨⟨i, rfl, h0, by rw [hn]; exact h1⟩, rfl⟩⟩ fun _ _ h => h) ?_
        rintro x c3 ⟨⟨tot, rfl, t0, t1⟩, rfl⟩
        exact el_n ⟨ts, tot, rfl, ⟨ho, by omega, by omega, ht, t0, t1⟩, hl, by omega⟩
    · rintro ds c2 ⟨ts, tot, rfl, hs, hl, hc2⟩
      exact ⟨by show 3 ≤ sizeLine; decide, hR ts tot c2 hs hl hc2⟩
theorem sc_law_righted : FnScope ["generator", "system_there", "code_there", "at", "mark"] ["generator", "system_there"] (defScope s_law_righted) := ⟨rfl, rfl, rfl, by decide +kernel, rfl, by decide +kernel, by decide +kernel⟩
theorem ok_law_righted {P : Program} {w : World} {K : PySem.W.Frag} {mg : Str → Option Value} {base : Heap} (B : Bi mg) (c_law_size : Cal P w K mg base 1 "_law_size" ["orders_there"] (sp K p_law_size)) (c_law_off : Cal P w K mg base 3 "_law_off" ["system_there", "code_there"] (sp K p_law_off)) (c_law_put : Cal P w K mg base 1 "_law_put" ["code_there", "at", "mark"] (sp K p_law_put)) (c_law_random : Cal P w K mg base 2 "_law_random" ["generator", "bound"] (spG K p_law_random)) (c_law_code : Cal P w K mg base 3 "_law_code" ["generator", "system_there"] (spG K p_law_code)) (h : Has K mg "_law_righted" s_law_righted ["generator", "system_there"]) :
    Cal P w K mg base 4 "_law_righted" ["generator", "system_there"] (spG K p_law_righted) := by
  refine has_g h sc_law_righted rfl ar_law_righted (fun f cdv A outer s H E hg hr => ⟨_, (pss_cons (ps_set (i := 2) sc_law_righted.nd rfl (Or.inl rfl) (pg_cal hg c_law_code hr (by rfl) (pa_cons (pv 0) (pa_cons (pv 1) pa_nil))))
      (pss_cons (ps_set (i := 3) sc_law_righted.nd rfl (Or.inl rfl) (pg_cal hg c_law_random hr (by rfl) (pa_cons (pv 0) (pa_cons (pe_callB (lenK K) (by rfl) B.len PySem.boot_len (pa_cons (pv 2) pa_nil)) pa_nil))))
      (pss_cons (ps_for PassesOwn.never rfl (pi_range1 (by rfl) B.range (pa_cons (pg_cal hg c_law_size hr (by rfl) (pa_cons (pe_ix (ixK K) (pv 1) pe_int (fun _ _ => rfl)) pa_nil)) pa_nil)) (pg_name (i := 4) sc_law_righted.nd rfl (Or.inl rfl)) (pss_one (ps_if (pt_cmpR (eqK K hr) (pg_cal hg c_law_off hr (by rfl) (pa_cons (pv 1) (pa_cons (pg_cal hg c_law_put hr (by rfl) (pa_cons (pv 2) (pa_cons (pv 3) (pa_cons (pv 4) pa_nil)))) pa_nil))) pe_int (nomark _)) (pss_one (ps_ret (pg_cal hg c_law_put hr (by rfl) (pa_cons (pv 2) (pa_cons (pv 3) (pa_cons (pv 4) pa_nil)))))) pss_nil)))
      (pss_one (ps_ret pe_non))))), fun ds c R hp => ?_⟩) (List.cons_ne_nil _ _)
  obtain ⟨os, ts, tot, rfl, hs, hc, hR⟩ := hp
  have h4 := hs.few
  have h2 := hs.two
  have pp := (prod_take_le hs.ord os.length).2
  rw [List.take_length] at pp
  have p0 := prod_pos hs.ord.2.1
  obtain ⟨n, hn⟩ : ∃ n : Nat, prodI os = n := ⟨(prodI os).toNat, by omega⟩
  refine dg_seq (M := fun ρ c' => ∃ cs, ρ = [none, some (sysD os ts tot), some (.list (intsD cs)), none, none] ∧ Code os ts cs ∧ c' ≤ c + 400) (dg_set (eg_call (el_cons (ev_var rfl) el_nil) (P := fun d c' => ∃ cs, d = .list (intsD cs) ∧ Code os ts cs ∧ c' ≤ c + 400) (R := fun d c' => ∃ cs, d = .list (intsD cs) ∧ Code os ts cs ∧ c' ≤ c + 400) ⟨os, ts, tot, rfl, hs, by omega, fun cs c' h1 h2 => ⟨cs, rfl, h1, by omega⟩⟩ fun _ _ h => h) (by decide) ?_) ?_
  · rintro d c' ⟨cs, rfl, h1, h2⟩
    exact ⟨cs, rfl, h1, h2⟩
  rintro ρ' c' ⟨cs, rfl, hcs, hc'⟩
  have hl := hcs.len
  refine dg_seq (M := fun ρ c2 => ∃ p : Nat, ρ = [none, some (sysD os ts tot), some (.list (intsD cs)), some (.int p), none] ∧ p < ts.length ∧ c2 ≤ c + 404) (dg_set (P := fun d c2 => ∃ p : Nat, d = .int p ∧ p < ts.length ∧ c2 ≤ c + 404) (eg_call (el_cons (ev_cb (el_cons (ev_var rfl) el_nil) fn_len) el_nil) (R := fun d c2 => ∃ p : Nat, d = .int p ∧ p < ts.length ∧ c2 ≤ c + 404) ⟨_, rfl, by rw [ints_len]; omega, by rw [ints_len]; omega, by omega, fun i h0 h1 => ⟨i.toNat, by rw [Int.toNat_of_nonneg h0], by rw [ints_len] at h1; omega, by omega⟩⟩ fun _ _ h => h) (by decide) ?_) ?_
  · rintro d c2 ⟨p, rfl, h1, h2⟩
    exact ⟨p, rfl, h1, h2⟩
  rintro ρ' c2 ⟨p, rfl, hp, hc2⟩
  obtain ⟨t, ht⟩ : ∃ t, ts[p]? = some t := ⟨_, List.getElem?_eq_getElem hp⟩
  have rg := want_rng (cs := cs) (p := p) hs
  obtain ⟨w, w1, w2, w3⟩ := (hs.tabs t (List.mem_of_getElem? ht)).one rg.1 rg.2
  refine dg_seq (M := fun ρ c3 => False) (dg_for (it_range1 (n := n) (el_cons (ev_call (el_cons (ev_op (ev_var rfl) ev_int (opp_2 (opp_ixT (i := 0) rfl))) el_nil) ⟨os, rfl, hs.ord, by rw [hn]⟩) el_nil) (by omega)) (by decide) (fun k ρ c3 => k ≤ w ∧ c3 = c2 ∧ ∃ z, ρ = [none, some (sysD os ts tot), some (.list (intsD cs)), some (.int p), z]) ⟨Nat.zero_le _, rfl, none, rfl⟩ ?_ ?_) ?_
  · rintro k e ρ' c3 he ⟨hk, rfl, z, rfl⟩
    have hkn := (List.getElem?_eq_some_iff.mp he).1
    rw [List.length_map, List.length_range] at hkn
    have e1 : e = .int (k : Int) := by
      rw [List.getElem?_map, List.getElem?_range hkn] at he
      exact (Option.some.inj he).symm
    subst e1
    have hput := hcs.put (p := p) (m := (k : Int)) (by omega) (by omega)
    have evp : ∀ {E}, Ev K (tCall (sp K p_law_put) [] E (tCons (tVar 2) (tCons (tVar 3) (tCons (tVar 4) tNil)))) [none, some (sysD os ts tot), some (.list (intsD cs)), some (.int p), some (.int (k : Int))] (.list (intsD (cs.set p (k : Int)))) := fun {E} =>
      ev_call (el_cons (ev_var rfl) (el_cons (ev_var rfl) (el_cons (ev_var rfl) el_nil))) ⟨cs, p, (k : Int), rfl, by omega, by omega, rfl⟩
    refine dg_if (b := decide (k = w)) ?_ (fun hb => ?_) (fun hb => ?_)
    · refine eb_test (ev_op (ev_call (el_cons (ev_var rfl) (el_cons evp el_nil)) ⟨os, ts, tot, _, rfl, hs, hput, rfl⟩) ev_int (opp_eqD (sh_int _) (sh_int _) ?_))
      rw [eqv_int]
      have iff := off_put hs hcs ht (m := k) (by omega)
      congr 1
      by_cases q : k = w
      · rw [decide_eq_true q]
        have : linR os.reverse (vals ts (cs.set p (k : Int))) [tot] = 0 := iff.mpr (by rw [q]; exact w2)
        rw [this]
        rfl
      · rw [decide_eq_false q]
        refine (beq_eq_false_iff_ne.mpr fun e => q (w3 k (iff.mp e))).symm
    · refine dg_ret (eg_pure evp ?_)
      exact hR _ _ hput (by omega)
    · refine dg_next ⟨?_, rfl, _, rfl⟩
      have := of_decide_eq_false hb
      omega
  · rintro ρ' c3 ⟨hk, _⟩
    rw [List.length_map, List.length_range] at hk
    omega
  · rintro ρ' c3 hf
    exact hf.elim
end K08
end
section
set_option maxRecDepth 100000
set_option maxHeartbeats 4000000
namespace K08
open PySem PySem.Spec PyProof.Rows L2 G Lin
local macro_rules | `(tactic| walk_at "ev") => `(tactic| first
  | exact ev_var rfl | exact ev_int | exact ev_bl | exact ev_non | exact ev_str
  | (apply ev_op; (focus walk_at "ev"); (focus walk_at "ev"); (focus walk_at "op"))
  | (apply ev_cb; (focus walk_at "el"); (focus walk_at "fn"))
  | (apply ev_lst; (focus walk_at "el"); (show _ ≤ sizeLine; decide))
  | (apply ev_tup; (focus walk_at "el"); (show _ ≤ sizeLine; decide)))
local macro_rules | `(tactic| walk_at "el") => `(tactic| first
  | exact el_nil
  | (apply el_cons; (focus walk_at "ev"); (focus walk_at "el")))
local macro_rules | `(tactic| walk_at "fn") => `(tactic| first
  | exact fn_int | exact fn_len | exact fn_all | exact fn_listL | exact fn_listT)
local macro_rules | `(tactic| walk_at "op") => `(tactic| first
  | exact op_I0 (fun _ => .int _) | exact op_I0 (fun _ => .bl _) | exact opp_1 (op_I0 fun _ => .int _)
  | exact op_I (by show (_ : Int) ≠ 0; decide) (fun _ => .int _)
  | exact op_I (by assumption) (fun _ => .int _)
  | exact opp_1 (op_I (by assumption) fun _ => .int _)
  | exact opp_1 (opp_ixL (i := 0) rfl) | exact opp_2 (opp_ixT (i := 0) rfl) | exact opp_2 (opp_ixT (i := 1) rfl) | exact opp_2 (opp_ixT (i := 2) rfl))
def kwg_added_to_member_place_system {α : Type} : List α → List α → List α
  | [], [a0, a1, a2] => [a2, a1, a0]
  | _, _ => []
theorem kwr_added_to_member_place_system {vs : List V} {us : List Value} {zs : List V} {ws : List Value} (r : Vals vs us) (q : Vals zs ws) : Vals (kwg_added_to_member_place_system vs zs) (kwg_added_to_member_place_system us ws) := by
  cases r with
  | cons _ _ => cases q <;> exact .nil
  | nil =>
    cases q with
    | nil => exact .nil
    | cons h0 q =>
      cases q with
      | nil => exact .nil
      | cons h1 q =>
        cases q with
        | nil => exact .nil
        | cons h2 q =>
          cases q with
          | nil => exact .cons h2 (.cons h1 (.cons h0 (.nil)))
          | cons _ _ => exact .nil
theorem kw_added_to_member_place_system {P : Program} {w : World} {K : PySem.W.Frag} {mg : Str → Option Value} {base : Heap} {k : Nat} {q : Sp} (c : Cal P w K mg base k "added_to" ["system", "place", "member"] q) (h : Has K mg "added_to" s_added_to ["system", "place", "member"]) : CalK P w K mg base k "added_to" ["system", "place", "member"] ["member", "place", "system"] kwg_added_to_member_place_system q :=
  c.kw h (g := kwg_added_to_member_place_system) (fun _ _ _ _ _ _ us ws hl => match us, ws, hl with | [], [a0, a1, a2], _ => rfl) kwr_added_to_member_place_system
def kwg_reordered_places_system {α : Type} : List α → List α → List α
  | [], [a0, a1] => [a1, a0]
  | _, _ => []
theorem kwr_reordered_places_system {vs : List V} {us : List Value} {zs : List V} {ws : List Value} (r : Vals vs us) (q : Vals zs ws) : Vals (kwg_reordered_places_system vs zs) (kwg_reordered_places_system us ws) := by
  cases r with
  | cons _ _ => cases q <;> exact .nil
  | nil =>
    cases q with
    | nil => exact .nil
    | cons h0 q =>
      cases q with
      | nil => exact .nil
      | cons h1 q =>
        cases q with
        | nil => exact .cons h1 (.cons h0 (.nil))
        | cons _ _ => exact .nil
theorem kw_reordered_places_system {P : Program} {w : World} {K : PySem.W.Frag} {mg : Str → Option Value} {base : Heap} {k : Nat} {q : Sp} (c : Cal P w K mg base k "reordered" ["system", "places"] q) (h : Has K mg "reordered" s_reordered ["system", "places"]) : CalK P w K mg base k "reordered" ["system", "places"] ["places", "system"] kwg_reordered_places_system q :=
  c.kw h (g := kwg_reordered_places_system) (fun _ _ _ _ _ _ us ws hl => match us, ws, hl with | [], [a0, a1], _ => rfl) kwr_reordered_places_system
def kwg_with_signs_names_system {α : Type} : List α → List α → List α
  | [], [a0, a1] => [a1, a0]
  | _, _ => []
theorem kwr_with_signs_names_system {vs : List V} {us : List Value} {zs : List V} {ws : List Value} (r : Vals vs us) (q : Vals zs ws) : Vals (kwg_with_signs_names_system vs zs) (kwg_with_signs_names_system us ws) := by
  cases r with
  | cons _ _ => cases q <;> exact .nil
  | nil =>
    cases q with
    | nil => exact .nil
    | cons h0 q =>
      cases q with
      | nil => exact .nil
      | cons h1 q =>
        cases q with
        | nil => exact .cons h1 (.cons h0 (.nil))
        | cons _ _ => exact .nil
theorem kw_with_signs_names_system {P : Program} {w : World} {K : PySem.W.Frag} {mg : Str → Option Value} {base : Heap} {k : Nat} {q : Sp} (c : Cal P w K mg base k "with_signs" ["system", "names"] q) (h : Has K mg "with_signs" s_with_signs ["system", "names"]) : CalK P w K mg base k "with_signs" ["system", "names"] ["names", "system"] kwg_with_signs_names_system q :=
  c.kw h (g := kwg_with_signs_names_system) (fun _ _ _ _ _ _ us ws hl => match us, ws, hl with | [], [a0, a1], _ => rfl) kwr_with_signs_names_system
def kwg_put_together_other_system {α : Type} : List α → List α → List α
  | [], [a0, a1] => [a1, a0]
  | _, _ => []
theorem kwr_put_together_other_system {vs : List V} {us : List Value} {zs : List V} {ws : List Value} (r : Vals vs us) (q : Vals zs ws) : Vals (kwg_put_together_other_system vs zs) (kwg_put_together_other_system us ws) := by
  cases r with
  | cons _ _ => cases q <;> exact .nil
  | nil =>
    cases q with
    | nil => exact .nil
    | cons h0 q =>
      cases q with
      | nil => exact .nil
      | cons h1 q =>
        cases q with
        | nil => exact .cons h1 (.cons h0 (.nil))
        | cons _ _ => exact .nil
theorem kw_put_together_other_system {P : Program} {w : World} {K : PySem.W.Frag} {mg : Str → Option Value} {base : Heap} {k : Nat} {q : Sp} (c : Cal P w K mg base k "put_together" ["system", "other"] q) (h : Has K mg "put_together" s_put_together ["system", "other"]) : CalK P w K mg base k "put_together" ["system", "other"] ["other", "system"] kwg_put_together_other_system q :=
  c.kw h (g := kwg_put_together_other_system) (fun _ _ _ _ _ _ us ws hl => match us, ws, hl with | [], [a0, a1], _ => rfl) kwr_put_together_other_system
def kwg_fixed_at_sign_place_system {α : Type} : List α → List α → List α
  | [], [a0, a1, a2] => [a2, a1, a0]
  | _, _ => []
theorem kwr_fixed_at_sign_place_system {vs : List V} {us : List Value} {zs : List V} {ws : List Value} (r : Vals vs us) (q : Vals zs ws) : Vals (kwg_fixed_at_sign_place_system vs zs) (kwg_fixed_at_sign_place_system us ws) := by
  cases r with
  | cons _ _ => cases q <;> exact .nil
  | nil =>
    cases q with
    | nil => exact .nil
    | cons h0 q =>
      cases q with
      | nil => exact .nil
      | cons h1 q =>
        cases q with
        | nil => exact .nil
        | cons h2 q =>
          cases q with
          | nil => exact .cons h2 (.cons h1 (.cons h0 (.nil)))
          | cons _ _ => exact .nil
theorem kw_fixed_at_sign_place_system {P : Program} {w : World} {K : PySem.W.Frag} {mg : Str → Option Value} {base : Heap} {k : Nat} {q : Sp} (c : Cal P w K mg base k "fixed_at" ["system", "place", "sign"] q) (h : Has K mg "fixed_at" s_fixed_at ["system", "place", "sign"]) : CalK P w K mg base k "fixed_at" ["system", "place", "sign"] ["sign", "place", "system"] kwg_fixed_at_sign_place_system q :=
  c.kw h (g := kwg_fixed_at_sign_place_system) (fun _ _ _ _ _ _ us ws hl => match us, ws, hl with | [], [a0, a1, a2], _ => rfl) kwr_fixed_at_sign_place_system
end K08
end
section
set_option maxRecDepth 100000
set_option maxHeartbeats 4000000
namespace K08
open PySem PySem.Spec PyProof.Rows L2 G Lin
local macro_rules | `(tactic| walk_at "ev") => `(tactic| first
  | exact ev_var rfl | exact ev_int | exact ev_bl | exact ev_non | exact ev_str
  | (apply ev_op; (focus walk_at "ev"); (focus walk_at "ev"); (focus walk_at "op"))
  | (apply ev_cb; (focus walk_at "el"); (focus walk_at "fn"))
  | (apply ev_lst; (focus walk_at "el"); (show _ ≤ sizeLine; decide))
  | (apply ev_tup; (focus walk_at "el"); (show _ ≤ sizeLine; decide)))
local macro_rules | `(tactic| walk_at "el") => `(tactic| first
  | exact el_nil
  | (apply el_cons; (focus walk_at "ev"); (focus walk_at "el")))
local macro_rules | `(tactic| walk_at "fn") => `(tactic| first
  | exact fn_int | exact fn_len | exact fn_all | exact fn_listL | exact fn_listT)
local macro_rules | `(tactic| walk_at "op") => `(tactic| first
  | exact op_I0 (fun _ => .int _) | exact op_I0 (fun _ => .bl _) | exact opp_1 (op_I0 fun _ => .int _)
  | exact op_I (by show (_ : Int) ≠ 0; decide) (fun _ => .int _)
  | exact op_I (by assumption) (fun _ => .int _)
  | exact opp_1 (op_I (by assumption) fun _ => .int _)
  | exact opp_1 (opp_ixL (i := 0) rfl) | exact opp_2 (opp_ixT (i := 0) rfl) | exact opp_2 (opp_ixT (i := 1) rfl) | exact opp_2 (opp_ixT (i := 2) rfl))
/-! the script's own numbers -/
def sCell (K : PySem.W.Frag) : Sp := fun vs H Q _ => ∃ (a : Addr) (xs : List Int) (i : Nat) (B : Hp), vs = [.ref a, .int (i : Int)] ∧ SqL K H a (xs.map .int) ∧ Same B H ∧ ∀ (n : Int) (H' : Hp), Gr B H B H' → Q (.int n) H'
def sGen (K : PySem.W.Frag) : Sp := fun vs H Q _ => ∃ (a : Addr) (xs : List Int) (i : Nat) (B : Hp), vs = [.ref a, .int (i : Int)] ∧ i ≤ 100 ∧ SqL K H a (xs.map .int) ∧ Same B H ∧
  ∀ (g : Addr) (H' : Hp), Gr B H B H' → B g = none → H g = none → GenAt H' g 100000 → Q (.ref g) H'
theorem sc_law_cell : FnScope ["script", "index"] ["script", "index"] (defScope s_law_cell) := ⟨rfl, rfl, rfl, by decide +kernel, rfl, by decide +kernel, by decide +kernel⟩
theorem ok_law_cell {P : Program} {w : World} {K : PySem.W.Frag} {mg : Str → Option Value} {base : Heap} (B : Bi mg)  (h : Has K mg "_law_cell" s_law_cell ["script", "index"]) :
    Cal P w K mg base 1 "_law_cell" ["script", "index"] (sCell K) := by
  --RAW
  obtain ⟨f, fd, F, hmg, bd⟩ := h
  refine ⟨f, fd, hmg, kq_of F, bd, fn_g0 F sc_law_cell (fun vs H Q E h => ?_) fun cdv A outer s H vs Q E hg hr h => ⟨_, (pss_cons (ps_if (pt_cmpR op_lt (pv 1) (pe_callB (lenK K) (by rfl) B.len PySem.boot_len (pa_cons (pv 0) pa_nil)) (nomark _)) (pss_one (ps_ret (pe_ix (ixK K) (pv 0) (pv 1) (fun _ _ => rfl)))) pss_nil)
      (pss_one (ps_ret (pe_op op_modN (pe_callB (sumK K rfl) (by rfl) B.sum (by decide +kernel) (pa_cons (pe_slice (slK K) (pv 0) po_none (po_some pe_int)) pa_nil)) pe_int)))), ?_⟩⟩
  · obtain ⟨a, xs, i, B, rfl, _⟩ := h
    rfl
  obtain ⟨a, xs, i, B, rfl, hS, hs, q⟩ := h
  refine ⟨_, rfl, _, rfl, _, _, rfl, .inl hS, _, _, rfl, rfl, _, rfl, ?_⟩
  rw [List.length_map]
  refine ite2 (fun hx => ?_) (fun hx => ?_)
  · have hi : i < xs.length := by
      have := of_decide_eq_true hx
      omega
    exact ⟨_, rfl, _, rfl, .inl ⟨a, xs.map .int, _, .int xs[i], rfl, rfl, hS, atI_nat (by rw [List.getElem?_map, List.getElem?_eq_getElem hi]; rfl), q _ _ (.refl hs)⟩⟩
  · refine ⟨_, rfl, _, rfl, a, xs.map .int, rfl, hS, fun p hp => ⟨p, (xs.drop (HT.sIx xs.length 0 none)).take (HT.sIx xs.length xs.length (some 1) - HT.sIx xs.length 0 none), rfl, .of ?_, _, _, rfl, rfl, by show (1000003 : Int) ≠ 0; decide, q _ _ (.side hs hp _)⟩⟩
    rw [upd_same]
    unfold cutV
    rw [List.length_map, ← List.map_drop, ← List.map_take]
theorem sc_law_generator : FnScope ["script", "index", "seed"] ["script", "index"] (defScope s_law_generator) := ⟨rfl, rfl, rfl, by decide +kernel, rfl, by decide +kernel, by decide +kernel⟩
theorem ok_law_generator {P : Program} {w : World} {K : PySem.W.Frag} {mg : Str → Option Value} {base : Heap} (B : Bi mg) (c_law_cell : Cal P w K mg base 1 "_law_cell" ["script", "index"] (sCell K)) (h : Has K mg "_law_generator" s_law_generator ["script", "index"]) :
    Cal P w K mg base 2 "_law_generator" ["script", "index"] (sGen K) := by
  --RAW
  obtain ⟨f, fd, F, hmg, bd⟩ := h
  refine ⟨f, fd, hmg, kq_of F, bd, fn_g0 F sc_law_generator (fun vs H Q E h => ?_) fun cdv A outer s H vs Q E hg hr h => ⟨_, (pss_cons (ps_set (i := 2) sc_law_generator.nd rfl (Or.inl rfl) (pg_cal hg c_law_cell hr (by rfl) (pa_cons (pv 0) (pa_cons (pv 1) pa_nil))))
      (pss_one (ps_ret (pe_lst (pa_cons (pe_op op_modN (pe_callTy call_int1 (by rfl) B.int (by decide +kernel) (pa_cons (pe_callB (call_max2 rfl) (by rfl) B.max (by decide +kernel) (pa_cons (pe_op op_sub (pv 2) (pe_op op_powW pe_int pe_int)) (pa_cons pe_int pa_nil))) pa_nil)) (pe_op op_powW (pe_op op_powW pe_int pe_int) pe_int)) (pa_cons (pe_op op_modN (pe_callTy call_int1 (by rfl) B.int (by decide +kernel) (pa_cons (pv 2) pa_nil)) pe_int) (pa_cons (pe_op op_mulA pe_int (pv 1)) pa_nil))))))), ?_⟩⟩
  · obtain ⟨a, xs, i, B, rfl, _⟩ := h
    rfl
  obtain ⟨a, xs, i, B, rfl, hi, hS, hs, q⟩ := h
  refine ⟨_, rfl, _, rfl, a, xs, i, B, rfl, hS, hs, fun n H1 g1 => ?_⟩
  have big : ((10 : Int) ^ Int.toNat 60) ^ Int.toNat 10 = 10 ^ 600 := by decide +kernel
  have bp : (0 : Int) < 10 ^ 600 := by decide +kernel
  refine ⟨_, rfl, _, _, rfl, rfl, ⟨by decide, by decide⟩, _, _, rfl, rfl, _, _, rfl, .inl ⟨_, rfl, _, _, rfl, rfl, ⟨by decide, by decide +kernel⟩, _, _, rfl, rfl, ⟨by decide, by decide +kernel⟩, _, _, rfl, rfl, ?_, ?_⟩⟩
  · show ((10 : Int) ^ Int.toNat 60) ^ Int.toNat 10 ≠ 0
    rw [big]
    exact Int.ne_of_gt bp
  refine ⟨_, rfl, .inl ⟨_, rfl, _, _, rfl, rfl, (by show (2147483647 : Int) ≠ 0; decide), _, rfl, .inl ⟨_, _, rfl, rfl, mulW_small (by decide) (by decide) (by omega) (by omega), (by show 3 ≤ sizeLine; decide), fun p hp => ?_⟩⟩⟩
  have r1 := fmod_rng (if 0 > n - 10 ^ Int.toNat 18 then 0 else n - 10 ^ Int.toNat 18) bp
  have r2 := fmod_rng n (m := 2147483647) (by decide)
  refine q p _ (g1.trans (Gr.side g1.sub hp _)) (g1.bb.trans g1.sub |>.free hp) (g1.ex.free hp) ⟨_, _, _, upd_same, ?_, ?_, r2.1, r2.2, ?_, ?_⟩
  · rw [big]; exact r1.1
  · rw [big]; exact r1.2
  · omega
  · omega
end K08
end
section
set_option maxRecDepth 100000
set_option maxHeartbeats 4000000
namespace K08
open PySem PySem.Spec PyProof.Rows L2 G Lin
local macro_rules | `(tactic| walk_at "ev") => `(tactic| first
  | exact ev_var rfl | exact ev_int | exact ev_bl | exact ev_non | exact ev_str
  | (apply ev_op; (focus walk_at "ev"); (focus walk_at "ev"); (focus walk_at "op"))
  | (apply ev_cb; (focus walk_at "el"); (focus walk_at "fn"))
  | (apply ev_lst; (focus walk_at "el"); (show _ ≤ sizeLine; decide))
  | (apply ev_tup; (focus walk_at "el"); (show _ ≤ sizeLine; decide)))
local macro_rules | `(tactic| walk_at "el") => `(tactic| first
  | exact el_nil
  | (apply el_cons; (focus walk_at "ev"); (focus walk_at "el")))
local macro_rules | `(tactic| walk_at "fn") => `(tactic| first
  | exact fn_int | exact fn_len | exact fn_all | exact fn_listL | exact fn_listT)
local macro_rules | `(tactic| walk_at "op") => `(tactic| first
  | exact op_I0 (fun _ => .int _) | exact op_I0 (fun _ => .bl _) | exact opp_1 (op_I0 fun _ => .int _)
  | exact op_I (by show (_ : Int) ≠ 0; decide) (fun _ => .int _)
  | exact op_I (by assumption) (fun _ => .int _)
  | exact opp_1 (op_I (by assumption) fun _ => .int _)
  | exact opp_1 (opp_ixL (i := 0) rfl) | exact opp_2 (opp_ixT (i := 0) rfl) | exact opp_2 (opp_ixT (i := 1) rfl) | exact opp_2 (opp_ixT (i := 2) rfl))
theorem sh_str {c : Str} (h : c.cps.all (· < 0x110000) = true) : SeqAt.shaped (.str c) = true := by
  unfold SeqAt.shaped
  rw [PyData.canLay0, PyData.depth]
  show (c.cps.all (· < 0x110000) && decide (0 ≤ 64)) = true
  rw [h]
  rfl
theorem rep_noF (n : Nat) : inV (.bl false) (List.replicate n (V.bl true)) = false := by
  unfold inV
  rw [List.any_eq_false]
  intro y hy
  rw [List.eq_of_mem_replicate hy]
  decide
theorem rep_flat (n : Nat) : (List.replicate n (V.bl true)).all flatV = true := by
  rw [List.all_eq_true]
  intro y hy
  rw [List.eq_of_mem_replicate hy]
  rfl
theorem sc_law_marked : FnScope ["told", "kept", "item"] ["told"] (defScope s_law_marked) := ⟨rfl, rfl, rfl, by decide +kernel, rfl, by decide +kernel, by decide +kernel⟩
theorem ok_law_marked {P : Program} {w : World} {K : PySem.W.Frag} {mg : Str → Option Value} {base : Heap} (B : Bi mg)  {k0 n1 : Nat} (hn1 : n1 ≤ 50) {self : Sp} (hself : ∀ n0, n1 = n0 + 1 → ∀ v d S H Q E, MkOk K H n0 v d S → MarkQ S H Q → self [v] H Q E) (c_law_marked : Cal P w K mg base k0 "_law_marked" ["told"] self) (h : Has K mg "_law_marked" s_law_marked ["told"]) :
    Cal P w K mg base (k0 + 1) "_law_marked" ["told"] (sMk K n1) := by
  --RAW
  obtain ⟨f, fd, F, hmg, bd⟩ := h
  refine ⟨f, fd, hmg, kq_of F, bd, fn_g0 F sc_law_marked (fun vs H Q E h => ?_) fun cdv A outer s H vs Q E hg hr h => ⟨_, (pss_cons (ps_if (pt_val (pe_callB (isiK K) (by rfl) B.isinstance (by decide +kernel) (pa_cons (pv 0) (pa_cons (pe_bltn (v := .ty "list") (by rfl) B.list (by decide +kernel) rfl) pa_nil)))) (pss_cons (ps_if (PW.pt (pw_and (pt_cmpR (neK K hr) (pv 0) (pe_lst pa_nil) (nomark _)) (pw_and1 (pt_cmpR (eqK K hr) (pe_ix (ixK K) (pv 0) (pe_un un_neg pe_int) (fun _ _ => rfl)) pe_str (nomark _))))) (pss_one (ps_ret pe_bl)) pss_nil)
      (pss_cons (ps_setLc (i := 1) (own := [("item", 2)]) (g := (gName 2)) rfl sc_law_marked.nd rfl rfl (sw_true rfl rfl rfl (by decide +kernel)) (pi_or (pi_listK K (pv 0)) (pi_tupK K (pv 0))) (blkOk_by (N := ["told", "kept", "item"]) (sc := defScope s_law_marked) (own := [("item", 2)]) (by decide +kernel)) (fun _ _ _ _ _ => pg_name (i := 2) sc_law_marked.nd rfl (Or.inl rfl)) (fun _ _ _ _ _ => pts_nil) (fun _ _ _ _ _ => (pg_cal (hj := Nat.le_refl _) hg c_law_marked hr (by rfl) (pa_cons (pv 2) pa_nil))))
      (pss_cons (ps_expr (pe_bm PySem.F.plainAttrs_list PySem.F.slot_list_append PySem.F.type_list_append mt_append (pv 0) (pa_cons pe_str pa_nil)))
      (pss_one (ps_ret (pe_cmpR (ninK K) pe_bl (pv 1) (by rfl))))))) pss_nil)
      (pss_one (ps_ret (pe_or (pe_not (pe_callB (isiK K) (by rfl) B.isinstance (by decide +kernel) (pa_cons (pv 0) (pa_cons (pe_bltn (v := .ty "tuple") (by rfl) B.tuple (by decide +kernel) rfl) pa_nil)))) (pe_one (pe_cmpR (ninK K) pe_bl (pe_lc (own := [("item", 2)]) (g := (gName 2)) rfl sc_law_marked.nd (pi_or (pi_listK K (pv 0)) (pi_tupK K (pv 0))) (blkOk_by (N := ["told", "kept", "item"]) (sc := defScope s_law_marked) (own := [("item", 2)]) (by decide +kernel)) (fun _ _ _ _ _ => pg_name (i := 2) sc_law_marked.nd rfl (Or.inl rfl)) (fun _ _ _ _ _ => pts_nil) (fun _ _ _ _ _ => (pg_cal (hj := Nat.le_refl _) hg c_law_marked hr (by rfl) (pa_cons (pv 2) pa_nil)))) (by rfl))))))), ?_⟩⟩
  · obtain ⟨v, d, S, rfl, _⟩ := h
    rfl
  obtain ⟨v, d, S, rfl, m, q⟩ := h
  have e0 : EnvOk K H [some v, none, none] [some d, none, none] := env_start (N := ["told", "kept", "item"]) (.cons m.da .nil)
  have s0 : Same H H := Same.refl H
  refine seq_go (if_go (eb_B (ev_isi (ev_var rfl) (kit_list d)) _ _ _ e0 s0 _ fun B1 H1 g1 => ?_))
  have mpl := m.pl
  cases m with
  | int i =>
    refine iteF (nxt_go (ret_go (ev_or (a := true) (ev_not (ev_isi (ev_var rfl) (kit_tuple (.int i))) rfl) (fun h => nomatch h) (fun _ => rfl) _ _ _ (e0.mono g1.bb) g1.sub _ fun v B2 H2 g2 hv => ?_)))
    cases hv
    exact q H2 fun b o _ e => g2.ex b o (g1.ex b o e)
  | @tup _ a xs ds S hT hz ms =>
    refine iteF (nxt_go (ret_go (orv_go (ev_not (ev_isi (ev_var rfl) (kit_tuple (.tuple ds))) rfl _ _ _ (e0.mono g1.bb) g1.sub _ fun v B2 H2 g2 hv => ?_))))
    cases hv
    have ex : Same H H2 := g1.ex.trans g2.ex
    have ms2 := ms.keep (T := []) (.of ex) (fun x hx => by simp at hx) fun x _ z => by simp at z
    have hT2 : SqT K H2 a xs := same_t ex hT
    refine ⟨false, rfl, iteF (opc_go (mk_tT (i := 2) (fun v d S H Q m k => hself _ rfl v d S H Q _ m k) rfl hT2 (by show 2 < 3; decide) ms2 hz fun D H' k hD hDl => ?_))⟩
    refine ⟨D, _, rfl, .inl (.of hDl), rfl, rep_flat _, ?_⟩
    rw [rep_noF]
    exact q H' fun b o nb e => k b o nb (ex b o e)
  | @lst _ a xs ds S hL hz ms na =>
    have hl := ms.len
    refine iteT (seq_go (if_go (eb_and (a := !PyData.eqv (.list ds) (.list [])) (b := false) (eb_test (ev_op (ev_var rfl) (ev_lst el_nil (by decide)) (opp_neD ?_ rfl rfl))) (fun hne => ?_) (fun _ => rfl) _ _ _ (e0.mono g1.bb) g1.sub _ fun B2 H2 g2 => iteF (nxt_go ?_))))
    · unfold SeqAt.shaped
      rw [mpl.1, decide_eq_true (by have := mpl.2.1; omega)]
      rfl
    · have dne : ds ≠ [] := fun e => by
        rw [e] at hne
        simp [PyData.eqv, PyData.eqvAll] at hne
      have lp : ds.length - 1 < ds.length := by have := List.length_pos_iff.mpr dne; omega
      have hlast : ds.getLast? = some ds[ds.length - 1] := by rw [List.getLast?_eq_getElem?, List.getElem?_eq_getElem lp]
      obtain ⟨w, T, mw⟩ := ms.mem _ (List.getElem_mem lp)
      have wpl := mw.pl
      refine eb_test (ev_op (ev_op (ev_var rfl) (y := .int (-1)) (ev_un ev_int fun B H s u hu Q q => ?_) (opp_1 (opp_last hlast))) ev_str (opp_eqD ?_ (sh_str (by decide +kernel)) ?_))
      · cases hu
        exact ⟨_, rfl, q _ B H (.refl s) (.int _)⟩
      · unfold SeqAt.shaped
        rw [wpl.1, decide_eq_true (by have := wpl.2.1; omega)]
        rfl
      · rw [wpl.2.2]
    have ex : Same H H2 := g1.ex.trans g2.ex
    have ms2 := ms.keep (T := []) (.of ex) (fun x hx => by simp at hx) fun x _ z => by simp at z
    have hL2 : H2 a = some (.lst xs) := ex _ _ hL
    refine seq_go (asg_go (mk_tL (i := 2) (fun v d S H Q m k => hself _ rfl v d S H Q _ m k) rfl hL2 na (by show 2 < 3; decide) ms2 hz fun D H' k hD hDl => ?_))
    have hL3 : H' a = some (.lst xs) := k _ _ na hL2
    have aD : D ≠ a := fun z => by rw [z, hL2] at hD; cases hD
    refine seq_go ⟨_, rfl, .inl ⟨rfl, _, .of hL3⟩, a, xs, _, rfl, rfl, hL3, by rw [sizeLine_eq]; omega, _, rfl, D, _, rfl, .inl (.of (by rw [upd_ne aD]; exact hDl)), rfl, rep_flat _, ?_⟩
    rw [rep_noF]
    refine q _ fun b o nb e => ?_
    rw [upd_ne fun z => nb (by rw [z]; exact List.mem_cons_self ..)]
    exact k b o (fun z => nb (List.mem_cons_of_mem _ z)) (ex b o e)
end K08
end
section
set_option maxRecDepth 100000
set_option maxHeartbeats 4000000
namespace K08
open PySem PySem.Spec PyProof.Rows L2 G Lin
local macro_rules | `(tactic| walk_at "ev") => `(tactic| first
  | exact ev_var rfl | exact ev_int | exact ev_bl | exact ev_non | exact ev_str
  | (apply ev_op; (focus walk_at "ev"); (focus walk_at "ev"); (focus walk_at "op"))
  | (apply ev_cb; (focus walk_at "el"); (focus walk_at "fn"))
  | (apply ev_lst; (focus walk_at "el"); (show _ ≤ sizeLine; decide))
  | (apply ev_tup; (focus walk_at "el"); (show _ ≤ sizeLine; decide)))
local macro_rules | `(tactic| walk_at "el") => `(tactic| first
  | exact el_nil
  | (apply el_cons; (focus walk_at "ev"); (focus walk_at "el")))
local macro_rules | `(tactic| walk_at "fn") => `(tactic| first
  | exact fn_int | exact fn_len | exact fn_all | exact fn_listL | exact fn_listT)
local macro_rules | `(tactic| walk_at "op") => `(tactic| first
  | exact op_I0 (fun _ => .int _) | exact op_I0 (fun _ => .bl _) | exact opp_1 (op_I0 fun _ => .int _)
  | exact op_I (by show (_ : Int) ≠ 0; decide) (fun _ => .int _)
  | exact op_I (by assumption) (fun _ => .int _)
  | exact opp_1 (op_I (by assumption) fun _ => .int _)
  | exact opp_1 (opp_ixL (i := 0) rfl) | exact opp_2 (opp_ixT (i := 0) rfl) | exact opp_2 (opp_ixT (i := 1) rfl) | exact opp_2 (opp_ixT (i := 2) rfl))
/-! systems turned -/
abbrev SysX := List Int × List (List Int) × Int
def qS (K : PySem.W.Frag) (x : SysX) : QF := SysQ K x.1 x.2.1 x.2.2
theorem aft_qS {K : PySem.W.Frag} (x : SysX) : Aft (qS K x) := aft_sys
theorem aft_qN (x : List (List Int)) : Aft (NestQ x) := aft_nest
def toI : PyData → Int
  | .int i => i
  | _ => 0
def tabIs : PyData → List Int
  | .list ds => ds.map toI
  | _ => []
theorem toI_ints : ∀ cs : List Int, (intsD cs).map toI = cs
  | [] => rfl
  | c :: cs => by
    show c :: (intsD cs).map toI = c :: cs
    rw [toI_ints cs]
theorem tabIs_tabs (ts : List (List Int)) : (tabsD ts).map tabIs = ts := by
  unfold tabsD
  rw [List.map_map]
  have e : (tabIs ∘ fun t => PyData.list (intsD t)) = id := by
    funext t
    exact toI_ints t
  rw [e, List.map_id]
def p_copied (ds : List PyData) (tss : List (List Int)) : Prop := ds = [.list (tabsD tss)] ∧ tss.length ≤ 1000
theorem ar_copied (ds : List PyData) (x : List (List Int)) (h : p_copied ds x) : ds.length = 1 := by obtain ⟨rfl, _⟩ := h; rfl
theorem idx_at : ∀ {l : List Int} {i : Nat} {x : Int}, l.Nodup → l[i]? = some x → l.idxOf x = i
  | [], _, _, _, h => by simp at h
  | y :: l, 0, x, _, h => by
    have : y = x := by simpa using h
    subst this
    simp [List.idxOf_cons]
  | y :: l, i + 1, x, nd, h => by
    have nd' := List.nodup_cons.mp nd
    have h' : l[i]? = some x := by simpa using h
    have ne : y ≠ x := fun e => nd'.1 (e ▸ List.mem_of_getElem? h')
    have ih := idx_at nd'.2 h'
    rw [List.idxOf_cons]
    rw [show (y == x) = false from beq_eq_false_iff_ne.mpr ne, ih]
    rfl
/-- the table with its signs written by other names -/
def renT (names t : List Int) : List Int := (rgI t.length).map fun m => t.getD (names.idxOf m) 0
def Ren (names t rs : List Int) : Prop := rs.length = t.length ∧ ∀ (i : Nat) (e m : Int), t[i]? = some e → names[i]? = some m → rs[m.toNat]? = some e
theorem rg_at {n i : Nat} (h : i < n) : (rgI n)[i]? = some (i : Int) := by
  rw [rgI, List.getElem?_map, List.getElem?_range h]
  rfl
theorem rg_nodup (n : Nat) : (rgI n).Nodup := List.pairwise_map.mpr (List.nodup_range.imp fun {a b} h => by omega)
theorem perm_at {names : List Int} {n : Nat} (h : names.Perm (rgI n)) {m : Int} (h0 : 0 ≤ m) (h1 : m < (n : Int)) : ∃ i : Nat, i < n ∧ names[i]? = some m := by
  have hm : m ∈ names := h.mem_iff.mpr (List.mem_map.mpr ⟨m.toNat, List.mem_range.mpr (by omega), by omega⟩)
  obtain ⟨i, hi⟩ := List.mem_iff_getElem?.mp hm
  have l := (List.getElem?_eq_some_iff.mp hi).1
  rw [h.length_eq, rg_len] at l
  exact ⟨i, l, hi⟩
theorem perm_in {names : List Int} {n : Nat} (h : names.Perm (rgI n)) {i : Nat} {m : Int} (hi : names[i]? = some m) : 0 ≤ m ∧ m < (n : Int) := by
  obtain ⟨j, hj, rfl⟩ := List.mem_map.mp (h.mem_iff.mp (List.mem_of_getElem? hi))
  have := List.mem_range.mp hj
  omega
theorem ren_len (names t : List Int) : (renT names t).length = t.length := by rw [renT, List.length_map, rg_len]
theorem ren_get {names t : List Int} {j : Nat} (h : j < t.length) : (renT names t)[j]? = some (t.getD (names.idxOf (j : Int)) 0) := by
  rw [renT, List.getElem?_map, rg_at h]
  rfl
theorem ren_ok {names t : List Int} (h : names.Perm (rgI t.length)) : Ren names t (renT names t) := by
  refine ⟨ren_len names t, fun i e m h1 h2 => ?_⟩
  have r := perm_in h h2
  have e1 : ((m.toNat : Nat) : Int) = m := Int.toNat_of_nonneg r.1
  rw [ren_get (j := m.toNat) (by omega), e1, idx_at (h.nodup_iff.mpr (rg_nodup _)) h2, List.getD_eq_getElem?_getD, h1]
  rfl
theorem ren_uniq {names t rs cur : List Int} (h : names.Perm (rgI t.length)) (a : Ren names t rs) (b : Ren names t cur) : cur = rs := by
  refine List.ext_getElem? fun j => ?_
  by_cases hj : j < t.length
  · obtain ⟨i, hi, hn⟩ := perm_at h (m := (j : Int)) (by omega) (by omega)
    have ht : t[i]? = some t[i] := List.getElem?_eq_getElem hi
    have x := a.2 i _ _ ht hn
    have y := b.2 i _ _ ht hn
    rw [Int.toNat_natCast] at x y
    rw [x, y]
  · rw [List.getElem?_eq_none (by rw [b.1]; omega), List.getElem?_eq_none (by rw [a.1]; omega)]
def p_renamed_table (ds : List PyData) (d : PyData) : Prop := ∃ (t names : List Int), ds = [.list (intsD t), .list (intsD names)] ∧ names.Perm (rgI t.length) ∧ t.length ≤ 1000 ∧ d = .list (intsD (renT names t))
theorem ar_renamed_table (ds : List PyData) (x : PyData) (h : p_renamed_table ds x) : ds.length = 2 := by obtain ⟨_, _, rfl, _⟩ := h; rfl
def p_check_member (ds : List PyData) (d : PyData) : Prop := ∃ os m, ds = [.tuple (intsD os), .int m] ∧ Ords os ∧ 0 ≤ m ∧ m < prodI os ∧ d = .none
theorem ar_check_member (ds : List PyData) (x : PyData) (h : p_check_member ds x) : ds.length = 2 := by obtain ⟨_, _, rfl, _⟩ := h; rfl
def p_with_signs (ds : List PyData) (x : SysX) : Prop := ∃ (os : List Int) (ts : List (List Int)) (tot : Int) (names : List Int), ds = [sysD os ts tot, .list (intsD names)] ∧ Sys os ts tot ∧ names.Perm (rgI (prodI os).toNat) ∧ x = (os, ts.map (renT names), tot)
def p_reordered (ds : List PyData) (x : SysX) : Prop := ∃ (os : List Int) (ts : List (List Int)) (tot : Int) (order : List Int), ds = [sysD os ts tot, .list (intsD order)] ∧ Sys os ts tot ∧ order.Perm (rgI ts.length) ∧ x = (os, order.map (fun p => ts.getD p.toNat []), tot)
def shT (os t : List Int) (m : Int) : List Int := t.map fun e => linR os.reverse [e, m] []
def p_added_to (ds : List PyData) (x : SysX) : Prop := ∃ (os : List Int) (ts : List (List Int)) (tot : Int) (p : Nat) (m : Int), ds = [sysD os ts tot, .int p, .int m] ∧ Sys os ts tot ∧ p < ts.length ∧ 0 ≤ m ∧ m < prodI os ∧ x = (os, ts.set p (shT os (ts.getD p []) m), linR os.reverse [tot, m] [])
def p_fixed_at (ds : List PyData) (x : SysX) : Prop := ∃ (os : List Int) (ts : List (List Int)) (tot : Int) (p s : Nat), ds = [sysD os ts tot, .int p, .int s] ∧ Sys os ts tot ∧ 3 ≤ ts.length ∧ p < ts.length ∧ (s : Int) < prodI os ∧ x = (os, ts.eraseIdx p, linR os.reverse [tot] [(ts.getD p []).getD s 0])
def p_put_together (ds : List PyData) (x : SysX) : Prop := ∃ (os : List Int) (ts us : List (List Int)) (tot tot2 : Int), ds = [sysD os ts tot, sysD os us tot2] ∧ Sys os ts tot ∧ Sys os us tot2 ∧ x = (os, ts ++ us, linR os.reverse [tot, tot2] [])
theorem ar_with_signs (ds : List PyData) (x : SysX) (h : p_with_signs ds x) : ds.length = 2 := by obtain ⟨_, _, _, _, rfl, _⟩ := h; rfl
theorem ar_reordered (ds : List PyData) (x : SysX) (h : p_reordered ds x) : ds.length = 2 := by obtain ⟨_, _, _, _, rfl, _⟩ := h; rfl
theorem ar_added_to (ds : List PyData) (x : SysX) (h : p_added_to ds x) : ds.length = 3 := by obtain ⟨_, _, _, _, _, rfl, _⟩ := h; rfl
theorem ar_fixed_at (ds : List PyData) (x : SysX) (h : p_fixed_at ds x) : ds.length = 3 := by obtain ⟨_, _, _, _, _, rfl, _⟩ := h; rfl
theorem ar_put_together (ds : List PyData) (x : SysX) (h : p_put_together ds x) : ds.length = 2 := by obtain ⟨_, _, _, _, _, rfl, _⟩ := h; rfl
theorem tab_nodup {n : Nat} {names : List Int} (h : names.Perm (rgI n)) : names.length = n ∧ (∀ x ∈ names, 0 ≤ x ∧ x < (n : Int)) ∧ names.Nodup := by
  have T := tab_of_perm h
  exact ⟨by have := T.len; omega, T.mem, T.nd⟩
theorem tabs_cat (a b : List (List Int)) : tabsD (a ++ b) = tabsD a ++ tabsD b := List.map_append ..
theorem take_tabs (ts : List (List Int)) (p : Nat) : (tabsD ts).take p = tabsD (ts.take p) := (List.map_take ..).symm
theorem drop_tabs (ts : List (List Int)) (p : Nat) : (tabsD ts).drop p = tabsD (ts.drop p) := (List.map_drop ..).symm
theorem sc_copied : FnScope ["tables", "table"] ["tables"] (defScope s_copied) := ⟨rfl, rfl, rfl, by decide +kernel, rfl, by decide +kernel, by decide +kernel⟩
theorem ok_copied {P : Program} {w : World} {K : PySem.W.Frag} {mg : Str → Option Value} {base : Heap} (B : Bi mg)  (h : Has K mg "copied" s_copied ["tables"]) :
    Cal P w K mg base 1 "copied" ["tables"] (spQ K NestQ p_copied) := by
  --RAW
  refine has_q (qa := NestQ) h sc_copied ar_copied fun f cdv A outer s H E hg hr => ⟨_, (pss_one (ps_ret (pe_lc (own := [("table", 1)]) (g := (gName 1)) rfl sc_copied.nd (pi_or (pi_listK K (pv 0)) (pi_tupK K (pv 0))) (blkOk_by (N := ["tables", "table"]) (sc := defScope s_copied) (own := [("table", 1)]) (by decide +kernel)) (fun _ _ _ _ _ => pg_name (i := 1) sc_copied.nd rfl (Or.inl rfl)) (fun _ _ _ _ _ => pts_nil) (fun _ _ _ _ _ => (pe_callTy (listK K) (by rfl) B.list (by decide +kernel) (pa_cons (pv 1) pa_nil)))))), fun ds tss hp => ?_⟩
  obtain ⟨rfl, hl⟩ := hp
  have q := evn_lc (K := K) (ρ := [some (.list (tabsD tss)), none]) (g := gName 1) (vs := [1]) (te := tCB (rListOf K) (tCons (tVar 1) tNil)) (it_1 (w' := iTup K (tVar 0)) (it_list (ev_var (i := 0) rfl))) (by rw [tabs_len]; omega) tabIs fun e he => by
    obtain ⟨t, _, rfl⟩ := List.mem_map.mp he
    refine ⟨_, tgw_name, ?_⟩
    have e1 : tabIs (.list (intsD t)) = t := toI_ints t
    rw [e1]
    exact evf_list (ev_var rfl)
  rw [tabIs_tabs] at q
  exact doq_ret q
theorem sc_check_member : FnScope ["orders", "member"] ["orders", "member"] (defScope s_check_member) := ⟨rfl, rfl, rfl, by decide +kernel, rfl, by decide +kernel, by decide +kernel⟩
theorem ok_check_member {P : Program} {w : World} {K : PySem.W.Frag} {mg : Str → Option Value} {base : Heap} (B : Bi mg) (c_is_below : Cal P w K mg base 2 "is_below" ["value", "many"] (sp K p_is_below)) (c_size_of : Cal P w K mg base 1 "size_of" ["orders"] (sp K p_size_of)) (h : Has K mg "check_member" s_check_member ["orders", "member"]) :
    Cal P w K mg base 3 "check_member" ["orders", "member"] (sp K p_check_member) := by
  refine has_d h sc_check_member ar_check_member fun f cdv A outer s H E hg hr => ⟨_, (pss_one (ps_if (pt_not (pt_val (pg_cal hg c_is_below hr (by rfl) (pa_cons (pv 1) (pa_cons (pg_cal hg c_size_of hr (by rfl) (pa_cons (pv 0) pa_nil)) pa_nil))))) (pss_one ps_never) pss_nil)), fun ds d hp => ?_⟩
  obtain ⟨os, m, rfl, ho, h0, h1, rfl⟩ := hp
  refine do_if (b := false) (eb_not (a := true) (eb_B (ev_call (el_cons (ev_var rfl) (el_cons (ev_call (el_cons (ev_var rfl) el_nil) ⟨os, rfl, ho, rfl⟩) el_nil)) ⟨_, _, rfl, ?_⟩)) rfl) (fun h => nomatch h) fun _ => do_next rfl
  show PyData.bool true = .bool (decide (0 ≤ m) && decide (m < prodI os))
  rw [decide_eq_true h0, decide_eq_true h1]
  rfl
theorem sc_with_signs : FnScope ["system", "names", "orders", "tables", "total", "table"] ["system", "names"] (defScope s_with_signs) := ⟨rfl, rfl, rfl, by decide +kernel, rfl, by decide +kernel, by decide +kernel⟩
theorem ok_with_signs {P : Program} {w : World} {K : PySem.W.Frag} {mg : Str → Option Value} {base : Heap} (B : Bi mg) (c_renamed_table : Cal P w K mg base 1 "renamed_table" ["table", "names"] (spFr K p_renamed_table)) (c_is_each_once : Cal P w K mg base 4 "is_each_once" ["value", "many"] (sp K p_is_each_once)) (c_size_of : Cal P w K mg base 1 "size_of" ["orders"] (sp K p_size_of)) (c_check_system : Cal P w K mg base 6 "check_system" ["system"] (sp K p_check_system)) (h : Has K mg "with_signs" s_with_signs ["system", "names"]) :
    Cal P w K mg base 7 "with_signs" ["system", "names"] (spQ K (qS K) p_with_signs) := by
  --RAW
  refine has_q (qa := qS K) h sc_with_signs ar_with_signs fun f cdv A outer s H E hg hr => ⟨_, (pss_cons (ps_expr (pg_cal hg c_check_system hr (by rfl) (pa_cons (pv 0) pa_nil)))
      (pss_cons (ps_asg (pv 0) (pg_tup rfl (pgs_cons (pg_name (i := 2) sc_with_signs.nd rfl (Or.inl rfl)) (pgs_cons (pg_name (i := 3) sc_with_signs.nd rfl (Or.inl rfl)) (pgs_cons (pg_name (i := 4) sc_with_signs.nd rfl (Or.inl rfl)) pgs_nil)))))
      (pss_cons (ps_if (pt_not (pt_val (pg_cal hg c_is_each_once hr (by rfl) (pa_cons (pv 1) (pa_cons (pg_cal hg c_size_of hr (by rfl) (pa_cons (pv 2) pa_nil)) pa_nil))))) (pss_one ps_never) pss_nil)
      (pss_one (ps_ret (pe_tup (pa_cons (pv 2) (pa_cons (pe_lc (own := [("table", 5)]) (g := (gName 5)) rfl sc_with_signs.nd (pi_or (pi_listK K (pv 3)) (pi_tupK K (pv 3))) (blkOk_by (N := ["system", "names", "orders", "tables", "total", "table"]) (sc := defScope s_with_signs) (own := [("table", 5)]) (by decide +kernel)) (fun _ _ _ _ _ => pg_name (i := 5) sc_with_signs.nd rfl (Or.inl rfl)) (fun _ _ _ _ _ => pts_nil) (fun _ _ _ _ _ => (pg_cal hg c_renamed_table hr (by rfl) (pa_cons (pv 5) (pa_cons (pv 1) pa_nil))))) (pa_cons (pv 4) pa_nil))))))))), fun ds x hp => ?_⟩
  obtain ⟨os, ts, tot, names, rfl, hs, hn, rfl⟩ := hp
  have h4 := hs.few
  have pp := (prod_take_le hs.ord os.length).2
  rw [List.take_length] at pp
  have p0 := prod_pos hs.ord.2.1
  have nn : ((prodI os).toNat : Int) = prodI os := by omega
  obtain ⟨n1, n2, n3⟩ := tab_nodup hn
  refine doq_drop aft_sys (ev_call (el_cons (ev_var rfl) el_nil) ⟨os, ts, tot, rfl, hs, rfl⟩) ?_
  refine doq_asg (d := sysD os ts tot) aft_sys (by exact ev_var rfl) (by exact tg_tup rfl (tgs_cons tg_name (tgs_cons tg_name (tgs_cons tg_name tgs_nil)))) ?_
  refine doq_skip aft_sys (eb_not (a := true) (eb_B (ev_call (el_cons (ev_var rfl) (el_cons (ev_call (el_cons (ev_var rfl) el_nil) ⟨os, rfl, hs.ord, rfl⟩) el_nil)) ⟨names, (prodI os).toNat, by rw [nn], n1, by omega, n2, n3, rfl⟩)) rfl) ?_
  have e : (tabsD ts).map (fun e => renT names (tabIs e)) = ts.map (renT names) := by
    show (tabsD ts).map (renT names ∘ tabIs) = _
    rw [← List.map_map, tabIs_tabs]
  refine doq_ret (evs_tup (ev_var rfl) ?_ (ev_var rfl))
  show EvQ K (NestQ (ts.map (renT names))) _ _
  rw [← e]
  refine evn_lc (it_1 (it_list (ev_var rfl))) (by rw [tabs_len]; omega) _ fun e he => ?_
  obtain ⟨t, ht, rfl⟩ := List.mem_map.mp he
  have T := hs.tabs t ht
  refine ⟨_, tgw_name, evf_call (el_cons (ev_var rfl) (el_cons (ev_var rfl) el_nil)) ⟨t, names, rfl, ?_, by have := T.len; omega, ?_⟩⟩
  · rw [show t.length = (prodI os).toNat by have := T.len; omega]
    exact hn
  · show PyData.list (intsD (renT names (tabIs (.list (intsD t))))) = _
    rw [show tabIs (.list (intsD t)) = t from toI_ints t]
theorem sc_reordered : FnScope ["system", "places", "orders", "tables", "total", "place"] ["system", "places"] (defScope s_reordered) := ⟨rfl, rfl, rfl, by decide +kernel, rfl, by decide +kernel, by decide +kernel⟩
theorem ok_reordered {P : Program} {w : World} {K : PySem.W.Frag} {mg : Str → Option Value} {base : Heap} (B : Bi mg) (c_is_each_once : Cal P w K mg base 4 "is_each_once" ["value", "many"] (sp K p_is_each_once)) (c_check_system : Cal P w K mg base 6 "check_system" ["system"] (sp K p_check_system)) (h : Has K mg "reordered" s_reordered ["system", "places"]) :
    Cal P w K mg base 7 "reordered" ["system", "places"] (spQ K (qS K) p_reordered) := by
  --RAW
  refine has_q (qa := qS K) h sc_reordered ar_reordered fun f cdv A outer s H E hg hr => ⟨_, (pss_cons (ps_expr (pg_cal hg c_check_system hr (by rfl) (pa_cons (pv 0) pa_nil)))
      (pss_cons (ps_asg (pv 0) (pg_tup rfl (pgs_cons (pg_name (i := 2) sc_reordered.nd rfl (Or.inl rfl)) (pgs_cons (pg_name (i := 3) sc_reordered.nd rfl (Or.inr rfl)) (pgs_cons (pg_name (i := 4) sc_reordered.nd rfl (Or.inl rfl)) pgs_nil)))))
      (pss_cons (ps_if (pt_not (pt_val (pg_cal hg c_is_each_once hr (by rfl) (pa_cons (pv 1) (pa_cons (pe_callB (lenK K) (by rfl) B.len PySem.boot_len (pa_cons (pv 3) pa_nil)) pa_nil))))) (pss_one ps_never) pss_nil)
      (pss_one (ps_ret (pe_tup (pa_cons (pv 2) (pa_cons (pe_lc (own := [("place", 5)]) (g := (gName 5)) rfl sc_reordered.nd (pi_or (pi_listK K (pv 1)) (pi_tupK K (pv 1))) (blkOk_by (N := ["system", "places", "orders", "tables", "total", "place"]) (sc := defScope s_reordered) (own := [("place", 5)]) (by decide +kernel)) (fun _ _ _ _ _ => pg_name (i := 5) sc_reordered.nd rfl (Or.inl rfl)) (fun _ _ _ _ _ => pts_nil) (fun _ _ _ _ _ => (pe_callTy (listK K) (by rfl) B.list (by decide +kernel) (pa_cons (pe_ix (ixK K) (pv 3) (pv 5) (fun _ _ => rfl)) pa_nil)))) (pa_cons (pv 4) pa_nil))))))))), fun ds x hp => ?_⟩
  obtain ⟨os, ts, tot, order, rfl, hs, hn, rfl⟩ := hp
  have h4 := hs.few
  obtain ⟨n1, n2, n3⟩ := tab_nodup hn
  refine doq_drop aft_sys (ev_call (el_cons (ev_var rfl) el_nil) ⟨os, ts, tot, rfl, hs, rfl⟩) ?_
  refine doq_asg (d := sysD os ts tot) aft_sys (by exact ev_var rfl) (by exact tg_tup rfl (tgs_cons tg_name (tgs_cons tg_name (tgs_cons tg_name tgs_nil)))) ?_
  refine doq_skip aft_sys (eb_not (a := true) (eb_B (ev_call (el_cons (ev_var rfl) (el_cons (ev_cb (el_cons (ev_var rfl) el_nil) fn_len) el_nil)) ⟨order, ts.length, by rw [tabs_len], n1, by omega, n2, n3, rfl⟩)) rfl) ?_
  have e : (intsD order).map (fun e => ts.getD (toI e).toNat []) = order.map (fun p => ts.getD p.toNat []) := by
    rw [intsD, List.map_map]
    rfl
  refine doq_ret (evs_tup (ev_var rfl) ?_ (ev_var rfl))
  show EvQ K (NestQ (order.map (fun p => ts.getD p.toNat []))) _ _
  rw [← e]
  refine evn_lc (it_1 (it_list (ev_var rfl))) (by rw [ints_len]; omega) _ fun e he => ?_
  obtain ⟨p, hp, rfl⟩ := List.mem_map.mp he
  have b := n2 p hp
  have lt : p.toNat < ts.length := by omega
  have ht : ts[p.toNat]? = some (ts.getD p.toNat []) := by rw [List.getD_eq_getElem?_getD, List.getElem?_eq_getElem lt]; rfl
  have ep : ((p.toNat : Nat) : Int) = p := Int.toNat_of_nonneg b.1
  refine ⟨_, tgw_name, evf_list (ev_op (ev_var rfl) (y := .int ((p.toNat : Nat) : Int)) ?_ (opp_1 (opp_ixL (at_tabs ht))))⟩
  rw [ep]
  exact ev_var rfl
theorem sc_fixed_at : FnScope ["system", "place", "sign", "orders", "tables", "total"] ["system", "place", "sign"] (defScope s_fixed_at) := ⟨rfl, rfl, rfl, by decide +kernel, rfl, by decide +kernel, by decide +kernel⟩
theorem ok_fixed_at {P : Program} {w : World} {K : PySem.W.Frag} {mg : Str → Option Value} {base : Heap} (B : Bi mg) (c_minus : Cal P w K mg base 1 "minus" ["orders", "member", "other"] (sp K p_minus)) (c_copied : Cal P w K mg base 1 "copied" ["tables"] (spQ K NestQ p_copied)) (c_is_below : Cal P w K mg base 2 "is_below" ["value", "many"] (sp K p_is_below)) (c_size_of : Cal P w K mg base 1 "size_of" ["orders"] (sp K p_size_of)) (c_check_place : Cal P w K mg base 3 "check_place" ["system", "place"] (sp K p_check_place)) (c_check_system : Cal P w K mg base 6 "check_system" ["system"] (sp K p_check_system)) (h : Has K mg "fixed_at" s_fixed_at ["system", "place", "sign"]) :
    Cal P w K mg base 7 "fixed_at" ["system", "place", "sign"] (spQ K (qS K) p_fixed_at) := by
  --RAW
  refine has_q (qa := qS K) h sc_fixed_at ar_fixed_at fun f cdv A outer s H E hg hr => ⟨_, (pss_cons (ps_expr (pg_cal hg c_check_system hr (by rfl) (pa_cons (pv 0) pa_nil)))
      (pss_cons (ps_expr (pg_cal hg c_check_place hr (by rfl) (pa_cons (pv 0) (pa_cons (pv 1) pa_nil))))
      (pss_cons (ps_asg (pv 0) (pg_tup rfl (pgs_cons (pg_name (i := 3) sc_fixed_at.nd rfl (Or.inl rfl)) (pgs_cons (pg_name (i := 4) sc_fixed_at.nd rfl (Or.inl rfl)) (pgs_cons (pg_name (i := 5) sc_fixed_at.nd rfl (Or.inl rfl)) pgs_nil)))))
      (pss_cons (ps_if (pt_not (pt_val (pg_cal hg c_is_below hr (by rfl) (pa_cons (pv 2) (pa_cons (pg_cal hg c_size_of hr (by rfl) (pa_cons (pv 3) pa_nil)) pa_nil))))) (pss_one ps_never) pss_nil)
      (pss_cons (ps_if (pt_cmpR (eqK K hr) (pe_callB (lenK K) (by rfl) B.len PySem.boot_len (pa_cons (pv 4) pa_nil)) pe_int (nomark _)) (pss_one ps_never) pss_nil)
      (pss_one (ps_ret (pe_tup (pa_cons (pv 3) (pa_cons (pg_cal hg c_copied hr (by rfl) (pa_cons (pe_op (addK K) (pe_slice (slK K) (pv 4) po_none (po_some (pv 1))) (pe_slice (slK K) (pv 4) (po_some (pe_op (addK K) (pv 1) pe_int)) po_none)) pa_nil)) (pa_cons (pg_cal hg c_minus hr (by rfl) (pa_cons (pv 3) (pa_cons (pv 5) (pa_cons (pe_ix (ixK K) (pe_ix (ixK K) (pv 4) (pv 1) (fun _ _ => rfl)) (pv 2) (fun _ _ => rfl)) pa_nil)))) pa_nil))))))))))), fun ds x hp => ?_⟩
  obtain ⟨os, ts, tot, p, sg, rfl, hs, h3, hp, hsg, rfl⟩ := hp
  have h4 := hs.few
  have ht : ts[p]? = some (ts.getD p []) := by rw [List.getD_eq_getElem?_getD, List.getElem?_eq_getElem hp]; rfl
  have T := hs.tabs _ (List.mem_of_getElem? ht)
  refine doq_drop aft_sys (ev_call (el_cons (ev_var rfl) el_nil) ⟨os, ts, tot, rfl, hs, rfl⟩) ?_
  refine doq_drop aft_sys (ev_call (el_cons (ev_var rfl) (el_cons (ev_var rfl) el_nil)) ⟨os, ts, tot, p, rfl, hs, by omega, by omega, rfl⟩) ?_
  refine doq_asg (d := sysD os ts tot) aft_sys (by exact ev_var rfl) (by exact tg_tup rfl (tgs_cons tg_name (tgs_cons tg_name (tgs_cons tg_name tgs_nil)))) ?_
  refine doq_skip aft_sys (eb_not (a := true) (eb_B (ev_call (el_cons (ev_var rfl) (el_cons (ev_call (el_cons (ev_var rfl) el_nil) ⟨os, rfl, hs.ord, rfl⟩) el_nil)) ⟨_, _, rfl, ?_⟩)) rfl) ?_
  · show PyData.bool true = .bool (decide (0 ≤ (sg : Int)) && decide ((sg : Int) < prodI os))
    rw [decide_eq_true (by omega), decide_eq_true hsg]
    rfl
  refine doq_skip aft_sys (eb_test (ev_op (ev_cb (el_cons (ev_var rfl) el_nil) fn_len) ev_int (opp_eqD (sh_int _) (sh_int _) ?_))) ?_
  · rw [eqv_int, tabs_len]
    have : (((ts.length : Nat) : Int) == 2) = false := beq_eq_false_iff_ne.mpr (by omega)
    rw [this]
  have ecut : (tabsD ts).take p ++ (tabsD ts).drop (p + 1) = tabsD (ts.eraseIdx p) := by
    rw [take_tabs, drop_tabs, ← tabs_cat, ← List.eraseIdx_eq_take_drop_succ]
  have e1 : ((p : Int) + 1) = ((p + 1 : Nat) : Int) := by omega
  have le1 : (ts.eraseIdx p).length ≤ 1000 := by rw [List.length_eraseIdx_of_lt hp]; omega
  refine doq_ret (evs_tup (ev_var rfl) (evq_call aft_qN (x := ts.eraseIdx p) (el_cons (d := .list (tabsD (ts.eraseIdx p))) ?_ el_nil) ⟨rfl, le1⟩) (ev_call (el_cons (ev_var rfl) (el_cons (ev_var rfl) (el_cons (ev_op (ev_op (ev_var rfl) (ev_var rfl) (opp_1 (opp_ixL (at_tabs ht)))) (ev_var rfl) (opp_1 (opp_ixL (get_ints ?_)))) el_nil))) ⟨os, _, _, rfl, hs.ord, rfl⟩))
  · rw [← ecut]
    refine ev_op (ev_to (p := p) (ev_var rfl) (ev_var rfl) (by rw [tabs_len]; omega)) (ev_fr (p := p + 1) (ev_var rfl) (by rw [← e1]; exact ev_op (ev_var rfl) ev_int (opp_1 (op_I0 fun _ => .int _))) (by rw [tabs_len]; omega)) (opp_2 (opp_1 (opp_cat ?_)))
    rw [List.length_take, List.length_drop, tabs_len, sizeLine_eq]
    omega
  · have := T.len
    omega
theorem sc_put_together : FnScope ["system", "other", "orders", "tables", "total"] ["system", "other"] (defScope s_put_together) := ⟨rfl, rfl, rfl, by decide +kernel, rfl, by decide +kernel, by decide +kernel⟩
theorem ok_put_together {P : Program} {w : World} {K : PySem.W.Frag} {mg : Str → Option Value} {base : Heap} (B : Bi mg) (c_plus : Cal P w K mg base 1 "plus" ["orders", "member", "other"] (sp K p_plus)) (c_copied : Cal P w K mg base 1 "copied" ["tables"] (spQ K NestQ p_copied)) (c_check_system : Cal P w K mg base 6 "check_system" ["system"] (sp K p_check_system)) (h : Has K mg "put_together" s_put_together ["system", "other"]) :
    Cal P w K mg base 7 "put_together" ["system", "other"] (spQ K (qS K) p_put_together) := by
  --RAW
  refine has_q (qa := qS K) h sc_put_together ar_put_together fun f cdv A outer s H E hg hr => ⟨_, (pss_cons (ps_expr (pg_cal hg c_check_system hr (by rfl) (pa_cons (pv 0) pa_nil)))
      (pss_cons (ps_expr (pg_cal hg c_check_system hr (by rfl) (pa_cons (pv 1) pa_nil)))
      (pss_cons (ps_asg (pv 0) (pg_tup rfl (pgs_cons (pg_name (i := 2) sc_put_together.nd rfl (Or.inl rfl)) (pgs_cons (pg_name (i := 3) sc_put_together.nd rfl (Or.inl rfl)) (pgs_cons (pg_name (i := 4) sc_put_together.nd rfl (Or.inl rfl)) pgs_nil)))))
      (pss_cons (ps_if (pt_cmpR (neK K hr) (pe_ix (ixK K) (pv 1) pe_int (fun _ _ => rfl)) (pv 2) (nomark _)) (pss_one ps_never) pss_nil)
      (pss_one (ps_ret (pe_tup (pa_cons (pv 2) (pa_cons (pg_cal hg c_copied hr (by rfl) (pa_cons (pe_op (addK K) (pv 3) (pe_ix (ixK K) (pv 1) pe_int (fun _ _ => rfl))) pa_nil)) (pa_cons (pg_cal hg c_plus hr (by rfl) (pa_cons (pv 2) (pa_cons (pv 4) (pa_cons (pe_ix (ixK K) (pv 1) pe_int (fun _ _ => rfl)) pa_nil)))) pa_nil)))))))))), fun ds x hp => ?_⟩
  obtain ⟨os, ts, us, tot, tot2, rfl, hs, hs2, rfl⟩ := hp
  have h4 := hs.few
  have h5 := hs2.few
  have plo : Pl (.tuple (intsD os)) := by
    have hl := ords_len hs.ord
    refine ⟨pl_tuple (pl_ints fun x hx => ?_), ?_, ?_⟩
    · have := ord_le hs.ord hx
      omega
    · have : (PyData.tuple (intsD os)).depth ≤ 0 + 1 := depth_tuple (depth_ints os)
      omega
    · have : (PyData.tuple (intsD os)).bulk ≤ (os.map PyData.int).length * (0 + 1) := bulk_tuple (bulk_ints os)
      rw [List.length_map] at this
      omega
  refine doq_drop aft_sys (ev_call (el_cons (ev_var rfl) el_nil) ⟨os, ts, tot, rfl, hs, rfl⟩) ?_
  refine doq_drop aft_sys (ev_call (el_cons (ev_var rfl) el_nil) ⟨os, us, tot2, rfl, hs2, rfl⟩) ?_
  refine doq_asg (d := sysD os ts tot) aft_sys (by exact ev_var rfl) (by exact tg_tup rfl (tgs_cons tg_name (tgs_cons tg_name (tgs_cons tg_name tgs_nil)))) ?_
  refine doq_skip aft_sys (eb_test (ev_op (ev_op (ev_var rfl) ev_int (opp_2 (opp_ixT (i := 0) rfl))) (ev_var rfl) (ne_self plo))) ?_
  refine doq_ret (evs_tup (ev_var rfl) (evq_call aft_qN (x := ts ++ us) (el_cons (d := .list (tabsD (ts ++ us))) ?_ el_nil) ⟨rfl, by rw [List.length_append]; omega⟩) (ev_call (el_cons (ev_var rfl) (el_cons (ev_var rfl) (el_cons (ev_op (ev_var rfl) ev_int (opp_2 (opp_ixT (i := 2) rfl))) el_nil))) ⟨os, _, _, rfl, hs.ord, rfl⟩))
  rw [tabs_cat]
  refine ev_op (ev_var rfl) (ev_op (ev_var rfl) ev_int (opp_2 (opp_ixT (i := 1) rfl))) (opp_2 (opp_1 (opp_cat ?_)))
  rw [tabs_len, tabs_len, sizeLine_eq]
  omega
theorem sc_added_to : FnScope ["system", "place", "member", "orders", "tables", "total", "moved", "entry"] ["system", "place", "member"] (defScope s_added_to) := ⟨rfl, rfl, rfl, by decide +kernel, rfl, by decide +kernel, by decide +kernel⟩
theorem ok_added_to {P : Program} {w : World} {K : PySem.W.Frag} {mg : Str → Option Value} {base : Heap} (B : Bi mg) (c_plus : Cal P w K mg base 1 "plus" ["orders", "member", "other"] (sp K p_plus)) (c_copied : Cal P w K mg base 1 "copied" ["tables"] (spQ K NestQ p_copied)) (c_check_member : Cal P w K mg base 3 "check_member" ["orders", "member"] (sp K p_check_member)) (c_check_place : Cal P w K mg base 3 "check_place" ["system", "place"] (sp K p_check_place)) (c_check_system : Cal P w K mg base 6 "check_system" ["system"] (sp K p_check_system)) (h : Has K mg "added_to" s_added_to ["system", "place", "member"]) :
    Cal P w K mg base 7 "added_to" ["system", "place", "member"] (spQ K (qS K) p_added_to) := by
  --RAW
  refine has_q (qa := qS K) h sc_added_to ar_added_to fun f cdv A outer s H E hg hr => ⟨_, (pss_cons (ps_expr (pg_cal hg c_check_system hr (by rfl) (pa_cons (pv 0) pa_nil)))
      (pss_cons (ps_expr (pg_cal hg c_check_place hr (by rfl) (pa_cons (pv 0) (pa_cons (pv 1) pa_nil))))
      (pss_cons (ps_asg (pv 0) (pg_tup rfl (pgs_cons (pg_name (i := 3) sc_added_to.nd rfl (Or.inr rfl)) (pgs_cons (pg_name (i := 4) sc_added_to.nd rfl (Or.inl rfl)) (pgs_cons (pg_name (i := 5) sc_added_to.nd rfl (Or.inl rfl)) pgs_nil)))))
      (pss_cons (ps_expr (pg_cal hg c_check_member hr (by rfl) (pa_cons (pv 3) (pa_cons (pv 2) pa_nil))))
      (pss_cons (ps_set (i := 6) sc_added_to.nd rfl (Or.inl rfl) (pg_cal hg c_copied hr (by rfl) (pa_cons (pv 4) pa_nil)))
      (pss_cons (ps_asg (pe_lc (own := [("entry", 7)]) (g := (gName 7)) rfl sc_added_to.nd (pi_or (pi_listK K (pe_ix (ixK K) (pv 4) (pv 1) (fun _ _ => rfl))) (pi_tupK K (pe_ix (ixK K) (pv 4) (pv 1) (fun _ _ => rfl)))) (blkOk_by (N := ["system", "place", "member", "orders", "tables", "total", "moved", "entry"]) (sc := defScope s_added_to) (own := [("entry", 7)]) (by decide +kernel)) (fun _ _ _ _ _ => pg_name (i := 7) sc_added_to.nd rfl (Or.inl rfl)) (fun _ _ _ _ _ => pts_nil) (fun _ _ _ _ _ => (pg_cal hg c_plus hr (by rfl) (pa_cons (pv 3) (pa_cons (pv 7) (pa_cons (pv 2) pa_nil)))))) (pg_sub (pv 6) (pv 1) set_list))
      (pss_one (ps_ret (pe_tup (pa_cons (pv 3) (pa_cons (pv 6) (pa_cons (pg_cal hg c_plus hr (by rfl) (pa_cons (pv 3) (pa_cons (pv 5) (pa_cons (pv 2) pa_nil)))) pa_nil)))))))))))), fun ds x hp => ?_⟩
  obtain ⟨os, ts, tot, p, m, rfl, hs, hp, m0, m1, rfl⟩ := hp
  have h4 := hs.few
  have ht : ts[p]? = some (ts.getD p []) := by rw [List.getD_eq_getElem?_getD, List.getElem?_eq_getElem hp]; rfl
  have T := hs.tabs _ (List.mem_of_getElem? ht)
  have pp := (prod_take_le hs.ord os.length).2
  rw [List.take_length] at pp
  refine doq_drop aft_sys (ev_call (el_cons (ev_var rfl) el_nil) ⟨os, ts, tot, rfl, hs, rfl⟩) ?_
  refine doq_drop aft_sys (ev_call (el_cons (ev_var rfl) (el_cons (ev_var rfl) el_nil)) ⟨os, ts, tot, p, rfl, hs, by omega, by omega, rfl⟩) ?_
  refine doq_asg (d := sysD os ts tot) aft_sys (by exact ev_var rfl) (by exact tg_tup rfl (tgs_cons tg_name (tgs_cons tg_name (tgs_cons tg_name tgs_nil)))) ?_
  refine doq_drop aft_sys (ev_call (el_cons (ev_var rfl) (el_cons (ev_var rfl) el_nil)) ⟨os, m, rfl, hs.ord, m0, m1, rfl⟩) ?_
  have e : (intsD (ts.getD p [])).map (fun e => linR os.reverse [toI e, m] []) = shT os (ts.getD p []) m := by
    rw [intsD, List.map_map]
    rfl
  refine doq_put (p := p) (tss := ts) (ns := shT os (ts.getD p []) m) (evq_call aft_qN (x := ts) (el_cons (ev_var rfl) el_nil) ⟨rfl, by omega⟩) ?_ rfl hp (by show 6 < 8; decide) (ev_var rfl) (ev_call (el_cons (ev_var rfl) (el_cons (ev_var rfl) (el_cons (ev_var rfl) el_nil))) ⟨os, _, _, rfl, hs.ord, rfl⟩)
  rw [← e]
  refine evf_lc (it_1 (it_list (ev_op (ev_var rfl) (ev_var rfl) (opp_1 (opp_ixL (at_tabs ht)))))) (by rw [ints_len]; have := T.len; omega) _ fun e he => ?_
  obtain ⟨z, hz, rfl⟩ := List.mem_map.mp he
  exact ⟨_, tgw_name, ev_call (el_cons (ev_var rfl) (el_cons (ev_var rfl) (el_cons (ev_var rfl) el_nil))) ⟨os, _, _, rfl, hs.ord, rfl⟩⟩
theorem sc_renamed_table : FnScope ["table", "names", "renamed", "entry", "name"] ["table", "names"] (defScope s_renamed_table) := ⟨rfl, rfl, rfl, by decide +kernel, rfl, by decide +kernel, by decide +kernel⟩
theorem ok_renamed_table {P : Program} {w : World} {K : PySem.W.Frag} {mg : Str → Option Value} {base : Heap} (B : Bi mg)  (h : Has K mg "renamed_table" s_renamed_table ["table", "names"]) :
    Cal P w K mg base 1 "renamed_table" ["table", "names"] (spFr K p_renamed_table) := by
  --RAW
  refine has_f h sc_renamed_table ar_renamed_table fun f cdv A outer s H E hg hr => ⟨_, (pss_cons (ps_set (i := 2) sc_renamed_table.nd rfl (Or.inl rfl) (pe_op op_mulA (pe_lst (pa_cons pe_int pa_nil)) (pe_callB (lenK K) (by rfl) B.len PySem.boot_len (pa_cons (pv 0) pa_nil))))
      (pss_cons (ps_for PassesOwn.never rfl (pi_zipK K (by rfl) B.zip (pa_cons (pv 0) (pa_cons (pv 1) pa_nil))) (pg_tup rfl (pgs_cons (pg_name (i := 3) sc_renamed_table.nd rfl (Or.inl rfl)) (pgs_cons (pg_name (i := 4) sc_renamed_table.nd rfl (Or.inl rfl)) pgs_nil))) (pss_one (ps_asg (pv 3) (pg_sub (pv 2) (pv 4) set_list))))
      (pss_one (ps_ret (pv 2))))), fun ds ns hp => ?_⟩
  obtain ⟨t, names, rfl, hn, hl, hd⟩ := hp
  have hns : ns = renT names t := by
    have : ns.map PyData.int = intsD (renT names t) := by injection hd
    exact List.map_inj_right (fun _ _ h => PyData.int.inj h) |>.mp this
  subst hns
  have nl : names.length = t.length := by rw [hn.length_eq, rg_len]
  intro σ B H D e s q
  refine seq_go (asg_go (evf_rep (n := t.length) (z := 0) (by rw [← ints_len t]; exact ev_cb (el_cons (ev_var rfl) el_nil) fn_len) (by omega) σ B H e s _ fun r B1 H1 g1 hBr hHr hr1 => ?_))
  obtain ⟨v0, l0, d0⟩ := e.look 0 _ rfl
  obtain ⟨v1, l1, d1⟩ := e.look 1 _ rfl
  match σ, e.len with
  | [x0, x1, x2, x3, x4], _ =>
    have e1 : EnvOk K B1 [x0, x1, some (.ref r), x3, x4] [some (.list (intsD t)), some (.list (intsD names)), none, none, none] := (e.mono g1.bb).forget (some (.ref r)) 2
    have zl : (zipD (intsD t) (intsD names)).length = t.length := by rw [zipD_len, ints_len, ints_len, nl, Nat.min_self]
    refine seq_go (for_go ((it_1 (it_zipL (el_cons (ev_var (i := 0) rfl) (el_cons (ev_var (i := 1) rfl) el_nil)))) _ B1 H1 e1 g1.sub _ fun J B2 H2 g2 w => ?_))
    have G12 := g1.trans g2
    refine for_it w (fun k σ' H' => ∃ (B' : Hp) (z3 z4 : Option V) (cur : List Int), σ' = [x0, x1, some (.ref r), z3, z4] ∧ Gr B H B' H' ∧ Same B2 B' ∧ B' r = none ∧ H' r = some (.lst (cur.map .int)) ∧ cur.length = t.length ∧
      ∀ (i : Nat) (e m : Int), i < k → t[i]? = some e → names[i]? = some m → cur[m.toNat]? = some e) ⟨B2, x3, x4, List.replicate t.length 0, rfl, G12, Same.refl _, g2.keepNone hBr (by rw [hr1]; simp), g2.ex _ _ hr1, List.length_replicate, fun i e m h => by omega⟩ (fun k σ' H' _ ⟨B', _, _, _, _, gg, sb, _⟩ => sb.trans gg.sub) ?_ ?_
    · rintro k x σ' H' H3 hk ⟨B', z3, z4, cur, rfl, gg, sb, hB, hr', hcl, hc⟩ y
      obtain ⟨B3, el, g3, hel, hx⟩ := y B' sb gg.sub
      have hk' : k < t.length := by rw [← zl]; exact hk
      have ht : t[k]? = some t[k] := List.getElem?_eq_getElem hk'
      have hm : names[k]? = some (names[k]'(by omega)) := List.getElem?_eq_getElem (by omega)
      generalize t[k] = ek at ht
      generalize names[k]'(by omega) = mk at hm
      have eel : el = .tuple [.int ek, .int mk] := by
        rw [zip_ints, List.getElem?_zipWith, ht, hm] at hel
        exact (Option.some.inj hel).symm
      subst eel
      have mr := perm_in hn hm
      cases hx with
      | @tup ta us _ h1 a1 =>
        cases a1 with
        | cons p1 a2 =>
          cases a2 with
          | cons p2 a3 =>
            cases a3
            cases p1
            cases p2
            have hr3 : H3 r = some (.lst (cur.map .int)) := g3.ex _ _ hr'
            have hB3 : B3 r = none := g3.keepNone hB (by rw [hr']; simp)
            have g03 := gg.trans g3
            have em : mk = ((mk.toNat : Nat) : Int) := (Int.toNat_of_nonneg mr.1).symm
            refine ⟨_, _, rfl, same_t g3.sub h1, rfl, _, _, rfl, _, _, rfl, rfl, _, rfl, _, rfl, _, rfl, r, cur.map .int, mk, mk.toNat, rfl, rfl, hr3, ?_, ?_⟩
            · rw [em]
              exact ix_nat (by rw [List.length_map]; omega)
            · refine ⟨B3, _, _, cur.set mk.toNat ek, rfl, ⟨fun b o z => ?_, g03.bb, fun b o z => ?_, g03.new⟩, sb.trans g3.bb, hB3, by rw [upd_same, List.map_set], by rw [List.length_set]; exact hcl, fun i e2 m2 hi h3 h4 => ?_⟩
              · rw [upd_ne (ne_of_none z hHr)]
                exact g03.ex b o z
              · rw [upd_ne (ne_of_none z hB3)]
                exact g03.sub b o z
              · by_cases c : i = k
                · subst c
                  rw [ht] at h3
                  rw [hm] at h4
                  cases h3
                  cases h4
                  exact List.getElem?_set_self (by omega)
                · have ne : m2.toNat ≠ mk.toNat := fun z => by
                    have r2 := perm_in hn h4
                    have e5 : m2 = mk := by omega
                    subst e5
                    have i1 := idx_at (hn.nodup_iff.mpr (rg_nodup _)) h4
                    have i2 := idx_at (hn.nodup_iff.mpr (rg_nodup _)) hm
                    omega
                  rw [List.getElem?_set_ne (fun z => ne z.symm)]
                  exact hc i e2 m2 (by omega) h3 h4
    · rintro σ' H' ⟨B', z3, z4, cur, rfl, gg, sb, hB, hr', hcl, hc⟩
      have eq : cur = renT names t := ren_uniq hn (ren_ok hn) ⟨hcl, fun i e2 m2 h3 h4 => hc i e2 m2 (by rw [zl]; exact (List.getElem?_eq_some_iff.mp h3).1) h3 h4⟩
      rw [eq] at hr'
      exact ⟨_, rfl, q r B' H' gg hB hHr hr'⟩
end K08
end
section
set_option maxRecDepth 100000
set_option maxHeartbeats 4000000
namespace K08
open PySem PySem.Spec PyProof.Rows L2 G Lin
local macro_rules | `(tactic| walk_at "ev") => `(tactic| first
  | exact ev_var rfl | exact ev_int | exact ev_bl | exact ev_non | exact ev_str
  | (apply ev_op; (focus walk_at "ev"); (focus walk_at "ev"); (focus walk_at "op"))
  | (apply ev_cb; (focus walk_at "el"); (focus walk_at "fn"))
  | (apply ev_lst; (focus walk_at "el"); (show _ ≤ sizeLine; decide))
  | (apply ev_tup; (focus walk_at "el"); (show _ ≤ sizeLine; decide)))
local macro_rules | `(tactic| walk_at "el") => `(tactic| first
  | exact el_nil
  | (apply el_cons; (focus walk_at "ev"); (focus walk_at "el")))
local macro_rules | `(tactic| walk_at "fn") => `(tactic| first
  | exact fn_int | exact fn_len | exact fn_all | exact fn_listL | exact fn_listT)
local macro_rules | `(tactic| walk_at "op") => `(tactic| first
  | exact op_I0 (fun _ => .int _) | exact op_I0 (fun _ => .bl _) | exact opp_1 (op_I0 fun _ => .int _)
  | exact op_I (by show (_ : Int) ≠ 0; decide) (fun _ => .int _)
  | exact op_I (by assumption) (fun _ => .int _)
  | exact opp_1 (op_I (by assumption) fun _ => .int _)
  | exact opp_1 (opp_ixL (i := 0) rfl) | exact opp_2 (opp_ixT (i := 0) rfl) | exact opp_2 (opp_ixT (i := 1) rfl) | exact opp_2 (opp_ixT (i := 2) rfl))
def p_law_is_system (ds : List PyData) (d : PyData) : Prop := ∃ (os : List Int) (ts : List (List Int)) (tot : Int) (w : Nat), ds = [sysD os ts tot, .tuple (intsD os), .int w] ∧ Sys os ts tot ∧ ts.length = w ∧ d = .bool true
theorem ar_law_is_system (ds : List PyData) (x : PyData) (h : p_law_is_system ds x) : ds.length = 3 := by obtain ⟨_, _, _, _, rfl, _⟩ := h; rfl
theorem pl_os {os : List Int} (ho : Ords os) : Pl (.tuple (intsD os)) := by
  have hl := ords_len ho
  refine ⟨pl_tuple (pl_ints fun x hx => ?_), ?_, ?_⟩
  · have := ord_le ho hx
    omega
  · have : (PyData.tuple (intsD os)).depth ≤ 0 + 1 := depth_tuple (depth_ints os)
    omega
  · have : (PyData.tuple (intsD os)).bulk ≤ (os.map PyData.int).length * (0 + 1) := bulk_tuple (bulk_ints os)
    rw [List.length_map] at this
    omega
theorem tab_perm {n : Nat} {t : List Int} (T : Tab (n : Int) t) : (rgI n).Perm t := by
  refine (List.perm_ext_iff_of_nodup (rg_nodup n) T.nd).mpr fun a => ⟨fun h => ?_, fun h => ?_⟩
  · obtain ⟨i, hi, rfl⟩ := List.mem_map.mp h
    have := List.mem_range.mp hi
    exact T.has (by omega) (by omega)
  · have := T.mem a h
    exact List.mem_map.mpr ⟨a.toNat, List.mem_range.mpr (by omega), by omega⟩
theorem rg_sorted (n : Nat) : (rgI n).Pairwise (· ≤ ·) := List.pairwise_map.mpr (List.pairwise_lt_range.imp fun {a b} h => by omega)
theorem pl_rg {n : Nat} (h : n ≤ 1000) : Pl (.list (intsD (rgI n))) := Pl.ints (fun x hx => by
  obtain ⟨i, hi, rfl⟩ := List.mem_map.mp hx
  have := List.mem_range.mp hi
  omega) (by rw [rg_len]; omega)
theorem sc_law_is_system : FnScope ["system_there", "orders_there", "wide", "size_there", "table", "item"] ["system_there", "orders_there", "wide"] (defScope s_law_is_system) := ⟨rfl, rfl, rfl, by decide +kernel, rfl, by decide +kernel, by decide +kernel⟩
theorem ok_law_is_system {P : Program} {w : World} {K : PySem.W.Frag} {mg : Str → Option Value} {base : Heap} (B : Bi mg) (c_law_size : Cal P w K mg base 1 "_law_size" ["orders_there"] (sp K p_law_size)) (h : Has K mg "_law_is_system" s_law_is_system ["system_there", "orders_there", "wide"]) :
    Cal P w K mg base 2 "_law_is_system" ["system_there", "orders_there", "wide"] (sp K p_law_is_system) := by
  refine has_d h sc_law_is_system ar_law_is_system fun f cdv A outer s H E hg hr => ⟨_, (pss_cons (ps_if (PW.pt (pw_or (pt_not (pt_val (pe_callB (isiK K) (by rfl) B.isinstance (by decide +kernel) (pa_cons (pv 0) (pa_cons (pe_bltn (v := .ty "tuple") (by rfl) B.tuple (by decide +kernel) rfl) pa_nil))))) (pw_or (pt_cmpR (neK K hr) (pe_callB (lenK K) (by rfl) B.len PySem.boot_len (pa_cons (pv 0) pa_nil)) pe_int (nomark _)) (pw_or (pt_cmpR (neRK K hr) (pe_callB (reprK K hg hr) (by rfl) B.repr (by decide +kernel) (pa_cons (pe_ix (ixK K) (pv 0) pe_int (fun _ _ => rfl)) pa_nil)) (pe_callB (reprK K hg hr) (by rfl) B.repr (by decide +kernel) (pa_cons (pv 1) pa_nil)) (nomark _)) (pw_or1 (pt_not (pt_val (pe_callB (isiK K) (by rfl) B.isinstance (by decide +kernel) (pa_cons (pe_ix (ixK K) (pv 0) pe_int (fun _ _ => rfl)) (pa_cons (pe_bltn (v := .ty "list") (by rfl) B.list (by decide +kernel) rfl) pa_nil)))))))))) (pss_one (ps_ret pe_bl)) pss_nil)
      (pss_cons (ps_set (i := 3) sc_law_is_system.nd rfl (Or.inr rfl) (pg_cal hg c_law_size hr (by rfl) (pa_cons (pv 1) pa_nil)))
      (pss_cons (ps_if (pt_cmpR (neK K hr) (pe_lc (own := [("table", 4)]) (g := (gName 4)) rfl sc_law_is_system.nd (pi_or (pi_listK K (pe_ix (ixK K) (pv 0) pe_int (fun _ _ => rfl))) (pi_tupK K (pe_ix (ixK K) (pv 0) pe_int (fun _ _ => rfl)))) (blkOk_by (N := ["system_there", "orders_there", "wide", "size_there", "table", "item"]) (sc := defScope s_law_is_system) (own := [("table", 4)]) (by decide +kernel)) (fun _ _ _ _ _ => pg_name (i := 4) sc_law_is_system.nd rfl (Or.inl rfl)) (fun _ _ _ _ _ => pts_one (PW.pt (pw_or (pt_not (pt_val (pe_callB (isiK K) (by rfl) B.isinstance (by decide +kernel) (pa_cons (pv 4) (pa_cons (pe_bltn (v := .ty "list") (by rfl) B.list (by decide +kernel) rfl) pa_nil))))) (pw_or1 (pt_cmpR (neRK K hr) (pe_callB (reprK K hg hr) (by rfl) B.repr (by decide +kernel) (pa_cons (pe_callB (sortK K) (by rfl) B.sorted (by decide +kernel) (pa_cons (pv 4) pa_nil)) pa_nil)) (pe_callB (reprK K hg hr) (by rfl) B.repr (by decide +kernel) (pa_cons (pe_listRg rfl (by rfl) B.list (prg_1 (by rfl) B.range (pv 3))) pa_nil)) (nomark _)))))) (fun _ _ _ _ _ => (pv 4))) (pe_lst pa_nil) (nomark _)) (pss_one (ps_ret pe_bl)) pss_nil)
      (pss_one (ps_ret (pe_and (pe_cmpR (eqK K hr) (pe_callB (lenK K) (by rfl) B.len PySem.boot_len (pa_cons (pe_ix (ixK K) (pv 0) pe_int (fun _ _ => rfl)) pa_nil)) (pv 2) (nomark _)) (pe_one (pe_cmpR (inK K) (pe_callB (reprK K hg hr) (by rfl) B.repr (by decide +kernel) (pa_cons (pe_ix (ixK K) (pv 0) pe_int (fun _ _ => rfl)) pa_nil)) (pe_lc (own := [("item", 5)]) (g := (gName 5)) rfl sc_law_is_system.nd (pi_range1 (by rfl) B.range (pa_cons (pv 3) pa_nil)) (blkOk_by (N := ["system_there", "orders_there", "wide", "size_there", "table", "item"]) (sc := defScope s_law_is_system) (own := [("item", 5)]) (by decide +kernel)) (fun _ _ _ _ _ => pg_name (i := 5) sc_law_is_system.nd rfl (Or.inl rfl)) (fun _ _ _ _ _ => pts_nil) (fun _ _ _ _ _ => (pe_callB (reprK K hg hr) (by rfl) B.repr (by decide +kernel) (pa_cons (pv 5) pa_nil)))) (by rfl))))))))), fun ds d hp => ?_⟩
  obtain ⟨os, ts, tot, w, rfl, hs, hl, rfl⟩ := hp
  have h4 := hs.few
  have plO := pl_os hs.ord
  have pp := (prod_take_le hs.ord os.length).2
  rw [List.take_length] at pp
  have p0 := prod_pos hs.ord.2.1
  obtain ⟨n, hn⟩ : ∃ n : Nat, prodI os = n := ⟨(prodI os).toNat, by omega⟩
  have plR := pl_rg (n := n) (by omega)
  refine do_seq (M := fun ρ => ρ = [some (sysD os ts tot), some (.tuple (intsD os)), some (.int w), none, none, none]) (do_if (b := false) ?_ (fun h => nomatch h) fun _ => do_next rfl) fun ρ' e => ?_
  · refine eb_or (a := false) (eb_not (eb_B (ev_isi (ev_var rfl) (kit_tuple _))) rfl) (fun _ => ?_) (fun h => nomatch h)
    refine eb_or (a := false) (eb_test (ev_op (ev_cb (el_cons (ev_var rfl) el_nil) fn_lenT) ev_int (opp_neD (sh_int _) (sh_int _) (by rw [eqv_int]; rfl)))) (fun _ => ?_) (fun h => nomatch h)
    refine eb_or (a := false) (eb_test (ev_op (ev_cb (el_cons (ev_op (ev_var rfl) ev_int (opp_2 (opp_ixT (i := 0) rfl))) el_nil) plO.repr) (ev_cb (el_cons (ev_var rfl) el_nil) plO.repr) neS_self)) (fun _ => ?_) (fun h => nomatch h)
    exact eb_not (a := true) (eb_B (ev_isi (ev_op (ev_var rfl) ev_int (opp_2 (opp_ixT (i := 1) rfl))) (kit_list _))) rfl
  subst e
  refine do_seq (M := fun ρ => ρ = [some (sysD os ts tot), some (.tuple (intsD os)), some (.int w), some (.int n), none, none]) (do_set (ev_call (el_cons (ev_var rfl) el_nil) ⟨os, rfl, hs.ord, by rw [hn]⟩) rfl) fun ρ' e => ?_
  subst e
  refine do_seq (M := fun ρ => ρ = [some (sysD os ts tot), some (.tuple (intsD os)), some (.int w), some (.int n), none, none]) (do_if (b := false) ?_ (fun h => nomatch h) fun _ => do_next rfl) fun ρ' e => ?_
  · refine eb_test (ev_op (ev_lc (it_1 (it_list (ev_op (ev_var rfl) ev_int (opp_2 (opp_ixT (i := 1) rfl))))) (by rw [tabs_len]; omega) (fun _ => false) id fun e he => ?_) (ev_lst el_nil (by decide)) ?_)
    · obtain ⟨t, ht, rfl⟩ := List.mem_map.mp he
      have T := hs.tabs t ht
      rw [hn] at T
      refine ⟨_, tgw_name, eb_or (a := false) (eb_not (a := true) (eb_B (ev_isi (ev_var rfl) (kit_list _))) rfl) (fun _ => ?_) (fun h => nomatch h), fun h => nomatch h⟩
      exact eb_test (ev_op (ev_cb (el_cons (ev_cb (el_cons (ev_var rfl) el_nil) (fn_sorted (tab_perm T) (rg_sorted n) (by have := T.len; omega))) el_nil) plR.repr) (ev_cb (el_cons (by rw [← rg_eq]; exact ev_listRg (ev_var rfl) (by omega)) el_nil) plR.repr) neS_self)
    · have z : (List.filter (fun _ => false) (tabsD ts)).map id = [] := by
        rw [List.map_id, List.filter_eq_nil_iff]
        exact fun _ _ => Bool.false_ne_true
      rw [z]
      exact opp_neD rfl rfl (by simp [PyData.eqv, PyData.eqvAll])
  subst e
  have t0 := hs.t0
  have t1 := hs.t1
  refine do_ret (ev_and (a := true) (ev_op (ev_cb (el_cons (ev_op (ev_var rfl) ev_int (opp_2 (opp_ixT (i := 1) rfl))) el_nil) fn_len) (ev_var rfl) (opp_eqD (sh_int _) (sh_int _) ?_)) (fun _ => ?_) (fun h => nomatch h)) rfl
  · rw [eqv_int, tabs_len, hl]
    simp
  · have key : ((List.range n).map fun (i : Nat) => PyData.int (i : Int)).map (fun e => PyData.str e.shown) = ((rgI n).map fun i => (PyData.int i).shown).map PyData.str := by
      rw [rg_eq, intsD, List.map_map, List.map_map]
      rfl
    refine ev_op (ev_cb (el_cons (ev_op (ev_var rfl) ev_int (opp_2 (opp_ixT (i := 2) rfl))) el_nil) (Pl.int (by omega)).repr) (ev_map (it_range1 (n := n) (el_cons (ev_var rfl) el_nil) (by omega)) (by rw [List.length_map, List.length_range]; omega) (fun e => .str e.shown) fun e he => ?_) ?_
    · obtain ⟨i, hi, rfl⟩ := List.mem_map.mp he
      have := List.mem_range.mp hi
      exact ⟨_, tgw_name, ev_cb (el_cons (ev_var rfl) el_nil) (Pl.int (by omega)).repr⟩
    · rw [key]
      refine opp_inS (List.mem_map.mpr ⟨tot, List.mem_map.mpr ⟨tot.toNat, List.mem_range.mpr (by omega), by omega⟩, rfl⟩)
end K08
end
section
set_option maxRecDepth 100000
set_option maxHeartbeats 4000000
namespace K08
open PySem PySem.Spec PyProof.Rows L2 G Lin
local macro_rules | `(tactic| walk_at "ev") => `(tactic| first
  | exact ev_var rfl | exact ev_int | exact ev_bl | exact ev_non | exact ev_str
  | (apply ev_op; (focus walk_at "ev"); (focus walk_at "ev"); (focus walk_at "op"))
  | (apply ev_cb; (focus walk_at "el"); (focus walk_at "fn"))
  | (apply ev_lst; (focus walk_at "el"); (show _ ≤ sizeLine; decide))
  | (apply ev_tup; (focus walk_at "el"); (show _ ≤ sizeLine; decide)))
local macro_rules | `(tactic| walk_at "el") => `(tactic| first
  | exact el_nil
  | (apply el_cons; (focus walk_at "ev"); (focus walk_at "el")))
local macro_rules | `(tactic| walk_at "fn") => `(tactic| first
  | exact fn_int | exact fn_len | exact fn_all | exact fn_listL | exact fn_listT)
local macro_rules | `(tactic| walk_at "op") => `(tactic| first
  | exact op_I0 (fun _ => .int _) | exact op_I0 (fun _ => .bl _) | exact opp_1 (op_I0 fun _ => .int _)
  | exact op_I (by show (_ : Int) ≠ 0; decide) (fun _ => .int _)
  | exact op_I (by assumption) (fun _ => .int _)
  | exact opp_1 (op_I (by assumption) fun _ => .int _)
  | exact opp_1 (opp_ixL (i := 0) rfl) | exact opp_2 (opp_ixT (i := 0) rfl) | exact opp_2 (opp_ixT (i := 1) rfl) | exact opp_2 (opp_ixT (i := 2) rfl))
/-! the turned systems are systems, and what numbers are off by -/
theorem vals_len {ts : List (List Int)} {cs : List Int} (h : cs.length = ts.length) : (vals ts cs).length = ts.length := by unfold vals; rw [List.length_zipWith, h, Nat.min_self]
theorem tab_ren {n : Nat} {names t : List Int} (T : Tab (n : Int) t) (h : names.Perm (rgI n)) : Tab (n : Int) (renT names t) := by
  have hl : t.length = n := by have := T.len; omega
  have hp : names.Perm (rgI t.length) := by rw [hl]; exact h
  have nd : names.Nodup := h.nodup_iff.mpr (rg_nodup _)
  have key : ∀ j : Nat, j < n → ∃ i, i < n ∧ names[i]? = some (j : Int) ∧ (renT names t)[j]? = t[i]? := fun j hj => by
    obtain ⟨i, hi, hn⟩ := perm_at h (m := (j : Int)) (by omega) (by omega)
    refine ⟨i, hi, hn, ?_⟩
    have q := (ren_ok hp).2 i _ _ (List.getElem?_eq_getElem (show i < t.length by omega)) hn
    rw [Int.toNat_natCast] at q
    rw [q, List.getElem?_eq_getElem (show i < t.length by omega)]
  refine ⟨by rw [ren_len, hl], fun x hx => ?_, ?_⟩
  · obtain ⟨j, hj⟩ := List.mem_iff_getElem?.mp hx
    have jl := (List.getElem?_eq_some_iff.mp hj).1
    rw [ren_len, hl] at jl
    obtain ⟨i, _, _, e⟩ := key j jl
    rw [hj] at e
    exact T.mem x (List.mem_of_getElem? e.symm)
  · rw [List.nodup_iff_pairwise_ne, List.pairwise_iff_getElem]
    intro a b ha hb hab e
    have la := ha
    have lb := hb
    rw [ren_len, hl] at la lb
    obtain ⟨i, hi, n1, e1⟩ := key a la
    obtain ⟨k, hk, n2, e2⟩ := key b lb
    rw [List.getElem?_eq_getElem ha] at e1
    rw [List.getElem?_eq_getElem hb] at e2
    have hik : i ≠ k := fun z => by
      subst z
      rw [n1] at n2
      have := Option.some.inj n2
      omega
    have t1 := List.getElem?_eq_getElem (show i < t.length by omega)
    have t2 := List.getElem?_eq_getElem (show k < t.length by omega)
    rw [t1] at e1
    rw [t2] at e2
    have e3 : t[i]'(by omega) = t[k]'(by omega) := by
      have a1 := Option.some.inj e1
      have a2 := Option.some.inj e2
      rw [← a1, ← a2, e]
    rcases Nat.lt_or_gt_of_ne hik with q | q
    · exact List.pairwise_iff_getElem.mp T.nd i k _ _ q e3
    · exact List.pairwise_iff_getElem.mp T.nd k i _ _ q e3.symm
theorem sys_ren {os : List Int} {ts : List (List Int)} {tot : Int} {n : Nat} {names : List Int} (hs : Sys os ts tot) (hn : prodI os = n) (h : names.Perm (rgI n)) : Sys os (ts.map (renT names)) tot :=
  ⟨hs.ord, by rw [List.length_map]; exact hs.two, by rw [List.length_map]; exact hs.few, fun t ht => by
    obtain ⟨u, hu, rfl⟩ := List.mem_map.mp ht
    have T := hs.tabs u hu
    rw [hn] at T ⊢
    exact tab_ren T h, hs.t0, hs.t1⟩
def byN (names cs : List Int) : List Int := cs.map fun c => names.getD c.toNat 0
theorem names_at {n : Nat} {names : List Int} (h : names.Perm (rgI n)) {c : Int} (h0 : 0 ≤ c) (h1 : c < (n : Int)) : ∃ m, names[c.toNat]? = some m ∧ names.getD c.toNat 0 = m ∧ 0 ≤ m ∧ m < (n : Int) := by
  have l : c.toNat < names.length := by rw [h.length_eq, rg_len]; omega
  refine ⟨names[c.toNat], List.getElem?_eq_getElem l, by rw [List.getD_eq_getElem?_getD, List.getElem?_eq_getElem l]; rfl, ?_⟩
  exact perm_in h (List.getElem?_eq_getElem l)
theorem code_ren {os : List Int} {ts : List (List Int)} {cs : List Int} {n : Nat} {names : List Int} (hc : Code os ts cs) (hn : prodI os = n) (h : names.Perm (rgI n)) : Code os (ts.map (renT names)) (byN names cs) :=
  ⟨by rw [byN, List.length_map, List.length_map]; exact hc.len, fun x hx => by
    obtain ⟨c, hcm, rfl⟩ := List.mem_map.mp hx
    have r := hc.mem c hcm
    rw [hn] at r ⊢
    obtain ⟨m, _, e, h0, h1⟩ := names_at h r.1 r.2
    rw [e]
    exact ⟨h0, h1⟩⟩
theorem vals_ren {n : Nat} {names : List Int} (h : names.Perm (rgI n)) : ∀ {ts : List (List Int)} {cs : List Int}, (∀ t ∈ ts, t.length = n) → (∀ c ∈ cs, 0 ≤ c ∧ c < (n : Int)) → vals (ts.map (renT names)) (byN names cs) = vals ts cs
  | [], _, _, _ => rfl
  | _ :: _, [], _, _ => rfl
  | t :: ts, c :: cs, ht, hc => by
    have ih := vals_ren h (ts := ts) (cs := cs) (fun u hu => ht u (List.mem_cons_of_mem _ hu)) fun d hd => hc d (List.mem_cons_of_mem _ hd)
    have hl := ht t (List.mem_cons_self ..)
    have r := hc c (List.mem_cons_self ..)
    obtain ⟨m, e1, e2, h0, h1⟩ := names_at h r.1 r.2
    have hp : names.Perm (rgI t.length) := by rw [hl]; exact h
    have tc := List.getElem?_eq_getElem (show c.toNat < t.length by omega)
    have q := (ren_ok hp).2 c.toNat _ _ tc e1
    show (renT names t).getD (names.getD c.toNat 0).toNat 0 :: vals (ts.map (renT names)) (byN names cs) = t.getD c.toNat 0 :: vals ts cs
    rw [ih, e2, List.getD_eq_getElem?_getD, q, List.getD_eq_getElem?_getD, tc]
/-- in another order -/
def byO {α : Type} (order : List Int) (xs : List α) (z : α) : List α := order.map fun p => xs.getD p.toNat z
theorem byO_rg {α : Type} {z : α} : ∀ xs : List α, byO (rgI xs.length) xs z = xs := fun xs => by
  refine List.ext_getElem? fun i => ?_
  unfold byO
  rw [List.getElem?_map]
  by_cases h : i < xs.length
  · rw [rg_at h, List.getElem?_eq_getElem h]
    show some (xs.getD ((i : Nat) : Int).toNat z) = _
    rw [Int.toNat_natCast, List.getD_eq_getElem?_getD, List.getElem?_eq_getElem h]
    rfl
  · rw [List.getElem?_eq_none (by rw [rg_len]; omega), List.getElem?_eq_none (by omega)]
    rfl
theorem byO_perm {α : Type} {z : α} {order : List Int} {xs : List α} (h : order.Perm (rgI xs.length)) : (byO order xs z).Perm xs := by
  have q := h.map fun p : Int => xs.getD p.toNat z
  have e := byO_rg (z := z) xs
  unfold byO at e
  rw [e] at q
  exact q
theorem byO_mem {α : Type} {z : α} {order : List Int} {xs : List α} (h : order.Perm (rgI xs.length)) {x : α} (hx : x ∈ byO order xs z) : x ∈ xs := (byO_perm h).mem_iff.mp hx
theorem sys_reo {os : List Int} {ts : List (List Int)} {tot : Int} {order : List Int} (hs : Sys os ts tot) (h : order.Perm (rgI ts.length)) : Sys os (byO order ts []) tot := by
  have l : (byO order ts []).length = ts.length := by unfold byO; rw [List.length_map, h.length_eq, rg_len]
  exact ⟨hs.ord, by rw [l]; exact hs.two, by rw [l]; exact hs.few, fun t ht => hs.tabs t (byO_mem h ht), hs.t0, hs.t1⟩
theorem code_reo {os : List Int} {ts : List (List Int)} {cs order : List Int} (hc : Code os ts cs) (h : order.Perm (rgI ts.length)) : Code os (byO order ts []) (byO order cs 0) :=
  ⟨by unfold byO; rw [List.length_map, List.length_map], fun x hx => hc.mem x (byO_mem (by rw [hc.len]; exact h) hx)⟩
theorem vals_getD {ts : List (List Int)} {cs : List Int} {p : Nat} (h1 : p < ts.length) (h2 : cs.length = ts.length) : (vals ts cs).getD p 0 = (ts.getD p []).getD (cs.getD p 0).toNat 0 := by
  have a : ts[p]? = some (ts.getD p []) := by rw [List.getD_eq_getElem?_getD, List.getElem?_eq_getElem h1]; rfl
  have b : cs[p]? = some (cs.getD p 0) := by rw [List.getD_eq_getElem?_getD, List.getElem?_eq_getElem (by omega)]; rfl
  rw [List.getD_eq_getElem?_getD, vals_at a b]
  rfl
theorem vals_reo {ts : List (List Int)} {cs order : List Int} (hl : cs.length = ts.length) (h : order.Perm (rgI ts.length)) : (vals (byO order ts []) (byO order cs 0)).Perm (vals ts cs) := by
  have e : vals (byO order ts []) (byO order cs 0) = byO order (vals ts cs) 0 := by
    unfold vals byO
    rw [List.zipWith_map, List.zipWith_self]
    refine List.map_congr_left fun p hp => ?_
    obtain ⟨i, hi⟩ := List.mem_iff_getElem?.mp hp
    have r := perm_in h hi
    exact (vals_getD (by omega) hl).symm
  rw [e]
  exact byO_perm (by rw [vals_len hl]; exact h)
/-- a member added -/
theorem shift_inj {r : List Int} (h : Pos r) {a b m : Int} (a0 : 0 ≤ a) (a1 : a < prodR r) (b0 : 0 ≤ b) (b1 : b < prodR r) (e : linR r [a, m] [] = linR r [b, m] []) : a = b := by
  have q : ∀ x : Int, 0 ≤ x → x < prodR r → linR r [linR r [x, m] []] [m] = x := fun x x0 x1 => by
    have z := lin_in h [] [m] [x, m] []
    rw [List.append_nil, List.nil_append] at z
    rw [z, lin_perm (List.Perm.swap m x []) (List.Perm.refl [m]), lin_cancel, lin_one h x0 x1]
  rw [← q a a0 a1, ← q b b0 b1, e]
theorem tab_sh {os t : List Int} {m : Int} (ho : Ords os) (T : Tab (prodI os) t) : Tab (prodI os) (shT os t m) := by
  refine ⟨by unfold shT; rw [List.length_map]; exact T.len, fun x hx => ?_, ?_⟩
  · obtain ⟨e, _, rfl⟩ := List.mem_map.mp hx
    have r := lin_rng ho.pos [e, m] []
    rw [ho.n] at r
    exact r
  · rw [List.nodup_iff_pairwise_ne, List.pairwise_iff_getElem]
    intro i j hi hj hij e
    unfold shT at hi hj e
    rw [List.length_map] at hi hj
    rw [List.getElem_map, List.getElem_map] at e
    have ri := T.mem t[i] (List.getElem_mem hi)
    have rj := T.mem t[j] (List.getElem_mem hj)
    exact List.pairwise_iff_getElem.mp T.nd i j hi hj hij (shift_inj ho.pos ri.1 (by rw [ho.n]; exact ri.2) rj.1 (by rw [ho.n]; exact rj.2) e)
theorem lin_in_n {os : List Int} (ho : Ords os) (ps ns : List Int) : 0 ≤ linR os.reverse ps ns ∧ linR os.reverse ps ns < prodI os := by
  have r := lin_rng ho.pos ps ns
  rw [ho.n] at r
  exact r
theorem sys_add {os : List Int} {ts : List (List Int)} {tot m : Int} {p : Nat} (hs : Sys os ts tot) (hp : p < ts.length) : Sys os (ts.set p (shT os (ts.getD p []) m)) (linR os.reverse [tot, m] []) := by
  have r := lin_in_n hs.ord [tot, m] []
  have ht : ts.getD p [] ∈ ts := by rw [List.getD_eq_getElem?_getD, List.getElem?_eq_getElem hp]; exact List.getElem_mem hp
  refine ⟨hs.ord, by rw [List.length_set]; exact hs.two, by rw [List.length_set]; exact hs.few, fun t h => ?_, r.1, r.2⟩
  rcases List.mem_or_eq_of_mem_set h with h | rfl
  · exact hs.tabs t h
  · exact tab_sh hs.ord (hs.tabs _ ht)
theorem code_set {os : List Int} {ts : List (List Int)} {cs : List Int} {p : Nat} {t : List Int} (hc : Code os ts cs) : Code os (ts.set p t) cs := ⟨by rw [List.length_set]; exact hc.len, hc.mem⟩
theorem vals_sett : ∀ {ts : List (List Int)} {cs : List Int} {p : Nat} {t : List Int}, vals (ts.set p t) cs = (vals ts cs).set p (t.getD (cs.getD p 0).toNat 0) ∨ ts.length ≤ p ∨ cs.length ≤ p
  | [], _, _, _ => .inr (.inl (Nat.zero_le _))
  | _ :: _, [], _, _ => .inr (.inr (Nat.zero_le _))
  | t :: ts, c :: cs, 0, u => .inl rfl
  | t :: ts, c :: cs, p + 1, u => by
    rcases vals_sett (ts := ts) (cs := cs) (p := p) (t := u) with h | h | h
    · refine .inl ?_
      show t.getD c.toNat 0 :: vals (ts.set p u) cs = t.getD c.toNat 0 :: (vals ts cs).set p _
      rw [h]
      rfl
    · exact .inr (.inl (Nat.succ_le_succ h))
    · exact .inr (.inr (Nat.succ_le_succ h))
theorem off_add {os : List Int} {ts : List (List Int)} {tot m : Int} {cs : List Int} {p : Nat} (hs : Sys os ts tot) (hc : Code os ts cs) (hp : p < ts.length) :
    linR os.reverse (vals (ts.set p (shT os (ts.getD p []) m)) cs) [linR os.reverse [tot, m] []] = linR os.reverse (vals ts cs) [tot] := by
  have hl := hc.len
  have hv := vals_len hl
  have ht : ts[p]? = some (ts.getD p []) := by rw [List.getD_eq_getElem?_getD, List.getElem?_eq_getElem hp]; rfl
  have hcp : cs[p]? = some (cs.getD p 0) := by rw [List.getD_eq_getElem?_getD, List.getElem?_eq_getElem (by omega)]; rfl
  have cr := hc.in_ hs _ (List.mem_of_getElem? ht) _ (List.mem_of_getElem? hcp)
  have e1 : (shT os (ts.getD p []) m).getD (cs.getD p 0).toNat 0 = linR os.reverse [(ts.getD p []).getD (cs.getD p 0).toNat 0, m] [] := by
    have lt : (cs.getD p 0).toNat < (ts.getD p []).length := by omega
    clear ht cr hcp
    generalize ts.getD p [] = tp at lt ⊢
    generalize (cs.getD p 0).toNat = j at lt ⊢
    unfold shT
    rw [List.getD_eq_getElem?_getD, List.getElem?_map, List.getElem?_eq_getElem lt, List.getD_eq_getElem?_getD, List.getElem?_eq_getElem lt]
    rfl
  have e2 : vals (ts.set p (shT os (ts.getD p []) m)) cs = (vals ts cs).set p (linR os.reverse [(vals ts cs).getD p 0, m] []) := by
    rcases vals_sett (ts := ts) (cs := cs) (p := p) (t := shT os (ts.getD p []) m) with h | h | h
    · rw [h, e1, vals_getD hp hl]
    · omega
    · omega
  have hx : (vals ts cs)[p]? = some ((vals ts cs).getD p 0) := by rw [List.getD_eq_getElem?_getD, List.getElem?_eq_getElem (by omega)]; rfl
  generalize (vals ts cs).getD p 0 = x at e2 hx
  rw [e2, lin_perm (set_perm (by omega)) (List.Perm.refl _), lin_in hs.ord.pos]
  have a := lin_out hs.ord.pos ([x, m] ++ (vals ts cs).eraseIdx p) ([] ++ []) [tot, m] []
  rw [List.nil_append, List.nil_append, List.append_nil] at a
  show linR os.reverse ([x, m] ++ (vals ts cs).eraseIdx p) (linR os.reverse [tot, m] [] :: []) = _
  rw [a]
  have b : linR os.reverse ([x, m] ++ (vals ts cs).eraseIdx p) [tot, m] = linR os.reverse (m :: x :: (vals ts cs).eraseIdx p) (m :: [tot]) := lin_perm (List.Perm.swap m x _) (List.Perm.swap m tot [])
  rw [b, lin_cancel]
  exact lin_perm (perm_erase hx).symm (List.Perm.refl _)
/-- a place fixed -/
theorem vals_erase : ∀ {ts : List (List Int)} {cs : List Int} {p : Nat}, cs.length = ts.length → vals (ts.eraseIdx p) (cs.eraseIdx p) = (vals ts cs).eraseIdx p
  | [], [], _, _ => rfl
  | [], _ :: _, _, h => by simp at h
  | _ :: _, [], _, h => by simp at h
  | t :: ts, c :: cs, 0, _ => rfl
  | t :: ts, c :: cs, p + 1, h => by
    have ih := vals_erase (ts := ts) (cs := cs) (p := p) (by simpa using h)
    show t.getD c.toNat 0 :: vals (ts.eraseIdx p) (cs.eraseIdx p) = t.getD c.toNat 0 :: (vals ts cs).eraseIdx p
    rw [ih]
theorem sys_fix {os : List Int} {ts : List (List Int)} {tot x : Int} {p : Nat} (hs : Sys os ts tot) (h3 : 3 ≤ ts.length) (hp : p < ts.length) : Sys os (ts.eraseIdx p) (linR os.reverse [tot] [x]) := by
  have r := lin_in_n hs.ord [tot] [x]
  have l := List.length_eraseIdx_of_lt hp
  have h4 := hs.few
  exact ⟨hs.ord, by omega, by omega, fun t h => hs.tabs t (List.mem_of_mem_eraseIdx h), r.1, r.2⟩
theorem code_fix {os : List Int} {ts : List (List Int)} {cs : List Int} {p : Nat} (hc : Code os ts cs) (hp : p < ts.length) : Code os (ts.eraseIdx p) (cs.eraseIdx p) := by
  have hl := hc.len
  exact ⟨by rw [List.length_eraseIdx_of_lt hp, List.length_eraseIdx_of_lt (by omega), hl], fun x h => hc.mem x (List.mem_of_mem_eraseIdx h)⟩
theorem off_fix {os : List Int} {ts : List (List Int)} {tot : Int} {cs : List Int} {p : Nat} (hs : Sys os ts tot) (hc : Code os ts cs) (hp : p < ts.length) :
    linR os.reverse (vals (ts.eraseIdx p) (cs.eraseIdx p)) [linR os.reverse [tot] [(ts.getD p []).getD (cs.getD p 0).toNat 0]] = linR os.reverse (vals ts cs) [tot] := by
  have hl := hc.len
  have hv := vals_len hl
  have hx : (vals ts cs)[p]? = some ((ts.getD p []).getD (cs.getD p 0).toNat 0) := by rw [← vals_getD hp hl, List.getD_eq_getElem?_getD, List.getElem?_eq_getElem (by omega)]; rfl
  rw [vals_erase hl]
  generalize (ts.getD p []).getD (cs.getD p 0).toNat 0 = x at hx
  have a := lin_out hs.ord.pos ((vals ts cs).eraseIdx p) [] [tot] [x]
  rw [List.append_nil] at a
  rw [a]
  exact lin_perm (perm_erase hx).symm (List.Perm.refl _)
/-- two put together -/
theorem vals_app : ∀ {ts us : List (List Int)} {cs ds : List Int}, cs.length = ts.length → vals (ts ++ us) (cs ++ ds) = vals ts cs ++ vals us ds
  | [], _, [], _, _ => rfl
  | [], _, _ :: _, _, h => by simp at h
  | _ :: _, _, [], _, h => by simp at h
  | t :: ts, us, c :: cs, ds, h => by
    have ih := vals_app (ts := ts) (us := us) (cs := cs) (ds := ds) (by simpa using h)
    show t.getD c.toNat 0 :: vals (ts ++ us) (cs ++ ds) = t.getD c.toNat 0 :: (vals ts cs ++ vals us ds)
    rw [ih]
theorem sys_put {os : List Int} {ts us : List (List Int)} {tot tot2 : Int} (hs : Sys os ts tot) (hs2 : Sys os us tot2) (h : ts.length + us.length ≤ 100) : Sys os (ts ++ us) (linR os.reverse [tot, tot2] []) := by
  have r := lin_in_n hs.ord [tot, tot2] []
  have h2 := hs.two
  exact ⟨hs.ord, by rw [List.length_append]; omega, by rw [List.length_append]; exact h, fun t ht => (List.mem_append.mp ht).elim (hs.tabs t) (hs2.tabs t), r.1, r.2⟩
theorem code_put {os : List Int} {ts us : List (List Int)} {cs ds : List Int} (hc : Code os ts cs) (hd : Code os us ds) : Code os (ts ++ us) (cs ++ ds) :=
  ⟨by rw [List.length_append, List.length_append, hc.len, hd.len], fun x hx => (List.mem_append.mp hx).elim (hc.mem x) (hd.mem x)⟩
theorem off_putt {os : List Int} {ts us : List (List Int)} {tot tot2 : Int} {cs ds : List Int} (hs : Sys os ts tot) (hc : Code os ts cs) :
    linR os.reverse (vals (ts ++ us) (cs ++ ds)) [linR os.reverse [tot, tot2] []] = linR os.reverse [linR os.reverse (vals ts cs) [tot], linR os.reverse (vals us ds) [tot2]] [] := by
  rw [vals_app hc.len]
  have a := lin_out hs.ord.pos (vals ts cs ++ vals us ds) [] [tot, tot2] []
  rw [List.nil_append, List.append_nil] at a
  rw [a, lin_in hs.ord.pos]
  have b : linR os.reverse (vals ts cs ++ [linR os.reverse (vals us ds) [tot2]]) ([tot] ++ []) = linR os.reverse (linR os.reverse (vals us ds) [tot2] :: vals ts cs) [tot] := lin_perm (List.perm_append_singleton _ _) (List.Perm.refl _)
  rw [b, lin_in hs.ord.pos]
  exact lin_perm List.perm_append_comm (List.Perm.swap tot2 tot [])
end K08
end
section
set_option maxRecDepth 100000
set_option maxHeartbeats 4000000
namespace K08
open PySem PySem.Spec PyProof.Rows L2 G Lin
local macro_rules | `(tactic| walk_at "ev") => `(tactic| first
  | exact ev_var rfl | exact ev_int | exact ev_bl | exact ev_non | exact ev_str
  | (apply ev_op; (focus walk_at "ev"); (focus walk_at "ev"); (focus walk_at "op"))
  | (apply ev_cb; (focus walk_at "el"); (focus walk_at "fn"))
  | (apply ev_lst; (focus walk_at "el"); (show _ ≤ sizeLine; decide))
  | (apply ev_tup; (focus walk_at "el"); (show _ ≤ sizeLine; decide)))
local macro_rules | `(tactic| walk_at "el") => `(tactic| first
  | exact el_nil
  | (apply el_cons; (focus walk_at "ev"); (focus walk_at "el")))
local macro_rules | `(tactic| walk_at "fn") => `(tactic| first
  | exact fn_int | exact fn_len | exact fn_all | exact fn_listL | exact fn_listT)
local macro_rules | `(tactic| walk_at "op") => `(tactic| first
  | exact op_I0 (fun _ => .int _) | exact op_I0 (fun _ => .bl _) | exact opp_1 (op_I0 fun _ => .int _)
  | exact op_I (by show (_ : Int) ≠ 0; decide) (fun _ => .int _)
  | exact op_I (by assumption) (fun _ => .int _)
  | exact opp_1 (op_I (by assumption) fun _ => .int _)
  | exact opp_1 (opp_ixL (i := 0) rfl) | exact opp_2 (opp_ixT (i := 0) rfl) | exact opp_2 (opp_ixT (i := 1) rfl) | exact opp_2 (opp_ixT (i := 2) rfl))
theorem ne_int {K : PySem.W.Frag} {a b : Int} (h : a = b) : Op2 K (rNeD K) (.int a) (.int b) (.bool false) := opp_neD (sh_int _) (sh_int _) (by rw [eqv_int, h]; simp)
theorem ne_same {K : PySem.W.Frag} {d e : PyData} (h : Pl d) (he : d = e) : Op2 K (rNeD K) d e (.bool false) := he ▸ ne_self h
def SmallS (os : List Int) (ts : List (List Int)) (tot : Int) : Prop := Sys os ts tot ∧ prodI os ≤ 12 ∧ ts.length ≤ 20
theorem pls_code {os : List Int} {ts : List (List Int)} {tot : Int} {cs : List Int} (hs : Sys os ts tot) (hc : Code os ts cs) : PlS (.list (intsD cs)) := by
  have pp := (prod_take_le hs.ord os.length).2
  rw [List.take_length] at pp
  have h4 := hs.few
  refine PlS.ints (fun x hx => ?_) (by have := hc.len; omega)
  have := hc.mem x hx
  omega
theorem pls_perm {n : Nat} {names : List Int} (h : names.Perm (rgI n)) (hn : n ≤ 1000) : PlS (.list (intsD names)) := by
  obtain ⟨a, b, _⟩ := tab_nodup h
  refine PlS.ints (fun x hx => ?_) (by omega)
  have := b x hx
  omega
theorem pls_sys {os : List Int} {ts : List (List Int)} {tot : Int} (hs : Sys os ts tot) (h12 : prodI os ≤ 12) (hl : ts.length ≤ 100) : PlS (sysD os ts tot) := by
  have hl2 := ords_len hs.ord
  have t0 := hs.t0
  have t1 := hs.t1
  have pt : ∀ d ∈ tabsD ts, pl d = true ∧ d.depth ≤ 1 ∧ d.bulk ≤ 12 := fun d hd => by
    obtain ⟨t, ht, rfl⟩ := List.mem_map.mp hd
    have T := hs.tabs t ht
    refine ⟨pl_list (pl_ints fun x hx => ?_), depth_list (depth_ints t), ?_⟩
    · have := T.mem x hx
      omega
    · have : (PyData.list (intsD t)).bulk ≤ (t.map PyData.int).length * (0 + 1) := bulk_list (bulk_ints t)
      rw [List.length_map] at this
      have := T.len
      omega
  have d0 : ∀ d ∈ [PyData.tuple (intsD os), .list (tabsD ts), .int tot], pl d = true ∧ d.depth ≤ 2 ∧ d.bulk ≤ 1400 := fun d hd => by
    rcases List.mem_cons.mp hd with rfl | hd
    · refine ⟨pl_tuple (pl_ints fun x hx => ?_), ?_, ?_⟩
      · have := ord_le hs.ord hx
        omega
      · have : (PyData.tuple (intsD os)).depth ≤ 0 + 1 := depth_tuple (depth_ints os)
        omega
      · have : (PyData.tuple (intsD os)).bulk ≤ (os.map PyData.int).length * (0 + 1) := bulk_tuple (bulk_ints os)
        rw [List.length_map] at this
        omega
    rcases List.mem_cons.mp hd with rfl | hd
    · refine ⟨pl_list fun d h => (pt d h).1, depth_list fun d h => (pt d h).2.1, ?_⟩
      have := bulk_list fun d h => (pt d h).2.2
      rw [tabs_len] at this
      have : ts.length * (12 + 1) ≤ 100 * 13 := Nat.mul_le_mul_right _ hl
      omega
    · have : d = .int tot := by simpa using hd
      subst this
      exact ⟨pl_int (by omega), by rw [depth_int]; omega, by rw [bulk_int]; omega⟩
  refine ⟨pl_tuple fun d h => (d0 d h).1, ?_, ?_⟩
  · have := depth_tuple fun d h => (d0 d h).2.1
    unfold sysD
    omega
  · have := bulk_tuple fun d h => (d0 d h).2.2
    unfold sysD
    have e : [PyData.tuple (intsD os), .list (tabsD ts), .int tot].length = 3 := rfl
    rw [e] at this
    omega
theorem pl_tabs {os : List Int} {ts : List (List Int)} {tot : Int} (hs : Sys os ts tot) : Pl (.list (tabsD ts)) := by
  have pp := (prod_take_le hs.ord os.length).2
  rw [List.take_length] at pp
  have h4 := hs.few
  have pt : ∀ d ∈ tabsD ts, pl d = true ∧ d.depth ≤ 1 ∧ d.bulk ≤ 1000 := fun d hd => by
    obtain ⟨t, ht, rfl⟩ := List.mem_map.mp hd
    have T := hs.tabs t ht
    refine ⟨pl_list (pl_ints fun x hx => ?_), depth_list (depth_ints t), ?_⟩
    · have := T.mem x hx
      omega
    · have : (PyData.list (intsD t)).bulk ≤ (t.map PyData.int).length * (0 + 1) := bulk_list (bulk_ints t)
      rw [List.length_map] at this
      have := T.len
      omega
  refine ⟨pl_list fun d h => (pt d h).1, ?_, ?_⟩
  · have := depth_list fun d h => (pt d h).2.1
    omega
  · have := bulk_list fun d h => (pt d h).2.2
    rw [tabs_len] at this
    have : ts.length * (1000 + 1) ≤ 100 * 1001 := Nat.mul_le_mul_right _ h4
    omega
theorem mk_of {K : PySem.W.Frag} {os : List Int} {tss : List (List Int)} {tot : Int} {E : XK} (hs : Sys os tss tot) : ∀ B H0 H p ov l as Q, Loan K B H0 H p ov l as os tss tot → Same B H → MarkQ (l :: as) H Q → sMk K 3 [.ref p] H Q E := fun B H0 H p ov l as Q n s q => by
  have pp := (prod_take_le hs.ord os.length).2
  rw [List.take_length] at pp
  have hl := ords_len hs.ord
  have h4 := hs.few
  exact ⟨_, _, _, rfl, loan_mk n s (by omega) (by omega) fun t ht => by have := (hs.tabs t ht).len; omega, q⟩
def p_law_turned_right (ds : List PyData) (c : Nat) (R : PyData → Nat → Prop) : Prop := ∃ os ts tot cs, ds = [sysD os ts tot, .list (intsD cs)] ∧ SmallS os ts tot ∧ Code os ts cs ∧ c ≤ 2 ^ 36 ∧ ∀ c', c' ≤ c + 2000 → R (.bool true) c'
def p_law_cut_right (ds : List PyData) (c : Nat) (R : PyData → Nat → Prop) : Prop := ∃ os ts tot cs, ds = [sysD os ts tot, .list (intsD cs)] ∧ SmallS os ts tot ∧ Code os ts cs ∧ c ≤ 2 ^ 36 ∧ ∀ c', c' ≤ c + 20000 → R (.bool true) c'
theorem ar_law_turned_right (ds : List PyData) (c : Nat) (R : PyData → Nat → Prop) (h : p_law_turned_right ds c R) : ds.length = 2 := by obtain ⟨_, _, _, _, rfl, _⟩ := h; rfl
theorem ar_law_cut_right (ds : List PyData) (c : Nat) (R : PyData → Nat → Prop) (h : p_law_cut_right ds c R) : ds.length = 2 := by obtain ⟨_, _, _, _, rfl, _⟩ := h; rfl
theorem kw2 {K : PySem.W.Frag} {x y : PyData} {B : Hp} {ws : List V} (h : DaAll K B ws [x, y]) : ∃ a b, ws = [a, b] ∧ Da K B a x ∧ Da K B b y := by
  cases h with
  | cons h1 t =>
    cases t with
    | cons h2 t =>
      cases t
      exact ⟨_, _, rfl, h1, h2⟩
theorem kw3 {K : PySem.W.Frag} {x y z : PyData} {B : Hp} {ws : List V} (h : DaAll K B ws [x, y, z]) : ∃ a b c, ws = [a, b, c] ∧ Da K B a x ∧ Da K B b y ∧ Da K B c z := by
  cases h with
  | cons h1 t =>
    cases t with
    | cons h2 t =>
      cases t with
      | cons h3 t =>
        cases t
        exact ⟨_, _, _, rfl, h1, h2, h3⟩
theorem byN_data (names cs : List Int) : (intsD cs).map (fun e => PyData.int (names.getD (toI e).toNat 0)) = intsD (byN names cs) := by
  rw [intsD, List.map_map, intsD, byN, List.map_map]
  rfl
theorem byO_data (order cs : List Int) : (intsD order).map (fun e => PyData.int (cs.getD (toI e).toNat 0)) = intsD (byO order cs 0) := by
  rw [intsD, List.map_map, intsD, byO, List.map_map]
  rfl
theorem byO_tabs (order : List Int) (ts : List (List Int)) : (intsD order).map (fun e => PyData.list (intsD (ts.getD (toI e).toNat []))) = tabsD (byO order ts []) := by
  rw [intsD, List.map_map, tabsD, byO, List.map_map]
  rfl
theorem ren_data (names t : List Int) : (intsD (rgI t.length)).map (fun e => PyData.int (t.getD (names.idxOf (toI e)) 0)) = intsD (renT names t) := by
  rw [intsD, List.map_map, intsD, renT, List.map_map]
  rfl
theorem rent_data (names : List Int) (ts : List (List Int)) : (tabsD ts).map (fun e => PyData.list (intsD (renT names (tabIs e)))) = tabsD (ts.map (renT names)) := by
  unfold tabsD
  rw [List.map_map, List.map_map]
  refine List.map_congr_left fun t _ => ?_
  show PyData.list (intsD (renT names (tabIs (.list (intsD t))))) = .list (intsD (renT names t))
  rw [show tabIs (.list (intsD t)) = t from toI_ints t]
theorem sh_data (os t : List Int) (m : Int) : (intsD t).map (fun e => PyData.int (linR os.reverse [toI e, m] [])) = intsD (shT os t m) := by
  rw [intsD, List.map_map, intsD, shT, List.map_map]
  rfl
theorem sc_law_turned_right : FnScope ["generator", "system_there", "code_there", "orders_there", "wide", "spelt", "order", "off", "kept", "told", "at", "item", "table", "mark", "entry"] ["generator", "system_there", "code_there"] (defScope s_law_turned_right) := ⟨rfl, rfl, rfl, by decide +kernel, rfl, by decide +kernel, by decide +kernel⟩
theorem ok_law_turned_right {P : Program} {w : World} {K : PySem.W.Frag} {mg : Str → Option Value} {base : Heap} (B : Bi mg) (c_law_marked : Cal P w K mg base 5 "_law_marked" ["told"] (sMk K 3)) (c_law_plus : Cal P w K mg base 2 "_law_plus" ["orders_there", "one", "two"] (sp K p_law_plus)) (c_law_off : Cal P w K mg base 3 "_law_off" ["system_there", "code_there"] (sp K p_law_off)) (c_law_is_system : Cal P w K mg base 2 "_law_is_system" ["system_there", "orders_there", "wide"] (sp K p_law_is_system)) (c_added_to : Cal P w K mg base 7 "added_to" ["system", "place", "member"] (spQ K (qS K) p_added_to)) (c_law_random : Cal P w K mg base 2 "_law_random" ["generator", "bound"] (spG K p_law_random)) (c_law_size : Cal P w K mg base 1 "_law_size" ["orders_there"] (sp K p_law_size)) (c_reordered : Cal P w K mg base 7 "reordered" ["system", "places"] (spQ K (qS K) p_reordered)) (c_with_signs : Cal P w K mg base 7 "with_signs" ["system", "names"] (spQ K (qS K) p_with_signs)) (c_law_shuffled : Cal P w K mg base 3 "_law_shuffled" ["generator", "items"] (spG K p_law_shuffled)) (k_added_to_member_place_system : CalK P w K mg base 7 "added_to" ["system", "place", "member"] ["member", "place", "system"] kwg_added_to_member_place_system (spQ K (qS K) p_added_to)) (k_reordered_places_system : CalK P w K mg base 7 "reordered" ["system", "places"] ["places", "system"] kwg_reordered_places_system (spQ K (qS K) p_reordered)) (k_with_signs_names_system : CalK P w K mg base 7 "with_signs" ["system", "names"] ["names", "system"] kwg_with_signs_names_system (spQ K (qS K) p_with_signs)) (h : Has K mg "_law_turned_right" s_law_turned_right ["generator", "system_there", "code_there"]) :
    Cal P w K mg base 8 "_law_turned_right" ["generator", "system_there", "code_there"] (spG K p_law_turned_right) := by
  refine has_g h sc_law_turned_right rfl ar_law_turned_right (fun f cdv A outer s H E hg hr => ⟨_, (pss_cons (ps_asg (pe_tup (pa_cons (pe_ix (ixK K) (pv 1) pe_int (fun _ _ => rfl)) (pa_cons (pe_callB (lenK K) (by rfl) B.len PySem.boot_len (pa_cons (pe_ix (ixK K) (pv 1) pe_int (fun _ _ => rfl)) pa_nil)) pa_nil))) (pg_tup rfl (pgs_cons (pg_name (i := 3) sc_law_turned_right.nd rfl (Or.inr rfl)) (pgs_cons (pg_name (i := 4) sc_law_turned_right.nd rfl (Or.inl rfl)) pgs_nil))))
      (pss_cons (ps_asg (pe_tup (pa_cons (pg_cal hg c_law_shuffled hr (by rfl) (pa_cons (pv 0) (pa_cons (pe_listRg rfl (by rfl) B.list (prg_1 (by rfl) B.range (pg_cal hg c_law_size hr (by rfl) (pa_cons (pv 3) pa_nil)))) pa_nil))) (pa_cons (pg_cal hg c_law_shuffled hr (by rfl) (pa_cons (pv 0) (pa_cons (pe_listRg rfl (by rfl) B.list (prg_1 (by rfl) B.range (pv 4))) pa_nil))) (pa_cons (pg_cal hg c_law_off hr (by rfl) (pa_cons (pv 1) (pa_cons (pv 2) pa_nil))) pa_nil)))) (pg_tup rfl (pgs_cons (pg_name (i := 5) sc_law_turned_right.nd rfl (Or.inr rfl)) (pgs_cons (pg_name (i := 6) sc_law_turned_right.nd rfl (Or.inl rfl)) (pgs_cons (pg_name (i := 7) sc_law_turned_right.nd rfl (Or.inl rfl)) pgs_nil)))))
      (pss_cons (ps_set (i := 8) sc_law_turned_right.nd rfl (Or.inl rfl) (pe_callB (reprK K hg hr) (by rfl) B.repr (by decide +kernel) (pa_cons (pe_lst (pa_cons (pv 1) (pa_cons (pv 2) (pa_cons (pv 5) (pa_cons (pv 6) pa_nil))))) pa_nil)))
      (pss_cons (ps_set (i := 9) sc_law_turned_right.nd rfl (Or.inl rfl) (pg_cal hg c_with_signs hr (by rfl) (pa_cons (pv 1) (pa_cons (pv 5) pa_nil))))
      (pss_cons (ps_if (PW.pt (pw_or (pt_cmpR (neK K hr) (pe_ix (ixK K) (pv 9) pe_int (fun _ _ => rfl)) (pe_lc (own := [("table", 12)]) (g := (gName 12)) rfl sc_law_turned_right.nd (pi_or (pi_listK K (pe_ix (ixK K) (pv 1) pe_int (fun _ _ => rfl))) (pi_tupK K (pe_ix (ixK K) (pv 1) pe_int (fun _ _ => rfl)))) (blkOk_by (N := ["generator", "system_there", "code_there", "orders_there", "wide", "spelt", "order", "off", "kept", "told", "at", "item", "table", "mark", "entry"]) (sc := defScope s_law_turned_right) (own := [("table", 12)]) (by decide +kernel)) (fun _ _ _ _ _ => pg_name (i := 12) sc_law_turned_right.nd rfl (Or.inr rfl)) (fun _ _ _ _ _ => pts_nil) (fun _ _ _ _ _ => (pe_lc (own := [("mark", 13)]) (g := (gName 13)) rfl sc_law_turned_right.nd (pi_range1 (by rfl) B.range (pa_cons (pe_callB (lenK K) (by rfl) B.len PySem.boot_len (pa_cons (pv 12) pa_nil)) pa_nil)) (blkOk_by (N := ["generator", "system_there", "code_there", "orders_there", "wide", "spelt", "order", "off", "kept", "told", "at", "item", "table", "mark", "entry"]) (sc := { kind := ScopeKind.function, names := [(".0", NameKind.local), ("table", NameKind.cell), ("range", NameKind.globalImplicit), ("len", NameKind.globalImplicit), ("spelt", NameKind.cell)], isGenerator := false, isCoroutine := false }) (own := [("mark", 13)]) (by decide +kernel)) (fun _ _ _ _ _ => pg_name (i := 13) sc_law_turned_right.nd rfl (Or.inl rfl)) (fun _ _ _ _ _ => pts_nil) (fun _ _ _ _ _ => (pe_ix (ixK K) (pv 12) (bmK K PySem.F.plainAttrs_list PySem.F.slot_list_index PySem.F.type_list_index (indexK K) (pv 5) (pa_cons (pv 13) pa_nil)) (fun _ _ => rfl)))))) (nomark _)) (pw_or1 (pt_cmpR (neK K hr) (pe_ix (ixK K) (pv 9) pe_int (fun _ _ => rfl)) (pe_ix (ixK K) (pv 1) pe_int (fun _ _ => rfl)) (nomark _))))) (pss_one (ps_ret pe_bl)) pss_nil)
      (pss_cons (ps_if (PW.pt (pw_or (pt_not (pt_val (pg_cal hg c_law_is_system hr (by rfl) (pa_cons (pv 9) (pa_cons (pv 3) (pa_cons (pv 4) pa_nil)))))) (pw_or (pt_cmpR (neK K hr) (pv 9) (pg_calK hg k_with_signs_names_system hr (by rfl) (pk_cons (pv 5) (pk_cons (pv 1) pk_nil))) (nomark _)) (pw_or1 (pt_cmpR (neK K hr) (pg_cal hg c_law_off hr (by rfl) (pa_cons (pv 9) (pa_cons (pe_lc (own := [("mark", 13)]) (g := (gName 13)) rfl sc_law_turned_right.nd (pi_or (pi_listK K (pv 2)) (pi_tupK K (pv 2))) (blkOk_by (N := ["generator", "system_there", "code_there", "orders_there", "wide", "spelt", "order", "off", "kept", "told", "at", "item", "table", "mark", "entry"]) (sc := defScope s_law_turned_right) (own := [("mark", 13)]) (by decide +kernel)) (fun _ _ _ _ _ => pg_name (i := 13) sc_law_turned_right.nd rfl (Or.inl rfl)) (fun _ _ _ _ _ => pts_nil) (fun _ _ _ _ _ => (pe_ix (ixK K) (pv 5) (pv 13) (fun _ _ => rfl)))) pa_nil))) (pv 7) (nomark _)))))) (pss_one (ps_ret pe_bl)) pss_nil)
      (pss_cons (ps_if (pt_not (pt_val (pg_cal hg c_law_marked hr (by rfl) (pa_cons (pv 9) pa_nil)))) (pss_one (ps_ret pe_bl)) pss_nil)
      (pss_cons (ps_set (i := 9) sc_law_turned_right.nd rfl (Or.inl rfl) (pg_cal hg c_reordered hr (by rfl) (pa_cons (pv 1) (pa_cons (pv 6) pa_nil))))
      (pss_cons (ps_if (PW.pt (pw_or (pt_cmpR (neK K hr) (pe_ix (ixK K) (pv 9) pe_int (fun _ _ => rfl)) (pe_lc (own := [("at", 10)]) (g := (gName 10)) rfl sc_law_turned_right.nd (pi_or (pi_listK K (pv 6)) (pi_tupK K (pv 6))) (blkOk_by (N := ["generator", "system_there", "code_there", "orders_there", "wide", "spelt", "order", "off", "kept", "told", "at", "item", "table", "mark", "entry"]) (sc := defScope s_law_turned_right) (own := [("at", 10)]) (by decide +kernel)) (fun _ _ _ _ _ => pg_name (i := 10) sc_law_turned_right.nd rfl (Or.inl rfl)) (fun _ _ _ _ _ => pts_nil) (fun _ _ _ _ _ => (pe_ix (ixK K) (pe_ix (ixK K) (pv 1) pe_int (fun _ _ => rfl)) (pv 10) (fun _ _ => rfl)))) (nomark _)) (pw_or1 (pt_cmpR (neK K hr) (pe_ix (ixK K) (pv 9) pe_int (fun _ _ => rfl)) (pe_ix (ixK K) (pv 1) pe_int (fun _ _ => rfl)) (nomark _))))) (pss_one (ps_ret pe_bl)) pss_nil)
      (pss_cons (ps_if (PW.pt (pw_or (pt_not (pt_val (pg_cal hg c_law_is_system hr (by rfl) (pa_cons (pv 9) (pa_cons (pv 3) (pa_cons (pv 4) pa_nil)))))) (pw_or (pt_cmpR (neK K hr) (pv 9) (pg_calK hg k_reordered_places_system hr (by rfl) (pk_cons (pv 6) (pk_cons (pv 1) pk_nil))) (nomark _)) (pw_or1 (pt_cmpR (neK K hr) (pg_cal hg c_law_off hr (by rfl) (pa_cons (pv 9) (pa_cons (pe_lc (own := [("at", 10)]) (g := (gName 10)) rfl sc_law_turned_right.nd (pi_or (pi_listK K (pv 6)) (pi_tupK K (pv 6))) (blkOk_by (N := ["generator", "system_there", "code_there", "orders_there", "wide", "spelt", "order", "off", "kept", "told", "at", "item", "table", "mark", "entry"]) (sc := defScope s_law_turned_right) (own := [("at", 10)]) (by decide +kernel)) (fun _ _ _ _ _ => pg_name (i := 10) sc_law_turned_right.nd rfl (Or.inl rfl)) (fun _ _ _ _ _ => pts_nil) (fun _ _ _ _ _ => (pe_ix (ixK K) (pv 2) (pv 10) (fun _ _ => rfl)))) pa_nil))) (pv 7) (nomark _)))))) (pss_one (ps_ret pe_bl)) pss_nil)
      (pss_cons (ps_if (pt_not (pt_val (pg_cal hg c_law_marked hr (by rfl) (pa_cons (pv 9) pa_nil)))) (pss_one (ps_ret pe_bl)) pss_nil)
      (pss_cons (ps_asg (pe_tup (pa_cons (pg_cal hg c_law_random hr (by rfl) (pa_cons (pv 0) (pa_cons (pv 4) pa_nil))) (pa_cons (pg_cal hg c_law_random hr (by rfl) (pa_cons (pv 0) (pa_cons (pg_cal hg c_law_size hr (by rfl) (pa_cons (pv 3) pa_nil)) pa_nil))) pa_nil))) (pg_tup rfl (pgs_cons (pg_name (i := 10) sc_law_turned_right.nd rfl (Or.inl rfl)) (pgs_cons (pg_name (i := 11) sc_law_turned_right.nd rfl (Or.inr rfl)) pgs_nil))))
      (pss_cons (ps_set (i := 9) sc_law_turned_right.nd rfl (Or.inl rfl) (pg_cal hg c_added_to hr (by rfl) (pa_cons (pv 1) (pa_cons (pv 10) (pa_cons (pv 11) pa_nil)))))
      (pss_cons (ps_if (PW.pt (pw_or (pt_not (pt_val (pg_cal hg c_law_is_system hr (by rfl) (pa_cons (pv 9) (pa_cons (pv 3) (pa_cons (pv 4) pa_nil)))))) (pw_or (pt_cmpR (neK K hr) (pv 9) (pg_calK hg k_added_to_member_place_system hr (by rfl) (pk_cons (pv 11) (pk_cons (pv 10) (pk_cons (pv 1) pk_nil)))) (nomark _)) (pw_or1 (pt_cmpR (neK K hr) (pg_cal hg c_law_off hr (by rfl) (pa_cons (pv 9) (pa_cons (pv 2) pa_nil))) (pv 7) (nomark _)))))) (pss_one (ps_ret pe_bl)) pss_nil)
      (pss_cons (ps_if (PW.pt (pw_or (pt_cmpR (neK K hr) (pe_ix (ixK K) (pv 9) pe_int (fun _ _ => rfl)) (pg_cal hg c_law_plus hr (by rfl) (pa_cons (pv 3) (pa_cons (pe_ix (ixK K) (pv 1) pe_int (fun _ _ => rfl)) (pa_cons (pv 11) pa_nil)))) (nomark _)) (pw_or1 (pt_cmpR (neK K hr) (pe_ix (ixK K) (pe_ix (ixK K) (pv 9) pe_int (fun _ _ => rfl)) (pv 10) (fun _ _ => rfl)) (pe_lc (own := [("entry", 14)]) (g := (gName 14)) rfl sc_law_turned_right.nd (pi_or (pi_listK K (pe_ix (ixK K) (pe_ix (ixK K) (pv 1) pe_int (fun _ _ => rfl)) (pv 10) (fun _ _ => rfl))) (pi_tupK K (pe_ix (ixK K) (pe_ix (ixK K) (pv 1) pe_int (fun _ _ => rfl)) (pv 10) (fun _ _ => rfl)))) (blkOk_by (N := ["generator", "system_there", "code_there", "orders_there", "wide", "spelt", "order", "off", "kept", "told", "at", "item", "table", "mark", "entry"]) (sc := defScope s_law_turned_right) (own := [("entry", 14)]) (by decide +kernel)) (fun _ _ _ _ _ => pg_name (i := 14) sc_law_turned_right.nd rfl (Or.inl rfl)) (fun _ _ _ _ _ => pts_nil) (fun _ _ _ _ _ => (pg_cal hg c_law_plus hr (by rfl) (pa_cons (pv 3) (pa_cons (pv 14) (pa_cons (pv 11) pa_nil)))))) (nomark _))))) (pss_one (ps_ret pe_bl)) pss_nil)
      (pss_one (ps_ret (pe_and (pg_cal hg c_law_marked hr (by rfl) (pa_cons (pv 9) pa_nil)) (pe_one (pe_cmpR (eqRK K hr) (pe_callB (reprK K hg hr) (by rfl) B.repr (by decide +kernel) (pa_cons (pe_lst (pa_cons (pv 1) (pa_cons (pv 2) (pa_cons (pv 5) (pa_cons (pv 6) pa_nil))))) pa_nil)) (pv 8) (nomark _))))))))))))))))))))), fun ds c R hp => ?_⟩) (List.cons_ne_nil _ _)
  obtain ⟨os, ts, tot, cs, rfl, ⟨hs, h12, h20⟩, hc, hcB, hR⟩ := hp
  have hl := hc.len
  have h4 := hs.few
  have h2 := hs.two
  have p0 := prod_pos hs.ord.2.1
  obtain ⟨n, hn⟩ : ∃ n : Nat, prodI os = n := ⟨(prodI os).toNat, by omega⟩
  have hnt : (prodI os).toNat = n := by omega
  have plsS := pls_sys hs h12 (by omega)
  have plsC := pls_code hs hc
  refine dg_seq (M := fun ρ c' => ρ = [none, some (sysD os ts tot), some (.list (intsD cs)), some (.tuple (intsD os)), some (.int (ts.length : Nat)), none, none, none, none, none, none, none, none, none, none] ∧ c' = c) (dg_asg2 (P := fun d c' => d = .tuple [.tuple (intsD os), .int (ts.length : Nat)] ∧ c' = c) (eg_pure (ev_tup (el_cons (ev_op (ev_var rfl) ev_int (opp_2 (opp_ixT (i := 0) rfl))) (el_cons (by rw [← tabs_len ts]; exact ev_cb (el_cons (ev_op (ev_var rfl) ev_int (opp_2 (opp_ixT (i := 1) rfl))) el_nil) fn_len) el_nil)) (by show 2 ≤ sizeLine; decide)) ⟨rfl, rfl⟩) (by decide) (by decide) ?_) ?_
  · rintro d c' ⟨rfl, rfl⟩
    exact ⟨_, _, rfl, rfl, rfl⟩
  rintro ρ' c' ⟨rfl, rfl⟩
  refine dg_seq (M := fun ρ c2 => ∃ spelt order, ρ = [none, some (sysD os ts tot), some (.list (intsD cs)), some (.tuple (intsD os)), some (.int (ts.length : Nat)), some (.list (intsD spelt)), some (.list (intsD order)), some (.int (linR os.reverse (vals ts cs) [tot])), none, none, none, none, none, none, none] ∧ spelt.Perm (rgI n) ∧ order.Perm (rgI ts.length) ∧ c2 ≤ c' + 200) (dg_asg3 (P := fun d c2 => ∃ spelt order, d = .tuple [.list (intsD spelt), .list (intsD order), .int (linR os.reverse (vals ts cs) [tot])] ∧ spelt.Perm (rgI n) ∧ order.Perm (rgI ts.length) ∧ c2 ≤ c' + 200) (eg_tup (P1 := fun ds c2 => ∃ spelt order, ds = [.list (intsD spelt), .list (intsD order), .int (linR os.reverse (vals ts cs) [tot])] ∧ spelt.Perm (rgI n) ∧ order.Perm (rgI ts.length) ∧ c2 ≤ c' + 200) (el_c (P1 := fun d c2 => (∃ spelt : List Int, d = .list (intsD spelt) ∧ spelt.Perm (rgI n)) ∧ c2 = c' + 4 * n) (eg_call (el_cons (ev_listRg (n := n) (ev_call (el_cons (ev_var rfl) el_nil) ⟨os, rfl, hs.ord, by rw [hn]⟩) (by omega)) el_nil) (R := fun d c2 => (∃ spelt : List Int, d = .list (intsD spelt) ∧ spelt.Perm (rgI n)) ∧ c2 = c' + 4 * n) ⟨rgI n, by rw [rg_eq], by rw [rg_len]; omega, by omega, fun ys hy => ⟨⟨ys, rfl, hy⟩, by rw [rg_len]⟩⟩ fun _ _ h => h) ?_) ?_) (by decide) (by decide) (by decide) ?_) ?_
  · rintro d c2 ⟨⟨spelt, rfl, hsp⟩, rfl⟩
    refine el_c (P1 := fun d c2 => (∃ order : List Int, d = .list (intsD order) ∧ order.Perm (rgI ts.length)) ∧ c2 = c' + 4 * n + 4 * ts.length) (eg_call (el_cons (ev_listRg (n := ts.length) (ev_var rfl) (by omega)) el_nil) (R := fun d c2 => (∃ order : List Int, d = .list (intsD order) ∧ order.Perm (rgI ts.length)) ∧ c2 = c' + 4 * n + 4 * ts.length) ⟨rgI ts.length, by rw [rg_eq], by rw [rg_len]; omega, by omega, fun ys hy => ⟨⟨ys, rfl, hy⟩, by rw [rg_len]⟩⟩ fun _ _ h => h) ?_
    rintro d c3 ⟨⟨order, rfl, hor⟩, rfl⟩
    exact el_pure (el_cons (ev_call (el_cons (ev_var rfl) (el_cons (ev_var rfl) el_nil)) ⟨os, ts, tot, cs, rfl, hs, hc, rfl⟩) el_nil) ⟨spelt, order, rfl, hsp, hor, by omega⟩
  · rintro ds c2 ⟨spelt, order, rfl, h⟩
    exact ⟨by show 3 ≤ sizeLine; decide, spelt, order, rfl, h⟩
  · rintro d c2 ⟨spelt, order, rfl, h⟩
    exact ⟨_, _, _, rfl, spelt, order, rfl, h⟩
  rintro ρ' c2 ⟨spelt, order, rfl, hsp, hor, hc2⟩
  have hspT : spelt.Perm (rgI (prodI os).toNat) := by rw [hnt]; exact hsp
  obtain ⟨sp1, sp2, sp3⟩ := tab_nodup hsp
  have plK : Pl (.list [sysD os ts tot, .list (intsD cs), .list (intsD spelt), .list (intsD order)]) := PlS.list (fun d hd => by
    rcases List.mem_cons.mp hd with rfl | hd
    · exact plsS
    rcases List.mem_cons.mp hd with rfl | hd
    · exact plsC
    rcases List.mem_cons.mp hd with rfl | hd
    · exact pls_perm hsp (by omega)
    · have : d = .list (intsD order) := by simpa using hd
      rw [this]
      exact pls_perm hor (by omega)) (by show 4 ≤ 20; decide)
  generalize hkk : (PyData.list [sysD os ts tot, .list (intsD cs), .list (intsD spelt), .list (intsD order)]).shown = kk
  have evK : ∀ {ρ : Rho}, ρ[1]? = some (some (sysD os ts tot)) → ρ[2]? = some (some (.list (intsD cs))) → ρ[5]? = some (some (.list (intsD spelt))) → ρ[6]? = some (some (.list (intsD order))) → Ev K (tCB (rRepr K) (tCons (tLst (tCons (tVar 1) (tCons (tVar 2) (tCons (tVar 5) (tCons (tVar 6) tNil))))) tNil)) ρ (.str kk) := fun {ρ} a b c d => by
    rw [← hkk]
    exact ev_cb (el_cons (ev_lst (el_cons (ev_var a) (el_cons (ev_var b) (el_cons (ev_var c) (el_cons (ev_var d) el_nil)))) (by show 4 ≤ sizeLine; decide)) el_nil) plK.repr
  refine dg_seq (M := fun ρ c3 => ρ = [none, some (sysD os ts tot), some (.list (intsD cs)), some (.tuple (intsD os)), some (.int (ts.length : Nat)), some (.list (intsD spelt)), some (.list (intsD order)), some (.int (linR os.reverse (vals ts cs) [tot])), some (.str kk), none, none, none, none, none, none] ∧ c3 = c2) (dg_set (P := fun d c3 => d = .str kk ∧ c3 = c2) (eg_pure (evK rfl rfl rfl rfl) ⟨rfl, rfl⟩) (by decide) ?_) ?_
  · rintro d c3 ⟨rfl, rfl⟩
    exact ⟨rfl, rfl⟩
  rintro ρ' c3 ⟨rfl, rfl⟩
  have hs1 := sys_ren hs hn hsp
  have hc1 := code_ren hc hn hsp
  have l1 : (ts.map (renT spelt)).length = ts.length := List.length_map ..
  have off1 : linR os.reverse (vals (ts.map (renT spelt)) (byN spelt cs)) [tot] = linR os.reverse (vals ts cs) [tot] := by
    rw [vals_ren hsp (fun t ht => by have := (hs.tabs t ht).len; omega) fun x hx => by have := hc.mem x hx; rw [hn] at this; exact this]
  refine dg_lend (os := os) (tss := ts.map (renT spelt)) (tot := tot) (evq_call aft_qS (x := (os, ts.map (renT spelt), tot)) (el_cons (ev_var rfl) (el_cons (ev_var rfl) el_nil)) ⟨os, ts, tot, spelt, rfl, hs, hspT, rfl⟩) (by decide) (by show 9 < 15; decide) ?_
  refine dl_if ?_ (by show 9 < 15; decide) ?_
  · refine eb_or (a := false) (eb_test (ev_op (ev_op (ev_var rfl) ev_int (opp_2 (opp_ixT (i := 1) rfl))) (ev_map (it_1 (it_list (ev_op (ev_var rfl) ev_int (opp_2 (opp_ixT (i := 1) rfl))))) (by rw [tabs_len]; omega) (fun e => PyData.list (intsD (renT spelt (tabIs e)))) fun e he => ?_) (ne_same (pl_tabs hs1) (by rw [rent_data]; rfl))) ) (fun _ => ?_) (fun h => nomatch h)
    · obtain ⟨t, ht, rfl⟩ := List.mem_map.mp he
      have T := hs.tabs t ht
      have tl : t.length = n := by have := T.len; omega
      refine ⟨_, tgw_name, ?_⟩
      have e1 : renT spelt (tabIs (.list (intsD t))) = renT spelt t := congrArg (renT spelt) (toI_ints t)
      rw [e1, ← ren_data]
      rw [← rg_eq]
      refine ev_map (it_range1 (n := t.length) (el_cons (by rw [← ints_len t]; exact ev_cb (el_cons (ev_var rfl) el_nil) fn_len) el_nil) (by omega)) (by rw [List.length_map, List.length_range]; omega) _ fun e he => ?_
      obtain ⟨m, hm, rfl⟩ := List.mem_map.mp he
      have hm' := List.mem_range.mp hm
      obtain ⟨j, hj, hsj⟩ := perm_at hsp (m := (m : Int)) (by omega) (by omega)
      have ej : spelt.idxOf (m : Int) = j := idx_at sp3 hsj
      refine ⟨_, tgw_name, ev_op (ev_var rfl) (ev_index (ns := spelt) (ev_var rfl) (ev_var rfl) sp3 hsj) (opp_1 (opp_ixL ?_))⟩
      show (intsD t)[j]? = some (.int (t.getD (spelt.idxOf (m : Int)) 0))
      rw [ej]
      exact get_ints (by omega)
    · exact eb_test (ev_op (ev_op (ev_var rfl) ev_int (opp_2 (opp_ixT (i := 2) rfl))) (ev_op (ev_var rfl) ev_int (opp_2 (opp_ixT (i := 2) rfl))) (ne_int rfl))
  refine dl_if ?_ (by show 9 < 15; decide) ?_
  · refine eb_or (a := false) (eb_not (a := true) (eb_B (ev_call (el_cons (ev_var rfl) (el_cons (ev_var rfl) (el_cons (ev_var rfl) el_nil))) ⟨os, ts.map (renT spelt), tot, ts.length, rfl, hs1, l1, rfl⟩)) rfl) (fun _ => ?_) (fun h => nomatch h)
    refine eb_or (a := false) (eb_test (ev_op (ev_var rfl) (EvQ.ev (os := os) (tss := ts.map (renT spelt)) (tot := tot) (evq_callK aft_qS (x := (os, ts.map (renT spelt), tot)) (zs := [.list (intsD spelt), sysD os ts tot]) (el_cons (ev_var rfl) (el_cons (ev_var rfl) el_nil)) ⟨os, ts, tot, spelt, rfl, hs, hspT, rfl⟩ fun B ws h => ?_)) (ne_self ((pls_sys hs1 h12 (by rw [l1]; omega)).pl)))) (fun _ => ?_) (fun h => nomatch h)
    · obtain ⟨a, b, rfl, ha, hb⟩ := kw2 h
      exact .cons hb (.cons ha .nil)
    · refine eb_test (ev_op (ev_call (el_cons (ev_var rfl) (el_cons (ev_map (it_1 (it_list (ev_var rfl))) (by rw [ints_len]; omega) (fun e => PyData.int (spelt.getD (toI e).toNat 0)) fun e he => ?_) el_nil)) ⟨os, ts.map (renT spelt), tot, byN spelt cs, by rw [byN_data]; rfl, hs1, hc1, rfl⟩) (ev_var rfl) (ne_int off1))
      obtain ⟨c0, hc0, rfl⟩ := List.mem_map.mp he
      have r := hc.mem c0 hc0
      rw [hn] at r
      have ec : ((c0.toNat : Nat) : Int) = c0 := Int.toNat_of_nonneg r.1
      refine ⟨_, tgw_name, ev_op (ev_var rfl) (y := .int ((c0.toNat : Nat) : Int)) (by rw [ec]; exact ev_var rfl) (opp_1 (opp_ixL (get_ints ?_)))⟩
      omega
  refine dl_mark (mk_of hs1) ?_
  have hs2 := sys_reo hs hor
  have hc2' := code_reo hc hor
  have l2 : (byO order ts []).length = ts.length := by unfold byO; rw [List.length_map, hor.length_eq, rg_len]
  obtain ⟨or1, or2, or3⟩ := tab_nodup hor
  have off2 : linR os.reverse (vals (byO order ts []) (byO order cs 0)) [tot] = linR os.reverse (vals ts cs) [tot] := lin_perm (vals_reo hl hor) (List.Perm.refl _)
  refine dg_lend (os := os) (tss := byO order ts []) (tot := tot) (evq_call aft_qS (x := (os, byO order ts [], tot)) (el_cons (ev_var rfl) (el_cons (ev_var rfl) el_nil)) ⟨os, ts, tot, order, rfl, hs, hor, rfl⟩) (by decide) (by show 9 < 15; decide) ?_
  refine dl_if ?_ (by show 9 < 15; decide) ?_
  · refine eb_or (a := false) (eb_test (ev_op (ev_op (ev_var rfl) ev_int (opp_2 (opp_ixT (i := 1) rfl))) (ev_map (it_1 (it_list (ev_var rfl))) (by rw [ints_len]; omega) (fun e => PyData.list (intsD (ts.getD (toI e).toNat []))) fun e he => ?_) (ne_same (pl_tabs hs2) (by rw [byO_tabs]; rfl)))) (fun _ => ?_) (fun h => nomatch h)
    · obtain ⟨p, hp, rfl⟩ := List.mem_map.mp he
      have r := or2 p hp
      have ep : ((p.toNat : Nat) : Int) = p := Int.toNat_of_nonneg r.1
      have ht : ts[p.toNat]? = some (ts.getD p.toNat []) := by rw [List.getD_eq_getElem?_getD, List.getElem?_eq_getElem (by omega)]; rfl
      exact ⟨_, tgw_name, ev_op (ev_op (ev_var rfl) ev_int (opp_2 (opp_ixT (i := 1) rfl))) (y := .int ((p.toNat : Nat) : Int)) (by rw [ep]; exact ev_var rfl) (opp_1 (opp_ixL (at_tabs ht)))⟩
    · exact eb_test (ev_op (ev_op (ev_var rfl) ev_int (opp_2 (opp_ixT (i := 2) rfl))) (ev_op (ev_var rfl) ev_int (opp_2 (opp_ixT (i := 2) rfl))) (ne_int rfl))
  refine dl_if ?_ (by show 9 < 15; decide) ?_
  · refine eb_or (a := false) (eb_not (a := true) (eb_B (ev_call (el_cons (ev_var rfl) (el_cons (ev_var rfl) (el_cons (ev_var rfl) el_nil))) ⟨os, byO order ts [], tot, ts.length, rfl, hs2, l2, rfl⟩)) rfl) (fun _ => ?_) (fun h => nomatch h)
    refine eb_or (a := false) (eb_test (ev_op (ev_var rfl) (EvQ.ev (os := os) (tss := byO order ts []) (tot := tot) (evq_callK aft_qS (x := (os, byO order ts [], tot)) (zs := [.list (intsD order), sysD os ts tot]) (el_cons (ev_var rfl) (el_cons (ev_var rfl) el_nil)) ⟨os, ts, tot, order, rfl, hs, hor, rfl⟩ fun B ws h => ?_)) (ne_self ((pls_sys hs2 h12 (by rw [l2]; omega)).pl)))) (fun _ => ?_) (fun h => nomatch h)
    · obtain ⟨a, b, rfl, ha, hb⟩ := kw2 h
      exact .cons hb (.cons ha .nil)
    · refine eb_test (ev_op (ev_call (el_cons (ev_var rfl) (el_cons (ev_map (it_1 (it_list (ev_var rfl))) (by rw [ints_len]; omega) (fun e => PyData.int (cs.getD (toI e).toNat 0)) fun e he => ?_) el_nil)) ⟨os, byO order ts [], tot, byO order cs 0, by rw [byO_data]; rfl, hs2, hc2', rfl⟩) (ev_var rfl) (ne_int off2))
      obtain ⟨p, hp, rfl⟩ := List.mem_map.mp he
      have r := or2 p hp
      have ep : ((p.toNat : Nat) : Int) = p := Int.toNat_of_nonneg r.1
      refine ⟨_, tgw_name, ev_op (ev_var rfl) (y := .int ((p.toNat : Nat) : Int)) (by rw [ep]; exact ev_var rfl) (opp_1 (opp_ixL (get_ints ?_)))⟩
      omega
  refine dl_mark (mk_of hs2) ?_
  refine dg_seq (M := fun ρ c4 => ∃ (p : Nat) (m : Int), ρ = [none, some (sysD os ts tot), some (.list (intsD cs)), some (.tuple (intsD os)), some (.int (ts.length : Nat)), some (.list (intsD spelt)), some (.list (intsD order)), some (.int (linR os.reverse (vals ts cs) [tot])), some (.str kk), none, some (.int (p : Int)), some (.int m), none, none, none] ∧ p < ts.length ∧ 0 ≤ m ∧ m < prodI os ∧ c4 ≤ c' + 300) (dg_asg2 (P := fun d c4 => ∃ (p : Nat) (m : Int), d = .tuple [.int (p : Int), .int m] ∧ p < ts.length ∧ 0 ≤ m ∧ m < prodI os ∧ c4 ≤ c' + 300) (eg_tup (P1 := fun ds c4 => ∃ (p : Nat) (m : Int), ds = [.int (p : Int), .int m] ∧ p < ts.length ∧ 0 ≤ m ∧ m < prodI os ∧ c4 ≤ c' + 300) (el_c (P1 := fun d c4 => (∃ p : Nat, d = .int (p : Int) ∧ p < ts.length) ∧ c4 ≤ c' + 250) (eg_call (el_cons (ev_var rfl) el_nil) (R := fun d c4 => (∃ p : Nat, d = .int (p : Int) ∧ p < ts.length) ∧ c4 ≤ c' + 250) ⟨_, rfl, by omega, by omega, by omega, fun i h0 h1 => ⟨⟨i.toNat, by rw [Int.toNat_of_nonneg h0], by omega⟩, by omega⟩⟩ fun _ _ h => h) ?_) ?_) (by decide) (by decide) ?_) ?_
  · rintro d c4 ⟨⟨p, rfl, hp⟩, hc4⟩
    exact el_c (P1 := fun d c5 => ∃ m : Int, d = .int m ∧ 0 ≤ m ∧ m < prodI os ∧ c5 ≤ c' + 300) (eg_call (el_cons (ev_call (el_cons (ev_var rfl) el_nil) ⟨os, rfl, hs.ord, rfl⟩) el_nil) (R := fun d c5 => ∃ m : Int, d = .int m ∧ 0 ≤ m ∧ m < prodI os ∧ c5 ≤ c' + 300) ⟨_, rfl, by omega, by omega, by omega, fun i h0 h1 => ⟨i, rfl, h0, h1, by omega⟩⟩ fun _ _ h => h) fun d c5 ⟨m, hd, m0, m1, hc5⟩ => el_n ⟨p, m, by rw [hd], hp, m0, m1, hc5⟩
  · rintro ds c4 ⟨p, m, rfl, h⟩
    exact ⟨by show 2 ≤ sizeLine; decide, p, m, rfl, h⟩
  · rintro d c4 ⟨p, m, rfl, h⟩
    exact ⟨_, _, rfl, p, m, rfl, h⟩
  rintro ρ' c4 ⟨p, m, rfl, hp, m0, m1, hc4⟩
  have ht : ts[p]? = some (ts.getD p []) := by rw [List.getD_eq_getElem?_getD, List.getElem?_eq_getElem hp]; rfl
  have T := hs.tabs _ (List.mem_of_getElem? ht)
  have hs3 := sys_add (m := m) hs hp
  have hc3 : Code os (ts.set p (shT os (ts.getD p []) m)) cs := code_set hc
  have l3 : (ts.set p (shT os (ts.getD p []) m)).length = ts.length := List.length_set ..
  have ht3 : (ts.set p (shT os (ts.getD p []) m))[p]? = some (shT os (ts.getD p []) m) := List.getElem?_set_self hp
  have T3 := hs3.tabs _ (List.mem_of_getElem? ht3)
  refine dg_lend (os := os) (tss := ts.set p (shT os (ts.getD p []) m)) (tot := linR os.reverse [tot, m] []) (evq_call aft_qS (x := (os, ts.set p (shT os (ts.getD p []) m), linR os.reverse [tot, m] [])) (el_cons (ev_var rfl) (el_cons (ev_var rfl) (el_cons (ev_var rfl) el_nil))) ⟨os, ts, tot, p, m, rfl, hs, hp, m0, m1, rfl⟩) (by decide) (by show 9 < 15; decide) ?_
  refine dl_if ?_ (by show 9 < 15; decide) ?_
  · refine eb_or (a := false) (eb_not (a := true) (eb_B (ev_call (el_cons (ev_var rfl) (el_cons (ev_var rfl) (el_cons (ev_var rfl) el_nil))) ⟨os, _, _, ts.length, rfl, hs3, l3, rfl⟩)) rfl) (fun _ => ?_) (fun h => nomatch h)
    refine eb_or (a := false) (eb_test (ev_op (ev_var rfl) (EvQ.ev (os := os) (tss := ts.set p (shT os (ts.getD p []) m)) (tot := linR os.reverse [tot, m] []) (evq_callK aft_qS (x := (os, ts.set p (shT os (ts.getD p []) m), linR os.reverse [tot, m] [])) (zs := [.int m, .int (p : Int), sysD os ts tot]) (el_cons (ev_var rfl) (el_cons (ev_var rfl) (el_cons (ev_var rfl) el_nil))) ⟨os, ts, tot, p, m, rfl, hs, hp, m0, m1, rfl⟩ fun B ws h => ?_)) (ne_self ((pls_sys hs3 h12 (by rw [l3]; omega)).pl)))) (fun _ => ?_) (fun h => nomatch h)
    · obtain ⟨a, b, c0, rfl, ha, hb, hcc⟩ := kw3 h
      exact .cons hcc (.cons hb (.cons ha .nil))
    · exact eb_test (ev_op (ev_call (el_cons (ev_var rfl) (el_cons (ev_var rfl) el_nil)) ⟨os, _, _, cs, rfl, hs3, hc3, rfl⟩) (ev_var rfl) (ne_int (off_add hs hc hp)))
  refine dl_if ?_ (by show 9 < 15; decide) ?_
  · refine eb_or (a := false) (eb_test (ev_op (ev_op (ev_var rfl) ev_int (opp_2 (opp_ixT (i := 2) rfl))) (ev_call (el_cons (ev_var rfl) (el_cons (ev_op (ev_var rfl) ev_int (opp_2 (opp_ixT (i := 2) rfl))) (el_cons (ev_var rfl) el_nil))) ⟨os, _, _, rfl, hs.ord, rfl⟩) (ne_int rfl))) (fun _ => ?_) (fun h => nomatch h)
    refine eb_test (ev_op (ev_op (ev_op (ev_var rfl) ev_int (opp_2 (opp_ixT (i := 1) rfl))) (ev_var rfl) (opp_1 (opp_ixL (at_tabs ht3)))) (ev_map (it_1 (it_list (ev_op (ev_op (ev_var rfl) ev_int (opp_2 (opp_ixT (i := 1) rfl))) (ev_var rfl) (opp_1 (opp_ixL (at_tabs ht)))))) (by rw [ints_len]; have := T.len; omega) (fun e => PyData.int (linR os.reverse [toI e, m] [])) fun e he => ?_) (ne_same (Pl.ints (fun x hx => ?_) ?_) (by rw [sh_data])))
    · obtain ⟨z, hz, rfl⟩ := List.mem_map.mp he
      exact ⟨_, tgw_name, ev_call (el_cons (ev_var rfl) (el_cons (ev_var rfl) (el_cons (ev_var rfl) el_nil))) ⟨os, _, _, rfl, hs.ord, rfl⟩⟩
    · have := T3.mem x hx
      omega
    · have := T3.len
      omega
  exact dl_ret (mk_of hs3) (ev_op (evK rfl rfl rfl rfl) (ev_var rfl) eqS_self) (hR _ (by omega))
end K08
end
section
set_option maxRecDepth 100000
set_option maxHeartbeats 4000000
namespace K08
open PySem PySem.Spec PyProof.Rows L2 G Lin
local macro_rules | `(tactic| walk_at "ev") => `(tactic| first
  | exact ev_var rfl | exact ev_int | exact ev_bl | exact ev_non | exact ev_str
  | (apply ev_op; (focus walk_at "ev"); (focus walk_at "ev"); (focus walk_at "op"))
  | (apply ev_cb; (focus walk_at "el"); (focus walk_at "fn"))
  | (apply ev_lst; (focus walk_at "el"); (show _ ≤ sizeLine; decide))
  | (apply ev_tup; (focus walk_at "el"); (show _ ≤ sizeLine; decide)))
local macro_rules | `(tactic| walk_at "el") => `(tactic| first
  | exact el_nil
  | (apply el_cons; (focus walk_at "ev"); (focus walk_at "el")))
local macro_rules | `(tactic| walk_at "fn") => `(tactic| first
  | exact fn_int | exact fn_len | exact fn_all | exact fn_listL | exact fn_listT)
local macro_rules | `(tactic| walk_at "op") => `(tactic| first
  | exact op_I0 (fun _ => .int _) | exact op_I0 (fun _ => .bl _) | exact opp_1 (op_I0 fun _ => .int _)
  | exact op_I (by show (_ : Int) ≠ 0; decide) (fun _ => .int _)
  | exact op_I (by assumption) (fun _ => .int _)
  | exact opp_1 (op_I (by assumption) fun _ => .int _)
  | exact opp_1 (opp_ixL (i := 0) rfl) | exact opp_2 (opp_ixT (i := 0) rfl) | exact opp_2 (opp_ixT (i := 1) rfl) | exact opp_2 (opp_ixT (i := 2) rfl))
theorem sc_law_cut_right : FnScope ["generator", "system_there", "code_there", "orders_there", "wide", "kept", "at", "off", "mark", "told", "mate", "more", "given"] ["generator", "system_there", "code_there"] (defScope s_law_cut_right) := ⟨rfl, rfl, rfl, by decide +kernel, rfl, by decide +kernel, by decide +kernel⟩
theorem ok_law_cut_right {P : Program} {w : World} {K : PySem.W.Frag} {mg : Str → Option Value} {base : Heap} (B : Bi mg) (c_law_marked : Cal P w K mg base 5 "_law_marked" ["told"] (sMk K 3)) (c_law_off : Cal P w K mg base 3 "_law_off" ["system_there", "code_there"] (sp K p_law_off)) (c_law_plus : Cal P w K mg base 2 "_law_plus" ["orders_there", "one", "two"] (sp K p_law_plus)) (c_law_is_system : Cal P w K mg base 2 "_law_is_system" ["system_there", "orders_there", "wide"] (sp K p_law_is_system)) (c_put_together : Cal P w K mg base 7 "put_together" ["system", "other"] (spQ K (qS K) p_put_together)) (c_law_code : Cal P w K mg base 3 "_law_code" ["generator", "system_there"] (spG K p_law_code)) (c_law_random : Cal P w K mg base 2 "_law_random" ["generator", "bound"] (spG K p_law_random)) (c_law_system : Cal P w K mg base 4 "_law_system" ["generator", "orders_there", "wide"] (spG K p_law_system)) (c_fixed_at : Cal P w K mg base 7 "fixed_at" ["system", "place", "sign"] (spQ K (qS K) p_fixed_at)) (k_put_together_other_system : CalK P w K mg base 7 "put_together" ["system", "other"] ["other", "system"] kwg_put_together_other_system (spQ K (qS K) p_put_together)) (k_fixed_at_sign_place_system : CalK P w K mg base 7 "fixed_at" ["system", "place", "sign"] ["sign", "place", "system"] kwg_fixed_at_sign_place_system (spQ K (qS K) p_fixed_at)) (h : Has K mg "_law_cut_right" s_law_cut_right ["generator", "system_there", "code_there"]) :
    Cal P w K mg base 8 "_law_cut_right" ["generator", "system_there", "code_there"] (spG K p_law_cut_right) := by
  refine has_g h sc_law_cut_right rfl ar_law_cut_right (fun f cdv A outer s H E hg hr => ⟨_, (pss_cons (ps_par3 (i := 3) (j := 4) (l := 5) rfl sc_law_cut_right.nd rfl rfl rfl (by decide) (by decide) (by decide) rfl rfl rfl (pa_cons (pe_ix (ixK K) (pv 1) pe_int (fun _ _ => rfl)) (pa_cons (pe_callB (lenK K) (by rfl) B.len PySem.boot_len (pa_cons (pe_ix (ixK K) (pv 1) pe_int (fun _ _ => rfl)) pa_nil)) (pa_cons (pe_callB (reprK K hg hr) (by rfl) B.repr (by decide +kernel) (pa_cons (pe_lst (pa_cons (pv 1) (pa_cons (pv 2) pa_nil))) pa_nil)) pa_nil))) (by rfl))
      (pss_cons (ps_par (i := 6) (j := 7) rfl sc_law_cut_right.nd rfl rfl (by decide) rfl rfl (pa_cons (pg_cal hg c_law_random hr (by rfl) (pa_cons (pv 0) (pa_cons (pv 4) pa_nil))) (pa_cons (pg_cal hg c_law_off hr (by rfl) (pa_cons (pv 1) (pa_cons (pv 2) pa_nil))) pa_nil)) (by rfl))
      (pss_cons (ps_set (i := 8) sc_law_cut_right.nd rfl (Or.inl rfl) (pe_ix (ixK K) (pv 2) (pv 6) (fun _ _ => rfl)))
      (pss_cons (ps_if (pt_cmpR op_gt (pv 4) pe_int (nomark _)) (pss_cons (ps_set (i := 9) sc_law_cut_right.nd rfl (Or.inl rfl) (pg_cal hg c_fixed_at hr (by rfl) (pa_cons (pv 1) (pa_cons (pv 6) (pa_cons (pv 8) pa_nil)))))
      (pss_cons (ps_if (PW.pt (pw_or (pt_not (pt_val (pg_cal hg c_law_is_system hr (by rfl) (pa_cons (pv 9) (pa_cons (pv 3) (pa_cons (pe_op op_sub (pv 4) pe_int) pa_nil)))))) (pw_or (pt_cmpR (neK K hr) (pv 9) (pg_calK hg k_fixed_at_sign_place_system hr (by rfl) (pk_cons (pv 8) (pk_cons (pv 6) (pk_cons (pv 1) pk_nil)))) (nomark _)) (pw_or1 (pt_cmpR (neK K hr) (pg_cal hg c_law_off hr (by rfl) (pa_cons (pv 9) (pa_cons (pe_op (addK K) (pe_slice (slK K) (pv 2) po_none (po_some (pv 6))) (pe_slice (slK K) (pv 2) (po_some (pe_op (addK K) (pv 6) pe_int)) po_none)) pa_nil))) (pv 7) (nomark _)))))) (pss_one (ps_ret pe_bl)) pss_nil)
      (pss_cons (ps_if (pt_cmpR (neK K hr) (pe_ix (ixK K) (pv 9) pe_int (fun _ _ => rfl)) (pe_op (addK K) (pe_slice (slK K) (pe_ix (ixK K) (pv 1) pe_int (fun _ _ => rfl)) po_none (po_some (pv 6))) (pe_slice (slK K) (pe_ix (ixK K) (pv 1) pe_int (fun _ _ => rfl)) (po_some (pe_op (addK K) (pv 6) pe_int)) po_none)) (nomark _)) (pss_one (ps_ret pe_bl)) pss_nil)
      (pss_one (ps_if (pt_not (pt_val (pg_cal hg c_law_marked hr (by rfl) (pa_cons (pv 9) pa_nil)))) (pss_one (ps_ret pe_bl)) pss_nil))))) pss_nil)
      (pss_cons (ps_set (i := 10) sc_law_cut_right.nd rfl (Or.inl rfl) (pg_cal hg c_law_system hr (by rfl) (pa_cons (pv 0) (pa_cons (pv 3) (pa_cons (pe_op (addK K) pe_int (pg_cal hg c_law_random hr (by rfl) (pa_cons (pv 0) (pa_cons pe_int pa_nil)))) pa_nil)))))
      (pss_cons (ps_if (pt_cmpR (eqK K hr) (pg_cal hg c_law_random hr (by rfl) (pa_cons (pv 0) (pa_cons pe_int pa_nil))) pe_int (nomark _)) (pss_one (ps_set (i := 10) sc_law_cut_right.nd rfl (Or.inl rfl) (pv 1))) pss_nil)
      (pss_cons (ps_par (i := 11) (j := 12) rfl sc_law_cut_right.nd rfl rfl (by decide) rfl rfl (pa_cons (pg_cal hg c_law_code hr (by rfl) (pa_cons (pv 0) (pa_cons (pv 10) pa_nil))) (pa_cons (pe_callB (reprK K hg hr) (by rfl) B.repr (by decide +kernel) (pa_cons (pv 10) pa_nil)) pa_nil)) (by rfl))
      (pss_cons (ps_set (i := 9) sc_law_cut_right.nd rfl (Or.inl rfl) (pg_cal hg c_put_together hr (by rfl) (pa_cons (pv 1) (pa_cons (pv 10) pa_nil))))
      (pss_cons (ps_if (PW.pt (pw_or (pt_not (pt_val (pg_cal hg c_law_is_system hr (by rfl) (pa_cons (pv 9) (pa_cons (pv 3) (pa_cons (pe_op (addK K) (pv 4) (pe_callB (lenK K) (by rfl) B.len PySem.boot_len (pa_cons (pv 11) pa_nil))) pa_nil)))))) (pw_or (pt_cmpR (neK K hr) (pv 9) (pg_calK hg k_put_together_other_system hr (by rfl) (pk_cons (pv 10) (pk_cons (pv 1) pk_nil))) (nomark _)) (pw_or1 (pt_cmpR (neK K hr) (pe_ix (ixK K) (pv 9) pe_int (fun _ _ => rfl)) (pe_op (addK K) (pe_ix (ixK K) (pv 1) pe_int (fun _ _ => rfl)) (pe_ix (ixK K) (pv 10) pe_int (fun _ _ => rfl))) (nomark _)))))) (pss_one (ps_ret pe_bl)) pss_nil)
      (pss_cons (ps_if (pt_cmpR (neK K hr) (pg_cal hg c_law_off hr (by rfl) (pa_cons (pv 9) (pa_cons (pe_op (addK K) (pv 2) (pv 11)) pa_nil))) (pg_cal hg c_law_plus hr (by rfl) (pa_cons (pv 3) (pa_cons (pv 7) (pa_cons (pg_cal hg c_law_off hr (by rfl) (pa_cons (pv 10) (pa_cons (pv 11) pa_nil))) pa_nil)))) (nomark _)) (pss_one (ps_ret pe_bl)) pss_nil)
      (pss_one (ps_ret (pe_and (pg_cal hg c_law_marked hr (by rfl) (pa_cons (pv 9) pa_nil)) (pe_and (pe_cmpR (eqRK K hr) (pe_callB (reprK K hg hr) (by rfl) B.repr (by decide +kernel) (pa_cons (pe_lst (pa_cons (pv 1) (pa_cons (pv 2) pa_nil))) pa_nil)) (pv 5) (nomark _)) (pe_one (pe_cmpR (eqRK K hr) (pe_callB (reprK K hg hr) (by rfl) B.repr (by decide +kernel) (pa_cons (pv 10) pa_nil)) (pv 12) (nomark _))))))))))))))))), fun ds c R hp => ?_⟩) (List.cons_ne_nil _ _)
  obtain ⟨os, ts, tot, cs, rfl, ⟨hs, h12, h20⟩, hc, hcB, hR⟩ := hp
  have hl := hc.len
  have h4 := hs.few
  have h2 := hs.two
  have p0 := prod_pos hs.ord.2.1
  obtain ⟨n, hn⟩ : ∃ n : Nat, prodI os = n := ⟨(prodI os).toNat, by omega⟩
  have plsS := pls_sys hs h12 (by omega)
  have plsC := pls_code hs hc
  have plK : Pl (.list [sysD os ts tot, .list (intsD cs)]) := PlS.list (fun d hd => by
    rcases List.mem_cons.mp hd with rfl | hd
    · exact plsS
    · have : d = .list (intsD cs) := by simpa using hd
      rw [this]
      exact plsC) (by show 2 ≤ 20; decide)
  generalize hkk : (PyData.list [sysD os ts tot, .list (intsD cs)]).shown = kk
  have evK : ∀ {ρ : Rho}, ρ[1]? = some (some (sysD os ts tot)) → ρ[2]? = some (some (.list (intsD cs))) → Ev K (tCB (rRepr K) (tCons (tLst (tCons (tVar 1) (tCons (tVar 2) tNil))) tNil)) ρ (.str kk) := fun {ρ} a b => by
    rw [← hkk]
    exact ev_cb (el_cons (ev_lst (el_cons (ev_var a) (el_cons (ev_var b) el_nil)) (by show 2 ≤ sizeLine; decide)) el_nil) plK.repr
  refine dg_seq (M := fun ρ c' => ρ = [none, some (sysD os ts tot), some (.list (intsD cs)), some (.tuple (intsD os)), some (.int (ts.length : Nat)), some (.str kk), none, none, none, none, none, none, none] ∧ c' = c) (dg_par3 (P := fun ds c' => ds = [.tuple (intsD os), .int (ts.length : Nat), .str kk] ∧ c' = c) (el_pure (el_cons (ev_op (ev_var rfl) ev_int (opp_2 (opp_ixT (i := 0) rfl))) (el_cons (by rw [← tabs_len ts]; exact ev_cb (el_cons (ev_op (ev_var rfl) ev_int (opp_2 (opp_ixT (i := 1) rfl))) el_nil) fn_len) (el_cons (evK rfl rfl) el_nil))) ⟨rfl, rfl⟩) (by decide) (by decide) (by decide) ?_) ?_
  · rintro ds c' ⟨rfl, rfl⟩
    exact ⟨_, _, _, rfl, rfl, rfl⟩
  rintro ρ' c' ⟨rfl, rfl⟩
  refine dg_seq (M := fun ρ c2 => ∃ p : Nat, ρ = [none, some (sysD os ts tot), some (.list (intsD cs)), some (.tuple (intsD os)), some (.int (ts.length : Nat)), some (.str kk), some (.int (p : Int)), some (.int (linR os.reverse (vals ts cs) [tot])), none, none, none, none, none] ∧ p < ts.length ∧ c2 ≤ c' + 4) (dg_par (P := fun ds c2 => ∃ p : Nat, ds = [.int (p : Int), .int (linR os.reverse (vals ts cs) [tot])] ∧ p < ts.length ∧ c2 ≤ c' + 4) (el_c (P1 := fun d c2 => ∃ p : Nat, d = .int (p : Int) ∧ p < ts.length ∧ c2 ≤ c' + 4) (eg_call (el_cons (ev_var rfl) el_nil) (R := fun d c2 => ∃ p : Nat, d = .int (p : Int) ∧ p < ts.length ∧ c2 ≤ c' + 4) ⟨_, rfl, by omega, by omega, by omega, fun i h0 h1 => ⟨i.toNat, by rw [Int.toNat_of_nonneg h0], by omega, by omega⟩⟩ fun _ _ h => h) ?_) (by decide) (by decide) ?_) ?_
  · rintro d c2 ⟨p, rfl, hp, hc2⟩
    exact el_pure (el_cons (ev_call (el_cons (ev_var rfl) (el_cons (ev_var rfl) el_nil)) ⟨os, ts, tot, cs, rfl, hs, hc, rfl⟩) el_nil) ⟨p, rfl, hp, hc2⟩
  · rintro ds c2 ⟨p, rfl, h⟩
    exact ⟨_, _, rfl, p, rfl, h⟩
  rintro ρ' c2 ⟨p, rfl, hp, hc2⟩
  have hcp : cs[p]? = some (cs.getD p 0) := by rw [List.getD_eq_getElem?_getD, List.getElem?_eq_getElem (by omega)]; rfl
  have cr := hc.mem _ (List.mem_of_getElem? hcp)
  obtain ⟨mk, hmk⟩ : ∃ mk : Nat, cs.getD p 0 = mk := ⟨(cs.getD p 0).toNat, by omega⟩
  rw [hmk] at hcp cr
  have ht : ts[p]? = some (ts.getD p []) := by rw [List.getD_eq_getElem?_getD, List.getElem?_eq_getElem hp]; rfl
  have e1 : ((p : Int) + 1) = ((p + 1 : Nat) : Int) := by omega
  refine dg_seq (M := fun ρ c3 => ρ = [none, some (sysD os ts tot), some (.list (intsD cs)), some (.tuple (intsD os)), some (.int (ts.length : Nat)), some (.str kk), some (.int (p : Int)), some (.int (linR os.reverse (vals ts cs) [tot])), some (.int (mk : Int)), none, none, none, none] ∧ c3 = c2) (dg_set (P := fun d c3 => d = .int (mk : Int) ∧ c3 = c2) (eg_pure (ev_op (ev_var rfl) (ev_var rfl) (opp_1 (opp_ixL (xs := intsD cs) (i := p) (by rw [List.getElem?_map, hcp]; rfl)))) ⟨rfl, rfl⟩) (by decide) ?_) ?_
  · rintro d c3 ⟨rfl, rfl⟩
    exact ⟨rfl, rfl⟩
  rintro ρ' c3 ⟨rfl, rfl⟩
  refine dg_seq (M := fun ρ c4 => ρ = [none, some (sysD os ts tot), some (.list (intsD cs)), some (.tuple (intsD os)), some (.int (ts.length : Nat)), some (.str kk), some (.int (p : Int)), some (.int (linR os.reverse (vals ts cs) [tot])), some (.int (mk : Int)), none, none, none, none] ∧ c4 = c3) (dg_if (b := decide (((ts.length : Nat) : Int) > 2)) (eb_test (ev_op (ev_var rfl) ev_int (op_I0 fun _ => .bl _))) (fun hb => ?_) (fun _ => dg_next ⟨rfl, rfl⟩)) ?_
  · have h3 : 3 ≤ ts.length := by
      have := of_decide_eq_true hb
      omega
    have hs1 := sys_fix (x := (ts.getD p []).getD mk 0) hs h3 hp
    have hc1 := code_fix hc hp
    have l1 : (ts.eraseIdx p).length = ts.length - 1 := List.length_eraseIdx_of_lt hp
    have off1 : linR os.reverse (vals (ts.eraseIdx p) (cs.eraseIdx p)) [linR os.reverse [tot] [(ts.getD p []).getD mk 0]] = linR os.reverse (vals ts cs) [tot] := by
      have q := off_fix hs hc hp
      rw [hmk, Int.toNat_natCast] at q
      exact q
    refine dg_lend (os := os) (tss := ts.eraseIdx p) (tot := linR os.reverse [tot] [(ts.getD p []).getD mk 0]) (evq_call aft_qS (x := (os, ts.eraseIdx p, linR os.reverse [tot] [(ts.getD p []).getD mk 0])) (el_cons (ev_var rfl) (el_cons (ev_var rfl) (el_cons (ev_var rfl) el_nil))) ⟨os, ts, tot, p, mk, rfl, hs, h3, hp, cr.2, rfl⟩) (by decide) (by show 9 < 13; decide) ?_
    refine dl_if ?_ (by show 9 < 13; decide) ?_
    · refine eb_or (a := false) (eb_not (a := true) (eb_B (ev_call (el_cons (ev_var rfl) (el_cons (ev_var rfl) (el_cons (d := .int ((ts.length - 1 : Nat) : Int)) ?_ el_nil))) ⟨os, _, _, ts.length - 1, rfl, hs1, l1, rfl⟩)) rfl) (fun _ => ?_) (fun h => nomatch h)
      · rw [show ((ts.length - 1 : Nat) : Int) = ((ts.length : Nat) : Int) - 1 by omega]
        exact ev_op (ev_var rfl) ev_int (op_I0 fun _ => .int _)
      refine eb_or (a := false) (eb_test (ev_op (ev_var rfl) (EvQ.ev (os := os) (tss := ts.eraseIdx p) (tot := linR os.reverse [tot] [(ts.getD p []).getD mk 0]) (evq_callK aft_qS (x := (os, ts.eraseIdx p, linR os.reverse [tot] [(ts.getD p []).getD mk 0])) (zs := [.int (mk : Int), .int (p : Int), sysD os ts tot]) (el_cons (ev_var rfl) (el_cons (ev_var rfl) (el_cons (ev_var rfl) el_nil))) ⟨os, ts, tot, p, mk, rfl, hs, h3, hp, cr.2, rfl⟩ fun B ws h => ?_)) (ne_self ((pls_sys hs1 h12 (by rw [l1]; omega)).pl)))) (fun _ => ?_) (fun h => nomatch h)
      · obtain ⟨a, b, c0, rfl, ha, hb, hcc⟩ := kw3 h
        exact .cons hcc (.cons hb (.cons ha .nil))
      · refine eb_test (ev_op (ev_call (el_cons (ev_var rfl) (el_cons (d := .list (intsD (cs.eraseIdx p))) ?_ el_nil)) ⟨os, _, _, cs.eraseIdx p, rfl, hs1, hc1, rfl⟩) (ev_var rfl) (ne_int off1))
        have ecut : (intsD cs).take p ++ (intsD cs).drop (p + 1) = intsD (cs.eraseIdx p) := by
          rw [intsD, ← List.map_take, ← List.map_drop, ← List.map_append, ← List.eraseIdx_eq_take_drop_succ]
        rw [← ecut]
        refine ev_op (ev_to (p := p) (ev_var rfl) (ev_var rfl) (by rw [ints_len]; omega)) (ev_fr (p := p + 1) (ev_var rfl) (by rw [← e1]; exact ev_op (ev_var rfl) ev_int (opp_1 (op_I0 fun _ => .int _))) (by rw [ints_len]; omega)) (opp_2 (opp_1 (opp_cat ?_)))
        rw [List.length_take, List.length_drop, ints_len, sizeLine_eq]
        omega
    refine dl_if ?_ (by show 9 < 13; decide) ?_
    · have ecut : (tabsD ts).take p ++ (tabsD ts).drop (p + 1) = tabsD (ts.eraseIdx p) := by
        rw [take_tabs, drop_tabs, ← tabs_cat, ← List.eraseIdx_eq_take_drop_succ]
      refine eb_test (ev_op (ev_op (ev_var rfl) ev_int (opp_2 (opp_ixT (i := 1) rfl))) (ev_op (ev_to (p := p) (ev_op (ev_var rfl) ev_int (opp_2 (opp_ixT (i := 1) rfl))) (ev_var rfl) (by rw [tabs_len]; omega)) (ev_fr (p := p + 1) (ev_op (ev_var rfl) ev_int (opp_2 (opp_ixT (i := 1) rfl))) (by rw [← e1]; exact ev_op (ev_var rfl) ev_int (opp_1 (op_I0 fun _ => .int _))) (by rw [tabs_len]; omega)) (opp_2 (opp_1 (opp_cat ?_)))) (ne_same (pl_tabs hs1) (by rw [ecut]; rfl)))
      rw [List.length_take, List.length_drop, tabs_len, sizeLine_eq]
      omega
    exact dl_markN (mk_of hs1) ⟨rfl, rfl⟩
  rintro ρ' c4 ⟨rfl, rfl⟩
  refine dg_seq (M := fun ρ c5 => ∃ us tot2, ρ = [none, some (sysD os ts tot), some (.list (intsD cs)), some (.tuple (intsD os)), some (.int (ts.length : Nat)), some (.str kk), some (.int (p : Int)), some (.int (linR os.reverse (vals ts cs) [tot])), some (.int (mk : Int)), none, some (sysD os us tot2), none, none] ∧ Sys os us tot2 ∧ us.length ≤ 20 ∧ c5 ≤ c' + 10100) (dg_set (P := fun d c5 => ∃ us tot2, d = sysD os us tot2 ∧ Sys os us tot2 ∧ us.length ≤ 20 ∧ c5 ≤ c' + 10100) (eg_callE (P1 := fun ds c5 => ∃ w : Nat, ds = [.tuple (intsD os), .int (w : Int)] ∧ 2 ≤ w ∧ w ≤ 4 ∧ c5 ≤ c' + 50) (R := fun d c5 => ∃ us tot2, d = sysD os us tot2 ∧ Sys os us tot2 ∧ us.length ≤ 20 ∧ c5 ≤ c' + 10100) (el_c (P1 := fun d c5 => d = .tuple (intsD os) ∧ c5 = c4) (eg_pure (ev_var rfl) ⟨rfl, rfl⟩) ?_) ?_ fun _ _ h => h) (by decide) ?_) ?_
  · rintro d c5 ⟨rfl, rfl⟩
    refine el_c (P1 := fun d c6 => ∃ w : Nat, d = .int (w : Int) ∧ 2 ≤ w ∧ w ≤ 4 ∧ c6 ≤ c' + 50) (eg_op (P1 := fun d c6 => d = .int 2 ∧ c6 = c5) (P2 := fun _ d c6 => ∃ i : Nat, d = .int (i : Int) ∧ i < 3 ∧ c6 ≤ c' + 50) (eg_pure ev_int ⟨rfl, rfl⟩) ?_ ?_) ?_
    · rintro x c6 ⟨rfl, rfl⟩
      exact eg_call (el_cons ev_int el_nil) (R := fun d c6 => ∃ i : Nat, d = .int (i : Int) ∧ i < 3 ∧ c6 ≤ c' + 50) ⟨_, rfl, by decide, by decide, by omega, fun i h0 h1 => ⟨i.toNat, by rw [Int.toNat_of_nonneg h0], by omega, by omega⟩⟩ fun _ _ h => h
    · rintro x y c6 c7 ⟨rfl, rfl⟩ ⟨i, rfl, hi, h7⟩
      exact ⟨.int ((2 + i : Nat) : Int), opp_1 (op_I0 fun _ => by rw [Int.natCast_add]; exact .int _), 2 + i, rfl, by omega, by omega, h7⟩
    · rintro x c6 ⟨w, rfl, h⟩
      exact el_n ⟨w, rfl, h⟩
  · rintro ds c5 ⟨w, rfl, hw1, hw2, h5⟩
    exact ⟨os, w, rfl, ⟨hs.ord, h12⟩, hw1, by omega, by omega, fun us tot2 c6 h1 h2 h3 => ⟨us, tot2, rfl, h1, by omega, by omega⟩⟩
  · rintro d c5 ⟨us, tot2, rfl, h⟩
    exact ⟨us, tot2, rfl, h⟩
  rintro ρ' c5 ⟨us0, tot0, rfl, hs0, hu0, hc5⟩
  refine dg_seq (M := fun ρ c6 => ∃ us tot2, ρ = [none, some (sysD os ts tot), some (.list (intsD cs)), some (.tuple (intsD os)), some (.int (ts.length : Nat)), some (.str kk), some (.int (p : Int)), some (.int (linR os.reverse (vals ts cs) [tot])), some (.int (mk : Int)), none, some (sysD os us tot2), none, none] ∧ Sys os us tot2 ∧ us.length ≤ 20 ∧ c6 ≤ c' + 10200) (dg_ifD (P := fun _ c6 => c6 ≤ c' + 10200) (egb_test (eg_op (P1 := fun d c6 => (∃ i : Int, d = .int i) ∧ c6 ≤ c' + 10200) (P2 := fun _ d c6 => d = .int 0 ∧ c6 ≤ c' + 10200) (eg_call (el_cons ev_int el_nil) (R := fun d c6 => (∃ i : Int, d = .int i) ∧ c6 ≤ c' + 10200) ⟨_, rfl, by decide, by decide, by omega, fun i h0 h1 => ⟨⟨i, rfl⟩, by omega⟩⟩ fun _ _ h => h) ?_ ?_)) ?_ ?_) ?_
  · rintro x c6 ⟨_, h6⟩
    exact eg_pure ev_int ⟨rfl, h6⟩
  · rintro x y c6 c7 ⟨⟨i, rfl⟩, _⟩ ⟨rfl, h7⟩
    exact ⟨_, opp_eqD (sh_int _) (sh_int _) rfl, _, rfl, h7⟩
  · rintro c6 h6
    refine dg_set (P := fun d c7 => d = sysD os ts tot ∧ c7 = c6) (eg_pure (ev_var rfl) ⟨rfl, rfl⟩) (by decide) ?_
    rintro d c7 ⟨rfl, rfl⟩
    exact ⟨ts, tot, rfl, hs, h20, h6⟩
  · rintro c6 h6
    exact dg_next ⟨us0, tot0, rfl, hs0, hu0, h6⟩
  rintro ρ' c6 ⟨us, tot2, rfl, hs2, hu, hc6⟩
  have plsU := pls_sys hs2 h12 (by omega)
  have h5 := hs2.few
  generalize hgg : (sysD os us tot2).shown = gg
  refine dg_seq (M := fun ρ c7 => ∃ more, ρ = [none, some (sysD os ts tot), some (.list (intsD cs)), some (.tuple (intsD os)), some (.int (ts.length : Nat)), some (.str kk), some (.int (p : Int)), some (.int (linR os.reverse (vals ts cs) [tot])), some (.int (mk : Int)), none, some (sysD os us tot2), some (.list (intsD more)), some (.str gg)] ∧ Code os us more ∧ c7 ≤ c' + 10600) (dg_par (P := fun ds c7 => ∃ more, ds = [.list (intsD more), .str gg] ∧ Code os us more ∧ c7 ≤ c' + 10600) (el_c (P1 := fun d c7 => ∃ more, d = .list (intsD more) ∧ Code os us more ∧ c7 ≤ c' + 10600) (eg_call (el_cons (ev_var rfl) el_nil) (R := fun d c7 => ∃ more, d = .list (intsD more) ∧ Code os us more ∧ c7 ≤ c' + 10600) ⟨os, us, tot2, rfl, hs2, by omega, fun ms c8 h1 h2 => ⟨ms, rfl, h1, by omega⟩⟩ fun _ _ h => h) ?_) (by decide) (by decide) ?_) ?_
  · rintro d c7 ⟨more, rfl, h⟩
    exact el_pure (el_cons (by rw [← hgg]; exact ev_cb (el_cons (ev_var rfl) el_nil) plsU.pl.repr) el_nil) ⟨more, rfl, h⟩
  · rintro ds c7 ⟨more, rfl, h⟩
    exact ⟨_, _, rfl, more, rfl, h⟩
  rintro ρ' c7 ⟨more, rfl, hm, hc7⟩
  have ml := hm.len
  have hs3 := sys_put hs hs2 (by omega)
  have hc3 := code_put hc hm
  have l3 : (ts ++ us).length = ts.length + us.length := List.length_append
  refine dg_lend (os := os) (tss := ts ++ us) (tot := linR os.reverse [tot, tot2] []) (evq_call aft_qS (x := (os, ts ++ us, linR os.reverse [tot, tot2] [])) (el_cons (ev_var rfl) (el_cons (ev_var rfl) el_nil)) ⟨os, ts, us, tot, tot2, rfl, hs, hs2, rfl⟩) (by decide) (by show 9 < 13; decide) ?_
  refine dl_if ?_ (by show 9 < 13; decide) ?_
  · refine eb_or (a := false) (eb_not (a := true) (eb_B (ev_call (el_cons (ev_var rfl) (el_cons (ev_var rfl) (el_cons (d := .int ((ts.length + us.length : Nat) : Int)) ?_ el_nil))) ⟨os, _, _, ts.length + us.length, rfl, hs3, l3, rfl⟩)) rfl) (fun _ => ?_) (fun h => nomatch h)
    · rw [Int.natCast_add, ← ml, ← ints_len more]
      exact ev_op (ev_var rfl) (ev_cb (el_cons (ev_var rfl) el_nil) fn_len) (opp_1 (op_I0 fun _ => .int _))
    refine eb_or (a := false) (eb_test (ev_op (ev_var rfl) (EvQ.ev (os := os) (tss := ts ++ us) (tot := linR os.reverse [tot, tot2] []) (evq_callK aft_qS (x := (os, ts ++ us, linR os.reverse [tot, tot2] [])) (zs := [sysD os us tot2, sysD os ts tot]) (el_cons (ev_var rfl) (el_cons (ev_var rfl) el_nil)) ⟨os, ts, us, tot, tot2, rfl, hs, hs2, rfl⟩ fun B ws h => ?_)) (ne_self ((pls_sys hs3 h12 (by rw [l3]; omega)).pl)))) (fun _ => ?_) (fun h => nomatch h)
    · obtain ⟨a, b, rfl, ha, hb⟩ := kw2 h
      exact .cons hb (.cons ha .nil)
    · refine eb_test (ev_op (ev_op (ev_var rfl) ev_int (opp_2 (opp_ixT (i := 1) rfl))) (ev_op (ev_op (ev_var rfl) ev_int (opp_2 (opp_ixT (i := 1) rfl))) (ev_op (ev_var rfl) ev_int (opp_2 (opp_ixT (i := 1) rfl))) (opp_2 (opp_1 (opp_cat ?_)))) (ne_same (pl_tabs hs3) (by rw [← tabs_cat]; rfl)))
      rw [tabs_len, tabs_len, sizeLine_eq]
      omega
  refine dl_if ?_ (by show 9 < 13; decide) ?_
  · refine eb_test (ev_op (ev_call (el_cons (ev_var rfl) (el_cons (d := .list (intsD (cs ++ more))) ?_ el_nil)) ⟨os, _, _, cs ++ more, rfl, hs3, hc3, rfl⟩) (ev_call (el_cons (ev_var rfl) (el_cons (ev_var rfl) (el_cons (ev_call (el_cons (ev_var rfl) (el_cons (ev_var rfl) el_nil)) ⟨os, us, tot2, more, rfl, hs2, hm, rfl⟩) el_nil))) ⟨os, _, _, rfl, hs.ord, rfl⟩) (ne_int (off_putt hs hc)))
    rw [show intsD (cs ++ more) = intsD cs ++ intsD more from List.map_append ..]
    refine ev_op (ev_var rfl) (ev_var rfl) (opp_2 (opp_1 (opp_cat ?_)))
    rw [ints_len, ints_len, sizeLine_eq]
    omega
  exact dl_ret (mk_of hs3) (ev_and (a := true) (ev_op (evK rfl rfl) (ev_var rfl) eqS_self) (fun _ => ev_op (by rw [← hgg]; exact ev_cb (el_cons (ev_var rfl) el_nil) plsU.pl.repr) (ev_var rfl) eqS_self) (fun h => nomatch h)) (hR _ (by omega))
end K08
end
section
set_option maxRecDepth 100000
set_option maxHeartbeats 4000000
namespace K08
open PySem PySem.Spec PyProof.Rows L2 G Lin
local macro_rules | `(tactic| walk_at "ev") => `(tactic| first
  | exact ev_var rfl | exact ev_int | exact ev_bl | exact ev_non | exact ev_str
  | (apply ev_op; (focus walk_at "ev"); (focus walk_at "ev"); (focus walk_at "op"))
  | (apply ev_cb; (focus walk_at "el"); (focus walk_at "fn"))
  | (apply ev_lst; (focus walk_at "el"); (show _ ≤ sizeLine; decide))
  | (apply ev_tup; (focus walk_at "el"); (show _ ≤ sizeLine; decide)))
local macro_rules | `(tactic| walk_at "el") => `(tactic| first
  | exact el_nil
  | (apply el_cons; (focus walk_at "ev"); (focus walk_at "el")))
local macro_rules | `(tactic| walk_at "fn") => `(tactic| first
  | exact fn_int | exact fn_len | exact fn_all | exact fn_listL | exact fn_listT)
local macro_rules | `(tactic| walk_at "op") => `(tactic| first
  | exact op_I0 (fun _ => .int _) | exact op_I0 (fun _ => .bl _) | exact opp_1 (op_I0 fun _ => .int _)
  | exact op_I (by show (_ : Int) ≠ 0; decide) (fun _ => .int _)
  | exact op_I (by assumption) (fun _ => .int _)
  | exact opp_1 (op_I (by assumption) fun _ => .int _)
  | exact opp_1 (opp_ixL (i := 0) rfl) | exact opp_2 (opp_ixT (i := 0) rfl) | exact opp_2 (opp_ixT (i := 1) rfl) | exact opp_2 (opp_ixT (i := 2) rfl))
def sLaw (K : PySem.W.Frag) : Sp := fun vs H Q _ => ∃ (a : Addr) (xs : List Int), vs = [.ref a] ∧ SqL K H a (xs.map .int) ∧ ∀ H', Q (.bl true) H'
theorem da_rep {K : PySem.W.Frag} {B : Hp} {vs : List V} {ds : List PyData} (h : DaAll K B vs ds) : ∀ n : Nat, DaAll K B (List.replicate n vs).flatten (List.replicate n ds).flatten
  | 0 => .nil
  | n + 1 => by
    rw [List.replicate_succ, List.replicate_succ, List.flatten_cons, List.flatten_cons]
    exact h.app (da_rep h n)
theorem opp_rep {K : PySem.W.Frag} {ds : List PyData} {n : Nat} (hn : (n : Int) < 2 ^ 62) (hl : ds.length * n ≤ sizeLine) : Op2 K rRep (.list ds) (.int (n : Int)) (.list (List.replicate n ds).flatten) := fun B H s u v hu hv Q q => by
  cases hv
  cases hu with
  | @lst a xs _ h ha =>
    refine ⟨_, _, xs, rfl, rfl, s _ _ h, by omega, by omega, by rw [ha.len, Int.toNat_natCast]; exact hl, fun p hp => ?_⟩
    rw [Int.toNat_natCast]
    have g := Gr.add s hp (.lst (List.replicate n xs).flatten)
    exact q _ _ _ g (.lst upd_same ((da_rep ha n).mono g.bb))
theorem rep_one {α : Type} (x : α) : ∀ n : Nat, (List.replicate n [x]).flatten = List.replicate n x
  | 0 => rfl
  | n + 1 => by
    rw [List.replicate_succ, List.flatten_cons, rep_one x n, List.replicate_succ]
    rfl
theorem sql_keep {K : PySem.W.Frag} {H H' : Hp} {a : Addr} {xs : List V} (k : ∀ b o, H b = some o → H' b = some o) (h : SqL K H a xs) : SqL K H' a xs := by
  rcases h with (h | ⟨o, h⟩) | h
  · exact .inl (.inl (k _ _ h))
  · exact .inl (.inr ⟨o, k _ _ h⟩)
  · exact .inr h
def threeT : List (List Int) := [[0, 1, 2], [0, 1, 2], [0, 2, 1]]
theorem sys3 : Sys [3] threeT 1 := by
  refine ⟨⟨by decide, by decide, by decide⟩, by decide, by decide, fun t ht => ?_, by decide, by decide⟩
  rcases List.mem_cons.mp ht with rfl | ht
  · exact ⟨by decide, by decide, by decide⟩
  rcases List.mem_cons.mp ht with rfl | ht
  · exact ⟨by decide, by decide, by decide⟩
  have e : t = [0, 2, 1] := by simpa using ht
  subst e
  exact ⟨by decide, by decide, by decide⟩
theorem sys_rep {os : List Int} {ts : List (List Int)} {tot : Int} {t : List Int} (hs : Sys os ts tot) (ht : t ∈ ts) : Sys os (List.replicate ts.length t) tot :=
  ⟨hs.ord, by rw [List.length_replicate]; exact hs.two, by rw [List.length_replicate]; exact hs.few, fun u hu => by rw [List.eq_of_mem_replicate hu]; exact hs.tabs t ht, hs.t0, hs.t1⟩
theorem none7 {i : Nat} {d : PyData} (h : ([none, none, none, none, none, none, none] : Rho)[i]? = some (some d)) : False := by
  match i, h with
  | 0, h => cases h
  | 1, h => cases h
  | 2, h => cases h
  | 3, h => cases h
  | 4, h => cases h
  | 5, h => cases h
  | 6, h => cases h
  | i + 7, h => cases h
theorem nm_go {i : Nat} {x : V} {σ : L2.St} {H : Hp} {k : L2.St → Hp → Prop} (h : k (σ.set i (some x)) H) : gName i x σ H k := h
theorem sc_law : FnScope ["script", "index", "generator", "system_there", "turn", "code_there", "three"] ["script"] (defScope s_law) := ⟨rfl, rfl, rfl, by decide +kernel, rfl, by decide +kernel, by decide +kernel⟩
theorem ok_law {P : Program} {w : World} {K : PySem.W.Frag} {mg : Str → Option Value} {base : Heap} (B : Bi mg) (c_fixed_at : Cal P w K mg base 7 "fixed_at" ["system", "place", "sign"] (spQ K (qS K) p_fixed_at)) (c_added_to : Cal P w K mg base 7 "added_to" ["system", "place", "member"] (spQ K (qS K) p_added_to)) (c_reordered : Cal P w K mg base 7 "reordered" ["system", "places"] (spQ K (qS K) p_reordered)) (c_with_signs : Cal P w K mg base 7 "with_signs" ["system", "names"] (spQ K (qS K) p_with_signs)) (c_law_cut_right : Cal P w K mg base 8 "_law_cut_right" ["generator", "system_there", "code_there"] (spG K p_law_cut_right)) (c_law_turned_right : Cal P w K mg base 8 "_law_turned_right" ["generator", "system_there", "code_there"] (spG K p_law_turned_right)) (c_law_code : Cal P w K mg base 3 "_law_code" ["generator", "system_there"] (spG K p_law_code)) (c_law_righted : Cal P w K mg base 4 "_law_righted" ["generator", "system_there"] (spG K p_law_righted)) (c_law_system : Cal P w K mg base 4 "_law_system" ["generator", "orders_there", "wide"] (spG K p_law_system)) (c_law_random : Cal P w K mg base 2 "_law_random" ["generator", "bound"] (spG K p_law_random)) (c_law_orders : Cal P w K mg base 3 "_law_orders" ["generator"] (spG K p_law_orders)) (c_law_generator : Cal P w K mg base 2 "_law_generator" ["script", "index"] (sGen K)) (h : Has K mg "law" s_law ["script"]) :
    Cal P w K mg base 9 "law" ["script"] (sLaw K) := by
  --RAW
  obtain ⟨f, fd, F, hmg, bd⟩ := h
  refine ⟨f, fd, hmg, kq_of F, bd, fn_g0 F sc_law (fun vs H Q E h => ?_) fun cdv A outer s H vs Q E hg hr h => ⟨_, (pss_cons (ps_for PassesOwn.never rfl (pi_range1 (by rfl) B.range (pa_cons pe_int pa_nil)) (pg_name (i := 1) sc_law.nd rfl (Or.inl rfl)) (pss_cons (ps_set (i := 2) sc_law.nd rfl (Or.inl rfl) (pg_cal hg c_law_generator hr (by rfl) (pa_cons (pv 0) (pa_cons (pv 1) pa_nil))))
      (pss_cons (ps_set (i := 3) sc_law.nd rfl (Or.inl rfl) (pg_cal hg c_law_system hr (by rfl) (pa_cons (pv 2) (pa_cons (pg_cal hg c_law_orders hr (by rfl) (pa_cons (pv 2) pa_nil)) (pa_cons (pe_op (addK K) pe_int (pg_cal hg c_law_random hr (by rfl) (pa_cons (pv 2) (pa_cons pe_int pa_nil)))) pa_nil)))))
      (pss_cons (ps_if (pt_cmpR (eqK K hr) (pv 1) pe_int (nomark _)) (pss_one (ps_set (i := 3) sc_law.nd rfl (Or.inl rfl) (pe_tup (pa_cons (pe_ix (ixK K) (pv 3) pe_int (fun _ _ => rfl)) (pa_cons (pe_op op_mulA (pe_lst (pa_cons (pe_ix (ixK K) (pe_ix (ixK K) (pv 3) pe_int (fun _ _ => rfl)) pe_int (fun _ _ => rfl)) pa_nil)) (pe_callB (lenK K) (by rfl) B.len PySem.boot_len (pa_cons (pe_ix (ixK K) (pv 3) pe_int (fun _ _ => rfl)) pa_nil))) (pa_cons (pe_ix (ixK K) (pv 3) pe_int (fun _ _ => rfl)) pa_nil)))))) pss_nil)
      (pss_one (ps_for PassesOwn.never rfl (pi_range1 (by rfl) B.range (pa_cons pe_int pa_nil)) (pg_name (i := 4) sc_law.nd rfl (Or.inl rfl)) (pss_cons (ps_set (i := 5) sc_law.nd rfl (Or.inl rfl) (pe_ifExp (pt_cmpR (eqK K hr) (pv 4) pe_int (nomark _)) (pg_cal hg c_law_code hr (by rfl) (pa_cons (pv 2) (pa_cons (pv 3) pa_nil))) (pg_cal hg c_law_righted hr (by rfl) (pa_cons (pv 2) (pa_cons (pv 3) pa_nil)))))
      (pss_one (ps_if (PW.pt (pw_or (pt_not (pt_val (pg_cal hg c_law_turned_right hr (by rfl) (pa_cons (pv 2) (pa_cons (pv 3) (pa_cons (pv 5) pa_nil)))))) (pw_or1 (pt_not (pt_val (pg_cal hg c_law_cut_right hr (by rfl) (pa_cons (pv 2) (pa_cons (pv 3) (pa_cons (pv 5) pa_nil))))))))) (pss_one (ps_ret pe_bl)) pss_nil)))))))))
      (pss_cons (ps_set (i := 6) sc_law.nd rfl (Or.inl rfl) (pe_tup (pa_cons (pe_tup (pa_cons pe_int pa_nil)) (pa_cons (pe_lst (pa_cons (pe_lst (pa_cons pe_int (pa_cons pe_int (pa_cons pe_int pa_nil)))) (pa_cons (pe_lst (pa_cons pe_int (pa_cons pe_int (pa_cons pe_int pa_nil)))) (pa_cons (pe_lst (pa_cons pe_int (pa_cons pe_int (pa_cons pe_int pa_nil)))) pa_nil)))) (pa_cons pe_int pa_nil)))))
      (pss_cons (ps_if (PW.pt (pw_or (pt_cmpR (neK K hr) (pg_cal hg c_with_signs hr (by rfl) (pa_cons (pv 6) (pa_cons (pe_lst (pa_cons pe_int (pa_cons pe_int (pa_cons pe_int pa_nil)))) pa_nil))) (pe_tup (pa_cons (pe_tup (pa_cons pe_int pa_nil)) (pa_cons (pe_lst (pa_cons (pe_lst (pa_cons pe_int (pa_cons pe_int (pa_cons pe_int pa_nil)))) (pa_cons (pe_lst (pa_cons pe_int (pa_cons pe_int (pa_cons pe_int pa_nil)))) (pa_cons (pe_lst (pa_cons pe_int (pa_cons pe_int (pa_cons pe_int pa_nil)))) pa_nil)))) (pa_cons pe_int pa_nil)))) (nomark _)) (pw_or1 (pt_cmpR (neK K hr) (pg_cal hg c_reordered hr (by rfl) (pa_cons (pv 6) (pa_cons (pe_lst (pa_cons pe_int (pa_cons pe_int (pa_cons pe_int pa_nil)))) pa_nil))) (pe_tup (pa_cons (pe_tup (pa_cons pe_int pa_nil)) (pa_cons (pe_lst (pa_cons (pe_lst (pa_cons pe_int (pa_cons pe_int (pa_cons pe_int pa_nil)))) (pa_cons (pe_lst (pa_cons pe_int (pa_cons pe_int (pa_cons pe_int pa_nil)))) (pa_cons (pe_lst (pa_cons pe_int (pa_cons pe_int (pa_cons pe_int pa_nil)))) pa_nil)))) (pa_cons pe_int pa_nil)))) (nomark _))))) (pss_one (ps_ret pe_bl)) pss_nil)
      (pss_one (ps_ret (pe_and (pe_cmpR (eqK K hr) (pg_cal hg c_added_to hr (by rfl) (pa_cons (pv 6) (pa_cons pe_int (pa_cons pe_int pa_nil)))) (pe_tup (pa_cons (pe_tup (pa_cons pe_int pa_nil)) (pa_cons (pe_lst (pa_cons (pe_lst (pa_cons pe_int (pa_cons pe_int (pa_cons pe_int pa_nil)))) (pa_cons (pe_lst (pa_cons pe_int (pa_cons pe_int (pa_cons pe_int pa_nil)))) (pa_cons (pe_lst (pa_cons pe_int (pa_cons pe_int (pa_cons pe_int pa_nil)))) pa_nil)))) (pa_cons pe_int pa_nil)))) (nomark _)) (pe_one (pe_cmpR (eqK K hr) (pg_cal hg c_fixed_at hr (by rfl) (pa_cons (pv 6) (pa_cons pe_int (pa_cons pe_int pa_nil)))) (pe_tup (pa_cons (pe_tup (pa_cons pe_int pa_nil)) (pa_cons (pe_lst (pa_cons (pe_lst (pa_cons pe_int (pa_cons pe_int (pa_cons pe_int pa_nil)))) (pa_cons (pe_lst (pa_cons pe_int (pa_cons pe_int (pa_cons pe_int pa_nil)))) pa_nil))) (pa_cons pe_int pa_nil)))) (nomark _))))))))), ?_⟩⟩
  · obtain ⟨a, xs, rfl, _⟩ := h
    rfl
  obtain ⟨a, xs, rfl, hS, q⟩ := h
  have e0 : EnvOk K (fun _ => none) (L2.start ["script", "index", "generator", "system_there", "turn", "code_there", "three"] [.ref a]) [none, none, none, none, none, none, none] := ⟨rfl, fun i d h => (none7 h).elim⟩
  have s0 : Same (fun _ => none) H := fun a o e => by cases e
  refine seq_go (for_go (it_range1 (K := K) (n := 4) (el_cons ev_int el_nil) (by decide) _ _ _ e0 s0 _ fun J B1 H1 g1 w => ?_))
  have sq1 : SqL K H1 a (xs.map .int) := sql_keep g1.ex hS
  refine for_it w (fun k σ' H' => ∃ B', EnvOk K B' σ' [none, none, none, none, none, none, none] ∧ σ'[0]? = some (some (.ref a)) ∧ SqL K H' a (xs.map .int) ∧ Same B1 B' ∧ Same B' H') ⟨B1, e0.mono g1.bb, rfl, sq1, Same.refl _, g1.sub⟩ (fun k σ' H' _ ⟨B', _, _, _, h1, h2⟩ => h1.trans h2) ?_ ?_
  · rintro k x σ' H' H2 hi ⟨B', e2, h0, sq, sb, sh⟩ y
    obtain ⟨B2, el, g3, hel, hx⟩ := y B' sb sh
    have hk : k < 4 := hi
    have eel : el = .int (k : Int) := by
      rw [List.getElem?_map, List.getElem?_range hk] at hel
      exact (Option.some.inj hel).symm
    subst eel
    cases hx
    have l2 : σ'.length = 7 := e2.len
    have sq2 : SqL K H2 a (xs.map .int) := sql_keep g3.ex sq
    have i0 : (σ'.set 1 (some (V.int (k : Int))))[0]? = some (some (.ref a)) := by rw [List.getElem?_set_ne (by decide)]; exact h0
    have i1 : (σ'.set 1 (some (V.int (k : Int))))[1]? = some (some (.int (k : Int))) := List.getElem?_set_self (by omega)
    refine ⟨_, i0, _, i1, a, xs, k, B2, rfl, by omega, sq2, g3.sub, fun g H3 g4 hBg hHg gen => ?_⟩
    refine nm_go ?_
    dsimp only
    have e3 : EnvOk K B2 ((σ'.set 1 (some (V.int (k : Int)))).set 2 (some (.ref g))) [none, some (.int (k : Int)), none, none, none, none, none] :=
      (((e2.mono g3.bb).set (Da.int (k : Int)) 1).forget (some (.ref g)) 2)
    have eG : EnvG K B2 ((σ'.set 1 (some (V.int (k : Int)))).set 2 (some (.ref g))) [none, some (.int (k : Int)), none, none, none, none, none] g 2 :=
      ⟨e3, List.getElem?_set_self (by rw [List.length_set]; omega), hBg⟩
    have i02 : ((σ'.set 1 (some (V.int (k : Int)))).set 2 (some (V.ref g)))[0]? = some (some (.ref a)) := by rw [List.getElem?_set_ne (by decide)]; exact i0
    have l3 : ((σ'.set 1 (some (V.int (k : Int)))).set 2 (some (V.ref g))).length = 7 := by rw [List.length_set, List.length_set]; exact l2
    generalize (σ'.set 1 (some (V.int (k : Int)))).set 2 (some (V.ref g)) = σ3 at eG i02 l3 ⊢
    -- the system
    refine seq_go ?_
    refine asg_go ?_
    refine (eg_callE (K := K) (ρ := [none, some (.int (k : Int)), none, none, none, none, none]) (c := 100000) (P := fun d c' => ∃ os ts tot, d = sysD os ts tot ∧ SmallS os ts tot ∧ c' ≤ 120000) (P1 := fun ds c1 => ∃ (os : List Int) (w : Nat), ds = [.tuple (intsD os), .int (w : Int)] ∧ Small os ∧ 2 ≤ w ∧ w ≤ 5 ∧ c1 ≤ 101000) (R := fun d c' => ∃ os ts tot, d = sysD os ts tot ∧ SmallS os ts tot ∧ c' ≤ 120000) (el_c (P1 := fun d c1 => ∃ os : List Int, d = .tuple (intsD os) ∧ Small os ∧ c1 = 100004) (eg_call el_nil (R := fun d c1 => ∃ os : List Int, d = .tuple (intsD os) ∧ Small os ∧ c1 = 100004) ⟨rfl, by decide, fun os ho => ⟨os, rfl, menu_small os ho, rfl⟩⟩ fun _ _ h => h) ?_) ?_ (fun _ _ h => h) _ _ _ _ eG g4.sub gen _ fun v B4 H4 d c4 G4 n4 hv hd => ?_)
    · rintro d c1 ⟨os, rfl, ho, rfl⟩
      refine el_c (P1 := fun d c2 => ∃ w : Nat, d = .int (w : Int) ∧ 2 ≤ w ∧ w ≤ 5 ∧ c2 ≤ 101000) (eg_op (P1 := fun d c2 => d = .int 2 ∧ c2 = 100004) (P2 := fun _ d c2 => ∃ i : Nat, d = .int (i : Int) ∧ i < 4 ∧ c2 ≤ 101000) (eg_pure ev_int ⟨rfl, rfl⟩) ?_ ?_) ?_
      · rintro x c2 ⟨rfl, rfl⟩
        exact eg_call (el_cons ev_int el_nil) (R := fun d c2 => ∃ i : Nat, d = .int (i : Int) ∧ i < 4 ∧ c2 ≤ 101000) ⟨_, rfl, by decide, by decide, by decide, fun i h0 h1 => ⟨i.toNat, by rw [Int.toNat_of_nonneg h0], by omega, by decide⟩⟩ fun _ _ h => h
      · rintro x y c2 c3 ⟨rfl, rfl⟩ ⟨i, rfl, hi, h7⟩
        exact ⟨.int ((2 + i : Nat) : Int), opp_1 (op_I0 fun _ => by rw [Int.natCast_add]; exact .int _), 2 + i, rfl, by omega, by omega, h7⟩
      · rintro x c2 ⟨w, rfl, h⟩
        exact el_n ⟨os, w, rfl, ho, h⟩
    · rintro ds c1 ⟨os, w, rfl, ho, hw1, hw2, h5⟩
      exact ⟨os, w, rfl, ho, hw1, by omega, by omega, fun ts tot c2 h1 h2 h3 => ⟨os, ts, tot, rfl, ⟨h1, ho.2, by omega⟩, by omega⟩⟩
    obtain ⟨os, ts, tot, rfl, hsm, hc4⟩ := hd
    have eG4 : EnvG K B4 (σ3.set 3 (some v)) [none, some (.int (k : Int)), none, some (sysD os ts tot), none, none, none] g 2 := (eG.to G4).set hv (by decide)
    have i04 : (σ3.set 3 (some v))[0]? = some (some (.ref a)) := by rw [List.getElem?_set_ne (by decide)]; exact i02
    have l4 : (σ3.set 3 (some v)).length = 7 := by rw [List.length_set]; exact l3
    have sq4 : SqL K H4 a (xs.map .int) := sql_keep (fun b o e => G4.ex b o (fun z => by rw [z, hHg] at e; cases e) (g4.ex b o e)) sq2
    have sG4 : GenAt H4 g 120000 := n4.le hc4
    have ob : Same B2 B4 := G4.bb
    refine nm_go ?_
    dsimp only
    generalize σ3.set 3 (some v) = σ4 at eG4 i04 l4 ⊢
    -- what follows behind the if
    have kp4 : ∀ b o, b ≠ g → H2 b = some o → H4 b = some o := fun b o nb e => G4.ex b o nb (g4.ex b o e)
    have sqAt : ∀ H', (∀ b o, b ≠ g → H2 b = some o → H' b = some o) → SqL K H' a (xs.map .int) := fun H' kp => sql_keep (fun b o e => kp b o (fun z => by rw [z, hHg] at e; cases e) e) sq2
    have rest : ∀ (D : Ends) (hD : ∀ σ' H' B', EnvOk K B' σ' [none, none, none, none, none, none, none] → σ'[0]? = some (some (.ref a)) → SqL K H' a (xs.map .int) → Same B4 B' → Same B' H' → D.nx σ' H') (σ5 : L2.St) (B5 H5 : Hp) (us : List (List Int)), EnvG K B5 σ5 [none, some (.int (k : Int)), none, some (sysD os us tot), none, none, none] g 2 → σ5[0]? = some (some (.ref a)) → (∀ b o, b ≠ g → H2 b = some o → H5 b = some o) → GenAt H5 g 120000 → Same B4 B5 → Same B5 H5 → SmallS os us tot →
        tFor (iRng1 (tCons (tC (.int 2)) tNil)) (gName 4) (tSeq (tAsg (tIf (tTest (tOp (rEqD K) (tVar 4) (tC (.int 0)))) (tCall (spG K p_law_code) [] E0 (tCons (tVar 2) (tCons (tVar 3) tNil))) (tCall (spG K p_law_righted) [] E0 (tCons (tVar 2) (tCons (tVar 3) tNil)))) (gName 5))
          (tIfS (tOr (tNot (tB (tCall (spG K p_law_turned_right) [] E0 (tCons (tVar 2) (tCons (tVar 3) (tCons (tVar 5) tNil)))))) (tNot (tB (tCall (spG K p_law_cut_right) [] E0 (tCons (tVar 2) (tCons (tVar 3) (tCons (tVar 5) tNil))))))) (tRet (tC (.bl false))) tNext)) D σ5 H5 := by
      intro D hD σ5 B5 H5 us eG5 i05 kp5 n5 hb5 s5 hsu
      obtain ⟨hsu1, hsu2, hsu3⟩ := hsu
      have two4 := hsu1.few
      refine for_go (it_range1 (K := K) (n := 2) (el_cons ev_int el_nil) (by decide) σ5 B5 H5 eG5.env s5 _ fun J B6 H6 g6 w => ?_)
      have G6 : Gg g B5 H5 B6 H6 := .of g6 eG5.gone n5.ne
      refine for_it w (fun j σ' H' => ∃ (B' : Hp) (c' : Nat), EnvG K B' σ' [none, some (.int (k : Int)), none, some (sysD os us tot), none, none, none] g 2 ∧ σ'[0]? = some (some (.ref a)) ∧ (∀ b o, b ≠ g → H2 b = some o → H' b = some o) ∧ GenAt H' g c' ∧ c' ≤ 120000 + 30000 * j ∧ Same B6 B' ∧ Same B' H') ⟨B6, 120000, eG5.to G6, i05, fun b o nb e => g6.ex b o (kp5 b o nb e), n5.same g6.ex, by omega, Same.refl _, g6.sub⟩ (fun j σ' H' _ ⟨B', _, _, _, _, _, _, h1, h2⟩ => h1.trans h2) ?_ ?_
      · rintro j x σ' H' H7 hj ⟨B', c', eG', i0', kp', gen', hc', sb', sh'⟩ y
        obtain ⟨B7, el, g7, hel, hx⟩ := y B' sb' sh'
        have hj2 : j < 2 := hj
        have eel : el = .int (j : Int) := by
          rw [List.getElem?_map, List.getElem?_range hj2] at hel
          exact (Option.some.inj hel).symm
        subst eel
        cases hx
        have G7 : Gg g B' H' B7 H7 := .of g7 eG'.gone gen'.ne
        refine nm_go ?_
        have e7 : EnvG K B7 (σ'.set 4 (some (V.int (j : Int)))) [none, some (.int (k : Int)), none, some (sysD os us tot), some (.int (j : Int)), none, none] g 2 := (eG'.to G7).set (Da.int (j : Int)) (by decide)
        have i07 : (σ'.set 4 (some (V.int (j : Int))))[0]? = some (some (.ref a)) := by rw [List.getElem?_set_ne (by decide)]; exact i0'
        generalize σ'.set 4 (some (V.int (j : Int))) = σ7 at e7 i07 ⊢
        refine seq_go ?_
        refine asg_go ?_
        refine eg_if (K := K) (b := ((j : Int) == 0)) (c := c') (P := fun d c8 => ∃ cs, d = .list (intsD cs) ∧ Code os us cs ∧ c8 ≤ c' + 1100) (eb_test (ev_op (ev_var (i := 4) rfl) ev_int (opp_eqD (sh_int _) (sh_int _) (by rw [eqv_int])))) (fun _ => eg_call (el_cons (ev_var (i := 3) rfl) el_nil) (R := fun d c8 => ∃ cs, d = .list (intsD cs) ∧ Code os us cs ∧ c8 ≤ c' + 1100) ⟨os, us, tot, rfl, hsu1, by omega, fun cs c8 h1 h2 => ⟨cs, rfl, h1, by omega⟩⟩ fun _ _ h => h) (fun _ => eg_call (el_cons (ev_var (i := 3) rfl) el_nil) (R := fun d c8 => ∃ cs, d = .list (intsD cs) ∧ Code os us cs ∧ c8 ≤ c' + 1100) ⟨os, us, tot, rfl, hsu1, by omega, fun cs c8 h1 h2 => ⟨cs, rfl, h1, by omega⟩⟩ fun _ _ h => h) _ _ _ _ e7 g7.sub (gen'.same g7.ex) _ fun v B8 H8 d c8 G8 n8 hv hd => ?_
        obtain ⟨cs, rfl, hcs, hc8⟩ := hd
        refine nm_go ?_
        dsimp only
        have e8 : EnvG K B8 (σ7.set 5 (some v)) [none, some (.int (k : Int)), none, some (sysD os us tot), some (.int (j : Int)), some (.list (intsD cs)), none] g 2 := (e7.to G8).set hv (by decide)
        have i08 : (σ7.set 5 (some v))[0]? = some (some (.ref a)) := by rw [List.getElem?_set_ne (by decide)]; exact i07
        generalize σ7.set 5 (some v) = σ8 at e8 i08 ⊢
        refine if_go ?_
        refine egb_or (K := K) (c := c8) (m := c8 + 2000) (P := fun b c9 => b = false ∧ c9 ≤ c8 + 22000) (egb_not (egb_B (eg_call (el_cons (ev_var (i := 3) rfl) (el_cons (ev_var (i := 5) rfl) el_nil)) (R := fun d c9 => d = .bool true ∧ c9 ≤ c8 + 2000) ⟨os, us, tot, cs, rfl, ⟨hsu1, hsu2, hsu3⟩, hcs, by omega, fun c9 h => ⟨rfl, h⟩⟩ fun d c9 h => ⟨true, h.1, rfl, h.2⟩))) (fun c9 h9 => egb_not (egb_B (eg_call (el_cons (ev_var (i := 3) rfl) (el_cons (ev_var (i := 5) rfl) el_nil)) (R := fun d c10 => d = .bool true ∧ c10 ≤ c8 + 22000) ⟨os, us, tot, cs, rfl, ⟨hsu1, hsu2, hsu3⟩, hcs, by omega, fun c10 h => ⟨rfl, by omega⟩⟩ fun d c10 h => ⟨true, h.1, rfl, h.2⟩))) _ _ _ _ e8 G8.sub n8 _ fun b B9 H9 c9 G9 n9 hb => ?_
        obtain ⟨rfl, hc9⟩ := hb
        refine iteF (nxt_go ⟨B9, c9, ⟨(e8.to G9).env.weak rfl fun i d h => ?_, (e8.to G9).here, G9.off⟩, i08, fun b o nb e => G9.ex b o nb (G8.ex b o nb (g7.ex b o (kp' b o nb e))), n9, by omega, ((sb'.trans g7.bb).trans G8.bb).trans G9.bb, G9.sub⟩)
        match i, h with
        | 0, h => exact h
        | 1, h => exact h
        | 2, h => exact h
        | 3, h => exact h
        | 4, h => cases h
        | 5, h => cases h
        | 6, h => exact h
        | i + 7, h => exact h
      · rintro σ' H' ⟨B', c', eG', i0', kp', gen', hc', sb', sh'⟩
        exact hD σ' H' B' (eG'.env.weak rfl fun i d h => (none7 h).elim) i0' (sqAt H' kp') ((hb5.trans g6.bb).trans sb') sh'
    have hDone : ∀ σ' H' B', EnvOk K B' σ' [none, none, none, none, none, none, none] → σ'[0]? = some (some (.ref a)) → SqL K H' a (xs.map .int) → Same B4 B' → Same B' H' → ∃ B', EnvOk K B' σ' [none, none, none, none, none, none, none] ∧ σ'[0]? = some (some (.ref a)) ∧ SqL K H' a (xs.map .int) ∧ Same B1 B' ∧ Same B' H' := fun σ' H' B' h1 h2 h3 h4 h5 => ⟨B', h1, h2, h3, ((sb.trans g3.bb).trans ob).trans h4, h5⟩
    obtain ⟨hsm1, hsm2, hsm3⟩ := hsm
    refine seq_go ?_
    refine if_go ?_
    refine eb_test (K := K) (b := ((k : Int) == 3)) (ev_op (ev_var (i := 1) rfl) ev_int (opp_eqD (sh_int _) (sh_int _) (by rw [eqv_int]))) _ _ _ eG4.env G4.sub _ fun B5 H5 g5 => ?_
    have G5 : Gg g B4 H4 B5 H5 := .of g5 eG4.gone sG4.ne
    have e5 := eG4.to G5
    have kp5 : ∀ b o, b ≠ g → H2 b = some o → H5 b = some o := fun b o nb e => g5.ex b o (kp4 b o nb e)
    cases hb : ((k : Int) == 3) with
    | false =>
      refine iteF ?_
      exact nxt_go (rest _ hDone σ4 B5 H5 ts e5 i04 kp5 (sG4.same g5.ex) g5.bb g5.sub ⟨hsm1, hsm2, hsm3⟩)
    | true =>
      refine iteT ?_
      have h2 := hsm1.two
      have ht0 : ts[0]? = some (ts.getD 0 []) := by rw [List.getD_eq_getElem?_getD, List.getElem?_eq_getElem (by omega)]; rfl
      have h4 := hsm1.few
      refine asg_go ?_
      refine ev_tup (K := K) (ρ := [none, some (.int (k : Int)), none, some (sysD os ts tot), none, none, none]) (ds := [.tuple (intsD os), .list (tabsD (List.replicate ts.length (ts.getD 0 []))), .int tot]) (el_cons (ev_op (ev_var (i := 3) rfl) ev_int (opp_2 (opp_ixT (i := 0) rfl))) (el_cons (d := .list (tabsD (List.replicate ts.length (ts.getD 0 [])))) ?_ (el_cons (ev_op (ev_var (i := 3) rfl) ev_int (opp_2 (opp_ixT (i := 2) rfl))) el_nil))) (by show 3 ≤ sizeLine; decide) _ _ _ e5.env g5.sub _ fun v B6 H6 g6 hv => ?_
      · have e1 : tabsD (List.replicate ts.length (ts.getD 0 [])) = (List.replicate ts.length [PyData.list (intsD (ts.getD 0 []))]).flatten := by
          rw [rep_one, tabsD, List.map_replicate]
        rw [e1]
        refine ev_op (ev_lst (el_cons (ev_op (ev_op (ev_var (i := 3) rfl) ev_int (opp_2 (opp_ixT (i := 1) rfl))) ev_int (opp_1 (opp_ixL (i := 0) (at_tabs ht0)))) el_nil) (by show 1 ≤ sizeLine; decide)) (y := .int (ts.length : Nat)) ?_ (opp_2 (opp_rep (by omega) (by rw [sizeLine_eq]; show 1 * ts.length ≤ _; omega)))
        rw [← tabs_len ts]
        exact ev_cb (el_cons (ev_op (ev_var (i := 3) rfl) ev_int (opp_2 (opp_ixT (i := 1) rfl))) el_nil) fn_len
      · refine nm_go ?_
        have G6 : Gg g B5 H5 B6 H6 := .of g6 e5.gone (sG4.same g5.ex).ne
        have e6 : EnvG K B6 (σ4.set 3 (some v)) [none, some (.int (k : Int)), none, some (sysD os (List.replicate ts.length (ts.getD 0 [])) tot), none, none, none] g 2 := (e5.to G6).set hv (by decide)
        exact rest _ hDone _ B6 H6 _ e6 (by rw [List.getElem?_set_ne (by decide)]; exact i04) (fun b o nb e => g6.ex b o (kp5 b o nb e)) ((sG4.same g5.ex).same g6.ex) (g5.bb.trans g6.bb) g6.sub ⟨sys_rep hsm1 (List.mem_of_getElem? ht0), hsm2, by rw [List.length_replicate]; exact hsm3⟩
  · rintro σ' H' ⟨B', e2, h0, sq, sb, sh⟩
    have pm : ([2, 0, 1] : List Int).Perm (rgI 3) := by decide
    have sA := sys_ren (n := 3) sys3 rfl pm
    have sB := sys_reo (order := [2, 0, 1]) sys3 pm
    have sC := sys_add (m := 2) (p := 0) sys3 (by decide)
    have sD := sys_fix (x := 2) (p := 2) sys3 (by decide) (by decide)
    have eA : threeT.map (renT [2, 0, 1]) = [[1, 2, 0], [1, 2, 0], [2, 1, 0]] := by decide +kernel
    have eB : byO [2, 0, 1] threeT [] = [[0, 2, 1], [0, 1, 2], [0, 1, 2]] := by decide +kernel
    have eC : threeT.set 0 (shT [3] (threeT.getD 0 []) 2) = [[2, 0, 1], [0, 1, 2], [0, 2, 1]] := by decide +kernel
    have eC2 : linR [3].reverse [1, 2] [] = 0 := by decide +kernel
    have eD : threeT.eraseIdx 2 = [[0, 1, 2], [0, 1, 2]] := by decide +kernel
    have eD2 : linR [3].reverse [1] [2] = 2 := by decide +kernel
    rw [eA] at sA
    rw [eB] at sB
    rw [eC, eC2] at sC
    rw [eD, eD2] at sD
    have p12 : prodI [3] ≤ 12 := by decide
    dsimp only
    refine (?_ : Do K (tSeq (tAsg _ (gName 6)) (tSeq (tIfS _ _ tNext) (tRet _))) [none, none, none, none, none, none, none] (fun _ => False) fun d => d = .bool true) _ _ _ { nx := fun _ H' => Q .non H', rt := Q } e2 sh (fun _ _ _ _ _ _ z => z.elim) (fun v B'' H'' d g hv e => by rw [e] at hv; cases hv; exact q _)
    refine do_seq (M := fun ρ => ρ = [none, none, none, none, none, none, some (sysD [3] threeT 1)]) (do_set (d := sysD [3] threeT 1) (by unfold sysD tabsD threeT; walk_at "ev") rfl) fun ρ' e => ?_
    subst e
    refine do_seq (M := fun ρ => ρ = [none, none, none, none, none, none, some (sysD [3] threeT 1)]) (do_if (b := false) ?_ (fun h => nomatch h) fun _ => do_next rfl) fun ρ' e => ?_
    · refine eb_or (a := false) (eb_test (ev_op (x := sysT [3] [[1, 2, 0], [1, 2, 0], [2, 1, 0]] 1) (y := sysT [3] [[1, 2, 0], [1, 2, 0], [2, 1, 0]] 1) (by rw [← eA]; exact EvQ.ev (evq_call aft_qS (x := ([3], threeT.map (renT [2, 0, 1]), 1)) (el_cons (ev_var rfl) (el_cons (by walk_at "ev") el_nil)) ⟨[3], threeT, 1, [2, 0, 1], rfl, sys3, pm, rfl⟩)) (by show Ev K _ _ (PyData.tuple [.tuple [.int 3], .list [.list [.int 1, .int 2, .int 0], .list [.int 1, .int 2, .int 0], .list [.int 2, .int 1, .int 0]], .int 1]); walk_at "ev") (ne_self (pls_sys sA p12 (by decide)).pl))) (fun _ => ?_) (fun h => nomatch h)
      exact eb_test (ev_op (x := sysT [3] [[0, 2, 1], [0, 1, 2], [0, 1, 2]] 1) (y := sysT [3] [[0, 2, 1], [0, 1, 2], [0, 1, 2]] 1) (by rw [← eB]; exact EvQ.ev (evq_call aft_qS (x := ([3], byO [2, 0, 1] threeT [], 1)) (el_cons (ev_var rfl) (el_cons (by walk_at "ev") el_nil)) ⟨[3], threeT, 1, [2, 0, 1], rfl, sys3, pm, rfl⟩)) (by show Ev K _ _ (PyData.tuple [.tuple [.int 3], .list [.list [.int 0, .int 2, .int 1], .list [.int 0, .int 1, .int 2], .list [.int 0, .int 1, .int 2]], .int 1]); walk_at "ev") (ne_self (pls_sys sB p12 (by decide)).pl))
    subst e
    refine do_ret (ev_and (a := true) (ev_op (x := sysT [3] [[2, 0, 1], [0, 1, 2], [0, 2, 1]] 0) (y := sysT [3] [[2, 0, 1], [0, 1, 2], [0, 2, 1]] 0) (by rw [← eC, ← eC2]; exact EvQ.ev (evq_call aft_qS (x := ([3], threeT.set 0 (shT [3] (threeT.getD 0 []) 2), linR [3].reverse [1, 2] [])) (el_cons (ev_var rfl) (el_cons ev_int (el_cons ev_int el_nil))) ⟨[3], threeT, 1, 0, 2, rfl, sys3, by decide, by decide, by decide, rfl⟩)) (by show Ev K _ _ (PyData.tuple [.tuple [.int 3], .list [.list [.int 2, .int 0, .int 1], .list [.int 0, .int 1, .int 2], .list [.int 0, .int 2, .int 1]], .int 0]); walk_at "ev") (eq_self (pls_sys sC p12 (by decide)).pl)) (fun _ => ?_) (fun h => nomatch h)) rfl
    exact ev_op (x := sysT [3] [[0, 1, 2], [0, 1, 2]] 2) (y := sysT [3] [[0, 1, 2], [0, 1, 2]] 2) (by rw [← eD, ← eD2]; exact EvQ.ev (evq_call aft_qS (x := ([3], threeT.eraseIdx 2, linR [3].reverse [1] [2])) (el_cons (ev_var rfl) (el_cons ev_int (el_cons ev_int el_nil))) ⟨[3], threeT, 1, 2, 1, rfl, sys3, by decide, by decide, by decide, rfl⟩)) (by show Ev K _ _ (PyData.tuple [.tuple [.int 3], .list [.list [.int 0, .int 1, .int 2], .list [.int 0, .int 1, .int 2]], .int 2]); walk_at "ev") (eq_self (pls_sys sD p12 (by decide)).pl)
end K08
end
section
set_option maxRecDepth 100000
set_option maxHeartbeats 0
namespace K08
open PySem PySem.Spec PyProof.Rows L2 G
theorem facts {P : Program} {w : World} {K : PySem.W.Frag} {h : Heap} {mg : Str → Option Value} (X : K.In h) (Gn : h.Ns mainGlobals mg) (c : He.SaysD fa fn K) :
    ∃ fd : FuncData, (∀ (s : Shared) (v : Value), BindsTo s fd ⟨[v], []⟩ [("script", v)]) ∧ ∀ base : Heap, K.In base → base.Ns mainGlobals mg → FnG P w K mg base CX0 9 (He.ga K "law") fd ["script"] (sLaw K) := by
  have B : Bi mg := ⟨He.free_ok X Gn (c.fact 43 (f := .free "all") rfl), He.free_ok X Gn (c.fact 44 (f := .free "bool") rfl), He.free_ok X Gn (c.fact 45 (f := .free "int") rfl), He.free_ok X Gn (c.fact 46 (f := .free "isinstance") rfl), He.free_ok X Gn (c.fact 47 (f := .free "len") rfl), He.free_ok X Gn (c.fact 48 (f := .free "list") rfl), He.free_ok X Gn (c.fact 49 (f := .free "max") rfl), He.free_ok X Gn (c.fact 50 (f := .free "range") rfl), He.free_ok X Gn (c.fact 51 (f := .free "repr") rfl), He.free_ok X Gn (c.fact 52 (f := .free "reversed") rfl), He.free_ok X Gn (c.fact 53 (f := .free "set") rfl), He.free_ok X Gn (c.fact 54 (f := .free "sorted") rfl), He.free_ok X Gn (c.fact 55 (f := .free "sum") rfl), He.free_ok X Gn (c.fact 56 (f := .free "tuple") rfl), He.free_ok X Gn (c.fact 57 (f := .free "zip") rfl)⟩
  have h_is_whole : Has K mg "is_whole" s_is_whole ["value"] := has_of (c.def_ 0 (d := mkD "is_whole" s_is_whole) rfl) (He.glo_ok X Gn (c.fact 0 (f := .glo "is_whole") rfl)) fun _ _ _ _ _ _ us hl => match us, hl with | [_], _ => rfl
  have h_is_from : Has K mg "is_from" s_is_from ["value", "least"] := has_of (c.def_ 1 (d := mkD "is_from" s_is_from) rfl) (He.glo_ok X Gn (c.fact 1 (f := .glo "is_from") rfl)) fun _ _ _ _ _ _ us hl => match us, hl with | [_, _], _ => rfl
  have h_is_below : Has K mg "is_below" s_is_below ["value", "many"] := has_of (c.def_ 2 (d := mkD "is_below" s_is_below) rfl) (He.glo_ok X Gn (c.fact 2 (f := .glo "is_below") rfl)) fun _ _ _ _ _ _ us hl => match us, hl with | [_, _], _ => rfl
  have h_are_below : Has K mg "are_below" s_are_below ["value", "many"] := has_of (c.def_ 3 (d := mkD "are_below" s_are_below) rfl) (He.glo_ok X Gn (c.fact 3 (f := .glo "are_below") rfl)) fun _ _ _ _ _ _ us hl => match us, hl with | [_, _], _ => rfl
  have h_is_each_once : Has K mg "is_each_once" s_is_each_once ["value", "many"] := has_of (c.def_ 4 (d := mkD "is_each_once" s_is_each_once) rfl) (He.glo_ok X Gn (c.fact 4 (f := .glo "is_each_once") rfl)) fun _ _ _ _ _ _ us hl => match us, hl with | [_, _], _ => rfl
  have h_size_of : Has K mg "size_of" s_size_of ["orders"] := has_of (c.def_ 5 (d := mkD "size_of" s_size_of) rfl) (He.glo_ok X Gn (c.fact 5 (f := .glo "size_of") rfl)) fun _ _ _ _ _ _ us hl => match us, hl with | [_], _ => rfl
  have h_plus : Has K mg "plus" s_plus ["orders", "member", "other"] := has_of (c.def_ 6 (d := mkD "plus" s_plus) rfl) (He.glo_ok X Gn (c.fact 6 (f := .glo "plus") rfl)) fun _ _ _ _ _ _ us hl => match us, hl with | [_, _, _], _ => rfl
  have h_minus : Has K mg "minus" s_minus ["orders", "member", "other"] := has_of (c.def_ 7 (d := mkD "minus" s_minus) rfl) (He.glo_ok X Gn (c.fact 7 (f := .glo "minus") rfl)) fun _ _ _ _ _ _ us hl => match us, hl with | [_, _, _], _ => rfl
  have h_are_orders : Has K mg "are_orders" s_are_orders ["value"] := has_of (c.def_ 8 (d := mkD "are_orders" s_are_orders) rfl) (He.glo_ok X Gn (c.fact 8 (f := .glo "are_orders") rfl)) fun _ _ _ _ _ _ us hl => match us, hl with | [_], _ => rfl
  have h_check_member : Has K mg "check_member" s_check_member ["orders", "member"] := has_of (c.def_ 9 (d := mkD "check_member" s_check_member) rfl) (He.glo_ok X Gn (c.fact 9 (f := .glo "check_member") rfl)) fun _ _ _ _ _ _ us hl => match us, hl with | [_, _], _ => rfl
  have h_is_system : Has K mg "is_system" s_is_system ["value"] := has_of (c.def_ 10 (d := mkD "is_system" s_is_system) rfl) (He.glo_ok X Gn (c.fact 10 (f := .glo "is_system") rfl)) fun _ _ _ _ _ _ us hl => match us, hl with | [_], _ => rfl
  have h_check_system : Has K mg "check_system" s_check_system ["system"] := has_of (c.def_ 11 (d := mkD "check_system" s_check_system) rfl) (He.glo_ok X Gn (c.fact 11 (f := .glo "check_system") rfl)) fun _ _ _ _ _ _ us hl => match us, hl with | [_], _ => rfl
  have h_with_signs : Has K mg "with_signs" s_with_signs ["system", "names"] := has_of (c.def_ 12 (d := mkD "with_signs" s_with_signs) rfl) (He.glo_ok X Gn (c.fact 12 (f := .glo "with_signs") rfl)) fun _ _ _ _ _ _ us hl => match us, hl with | [_, _], _ => rfl
  have h_reordered : Has K mg "reordered" s_reordered ["system", "places"] := has_of (c.def_ 13 (d := mkD "reordered" s_reordered) rfl) (He.glo_ok X Gn (c.fact 13 (f := .glo "reordered") rfl)) fun _ _ _ _ _ _ us hl => match us, hl with | [_, _], _ => rfl
  have h_added_to : Has K mg "added_to" s_added_to ["system", "place", "member"] := has_of (c.def_ 14 (d := mkD "added_to" s_added_to) rfl) (He.glo_ok X Gn (c.fact 14 (f := .glo "added_to") rfl)) fun _ _ _ _ _ _ us hl => match us, hl with | [_, _, _], _ => rfl
  have h_fixed_at : Has K mg "fixed_at" s_fixed_at ["system", "place", "sign"] := has_of (c.def_ 15 (d := mkD "fixed_at" s_fixed_at) rfl) (He.glo_ok X Gn (c.fact 15 (f := .glo "fixed_at") rfl)) fun _ _ _ _ _ _ us hl => match us, hl with | [_, _, _], _ => rfl
  have h_put_together : Has K mg "put_together" s_put_together ["system", "other"] := has_of (c.def_ 16 (d := mkD "put_together" s_put_together) rfl) (He.glo_ok X Gn (c.fact 16 (f := .glo "put_together") rfl)) fun _ _ _ _ _ _ us hl => match us, hl with | [_, _], _ => rfl
  have h_check_place : Has K mg "check_place" s_check_place ["system", "place"] := has_of (c.def_ 17 (d := mkD "check_place" s_check_place) rfl) (He.glo_ok X Gn (c.fact 17 (f := .glo "check_place") rfl)) fun _ _ _ _ _ _ us hl => match us, hl with | [_, _], _ => rfl
  have h_copied : Has K mg "copied" s_copied ["tables"] := has_of (c.def_ 18 (d := mkD "copied" s_copied) rfl) (He.glo_ok X Gn (c.fact 18 (f := .glo "copied") rfl)) fun _ _ _ _ _ _ us hl => match us, hl with | [_], _ => rfl
  have h_renamed_table : Has K mg "renamed_table" s_renamed_table ["table", "names"] := has_of (c.def_ 19 (d := mkD "renamed_table" s_renamed_table) rfl) (He.glo_ok X Gn (c.fact 19 (f := .glo "renamed_table") rfl)) fun _ _ _ _ _ _ us hl => match us, hl with | [_, _], _ => rfl
  have h_law_hash : Has K mg "_law_hash" s_law_hash ["seed", "index"] := has_of (c.def_ 20 (d := mkD "_law_hash" s_law_hash) rfl) (He.glo_ok X Gn (c.fact 20 (f := .glo "_law_hash") rfl)) fun _ _ _ _ _ _ us hl => match us, hl with | [_, _], _ => rfl
  have h_law_random : Has K mg "_law_random" s_law_random ["generator", "bound"] := has_of (c.def_ 21 (d := mkD "_law_random" s_law_random) rfl) (He.glo_ok X Gn (c.fact 21 (f := .glo "_law_random") rfl)) fun _ _ _ _ _ _ us hl => match us, hl with | [_, _], _ => rfl
  have h_law_cell : Has K mg "_law_cell" s_law_cell ["script", "index"] := has_of (c.def_ 22 (d := mkD "_law_cell" s_law_cell) rfl) (He.glo_ok X Gn (c.fact 22 (f := .glo "_law_cell") rfl)) fun _ _ _ _ _ _ us hl => match us, hl with | [_, _], _ => rfl
  have h_law_generator : Has K mg "_law_generator" s_law_generator ["script", "index"] := has_of (c.def_ 23 (d := mkD "_law_generator" s_law_generator) rfl) (He.glo_ok X Gn (c.fact 23 (f := .glo "_law_generator") rfl)) fun _ _ _ _ _ _ us hl => match us, hl with | [_, _], _ => rfl
  have h_law_size : Has K mg "_law_size" s_law_size ["orders_there"] := has_of (c.def_ 24 (d := mkD "_law_size" s_law_size) rfl) (He.glo_ok X Gn (c.fact 24 (f := .glo "_law_size") rfl)) fun _ _ _ _ _ _ us hl => match us, hl with | [_], _ => rfl
  have h_law_parts : Has K mg "_law_parts" s_law_parts ["orders_there", "item"] := has_of (c.def_ 25 (d := mkD "_law_parts" s_law_parts) rfl) (He.glo_ok X Gn (c.fact 25 (f := .glo "_law_parts") rfl)) fun _ _ _ _ _ _ us hl => match us, hl with | [_, _], _ => rfl
  have h_law_from : Has K mg "_law_from" s_law_from ["orders_there", "parts"] := has_of (c.def_ 26 (d := mkD "_law_from" s_law_from) rfl) (He.glo_ok X Gn (c.fact 26 (f := .glo "_law_from") rfl)) fun _ _ _ _ _ _ us hl => match us, hl with | [_, _], _ => rfl
  have h_law_plus : Has K mg "_law_plus" s_law_plus ["orders_there", "one", "two"] := has_of (c.def_ 27 (d := mkD "_law_plus" s_law_plus) rfl) (He.glo_ok X Gn (c.fact 27 (f := .glo "_law_plus") rfl)) fun _ _ _ _ _ _ us hl => match us, hl with | [_, _, _], _ => rfl
  have h_law_less : Has K mg "_law_less" s_law_less ["orders_there", "one", "two"] := has_of (c.def_ 28 (d := mkD "_law_less" s_law_less) rfl) (He.glo_ok X Gn (c.fact 28 (f := .glo "_law_less") rfl)) fun _ _ _ _ _ _ us hl => match us, hl with | [_, _, _], _ => rfl
  have h_law_off : Has K mg "_law_off" s_law_off ["system_there", "code_there"] := has_of (c.def_ 29 (d := mkD "_law_off" s_law_off) rfl) (He.glo_ok X Gn (c.fact 29 (f := .glo "_law_off") rfl)) fun _ _ _ _ _ _ us hl => match us, hl with | [_, _], _ => rfl
  have h_law_shuffled : Has K mg "_law_shuffled" s_law_shuffled ["generator", "items"] := has_of (c.def_ 30 (d := mkD "_law_shuffled" s_law_shuffled) rfl) (He.glo_ok X Gn (c.fact 30 (f := .glo "_law_shuffled") rfl)) fun _ _ _ _ _ _ us hl => match us, hl with | [_, _], _ => rfl
  have h_law_orders : Has K mg "_law_orders" s_law_orders ["generator"] := has_of (c.def_ 31 (d := mkD "_law_orders" s_law_orders) rfl) (He.glo_ok X Gn (c.fact 31 (f := .glo "_law_orders") rfl)) fun _ _ _ _ _ _ us hl => match us, hl with | [_], _ => rfl
  have h_law_system : Has K mg "_law_system" s_law_system ["generator", "orders_there", "wide"] := has_of (c.def_ 32 (d := mkD "_law_system" s_law_system) rfl) (He.glo_ok X Gn (c.fact 32 (f := .glo "_law_system") rfl)) fun _ _ _ _ _ _ us hl => match us, hl with | [_, _, _], _ => rfl
  have h_law_code : Has K mg "_law_code" s_law_code ["generator", "system_there"] := has_of (c.def_ 33 (d := mkD "_law_code" s_law_code) rfl) (He.glo_ok X Gn (c.fact 33 (f := .glo "_law_code") rfl)) fun _ _ _ _ _ _ us hl => match us, hl with | [_, _], _ => rfl
  have h_law_put : Has K mg "_law_put" s_law_put ["code_there", "at", "mark"] := has_of (c.def_ 34 (d := mkD "_law_put" s_law_put) rfl) (He.glo_ok X Gn (c.fact 34 (f := .glo "_law_put") rfl)) fun _ _ _ _ _ _ us hl => match us, hl with | [_, _, _], _ => rfl
  have h_law_righted : Has K mg "_law_righted" s_law_righted ["generator", "system_there"] := has_of (c.def_ 35 (d := mkD "_law_righted" s_law_righted) rfl) (He.glo_ok X Gn (c.fact 35 (f := .glo "_law_righted") rfl)) fun _ _ _ _ _ _ us hl => match us, hl with | [_, _], _ => rfl
  have h_law_all : Has K mg "_law_all" s_law_all ["size_there", "wide"] := has_of (c.def_ 36 (d := mkD "_law_all" s_law_all) rfl) (He.glo_ok X Gn (c.fact 36 (f := .glo "_law_all") rfl)) fun _ _ _ _ _ _ us hl => match us, hl with | [_, _], _ => rfl
  have h_law_is_system : Has K mg "_law_is_system" s_law_is_system ["system_there", "orders_there", "wide"] := has_of (c.def_ 37 (d := mkD "_law_is_system" s_law_is_system) rfl) (He.glo_ok X Gn (c.fact 37 (f := .glo "_law_is_system") rfl)) fun _ _ _ _ _ _ us hl => match us, hl with | [_, _, _], _ => rfl
  have h_law_marked : Has K mg "_law_marked" s_law_marked ["told"] := has_of (c.def_ 38 (d := mkD "_law_marked" s_law_marked) rfl) (He.glo_ok X Gn (c.fact 38 (f := .glo "_law_marked") rfl)) fun _ _ _ _ _ _ us hl => match us, hl with | [_], _ => rfl
  have h_law_turned_right : Has K mg "_law_turned_right" s_law_turned_right ["generator", "system_there", "code_there"] := has_of (c.def_ 39 (d := mkD "_law_turned_right" s_law_turned_right) rfl) (He.glo_ok X Gn (c.fact 39 (f := .glo "_law_turned_right") rfl)) fun _ _ _ _ _ _ us hl => match us, hl with | [_, _, _], _ => rfl
  have h_law_cut_right : Has K mg "_law_cut_right" s_law_cut_right ["generator", "system_there", "code_there"] := has_of (c.def_ 40 (d := mkD "_law_cut_right" s_law_cut_right) rfl) (He.glo_ok X Gn (c.fact 40 (f := .glo "_law_cut_right") rfl)) fun _ _ _ _ _ _ us hl => match us, hl with | [_, _, _], _ => rfl
  have h_law : Has K mg "law" s_law ["script"] := has_of (c.def_ 41 (d := mkD "law" s_law) rfl) (He.glo_ok X Gn (c.fact 41 (f := .glo "law") rfl)) fun _ _ _ _ _ _ us hl => match us, hl with | [_], _ => rfl
  refine law_end (x := "law") (y := "script") (st := s_law) (c.def_ 41 (d := mkD "law" s_law) rfl) (He.glo_ok X Gn (c.fact 41 (f := .glo "law") rfl)) (fun _ _ _ _ _ _ us hl => match us, hl with | [_], _ => rfl) fun base hb hn => ?_
  have c_is_whole := ok_is_whole (P := P) (w := w) (base := base) B h_is_whole
  have c_size_of := ok_size_of (P := P) (w := w) (base := base) B h_size_of
  have c_plus := ok_plus (P := P) (w := w) (base := base) B h_plus
  have c_minus := ok_minus (P := P) (w := w) (base := base) B h_minus
  have c_copied := ok_copied (P := P) (w := w) (base := base) B h_copied
  have c_renamed_table := ok_renamed_table (P := P) (w := w) (base := base) B h_renamed_table
  have c_law_hash := ok_law_hash (P := P) (w := w) (base := base) B h_law_hash
  have c_law_cell := ok_law_cell (P := P) (w := w) (base := base) B h_law_cell
  have c_law_size := ok_law_size (P := P) (w := w) (base := base) B h_law_size
  have c_law_parts := ok_law_parts (P := P) (w := w) (base := base) B h_law_parts
  have c_law_from := ok_law_from (P := P) (w := w) (base := base) B h_law_from
  have c_law_put := ok_law_put (P := P) (w := w) (base := base) B h_law_put
  have c_is_from := ok_is_from (P := P) (w := w) (base := base) B c_is_whole h_is_from
  have c_is_below := ok_is_below (P := P) (w := w) (base := base) B c_is_whole h_is_below
  have c_law_random := ok_law_random (P := P) (w := w) (base := base) B c_law_hash h_law_random
  have c_law_generator := ok_law_generator (P := P) (w := w) (base := base) B c_law_cell h_law_generator
  have c_law_plus := ok_law_plus (P := P) (w := w) (base := base) B c_law_from c_law_parts h_law_plus
  have c_law_less := ok_law_less (P := P) (w := w) (base := base) B c_law_from c_law_parts h_law_less
  have c_law_is_system := ok_law_is_system (P := P) (w := w) (base := base) B c_law_size h_law_is_system
  have c_are_below := ok_are_below (P := P) (w := w) (base := base) B c_is_below h_are_below
  have c_are_orders := ok_are_orders (P := P) (w := w) (base := base) B c_is_from h_are_orders
  have c_check_member := ok_check_member (P := P) (w := w) (base := base) B c_is_below c_size_of h_check_member
  have c_check_place := ok_check_place (P := P) (w := w) (base := base) B c_is_below h_check_place
  have c_law_off := ok_law_off (P := P) (w := w) (base := base) B c_law_less c_law_plus h_law_off
  have c_law_shuffled := ok_law_shuffled (P := P) (w := w) (base := base) B c_law_random h_law_shuffled
  have c_law_orders := ok_law_orders (P := P) (w := w) (base := base) B c_law_random h_law_orders
  have c_law_code := ok_law_code (P := P) (w := w) (base := base) B c_law_random c_law_size h_law_code
  have c_is_each_once := ok_is_each_once (P := P) (w := w) (base := base) B c_are_below h_is_each_once
  have c_law_system := ok_law_system (P := P) (w := w) (base := base) B c_law_random c_law_shuffled c_law_size h_law_system
  have c_law_righted := ok_law_righted (P := P) (w := w) (base := base) B c_law_size c_law_off c_law_put c_law_random c_law_code h_law_righted
  have c_is_system := ok_is_system (P := P) (w := w) (base := base) B c_is_below c_is_each_once c_size_of c_are_orders h_is_system
  have c0_law_marked := Cal.void (P := P) (w := w) (base := base) h_law_marked
  have c1_law_marked := ok_law_marked B (n1 := 0) (by decide) (fun n0 e => nomatch e) c0_law_marked h_law_marked
  have c2_law_marked := ok_law_marked B (n1 := 1) (by decide) (fun n0 e => by cases e; exact fun v d S H Q E h1 h2 => ⟨v, d, S, rfl, h1, h2⟩) c1_law_marked h_law_marked
  have c3_law_marked := ok_law_marked B (n1 := 2) (by decide) (fun n0 e => by cases e; exact fun v d S H Q E h1 h2 => ⟨v, d, S, rfl, h1, h2⟩) c2_law_marked h_law_marked
  have c4_law_marked := ok_law_marked B (n1 := 3) (by decide) (fun n0 e => by cases e; exact fun v d S H Q E h1 h2 => ⟨v, d, S, rfl, h1, h2⟩) c3_law_marked h_law_marked
  have c_law_marked := c4_law_marked.lift (show _ ≤ 5 by decide)
  have c_check_system := ok_check_system (P := P) (w := w) (base := base) B c_is_system h_check_system
  have c_with_signs := ok_with_signs (P := P) (w := w) (base := base) B c_renamed_table c_is_each_once c_size_of c_check_system h_with_signs
  have c_reordered := ok_reordered (P := P) (w := w) (base := base) B c_is_each_once c_check_system h_reordered
  have c_added_to := ok_added_to (P := P) (w := w) (base := base) B c_plus c_copied c_check_member c_check_place c_check_system h_added_to
  have c_fixed_at := ok_fixed_at (P := P) (w := w) (base := base) B c_minus c_copied c_is_below c_size_of c_check_place c_check_system h_fixed_at
  have c_put_together := ok_put_together (P := P) (w := w) (base := base) B c_plus c_copied c_check_system h_put_together
  have k_added_to_member_place_system := kw_added_to_member_place_system c_added_to h_added_to
  have k_reordered_places_system := kw_reordered_places_system c_reordered h_reordered
  have k_with_signs_names_system := kw_with_signs_names_system c_with_signs h_with_signs
  have c_law_turned_right := ok_law_turned_right (P := P) (w := w) (base := base) B c_law_marked c_law_plus c_law_off c_law_is_system c_added_to c_law_random c_law_size c_reordered c_with_signs c_law_shuffled k_added_to_member_place_system k_reordered_places_system k_with_signs_names_system h_law_turned_right
  have k_put_together_other_system := kw_put_together_other_system c_put_together h_put_together
  have k_fixed_at_sign_place_system := kw_fixed_at_sign_place_system c_fixed_at h_fixed_at
  have c_law_cut_right := ok_law_cut_right (P := P) (w := w) (base := base) B c_law_marked c_law_off c_law_plus c_law_is_system c_put_together c_law_code c_law_random c_law_system c_fixed_at k_put_together_other_system k_fixed_at_sign_place_system h_law_cut_right
  exact ok_law (P := P) (w := w) (base := base) B c_fixed_at c_added_to c_reordered c_with_signs c_law_cut_right c_law_turned_right c_law_code c_law_righted c_law_system c_law_random c_law_orders c_law_generator h_law
end K08
open PySem PySem.W PySem.Calls PyProof.Rows
theorem PySem.Challenge.cw_checkwright_k08_whole_systems_turned_holds : PySem.Challenge.rw_checkwright_k08_whole_systems_turned.Holds := by
  w_on; o_law
  refine HandSHeadRun.head_any (r := OpenLaw.row PySem.Challenge.rw_checkwright_k08_whole_systems_turned) (q := view (OpenLaw.row PySem.Challenge.rw_checkwright_k08_whole_systems_turned).prog [55]) (H := K08.hk) (ob := K08.ob) (M := 3800) (loose := K08.ls) (d := HandSHeadRun.topDef (OpenLaw.row PySem.Challenge.rw_checkwright_k08_whole_systems_turned).prog 55) (kwd := []) K08.ob_eq
    (by kernel_rfl) (fun s => by kernel_rfl) K08.run (by kernel_rfl) (by kernel_rfl) (by kernel_rfl) (by rfl) (by first | assumption | decide +kernel) (by decide +kernel) ⟨rfl, rfl, rfl, rfl, rfl, by decide +kernel⟩ ?hw ?hc
  case hw => w_witness2
  case hc =>
    refine G.walk_gE (l := PySem.Challenge.rw_checkwright_k08_whole_systems_turned) (n := 63) (k := 9) (x := "script") rfl (by decide) (by kernel_rfl) ⟨rfl, by decide, by decide⟩ ?F
    intro w mg fa h Y Gn hmg0
    obtain ⟨K, KX, c⟩ := Y
    have hmg : mg ("law" : PySem.Str) = some (.ref fa) := by
      have e : (HandSHeadRun.topDef (OpenLaw.row PySem.Challenge.rw_checkwright_k08_whole_systems_turned).prog 55).name = ("law" : PySem.Str) := by kernel_rfl
      rw [← e]
      exact hmg0
    have e2 := hmg.symm.trans (He.glo_ok KX Gn (c.fact 41 (f := .glo "law") rfl))
    cases e2
    obtain ⟨fd, hb, hF⟩ := K08.facts (P := (PySem.Challenge.rw_checkwright_k08_whole_systems_turned).prog) (w := w) KX Gn c
    exact ⟨K, fd, K08.sLaw K, KX, hb, fun H a ns hl _ hS => ⟨a, ns, rfl, hS, fun _ => rfl⟩, hF⟩
end
