import PyProof.Rows.All
import Wide.All
import OpenK.AllK
import Wide.FinOn
import HandS.Base
import HandS.Call
import HandS.List
import HandS.Comp
import HandS.Ends
import HandS.Exc
import HandS.ExcOwn
import HandS.Words
import HandS.WordsList
import HandS.WordsExc
import HandS.Iter
import HandS.Zip
import HandS.Wide
import HandS.WideBits
import HandS.Flow
import HandS.IsInst
import HandS.Rev
import HandS.Walk
import HandS.Style
import HandS.TupAny
import HandS.Conv
import PyProof.ReprBulk
import HandS.SortInts
import HandS.HeadEnd
import HandS.HeadHook2
import HandS.ExcField
import HandS.ExcInit
import KE.KStateDown
import HandS.More
import HandS.Defaults
import HandS.Head0
import HandS.Head1
import HandS.Head2
import HandS.HeadHook1
import HandS.SetFor
import PySem.Challenge.RW_checkwright_k22_whole_systems_for_wishes
set_option Elab.async false
set_option linter.all false
section
set_option maxRecDepth 100000
set_option maxHeartbeats 2000000
/-! calls where no repr is under way (the guards are known to be none) -/
namespace G
open PySem PySem.Spec PyProof.Rows L2

/-- a promise that may lean on: no repr is under way -/
structure FnG (P : Program) (w : World) (K : PySem.W.Frag) (mg : Str → Option Value) (base : Heap)
    (CX : CXT) (k : Nat) (f : Addr) (fd : FuncData) (ps : List Str) (sp : Sp) : Prop where
  ar : ∀ vs H Q E, sp vs H Q E → vs.length = ps.length
  go : ∀ (A : Around) (outer : List Env) (s : Shared) (H : Hp) (args : Args) (us : List Value)
    (vs : List V) (Q : VK) (E : XK), A.guards = some [] → Room k A → Env0 P w K mg base A outer s H →
    BindsTo s fd args (ps.zip us) → Vals vs us → sp vs H Q E →
    codeAny (model P w) A (.call (.ref f) args) (CR CX outer P w H s Q E) s

section
variable {P : Program} {w : World} {K : PySem.W.Frag} {mg : Str → Option Value} {base : Heap} {CX : CXT}
theorem FnG.lift {j k : Nat} {f : Addr} {fd : FuncData} {ps : List Str} {sp : Sp}
    (F : FnG P w K mg base CX j f fd ps sp) (h : j ≤ k) : FnG P w K mg base CX k f fd ps sp :=
  ⟨F.ar, fun A outer s H args us vs Q E hg hr => F.go A outer s H args us vs Q E hg (hr.mono h)⟩
theorem FnG.ofOk {k : Nat} {f : Addr} {fd : FuncData} {ps : List Str} {sp : Sp}
    (F : FnOk P w K mg base CX k f fd ps sp) : FnG P w K mg base CX k f fd ps sp :=
  ⟨F.len, fun A outer s H args us vs Q E _ => F.run A outer s H args us vs Q E⟩

/-- the context of a body -/
abbrev bodyCx (CX : CXT) (P : Program) (w : World) (K : PySem.W.Frag) (mg : Str → Option Value) (base : Heap) (N : List Str)
    (qual : Str) (st : Stmt) (f : Addr) (cdv : Value) (A : Around) (outer : List Env) (s : Shared) (H : Hp) (E : XK) : Cx :=
  cxOf CX P w K mg base N qual (defScope st) f cdv A outer s H E

/-- a def, by its body's reading, where no repr is under way -/
theorem fn_g {x qual : Str} {st : Stmt} {f : Addr} {fd : FuncData} {N ps : List Str} {k : Nat} {sp : Sp}
    (F : Fun K x qual st f fd) (S : FnScope N ps (defScope st)) (ar : ∀ vs H Q E, sp vs H Q E → vs.length = ps.length)
    (hb : ∀ (cdv : Value) (A : Around) (outer : List Env) (s : Shared) (H : Hp) (vs : List V) (Q : VK) (E : XK),
      A.guards = some [] → Room k (A.deeper (envOfC qual (defScope st) s.heap.objs.size f cdv)) → sp vs H Q E →
      ∃ t, PSs (bodyCx CX P w K mg base N qual st f cdv A outer s H E) (defBody st) t ∧
        t { nx := fun _ H' => Q .non H', rt := Q } (start N vs) H) : FnG P w K mg base CX (k + 1) f fd ps sp := by
  obtain ⟨oc, od, kV, doc, pm, an, cdv, ct, osl, rfl, lk, hcd⟩ := F.ex
  refine ⟨ar, fun A outer s H args us vs Q E hg hr e0 bt rv hsp => ?_⟩
  have up : ∀ b o, base.get? b = some o → s.heap.get? b = some o := fun b o e => (e0.bs b o e).1
  have inK := e0.mod.kin.keeps up
  have noL := e0.mod.nolimit.keeps up
  have slots : ∀ y ∈ ps.zip us, (defScope st).names.lookup y.1 = some .local ∨
      ((defScope st).names.lookup y.1 = some .cell ∧ ((cellsFrom (s.heap.objs.size + 1) (defScope st).names []).lookup y.1).isSome = true) := by
    intro ⟨n, v⟩ hy
    rcases S.par n (List.of_mem_zip hy).1 with q | q
    · exact .inl q
    · exact .inr ⟨q, PySem.W.cellsFrom_some _ _ _ (.inl q)⟩
  refine codeAny_call_function hr.depth (inK _ _ lk) rfl S.co S.gen rfl (PySem.W.codeRec_of inK hcd) (bt _ _ _ _ ?_)
  refine wpAny_newFunctionEnv_cells S.kind slots fun env he s1 hs1 => ?_
  subst he
  refine ⟨noL.keeps hs1.toInCall.keep, codeAny_func ?_⟩
  obtain ⟨t, ht, rd⟩ := hb cdv A outer s H vs Q E hg (hr.deeper _) hsp
  have J0 := inv_start (CX := CX) (E := E) S hr.hd e0 (ar _ _ _ _ hsp) rv hs1
  refine wpAny_mono (ht.run [] s1 (start N vs) H _ J0 rd) (fun fl s' hs => ?_) fun _ _ hs => hs
  cases fl with
  | next =>
    obtain ⟨_, H2, J, q⟩ := hs
    exact ⟨.non, H2, J.os, J.bare, J.base, J.hok, rfl, q⟩
  | ret u =>
    obtain ⟨v, _, H2, J, r2, q⟩ := hs
    exact ⟨v, H2, J.os, J.bare, J.base, J.hok, r2, q⟩
  | brk => exact (hs.elim fun _ z => z.elim fun _ y => y.2).elim
  | cont => exact (hs.elim fun _ z => z.elim fun _ y => y.2).elim

/-- .. that lets nothing out -/
theorem fn_g0 {x qual : Str} {st : Stmt} {f : Addr} {fd : FuncData} {N ps : List Str} {k : Nat} {sp : Sp}
    (F : Fun K x qual st f fd) (S : FnScope N ps (defScope st)) (ar : ∀ vs H Q E, sp vs H Q E → vs.length = ps.length)
    (hb : ∀ (cdv : Value) (A : Around) (outer : List Env) (s : Shared) (H : Hp) (vs : List V) (Q : VK) (E : XK),
      A.guards = some [] → Room k (A.deeper (envOfC qual (defScope st) s.heap.objs.size f cdv)) → sp vs H Q E →
      ∃ t, PSs (bodyCx CX0 P w K mg base N qual st f cdv A outer s H E).nox (defBody st) t ∧
        t { nx := fun _ H' => Q .non H', rt := Q } (start N vs) H) : FnG P w K mg base CX0 (k + 1) f fd ps sp :=
  fn_g F S ar fun cdv A outer s H vs Q E hg hr h =>
    (hb cdv A outer s H vs Q E hg hr h).imp fun _ z => ⟨z.1.nox, z.2⟩
end

/-! ### calls -/
section
variable {X : Cx} {CX : CXT} {k : Nat} {f : Addr} {fd : FuncData} {ps ks : List Str} {sp : Sp} {dvs : List V} {ds : List Value}
  {E : XK} {x : Str} {p pos : Pos} {e : Expr} {es : List Expr} {kws : List Keyword} {t tk : TA}
/-- behind a call -/
def Bh (X : Cx) (pins : List (Addr × Obj)) (σ : L2.St) (Q : VK) : Result → Shared → Prop
  | .ok (.ret u), s' => EP X pins σ Q u s'
  | .ok _, _ => False
  | .error e, s' => X.xe e s'
theorem ended {pins : List (Addr × Obj)} {σ : L2.St} {H : Hp} {s s' : Shared} {Q : VK} (hx : Passes CX X E) (I : Inv X pins σ H s) :
    ∀ {r : Result}, CR CX X.stack X.prog X.w H s Q E r s' → Bh X pins σ Q r s'
  | .error _, hq => hx pins σ H s _ s' I hq
  | .ok (.ret _), hq => I.after hq
  | .ok .next, hq => hq
  | .ok .brk, hq => hq
  | .ok .cont, hq => hq
theorem enter {pins : List (Addr × Obj)} {σ : L2.St} {H : Hp} {s : Shared} {Q : VK} {args : Args} {us : List Value} {vs : List V}
    (hg : X.A.guards = some []) (F : FnG X.prog X.w X.K X.mg X.base CX k f fd ps sp) (hr : Room k X.A) (hx : Passes CX X E) (I : Inv X pins σ H s)
    (hb : BindsTo s fd args (ps.zip us)) (r : Vals vs us) (h : sp vs H Q E) :
    codeAny (model X.prog X.w) X.A (.call (.ref f) args) (Bh X pins σ Q) s :=
  codeAny_mono (F.go X.A X.stack s H args us vs Q E hg hr I.env0 hb r h) fun _ _ hq => ended hx I hq
theorem bh_out {pins : List (Addr × Obj)} {σ : L2.St} {Q : VK} {s' : Shared} : ∀ {r : Result}, Bh X pins σ Q r s' →
    (match r with | .ok (.ret v) => EP X pins σ Q v s' | .ok _ => False | .error e => X.xe e s')
  | .error _, h => h
  | .ok (.ret _), h => h
  | .ok .next, h => h
  | .ok .brk, h => h
  | .ok .cont, h => h
theorem run_g {pins : List (Addr × Obj)} {σ : L2.St} {H : Hp} {s : Shared} {Q : VK} {us : List Value} {vs : List V}
    (hg : X.A.guards = some []) (F : FnG X.prog X.w X.K X.mg X.base CX k f fd ps sp) (hr : Room k X.A) (hb : Binds X.K fd ps ds) (hd : Vals dvs ds)
    (hx : Passes CX X E) (I : Inv X pins σ H s) (r : Vals vs us) (h : sp (vs ++ dvs) H Q E) :
    wpAny (model X.prog X.w) X.A (call (.ref f) us) (EP X pins σ Q) X.xe s := by
  have r2 := r.append hd
  refine wpAny_call (codeAny_mono (enter hg F hr hx I (hb s us I.kIn (r2.length ▸ F.ar _ _ _ _ h)) r2 h) fun r s' hq => ?_)
  exact bh_out hq
/-- f(e, ..) -/
theorem pg_call (hg : X.A.guards = some []) (F : FnG X.prog X.w X.K X.mg X.base CX k f fd ps sp) (hr : Room k X.A) (hgl : Gl X x) (hm : X.mg x = some (.ref f))
    (hk : PySem.W.keepIn X.K (.ref f) = true) (hb : Binds X.K fd ps ds) (hd : Vals dvs ds) (hx : Passes CX X E) (ha : PA X (e :: es) t)
    (hdb : (x == ("__debug__" : Str)) = false := by decide)
    (he : starEach (e :: es) X.env = (false, eval e X.env) :: starEach es X.env := by rfl)
    (hpl : (backTo pos (starEach es X.env)).any (·.1) = false := by rfl) : PE X (.Call (.Name x p) (e :: es) [] pos) (tCall sp dvs E t) := by
  refine ⟨fun pins s σ H Q I h => wpAny_Call_Name_kw (ld_glob I hgl hm ?_ hdb)⟩
  refine PySem.W.callWith_K (h₀ := X.base) I.ok.mod.kin hk (thn (ha.run pos pins s σ H _ I h) ?_) he hpl
  rintro us s1 ⟨vs, H1, I1, r, q⟩
  exact ⟨I1.kIn, run_g hg F hr hb hd hx I1 r q⟩
/-- f() -/
theorem pg_call0 (hg : X.A.guards = some []) (F : FnG X.prog X.w X.K X.mg X.base CX k f fd ps sp) (hr : Room k X.A) (hgl : Gl X x) (hm : X.mg x = some (.ref f))
    (hk : PySem.W.keepIn X.K (.ref f) = true) (hb : Binds X.K fd ps ds) (hd : Vals dvs ds) (hx : Passes CX X E)
    (hdb : (x == ("__debug__" : Str)) = false := by decide) : PE X (.Call (.Name x p) [] [] pos) (tCall sp dvs E tNil) :=
  ⟨fun pins s σ H Q I h => wpAny_Call_Name_kw (ld_glob I hgl hm (PySem.W.callWith_K0 I.kIn hk (run_g (us := []) hg F hr hb hd hx I .nil h)) hdb)⟩
/-- f(k = v, ..): keywords alone -/
theorem run_gk {g : List Value → List Value → List Value} {gV : List V → List V → List V} {pins : List (Addr × Obj)} {σ : L2.St} {H : Hp} {s : Shared} {Q : VK} {us ws : List Value} {vs zs : List V}
    (hg : X.A.guards = some []) (F : FnG X.prog X.w X.K X.mg X.base CX k f fd ps sp) (hr : Room k X.A) (hb : KBinds X.K fd ps ks g gV)
    (hx : Passes CX X E) (I : Inv X pins σ H s) (r : Vals vs us) (rz : Vals zs ws) (h : sp (gV vs zs) H Q E) :
    wpAny (model X.prog X.w) X.A (call (.ref f) us (ks.zip ws)) (EP X pins σ Q) X.xe s := by
  have r2 := hb.rel r rz
  refine wpAny_call (codeAny_mono (enter hg F hr hx I (hb.to s us ws I.kIn (r2.length ▸ F.ar _ _ _ _ h)) r2 h) fun r s' hq => ?_)
  exact bh_out hq
end

section
variable {X : Cx} {CX : CXT} {k : Nat} {f : Addr} {fd : FuncData} {ps ks : List Str} {sp : Sp} {E : XK} {x : Str} {p pos : Pos} {kws : List Keyword} {tk : TA}
  {g : List Value → List Value → List Value} {gV : List V → List V → List V}
/-- f(k = v, ..), all by keywords -/
theorem pg_callK0 (hg : X.A.guards = some []) (F : FnG X.prog X.w X.K X.mg X.base CX k f fd ps sp) (hr : Room k X.A) (hgl : Gl X x) (hm : X.mg x = some (.ref f))
    (hk : PySem.W.keepIn X.K (.ref f) = true) (hb : KBinds X.K fd ps ks g gV) (hx : Passes CX X E) (hkw : PK X kws tk)
    (hall : (backToKw pos (keywordEach kws X.env)).all (·.1.isSome) = true := by rfl)
    (hks : (backToKw pos (keywordEach kws X.env)).filterMap (·.1) = ks := by rfl)
    (hdb : (x == ("__debug__" : Str)) = false := by decide)
    (hpl : ((backTo pos (starEach [] X.env)).any (·.1) || (backToKw pos (keywordEach kws X.env)).any (·.1.isNone)) = false := by rfl) :
    PE X (.Call (.Name x p) [] kws pos) (tCallK sp gV E tNil tk) := by
  refine ⟨fun pins s σ H Q I h => wpAny_Call_Name_kw (ld_glob I hgl hm ?_ hdb)⟩
  refine PySem.W.callWith_KW0 (h₀ := X.base) I.ok.mod.kin hk hall (thn (hkw.run pos pins s σ H _ I h) ?_) hpl
  rintro ws s2 ⟨zs, H2, I2, rz, q⟩
  rw [hks]
  exact ⟨I2.kIn, run_gk (us := []) (vs := []) hg F hr hb hx I2 .nil rz q⟩
end

/-! ### repr of data -/
section
variable {X : Cx}
/-- repr(x), x data without dicts -/
def rRepr (K : PySem.W.Frag) : List V → Hp → VK → Prop := fun xs H Q => ∃ v d, xs = [v] ∧ Dp K H v d ∧
  d.showable = true ∧ d.hasDict = false ∧ d.depth ≤ 100 ∧ d.shown.length ≤ sizeLine ∧ Q (.str d.shown) H
theorem call_repr {k : Nat} (hg : X.A.guards = some []) (hr : Room k X.A) : CallR X (.builtin "repr") (rRepr X.K) := by
  intro pins s σ H xs us Q I r h
  obtain ⟨v, d, rfl, hd, hs, hn, hp, hz, q⟩ := h
  obtain ⟨u, rfl, ru⟩ := vals1 r
  obtain ⟨as, rd⟩ := Dp.reads I d v u hd ru
  have hu := hr.un
  have flat : ∀ (t : Tok), EP X pins σ Q (.str d.shown t) { s with toks := s.toks + 1 } := fun t => ⟨.str d.shown, H, I.tok _, ⟨t, rfl⟩, q⟩
  have tall : ∀ {a : Addr}, Reads s.heap (.ref a) d as → wpAny (model X.prog X.w) X.A (call (.builtin "repr") [.ref a]) (EP X pins σ Q) X.xe s := fun {a} rd =>
    repr_of_reads' rd hs (PyData.noDict_hsm hn) hg (by omega) (fun _ _ e => e)
      (fun h' t tk hk => ⟨.str d.shown, H, I.kept hk, ⟨t, rfl⟩, q⟩) hz
  cases hd with
  | non => obtain rfl : u = Value.none := ru; exact PySem.P.repr_of_none (by simpa only [PyData.shown] using flat _)
  | bl b => obtain rfl : u = Value.bool b := ru; exact PySem.P.repr_of_bool (by simpa only [PyData.shown] using flat _)
  | int i =>
    obtain ⟨t, rfl⟩ := ru
    exact PySem.P.repr_of_int (by simpa [PyData.showable] using hs) (by simpa only [PyData.shown] using flat _)
  | str x =>
    obtain ⟨t, rfl⟩ := ru
    exact PySem.P.repr_of_str (by simpa only [PyData.shown] using flat _) (by simpa only [PyData.shown] using hz)
  | lst _ _ => obtain rfl := ru; exact tall rd
  | tup _ _ => obtain rfl := ru; exact tall rd
end

/-! ### the law's own call -/
/-- the names' dicts stay where a list is hidden -/
theorem ns_hid {h : Heap} {H : Hp} (none_of : ∀ b o es ep, h.get? b = some o → o.data = .dict es ep → H b = none) {b : Addr} {m : Str → Option Value}
    (n : h.Ns b m) : (hidT h H).Ns b m := by
  obtain ⟨o, es, ep, e, d, r⟩ := n
  exact ⟨o, es, ep, hidT_get e (none_of _ _ _ _ e d), d, r⟩
/-- where the script alone is tracked, or nothing -/
theorem law_at {P : Program} {w : World} {K : PySem.W.Frag} {mg mb : Str → Option Value} {CX : CXT} {k : Nat} {fa a : Addr} {fd : FuncData} {x : Str} {sp : Sp}
    {s : Shared} {vs : List Value} {H : Hp} (inK : K.In s.heap) (ng : s.heap.Ns mainGlobals mg) (nb : s.heap.Ns builtinsNs mb)
    (bb : ∀ x : Str, x ≠ "__name__" → mb x = bootBuiltins x) (lim : s.heap.NoLimit) (gens : s.gens = #[])
    (ha : s.heap.get? a = some { cls := .type "list", data := .seq vs.toArray }) (hr : Room k callerA)
    (F : ∀ base : Heap, K.In base → base.Ns mainGlobals mg → FnG P w K mg base CX k fa fd [x] sp)
    (bt : ∀ (s : Shared) (u : Value), BindsTo s fd ⟨[u], []⟩ [(x, u)]) (ok : HOk P w H s.heap) (one : ∀ b, H b ≠ none → b = a)
    (away : H a ≠ none → K.lookup a = none) (hO : Only H)
    (h : sp [.ref a] H (fun v _ => v = .bl true) fun _ _ _ => False) (noX : ∀ e s', CX [] H s (fun _ _ _ => False) e s' → False) :
    codeAny (model P w) callerA (.call (.ref fa) ⟨[.ref a], []⟩)
      (fun r s' => r = .ok (.ret (.bool true)) ∧ OldK s.heap s'.heap ∧ s'.os = s.os ∧ AllBare s'.gens) s := by
  have free : ∀ b o es ep, s.heap.get? b = some o → o.data = .dict es ep → H b = none := fun b o es ep e d => by
    cases q : H b with
    | none => rfl
    | some u =>
      obtain rfl := one b (by rw [q]; simp)
      rw [ha] at e
      cases e
      exact nomatch (show Data.seq vs.toArray _ = Data.dict es ep from d)
  have inB : K.In (hidT s.heap H) := fun b o e => by
    refine hidT_get (inK b o e) ?_
    cases q : H b with
    | none => rfl
    | some u =>
      obtain rfl := one b (by rw [q]; simp)
      rw [away (by rw [q]; simp)] at e
      cases e
  have md : Mod K mg (hidT s.heap H) := by
    obtain ⟨mc, l1, l2⟩ := lim
    exact ⟨inB, ns_hid free ng, ⟨mb, ns_hid free nb, bb⟩, mc, ns_hid free l1, l2⟩
  have e0 : Env0 P w K mg (hidT s.heap H) callerA [] s H :=
    ⟨rfl, md, fun _ _ e => of_hidT e, Nat.le_of_eq (hidT_size _ _), trivial, fun _ hb => (List.not_mem_nil hb).elim, ok, .of_eq gens⟩
  have run := (F _ inB (ns_hid free ng)).go callerA [] s H ⟨[.ref a], []⟩ [.ref a] [.ref a] _ _ rfl hr e0 (bt s (.ref a)) (.cons rfl .nil) h
  refine codeAny_mono run fun r s' hq => ?_
  match r, hq with
  | .error e, hq => exact (noX e s' hq).elim
  | .ok (.ret u), hq =>
    obtain ⟨v, H', os, bare, un, ok', rv, ev⟩ := hq
    subst ev
    obtain rfl : u = Value.bool true := rv
    refine ⟨rfl, .of_keep fun b o e => ?_, os, bare⟩
    cases q : H b with
    | none => exact un.keep b o e q List.not_mem_nil List.not_mem_nil
    | some u =>
      rcases hO b with z | ⟨ob, xs, z⟩
      · rw [q] at z
        cases z
      · have e1 := (ok b _ z).1
        have e2 := (ok' b _ (un.frzs b ob _ z)).1
        rw [e] at e1
        cases e1
        exact e2
/-- the script, tracked as what is known to its object -/
def scriptAt (a : Addr) (o : Obj) (xs : List V) : Hp := fun b => if b = a then some (.frz o (.lst xs)) else none
theorem scriptAt_ne {a b : Addr} {o : Obj} {xs : List V} (h : b ≠ a) : scriptAt a o xs b = none := if_neg h
theorem scriptAt_at {a : Addr} {o : Obj} {xs : List V} : scriptAt a o xs a = some (.frz o (.lst xs)) := if_pos rfl
theorem law_g {P : Program} {w : World} {K : PySem.W.Frag} {mg mb : Str → Option Value} {CX : CXT} {k : Nat} {fa a : Addr} {fd : FuncData} {x : Str} {sp : Sp}
    {s : Shared} {vs : List Value} {ns : List Int} (inK : K.In s.heap) (ng : s.heap.Ns mainGlobals mg) (nb : s.heap.Ns builtinsNs mb)
    (bb : ∀ x : Str, x ≠ "__name__" → mb x = bootBuiltins x) (lim : s.heap.NoLimit) (gens : s.gens = #[])
    (ha : s.heap.get? a = some { cls := .type "list", data := .seq vs.toArray }) (hi : IntsAre vs ns) (hl : ns.length ≤ sizeLine) (hr : Room k callerA)
    (F : ∀ base : Heap, K.In base → base.Ns mainGlobals mg → FnG P w K mg base CX k fa fd [x] sp)
    (bt : ∀ (s : Shared) (u : Value), BindsTo s fd ⟨[u], []⟩ [(x, u)])
    (h : ∀ H : Hp, Only H → SqL K H a (ns.map V.int) → sp [.ref a] H (fun v _ => v = .bl true) fun _ _ _ => False)
    (noX : ∀ H e s', CX [] H s (fun _ _ _ => False) e s' → False) :
    codeAny (model P w) callerA (.call (.ref fa) ⟨[.ref a], []⟩)
      (fun r s' => r = .ok (.ret (.bool true)) ∧ OldK s.heap s'.heap ∧ s'.os = s.os ∧ AllBare s'.gens) s := by
  cases hk : K.lookup a with
  | none =>
    have only : Only (scriptAt a { cls := .type "list", data := .seq vs.toArray } (ns.map V.int)) := fun b => by
      by_cases e : b = a
      · subst e
        exact .inr ⟨_, _, scriptAt_at⟩
      · exact .inl (scriptAt_ne e)
    refine law_at inK ng nb bb lim gens ha hr F bt (fun b u z => ?_) (fun b z => ?_) (fun _ => hk) only (h _ only (.inl (.inr ⟨_, scriptAt_at⟩))) (noX _)
    · by_cases e : b = a
      · subst e
        rw [scriptAt_at] at z
        cases z
        exact ⟨ha, by rw [List.length_map]; exact hl, vs, _, vals_ints hi, ha⟩
      · rw [scriptAt_ne e] at z
        cases z
    · exact Decidable.byContradiction fun e => z (scriptAt_ne e)
  | some o =>
    have e := inK a o hk
    rw [ha] at e
    cases e
    have sz : vs.toArray.size ≤ sizeLine := by rw [List.size_toArray, hi.length]; exact hl
    exact law_at (H := fun _ => none) inK ng nb bb lim gens ha hr F bt (fun _ _ z => nomatch z) (fun _ z => (z rfl).elim) (fun z => (z rfl).elim)
      (fun _ => .inl rfl) (h _ (fun _ => .inl rfl) (.inr ⟨_, vs.toArray, _, hk, rfl, rfl, rfl, sz, vals_ints hi⟩)) (noX _)

/-- the end of a law's row -/
theorem end_g {l : PySem.W.OpenLaw} {n k : Nat} {q : Program} {loose : List Str} {XP : (Str → Option Value) → Heap → Prop} {YP : World → Heap → Prop}
    {d : DefRec} {K : Params → PySem.W.Frag} {sp : PySem.W.Frag → Sp} {x : Str} (hn : l.most = some n) (hn2 : n ≤ sizeLine) (hdf : d.params.defaults = [])
    (hr : Room k callerA) (hY : ∀ (w : World) (h : Heap), YP w h → (K w.params).In h)
    (F : ∀ (w : World) (mg : Str → Option Value) (fa : Addr) (h : Heap), (K w.params).In h → h.Ns mainGlobals mg → mg d.name = some (.ref fa) →
      ∃ fd : FuncData, (∀ (s : Shared) (u : Value), BindsTo s fd ⟨[u], []⟩ [(x, u)]) ∧
        ∀ base : Heap, (K w.params).In base → base.Ns mainGlobals mg → FnG l.prog w (K w.params) mg base CX0 k fa fd [x] (sp (K w.params)))
    (hsp : ∀ (K : PySem.W.Frag) (H : Hp) (a : Addr) (ns : List Int), ns.length ≤ n → Only H → SqL K H a (ns.map V.int) →
      sp K [.ref a] H (fun v _ => v = .bl true) fun _ _ _ => False) :
    PySem.W.WalkO q loose XP YP l.row.toRowW d [] (fun f vs => PySem.call f vs) := by
  refine Att.attach_call hn hdf fun w s0 s1 mg mb fa o pm cd doc a vs ns G Y ho hd hcd hmg hobj hints hlen hg => ?_
  have inK := hY w _ Y
  obtain ⟨fd, hb, hF⟩ := F w mg fa _ inK G.T.g hmg
  exact law_g inK G.T.g G.T.b G.T.builtins G.T.nolimit hg hobj hints (Nat.le_trans hlen hn2) hr hF hb
    (fun H hO hS => hsp _ H a ns hlen hO hS) fun _ _ _ z => z
end G
end
section
set_option maxRecDepth 100000
set_option maxHeartbeats 2000000
/-! readings over data: what an expression gives is told as data, whatever stands in the heap -/
namespace G
open PySem PySem.Spec PyProof.Rows L2

/-! ### data in a heap: lists that are the call's own, tuples -/
mutual
inductive Da (K : PySem.W.Frag) (B : Hp) : V → PyData → Prop
  | non : Da K B .non .none
  | bl (b : Bool) : Da K B (.bl b) (.bool b)
  | int (i : Int) : Da K B (.int i) (.int i)
  | str (x : Str) : Da K B (.str x) (.str x)
  | lst {a : Addr} {xs : List V} {ds : List PyData} (h : B a = some (.lst xs)) (hs : DaAll K B xs ds) : Da K B (.ref a) (.list ds)
  | tup {a : Addr} {xs : List V} {ds : List PyData} (h : SqT K B a xs) (hs : DaAll K B xs ds) : Da K B (.ref a) (.tuple ds)
inductive DaAll (K : PySem.W.Frag) (B : Hp) : List V → List PyData → Prop
  | nil : DaAll K B [] []
  | cons {v : V} {vs : List V} {d : PyData} {ds : List PyData} (h : Da K B v d) (t : DaAll K B vs ds) : DaAll K B (v :: vs) (d :: ds)
end
section
variable {K : PySem.W.Frag} {B B' : Hp}
theorem same_t {H H' : Hp} {a : Addr} {xs : List V} (e : Same H H') (h : SqT K H a xs) : SqT K H' a xs := by
  rcases h with (h | ⟨o, h⟩) | h
  · exact .inl (.inl (e _ _ h))
  · exact .inl (.inr ⟨o, e _ _ h⟩)
  · exact .inr h
mutual
theorem Da.mono (e : Same B B') : ∀ (d : PyData) {v : V}, Da K B v d → Da K B' v d
  | .none, _, .non => .non
  | .bool _, _, .bl b => .bl b
  | .int _, _, .int i => .int i
  | .str _, _, .str x => .str x
  | .list ds, _, .lst h hs => .lst (e _ _ h) (DaAll.mono e ds hs)
  | .tuple ds, _, .tup h hs => .tup (same_t e h) (DaAll.mono e ds hs)
theorem DaAll.mono (e : Same B B') : ∀ (ds : List PyData) {vs : List V}, DaAll K B vs ds → DaAll K B' vs ds
  | [], _, .nil => .nil
  | d :: ds, _, .cons h t => .cons (Da.mono e d h) (DaAll.mono e ds t)
end
mutual
theorem Da.dp : ∀ (d : PyData) {v : V}, Da K B v d → Dp K B v d
  | .none, _, .non => .non
  | .bool _, _, .bl b => .bl b
  | .int _, _, .int i => .int i
  | .str _, _, .str x => .str x
  | .list ds, _, .lst h hs => .lst (.of h) (DaAll.dp ds hs)
  | .tuple ds, _, .tup h hs => .tup h (DaAll.dp ds hs)
theorem DaAll.dp : ∀ (ds : List PyData) {vs : List V}, DaAll K B vs ds → DpAll K B vs ds
  | [], _, .nil => .nil
  | d :: ds, _, .cons h t => .cons (Da.dp d h) (DaAll.dp ds t)
end
theorem DaAll.len : ∀ {vs : List V} {ds : List PyData}, DaAll K B vs ds → vs.length = ds.length
  | _, _, .nil => rfl
  | _, _, .cons _ t => congrArg Nat.succ t.len
theorem DaAll.at : ∀ {vs : List V} {ds : List PyData} {i : Nat} {d : PyData}, DaAll K B vs ds → ds[i]? = some d → ∃ v, vs[i]? = some v ∧ Da K B v d
  | _, _, _, _, .nil, e => by simp at e
  | _, _, 0, _, .cons h _, e => by
    simp at e
    subst e
    exact ⟨_, rfl, h⟩
  | _, _, i + 1, _, .cons _ t, e => by
    obtain ⟨v, h1, h2⟩ := DaAll.at (i := i) t (by simpa using e)
    exact ⟨v, by simpa using h1, h2⟩
theorem DaAll.app : ∀ {vs ws : List V} {ds es : List PyData}, DaAll K B vs ds → DaAll K B ws es → DaAll K B (vs ++ ws) (ds ++ es)
  | _, _, _, _, .nil, h => h
  | _, _, _, _, .cons a t, h => .cons a (t.app h)
theorem DaAll.take : ∀ {vs : List V} {ds : List PyData} (n : Nat), DaAll K B vs ds → DaAll K B (vs.take n) (ds.take n)
  | _, _, 0, _ => .nil
  | _, _, _ + 1, .nil => .nil
  | _, _, n + 1, .cons a t => .cons a (t.take n)
theorem DaAll.drop : ∀ {vs : List V} {ds : List PyData} (n : Nat), DaAll K B vs ds → DaAll K B (vs.drop n) (ds.drop n)
  | _, _, 0, h => h
  | _, _, _ + 1, .nil => .nil
  | _, _, n + 1, .cons _ t => t.drop n
theorem DaAll.rev : ∀ {vs : List V} {ds : List PyData}, DaAll K B vs ds → DaAll K B vs.reverse ds.reverse
  | _, _, .nil => .nil
  | _, _, .cons a t => by
    rw [List.reverse_cons, List.reverse_cons]
    exact t.rev.app (.cons a .nil)
theorem daInts : ∀ {vs : List V} {ns : List Int}, DaAll K B vs (ns.map .int) → vs = ns.map .int
  | _, [], .nil => rfl
  | _, _ :: ns, .cons (.int _) t => by rw [daInts (ns := ns) t]; rfl
theorem daBools : ∀ {vs : List V} {bs : List Bool}, DaAll K B vs (bs.map .bool) → vs = bs.map .bl
  | _, [], .nil => rfl
  | _, _ :: bs, .cons (.bl _) t => by rw [daBools (bs := bs) t]; rfl
end

/-! ### how the heap grows: H all that is tracked, B what the data lie in -/
structure Gr (B H B' H' : Hp) : Prop where
  ex : Same H H'
  bb : Same B B'
  sub : Same B' H'
  new : ∀ a o, B' a = some o → B a = none → H a = none
section
variable {B H B1 H1 B2 H2 : Hp}
theorem Gr.refl (h : Same B H) : Gr B H B H := ⟨Same.refl _, Same.refl _, h, fun a o e n => by rw [n] at e; cases e⟩
theorem Gr.trans (g : Gr B H B1 H1) (k : Gr B1 H1 B2 H2) : Gr B H B2 H2 := ⟨g.ex.trans k.ex, g.bb.trans k.bb, k.sub, fun a o e n => by
  cases q : B1 a with
  | none => exact g.ex.free (k.new a o e q)
  | some u => exact g.new a u q n⟩
theorem same_new {p : Addr} {o : HO} (h : H p = none) : Same H (upd H p o) := fun b u q => by
  rw [upd_ne (ne_of_none q h)]
  exact q
theorem Gr.add (h : Same B H) {p : Addr} (hp : H p = none) (o : HO) : Gr B H (upd B p o) (upd H p o) :=
  ⟨same_new hp, same_new (h.free hp), fun a u e => by
    by_cases q : a = p
    · subst q
      rw [upd_same] at e ⊢
      exact e
    · rw [upd_ne q] at e ⊢
      exact h a u e, fun a u e n => by
    by_cases q : a = p
    · subst q
      exact hp
    · rw [upd_ne q, n] at e
      cases e⟩
/-- a new object that is no data -/
theorem Gr.side (h : Same B H) {p : Addr} (hp : H p = none) (o : HO) : Gr B H B (upd H p o) :=
  ⟨same_new hp, Same.refl _, h.trans (same_new hp), fun a u e n => by rw [n] at e; cases e⟩
end

/-! ### the names' data -/
abbrev Rho := List (Option PyData)
structure EnvOk (K : PySem.W.Frag) (B : Hp) (σ : L2.St) (ρ : Rho) : Prop where
  len : σ.length = ρ.length
  look : ∀ (i : Nat) (d : PyData), ρ[i]? = some (some d) → ∃ v, σ[i]? = some (some v) ∧ Da K B v d
section
variable {K : PySem.W.Frag} {B B' : Hp} {σ : L2.St} {ρ : Rho}
theorem EnvOk.mono (e : Same B B') (h : EnvOk K B σ ρ) : EnvOk K B' σ ρ := ⟨h.len, fun i d q => by
  obtain ⟨v, h1, h2⟩ := h.look i d q
  exact ⟨v, h1, h2.mono e⟩⟩
theorem EnvOk.set (h : EnvOk K B σ ρ) {v : V} {d : PyData} (hv : Da K B v d) (i : Nat) : EnvOk K B (σ.set i (some v)) (ρ.set i (some d)) :=
  ⟨by rw [List.length_set, List.length_set]; exact h.len, fun j e q => by
    by_cases c : i = j
    · subst c
      have l : i < ρ.length := by
        have z := (List.getElem?_eq_some_iff.mp q).1
        rw [List.length_set] at z
        exact z
      rw [List.getElem?_set_self l] at q
      cases q
      exact ⟨v, by rw [List.getElem?_set_self (by rw [h.len]; exact l)], hv⟩
    · rw [List.getElem?_set_ne c] at q
      obtain ⟨w, h1, h2⟩ := h.look j e q
      exact ⟨w, by rw [List.getElem?_set_ne c]; exact h1, h2⟩⟩
theorem EnvOk.unset (h : EnvOk K B σ ρ) (i : Nat) : EnvOk K B (σ.set i none) (ρ.set i none) :=
  ⟨by rw [List.length_set, List.length_set]; exact h.len, fun j e q => by
    by_cases c : i = j
    · subst c
      have l : i < ρ.length := by
        have z := (List.getElem?_eq_some_iff.mp q).1
        rw [List.length_set] at z
        exact z
      rw [List.getElem?_set_self l] at q
      cases q
    · rw [List.getElem?_set_ne c] at q
      obtain ⟨w, h1, h2⟩ := h.look j e q
      exact ⟨w, by rw [List.getElem?_set_ne c]; exact h1, h2⟩⟩
end
def wipeR (ρ : Rho) : List Nat → Rho
  | [] => ρ
  | v :: vs => (wipeR ρ vs).set v none
theorem EnvOk.wiped {K : PySem.W.Frag} {B : Hp} {σ : L2.St} {ρ : Rho} (h : EnvOk K B σ ρ) : ∀ vs, EnvOk K B (wipe σ vs) (wipeR ρ vs)
  | [] => h
  | v :: vs => (h.wiped vs).unset v
def startR (N : List Str) (ds : List PyData) : Rho := ds.map some ++ List.replicate (N.length - ds.length) none
theorem env_start {K : PySem.W.Frag} {B : Hp} {N : List Str} {vs : List V} {ds : List PyData} (h : DaAll K B vs ds) : EnvOk K B (L2.start N vs) (startR N ds) := by
  have hl := h.len
  refine ⟨by unfold L2.start startR; simp [hl], fun i d q => ?_⟩
  unfold startR at q
  by_cases hi : i < ds.length
  · rw [List.getElem?_append_left (by simpa using hi), List.getElem?_map] at q
    cases e : ds[i]? with
    | none => rw [e] at q; cases q
    | some c =>
      rw [e] at q
      cases q
      obtain ⟨v, h1, h2⟩ := h.at e
      refine ⟨v, ?_, h2⟩
      unfold L2.start
      rw [List.getElem?_append_left (by simpa [hl] using hi), List.getElem?_map, h1]
      rfl
  · rw [List.getElem?_append_right (by simpa using hi), List.getElem?_replicate] at q
    split at q <;> cases q

/-! ### what evaluates to what data -/
def Ev (K : PySem.W.Frag) (te : TE) (ρ : Rho) (d : PyData) : Prop := ∀ σ B H, EnvOk K B σ ρ → Same B H → ∀ Q : VK, (∀ v B' H', Gr B H B' H' → Da K B' v d → Q v H') → te σ H Q
def EvL (K : PySem.W.Frag) (ta : TA) (ρ : Rho) (ds : List PyData) : Prop := ∀ σ B H, EnvOk K B σ ρ → Same B H → ∀ Q : List V → Hp → Prop, (∀ vs B' H', Gr B H B' H' → DaAll K B' vs ds → Q vs H') → ta σ H Q
def EvB (K : PySem.W.Frag) (tt : TT) (ρ : Rho) (b : Bool) : Prop := ∀ σ B H, EnvOk K B σ ρ → Same B H → ∀ Q : Bool → Hp → Prop, (∀ B' H', Gr B H B' H' → Q b H') → tt σ H Q
/-- an operation on values, by data -/
def Op2 (K : PySem.W.Frag) (r : R2) (x y z : PyData) : Prop := ∀ B H, Same B H → ∀ u v, Da K B u x → Da K B v y → ∀ Q : VK, (∀ w B' H', Gr B H B' H' → Da K B' w z → Q w H') → r u v H Q
def Fn (K : PySem.W.Frag) (r : List V → Hp → VK → Prop) (xs : List PyData) (z : PyData) : Prop := ∀ B H, Same B H → ∀ us, DaAll K B us xs → ∀ Q : VK, (∀ w B' H', Gr B H B' H' → Da K B' w z → Q w H') → r us H Q
section
variable {K : PySem.W.Frag} {ρ : Rho} {ta tb te tc : TE} {d x y z : PyData} {t u : TT} {r : R2}
theorem ev_var {i : Nat} (h : ρ[i]? = some (some d)) : Ev K (tVar i) ρ d := fun σ B H e s Q q => by
  obtain ⟨v, h1, h2⟩ := e.look i d h
  exact ⟨v, h1, q v B H (.refl s) h2⟩
theorem ev_int {i : Int} : Ev K (tC (.int i)) ρ (.int i) := fun _ B H _ s _ q => q _ B H (.refl s) (.int i)
theorem ev_bl {b : Bool} : Ev K (tC (.bl b)) ρ (.bool b) := fun _ B H _ s _ q => q _ B H (.refl s) (.bl b)
theorem ev_non : Ev K (tC .non) ρ .none := fun _ B H _ s _ q => q _ B H (.refl s) .non
theorem ev_str {c : Str} : Ev K (tC (.str c)) ρ (.str c) := fun _ B H _ s _ q => q _ B H (.refl s) (.str c)
theorem ev_op (ha : Ev K ta ρ x) (hb : Ev K tb ρ y) (hr : Op2 K r x y z) : Ev K (tOp r ta tb) ρ z := fun σ B H e s Q q =>
  ha σ B H e s _ fun u B1 H1 g1 hu => hb σ B1 H1 (e.mono g1.bb) g1.sub _ fun v B2 H2 g2 hv =>
    hr B2 H2 g2.sub u v (hu.mono g2.bb) hv Q fun w B3 H3 g3 hw => q w B3 H3 ((g1.trans g2).trans g3) hw
theorem ev_un {r : V → Hp → VK → Prop} (ha : Ev K ta ρ x) (hr : ∀ B H, Same B H → ∀ u, Da K B u x → ∀ Q : VK, (∀ w B' H', Gr B H B' H' → Da K B' w z → Q w H') → r u H Q) : Ev K (tUn r ta) ρ z := fun σ B H e s Q q =>
  ha σ B H e s _ fun u B1 H1 g1 hu => hr B1 H1 g1.sub u hu Q fun w B2 H2 g2 hw => q w B2 H2 (g1.trans g2) hw
theorem el_nil : EvL K tNil ρ [] := fun _ B H _ s _ q => q _ B H (.refl s) .nil
theorem el_cons {tr : TA} {ds : List PyData} (ha : Ev K ta ρ d) (hr : EvL K tr ρ ds) : EvL K (tCons ta tr) ρ (d :: ds) := fun σ B H e s Q q =>
  ha σ B H e s _ fun u B1 H1 g1 hu => hr σ B1 H1 (e.mono g1.bb) g1.sub _ fun vs B2 H2 g2 hv => q _ B2 H2 (g1.trans g2) (.cons (hu.mono g2.bb) hv)
theorem ev_tup {tr : TA} {ds : List PyData} (h : EvL K tr ρ ds) (hl : ds.length ≤ sizeLine) : Ev K (tTup tr) ρ (.tuple ds) := fun σ B H e s Q q =>
  h σ B H e s _ fun vs B1 H1 g1 hv => ⟨by rw [hv.len]; exact hl, fun p hp => by
    have g := Gr.add g1.sub hp (.tup vs)
    exact q _ _ _ (g1.trans g) (.tup (.of upd_same) (hv.mono g.bb))⟩
theorem ev_lst {tr : TA} {ds : List PyData} (h : EvL K tr ρ ds) (hl : ds.length ≤ sizeLine) : Ev K (tLst tr) ρ (.list ds) := fun σ B H e s Q q =>
  h σ B H e s _ fun vs B1 H1 g1 hv => ⟨by rw [hv.len]; exact hl, fun p hp => by
    have g := Gr.add g1.sub hp (.lst vs)
    exact q _ _ _ (g1.trans g) (.lst upd_same (hv.mono g.bb))⟩
theorem ev_cb {rr : List V → Hp → VK → Prop} {tr : TA} {ds : List PyData} (h : EvL K tr ρ ds) (hr : Fn K rr ds z) : Ev K (tCB rr tr) ρ z := fun σ B H e s Q q =>
  h σ B H e s _ fun vs B1 H1 g1 hv => hr B1 H1 g1.sub vs hv Q fun w B2 H2 g2 hw => q w B2 H2 (g1.trans g2) hw
theorem eb_test {b : Bool} (h : Ev K te ρ (.bool b)) : EvB K (tTest te) ρ b := fun σ B H e s Q q =>
  h σ B H e s _ fun v B1 H1 g1 hv => by cases hv; exact ⟨b, rfl, q B1 H1 g1⟩
theorem eb_B {b : Bool} (h : Ev K te ρ (.bool b)) : EvB K (tB te) ρ b := fun σ B H e s Q q =>
  h σ B H e s _ fun v B1 H1 g1 hv => by cases hv; exact ⟨b, rfl, q B1 H1 g1⟩
theorem eb_and {a b : Bool} (h1 : EvB K t ρ a) (h2 : a = true → EvB K u ρ b) (hf : a = false → b = false) : EvB K (tAnd t u) ρ b := fun σ B H e s Q q =>
  h1 σ B H e s _ fun B1 H1 g1 => by
    cases a with
    | true => exact iteT (h2 rfl σ B1 H1 (e.mono g1.bb) g1.sub _ fun B2 H2 g2 => q B2 H2 (g1.trans g2))
    | false => rw [hf rfl] at q; exact iteF (q B1 H1 g1)
theorem eb_or {a b : Bool} (h1 : EvB K t ρ a) (h2 : a = false → EvB K u ρ b) (ht : a = true → b = true) : EvB K (tOr t u) ρ b := fun σ B H e s Q q =>
  h1 σ B H e s _ fun B1 H1 g1 => by
    cases a with
    | true => rw [ht rfl] at q; exact iteT (q B1 H1 g1)
    | false => exact iteF (h2 rfl σ B1 H1 (e.mono g1.bb) g1.sub _ fun B2 H2 g2 => q B2 H2 (g1.trans g2))
theorem eb_not {a b : Bool} (h1 : EvB K t ρ a) (hb : (!a) = b) : EvB K (tNot t) ρ b := fun σ B H e s Q q =>
  h1 σ B H e s _ fun B1 H1 g1 => by rw [hb]; exact q B1 H1 g1
theorem ev_and {a : Bool} (h1 : Ev K ta ρ (.bool a)) (h2 : a = true → Ev K tb ρ z) (hf : a = false → z = .bool false) : Ev K (tAndV ta tb) ρ z := fun σ B H e s Q q =>
  h1 σ B H e s _ fun v B1 H1 g1 hv => by
    cases hv
    refine ⟨a, rfl, ?_⟩
    cases a with
    | true => exact iteT (h2 rfl σ B1 H1 (e.mono g1.bb) g1.sub Q fun w B2 H2 g2 => q w B2 H2 (g1.trans g2))
    | false => exact iteF (q _ B1 H1 g1 (by rw [hf rfl]; exact .bl false))
theorem ev_or {a : Bool} (h1 : Ev K ta ρ (.bool a)) (h2 : a = false → Ev K tb ρ z) (ht : a = true → z = .bool true) : Ev K (tOrV ta tb) ρ z := fun σ B H e s Q q =>
  h1 σ B H e s _ fun v B1 H1 g1 hv => by
    cases hv
    refine ⟨a, rfl, ?_⟩
    cases a with
    | true => exact iteT (q _ B1 H1 g1 (by rw [ht rfl]; exact .bl true))
    | false => exact iteF (h2 rfl σ B1 H1 (e.mono g1.bb) g1.sub Q fun w B2 H2 g2 => q w B2 H2 (g1.trans g2))
theorem ev_not {a : Bool} (h1 : Ev K ta ρ (.bool a)) (hz : z = .bool (!a)) : Ev K (tNotV ta) ρ z := fun σ B H e s Q q =>
  h1 σ B H e s _ fun v B1 H1 g1 hv => by cases hv; exact ⟨a, rfl, q _ B1 H1 g1 (by rw [hz]; exact .bl _)⟩
theorem ev_ifx {b : Bool} (h : EvB K t ρ b) (h1 : b = true → Ev K ta ρ z) (h2 : b = false → Ev K tb ρ z) : Ev K (tIf t ta tb) ρ z := fun σ B H e s Q q =>
  h σ B H e s _ fun B1 H1 g1 => by
    cases b with
    | true => exact iteT (h1 rfl σ B1 H1 (e.mono g1.bb) g1.sub Q fun w B2 H2 g2 => q w B2 H2 (g1.trans g2))
    | false => exact iteF (h2 rfl σ B1 H1 (e.mono g1.bb) g1.sub Q fun w B2 H2 g2 => q w B2 H2 (g1.trans g2))
theorem ev_chain {r' : R2} {a : Bool} {w : PyData} (ha : Ev K ta ρ x) (hb : Ev K tb ρ y) (hr : Op2 K r x y (.bool a)) (hc : a = true → Ev K tc ρ w) (hr' : a = true → Op2 K r' y w z) (hf : a = false → z = .bool false) : Ev K (tChain r r' ta tb tc) ρ z := fun σ B H e s Q q =>
  ha σ B H e s _ fun u B1 H1 g1 hu => hb σ B1 H1 (e.mono g1.bb) g1.sub _ fun v B2 H2 g2 hv =>
    hr B2 H2 g2.sub u v (hu.mono g2.bb) hv _ fun k B3 H3 g3 hk => by
      cases hk
      refine ⟨a, rfl, ?_⟩
      have g := (g1.trans g2).trans g3
      cases a with
      | true => exact iteT (hc rfl σ B3 H3 (e.mono g.bb) g.sub _ fun w' B4 H4 g4 hw => hr' rfl B4 H4 g4.sub v w' (hv.mono (g3.bb.trans g4.bb)) hw Q fun w5 B5 H5 g5 h5 => q w5 B5 H5 ((g.trans g4).trans g5) h5)
      | false => exact iteF (q _ B3 H3 g (by rw [hf rfl]; exact .bl false))
/-! operations -/
theorem op_I0 {g : Int → Int → V} {i j : Int} (h : ∀ B, Da K B (g i j) z) : Op2 K (rI0 g) (.int i) (.int j) z := fun B H s u v hu hv Q q => by
  cases hu
  cases hv
  exact ⟨i, j, rfl, rfl, q _ B H (.refl s) (h B)⟩
theorem op_I {C : Int → Int → Prop} {g : Int → Int → V} {i j : Int} (hc : C i j) (h : ∀ B, Da K B (g i j) z) : Op2 K (rI C g) (.int i) (.int j) z := fun B H s u v hu hv Q q => by
  cases hu
  cases hv
  exact ⟨i, j, rfl, rfl, hc, q _ B H (.refl s) (h B)⟩
theorem opp_cat {xs ys : List PyData} (hl : xs.length + ys.length ≤ sizeLine) : Op2 K rCat (.list xs) (.list ys) (.list (xs ++ ys)) := fun B H s u v hu hv Q q => by
  cases hu with
  | @lst a us _ h1 a1 =>
    cases hv with
    | @lst b vs _ h2 a2 =>
      refine ⟨_, _, _, _, rfl, rfl, s _ _ h1, s _ _ h2, by rw [a1.len, a2.len]; exact hl, fun p hp => ?_⟩
      have g := Gr.add s hp (.lst (us ++ vs))
      exact q _ _ _ g (.lst upd_same ((a1.app a2).mono g.bb))
theorem opp_ixL {xs : List PyData} {i : Nat} (h : xs[i]? = some z) : Op2 K (rIxL K) (.list xs) (.int i) z := fun B H s u v hu hv Q q => by
  cases hv
  cases hu with
  | lst h1 a1 =>
    obtain ⟨w, e1, e2⟩ := a1.at h
    exact ⟨_, _, _, w, rfl, rfl, .of (s _ _ h1), atI_nat e1, q _ B H (.refl s) e2⟩
theorem opp_ixT {xs : List PyData} {i : Nat} (h : xs[i]? = some z) : Op2 K (rIxT K) (.tuple xs) (.int i) z := fun B H s u v hu hv Q q => by
  cases hv
  cases hu with
  | tup h1 a1 =>
    obtain ⟨w, e1, e2⟩ := a1.at h
    exact ⟨_, _, _, w, rfl, rfl, same_t s h1, atI_nat e1, q _ B H (.refl s) e2⟩
theorem opp_eqD {x y : PyData} (hx : SeqAt.shaped x = true) (hy : SeqAt.shaped y = true) (hz : z = .bool (PyData.eqv x y)) : Op2 K (rEqD K) x y z := fun B H s u v hu hv Q q =>
  ⟨x, y, (hu.mono s).dp, (hv.mono s).dp, hx, hy, q _ B H (.refl s) (by rw [hz]; exact .bl _)⟩
theorem opp_neD {x y : PyData} (hx : SeqAt.shaped x = true) (hy : SeqAt.shaped y = true) (hz : z = .bool (!PyData.eqv x y)) : Op2 K (rNeD K) x y z := fun B H s u v hu hv Q q =>
  ⟨x, y, (hu.mono s).dp, (hv.mono s).dp, hx, hy, q _ B H (.refl s) (by rw [hz]; exact .bl _)⟩
theorem opp_eqI {i j : Int} (hz : z = .bool (decide (i = j))) : Op2 K rEq (.int i) (.int j) z := fun B H s u v hu hv Q q => by
  cases hu
  cases hv
  refine ⟨rfl, q _ B H (.refl s) ?_⟩
  rw [hz, show decide (V.int i = V.int j) = decide (i = j) from decide_eq_decide.mpr ⟨fun e => V.int.inj e, fun e => congrArg V.int e⟩]
  exact .bl _
theorem opp_neI {i j : Int} (hz : z = .bool (!decide (i = j))) : Op2 K rNe (.int i) (.int j) z := fun B H s u v hu hv Q q => by
  cases hu
  cases hv
  refine ⟨rfl, q _ B H (.refl s) ?_⟩
  rw [hz, show decide (V.int i = V.int j) = decide (i = j) from decide_eq_decide.mpr ⟨fun e => V.int.inj e, fun e => congrArg V.int e⟩]
  exact .bl _
theorem opp_eqS {a b : Str} (hz : z = .bool (decide (a = b))) : Op2 K rEq (.str a) (.str b) z := fun B H s u v hu hv Q q => by
  cases hu
  cases hv
  refine ⟨rfl, q _ B H (.refl s) ?_⟩
  rw [hz, show decide (V.str a = V.str b) = decide (a = b) from decide_eq_decide.mpr ⟨fun e => V.str.inj e, fun e => congrArg V.str e⟩]
  exact .bl _
theorem opp_neS {a b : Str} (hz : z = .bool (!decide (a = b))) : Op2 K rNe (.str a) (.str b) z := fun B H s u v hu hv Q q => by
  cases hu
  cases hv
  refine ⟨rfl, q _ B H (.refl s) ?_⟩
  rw [hz, show decide (V.str a = V.str b) = decide (a = b) from decide_eq_decide.mpr ⟨fun e => V.str.inj e, fun e => congrArg V.str e⟩]
  exact .bl _
/-! built-ins -/
theorem fn_repr (hs : d.showable = true) (hd : d.hasDict = false) (hp : d.depth ≤ 100) (hz : d.shown.length ≤ sizeLine) : Fn K (rRepr K) [d] (.str d.shown) := fun B H s us hu Q q => by
  cases hu with
  | cons h t =>
    cases t
    exact ⟨_, d, rfl, (h.mono s).dp, hs, hd, hp, hz, q _ B H (.refl s) (.str _)⟩
theorem fn_len {xs : List PyData} : Fn K (fun xs H Q => ∃ p ys, xs = [.ref p] ∧ (SqL K H p ys ∨ SqT K H p ys) ∧ Q (.int ys.length) H) [.list xs] (.int xs.length) := fun B H s us hu Q q => by
  cases hu with
  | cons h t =>
    cases t
    cases h with
    | lst h1 a1 => exact ⟨_, _, rfl, .inl (.of (s _ _ h1)), q _ B H (.refl s) (by rw [a1.len]; exact .int _)⟩
end
end G
end
section
set_option maxRecDepth 100000
set_option maxHeartbeats 2000000
/-! readings over data: statements, loops, comprehensions, defs -/
namespace G
open PySem PySem.Spec PyProof.Rows L2

/-! ### statements: N what the names' data are behind it, R what is returned -/
def Do (K : PySem.W.Frag) (ts : TS) (ρ : Rho) (N : Rho → Prop) (R : PyData → Prop) : Prop := ∀ σ B H (D : Ends), EnvOk K B σ ρ → Same B H →
  (∀ σ' B' H' ρ', Gr B H B' H' → EnvOk K B' σ' ρ' → N ρ' → D.nx σ' H') → (∀ v B' H' d, Gr B H B' H' → Da K B' v d → R d → D.rt v H') → ts D σ H
section
variable {K : PySem.W.Frag} {ρ : Rho} {N M : Rho → Prop} {R : PyData → Prop} {te : TE} {t u : TS} {tt : TT} {d : PyData}
theorem do_next (h : N ρ) : Do K tNext ρ N R := fun σ B H D e s n _ => n σ B H ρ (.refl s) e h
theorem do_seq (h : Do K t ρ M R) (k : ∀ ρ', M ρ' → Do K u ρ' N R) : Do K (tSeq t u) ρ N R := fun σ B H D e s n r =>
  h σ B H _ e s (fun σ' B' H' ρ' g e' m => k ρ' m σ' B' H' D e' g.sub (fun σ2 B2 H2 ρ2 g2 => n σ2 B2 H2 ρ2 (g.trans g2)) (fun v B2 H2 d g2 => r v B2 H2 d (g.trans g2))) r
theorem do_ret (h : Ev K te ρ d) (r : R d) : Do K (tRet te) ρ N R := fun σ B H D e s _ k => h σ B H e s _ fun v B' H' g hv => k v B' H' d g hv r
theorem do_retN (r : R .none) : Do K tRetN ρ N R := fun σ B H D e s _ k => k .non B H .none (.refl s) .non r
theorem do_drop (h : Ev K te ρ d) (n : N ρ) : Do K (tDrop te) ρ N R := fun σ B H D e s k _ => h σ B H e s _ fun v B' H' g _ => k σ B' H' ρ g (e.mono g.bb) n
theorem do_if {b : Bool} (h : EvB K tt ρ b) (h1 : b = true → Do K t ρ N R) (h2 : b = false → Do K u ρ N R) : Do K (tIfS tt t u) ρ N R := fun σ B H D e s n r =>
  h σ B H e s _ fun B1 H1 g1 => by
    cases b with
    | true => exact iteT (h1 rfl σ B1 H1 D (e.mono g1.bb) g1.sub (fun σ2 B2 H2 ρ2 g2 => n σ2 B2 H2 ρ2 (g1.trans g2)) fun v B2 H2 d g2 => r v B2 H2 d (g1.trans g2))
    | false => exact iteF (h2 rfl σ B1 H1 D (e.mono g1.bb) g1.sub (fun σ2 B2 H2 ρ2 g2 => n σ2 B2 H2 ρ2 (g1.trans g2)) fun v B2 H2 d g2 => r v B2 H2 d (g1.trans g2))
theorem Do.imp {N' : Rho → Prop} {R' : PyData → Prop} (h : Do K t ρ N R) (hn : ∀ ρ', N ρ' → N' ρ') (hr : ∀ d, R d → R' d) : Do K t ρ N' R' := fun σ B H D e s n r =>
  h σ B H D e s (fun σ' B' H' ρ' g e' m => n σ' B' H' ρ' g e' (hn _ m)) fun v B' H' d g hv m => r v B' H' d g hv (hr _ m)

/-! targets -/
def Tg (K : PySem.W.Frag) (g : TG) (e : PyData) (ρ ρ1 : Rho) : Prop := ∀ σ B H v, EnvOk K B σ ρ → Same B H → Da K B v e → ∀ Q : L2.St → Hp → Prop, (∀ σ', EnvOk K B σ' ρ1 → Q σ' H) → g v σ H Q
def Tgs (K : PySem.W.Frag) (g : TGs) (es : List PyData) (ρ ρ1 : Rho) : Prop := ∀ σ B H vs, EnvOk K B σ ρ → Same B H → DaAll K B vs es → ∀ Q : L2.St → Hp → Prop, (∀ σ', EnvOk K B σ' ρ1 → Q σ' H) → g vs σ H Q
theorem tg_name {i : Nat} {e : PyData} : Tg K (gName i) e ρ (ρ.set i (some e)) := fun σ B H v he s hv Q q => q _ (he.set hv i)
theorem tgs_nil : Tgs K gNil [] ρ ρ := fun σ B H vs he s hv Q q => by cases hv; exact ⟨rfl, q σ he⟩
theorem tgs_cons {g : TG} {gs : TGs} {e : PyData} {es : List PyData} {ρ1 ρ2 : Rho} (h : Tg K g e ρ ρ1) (hs : Tgs K gs es ρ1 ρ2) : Tgs K (gCons g gs) (e :: es) ρ ρ2 := fun σ B H vs he s hv Q q => by
  cases hv with
  | cons a t => exact ⟨_, _, rfl, h σ B H _ he s a _ fun σ' he' => hs σ' B H _ he' s t Q q⟩
theorem tg_tup {gs : TGs} {es : List PyData} {n : Nat} {ρ1 : Rho} (hn : es.length = n) (hs : Tgs K gs es ρ ρ1) : Tg K (gTup K n gs) (.tuple es) ρ ρ1 := fun σ B H v he s hv Q q => by
  cases hv with
  | tup h a => exact ⟨_, _, rfl, same_t s h, by rw [a.len, hn], hs σ B H _ he s a Q q⟩
theorem do_asg {g : TG} {ρ1 : Rho} (h : Ev K te ρ d) (hg : Tg K g d ρ ρ1) (n : N ρ1) : Do K (tAsg te g) ρ N R := fun σ B H D e s k _ =>
  h σ B H e s _ fun v B' H' gr hv => hg σ B' H' v (e.mono gr.bb) gr.sub hv _ fun σ' e' => k σ' B' H' ρ1 gr e' n
theorem do_set {i : Nat} (h : Ev K te ρ d) (n : N (ρ.set i (some d))) : Do K (tAsg te (gName i)) ρ N R := do_asg h tg_name n
theorem do_par {i j : Nat} {ta : TA} {x y : PyData} (h : EvL K ta ρ [x, y]) (n : N ((ρ.set i (some x)).set j (some y))) : Do K (tPar i j ta) ρ N R := fun σ B H D e s k _ =>
  h σ B H e s _ fun vs B' H' g hv => by
    cases hv with
    | cons h1 t =>
      cases t with
      | cons h2 t =>
        cases t
        exact ⟨_, _, rfl, k _ B' H' _ g (((e.mono g.bb).set h1 i).set h2 j) n⟩
theorem do_par3 {i j l : Nat} {ta : TA} {x y z : PyData} (h : EvL K ta ρ [x, y, z]) (n : N (((ρ.set i (some x)).set j (some y)).set l (some z))) : Do K (tPar3 i j l ta) ρ N R := fun σ B H D e s k _ =>
  h σ B H e s _ fun vs B' H' g hv => by
    cases hv with
    | cons h1 t =>
      cases t with
      | cons h2 t =>
        cases t with
        | cons h3 t =>
          cases t
          exact ⟨_, _, _, rfl, k _ B' H' _ g ((((e.mono g.bb).set h1 i).set h2 j).set h3 l) n⟩

/-! what is walked -/
def Goes (K : PySem.W.Frag) (J : It) (B : Hp) (es : List PyData) : Prop := Walk J es.length (fun H => Same B H) fun i H x H' => ∀ B0, Same B B0 → Same B0 H → ∃ B' e, Gr B0 H B' H' ∧ es[i]? = some e ∧ Da K B' x e
def Iter (K : PySem.W.Frag) (wi : TI) (ρ : Rho) (es : List PyData) : Prop := ∀ σ B H, EnvOk K B σ ρ → Same B H → ∀ R : It → Hp → Prop, (∀ J B1 H1, Gr B H B1 H1 → Goes K J B1 es → R J H1) → wi σ H R
theorem goes_at {J : It} {B : Hp} {xs : List V} {es : List PyData} {G : Hp → Prop} (w : Walk J xs.length G (YAt xs)) (hg : ∀ H, Same B H → G H) (a : DaAll K B xs es) : Goes K J B es := by
  have hl := a.len
  unfold Goes
  rw [← hl]
  refine w.mono hg fun i H x H' hi s y B0 s0 h0 => ?_
  obtain ⟨rfl, hx⟩ := y
  have he : es[i]? = some (es[i]'(by omega)) := List.getElem?_eq_getElem _
  obtain ⟨v, e1, e2⟩ := a.at he
  rw [hx] at e1
  cases e1
  exact ⟨B0, _, .refl h0, he, e2.mono s0⟩
theorem it_list {tl : TE} {es : List PyData} (h : Ev K tl ρ (.list es)) : Iter K (iList K tl) ρ es := fun σ B H e s R r =>
  h σ B H e s _ fun v B1 H1 g hv => by
    cases hv with
    | lst h1 a => exact ⟨_, rfl, ⟨_, .of (g.sub _ _ h1)⟩, r _ B1 H1 g (goes_at walk_list (fun H' s' => .of (s' _ _ h1)) a)⟩
theorem it_tup {tl : TE} {es : List PyData} (h : Ev K tl ρ (.tuple es)) : Iter K (iTup K tl) ρ es := fun σ B H e s R r =>
  h σ B H e s _ fun v B1 H1 g hv => by
    cases hv with
    | tup h1 a => exact ⟨_, rfl, ⟨_, same_t g.sub h1⟩, r _ B1 H1 g (goes_at walk_tup (fun H' s' => same_t s' h1) a)⟩
theorem it_range1 {ta : TA} {n : Nat} (h : EvL K ta ρ [.int n]) (hn : (n : Int) < 2 ^ 62) : Iter K (iRng1 ta) ρ ((List.range n).map fun (i : Nat) => .int (i : Int)) := fun σ B H e s R r =>
  h σ B H e s _ fun vs B1 H1 g hv => by
    cases hv with
    | cons h1 t =>
      cases t
      cases h1
      refine ⟨(n : Int), rfl, by omega, hn, r _ B1 H1 g ?_⟩
      unfold Goes
      rw [List.length_map, List.length_range]
      show Walk (Itr 0 (n : Int).toNat) n _ _
      rw [Int.toNat_natCast]
      refine walk_range.mono (fun _ _ => trivial) fun i H x H' hi s y B0 s0 h0 => ?_
      obtain ⟨rfl, rfl⟩ := y
      refine ⟨B0, .int (i : Int), .refl h0, by simp [hi], ?_⟩
      show Da K B0 (V.int (0 + (i : Int))) (.int (i : Int))
      rw [Int.zero_add]
      exact .int _
theorem it_range2 {ta : TA} {lo hi : Int} (h : EvL K ta ρ [.int lo, .int hi]) (hb : -(2 ^ 62) ≤ lo ∧ lo < 2 ^ 62 ∧ -(2 ^ 62) ≤ hi ∧ hi < 2 ^ 62) : Iter K (iRng2 ta) ρ ((List.range (hi - lo).toNat).map fun (i : Nat) => .int (lo + (i : Int))) := fun σ B H e s R r =>
  h σ B H e s _ fun vs B1 H1 g hv => by
    cases hv with
    | cons h1 t =>
      cases t with
      | cons h2 t =>
        cases t
        cases h1
        cases h2
        refine ⟨lo, hi, rfl, hb, r _ B1 H1 g ?_⟩
        unfold Goes
        rw [List.length_map, List.length_range]
        refine walk_range.mono (fun _ _ => trivial) fun i H x H' hi s y B0 s0 h0 => ?_
        obtain ⟨rfl, rfl⟩ := y
        exact ⟨B0, .int (lo + (i : Int)), .refl h0, by simp [hi], .int _⟩
/-- pairs of both, as long as the shorter one -/
def zipD (xs ys : List PyData) : List PyData := (xs.zip ys).map fun p => .tuple [p.1, p.2]
theorem zipD_len (xs ys : List PyData) : (zipD xs ys).length = min xs.length ys.length := by unfold zipD; simp
theorem goes_pair {J : It} {B : Hp} {xs ys : List V} {es fs : List PyData} {G : Hp → Prop} (w : Walk J (min xs.length ys.length) G (YPair (fun i => xs[i]?) fun i => ys[i]?)) (hg : ∀ H, Same B H → G H) (a : DaAll K B xs es) (b : DaAll K B ys fs) : Goes K J B (zipD es fs) := by
  have hl := a.len
  have hm := b.len
  unfold Goes
  rw [zipD_len, ← hl, ← hm]
  refine w.mono hg fun i H x H' hi s y B0 s0 h0 => ?_
  obtain ⟨T, p, q, rfl, hT, rfl, hp, hq⟩ := y
  have hx : i < es.length := by omega
  have hy : i < fs.length := by omega
  obtain ⟨v, e1, e2⟩ := a.at (List.getElem?_eq_getElem hx)
  obtain ⟨u, e3, e4⟩ := b.at (List.getElem?_eq_getElem hy)
  have hp' : xs[i]? = some p := hp
  have hq' : ys[i]? = some q := hq
  rw [e1] at hp'
  rw [e3] at hq'
  cases hp'
  cases hq'
  have g := Gr.add h0 hT (.tup [p, q])
  refine ⟨_, .tuple [es[i], fs[i]], g, ?_, .tup (.of upd_same) (.cons ((e2.mono s0).mono g.bb) (.cons ((e4.mono s0).mono g.bb) .nil))⟩
  unfold zipD
  rw [List.getElem?_map, (List.getElem?_zip_eq_some (z := (es[i], fs[i]))).mpr ⟨List.getElem?_eq_getElem hx, List.getElem?_eq_getElem hy⟩]
  rfl
theorem it_zip {ta : TA} {es fs : List PyData} (h : EvL K ta ρ [.list es, .list fs]) : Iter K (iZip K ta) ρ (zipD es fs) := fun σ B H e s R r =>
  h σ B H e s _ fun vs B1 H1 g hv => by
    cases hv with
    | cons h1 t =>
      cases t with
      | cons h2 t =>
        cases t
        cases h1 with
        | lst p1 a1 =>
          cases h2 with
          | lst p2 a2 => exact ⟨_, _, _, _, rfl, .of (g.sub _ _ p1), .of (g.sub _ _ p2), r _ B1 H1 g (goes_pair (walk_zip rfl) (fun H' s' => ⟨.of (s' _ _ p1), .of (s' _ _ p2)⟩) a1 a2)⟩
def enumD (es : List PyData) : List PyData := es.zipIdx.map fun p => .tuple [.int p.2, p.1]
theorem it_enum {ta : TA} {es : List PyData} (h : EvL K ta ρ [.list es]) : Iter K (iEnum K ta) ρ (enumD es) := fun σ B H e s R r =>
  h σ B H e s _ fun vs B1 H1 g hv => by
    cases hv with
    | cons h1 t =>
      cases t
      cases h1 with
      | lst p1 a1 =>
        refine ⟨_, _, rfl, .of (g.sub _ _ p1), r _ B1 H1 g ?_⟩
        have hl := a1.len
        unfold Goes
        rw [show (enumD es).length = es.length by unfold enumD; simp, ← hl]
        refine walk_enum.mono (fun H' s' => .of (s' _ _ p1)) fun i H x H' hi s y B0 s0 h0 => ?_
        obtain ⟨T, p, q, rfl, hT, rfl, hp, hq⟩ := y
        have hx : i < es.length := by omega
        obtain ⟨v, e1, e2⟩ := a1.at (List.getElem?_eq_getElem hx)
        cases hp
        have hq' := (show _ = some q from hq)
        simp only at hq'
        rw [e1] at hq'
        cases hq'
        have g := Gr.add h0 hT (.tup [.int (i : Nat), q])
        refine ⟨_, .tuple [.int i, es[i]], g, ?_, .tup (.of upd_same) (.cons (.int _) (.cons ((e2.mono s0).mono g.bb) .nil))⟩
        unfold enumD
        simp [hx]
/-- a for -/
theorem do_for {wi : TI} {g : TG} {es : List PyData} (h : Iter K wi ρ es) (I : Nat → Rho → Prop) (h0 : I 0 ρ)
    (hs : ∀ i e ρ', es[i]? = some e → I i ρ' → ∃ ρ1, Tg K g e ρ' ρ1 ∧ Do K t ρ1 (I (i + 1)) R) (hd : ∀ ρ', I es.length ρ' → N ρ') : Do K (tFor wi g t) ρ N R := fun σ B H D e s n r =>
  h σ B H e s _ fun J B1 H1 g1 w => by
    refine for_it w (fun i σ' H' => ∃ B' ρ', Gr B1 H1 B' H' ∧ EnvOk K B' σ' ρ' ∧ I i ρ') ⟨B1, ρ, .refl g1.sub, e.mono g1.bb, h0⟩ (fun i σ' H' _ ⟨B', _, g2, _, _⟩ => g2.bb.trans g2.sub) ?_ ?_
    · rintro i x σ' H' H2 hi ⟨B', ρ', g2, e2, p⟩ y
      obtain ⟨B2, el, g3, hel, hx⟩ := y B' g2.bb g2.sub
      obtain ⟨ρ1, ht, hb⟩ := hs i el ρ' hel p
      have g23 := g2.trans g3
      refine ht σ' B2 H2 x (e2.mono g3.bb) g3.sub hx _ fun σ2 e3 => ?_
      exact hb σ2 B2 H2 _ e3 g3.sub (fun σ4 B4 H4 ρ4 g4 e4 p4 => ⟨B4, ρ4, g23.trans g4, e4, p4⟩) fun v B4 H4 d g4 hv hr => r v B4 H4 d (g1.trans (g23.trans g4)) hv hr
    · rintro σ' H' ⟨B', ρ', g2, e2, p⟩
      exact n σ' B' H' ρ' (g1.trans g2) e2 (hd ρ' p)

/-! comprehensions -/
/-- a target within a comprehension: its names vs are empty at first -/
def TgW (K : PySem.W.Frag) (g : TG) (vs : List Nat) (e : PyData) (ρ ρ1 : Rho) : Prop := ∀ σ B H v, EnvOk K B σ ρ → Same B H → Da K B v e → ∀ Q : L2.St → Hp → Prop, (∀ σ', EnvOk K B σ' ρ1 → wipe σ' vs = wipe σ vs → Q σ' H) → g v (wipe σ vs) H Q
theorem tgw_name {i : Nat} {e : PyData} : TgW K (gName i) [i] e ρ ((wipeR ρ [i]).set i (some e)) := fun σ B H v he s hv Q q =>
  q _ ((he.wiped [i]).set hv i) (by show ((σ.set i none).set i (some v)).set i none = σ.set i none; rw [List.set_set, List.set_set])
theorem tgw_pair {i j : Nat} {x y : PyData} (hij : i ≠ j) : TgW K (gTup K 2 (gCons (gName i) (gCons (gName j) gNil))) [i, j] (.tuple [x, y]) ρ (((wipeR ρ [i, j]).set i (some x)).set j (some y)) := fun σ B H v he s hv Q q => by
  cases hv with
  | tup h a =>
    cases a with
    | cons a1 t =>
      cases t with
      | cons a2 t =>
        cases t
        refine ⟨_, _, rfl, same_t s h, rfl, _, _, rfl, _, _, rfl, rfl, q _ (((he.wiped [i, j]).set a1 i).set a2 j) ?_⟩
        show ((((((σ.set j none).set i none).set i (some _)).set j (some _)).set j none).set i none) = (σ.set j none).set i none
        rw [List.set_set, List.set_set, List.set_comm _ _ (Ne.symm hij), List.set_set, List.set_comm _ _ hij, List.set_set]
theorem ev_lc {wi : TI} {g : TG} {vs : List Nat} {es : List PyData} (h : Iter K wi ρ es) (hz : es.length ≤ 1000000) (f : PyData → Bool) (k : PyData → PyData)
    (hs : ∀ e, e ∈ es → ∃ ρ1, TgW K g vs e ρ ρ1 ∧ EvB K tt ρ1 (f e) ∧ (f e = true → Ev K te ρ1 (k e))) : Ev K (tLc wi g tt te vs) ρ (.list ((es.filter f).map k)) := fun σ B H e s Q q =>
  h σ B H e s _ fun J B1 H1 g1 w => fun Dl hD => by
    refine lc_it w (fun i H' => ∃ B' xs, Gr B1 H1 B' H' ∧ B' Dl = none ∧ H' Dl = some (.lst xs) ∧ DaAll K B' xs (((es.take i).filter f).map k)) ?_ (fun i H' _ ⟨B', _, g2, _, _, _⟩ => g2.bb.trans g2.sub) ?_ ?_
    · exact ⟨B1, [], .side g1.sub hD _, g1.sub.free hD, upd_same, .nil⟩
    · rintro i x H' H2 hi ⟨B', xs, g2, hB, hH, a⟩ y
      obtain ⟨B2, el, g3, hel, hx⟩ := y B' g2.bb g2.sub
      obtain ⟨ρ1, ht, hf, hk⟩ := hs el (List.mem_of_getElem? hel)
      have g23 := g2.trans g3
      have away : ∀ {Ba Ha Bb Hb : Hp}, Gr Ba Ha Bb Hb → Ba Dl = none → Ha Dl = some (.lst xs) → Bb Dl = none := fun {Ba Ha Bb Hb} gg n l => by
        cases z : Bb Dl with
        | none => rfl
        | some o => exact absurd (gg.new Dl o z n) (by rw [l]; simp)
      have hB2 := away g3 hB hH
      refine ht σ B2 H2 x (e.mono (g1.bb.trans g23.bb)) g3.sub hx _ fun σ2 e3 hw => ⟨hw, ?_⟩
      refine hf σ2 B2 H2 e3 g3.sub _ fun B3 H3 g4 => ?_
      have hB3 := away g4 hB2 (g3.ex _ _ hH)
      have tk : es.take (i + 1) = es.take i ++ [el] := by rw [List.take_add_one, hel]; rfl
      have hlen : xs.length ≤ i := by
        rw [a.len, List.length_map]
        exact Nat.le_trans (List.length_filter_le _ _) (List.length_take_le _ _)
      cases hb : f el with
      | true =>
        refine iteT (hk hb σ2 B3 H3 (e3.mono g4.bb) g4.sub _ fun w B4 H4 g5 hw => ?_)
        have hB4 := away g5 hB3 (g4.ex _ _ (g3.ex _ _ hH))
        have g45 := g4.trans g5
        have h4 : H4 Dl = some (.lst xs) := g45.ex _ _ (g3.ex _ _ hH)
        have gg := g23.trans g45
        refine ⟨xs, h4, Nat.lt_of_le_of_lt hlen (by have : es.length ≤ 1000000 := hz; rw [sizeLine_eq]; omega), B4, xs ++ [w], ?_, hB4, upd_same, ?_⟩
        · refine ⟨fun b o z => ?_, gg.bb, fun b o z => ?_, gg.new⟩
          · rw [upd_ne (ne_of_none z hD)]
            exact gg.ex b o z
          · rw [upd_ne (ne_of_none z hB4)]
            exact gg.sub b o z
        · rw [tk, List.filter_append, List.map_append]
          refine (a.mono (g3.bb.trans g45.bb)).app ?_
          rw [List.filter_cons, if_pos hb]
          exact .cons hw .nil
      | false =>
        refine iteF ⟨B3, xs, g23.trans g4, hB3, g4.ex _ _ (g3.ex _ _ hH), ?_⟩
        rw [tk, List.filter_append, List.map_append, List.filter_cons, if_neg (by rw [hb]; simp)]
        show DaAll K B3 xs (_ ++ [])
        rw [List.append_nil]
        exact a.mono (g3.bb.trans g4.bb)
    · rintro H' ⟨B', xs, g2, hB, hH, a⟩
      rw [List.take_length] at a
      refine q _ (upd B' Dl (.lst xs)) H' (g1.trans ⟨g2.ex, g2.bb.trans (same_new hB), fun b o z => ?_, fun b o z n => ?_⟩) (.lst upd_same (a.mono (same_new hB)))
      · by_cases c : b = Dl
        · subst c
          rw [upd_same] at z
          rw [hH]
          exact z
        · rw [upd_ne c] at z
          exact g2.sub b o z
      · by_cases c : b = Dl
        · subst c
          exact hD
        · rw [upd_ne c] at z
          exact g2.new b o z n
/-- .. without a test -/
theorem ev_map {wi : TI} {g : TG} {vs : List Nat} {es : List PyData} (h : Iter K wi ρ es) (hz : es.length ≤ 1000000) (k : PyData → PyData)
    (hs : ∀ e, e ∈ es → ∃ ρ1, TgW K g vs e ρ ρ1 ∧ Ev K te ρ1 (k e)) : Ev K (tLc wi g tYes te vs) ρ (.list (es.map k)) := by
  have q := ev_lc (tt := tYes) h hz (fun _ => true) k fun e he => by
    obtain ⟨ρ1, h1, h2⟩ := hs e he
    exact ⟨ρ1, h1, fun σ B H e s Q q => q B H (.refl s), fun _ => h2⟩
  rw [List.filter_eq_self.mpr (fun _ _ => rfl)] at q
  exact q
end

/-! ### defs: P ds d says what is handed in and what comes back -/
def sp (K : PySem.W.Frag) (P : List PyData → PyData → Prop) : Sp := fun vs H Q _ => ∃ B ds d, Same B H ∧ DaAll K B vs ds ∧ P ds d ∧ ∀ v B' H', Gr B H B' H' → Da K B' v d → Q v H'
section
variable {P : Program} {w : World} {K : PySem.W.Frag} {mg : Str → Option Value} {base : Heap}
theorem def_d {x qual : Str} {st : Stmt} {f : Addr} {fd : FuncData} {N ps : List Str} {k : Nat} {p : List PyData → PyData → Prop} (F : Fun K x qual st f fd) (S : FnScope N ps (defScope st))
    (ar : ∀ ds d, p ds d → ds.length = ps.length)
    (hb : ∀ (cdv : Value) (A : Around) (outer : List Env) (s : Shared) (H : Hp) (E : XK), A.guards = some [] → Room k (A.deeper (envOfC qual (defScope st) s.heap.objs.size f cdv)) →
      ∃ t, PSs (bodyCx CX0 P w K mg base N qual st f cdv A outer s H E).nox (defBody st) t ∧ ∀ ds d, p ds d → Do K t (startR N ds) (fun _ => d = .none) fun d' => d' = d) : FnG P w K mg base CX0 (k + 1) f fd ps (sp K p) := by
  refine fn_g0 F S (fun vs H Q E h => ?_) fun cdv A outer s H vs Q E hg hr h => ?_
  · obtain ⟨B, ds, d, _, a, hp, _⟩ := h
    rw [a.len]
    exact ar ds d hp
  · obtain ⟨B, ds, d, hs, a, hp, q⟩ := h
    obtain ⟨t, ht, hd⟩ := hb cdv A outer s H E hg hr
    refine ⟨t, ht, hd ds d hp _ B H _ (env_start a) hs (fun σ' B' H' ρ' g _ e => ?_) fun v B' H' d' g hv e => ?_⟩
    · exact q .non B' H' g (by rw [e]; exact .non)
    · rw [e] at hv
      exact q v B' H' g hv
variable {ρ : Rho} {ta tk : TA} {ds : List PyData} {d : PyData} {p : List PyData → PyData → Prop}
theorem ev_call {E : XK} (h : EvL K ta ρ ds) (hp : p ds d) : Ev K (tCall (sp K p) [] E ta) ρ d := fun σ B H e s Q q =>
  h σ B H e s _ fun vs B1 H1 g1 hv => ⟨B1, ds, d, g1.sub, by rw [List.append_nil]; exact hv, hp, fun v B2 H2 g2 h2 => q v B2 H2 (g1.trans g2) h2⟩
theorem ev_callK {E : XK} {gV : List V → List V → List V} {zs : List PyData} (h : EvL K tk ρ zs) (hp : p ds d) (hg : ∀ B ws, DaAll K B ws zs → DaAll K B (gV [] ws) ds) : Ev K (tCallK (sp K p) gV E tNil tk) ρ d := fun σ B H e s Q q =>
  h σ B H e s _ fun vs B1 H1 g1 hv => ⟨B1, ds, d, g1.sub, hg B1 vs hv, hp, fun v B2 H2 g2 h2 => q v B2 H2 (g1.trans g2) h2⟩
end
end G
end
section
set_option maxRecDepth 100000
set_option maxHeartbeats 2000000
/-! rules that the layer lacks: t[::-1] of a tuple, zip of a tuple and a list -/
namespace G
open PySem PySem.Spec PyProof.Rows L2 HT

/-! ### t[::-1] -/
section
variable {prog : Program} {w : World} {A : Around} {E : Value → Shared → Prop} {s : Shared}
theorem back_parts {sl : Addr} {v : Value} {n : Nat} {Q : Int × Int × Nat → Shared → Prop} (hs : s.heap.IsSliceOf sl .none .none v) (pv : IsPart v (some (-1)))
    (h : Q ((n : Int) - 1, -1, n) s) : wpAny (model prog w) A (Builtin.Slice.sliceApplied (.ref sl) (pure (n : Int))) Q E s := by
  obtain ⟨os, hos, _, hds⟩ := id hs
  unfold Builtin.Slice.sliceApplied Builtin.Slice.sliceFields
  have e : Builtin.Slice.slicePlaces ((n : Int) - 1) (-1) (-1) = n := by
    unfold Builtin.Slice.slicePlaces
    rw [if_neg (by decide)]
    by_cases c : (n : Int) - 1 > -1
    · rw [if_pos c, show (- -1 : Int) = 1 by decide, Int.ediv_one]
      omega
    · rw [if_neg c]
      omega
  refine wpAny_bind (wpAny_bind (wpAny_field hos hds (x := .none) rfl (wpAny_bind (wpAny_field hos hds (x := .none) rfl (wpAny_bind (wpAny_field hos hds (x := v) rfl (wpAny_pure ?_)))))))
  refine wpAny_bind (slicePart_ pv ?_)
  show wpAny _ _ (if ((-1 : Int) == 0) = true then _ else _) _ _ s
  rw [if_neg (by decide)]
  refine wpAny_bind (slicePart_ .none (wpAny_bind (slicePart_ .none (wpAny_bind (wpAny_pure ?_)))))
  show wpAny _ _ (pure ((n : Int) - 1, (-1 : Int), Builtin.Slice.slicePlaces ((n : Int) - 1) (-1) (-1))) _ _ s
  rw [e]
  exact wpAny_pure h
theorem fm_map {α β : Type} {f : α → Option β} {g : α → β} : ∀ (l : List α), (∀ x ∈ l, f x = some (g x)) → l.filterMap f = l.map g
  | [], _ => rfl
  | x :: l, h => by
    rw [List.filterMap_cons, h x (List.mem_cons_self ..), List.map_cons, fm_map l fun y hy => h y (List.mem_cons_of_mem _ hy)]
theorem back_pick (xs : Array Value) : ((List.range xs.size).filterMap fun (k : Nat) => xs[((xs.size : Int) - 1 + (k : Int) * -1).toNat]?).toArray = xs.toList.reverse.toArray := by
  refine congrArg List.toArray ?_
  apply List.ext_getElem?
  intro i
  by_cases hi : i < xs.size
  · have e1 : xs.toList.reverse[i]? = some xs[xs.size - 1 - i] := by
      rw [List.getElem?_reverse (by simpa using hi)]
      simp only [Array.length_toList, Array.getElem?_toList]
      exact Array.getElem?_eq_getElem _
    rw [e1]
    have e2 : ∀ n, n ≤ xs.size → (List.range n).filterMap (fun (k : Nat) => xs[((xs.size : Int) - 1 + (k : Int) * -1).toNat]?) = (List.range n).map fun k => xs.getD (xs.size - 1 - k) default := by
      intro n hn
      refine fm_map _ fun k hk => ?_
      have hk' := List.mem_range.mp hk
      have e3 : ((xs.size : Int) - 1 + (k : Int) * -1).toNat = xs.size - 1 - k := by omega
      rw [e3]
      have h4 : xs.size - 1 - k < xs.size := by omega
      rw [Array.getElem?_eq_getElem h4]
      simp [Array.getD, h4]
    rw [e2 _ (Nat.le_refl _), List.getElem?_map, List.getElem?_range hi]
    have h4 : xs.size - 1 - i < xs.size := by omega
    simp [Array.getD, h4]
  · have e1 : xs.toList.reverse[i]? = none := List.getElem?_eq_none_iff.mpr (by simp; omega)
    rw [e1, List.getElem?_eq_none_iff]
    refine Nat.le_trans (List.length_filterMap_le _ _) ?_
    rw [List.length_range]
    omega
theorem item_back {t sl : Addr} {items : Array Value} {v : Value} {Q : Value → Shared → Prop} (ht : IsTup s.heap t items) (hs : s.heap.IsSliceOf sl .none .none v) (pv : IsPart v (some (-1)))
    (h : Q (.ref s.heap.objs.size) { s with heap := s.heap.push { cls := .type "tuple", data := .seq items.toList.reverse.toArray } })
    (hsz : items.size ≤ sizeLine) : wpAny (model prog w) A (getItem (.ref t) (.ref sl)) Q E s := by
  have ok : sizeOk (.seq items.toList.reverse.toArray) := by
    show items.toList.reverse.toArray.size ≤ sizeLine
    rw [List.size_toArray, List.length_reverse, Array.length_toList]
    exact hsz
  obtain ⟨os, hos, hcs, hds⟩ := id hs
  have isS : s.TypeIs (.ref sl) "slice" := ⟨os, hos, hcs⟩
  unfold getItem
  try with_reducible refine wpAny_holding ?_
  first | refine wpAny_bind (wpAny_pure ?_) | skip
  refine wpAny_bind (wpAny_sequenceKey ht.typeIs (by decide) ?_)
  refine wpAny_bind (wpAny_callSpecial?_slot (name := Str.ofString "__getitem__") ht.typeIs PyProof.Rows.slot_tuple_getitem
    (wpAny_call_entry PyProof.Rows.slot_tuple_getitem ht.typeIs entry_tuple_getitem ?_ (args_tuple_getitem _ _)))
  show wpAny _ _ (Builtin.Tuple.tupleItemsOf (.ref t) >>= _) _ _ s
  refine wpAny_bind (tupleItemsOf_ ht (wpAny_bind (wpAny_typeOf isS ?_)))
  rw [if_pos (by decide)]
  refine wpAny_bind (back_parts hs pv ?_)
  show wpAny _ _ (if ((items.size : Int) - 1 == 0 && (-1 : Int) == 1 && items.size == items.size) = true then _ else _) _ _ s
  rw [if_neg (by simp), back_pick]
  first
    | exact wpAny_bind (m := Builtin.Tuple.tupleExact _) (wpAny_newObj_type (wpAny_pure ⟨_, rfl, wpAny_pure h⟩) ok)
    | exact wpAny_bind (m := Builtin.Tuple.tupleExact _) (wpAny_newObj_type (wpAny_bind (wpAny_pure (wpAny_pure ⟨_, rfl, wpAny_pure h⟩))) ok)
end
/-- t[::-1] -/
def tRevT (K : PySem.W.Frag) (te : TE) : TE := fun σ H Q => te σ H fun x H1 => ∃ a xs, x = .ref a ∧ SqT K H1 a xs ∧ ∀ p, H1 p = none → Q (.ref p) (upd H1 p (.tup xs.reverse))
theorem pe_revT {X : Cx} {e : Expr} {te : TE} {k : Nat} {p1 p2 p3 pos : Pos} (he : PE X e te) :
    PE X (.Subscript e (.Slice none none (some (.UnaryOp .USub (.Constant (.int 1) k p1) p2)) p3) pos) (tRevT X.K te) := by
  refine ⟨fun pins s σ H Q I h => Subscript_ (thn (he.run pins s σ H _ I h) ?_)⟩
  rintro v s1 ⟨x, H1, I1, r1, a, xs, rfl, hx, q⟩
  cases r1
  have hst : PO X (some (.UnaryOp .USub (.Constant (.int 1) k p1) p2)) (tPart (tUn (rU fun i => .int (-i)) (tC (.int 1)))) := po_some (pe_un un_neg pe_int)
  refine wpAny_Slice (thn (po_none.run pins s1 σ H1 (fun o H2 => o = none ∧ H2 = H1) I1 ⟨rfl, rfl⟩) ?_)
  rintro vl s2 ⟨l, H2, I2, pl, rfl, rfl⟩
  refine thn (po_none.run pins s2 σ H2 (fun o H3 => o = none ∧ H3 = H2) I2 ⟨rfl, rfl⟩) ?_
  rintro vu s3 ⟨u, H3, I3, pu, rfl, rfl⟩
  refine thn (hst.run pins s3 σ H3 (fun o H4 => o = some (-1) ∧ H4 = H3) I3 ⟨1, rfl, -1, rfl, rfl, rfl⟩) ?_
  rintro vs s4 ⟨o, H4, I4, ps, rfl, rfl⟩
  cases pl
  cases pu
  have I5 : Inv X pins σ H4 { s4 with heap := s4.heap.push { cls := .type "slice", data := .fields #[.none, .none, vs] } } :=
    I4.kept (t' := s4.toks) fun b ob q => Heap.get?_push_of_some _ q
  obtain ⟨its, r, ht, hz⟩ := I5.tuple hx
  have hlen := r.length
  refine tail_any (ops := [.ref a, .ref s4.heap.objs.size]) ht.typeIs (PyProof.Rows.slot_tuple_getitem.lookup) ?_ (by with_unfolding_all rfl)
  refine item_back ht (Heap.IsSliceOf.new _ .none .none vs) ps ?_ (by rw [List.size_toArray, ← hlen]; exact hz)
  refine ⟨.ref _, _, I5.laid (t' := s4.toks) (o := .tup xs.reverse) (fun b ob q => Heap.get?_push_of_some _ q) (Nat.le_refl _) ?_, rfl, q _ (I5.hok.fresh (Nat.le_refl _))⟩
  exact ⟨by rw [List.length_reverse]; exact hz, _, r.reverse, IsTup.new _ _⟩
end G
end
section
set_option maxRecDepth 100000
set_option maxHeartbeats 2000000
/-! operations whose kinds are not told in the text, calls by name -/
namespace G
open PySem PySem.Spec PyProof.Rows L2
def orR (r r' : R2) : R2 := fun x y H Q => r x y H Q ∨ r' x y H Q
def orC (r r' : List V → Hp → VK → Prop) : List V → Hp → VK → Prop := fun xs H Q => r xs H Q ∨ r' xs H Q
def orI (w w' : TI) : TI := fun σ H R => w σ H R ∨ w' σ H R
section
variable {X : Cx}
theorem opr_or {f : Value → Value → Sem Value} {r r' : R2} (h : OpR X f r) (h' : OpR X f r') : OpR X f (orR r r') := OpR.or h h'
theorem ixr_or {r r' : R2} (h : IxR X r) (h' : IxR X r') : IxR X (orR r r') := IxR.or h h'
theorem callr_or {f : Value} {r r' : List V → Hp → VK → Prop} (h : CallR X f r) (h' : CallR X f r') : CallR X f (orC r r') := fun pins s σ H xs us Q I rv q => by
  rcases q with q | q
  · exact h pins s σ H xs us Q I rv q
  · exact h' pins s σ H xs us Q I rv q
theorem pi_or {tg e : Expr} {w w' : TI} (h : PI X tg e w) (h' : PI X tg e w') : PI X tg e (orI w w') := ⟨fun pins s σ H R I q => by
  rcases q with q | q
  · exact h.run pins s σ H R I q
  · exact h'.run pins s σ H R I q⟩
end
section
variable {K : PySem.W.Frag} {ρ : Rho} {x y z : PyData} {r r' : R2}
theorem opp_1 (h : Op2 K r x y z) : Op2 K (orR r r') x y z := fun B H s u v hu hv Q q => .inl (h B H s u v hu hv Q q)
theorem opp_2 (h : Op2 K r' x y z) : Op2 K (orR r r') x y z := fun B H s u v hu hv Q q => .inr (h B H s u v hu hv Q q)
theorem fn_1 {c c' : List V → Hp → VK → Prop} {ds : List PyData} (h : Fn K c ds z) : Fn K (orC c c') ds z := fun B H s us hu Q q => .inl (h B H s us hu Q q)
theorem fn_2 {c c' : List V → Hp → VK → Prop} {ds : List PyData} (h : Fn K c' ds z) : Fn K (orC c c') ds z := fun B H s us hu Q q => .inr (h B H s us hu Q q)
theorem it_1 {w w' : TI} {es : List PyData} (h : Iter K w ρ es) : Iter K (orI w w') ρ es := fun σ B H e s R q => .inl (h σ B H e s R q)
theorem it_2 {w w' : TI} {es : List PyData} (h : Iter K w' ρ es) : Iter K (orI w w') ρ es := fun σ B H e s R q => .inr (h σ B H e s R q)
end
/-! a + b, a * b, a % b, a // b, a < b .. -/
section
variable {X : Cx}
abbrev rAddA (K : PySem.W.Frag) : R2 := orR (rI0 fun i j => .int (i + j)) (orR rCat (rCatA K))
theorem op_addA : OpR X (binaryOp .Add) (rAddA X.K) := opr_or op_add (opr_or op_cat op_catA)
abbrev rMulA : R2 := orR (rI CMulW fun i j => .int (i * j)) rRep
theorem op_mulA : OpR X (binaryOp .Mult) rMulA := opr_or op_mulW op_rep
abbrev rIxA (K : PySem.W.Frag) : R2 := orR (rIxL K) (rIxT K)
theorem ix_A : IxR X (rIxA X.K) := ixr_or ix_list ix_tup
abbrev rEqA (K : PySem.W.Frag) : R2 := rEqD K
end
/-! a def by its name -/
def Kq (K : PySem.W.Frag) (f : Addr) (fd : FuncData) : Prop := PySem.W.keepIn K (.ref f) = true ∧ ∃ o, K.lookup f = some o ∧ o.data = .func fd
theorem kq_of {K : PySem.W.Frag} {x qual : Str} {st : Stmt} {f : Addr} {fd : FuncData} (F : Fun K x qual st f fd) : Kq K f fd := by
  obtain ⟨oc, od, kV, doc, pm, an, cdv, ct, osl, _, lk, _⟩ := F.ex
  exact ⟨F.kp, _, lk, rfl⟩
structure Cal (P : Program) (w : World) (K : PySem.W.Frag) (mg : Str → Option Value) (base : Heap) (k : Nat) (x : Str) (ps : List Str) (sp : Sp) : Prop where
  ex : ∃ (f : Addr) (fd : FuncData), mg x = some (.ref f) ∧ Kq K f fd ∧ L2.Binds K fd ps [] ∧ FnG P w K mg base CX0 k f fd ps sp
section
variable {X : Cx} {k j : Nat} {ps : List Str} {q : Sp} {x : Str} {p pos : Pos} {e : Expr} {es : List Expr} {t : TA}
theorem pg_cal (hg : X.A.guards = some []) (c : Cal X.prog X.w X.K X.mg X.base j x ps q) (hr : Room k X.A) (hgl : Gl X x) (ha : PA X (e :: es) t) (hj : j ≤ k := by decide)
    (hdb : (x == ("__debug__" : Str)) = false := by decide) (he : starEach (e :: es) X.env = (false, eval e X.env) :: starEach es X.env := by rfl)
    (hpl : (backTo pos (starEach es X.env)).any (·.1) = false := by rfl) : PE X (.Call (.Name x p) (e :: es) [] pos) (tCall q [] E0 t) := by
  obtain ⟨f, fd, hm, hk, hb, F⟩ := c.ex
  exact pg_call hg F (hr.mono hj) hgl hm hk.1 hb .nil pass0 ha hdb he hpl
/-! .. by keywords -/
structure CalK (P : Program) (w : World) (K : PySem.W.Frag) (mg : Str → Option Value) (base : Heap) (k : Nat) (x : Str) (ps ks : List Str) (gV : List V → List V → List V) (sp : Sp) : Prop where
  ex : ∃ (f : Addr) (fd : FuncData) (g : List Value → List Value → List Value), mg x = some (.ref f) ∧ PySem.W.keepIn K (.ref f) = true ∧ KBinds K fd ps ks g gV ∧ FnG P w K mg base CX0 k f fd ps sp
theorem pg_calK {ks : List Str} {gV : List V → List V → List V} {kws : List Keyword} {tk : TA} (hg : X.A.guards = some []) (c : CalK X.prog X.w X.K X.mg X.base j x ps ks gV q) (hr : Room k X.A) (hgl : Gl X x) (hkw : PK X kws tk) (hj : j ≤ k := by decide)
    (hall : (backToKw pos (keywordEach kws X.env)).all (·.1.isSome) = true := by rfl)
    (hks : (backToKw pos (keywordEach kws X.env)).filterMap (·.1) = ks := by rfl)
    (hdb : (x == ("__debug__" : Str)) = false := by decide)
    (hpl : ((backTo pos (starEach [] X.env)).any (·.1) || (backToKw pos (keywordEach kws X.env)).any (·.1.isNone)) = false := by rfl) :
    PE X (.Call (.Name x p) [] kws pos) (tCallK q gV E0 tNil tk) := by
  obtain ⟨f, fd, g, hm, hk, hb, F⟩ := c.ex
  exact pg_callK0 hg F (hr.mono hj) hgl hm hk hb pass0 hkw hall hks hdb hpl
end
end G
end
section
set_option maxRecDepth 100000
set_option maxHeartbeats 2000000
/-! zip of a tuple and a list: two iterators of whatever kind, told by what their next one does -/
namespace G
open PySem PySem.Spec PyProof.Rows L2
/-- the iterator at i over the items xs of what lies at l, k of them gone -/
structure Nx (i l : Addr) (xs : Array Value) (S : Heap → Nat → Prop) : Prop where
  stay : ∀ {h h' : Heap} {k : Nat}, S h k → (∀ o, h.get? i = some o → h'.get? i = some o) → (∀ o, h.get? l = some o → h'.get? l = some o) → S h' k
  some_ : ∀ {h : Heap} {k : Nat}, S h k → ∃ o, h.get? i = some o ∧ ∀ v, o.data ≠ .cell v
  item : ∀ {prog : Program} {w : World} {A : Around} {E : Value → Shared → Prop} {s : Shared} {k : Nat} {x : Value} {Q : Value → Shared → Prop}, S s.heap k → xs[k]? = some x →
    (∀ h', S h' (k + 1) → Heap.SameBut i s.heap h' → Q x { s with heap := h' }) → wpAny (model prog w) A (Builtin.SmallTypes.nextOf (.ref i)) Q E s
  done : ∀ {prog : Program} {w : World} {A : Around} {E : Value → Shared → Prop} {s : Shared} {k : Nat} {Q : Value → Shared → Prop}, A.handled = none → S s.heap k → xs[k]? = none →
    (∀ h' e, Heap.ExtBut i s.heap h' → (∃ o, h'.get? e = some o ∧ o.cls = .type "StopIteration") → E (.ref e) { s with heap := h' }) → wpAny (model prog w) A (Builtin.SmallTypes.nextOf (.ref i)) Q E s
theorem nx_list {i l : Addr} {xs : Array Value} (hil : i ≠ l) : Nx i l xs fun h k => h.IsListIter i l k ∧ h.IsList l xs where
  stay := fun h a b => ⟨h.1.at a, h.2.at b⟩
  some_ := fun ⟨⟨o, e, _, d⟩, _⟩ => ⟨o, e, fun v q => by rw [d] at q; cases q⟩
  item := fun h hx q => wpAny_nextOf_list_item h.1 h.2 hx fun h' a b => q h' ⟨a, h.2.at fun o e => b.extBut _ _ (Ne.symm hil) e⟩ b
  done := fun hh h hx q => wpAny_nextOf_list_end hh h.1 h.2 hx q
theorem nx_tup {i l : Addr} {xs : Array Value} (hil : i ≠ l) : Nx i l xs fun h k => h.IsTupleIter i l k ∧ h.IsTuple l xs where
  stay := fun h a b => ⟨h.1.at a, let ⟨o, e, r⟩ := h.2; ⟨o, b o e, r⟩⟩
  some_ := fun ⟨⟨o, e, _, d⟩, _⟩ => ⟨o, e, fun v q => by rw [d] at q; cases q⟩
  item := fun h hx q => RZ.nextOf_tuple_item h.1 h.2 hx fun h' a b => q h' ⟨a, let ⟨o, e, r⟩ := h.2; ⟨o, b.extBut _ _ (Ne.symm hil) e, r⟩⟩ b
  done := fun hh h hx q => RZ.nextOf_tuple_end hh h.1 h.2 hx q
section
variable {prog : Program} {w : World} {A : Around} {E : Value → Shared → Prop} {s : Shared} {z T1 T2 i j l m : Addr} {xs ys : Array Value} {S U : Heap → Nat → Prop} {k n : Nat} {a b : Value}
theorem zipM_item {x y : Value} {Q : Value → Shared → Prop} (X : Nx i l xs S) (Y : Nx j m ys U) (D : ZipApart z T1 T2 i j l m)
    (hz : IsZip s.heap z T1 T2 .none) (h1 : IsPair s.heap T1 (.ref i) (.ref j)) (h2 : IsPair s.heap T2 a b) (hS : S s.heap k) (hU : U s.heap n) (hx : xs[k]? = some x) (hy : ys[n]? = some y)
    (hQ : ∀ h', IsZip h' z T1 T2 (rawInt s.heap.objs.size) → IsPair h' T2 x y → S h' (k + 1) → U h' (n + 1) → IsPair h' s.heap.objs.size x y → h'.objs.size = s.heap.objs.size + 1 →
      (∀ c o, c ≠ z → c ≠ T2 → c ≠ i → c ≠ j → s.heap.get? c = some o → h'.get? c = some o) → Q (.ref s.heap.objs.size) { s with heap := h' }) :
    wpAny (model prog w) A (Builtin.«zip.__next__» ⟨[.ref z], []⟩) (fun fin s' => ∃ v, fin = .done (.ret v) ∧ Q v s') E s := by
  show wpAny _ _ (field (.ref z) 2 >>= _) _ _ _
  refine wpAny_bind (wpAny_field hz rfl (x := .bool false) rfl ?_); show wpAny _ _ (field (.ref z) 3 >>= _) _ _ _
  refine wpAny_bind (wpAny_field hz rfl (x := .ref T1) rfl (wpAny_bind (wpAny_seqItems h1 rfl ?_)))
  show wpAny _ _ (Builtin.SmallTypes.ownedTupleIsFree (.ref z) >>= _) _ _ _; refine wpAny_bind ?_
  unfold Builtin.SmallTypes.ownedTupleIsFree
  refine wpAny_bind (wpAny_field hz rfl (x := .none) rfl (wpAny_pure ?_)); simp only [if_true]
  refine wpAny_bind (wpAny_rule (wpAny_bind (wpAny_field hz rfl (x := .ref T2) rfl (wpAny_bind (wpAny_setField_rec hz (by simp) fun g1 z1 s1 => ?_)))))
  replace z1 : IsZip g1 z T1 T2 .ellipsis := z1
  refine wpAny_bind ?_; simp only [List.zipIdx_cons, List.zipIdx_nil, List.forIn_cons, List.forIn_nil]
  refine wpAny_bind (wpAny_bind (wpAny_onRaise ?_)); show wpAny _ _ (Builtin.SmallTypes.nextOf (.ref i) >>= _) _ _ _
  have e1 := s1.extBut
  refine wpAny_bind (X.item (X.stay hS (fun o => e1 _ o D.i1z) (fun o => e1 _ o D.l1z)) hx fun g2 S2 s2 => wpAny_pure ?_)
  have e2 := s2.extBut
  have p2 : IsPair g2 T2 a b := e2 _ _ D.TOi1 (e1 _ _ D.TOz h2)
  refine wpAny_bind (wpAny_seqItems p2 rfl (wpAny_bind (wpAny_updateSeq_pair p2 fun g3 p3 s3 => ?_)))
  replace p3 : IsPair g3 T2 x b := p3
  have e3 := s3.extBut
  refine wpAny_bind (wpAny_letGo (wpAny_pure (wpAny_bind (wpAny_bind (wpAny_onRaise ?_))))); show wpAny _ _ (Builtin.SmallTypes.nextOf (.ref j) >>= _) _ _ _
  have up3 : ∀ c o, c ≠ z → c ≠ i → c ≠ T2 → s.heap.get? c = some o → g3.get? c = some o := fun c o c1 c2 c3 e => e3 _ _ c3 (e2 _ _ c2 (e1 _ _ c1 e))
  refine wpAny_bind (Y.item (Y.stay hU (fun o => up3 _ o D.i2z D.i12.symm D.TOi2.symm) (fun o => up3 _ o D.l2z D.l2i1 D.l2TO)) hy fun g4 U4 s4 => wpAny_pure ?_)
  have e4 := s4.extBut
  have p4 : IsPair g4 T2 x b := e4 _ _ D.TOi2 p3
  refine wpAny_bind (wpAny_seqItems p4 rfl (wpAny_bind (wpAny_updateSeq_pair p4 fun g5 p5 s5 => ?_)))
  replace p5 : IsPair g5 T2 x y := p5
  have e5 := s5.extBut
  refine wpAny_bind (wpAny_letGo (wpAny_pure (wpAny_pure (wpAny_bind (wpAny_seqItems p5 rfl (wpAny_bind (wpAny_newTuple ?_)))))))
  have sz : g5.objs.size = s.heap.objs.size := by rw [s5.1, s4.1, s3.1, s2.1, s1.1]
  have z5 : IsZip g5 z T1 T2 .ellipsis := e5 _ _ D.TOz.symm (e4 _ _ D.i2z.symm (e3 _ _ D.TOz.symm (e2 _ _ D.i1z.symm z1)))
  have k5 : ∀ c o, c ≠ z → c ≠ T2 → c ≠ i → c ≠ j → s.heap.get? c = some o → g5.get? c = some o := fun c o c1 c2 c3 c4 e => e5 _ _ c2 (e4 _ _ c4 (up3 _ _ c1 c3 c2 e))
  have zl : z < g5.objs.size := Heap.lt_size z5
  show wpAny _ _ (Builtin.SmallTypes.ownedTupleHandOut (.ref z) (.ref g5.objs.size) >>= _) _ _ _; refine wpAny_bind ?_
  unfold Builtin.SmallTypes.ownedTupleHandOut
  refine wpAny_bind (wpAny_setField_rec (show IsZip (g5.push { cls := .type "tuple", data := .seq #[x, y] }) z T1 T2 .ellipsis from Heap.get?_push_of_some _ z5) (by simp) fun g7 z7 s7 => ?_)
  replace z7 : IsZip g7 z T1 T2 (rawInt g5.objs.size) := z7
  refine wpAny_setField_rec z7 (by simp) fun g8 z8 s8 => ?_
  replace z8 : IsZip g8 z T1 T2 (rawInt g5.objs.size) := z8
  have up8 : ∀ c o, c ≠ z → g5.get? c = some o → g8.get? c = some o := fun c o c1 e => s8.extBut _ _ c1 (s7.extBut _ _ c1 (Heap.get?_push_of_some _ e))
  have t8 : IsPair g8 g5.objs.size x y := s8.extBut _ _ (Nat.ne_of_gt zl) (s7.extBut _ _ (Nat.ne_of_gt zl) (Heap.get?_push_size _ rfl))
  have n8 : g8.objs.size = g5.objs.size + 1 := by rw [s8.1, s7.1, Heap.size_push]
  rw [sz] at z8 t8 n8
  refine wpAny_pure ⟨_, rfl, ?_⟩; show Q (.ref g5.objs.size) _
  rw [sz]
  refine hQ g8 z8 (up8 _ _ D.TOz p5) ?_ ?_ t8 n8 fun c o c1 c2 c3 c4 e => up8 c o c1 (k5 c o c1 c2 c3 c4 e)
  · exact X.stay S2 (fun o e => up8 _ o D.i1z (e5 _ _ D.TOi1.symm (e4 _ _ D.i12 (e3 _ _ D.TOi1.symm e)))) fun o e => up8 _ o D.l1z (e5 _ _ D.l1TO (e4 _ _ D.l1i2 (e3 _ _ D.l1TO e)))
  · exact Y.stay U4 (fun o e => up8 _ o D.i2z (e5 _ _ D.TOi2.symm e)) fun o e => up8 _ o D.l2z (e5 _ _ D.l2TO e)
theorem zipM_end {Q : Fin → Shared → Prop} (hh : A.handled = none) (X : Nx i l xs S) (Y : Nx j m ys U) (D : ZipApart z T1 T2 i j l m)
    (hz : IsZip s.heap z T1 T2 .none) (h1 : IsPair s.heap T1 (.ref i) (.ref j)) (h2 : IsPair s.heap T2 a b) (hS : S s.heap k) (hU : U s.heap n) (he : xs[k]? = none ∨ ys[n]? = none)
    (hE : ∀ h' e, (∀ c o, c ≠ z → c ≠ T2 → c ≠ i → c ≠ j → s.heap.get? c = some o → h'.get? c = some o) → (∃ o, h'.get? e = some o ∧ o.cls = .type "StopIteration") → E (.ref e) { s with heap := h' }) :
    wpAny (model prog w) A (Builtin.«zip.__next__» ⟨[.ref z], []⟩) Q E s := by
  show wpAny _ _ (field (.ref z) 2 >>= _) _ _ _
  refine wpAny_bind (wpAny_field hz rfl (x := .bool false) rfl ?_); show wpAny _ _ (field (.ref z) 3 >>= _) _ _ _
  refine wpAny_bind (wpAny_field hz rfl (x := .ref T1) rfl (wpAny_bind (wpAny_seqItems h1 rfl ?_)))
  show wpAny _ _ (Builtin.SmallTypes.ownedTupleIsFree (.ref z) >>= _) _ _ _; refine wpAny_bind ?_
  unfold Builtin.SmallTypes.ownedTupleIsFree
  refine wpAny_bind (wpAny_field hz rfl (x := .none) rfl (wpAny_pure ?_)); simp only [if_true]
  refine wpAny_bind (wpAny_rule (wpAny_bind (wpAny_field hz rfl (x := .ref T2) rfl (wpAny_bind (wpAny_setField_rec hz (by simp) fun g1 z1 s1 => ?_)))))
  replace z1 : IsZip g1 z T1 T2 .ellipsis := z1
  have e1 := s1.extBut
  refine wpAny_bind ?_; simp only [List.zipIdx_cons, List.zipIdx_nil, List.forIn_cons, List.forIn_nil]
  refine wpAny_bind (wpAny_bind (wpAny_onRaise ?_)); show wpAny _ _ (Builtin.SmallTypes.nextOf (.ref i) >>= _) _ _ _
  cases hx : xs[k]? with
  | none =>
    refine wpAny_bind (X.done hh (X.stay hS (fun o => e1 _ o D.i1z) (fun o => e1 _ o D.l1z)) hx fun g2 e e2 he2 => ?_)
    obtain ⟨oe, hoe, hce⟩ := he2
    have z2 : IsZip g2 z T1 T2 .ellipsis := e2 _ _ D.i1z.symm z1
    have ne : e ≠ z := fun q => by subst q; rw [z2] at hoe; cases hoe; simp at hce
    refine wpAny_setField_rec z2 (by simp) fun g3 _ s3 => hE g3 e (fun c o c1 _ c3 _ q => s3.extBut _ _ c1 (e2 _ _ c3 (e1 _ _ c1 q))) ⟨oe, s3.extBut _ _ ne hoe, hce⟩
  | some x =>
    have hy : ys[n]? = none := by
      rcases he with q | q
      · rw [hx] at q; cases q
      · exact q
    refine wpAny_bind (X.item (X.stay hS (fun o => e1 _ o D.i1z) (fun o => e1 _ o D.l1z)) hx fun g2 S2 s2 => wpAny_pure ?_)
    have e2 := s2.extBut
    have p2 : IsPair g2 T2 a b := e2 _ _ D.TOi1 (e1 _ _ D.TOz h2)
    refine wpAny_bind (wpAny_seqItems p2 rfl (wpAny_bind (wpAny_updateSeq_pair p2 fun g3 p3 s3 => ?_)))
    have e3 := s3.extBut
    refine wpAny_bind (wpAny_letGo (wpAny_pure (wpAny_bind (wpAny_bind (wpAny_onRaise ?_))))); show wpAny _ _ (Builtin.SmallTypes.nextOf (.ref j) >>= _) _ _ _
    have up3 : ∀ c o, c ≠ z → c ≠ i → c ≠ T2 → s.heap.get? c = some o → g3.get? c = some o := fun c o c1 c2 c3 e => e3 _ _ c3 (e2 _ _ c2 (e1 _ _ c1 e))
    refine wpAny_bind (Y.done hh (Y.stay hU (fun o => up3 _ o D.i2z D.i12.symm D.TOi2.symm) (fun o => up3 _ o D.l2z D.l2i1 D.l2TO)) hy fun g4 e e4 he4 => ?_)
    obtain ⟨oe, hoe, hce⟩ := he4
    have z4 : IsZip g4 z T1 T2 .ellipsis := e4 _ _ D.i2z.symm (e3 _ _ D.TOz.symm (e2 _ _ D.i1z.symm z1))
    have ne : e ≠ z := fun q => by subst q; rw [z4] at hoe; cases hoe; simp at hce
    refine wpAny_setField_rec z4 (by simp) fun g5 _ s5 => hE g5 e (fun c o c1 c2 c3 c4 q => s5.extBut _ _ c1 (e4 _ _ c4 (up3 _ _ c1 c3 c2 q))) ⟨oe, s5.extBut _ _ ne hoe, hce⟩
theorem nextM_item {x y : Value} {Q : Option Value → Shared → Prop} (X : Nx i l xs S) (Y : Nx j m ys U) (D : ZipApart z T1 T2 i j l m)
    (hz : IsZip s.heap z T1 T2 .none) (h1 : IsPair s.heap T1 (.ref i) (.ref j)) (h2 : IsPair s.heap T2 a b) (hS : S s.heap k) (hU : U s.heap n) (hx : xs[k]? = some x) (hy : ys[n]? = some y)
    (hQ : ∀ h', IsZip h' z T1 T2 (rawInt s.heap.objs.size) → IsPair h' T2 x y → S h' (k + 1) → U h' (n + 1) → IsPair h' s.heap.objs.size x y → h'.objs.size = s.heap.objs.size + 1 →
      (∀ c o, c ≠ z → c ≠ T2 → c ≠ i → c ≠ j → s.heap.get? c = some o → h'.get? c = some o) → Q (some (.ref s.heap.objs.size)) { s with heap := h' }) :
    wpAny (model prog w) A (pyNext (.ref z)) Q E s := by
  have isZ : s.TypeIs (.ref z) "zip" := ⟨_, hz, rfl⟩
  unfold pyNext
  refine wpAny_bind (wpAny_attempt (wpAny_callSpecial?_slot (name := Str.ofString "__next__") isZ F.slot_zip_next (wpAny_call_entry F.slot_zip_next isZ F.entry_zip_next ?_ (F.args_zip_next_1 _))))
  exact zipM_item X Y D hz h1 h2 hS hU hx hy fun h' b1 b2 b3 b4 b5 b6 b7 => wpAny_pure (hQ h' b1 b2 b3 b4 b5 b6 b7)
theorem nextM_end {Q : Option Value → Shared → Prop} (hh : A.handled = none) (X : Nx i l xs S) (Y : Nx j m ys U) (D : ZipApart z T1 T2 i j l m)
    (hz : IsZip s.heap z T1 T2 .none) (h1 : IsPair s.heap T1 (.ref i) (.ref j)) (h2 : IsPair s.heap T2 a b) (hS : S s.heap k) (hU : U s.heap n) (he : xs[k]? = none ∨ ys[n]? = none)
    (hQ : ∀ h', (∀ c o, c ≠ z → c ≠ T2 → c ≠ i → c ≠ j → s.heap.get? c = some o → h'.get? c = some o) → Q none { s with heap := h' }) : wpAny (model prog w) A (pyNext (.ref z)) Q E s := by
  have isZ : s.TypeIs (.ref z) "zip" := ⟨_, hz, rfl⟩
  unfold pyNext
  refine wpAny_bind (wpAny_attempt (wpAny_callSpecial?_slot (name := Str.ofString "__next__") isZ F.slot_zip_next (wpAny_call_entry F.slot_zip_next isZ F.entry_zip_next ?_ (F.args_zip_next_1 _))))
  refine zipM_end hh X Y D hz h1 h2 hS hU he fun h' e hk ⟨o, ho, hc⟩ => ?_
  exact wpAny_bind (wpAny_isInstance (T := "StopIteration") (b := true) ⟨o, ho, hc⟩ isSubtype_stop (wpAny_pure (hQ _ hk)))
end
/-! zip(tuple, list) is made -/
abbrev mz1 (h : Heap) (l : Addr) : Heap := h.push { cls := .type "tuple_iterator", data := .fields #[.ref l, .int 0 0] }
abbrev mz2 (h : Heap) (l m : Addr) : Heap := (mz1 h l).push { cls := .type "list_iterator", data := .fields #[.ref m, .int 0 0] }
abbrev mz3 (h : Heap) (l m : Addr) : Heap := (mz2 h l m).push { cls := .type "tuple", data := .seq #[.ref h.objs.size, .ref (mz1 h l).objs.size] }
abbrev mz4 (h : Heap) (l m : Addr) : Heap := (mz3 h l m).push { cls := .type "tuple", data := .seq #[.none, .none] }
abbrev mz5 (h : Heap) (l m : Addr) : Heap := (mz4 h l m).push { cls := .type "zip", data := .fields #[.none, .bool false, .bool false, .ref (mz2 h l m).objs.size, .ref (mz3 h l m).objs.size] }
theorem meets_zipM (l m : Addr) (xs ys : Array Value) : Meets (Builtin.«zip.__new__» ⟨[.type "zip", .ref l, .ref m], []⟩)
    (fun _ R s => s.heap.IsTuple l xs ∧ s.heap.IsList m ys ∧ R (.ok (.ret (.ref (mz4 s.heap l m).objs.size))) { s with heap := mz5 s.heap l m }) :=
  .of_wp fun prog w A R s h => by
    obtain ⟨hp, g, d, tk, os⟩ := s
    obtain ⟨ht, hl, h⟩ := h
    have hsub := sub_zip
    have ht' : Heap.IsTuple (Shared.heap ⟨hp, g, d, tk, os⟩) l xs := ht
    have hl' : Heap.IsList (Shared.heap ⟨hp.push { cls := .type "tuple_iterator", data := .fields #[.ref l, .int 0 0] }, g, d, tk, os⟩) m ys := Heap.IsList.push hl _
    wp_walk using wpAny_pyIter_tuple ht', wpAny_pyIter_list hl'
    exact ⟨_, rfl, h⟩
theorem call_zipM {prog : Program} {w : World} {A : Around} {E : Value → Shared → Prop} {s : Shared} {l m : Addr} {xs ys : Array Value} {Q : Value → Shared → Prop} (ht : s.heap.IsTuple l xs) (hl : s.heap.IsList m ys)
    (h : ∀ h', IsZip h' (s.heap.objs.size + 4) (s.heap.objs.size + 2) (s.heap.objs.size + 3) .none → IsPair h' (s.heap.objs.size + 2) (.ref s.heap.objs.size) (.ref (s.heap.objs.size + 1)) →
      IsPair h' (s.heap.objs.size + 3) .none .none → h'.IsTupleIter s.heap.objs.size l 0 → h'.IsListIter (s.heap.objs.size + 1) m 0 → (∀ c o, s.heap.get? c = some o → h'.get? c = some o) → Q (.ref (s.heap.objs.size + 4)) { s with heap := h' }) :
    wpAny (model prog w) A (call (.type "zip") [.ref l, .ref m]) Q E s := by
  refine callType_new F.called_zip (by decide) (F.typeCall_zip_2 _ _) (F.newCall_zip_2 _ _) (fun obj => F.args_object_init_3 obj _ _) F.entry_zip_new (meets_zipM l m xs ys) ⟨ht, hl, ?_⟩
  have n1 : (mz1 s.heap l).objs.size = s.heap.objs.size + 1 := Heap.size_push ..
  have n2 : (mz2 s.heap l m).objs.size = s.heap.objs.size + 2 := by rw [Heap.size_push, n1]
  have n3 : (mz3 s.heap l m).objs.size = s.heap.objs.size + 3 := by rw [Heap.size_push, n2]
  have n4 : (mz4 s.heap l m).objs.size = s.heap.objs.size + 4 := by rw [Heap.size_push, n3]
  have f5 : (mz5 s.heap l m).get? (mz4 s.heap l m).objs.size = some _ := Heap.get?_push_size _ rfl
  have f4 : (mz5 s.heap l m).get? (mz3 s.heap l m).objs.size = some _ := Heap.get?_push_of_some _ (Heap.get?_push_size _ rfl)
  have f3 : (mz5 s.heap l m).get? (mz2 s.heap l m).objs.size = some _ := Heap.get?_push_of_some _ (Heap.get?_push_of_some _ (Heap.get?_push_size _ rfl))
  have f2 : (mz5 s.heap l m).get? (mz1 s.heap l).objs.size = some _ := Heap.get?_push_of_some _ (Heap.get?_push_of_some _ (Heap.get?_push_of_some _ (Heap.get?_push_size _ rfl)))
  have f1 : (mz5 s.heap l m).get? s.heap.objs.size = some _ := Heap.get?_push_of_some _ (Heap.get?_push_of_some _ (Heap.get?_push_of_some _ (Heap.get?_push_of_some _ (Heap.get?_push_size _ rfl))))
  show _ ∧ _
  rw [n2, n3, n4] at f5
  rw [n1, n2] at f3
  rw [n3] at f4
  rw [n1] at f2
  rw [n4]
  refine ⟨⟨_, f5, rfl⟩, h _ f5 f3 f4 ⟨_, f1, rfl, rfl⟩ ⟨_, f2, rfl, rfl⟩ fun c o q => ?_⟩
  exact Heap.get?_push_of_some _ (Heap.get?_push_of_some _ (Heap.get?_push_of_some _ (Heap.get?_push_of_some _ (Heap.get?_push_of_some _ q))))
/-- the tuple at a and the list at b, the items in new pairs -/
def ItM (K : PySem.W.Frag) (a b : Addr) : It :=
  ⟨fun i H => ∃ (xs ys : List V) (x y : V), SqT K H a xs ∧ SqL K H b ys ∧ xs[i]? = some x ∧ ys[i]? = some y,
    fun i H v H' => ∃ T x y, v = .ref T ∧ H T = none ∧ H' = upd H T (.tup [x, y]) ∧ (∀ xs, SqT K H a xs → xs[i]? = some x) ∧ ∀ ys, SqL K H b ys → ys[i]? = some y,
    fun i H => ∃ xs ys : List V, SqT K H a xs ∧ SqL K H b ys ∧ (xs.length ≤ i ∨ ys.length ≤ i)⟩
theorem turnM {P : Program} {w : World} {K : PySem.W.Frag} {elts : List Expr} {kk : Nat} {tpos : Pos} {a b z T1 T2 i1 i2 : Addr} (D : ZipApart z T1 T2 i1 i2 a b) :
    Turn P w K (.Tuple elts kk tpos) (ItM K a b) [z, T1, T2, i1, i2] z (fun i h => IsZip h z T1 T2 .none ∧ IsPair h T1 (.ref i1) (.ref i2) ∧ (∃ x y, IsPair h T2 x y) ∧ h.IsTupleIter i1 a i ∧ h.IsListIter i2 b i) where
  mem := by simp
  obj := fun i h st c hc => by
    obtain ⟨hz, h1, ⟨x, y, h2⟩, ⟨o1, e1, _, d1⟩, o2, e2, _, d2⟩ := st
    have q : c = z ∨ c = T1 ∨ c = T2 ∨ c = i1 ∨ c = i2 := by simpa using hc
    rcases q with rfl | rfl | rfl | rfl | rfl
    · exact ⟨_, hz, fun v q => nomatch q⟩
    · exact ⟨_, h1, fun v q => nomatch q⟩
    · exact ⟨_, h2, fun v q => nomatch q⟩
    · exact ⟨o1, e1, fun v q => by rw [d1] at q; cases q⟩
    · exact ⟨o2, e2, fun v q => by rw [d2] at q; cases q⟩
  keep := fun i h h' ⟨hz, h1, ⟨x, y, h2⟩, t1, t2⟩ k =>
    ⟨k z (by simp) _ hz, k T1 (by simp) _ h1, ⟨x, y, k T2 (by simp) _ h2⟩, t1.at fun o q => k i1 (by simp) o q, t2.at fun o q => k i2 (by simp) o q⟩
  item := by
    intro X hP hw hK hc i pins s σ H E I hf st hg
    subst hP hw hK
    obtain ⟨hz, h1, ⟨x0, y0, h2⟩, t1, t2⟩ := st
    obtain ⟨xs, ys, x, y, hqx, hqy, hx, hy⟩ := hg
    obtain ⟨its, rv, p, _⟩ := I.tuple hqx
    obtain ⟨jts, rv2, p2, _⟩ := I.list hqy
    obtain ⟨u, hu, ru⟩ := rv.get hx
    obtain ⟨v, hv, rw⟩ := rv2.get hy
    have zl : z < s.heap.objs.size := Heap.lt_size hz
    refine nextM_item (nx_tup (Ne.symm D.l1i1)) (nx_list (Ne.symm D.l2i2)) D hz h1 h2 ⟨t1, p⟩ ⟨t2, p2.isList⟩ (x := u) (y := v) (by simpa using hu) (by simpa using hv) fun h' z' q2 S' U' hT hsz hk => ?_
    refine ⟨_, rfl, wpAny_letOwnedTupleGo_zip (s := { s with heap := h' }) z' fun g gz sb => ?_⟩
    have hT2 : g.get? s.heap.objs.size = some { cls := .type "tuple", data := .seq #[u, v] } := (sb.2 _ (Nat.ne_of_gt zl)).trans hT
    have away : ∀ {c : Addr}, c ∉ [z, T1, T2, i1, i2] → c ≠ z ∧ c ≠ T2 ∧ c ≠ i1 ∧ c ≠ i2 := fun {c} hb => by simp at hb; exact ⟨hb.1, hb.2.2.1, hb.2.2.2.1, hb.2.2.2.2⟩
    have J : Inv X pins σ (upd H s.heap.objs.size (.tup [x, y])) { s with heap := g } :=
      I.turnedNew (t' := s.toks) (ch := [z, T1, T2, i1, i2]) (fun c o hb q => let ⟨a1, a2, a3, a4⟩ := away hb; (sb.2 c a1).trans (hk c o a1 a2 a3 a4 q)) hf (Nat.le_refl _)
        ⟨by show 2 ≤ sizeLine; decide, [u, v], .cons ru (.cons rw .nil), ⟨_, hT2, rfl, _, rfl⟩⟩
    refine ⟨.ref s.heap.objs.size, _, J, rfl, ⟨_, x, y, rfl, I.hok.fresh (Nat.le_refl _), rfl, fun l hl => by rw [I.tuple_inj hl hqx]; exact hx, fun l hl => by rw [I.list_inj hl hqy]; exact hy⟩,
      ⟨gz, (sb.2 _ D.TIz).trans (hk _ _ D.TIz D.TITO D.TIi1 D.TIi2 h1), ⟨u, v, (sb.2 _ D.TOz).trans q2⟩, S'.1.at fun o q => (sb.2 _ D.i1z).trans q, U'.1.at fun o q => (sb.2 _ D.i2z).trans q⟩, fun c hcm => ?_⟩
    have lt : c < s.heap.objs.size := by
      have q : c = z ∨ c = T1 ∨ c = T2 ∨ c = i1 ∨ c = i2 := by simpa using hcm
      rcases q with rfl | rfl | rfl | rfl | rfl
      · exact zl
      · exact Heap.lt_size h1
      · exact Heap.lt_size h2
      · obtain ⟨_, e1, _⟩ := t1; exact Heap.lt_size e1
      · obtain ⟨_, e2, _⟩ := t2; exact Heap.lt_size e2
    rw [upd_ne (Nat.ne_of_lt lt)]
    exact (hf c hcm).1
  done := by
    intro X hP hw hK hc i pins s σ H E I hf st hg
    subst hP hw hK
    obtain ⟨hz, h1, ⟨x0, y0, h2⟩, t1, t2⟩ := st
    obtain ⟨xs, ys, hqx, hqy, hend⟩ := hg
    obtain ⟨its, rv, p, _⟩ := I.tuple hqx
    obtain ⟨jts, rv2, p2, _⟩ := I.list hqy
    have n1 := rv.length
    have n2 := rv2.length
    have he : its.toArray[i]? = none ∨ jts.toArray[i]? = none := hend.imp (fun q => by simp; omega) fun q => by simp; omega
    refine nextM_end (I.ok.hd hc) (nx_tup (Ne.symm D.l1i1)) (nx_list (Ne.symm D.l2i2)) D hz h1 h2 ⟨t1, p⟩ ⟨t2, p2.isList⟩ he fun h' hk => ?_
    exact ⟨rfl, I.turnedL (t' := s.toks) (ch := [z, T1, T2, i1, i2]) (fun c o hb q => by simp at hb; exact hk c o hb.1 hb.2.2.1 hb.2.2.2.1 hb.2.2.2.2 q) hf⟩
  self := fun A i s Q E st h => wpAny_pyIter_zip st.1 h
/-- zip(t, xs) -/
def iZipM (K : PySem.W.Frag) (ta : TA) : TI := fun σ H R => ta σ H fun vs H1 => ∃ a b xs ys, vs = [.ref a, .ref b] ∧ SqT K H1 a xs ∧ SqL K H1 b ys ∧ R (ItM K a b) H1
theorem pi_zipTL {X : Cx} {e e2 : Expr} {ta : TA} {p pos tpos : Pos} {elts : List Expr} {kk : Nat} (hg : Gl X "zip") (hm : X.mg "zip" = none) (ha : PA X [e, e2] ta)
    (hs : starEach [e, e2] X.env = (false, eval e X.env) :: starEach [e2] X.env := by rfl) (hpl : (backTo pos (starEach [e2] X.env)).any (·.1) = false := by rfl) :
    PI X (.Tuple elts kk tpos) (.Call (.Name "zip" p) [e, e2] [] pos) (iZipM X.K ta) := by
  refine ⟨fun pins s σ H R I h => Call_ (ld_blt I hg hm PyProof.Rows.boot_zip (PyProof.Rows.callWith_type1 (thn (ha.run pos pins s σ H _ I h) ?_) hs hpl))⟩
  rintro us s1 ⟨vs, H1, I1, r1, a, b, xs, ys, rfl, hqx, hqy, q⟩
  cases r1 with
  | cons r rr =>
    cases rr with
    | cons r' rr =>
      cases rr
      cases r
      cases r'
      obtain ⟨its, rv, p1, _⟩ := I1.tuple hqx
      obtain ⟨jts, rv2, p2, _⟩ := I1.list hqy
      obtain ⟨o1, ho1, _⟩ := id p1
      refine call_zipM p1 p2.isList fun h' hz hTI hTO h1 h2 hk => wpAny_pyIter_zip hz ?_
      have I2 : Inv X pins σ H1 { s1 with heap := h' } := I1.kept (t' := s1.toks) hk
      refine ⟨s1.heap.objs.size + 4, [s1.heap.objs.size + 4, s1.heap.objs.size + 2, s1.heap.objs.size + 3, s1.heap.objs.size, s1.heap.objs.size + 1], _, _, H1, rfl, I2,
        turnM (PySem.W.ktu_apart s1.heap.objs.size a b (Heap.lt_size ho1) p2.lt), ⟨hz, hTI, ⟨_, _, hTO⟩, h1, h2⟩, fun c hcm => ?_, q⟩
      have le : s1.heap.objs.size ≤ c := by
        have z : c = s1.heap.objs.size + 4 ∨ c = s1.heap.objs.size + 2 ∨ c = s1.heap.objs.size + 3 ∨ c = s1.heap.objs.size ∨ c = s1.heap.objs.size + 1 := by simpa using hcm
        rcases z with z | z | z | z | z <;> rw [z] <;> first | exact Nat.le_refl _ | exact Nat.le_add_right _ _
      exact I1.fpOk le (I1.hok.fresh le)
/-! what both are walked as -/
theorem walkM {K : PySem.W.Frag} {a b : Addr} {xs ys : List V} : Walk (ItM K a b) (min xs.length ys.length) (fun H => SqT K H a xs ∧ SqL K H b ys) (YPair (fun i => xs[i]?) fun i => ys[i]?) := by
  refine ⟨fun i _ hi q => ?_, fun _ q => ⟨xs, ys, q.1, q.2, by omega⟩, fun i H v H' _ q y => ?_⟩
  · have h1 : i < xs.length := by omega
    have h2 : i < ys.length := by omega
    exact ⟨xs, ys, xs[i], ys[i], q.1, q.2, by simp [h1], by simp [h2]⟩
  · obtain ⟨T, x, z, h1, h2, h3, h4, h5⟩ := y
    exact ⟨T, x, z, h1, h2, h3, h4 xs q.1, h5 ys q.2⟩
theorem walkT {K : PySem.W.Frag} {a b : Addr} {xs ys : List V} : Walk (RZ.ItzT K a b) (min xs.length ys.length) (fun H => SqT K H a xs ∧ SqT K H b ys) (YPair (fun i => xs[i]?) fun i => ys[i]?) := by
  refine ⟨fun i _ hi q => ?_, fun _ q => ⟨xs, ys, q.1, q.2, by omega⟩, fun i H v H' _ q y => ?_⟩
  · have h1 : i < xs.length := by omega
    have h2 : i < ys.length := by omega
    exact ⟨xs, ys, xs[i], ys[i], q.1, q.2, by simp [h1], by simp [h2]⟩
  · obtain ⟨T, x, z, h1, h2, h3, h4, h5⟩ := y
    exact ⟨T, x, z, h1, h2, h3, h4 xs q.1, h5 ys q.2⟩
section
variable {K : PySem.W.Frag} {ρ : Rho} {ta : TA} {es fs : List PyData}
theorem it_zipM (h : EvL K ta ρ [.tuple es, .list fs]) : Iter K (iZipM K ta) ρ (zipD es fs) := fun σ B H e s R r =>
  h σ B H e s _ fun vs B1 H1 g hv => by
    cases hv with
    | cons h1 t =>
      cases t with
      | cons h2 t =>
        cases t
        cases h1 with
        | tup p1 a1 =>
          cases h2 with
          | lst p2 a2 => exact ⟨_, _, _, _, rfl, same_t g.sub p1, .of (g.sub _ _ p2), r _ B1 H1 g (goes_pair walkM (fun H' s' => ⟨same_t s' p1, .of (s' _ _ p2)⟩) a1 a2)⟩
theorem it_zipT (h : EvL K ta ρ [.tuple es, .tuple fs]) : Iter K (RZ.iZipA K ta) ρ (zipD es fs) := fun σ B H e s R r =>
  h σ B H e s _ fun vs B1 H1 g hv => by
    cases hv with
    | cons h1 t =>
      cases t with
      | cons h2 t =>
        cases t
        cases h1 with
        | tup p1 a1 =>
          cases h2 with
          | tup p2 a2 => exact ⟨_, _, _, _, rfl, .inr ⟨same_t g.sub p1, same_t g.sub p2, r _ B1 H1 g (goes_pair walkT (fun H' s' => ⟨same_t s' p1, same_t s' p2⟩) a1 a2)⟩⟩
theorem it_zipL (h : EvL K ta ρ [.list es, .list fs]) : Iter K (RZ.iZipA K ta) ρ (zipD es fs) := fun σ B H e s R r =>
  h σ B H e s _ fun vs B1 H1 g hv => by
    cases hv with
    | cons h1 t =>
      cases t with
      | cons h2 t =>
        cases t
        cases h1 with
        | lst p1 a1 =>
          cases h2 with
          | lst p2 a2 => exact ⟨_, _, _, _, rfl, .inl ⟨.of (g.sub _ _ p1), .of (g.sub _ _ p2), r _ B1 H1 g (goes_pair (walk_zip rfl) (fun H' s' => ⟨.of (s' _ _ p1), .of (s' _ _ p2)⟩) a1 a2)⟩⟩
end
end G
end
section
set_option maxRecDepth 100000
set_option maxHeartbeats 2000000
/-! built-ins by data -/
namespace G
open PySem PySem.Spec PyProof.Rows L2
/-! isinstance -/
def tyD : PyData → String
  | .none => "NoneType"
  | .bool _ => "bool"
  | .int _ => "int"
  | .str _ => "str"
  | .list _ => "list"
  | .tuple _ => "tuple"
  | .dict _ => "dict"
theorem tyx_of {K : PySem.W.Frag} {H : Hp} {v : V} {d : PyData} (h : Da K H v d) : TyX K H v (.type (tyD d)) := by
  cases h with
  | non => exact .base .non
  | bl b => exact .base (.bl b)
  | int i => exact .base (.int i)
  | str x => exact .base (.str x)
  | lst h _ => exact .base (.lst h)
  | tup h _ =>
    rcases h with (h | ⟨o, h⟩) | ⟨o, its, n, h, c, _⟩
    · exact .base (.tup h)
    · exact .fTuple h
    · exact .kTuple h c
section
variable {K : PySem.W.Frag} {ρ : Rho} {ta : TE} {d z : PyData}
theorem ev_isi {T : String} {b : Bool} (h : Ev K ta ρ d) (hb : kitB (tyD d) T = some b) : Ev K (tCB (rIsi K) (tCons ta (tCons (tC (.ty T)) tNil))) ρ (.bool b) := fun σ B H e s Q q =>
  h σ B H e s _ fun v B1 H1 g hv => ⟨v, .ty T, _, _, b, rfl, .ty T, tyx_of (hv.mono g.sub), kit_ty hb, q _ B1 H1 g (.bl b)⟩
theorem fn_lenT {xs : List PyData} : Fn K (fun xs H Q => ∃ p ys, xs = [.ref p] ∧ (SqL K H p ys ∨ SqT K H p ys) ∧ Q (.int ys.length) H) [.tuple xs] (.int xs.length) := fun B H s us hu Q q => by
  cases hu with
  | cons h t =>
    cases t
    cases h with
    | tup h1 a1 => exact ⟨_, _, rfl, .inr (same_t s h1), q _ B H (.refl s) (by rw [a1.len]; exact .int _)⟩
/-! all, any, sum of a list -/
theorem fn_all {bs : List Bool} : Fn K (rAll K) [.list (bs.map .bool)] (.bool (bs.all id)) := fun B H s us hu Q q => by
  cases hu with
  | cons h t =>
    cases t
    cases h with
    | lst h a =>
      obtain rfl := daBools a
      exact ⟨_, bs, rfl, .of (s _ _ h), q _ B H (.refl s) (.bl _)⟩
theorem fn_int {i : Int} : Fn K (fun xs H Q => (∃ i, xs = [.int i] ∧ Q (.int i) H) ∨ ∃ k, xs = [.bl k] ∧ Q (.int (if k then 1 else 0)) H) [.int i] (.int i) := fun B H s us hu Q q => by
  cases hu with
  | cons h t =>
    cases t
    cases h
    exact .inl ⟨i, rfl, q _ B H (.refl s) (.int _)⟩
/-- list(x) of a list or a tuple -/
abbrev rListOf (K : PySem.W.Frag) : List V → Hp → VK → Prop := fun xs H Q => ∃ p ys, xs = [.ref p] ∧ (SqL K H p ys ∨ SqT K H p ys) ∧ ∀ l, H l = none → Q (.ref l) (upd H l (.lst ys))
theorem callA_list {X : Cx} : CallR X (.type "list") (rListOf X.K) := call_list_of
theorem fn_listL {ds : List PyData} : Fn K (rListOf K) [.list ds] (.list ds) := fun B H s us hu Q q => by
  cases hu with
  | cons h t =>
    cases t
    cases h with
    | @lst a xs _ h hs => exact ⟨_, _, rfl, .inl (.of (s _ _ h)), fun l hl => q _ _ _ (Gr.add s hl (.lst xs)) (.lst upd_same (hs.mono (Gr.add s hl (.lst xs)).bb))⟩
theorem fn_listT {ds : List PyData} : Fn K (rListOf K) [.tuple ds] (.list ds) := fun B H s us hu Q q => by
  cases hu with
  | cons h t =>
    cases t
    cases h with
    | @tup a xs _ h hs => exact ⟨_, _, rfl, .inr (same_t s h), fun l hl => q _ _ _ (Gr.add s hl (.lst xs)) (.lst upd_same (hs.mono (Gr.add s hl (.lst xs)).bb))⟩
/-- len(set(xs)), xs unlike ints -/
theorem ev_lenSet {ns : List Int} (h : Ev K ta ρ (.list (ns.map .int))) (hn : ns.Nodup) (hl : ns.length ≤ 4000) : Ev K (RZ.tLenSetI K ta) ρ (.int ns.length) := fun σ B H e s Q q =>
  h σ B H e s _ fun v B1 H1 g hv => by
    cases hv with
    | lst h a =>
      obtain rfl := daInts a
      exact ⟨_, ns, rfl, .of (g.sub _ _ h), hn, hl, q _ B1 H1 g (.int _)⟩
/-- t[::-1] -/
theorem ev_revT {ds : List PyData} (h : Ev K ta ρ (.tuple ds)) : Ev K (tRevT K ta) ρ (.tuple ds.reverse) := fun σ B H e s Q q =>
  h σ B H e s _ fun v B1 H1 g hv => by
    cases hv with
    | @tup a xs _ h hs => exact ⟨_, _, rfl, same_t g.sub h, fun p hp => q _ _ _ (g.trans (Gr.add g.sub hp (.tup xs.reverse))) (.tup (.of upd_same) (hs.rev.mono (Gr.add g.sub hp (.tup xs.reverse)).bb))⟩
/-- xs[i:j] -/
def EvO (K : PySem.W.Frag) (to : TO) (ρ : Rho) (o : Option Int) : Prop := ∀ σ B H, EnvOk K B σ ρ → Same B H → ∀ Q : Option Int → Hp → Prop, (∀ B' H', Gr B H B' H' → Q o H') → to σ H Q
theorem eo_none : EvO K tNoPart ρ none := fun σ B H e s Q q => q B H (.refl s)
theorem eo_some {i : Int} (h : Ev K ta ρ (.int i)) : EvO K (tPart ta) ρ (some i) := fun σ B H e s Q q => h σ B H e s _ fun v B1 H1 g hv => by cases hv; exact ⟨i, rfl, q B1 H1 g⟩
def cutD (ds : List PyData) (lo hi : Option Int) : List PyData := (ds.drop (HT.sIx ds.length 0 lo)).take (HT.sIx ds.length ds.length hi - HT.sIx ds.length 0 lo)
theorem cut_all {B : Hp} {xs : List V} {ds : List PyData} (hs : DaAll K B xs ds) (lo hi : Option Int) : DaAll K B (cutV xs lo hi) (cutD ds lo hi) := by
  have e1 := hs.len
  unfold cutV cutD
  rw [e1]
  exact (hs.drop _).take _
theorem ev_slL {tl th : TO} {ds : List PyData} {lo hi : Option Int} (h : Ev K ta ρ (.list ds)) (h1 : EvO K tl ρ lo) (h2 : EvO K th ρ hi) : Ev K (tSl (rSlL K) ta tl th) ρ (.list (cutD ds lo hi)) := fun σ B H e s Q q =>
  h σ B H e s _ fun v B1 H1 g hv => h1 σ B1 H1 (e.mono g.bb) g.sub _ fun B2 H2 g2 => h2 σ B2 H2 (e.mono (g.trans g2).bb) g2.sub _ fun B3 H3 g3 => by
    cases hv with
    | @lst a xs _ h hs =>
      have gg := (g.trans g2).trans g3
      refine ⟨_, _, rfl, .of (gg.sub _ _ ((g2.trans g3).bb _ _ h)), fun p hp => ?_⟩
      have ga := Gr.add gg.sub hp (.lst (cutV xs lo hi))
      exact q _ _ _ (gg.trans ga) (.lst upd_same ((cut_all (hs.mono (g2.trans g3).bb) lo hi).mono ga.bb))
/-- reversed(t) -/
theorem walk_revT {a : Addr} {xs : List V} : Walk (RT.ItvT K a xs.length) xs.length (fun H => SqT K H a xs) (fun i H x H' => H' = H ∧ xs[xs.length - 1 - i]? = some x) :=
  ⟨fun i _ hi q => ⟨hi, xs, xs[xs.length - 1 - i]'(by omega), q, by simp [show xs.length - 1 - i < xs.length by omega]⟩, fun _ _ => Nat.le_refl _, fun _ _ _ _ _ q y => ⟨y.1, y.2 xs q⟩⟩
theorem goes_rev {J : It} {B : Hp} {xs : List V} {es : List PyData} {G : Hp → Prop} (w : Walk J xs.length G (fun i H x H' => H' = H ∧ xs[xs.length - 1 - i]? = some x)) (hg : ∀ H, Same B H → G H) (a : DaAll K B xs es) : Goes K J B es.reverse := by
  have hl := a.len
  unfold Goes
  rw [List.length_reverse, ← hl]
  refine w.mono hg fun i H x H' hi s y B0 s0 h0 => ?_
  obtain ⟨rfl, hx⟩ := y
  have hi2 : es.length - 1 - i < es.length := by omega
  obtain ⟨v, e1, e2⟩ := a.at (List.getElem?_eq_getElem hi2)
  rw [hl, e1] at hx
  cases hx
  refine ⟨B0, _, .refl h0, ?_, e2.mono s0⟩
  rw [List.getElem?_reverse (by omega)]
  exact List.getElem?_eq_getElem hi2
theorem it_revT {es : List PyData} (h : Ev K ta ρ (.tuple es)) : Iter K (RT.iRevA K ta) ρ es.reverse := fun σ B H e s R r =>
  h σ B H e s _ fun v B1 H1 g hv => by
    cases hv with
    | tup h1 a => exact ⟨_, _, rfl, .inr ⟨same_t g.sub h1, r _ B1 H1 g (goes_rev walk_revT (fun H' s' => same_t s' h1) a)⟩⟩
theorem it_revL {es : List PyData} (h : Ev K ta ρ (.list es)) : Iter K (RT.iRevA K ta) ρ es.reverse := fun σ B H e s R r =>
  h σ B H e s _ fun v B1 H1 g hv => by
    cases hv with
    | lst h1 a => exact ⟨_, _, rfl, .inl ⟨.of (g.sub _ _ h1), r _ B1 H1 g (goes_rev walk_rev (fun H' s' => .of (s' _ _ h1)) a)⟩⟩
end
/-! xs.index(x), xs unlike ints -/
theorem flat_ints (ns : List Int) : (ns.map V.int).all flatV = true := by
  rw [List.all_eq_true]
  intro v hv
  obtain ⟨n, _, rfl⟩ := List.mem_map.mp hv
  rfl
theorem ev_index {K : PySem.W.Frag} {ρ : Rho} {ta tb : TE} {ns : List Int} {x : Int} {j : Nat} (h : Ev K ta ρ (.list (ns.map .int))) (hx : Ev K tb ρ (.int x)) (nd : ns.Nodup) (hj : ns[j]? = some x) :
    Ev K (tBM K "list" (rIndex K) ta (tCons tb tNil)) ρ (.int j) := fun σ B H e s Q q =>
  h σ B H e s _ fun v B1 H1 g hv => by
    cases hv with
    | lst h1 a =>
      obtain rfl := daInts a
      refine ⟨.inl ⟨rfl, _, .of (g.sub _ _ h1)⟩, hx σ B1 H1 (e.mono g.bb) g.sub _ fun u B2 H2 g2 hu => ?_⟩
      cases hu
      refine ⟨_, ns.map .int, .int x, j, .int x, rfl, rfl, .of ((g2.ex _ _ (g.sub _ _ h1))), rfl, flat_ints ns, by rw [List.getElem?_map, hj]; rfl, by simp [eqV], fun m z hm hz => ?_, q _ B2 H2 (g.trans g2) (.int _)⟩
      rw [List.getElem?_map] at hz
      cases e1 : ns[m]? with
      | none => rw [e1] at hz; cases hz
      | some y =>
        rw [e1] at hz
        cases hz
        have ne : y ≠ x := fun e2 => by
          subst e2
          obtain ⟨l1, w1⟩ := List.getElem?_eq_some_iff.mp e1
          obtain ⟨l2, w2⟩ := List.getElem?_eq_some_iff.mp hj
          exact absurd (w1.trans w2.symm) (List.pairwise_iff_getElem.mp nd m j l1 l2 hm)
        show (y == x) = false
        exact beq_eq_false_iff_ne.mpr ne
/-! zip of whatever -/
section
variable {X : Cx}
theorem pi_zipM {e e2 : Expr} {ta : TA} {p pos tpos : Pos} {elts : List Expr} {kk : Nat} (hg : Gl X "zip") (hm : X.mg "zip" = none) (ha : PA X [e, e2] ta)
    (hs : starEach [e, e2] X.env = (false, eval e X.env) :: starEach [e2] X.env := by rfl) (hpl : (backTo pos (starEach [e2] X.env)).any (·.1) = false := by rfl) :
    PI X (.Tuple elts kk tpos) (.Call (.Name "zip" p) [e, e2] [] pos) (orI (RZ.iZipA X.K ta) (iZipM X.K ta)) := pi_or (RZ.pi_zipA hg hm ha hs hpl) (pi_zipTL hg hm ha hs hpl)
end
/-! powers -/
def CPowW (i j : Int) : Prop := 0 ≤ j ∧ (Builtin.Int.intBits i : Int) * j ≤ 2 ^ 27
theorem op_powW {X : Cx} : OpR X (binaryOp .Pow) (rI CPowW fun i j => .int (i ^ j.toNat)) := by
  intro pins s σ H x y v u Q I rx ry h
  obtain ⟨i, j, rfl, rfl, hc, q⟩ := h
  obtain ⟨t, rfl⟩ := (show ∃ t, v = Value.int i t from rx)
  obtain ⟨t', rfl⟩ := (show ∃ t, u = Value.int j t from ry)
  exact pow_int hc.1 hc.2 ⟨.int _, H, I.tok _, ⟨_, rfl⟩, q⟩
end G
namespace G
open PySem PySem.Spec PyProof.Rows L2
def isIntD : PyData → Bool
  | .bool _ => true
  | .int _ => true
  | _ => false
theorem kit_int : ∀ x : PyData, kitB (tyD x) "int" = some (isIntD x)
  | .none => (by decide +kernel : kitB "NoneType" "int" = some false)
  | .bool _ => (by decide +kernel : kitB "bool" "int" = some true)
  | .int _ => (by decide +kernel : kitB "int" "int" = some true)
  | .str _ => (by decide +kernel : kitB "str" "int" = some false)
  | .list _ => (by decide +kernel : kitB "list" "int" = some false)
  | .tuple _ => (by decide +kernel : kitB "tuple" "int" = some false)
  | .dict _ => (by decide +kernel : kitB "dict" "int" = some false)
def isBoolD : PyData → Bool
  | .bool _ => true
  | _ => false
theorem kit_bool : ∀ x : PyData, kitB (tyD x) "bool" = some (isBoolD x)
  | .none => (by decide +kernel : kitB "NoneType" "bool" = some false)
  | .bool _ => (by decide +kernel : kitB "bool" "bool" = some true)
  | .int _ => (by decide +kernel : kitB "int" "bool" = some false)
  | .str _ => (by decide +kernel : kitB "str" "bool" = some false)
  | .list _ => (by decide +kernel : kitB "list" "bool" = some false)
  | .tuple _ => (by decide +kernel : kitB "tuple" "bool" = some false)
  | .dict _ => (by decide +kernel : kitB "dict" "bool" = some false)
def isListD : PyData → Bool
  | .list _ => true
  | _ => false
theorem kit_list : ∀ x : PyData, kitB (tyD x) "list" = some (isListD x)
  | .none => (by decide +kernel : kitB "NoneType" "list" = some false)
  | .bool _ => (by decide +kernel : kitB "bool" "list" = some false)
  | .int _ => (by decide +kernel : kitB "int" "list" = some false)
  | .str _ => (by decide +kernel : kitB "str" "list" = some false)
  | .list _ => (by decide +kernel : kitB "list" "list" = some true)
  | .tuple _ => (by decide +kernel : kitB "tuple" "list" = some false)
  | .dict _ => (by decide +kernel : kitB "dict" "list" = some false)
def isTupD : PyData → Bool
  | .tuple _ => true
  | _ => false
theorem kit_tuple : ∀ x : PyData, kitB (tyD x) "tuple" = some (isTupD x)
  | .none => (by decide +kernel : kitB "NoneType" "tuple" = some false)
  | .bool _ => (by decide +kernel : kitB "bool" "tuple" = some false)
  | .int _ => (by decide +kernel : kitB "int" "tuple" = some false)
  | .str _ => (by decide +kernel : kitB "str" "tuple" = some false)
  | .list _ => (by decide +kernel : kitB "list" "tuple" = some false)
  | .tuple _ => (by decide +kernel : kitB "tuple" "tuple" = some true)
  | .dict _ => (by decide +kernel : kitB "dict" "tuple" = some false)
def isStrD : PyData → Bool
  | .str _ => true
  | _ => false
theorem kit_str : ∀ x : PyData, kitB (tyD x) "str" = some (isStrD x)
  | .none => (by decide +kernel : kitB "NoneType" "str" = some false)
  | .bool _ => (by decide +kernel : kitB "bool" "str" = some false)
  | .int _ => (by decide +kernel : kitB "int" "str" = some false)
  | .str _ => (by decide +kernel : kitB "str" "str" = some true)
  | .list _ => (by decide +kernel : kitB "list" "str" = some false)
  | .tuple _ => (by decide +kernel : kitB "tuple" "str" = some false)
  | .dict _ => (by decide +kernel : kitB "dict" "str" = some false)
end G
namespace G
open PySem PySem.Spec PyProof.Rows L2
/-- a def of the text by its name -/
def Has (K : PySem.W.Frag) (mg : Str → Option Value) (x : Str) (st : Stmt) (ps : List Str) : Prop :=
  ∃ (f : Addr) (fd : FuncData), Fun K x x st f fd ∧ mg x = some (.ref f) ∧ L2.Binds K fd ps []
theorem has_d {P : Program} {w : World} {K : PySem.W.Frag} {mg : Str → Option Value} {base : Heap} {x : Str} {st : Stmt} {N ps : List Str} {k : Nat} {p : List PyData → PyData → Prop} (h : Has K mg x st ps) (S : FnScope N ps (defScope st))
    (ar : ∀ ds d, p ds d → ds.length = ps.length)
    (hb : ∀ (f : Addr) (cdv : Value) (A : Around) (outer : List Env) (s : Shared) (H : Hp) (E : XK), A.guards = some [] → Room k (A.deeper (envOfC x (defScope st) s.heap.objs.size f cdv)) →
      ∃ t, PSs (bodyCx CX0 P w K mg base N x st f cdv A outer s H E).nox (defBody st) t ∧ ∀ ds d, p ds d → Do K t (startR N ds) (fun _ => d = .none) fun d' => d' = d) : Cal P w K mg base (k + 1) x ps (sp K p) := by
  obtain ⟨f, fd, F, hm, bd⟩ := h
  exact ⟨f, fd, hm, kq_of F, bd, def_d F S ar fun cdv A outer s H E hg hr => hb f cdv A outer s H E hg hr⟩
theorem Cal.kw {P : Program} {w : World} {K : PySem.W.Frag} {mg : Str → Option Value} {base : Heap} {k : Nat} {x : Str} {st : Stmt} {ps ks : List Str} {q : Sp} {g : List Value → List Value → List Value} {gV : List V → List V → List V}
    (c : Cal P w K mg base k x ps q) (h : Has K mg x st ps)
    (hk : ∀ (kV doc pm : Value) (an : Option Addr) (cdv ct : Value) (us ws : List Value), (g us ws).length = ps.length → bindArgs (PySem.W.fnOf x x (defArgs st) (defBody st) (defScope st) .none kV doc pm an cdv ct) ⟨us, ks.zip ws⟩ = pure (ps.zip (g us ws)))
    (hr : ∀ {vs : List V} {us : List Value} {zs : List V} {ws : List Value}, Vals vs us → Vals zs ws → Vals (gV vs zs) (g us ws)) : CalK P w K mg base k x ps ks gV q := by
  obtain ⟨f, fd, hm, ⟨hkp, o, lo, od⟩, hb, F⟩ := c.ex
  obtain ⟨f2, fd2, F2, hm2, bd2⟩ := h
  rw [hm] at hm2
  cases hm2
  obtain ⟨oc, od2, kV, doc, pm, an, cdv, ct, osl, e, lk, hcd⟩ := F2.ex
  rw [lo] at lk
  cases lk
  cases od
  subst e
  exact ⟨f, _, g, hm, hkp, ⟨fun s us ws _ hl => .of_eq (hk kV doc pm an cdv ct us ws hl), hr⟩, F⟩
theorem Cal.lift {P : Program} {w : World} {K : PySem.W.Frag} {mg : Str → Option Value} {base : Heap} {j k : Nat} {x : Str} {ps : List Str} {q : Sp} (c : Cal P w K mg base j x ps q) (h : j ≤ k) : Cal P w K mg base k x ps q := by
  obtain ⟨f, fd, hm, hk, hb, F⟩ := c.ex
  exact ⟨f, fd, hm, hk, hb, F.lift h⟩
end G

namespace G
/-! with K told -/
open PySem PySem.Spec PyProof.Rows L2
section
variable {X : Cx} (K : PySem.W.Frag)
theorem ixK (h : X.K = K := by rfl) : IxR X (rIxA K) := h ▸ ix_A
theorem addK (h : X.K = K := by rfl) : OpR X (binaryOp .Add) (rAddA K) := h ▸ op_addA
theorem eqK {k : Nat} (hr : Room k X.A) (h : X.K = K := by rfl) : OpR X (compareOp .Eq) (rEqD K) := h ▸ op_eqD hr.units
theorem neK {k : Nat} (hr : Room k X.A) (h : X.K = K := by rfl) : OpR X (compareOp .NotEq) (rNeD K) := h ▸ op_neD hr.units
theorem inK (h : X.K = K := by rfl) : OpR X (compareOp .In) (rIn K false) := h ▸ op_in_seq
theorem ninK (h : X.K = K := by rfl) : OpR X (compareOp .NotIn) (rIn K true) := h ▸ op_notIn_seq
theorem isiK (h : X.K = K := by rfl) : CallR X (.builtin "isinstance") (rIsi K) := h ▸ call_isi
abbrev rLenK (K : PySem.W.Frag) : List V → Hp → VK → Prop := fun xs H Q => ∃ p ys, xs = [.ref p] ∧ (SqL K H p ys ∨ SqT K H p ys) ∧ Q (.int ys.length) H
theorem lenK (h : X.K = K := by rfl) : CallR X (.builtin "len") (rLenK K) := h ▸ call_len_seq
theorem allK (hc : X.calm = true) (h : X.K = K := by rfl) : CallR X (.builtin "all") (rAll K) := h ▸ cr_all hc
theorem sumK (hc : X.calm = true) (h : X.K = K := by rfl) : CallR X (.builtin "sum") (rSum K) := h ▸ cr_sum hc
theorem reprK {k : Nat} (hg : X.A.guards = some []) (hr : Room k X.A) (h : X.K = K := by rfl) : CallR X (.builtin "repr") (rRepr K) := h ▸ call_repr hg hr
theorem listK (h : X.K = K := by rfl) : CallR X (.type "list") (rListOf K) := h ▸ callA_list
theorem slK (h : X.K = K := by rfl) : SlR X (rSlL K) := h ▸ sl_list
theorem pi_listK {tg e : Expr} {te : TE} (he : PE X e te) (h : X.K = K := by rfl) : PI X tg e (iList K te) := h ▸ pi_list he
theorem pi_tupK {tg e : Expr} {te : TE} (he : PE X e te) (h : X.K = K := by rfl) : PI X tg e (iTup K te) := h ▸ pi_tup he
theorem pi_zipK {e e2 : Expr} {ta : TA} {p pos tpos : Pos} {elts : List Expr} {kk : Nat} (hg : Gl X "zip") (hm : X.mg "zip" = none) (ha : PA X [e, e2] ta) (h : X.K = K := by rfl)
    (hs : starEach [e, e2] X.env = (false, eval e X.env) :: starEach [e2] X.env := by rfl) (hpl : (backTo pos (starEach [e2] X.env)).any (·.1) = false := by rfl) :
    PI X (.Tuple elts kk tpos) (.Call (.Name "zip" p) [e, e2] [] pos) (orI (RZ.iZipA K ta) (iZipM K ta)) := h ▸ pi_zipM hg hm ha hs hpl
theorem pi_revK {tg e : Expr} {te : TE} {p pos : Pos} (hg : Gl X "reversed") (hm : X.mg "reversed" = none) (he : PE X e te) (h : X.K = K := by rfl) (hs : starEach [e] X.env = (false, eval e X.env) :: starEach [] X.env := by rfl) :
    PI X tg (.Call (.Name "reversed" p) [e] [] pos) (RT.iRevA K te) := h ▸ RT.pi_revA hg hm he hs
theorem revK {e : Expr} {te : TE} {k : Nat} {p1 p2 p3 pos : Pos} (he : PE X e te) (h : X.K = K := by rfl) :
    PE X (.Subscript e (.Slice none none (some (.UnaryOp .USub (.Constant (.int 1) k p1) p2)) p3) pos) (tRevT K te) := h ▸ pe_revT he
theorem lenSetK {a : Expr} {ta : TE} {p p2 q pos : Pos} (hg : Gl X "len") (hm : X.mg "len" = none) (hg2 : Gl X "set") (hm2 : X.mg "set" = none) (ha : PE X a ta) (h : X.K = K := by rfl) (hc : X.calm = true := by rfl)
    (na : starEach [a] X.env = (false, eval a X.env) :: starEach [] X.env := by rfl) : PE X (.Call (.Name "len" p) [.Call (.Name "set" p2) [a] [] q] [] pos) (RZ.tLenSetI K ta) := h ▸ RZ.pe_lenSetI hg hm hg2 hm2 ha hc na
theorem indexK (h : X.K = K := by rfl) : MtR X "list.index" (rIndex K) := h ▸ mt_index
end
end G
end
section
set_option maxRecDepth 100000
set_option maxHeartbeats 2000000
/-! readings over data beside one list of three ints that is drawn from and written to -/
namespace G
open PySem PySem.Spec PyProof.Rows L2
/-- the list that is drawn from lies at g; c: a bound of its third int -/
def GenAt (H : Hp) (g : Addr) (c : Nat) : Prop := ∃ a b n : Int, H g = some (.lst [.int a, .int b, .int n]) ∧ 0 ≤ a ∧ a < 10 ^ 600 ∧ 0 ≤ b ∧ b < 2147483647 ∧ 0 ≤ n ∧ n ≤ c
theorem GenAt.le {H : Hp} {g : Addr} {c c' : Nat} (h : GenAt H g c) (l : c ≤ c') : GenAt H g c' := by
  obtain ⟨a, b, n, h1, h2, h3, h4, h5, h6, h7⟩ := h
  exact ⟨a, b, n, h1, h2, h3, h4, h5, h6, by omega⟩
theorem GenAt.same {H H' : Hp} {g : Addr} {c : Nat} (h : GenAt H g c) (s : Same H H') : GenAt H' g c := by
  obtain ⟨a, b, n, h1, r⟩ := h
  exact ⟨a, b, n, s _ _ h1, r⟩
theorem GenAt.ne {H : Hp} {g : Addr} {c : Nat} (h : GenAt H g c) : H g ≠ none := by
  obtain ⟨a, b, n, h1, _⟩ := h
  rw [h1]
  simp
structure Gg (g : Addr) (B H B' H' : Hp) : Prop where
  ex : ∀ a o, a ≠ g → H a = some o → H' a = some o
  bb : Same B B'
  sub : Same B' H'
  new : ∀ a o, B' a = some o → B a = none → H a = none
  off : B' g = none
section
variable {g : Addr} {B H B1 H1 B2 H2 : Hp} {c : Nat}
theorem Gg.refl (s : Same B H) (h : B g = none) : Gg g B H B H := ⟨fun _ _ _ e => e, Same.refl _, s, fun a o e n => (by rw [n] at e; cases e), h⟩
theorem Gg.of (k : Gr B H B1 H1) (h : B g = none) (n : H g ≠ none) : Gg g B H B1 H1 := by
  refine ⟨fun a o _ e => k.ex a o e, k.bb, k.sub, k.new, ?_⟩
  cases z : B1 g with
  | none => rfl
  | some o => exact absurd (k.new g o z h) n
theorem Gg.trans (k : Gg g B H B1 H1) (l : Gg g B1 H1 B2 H2) : Gg g B H B2 H2 := by
  refine ⟨fun a o n e => l.ex a o n (k.ex a o n e), k.bb.trans l.bb, l.sub, fun a o e n => ?_, l.off⟩
  cases q : B1 a with
  | none =>
    have z := l.new a o e q
    cases w : H a with
    | none => rfl
    | some u =>
      have ne : a ≠ g := fun x => by subst x; rw [l.off] at e; cases e
      rw [k.ex a u ne w] at z
      cases z
  | some u => exact k.new a u q n
end
/-- the names' data, and where the drawn list stands -/
structure EnvG (K : PySem.W.Frag) (B : Hp) (σ : L2.St) (ρ : Rho) (g : Addr) (i : Nat) : Prop where
  env : EnvOk K B σ ρ
  here : σ[i]? = some (some (.ref g))
  gone : B g = none
section
variable {K : PySem.W.Frag} {B B' : Hp} {σ : L2.St} {ρ : Rho} {g : Addr} {i : Nat}
theorem EnvG.to (h : EnvG K B σ ρ g i) {H H' : Hp} (k : Gg g B H B' H') : EnvG K B' σ ρ g i := ⟨h.env.mono k.bb, h.here, k.off⟩
theorem EnvG.set (h : EnvG K B σ ρ g i) {v : V} {d : PyData} (hv : Da K B v d) {j : Nat} (n : j ≠ i) : EnvG K B (σ.set j (some v)) (ρ.set j (some d)) g i :=
  ⟨h.env.set hv j, by rw [List.getElem?_set_ne n]; exact h.here, h.gone⟩
end
def Eg (K : PySem.W.Frag) (i : Nat) (te : TE) (ρ : Rho) (c : Nat) (P : PyData → Nat → Prop) : Prop := ∀ g σ B H, EnvG K B σ ρ g i → Same B H → GenAt H g c → ∀ Q : VK,
  (∀ v B' H' d c', Gg g B H B' H' → GenAt H' g c' → Da K B' v d → P d c' → Q v H') → te σ H Q
def El (K : PySem.W.Frag) (i : Nat) (ta : TA) (ρ : Rho) (c : Nat) (P : List PyData → Nat → Prop) : Prop := ∀ g σ B H, EnvG K B σ ρ g i → Same B H → GenAt H g c → ∀ Q : List V → Hp → Prop,
  (∀ vs B' H' ds c', Gg g B H B' H' → GenAt H' g c' → DaAll K B' vs ds → P ds c' → Q vs H') → ta σ H Q
/-- what a def promises whose first argument is the drawn list -/
def spG (K : PySem.W.Frag) (P : List PyData → Nat → (PyData → Nat → Prop) → Prop) : Sp := fun vs H Q _ => ∃ g us B ds c R, vs = .ref g :: us ∧ Same B H ∧ B g = none ∧ GenAt H g c ∧ DaAll K B us ds ∧ P ds c R ∧
  ∀ v B' H' d c', Gg g B H B' H' → GenAt H' g c' → Da K B' v d → R d c' → Q v H'
section
variable {K : PySem.W.Frag} {i : Nat} {ρ : Rho} {c : Nat} {te ta tb : TE} {tr : TA} {d : PyData} {P : PyData → Nat → Prop}
theorem eg_pure (h : Ev K te ρ d) (p : P d c) : Eg K i te ρ c P := fun g σ B H e s n Q q =>
  h σ B H e.env s Q fun v B' H' k hv => q v B' H' d c (.of k e.gone n.ne) (n.same k.ex) hv p
theorem Eg.imp {P' : PyData → Nat → Prop} (h : Eg K i te ρ c P) (k : ∀ d c', P d c' → P' d c') : Eg K i te ρ c P' := fun g σ B H e s n Q q =>
  h g σ B H e s n Q fun v B' H' d c' gg n' hv p => q v B' H' d c' gg n' hv (k d c' p)
theorem eg_op {r : R2} {P1 : PyData → Nat → Prop} {P2 : PyData → PyData → Nat → Prop} (ha : Eg K i ta ρ c P1) (hb : ∀ x c1, P1 x c1 → Eg K i tb ρ c1 (P2 x)) (hr : ∀ x y c1 c2, P1 x c1 → P2 x y c2 → ∃ z, Op2 K r x y z ∧ P z c2) : Eg K i (tOp r ta tb) ρ c P := fun g σ B H e s n Q q =>
  ha g σ B H e s n _ fun u B1 H1 x c1 g1 n1 hu p1 => hb x c1 p1 g σ B1 H1 (e.to g1) g1.sub n1 _ fun v B2 H2 y c2 g2 n2 hv p2 => by
    obtain ⟨z, ho, pz⟩ := hr x y c1 c2 p1 p2
    refine ho B2 H2 g2.sub u v (hu.mono g2.bb) hv Q fun w B3 H3 g3 hw => ?_
    have g12 := g1.trans g2
    exact q w B3 H3 z c2 (g12.trans (.of g3 g12.off n2.ne)) (n2.same g3.ex) hw pz
theorem el_n {P : List PyData → Nat → Prop} (p : P [] c) : El K i tNil ρ c P := fun g σ B H e s n Q q => q [] B H [] c (.refl s e.gone) n .nil p
theorem el_c {P1 : PyData → Nat → Prop} {P : List PyData → Nat → Prop} (ha : Eg K i ta ρ c P1) (hr : ∀ x c1, P1 x c1 → El K i tr ρ c1 fun ds c2 => P (x :: ds) c2) : El K i (tCons ta tr) ρ c P := fun g σ B H e s n Q q =>
  ha g σ B H e s n _ fun u B1 H1 x c1 g1 n1 hu p1 => hr x c1 p1 g σ B1 H1 (e.to g1) g1.sub n1 _ fun vs B2 H2 ds c2 g2 n2 hv p2 => q (u :: vs) B2 H2 (x :: ds) c2 (g1.trans g2) n2 (.cons (hu.mono g2.bb) hv) p2
theorem eg_lst {P1 : List PyData → Nat → Prop} (h : El K i tr ρ c P1) (hp : ∀ ds c', P1 ds c' → ds.length ≤ sizeLine ∧ P (.list ds) c') : Eg K i (tLst tr) ρ c P := fun g σ B H e s n Q q =>
  h g σ B H e s n _ fun vs B1 H1 ds c1 g1 n1 hv p1 => by
    obtain ⟨hl, p⟩ := hp ds c1 p1
    refine ⟨by rw [hv.len]; exact hl, fun a ha => ?_⟩
    have k := Gr.add g1.sub ha (.lst vs)
    exact q _ _ _ _ c1 (g1.trans (.of k g1.off n1.ne)) (n1.same k.ex) (.lst upd_same (hv.mono k.bb)) p
theorem eg_tup {P1 : List PyData → Nat → Prop} (h : El K i tr ρ c P1) (hp : ∀ ds c', P1 ds c' → ds.length ≤ sizeLine ∧ P (.tuple ds) c') : Eg K i (tTup tr) ρ c P := fun g σ B H e s n Q q =>
  h g σ B H e s n _ fun vs B1 H1 ds c1 g1 n1 hv p1 => by
    obtain ⟨hl, p⟩ := hp ds c1 p1
    refine ⟨by rw [hv.len]; exact hl, fun a ha => ?_⟩
    have k := Gr.add g1.sub ha (.tup vs)
    exact q _ _ _ _ c1 (g1.trans (.of k g1.off n1.ne)) (n1.same k.ex) (.tup (.of upd_same) (hv.mono k.bb)) p
theorem eg_call {F : List PyData → Nat → (PyData → Nat → Prop) → Prop} {E : XK} {ds : List PyData} {R : PyData → Nat → Prop} (h : EvL K tr ρ ds) (hf : F ds c R) (hp : ∀ d c', R d c' → P d c') : Eg K i (tCall (spG K F) [] E (tCons (tVar i) tr)) ρ c P := fun g σ B H e s n Q q =>
  ⟨.ref g, e.here, h σ B H e.env s _ fun vs B1 H1 k hv => by
    have g1 : Gg g B H B1 H1 := .of k e.gone n.ne
    exact ⟨g, vs, B1, ds, c, R, by rw [List.append_nil], g1.sub, g1.off, n.same k.ex, hv, hf, fun v B2 H2 d c2 g2 n2 h2 r => q v B2 H2 d c2 (g1.trans g2) n2 h2 (hp d c2 r)⟩⟩
/-- the rest of the arguments drawn, too -/
theorem eg_cb {r : List V → Hp → VK → Prop} {P1 : List PyData → Nat → Prop} (h : El K i tr ρ c P1) (hp : ∀ ds c', P1 ds c' → ∃ z, Fn K r ds z ∧ P z c') : Eg K i (tCB r tr) ρ c P := fun g σ B H e s n Q q =>
  h g σ B H e s n _ fun vs B1 H1 ds c1 g1 n1 hv p1 => by
    obtain ⟨z, hf, p⟩ := hp ds c1 p1
    exact hf B1 H1 g1.sub vs hv Q fun w B2 H2 g2 hw => q w B2 H2 z c1 (g1.trans (.of g2 g1.off n1.ne)) (n1.same g2.ex) hw p
theorem if_true_go {A C : Prop} (h : A) : if true = true then A else C := by rw [if_pos rfl]; exact h
theorem wipe_at (σ : L2.St) {i : Nat} : ∀ {vs : List Nat}, i ∉ vs → (wipe σ vs)[i]? = σ[i]?
  | [], _ => rfl
  | v :: vs, h => by
    show ((wipe σ vs).set v none)[i]? = _
    rw [List.getElem?_set_ne (fun e => h (by rw [e]; exact List.mem_cons_self ..))]
    exact wipe_at σ fun q => h (List.mem_cons_of_mem _ q)
/-- a comprehension whose elements draw; J: what is made so far, the bound -/
theorem eg_lc {wi : TI} {tg : TG} {vs : List Nat} {es : List PyData} (h : Iter K wi ρ es) (hz : es.length ≤ 1000000) (hi : i ∉ vs) (J : Nat → List PyData → Nat → Prop) (h0 : J 0 [] c)
    (hs : ∀ k e out c1, es[k]? = some e → J k out c1 → ∃ ρ1, TgW K tg vs e ρ ρ1 ∧ Eg K i te ρ1 c1 fun d c2 => J (k + 1) (out ++ [d]) c2)
    (hd : ∀ out c', J es.length out c' → out.length = es.length → P (.list out) c') : Eg K i (tLc wi tg tYes te vs) ρ c P := fun g σ B H e s n Q q =>
  h σ B H e.env s _ fun It0 B1 H1 k1 w => fun Dl hD => by
    have g1 : Gg g B H B1 H1 := .of k1 e.gone n.ne
    have n1 : GenAt H1 g c := n.same k1.ex
    have gD : g ≠ Dl := fun x => n1.ne (x ▸ hD)
    refine lc_it w (fun k H' => ∃ B' xs out c', Gg g B1 H1 B' H' ∧ B' Dl = none ∧ H' Dl = some (.lst xs) ∧ DaAll K B' xs out ∧ GenAt H' g c' ∧ J k out c' ∧ out.length = k) ?_ (fun k H' _ ⟨B', _, _, _, g2, _⟩ => g2.bb.trans g2.sub) ?_ ?_
    · have sd := Gr.side g1.sub hD (.lst [])
      exact ⟨B1, [], [], c, .of sd g1.off n1.ne, g1.sub.free hD, upd_same, .nil, n1.same sd.ex, h0, rfl⟩
    · rintro k x H' H2 hk ⟨B', xs, out, c1, g2, hB, hH, ha, n2, hJ, hl⟩ y
      obtain ⟨B2, el, g3, hel, hx⟩ := y B' g2.bb g2.sub
      obtain ⟨ρ1, ht, hv⟩ := hs k el out c1 hel hJ
      have G3 : Gg g B' H' B2 H2 := .of g3 g2.off n2.ne
      have n3 := n2.same g3.ex
      have hB2 : B2 Dl = none := by
        cases z : B2 Dl with
        | none => rfl
        | some o => exact absurd (g3.new Dl o z hB) (by rw [hH]; simp)
      have hH2 : H2 Dl = some (.lst xs) := g3.ex _ _ hH
      have g23 := g2.trans G3
      refine ht σ B2 H2 x (e.env.mono (g1.bb.trans g23.bb)) G3.sub hx _ fun σ2 e3 hwp => ?_
      refine ⟨hwp, ?_⟩
      dsimp only [tYes]
      rw [if_pos rfl]
      have eg : EnvG K B2 σ2 ρ1 g i := ⟨e3, by rw [← wipe_at σ2 hi, hwp, wipe_at σ hi]; exact e.here, G3.off⟩
      refine hv g σ2 B2 H2 eg G3.sub n3 _ fun u B4 H4 d c4 g4 n4 hu hJ4 => ?_
      have hB4 : B4 Dl = none := by
        cases z : B4 Dl with
        | none => rfl
        | some o => exact absurd (g4.new Dl o z hB2) (by rw [hH2]; simp)
      have hH4 : H4 Dl = some (.lst xs) := g4.ex _ _ (Ne.symm gD) hH2
      have gg := g23.trans g4
      have hk' : k < es.length := hk
      refine ⟨xs, hH4, by have := ha.len; rw [sizeLine_eq]; omega, B4, xs ++ [u], out ++ [d], c4, ⟨fun b o nb z => ?_, gg.bb, fun b o z => ?_, gg.new, gg.off⟩, hB4, upd_same, (ha.mono (G3.bb.trans g4.bb)).app (.cons hu .nil), ?_, hJ4, by rw [List.length_append, hl]; rfl⟩
      · rw [upd_ne (ne_of_none z hD)]
        exact gg.ex b o nb z
      · rw [upd_ne (ne_of_none z hB4)]
        exact gg.sub b o z
      · obtain ⟨a, b, m, h1, r⟩ := n4
        exact ⟨a, b, m, by rw [upd_ne gD]; exact h1, r⟩
    · rintro H' ⟨B', xs, out, c', g2, hB, hH, ha, n2, hJ, hl⟩
      refine q _ (upd B' Dl (.lst xs)) H' (.list out) c' (g1.trans ⟨g2.ex, g2.bb.trans (same_new hB), fun b o z => ?_, fun b o z m => ?_, by rw [upd_ne gD]; exact g2.off⟩) n2 (.lst upd_same (ha.mono (same_new hB))) (hd out c' hJ hl)
      · by_cases x : b = Dl
        · subst x
          rw [upd_same] at z
          rw [hH]
          exact z
        · rw [upd_ne x] at z
          exact g2.sub b o z
      · by_cases x : b = Dl
        · subst x
          exact hD
        · rw [upd_ne x] at z
          exact g2.new b o z m
end
/-! statements -/
def Dg (K : PySem.W.Frag) (i : Nat) (ts : TS) (ρ : Rho) (c : Nat) (N : Rho → Nat → Prop) (R : PyData → Nat → Prop) : Prop := ∀ g σ B H (D : Ends), EnvG K B σ ρ g i → Same B H → GenAt H g c →
  (∀ σ' B' H' ρ' c', Gg g B H B' H' → EnvG K B' σ' ρ' g i → GenAt H' g c' → N ρ' c' → D.nx σ' H') → (∀ v B' H' d c', Gg g B H B' H' → GenAt H' g c' → Da K B' v d → R d c' → D.rt v H') → ts D σ H
section
variable {K : PySem.W.Frag} {i : Nat} {ρ : Rho} {c : Nat} {N M : Rho → Nat → Prop} {R : PyData → Nat → Prop} {te : TE} {t u : TS} {tt : TT} {d : PyData} {P : PyData → Nat → Prop}
theorem dg_next (h : N ρ c) : Dg K i tNext ρ c N R := fun g σ B H D e s n nx _ => nx σ B H ρ c (.refl s e.gone) e n h
theorem dg_seq (h : Dg K i t ρ c M R) (k : ∀ ρ' c', M ρ' c' → Dg K i u ρ' c' N R) : Dg K i (tSeq t u) ρ c N R := fun g σ B H D e s n nx r =>
  h g σ B H _ e s n (fun σ' B' H' ρ' c' g1 e' n' m => k ρ' c' m g σ' B' H' D e' g1.sub n' (fun σ2 B2 H2 ρ2 c2 g2 => nx σ2 B2 H2 ρ2 c2 (g1.trans g2)) fun v B2 H2 d c2 g2 => r v B2 H2 d c2 (g1.trans g2)) r
theorem dg_ret (h : Eg K i te ρ c R) : Dg K i (tRet te) ρ c N R := fun g σ B H D e s n _ r => h g σ B H e s n _ fun v B' H' d c' gg n' hv p => r v B' H' d c' gg n' hv p
theorem dg_set {j : Nat} (h : Eg K i te ρ c P) (hj : j ≠ i) (k : ∀ d c', P d c' → N (ρ.set j (some d)) c') : Dg K i (tAsg te (gName j)) ρ c N R := fun g σ B H D e s n nx _ =>
  h g σ B H e s n _ fun v B' H' d c' gg n' hv p => nx _ B' H' _ c' gg ((e.to gg).set hv hj) n' (k d c' p)
theorem dg_par {j l : Nat} {ta : TA} {P : List PyData → Nat → Prop} (h : El K i ta ρ c P) (hj : j ≠ i) (hl : l ≠ i) (k : ∀ ds c', P ds c' → ∃ x y, ds = [x, y] ∧ N ((ρ.set j (some x)).set l (some y)) c') : Dg K i (tPar j l ta) ρ c N R := fun g σ B H D e s n nx _ =>
  h g σ B H e s n _ fun vs B' H' ds c' gg n' hv p => by
    obtain ⟨x, y, rfl, hn⟩ := k ds c' p
    cases hv with
    | cons h1 r =>
      cases r with
      | cons h2 r =>
        cases r
        exact ⟨_, _, rfl, nx _ B' H' _ c' gg (((e.to gg).set h1 hj).set h2 hl) n' hn⟩
theorem dg_if {b : Bool} (h : EvB K tt ρ b) (h1 : b = true → Dg K i t ρ c N R) (h2 : b = false → Dg K i u ρ c N R) : Dg K i (tIfS tt t u) ρ c N R := fun g σ B H D e s n nx r =>
  h σ B H e.env s _ fun B1 H1 k => by
    have g1 : Gg g B H B1 H1 := .of k e.gone n.ne
    have n1 := n.same k.ex
    cases b with
    | true => exact iteT (h1 rfl g σ B1 H1 D (e.to g1) g1.sub n1 (fun σ2 B2 H2 ρ2 c2 g2 => nx σ2 B2 H2 ρ2 c2 (g1.trans g2)) fun v B2 H2 d c2 g2 => r v B2 H2 d c2 (g1.trans g2))
    | false => exact iteF (h2 rfl g σ B1 H1 D (e.to g1) g1.sub n1 (fun σ2 B2 H2 ρ2 c2 g2 => nx σ2 B2 H2 ρ2 c2 (g1.trans g2)) fun v B2 H2 d c2 g2 => r v B2 H2 d c2 (g1.trans g2))
/-- for: what is walked does not draw -/
theorem dg_for {wi : TI} {j : Nat} {es : List PyData} (h : Iter K wi ρ es) (hj : j ≠ i) (I : Nat → Rho → Nat → Prop) (h0 : I 0 ρ c)
    (hs : ∀ k e ρ' c', es[k]? = some e → I k ρ' c' → Dg K i t (ρ'.set j (some e)) c' (I (k + 1)) R) (hd : ∀ ρ' c', I es.length ρ' c' → N ρ' c') : Dg K i (tFor wi (gName j) t) ρ c N R := fun g σ B H D e s n nx r =>
  h σ B H e.env s _ fun J B1 H1 k1 w => by
    have g1 : Gg g B H B1 H1 := .of k1 e.gone n.ne
    refine for_it w (fun k σ' H' => ∃ B' ρ' c', Gg g B1 H1 B' H' ∧ EnvG K B' σ' ρ' g i ∧ GenAt H' g c' ∧ I k ρ' c') ⟨B1, ρ, c, .refl g1.sub g1.off, e.to g1, n.same k1.ex, h0⟩ (fun k σ' H' _ ⟨B', _, _, g2, _⟩ => g2.bb.trans g2.sub) ?_ ?_
    · rintro k x σ' H' H2 hi ⟨B', ρ', c', g2, e2, n2, p⟩ y
      obtain ⟨B2, el, g3, hel, hx⟩ := y B' g2.bb g2.sub
      have G3 : Gg g B' H' B2 H2 := .of g3 e2.gone n2.ne
      have g23 := g2.trans G3
      exact hs k el ρ' c' hel p g _ B2 H2 _ ((e2.to G3).set hx hj) G3.sub (n2.same g3.ex) (fun σ4 B4 H4 ρ4 c4 g4 e4 n4 p4 => ⟨B4, ρ4, c4, g23.trans g4, e4, n4, p4⟩) fun v B4 H4 d c4 g4 n4 hv hr => r v B4 H4 d c4 (g1.trans (g23.trans g4)) n4 hv hr
    · rintro σ' H' ⟨B', ρ', c', g2, e2, n2, p⟩
      exact nx σ' B' H' ρ' c' (g1.trans g2) e2 n2 (hd ρ' c' p)
end
/-! a def whose first argument is drawn from -/
section
variable {P : Program} {w : World} {K : PySem.W.Frag} {mg : Str → Option Value} {base : Heap}
theorem has_g {x : Str} {st : Stmt} {N ps : List Str} {k m : Nat} {p : List PyData → Nat → (PyData → Nat → Prop) → Prop} (h : Has K mg x st ps) (S : FnScope N ps (defScope st)) (hm : ps.length = m + 1)
    (ar : ∀ ds c R, p ds c R → ds.length = m)
    (hb : ∀ (f : Addr) (cdv : Value) (A : Around) (outer : List Env) (s : Shared) (H : Hp) (E : XK), A.guards = some [] → Room k (A.deeper (envOfC x (defScope st) s.heap.objs.size f cdv)) →
      ∃ t, PSs (bodyCx CX0 P w K mg base N x st f cdv A outer s H E).nox (defBody st) t ∧ ∀ ds c R, p ds c R → Dg K 0 t (none :: startR N.tail ds) c (fun _ c' => R .none c') R) (hN : N ≠ []) : Cal P w K mg base (k + 1) x ps (spG K p) := by
  obtain ⟨f, fd, F, hmg, bd⟩ := h
  refine ⟨f, fd, hmg, kq_of F, bd, fn_g0 F S (fun vs H Q E h => ?_) fun cdv A outer s H vs Q E hg hr h => ?_⟩
  · obtain ⟨g, us, B, ds, c, R, rfl, _, _, _, a, hp, _⟩ := h
    rw [hm, List.length_cons, a.len, ar ds c R hp]
  · obtain ⟨g, us, B, ds, c, R, rfl, hs, hgn, n, a, hp, q⟩ := h
    obtain ⟨t, ht, hd⟩ := hb f cdv A outer s H E hg hr
    obtain ⟨x0, N', rfl⟩ : ∃ x N', N = x :: N' := by
      cases N with
      | nil => exact absurd rfl hN
      | cons x N' => exact ⟨x, N', rfl⟩
    have e0 := env_start (N := N') a
    have st0 : L2.start (x0 :: N') (.ref g :: us) = some (.ref g) :: L2.start N' us := by
      unfold L2.start
      simp
    refine ⟨t, ht, ?_⟩
    rw [st0]
    refine hd ds c R hp g _ B H _ ⟨⟨by simp [e0.len], fun j d hj => ?_⟩, rfl, hgn⟩ hs n (fun σ' B' H' ρ' c' gg e n' r => q .non B' H' .none c' gg n' .non r) fun v B' H' d c' gg n' hv r => q v B' H' d c' gg n' hv r
    cases j with
    | zero => simp at hj
    | succ j => exact e0.look j d (by simpa using hj)
end
end G
end
section
set_option maxRecDepth 100000
set_option maxHeartbeats 2000000
/-! plain data: ints, truths, None, lists and tuples of them -/
namespace G
open PySem PySem.Spec PyProof.Rows L2
mutual
def pl : PyData → Bool
  | .none => true
  | .bool _ => true
  | .int i => decide (i.natAbs < 10 ^ 12)
  | .list xs => plAll xs
  | .tuple xs => plAll xs
  | .str _ => false
  | .dict _ => false
def plAll : List PyData → Bool
  | [] => true
  | x :: xs => pl x && plAll xs
end
mutual
theorem pl_facts : ∀ d : PyData, pl d = true → d.canLay0 = true ∧ d.leavesShort 13 = true ∧ d.showable = true ∧ PyData.eqv d d = true
  | .none, _ => ⟨rfl, rfl, rfl, rfl⟩
  | .bool b, _ => ⟨rfl, rfl, rfl, by simp [PyData.eqv]⟩
  | .int i, h => by
    have h' : i.natAbs < 10 ^ 12 := by simpa [pl] using h
    refine ⟨rfl, ?_, ?_, by simp [PyData.eqv]⟩
    · rw [PyData.leavesShort]
      exact decide_eq_true (PyData.shown_int_le h')
    · rw [PyData.showable]
      refine decide_eq_true ?_
      by_cases z : i.natAbs = 0
      · rw [z]; decide
      · exact Nat.lt_of_lt_of_le ((Nat.log2_lt (k := 40) z).mpr (by omega)) (by decide)
  | .list xs, h => by
    obtain ⟨a, b, c, d⟩ := pl_factsAll xs (by simpa [pl] using h)
    exact ⟨by rw [PyData.canLay0]; exact a, by rw [PyData.leavesShort]; exact b, by rw [PyData.showable]; exact c, by rw [PyData.eqv]; exact d⟩
  | .tuple xs, h => by
    obtain ⟨a, b, c, d⟩ := pl_factsAll xs (by simpa [pl] using h)
    exact ⟨by rw [PyData.canLay0]; exact a, by rw [PyData.leavesShort]; exact b, by rw [PyData.showable]; exact c, by rw [PyData.eqv]; exact d⟩
  | .str _, h => by simp [pl] at h
  | .dict _, h => by simp [pl] at h
theorem pl_factsAll : ∀ ds : List PyData, plAll ds = true → PyData.canLayAll0 ds = true ∧ PyData.leavesShortAll 13 ds = true ∧ PyData.showableAll ds = true ∧ PyData.eqvAll ds ds = true
  | [], _ => ⟨by simp [PyData.canLayAll0], by simp [PyData.leavesShortAll], by simp [PyData.showableAll], by simp [PyData.eqvAll]⟩
  | x :: xs, h => by
    have h' : pl x = true ∧ plAll xs = true := by simpa [plAll] using h
    obtain ⟨a1, b1, c1, d1⟩ := pl_facts x h'.1
    obtain ⟨a2, b2, c2, d2⟩ := pl_factsAll xs h'.2
    exact ⟨by rw [PyData.canLayAll0, a1, a2]; rfl, by rw [PyData.leavesShortAll, b1, b2]; rfl, by rw [PyData.showableAll, c1, c2]; rfl, by rw [PyData.eqvAll, d1, d2]; rfl⟩
end
theorem plAll_iff : ∀ {ds : List PyData}, (∀ d ∈ ds, pl d = true) → plAll ds = true
  | [], _ => by simp [plAll]
  | d :: ds, h => by
    rw [plAll, h d (List.mem_cons_self ..), plAll_iff fun x hx => h x (List.mem_cons_of_mem _ hx)]
    rfl
theorem pl_int {i : Int} (h : i.natAbs < 10 ^ 12) : pl (.int i) = true := by rw [pl]; exact decide_eq_true h
theorem pl_list {ds : List PyData} (h : ∀ d ∈ ds, pl d = true) : pl (.list ds) = true := by rw [pl]; exact plAll_iff h
theorem pl_tuple {ds : List PyData} (h : ∀ d ∈ ds, pl d = true) : pl (.tuple ds) = true := by rw [pl]; exact plAll_iff h
theorem pl_ints {ns : List Int} (h : ∀ n ∈ ns, n.natAbs < 10 ^ 12) : ∀ d ∈ ns.map PyData.int, pl d = true := fun d hd => by
  obtain ⟨n, hn, rfl⟩ := List.mem_map.mp hd
  exact pl_int (h n hn)
/-- depth and bulk, bounded over all items -/
theorem depth_all {ds : List PyData} {k : Nat} (h : ∀ d ∈ ds, d.depth ≤ k) : PyData.depthAll ds ≤ k := by
  induction ds with
  | nil => rw [PyData.depthAll]; omega
  | cons d ds ih =>
    rw [PyData.depthAll]
    have a := h d (List.mem_cons_self ..)
    have b := ih fun x hx => h x (List.mem_cons_of_mem _ hx)
    omega
theorem depth_list {ds : List PyData} {k : Nat} (h : ∀ d ∈ ds, d.depth ≤ k) : (PyData.list ds).depth ≤ k + 1 := by
  rw [PyData.depth]
  have := depth_all h
  omega
theorem depth_tuple {ds : List PyData} {k : Nat} (h : ∀ d ∈ ds, d.depth ≤ k) : (PyData.tuple ds).depth ≤ k + 1 := by
  rw [PyData.depth]
  have := depth_all h
  omega
theorem depth_int (i : Int) : (PyData.int i).depth = 0 := by rw [PyData.depth]
theorem depth_ints (ns : List Int) : ∀ d ∈ ns.map PyData.int, d.depth ≤ 0 := fun d hd => by
  obtain ⟨n, _, rfl⟩ := List.mem_map.mp hd
  rw [depth_int]
  exact Nat.le_refl 0
theorem bulk_all {ds : List PyData} {k : Nat} (h : ∀ d ∈ ds, d.bulk ≤ k) : PyData.bulkAll ds ≤ ds.length * (k + 1) := by
  induction ds with
  | nil => rw [PyData.bulkAll]; omega
  | cons d ds ih =>
    rw [PyData.bulkAll]
    have a := h d (List.mem_cons_self ..)
    have b := ih fun x hx => h x (List.mem_cons_of_mem _ hx)
    rw [List.length_cons, Nat.add_mul]
    omega
theorem bulk_int (i : Int) : (PyData.int i).bulk = 0 := by rw [PyData.bulk] <;> simp
theorem bulk_ints (ns : List Int) : ∀ d ∈ ns.map PyData.int, d.bulk ≤ 0 := fun d hd => by
  obtain ⟨n, _, rfl⟩ := List.mem_map.mp hd
  rw [bulk_int]
  exact Nat.le_refl 0
theorem bulk_list {ds : List PyData} {k : Nat} (h : ∀ d ∈ ds, d.bulk ≤ k) : (PyData.list ds).bulk ≤ ds.length * (k + 1) := by
  rw [PyData.bulk]
  exact bulk_all h
theorem bulk_tuple {ds : List PyData} {k : Nat} (h : ∀ d ∈ ds, d.bulk ≤ k) : (PyData.tuple ds).bulk ≤ ds.length * (k + 1) := by
  rw [PyData.bulk]
  exact bulk_all h
/-- what is plain and of bounded depth and bulk -/
structure Pl (d : PyData) : Prop where
  p : pl d = true
  dep : d.depth ≤ 64
  blk : d.bulk ≤ 1000000
theorem Pl.shaped {d : PyData} (h : Pl d) : SeqAt.shaped d = true := by
  unfold SeqAt.shaped
  rw [(pl_facts d h.p).1, decide_eq_true h.dep]
  rfl
theorem Pl.refl {d : PyData} (h : Pl d) : PyData.eqv d d = true := (pl_facts d h.p).2.2.2
theorem Pl.len {d : PyData} (h : Pl d) : d.shown.length ≤ sizeLine := by
  have q := PyData.shown_le_bulk 13 (by decide) d (pl_facts d h.p).2.1
  have := h.blk
  rw [sizeLine_eq]
  omega
theorem Pl.repr {K : PySem.W.Frag} {d : PyData} (h : Pl d) : Fn K (rRepr K) [d] (.str d.shown) :=
  fn_repr (pl_facts d h.p).2.2.1 (PyData.hasDict_of_canLay d (pl_facts d h.p).1) (by have := h.dep; omega) h.len
theorem Pl.int {i : Int} (h : i.natAbs < 10 ^ 12) : Pl (.int i) := ⟨pl_int h, by rw [depth_int]; omega, by rw [bulk_int]; omega⟩
theorem Pl.ints {ns : List Int} (h : ∀ n ∈ ns, n.natAbs < 10 ^ 12) (hl : ns.length ≤ 100000) : Pl (.list (ns.map .int)) :=
  ⟨pl_list (pl_ints h), by have := depth_list (depth_ints ns); omega, by have := bulk_list (bulk_ints ns); rw [List.length_map] at this; omega⟩
/-! repr(a) != repr(b), a == b -/
section
variable {X : Cx} (K : PySem.W.Frag)
abbrev rNeR (K : PySem.W.Frag) : R2 := orR (rNeD K) rNe
abbrev rEqR (K : PySem.W.Frag) : R2 := orR (rEqD K) rEq
theorem neRK {k : Nat} (hr : Room k X.A) (h : X.K = K := by rfl) : OpR X (compareOp .NotEq) (rNeR K) := opr_or (neK K hr h) op_ne
theorem eqRK {k : Nat} (hr : Room k X.A) (h : X.K = K := by rfl) : OpR X (compareOp .Eq) (rEqR K) := opr_or (eqK K hr h) op_eq
end
theorem ne_self {K : PySem.W.Frag} {d : PyData} (h : Pl d) : Op2 K (rNeD K) d d (.bool false) := opp_neD h.shaped h.shaped (by rw [h.refl]; rfl)
theorem eq_self {K : PySem.W.Frag} {d : PyData} (h : Pl d) : Op2 K (rEqD K) d d (.bool true) := opp_eqD h.shaped h.shaped (by rw [h.refl])
theorem neS_self {K : PySem.W.Frag} {c : Str} : Op2 K (rNeR K) (.str c) (.str c) (.bool false) := opp_2 (opp_neS (by simp))
theorem eqS_self {K : PySem.W.Frag} {c : Str} : Op2 K (rEqR K) (.str c) (.str c) (.bool true) := opp_2 (opp_eqS (by simp))
end G
end
section
set_option maxRecDepth 100000
set_option maxHeartbeats 2000000
/-! a list of ints that is new: it may be changed afterwards; more of what draws -/
namespace G
open PySem PySem.Spec PyProof.Rows L2
theorem daIn {K : PySem.W.Frag} {B : Hp} : ∀ ns : List Int, DaAll K B (ns.map .int) (ns.map .int)
  | [] => .nil
  | n :: ns => .cons (.int n) (daIn ns)
def FreshQ (B H : Hp) (ns : List Int) (Q : VK) : Prop := ∀ (a : Addr) (B' H' : Hp), Gr B H B' H' → B' a = none → H a = none → H' a = some (.lst (ns.map .int)) → Q (.ref a) H'
def EvF (K : PySem.W.Frag) (te : TE) (ρ : Rho) (ns : List Int) : Prop := ∀ σ B H, EnvOk K B σ ρ → Same B H → ∀ Q : VK, FreshQ B H ns Q → te σ H Q
def DoF (K : PySem.W.Frag) (ts : TS) (ρ : Rho) (ns : List Int) : Prop := ∀ σ B H (D : Ends), EnvOk K B σ ρ → Same B H → FreshQ B H ns D.rt → ts D σ H
def spFr (K : PySem.W.Frag) (P : List PyData → PyData → Prop) : Sp := fun vs H Q _ => ∃ B ds ns, Same B H ∧ DaAll K B vs ds ∧ P ds (.list (ns.map .int)) ∧ FreshQ B H ns Q
section
variable {K : PySem.W.Frag} {ρ : Rho} {te ta tb : TE} {t : TS} {tr : TA} {d : PyData} {ns xs ys : List Int} {B H B1 H1 : Hp} {Q : VK}
theorem FreshQ.after (h : FreshQ B H ns Q) (g : Gr B H B1 H1) : FreshQ B1 H1 ns Q := fun a B' H' g' hb ha hl => h a B' H' (g.trans g') hb (g.ex.free ha) hl
theorem evf_cat (ha : Ev K ta ρ (.list (xs.map .int))) (hb : Ev K tb ρ (.list (ys.map .int))) (hl : xs.length + ys.length ≤ sizeLine) : EvF K (tOp (rAddA K) ta tb) ρ (xs ++ ys) := fun σ B H e s Q q =>
  ha σ B H e s _ fun u B1 H1 g1 hu => hb σ B1 H1 (e.mono g1.bb) g1.sub _ fun v B2 H2 g2 hv => by
    have hu2 := hu.mono g2.bb
    cases hu2 with
    | @lst a us _ h1 a1 =>
      cases hv with
      | @lst b vs _ h2 a2 =>
        obtain rfl := daInts a1
        obtain rfl := daInts a2
        refine .inr (.inl ⟨_, _, _, _, rfl, rfl, g2.sub _ _ h1, g2.sub _ _ h2, by rw [List.length_map, List.length_map]; exact hl, fun p hp => ?_⟩)
        have g12 := g1.trans g2
        refine q p B2 _ (g12.trans (Gr.side g2.sub hp _)) (g2.sub.free hp) (g12.ex.free hp) ?_
        rw [upd_same, List.map_append]
theorem evf_call {P : List PyData → PyData → Prop} {E : XK} {ds : List PyData} (h : EvL K tr ρ ds) (hp : P ds (.list (ns.map .int))) : EvF K (tCall (spFr K P) [] E tr) ρ ns := fun σ B H e s Q q =>
  h σ B H e s _ fun vs B1 H1 g1 hv => ⟨B1, ds, ns, g1.sub, by rw [List.append_nil]; exact hv, hp, q.after g1⟩
theorem EvF.ev (h : EvF K te ρ ns) : Ev K te ρ (.list (ns.map .int)) := fun σ B H e s Q q => h σ B H e s Q fun a B' H' g hb ha hl => by
  have g2 : Gr B H (upd B' a (.lst (ns.map .int))) H' := by
    refine ⟨g.ex, g.bb.trans (same_new hb), fun b o z => ?_, fun b o z n => ?_⟩
    · by_cases c : b = a
      · subst c
        rw [upd_same] at z
        rw [hl]
        exact z
      · rw [upd_ne c] at z
        exact g.sub b o z
    · by_cases c : b = a
      · subst c
        exact ha
      · rw [upd_ne c] at z
        exact g.new b o z n
  exact q _ _ _ g2 (.lst upd_same (daIn ns))
theorem evf_callK {P : List PyData → PyData → Prop} {E : XK} {gV : List V → List V → List V} {ds zs : List PyData} (h : EvL K tr ρ zs) (hp : P ds (.list (ns.map .int))) (hg : ∀ B ws, DaAll K B ws zs → DaAll K B (gV [] ws) ds) : EvF K (tCallK (spFr K P) gV E tNil tr) ρ ns := fun σ B H e s Q q =>
  h σ B H e s _ fun vs B1 H1 g1 hv => ⟨B1, ds, ns, g1.sub, hg B1 vs hv, hp, q.after g1⟩
theorem dof_ret (h : EvF K te ρ ns) : DoF K (tRet te) ρ ns := fun σ B H D e s q => h σ B H e s _ q
theorem dof_set {i : Nat} (h : Ev K te ρ d) (k : DoF K t (ρ.set i (some d)) ns) : DoF K (tSeq (tAsg te (gName i)) t) ρ ns := fun σ B H D e s q =>
  h σ B H e s _ fun v B1 H1 g1 hv => k _ B1 H1 D ((e.mono g1.bb).set hv i) g1.sub (q.after g1)
theorem dof_drop (h : Ev K te ρ d) (k : DoF K t ρ ns) : DoF K (tSeq (tDrop te) t) ρ ns := fun σ B H D e s q =>
  h σ B H e s _ fun v B1 H1 g1 hv => k _ B1 H1 D (e.mono g1.bb) g1.sub (q.after g1)
end
theorem FnG.imp {P : Program} {w : World} {K : PySem.W.Frag} {mg : Str → Option Value} {base : Heap} {CX : CXT} {k : Nat} {f : Addr} {fd : FuncData} {ps : List Str} {p q : Sp} (F : FnG P w K mg base CX k f fd ps p) (h : ∀ vs H Q E, q vs H Q E → p vs H Q E) : FnG P w K mg base CX k f fd ps q :=
  ⟨fun vs H Q E x => F.ar vs H Q E (h vs H Q E x), fun A outer s H args us vs Q E hg hr e0 bt rv x => F.go A outer s H args us vs Q E hg hr e0 bt rv (h vs H Q E x)⟩
theorem Cal.imp {P : Program} {w : World} {K : PySem.W.Frag} {mg : Str → Option Value} {base : Heap} {k : Nat} {x : Str} {ps : List Str} {p q : Sp} (c : Cal P w K mg base k x ps p) (h : ∀ vs H Q E, q vs H Q E → p vs H Q E) : Cal P w K mg base k x ps q := by
  obtain ⟨f, fd, hm, hk, hb, F⟩ := c.ex
  exact ⟨f, fd, hm, hk, hb, F.imp h⟩
/-- who hands on a new list hands on a list -/
theorem Cal.weak {P : Program} {w : World} {K : PySem.W.Frag} {mg : Str → Option Value} {base : Heap} {k : Nat} {x : Str} {ps : List Str} {p : List PyData → PyData → Prop} (c : Cal P w K mg base k x ps (spFr K p)) (h : ∀ ds d, p ds d → ∃ ns : List Int, d = .list (ns.map .int)) : Cal P w K mg base k x ps (sp K p) :=
  c.imp fun vs H Q E ⟨B, ds, d, hs, a, hp, q⟩ => by
    obtain ⟨ns, rfl⟩ := h ds d hp
    refine ⟨B, ds, ns, hs, a, hp, fun a B' H' g hb ha hl => ?_⟩
    have g2 : Gr B H (upd B' a (.lst (ns.map .int))) H' := by
      refine ⟨g.ex, g.bb.trans (same_new hb), fun b o z => ?_, fun b o z n => ?_⟩
      · by_cases c : b = a
        · subst c
          rw [upd_same] at z
          rw [hl]
          exact z
        · rw [upd_ne c] at z
          exact g.sub b o z
      · by_cases c : b = a
        · subst c
          exact ha
        · rw [upd_ne c] at z
          exact g.new b o z n
    exact q _ _ _ g2 (.lst upd_same (daIn ns))
theorem has_f {P : Program} {w : World} {K : PySem.W.Frag} {mg : Str → Option Value} {base : Heap} {x : Str} {st : Stmt} {N ps : List Str} {k : Nat} {p : List PyData → PyData → Prop} (h : Has K mg x st ps) (S : FnScope N ps (defScope st))
    (ar : ∀ ds d, p ds d → ds.length = ps.length)
    (hb : ∀ (f : Addr) (cdv : Value) (A : Around) (outer : List Env) (s : Shared) (H : Hp) (E : XK), A.guards = some [] → Room k (A.deeper (envOfC x (defScope st) s.heap.objs.size f cdv)) →
      ∃ t, PSs (bodyCx CX0 P w K mg base N x st f cdv A outer s H E).nox (defBody st) t ∧ ∀ ds (ns : List Int), p ds (.list (ns.map .int)) → DoF K t (startR N ds) ns) : Cal P w K mg base (k + 1) x ps (spFr K p) := by
  obtain ⟨f, fd, F, hm, bd⟩ := h
  refine ⟨f, fd, hm, kq_of F, bd, fn_g0 F S (fun vs H Q E h => ?_) fun cdv A outer s H vs Q E hg hr h => ?_⟩
  · obtain ⟨B, ds, ns, _, a, hp, _⟩ := h
    rw [a.len]
    exact ar ds _ hp
  · obtain ⟨B, ds, ns, hs, a, hp, q⟩ := h
    obtain ⟨t, ht, hd⟩ := hb f cdv A outer s H E hg hr
    exact ⟨t, ht, hd ds ns hp _ B H _ (env_start a) hs q⟩
/-! more of what draws -/
theorem EnvOk.forget {K : PySem.W.Frag} {B : Hp} {σ : L2.St} {ρ : Rho} (h : EnvOk K B σ ρ) (v : Option V) (i : Nat) : EnvOk K B (σ.set i v) (ρ.set i none) :=
  ⟨by rw [List.length_set, List.length_set]; exact h.len, fun j e q => by
    by_cases c : i = j
    · subst c
      have l : i < ρ.length := by
        have z := (List.getElem?_eq_some_iff.mp q).1
        rw [List.length_set] at z
        exact z
      rw [List.getElem?_set_self l] at q
      cases q
    · rw [List.getElem?_set_ne c] at q
      obtain ⟨w, h1, h2⟩ := h.look j e q
      exact ⟨w, by rw [List.getElem?_set_ne c]; exact h1, h2⟩⟩
def Egb (K : PySem.W.Frag) (i : Nat) (tt : TT) (ρ : Rho) (c : Nat) (P : Bool → Nat → Prop) : Prop := ∀ g σ B H, EnvG K B σ ρ g i → Same B H → GenAt H g c → ∀ Q : Bool → Hp → Prop,
  (∀ b B' H' c', Gg g B H B' H' → GenAt H' g c' → P b c' → Q b H') → tt σ H Q
section
variable {K : PySem.W.Frag} {i : Nat} {ρ : Rho} {c : Nat} {te ta tb : TE} {tr : TA} {tt : TT} {t u : TS} {d : PyData} {P : PyData → Nat → Prop} {N : Rho → Nat → Prop} {R : PyData → Nat → Prop}
theorem el_pure {ds : List PyData} {P : List PyData → Nat → Prop} (h : EvL K tr ρ ds) (p : P ds c) : El K i tr ρ c P := fun g σ B H e s n Q q =>
  h σ B H e.env s Q fun vs B' H' k hv => q vs B' H' ds c (.of k e.gone n.ne) (n.same k.ex) hv p
theorem eg_callE {F : List PyData → Nat → (PyData → Nat → Prop) → Prop} {E : XK} {P1 : List PyData → Nat → Prop} {R : PyData → Nat → Prop} (h : El K i tr ρ c P1) (hf : ∀ ds c1, P1 ds c1 → F ds c1 R) (hp : ∀ d c', R d c' → P d c') : Eg K i (tCall (spG K F) [] E (tCons (tVar i) tr)) ρ c P := fun g σ B H e s n Q q =>
  ⟨.ref g, e.here, h g σ B H e s n _ fun vs B1 H1 ds c1 g1 n1 hv p1 =>
    ⟨g, vs, B1, ds, c1, R, by rw [List.append_nil], g1.sub, g1.off, n1, hv, hf ds c1 p1, fun v B2 H2 d c2 g2 n2 h2 r => q v B2 H2 d c2 (g1.trans g2) n2 h2 (hp d c2 r)⟩⟩
theorem egb_B {P : Bool → Nat → Prop} (h : Eg K i te ρ c fun d c' => ∃ b, d = .bool b ∧ P b c') : Egb K i (tB te) ρ c P := fun g σ B H e s n Q q =>
  h g σ B H e s n _ fun v B' H' d c' gg n' hv ⟨b, hd, p⟩ => by
    subst hd
    cases hv
    exact ⟨b, rfl, q b B' H' c' gg n' p⟩
theorem egb_not {P : Bool → Nat → Prop} (h : Egb K i tt ρ c fun b c' => P (!b) c') : Egb K i (tNot tt) ρ c P := fun g σ B H e s n Q q =>
  h g σ B H e s n _ fun b B' H' c' gg n' p => q (!b) B' H' c' gg n' p
/-- for x in xs, xs drawn -/
theorem dg_forL {j : Nat} {tl : TE} (h : Eg K i tl ρ c P) (hj : j ≠ i) (I : List PyData → Nat → Rho → Nat → Prop) (h0 : ∀ d c', P d c' → ∃ es, d = .list es ∧ I es 0 ρ c' ∧
    (∀ k e ρ' c', es[k]? = some e → I es k ρ' c' → Dg K i t (ρ'.set j (some e)) c' (I es (k + 1)) R) ∧ ∀ ρ' c', I es es.length ρ' c' → N ρ' c') : Dg K i (tFor (iList K tl) (gName j) t) ρ c N R := fun g σ B H D e s n nx r =>
  h g σ B H e s n _ fun v B1 H1 d c1 g1 n1 hv p1 => by
    obtain ⟨es, rfl, i0, hs, hd⟩ := h0 d c1 p1
    cases hv with
    | @lst a xs _ h1 ha =>
      refine ⟨_, rfl, ⟨_, .of (g1.sub _ _ h1)⟩, ?_⟩
      have w : Goes K (Itl K a) B1 es := goes_at walk_list (fun H' s' => .of (s' _ _ h1)) ha
      refine for_it w (fun k σ' H' => ∃ B' ρ' c', Gg g B1 H1 B' H' ∧ EnvG K B' σ' ρ' g i ∧ GenAt H' g c' ∧ I es k ρ' c') ⟨B1, ρ, c1, .refl g1.sub g1.off, e.to g1, n1, i0⟩ (fun k σ' H' _ ⟨B', _, _, g2, _⟩ => g2.bb.trans g2.sub) ?_ ?_
      · rintro k x σ' H' H2 hi ⟨B', ρ', c', g2, e2, n2, p⟩ y
        obtain ⟨B2, el, g3, hel, hx⟩ := y B' g2.bb g2.sub
        have G3 : Gg g B' H' B2 H2 := .of g3 e2.gone n2.ne
        have g23 := g2.trans G3
        exact hs k el ρ' c' hel p g _ B2 H2 _ ((e2.to G3).set hx hj) G3.sub (n2.same g3.ex) (fun σ4 B4 H4 ρ4 c4 g4 e4 n4 p4 => ⟨B4, ρ4, c4, g23.trans g4, e4, n4, p4⟩) fun v B4 H4 d c4 g4 n4 hv hr => r v B4 H4 d c4 (g1.trans (g23.trans g4)) n4 hv hr
      · rintro σ' H' ⟨B', ρ', c', g2, e2, n2, p⟩
        exact nx σ' B' H' ρ' c' (g1.trans g2) e2 n2 (hd ρ' c' p)
/-- x = f(..); if ..: return ..; x.append(None) -/
theorem dg_told {j : Nat} {ns : List Int} (h : EvF K te ρ ns) (hj : j ≠ i) (hj2 : j < ρ.length) (hb : EvB K tt (ρ.set j (some (.list (ns.map .int)))) false) (hl : ns.length ≤ 1000000) (k : Dg K i u (ρ.set j none) c N R) :
    Dg K i (tSeq (tAsg te (gName j)) (tSeq (tIfS tt t tNext) (tSeq (tDrop (tBM K "list" rAppend (tVar j) (tCons (tC .non) tNil))) u))) ρ c N R := fun g σ B H D e s n nx r =>
  h σ B H e.env s _ fun a B1 H1 g1 b1 h1 l1 => by
    have ga : a ≠ g := fun x => n.ne (x ▸ h1)
    have G1 : Gg g B H B1 H1 := .of g1 e.gone n.ne
    have s2 : Same (upd B1 a (.lst (ns.map .int))) H1 := fun b o z => by
      by_cases c : b = a
      · subst c
        rw [upd_same] at z
        rw [l1]
        exact z
      · rw [upd_ne c] at z
        exact g1.sub b o z
    have e2 : EnvOk K (upd B1 a (.lst (ns.map .int))) (σ.set j (some (.ref a))) (ρ.set j (some (.list (ns.map .int)))) := ((e.env.mono g1.bb).mono (same_new b1)).set (.lst upd_same (daIn ns)) j
    refine hb _ _ H1 e2 s2 _ fun B3 H3 g3 => iteF ?_
    have l3 : H3 a = some (.lst (ns.map .int)) := g3.ex _ _ l1
    have hj3 : j < σ.length := by rw [e.env.len]; exact hj2
    refine ⟨_, List.getElem?_set_self hj3, .inl ⟨rfl, _, .of l3⟩, a, ns.map .int, .non, rfl, rfl, l3, by rw [List.length_map, sizeLine_eq]; omega, ?_⟩
    have s4 : Same B1 (upd H3 a (.lst (ns.map .int ++ [.non]))) := fun b o z => by
      rw [upd_ne (ne_of_none z b1)]
      exact g3.ex b o (g1.sub b o z)
    have G4 : Gg g B H B1 (upd H3 a (.lst (ns.map .int ++ [.non]))) := ⟨fun b o nb z => by
      rw [upd_ne (ne_of_none z h1)]
      exact g3.ex b o (g1.ex b o z), g1.bb, s4, g1.new, G1.off⟩
    have n4 : GenAt (upd H3 a (.lst (ns.map .int ++ [.non]))) g c := by
      obtain ⟨x, y, z, q1, q2⟩ := (n.same g1.ex).same g3.ex
      exact ⟨x, y, z, by rw [upd_ne (Ne.symm ga)]; exact q1, q2⟩
    have eG : EnvG K B1 (σ.set j (some (.ref a))) (ρ.set j none) g i := ⟨(e.env.mono g1.bb).forget _ j, by rw [List.getElem?_set_ne hj]; exact e.here, G1.off⟩
    exact k g _ B1 _ D eG s4 n4 (fun σ2 B2 H2 ρ2 c2 g2 => nx σ2 B2 H2 ρ2 c2 (G4.trans g2)) fun v B2 H2 d c2 g2 => r v B2 H2 d c2 (G4.trans g2)
end
end G
end
section
/-! sums and differences of members, figure by figure, the lowest order first -/
namespace Lin
def linR : List Int → List Int → List Int → Int
  | [], _, _ => 0
  | o :: r, ps, ns => (ps.sum - ns.sum) % o + o * linR r (ps.map (· / o)) (ns.map (· / o))
def prodR : List Int → Int
  | [] => 1
  | o :: r => o * prodR r
def Pos (r : List Int) : Prop := ∀ o ∈ r, 2 ≤ o
theorem Pos.tail {o : Int} {r : List Int} (h : Pos (o :: r)) : Pos r := fun x hx => h x (List.mem_cons_of_mem _ hx)
theorem Pos.head {o : Int} {r : List Int} (h : Pos (o :: r)) : 2 ≤ o := h o (List.mem_cons_self ..)
theorem prodR_pos : ∀ {r : List Int}, Pos r → 1 ≤ prodR r
  | [], _ => Int.le_refl 1
  | o :: r, h => by
    have a := prodR_pos h.tail
    have b := h.head
    have := Int.mul_le_mul (a := 1) (b := 1) (c := o) (d := prodR r) (by omega) a (by omega) (by omega)
    show 1 ≤ o * prodR r
    omega
theorem lin_rng : ∀ {r : List Int}, Pos r → ∀ ps ns, 0 ≤ linR r ps ns ∧ linR r ps ns < prodR r
  | [], _, ps, ns => by simp [linR, prodR]
  | o :: r, h, ps, ns => by
    have ih := lin_rng h.tail (ps.map (· / o)) (ns.map (· / o))
    have b := h.head
    have m0 := Int.emod_nonneg (ps.sum - ns.sum) (show o ≠ 0 by omega)
    have m1 := Int.emod_lt_of_pos (ps.sum - ns.sum) (show 0 < o by omega)
    show 0 ≤ _ + o * linR r _ _ ∧ _ + o * linR r _ _ < o * prodR r
    generalize linR r (ps.map (· / o)) (ns.map (· / o)) = x at *
    generalize prodR r = p at *
    generalize (ps.sum - ns.sum) % o = m at *
    have h1 : 0 ≤ o * x := Int.mul_nonneg (by omega) ih.1
    have h2 : o * (x + 1) ≤ o * p := Int.mul_le_mul_of_nonneg_left (by omega) (by omega)
    rw [Int.mul_add, Int.mul_one] at h2
    omega
theorem low_of {o m x : Int} (h : 0 < o) (h0 : 0 ≤ m) (h1 : m < o) : (m + o * x) % o = m ∧ (m + o * x) / o = x := by
  constructor
  · rw [Int.add_mul_emod_self_left]
    exact Int.emod_eq_of_lt h0 h1
  · rw [Int.add_mul_ediv_left _ _ (by omega), Int.ediv_eq_zero_of_lt h0 h1, Int.zero_add]
theorem lin_low {o : Int} {r : List Int} (h : 2 ≤ o) (ps ns : List Int) : linR (o :: r) ps ns % o = (ps.sum - ns.sum) % o ∧ linR (o :: r) ps ns / o = linR r (ps.map (· / o)) (ns.map (· / o)) :=
  low_of (by omega) (Int.emod_nonneg _ (by omega)) (Int.emod_lt_of_pos _ (by omega))
/-- what is added by way of a sum that was reckoned before -/
theorem lin_in : ∀ {r : List Int}, Pos r → ∀ ps ns us vs, linR r (linR r us vs :: ps) ns = linR r (us ++ ps) (vs ++ ns)
  | [], _, _, _, _, _ => rfl
  | o :: r, h, ps, ns, us, vs => by
    have l := lin_low (r := r) h.head us vs
    have ih := lin_in h.tail (ps.map (· / o)) (ns.map (· / o)) (us.map (· / o)) (vs.map (· / o))
    have e1 : linR (o :: r) (linR (o :: r) us vs :: ps) ns = ((linR (o :: r) us vs :: ps).sum - ns.sum) % o + o * linR r ((linR (o :: r) us vs :: ps).map (· / o)) (ns.map (· / o)) := rfl
    have e2 : linR (o :: r) (us ++ ps) (vs ++ ns) = ((us ++ ps).sum - (vs ++ ns).sum) % o + o * linR r ((us ++ ps).map (· / o)) ((vs ++ ns).map (· / o)) := rfl
    rw [e1, e2, List.map_cons, l.2, ih, List.map_append, List.map_append, List.sum_cons, List.sum_append, List.sum_append]
    have e3 : (linR (o :: r) us vs + ps.sum - ns.sum) % o = (us.sum + ps.sum - (vs.sum + ns.sum)) % o := by
      have a1 : linR (o :: r) us vs + ps.sum - ns.sum = linR (o :: r) us vs + (ps.sum - ns.sum) := by omega
      have a2 : us.sum + ps.sum - (vs.sum + ns.sum) = (us.sum - vs.sum) + (ps.sum - ns.sum) := by omega
      rw [a1, a2, Int.add_emod, l.1, ← Int.add_emod]
    rw [e3]
theorem lin_out : ∀ {r : List Int}, Pos r → ∀ ps ns us vs, linR r ps (linR r us vs :: ns) = linR r (vs ++ ps) (us ++ ns)
  | [], _, _, _, _, _ => rfl
  | o :: r, h, ps, ns, us, vs => by
    have l := lin_low (r := r) h.head us vs
    have ih := lin_out h.tail (ps.map (· / o)) (ns.map (· / o)) (us.map (· / o)) (vs.map (· / o))
    have e1 : linR (o :: r) ps (linR (o :: r) us vs :: ns) = (ps.sum - (linR (o :: r) us vs :: ns).sum) % o + o * linR r (ps.map (· / o)) ((linR (o :: r) us vs :: ns).map (· / o)) := rfl
    have e2 : linR (o :: r) (vs ++ ps) (us ++ ns) = ((vs ++ ps).sum - (us ++ ns).sum) % o + o * linR r ((vs ++ ps).map (· / o)) ((us ++ ns).map (· / o)) := rfl
    rw [e1, e2, List.map_cons, l.2, ih, List.map_append, List.map_append, List.sum_cons, List.sum_append, List.sum_append]
    have e3 : (ps.sum - (linR (o :: r) us vs + ns.sum)) % o = (vs.sum + ps.sum - (us.sum + ns.sum)) % o := by
      have a1 : ps.sum - (linR (o :: r) us vs + ns.sum) = (ps.sum - ns.sum) - linR (o :: r) us vs := by omega
      have a2 : vs.sum + ps.sum - (us.sum + ns.sum) = (ps.sum - ns.sum) - (us.sum - vs.sum) := by omega
      rw [a1, a2, Int.sub_emod, l.1, ← Int.sub_emod]
    rw [e3]
theorem lin_cancel : ∀ {r : List Int} (x : Int) (ps ns : List Int), linR r (x :: ps) (x :: ns) = linR r ps ns
  | [], _, _, _ => rfl
  | o :: r, x, ps, ns => by
    show ((x :: ps).sum - (x :: ns).sum) % o + o * linR r ((x / o) :: ps.map (· / o)) ((x / o) :: ns.map (· / o)) = _
    rw [lin_cancel (x / o), List.sum_cons, List.sum_cons, show x + ps.sum - (x + ns.sum) = ps.sum - ns.sum by omega]
    rfl
theorem sum_perm {ps qs : List Int} (h : ps.Perm qs) : ps.sum = qs.sum := by
  induction h with
  | nil => rfl
  | cons x _ ih => rw [List.sum_cons, List.sum_cons, ih]
  | swap x y l => simp only [List.sum_cons]; omega
  | trans _ _ a b => rw [a, b]
theorem lin_perm : ∀ {r : List Int} {ps qs ns ms : List Int}, ps.Perm qs → ns.Perm ms → linR r ps ns = linR r qs ms
  | [], _, _, _, _, _, _ => rfl
  | o :: r, ps, qs, ns, ms, h, k => by
    show (ps.sum - ns.sum) % o + o * linR r (ps.map (· / o)) (ns.map (· / o)) = (qs.sum - ms.sum) % o + o * linR r (qs.map (· / o)) (ms.map (· / o))
    rw [sum_perm h, sum_perm k, lin_perm (h.map (· / o)) (k.map (· / o))]
theorem lin_nil : ∀ (r : List Int), linR r [] [] = 0
  | [] => rfl
  | o :: r => by
    show ((0 : Int) - 0) % o + o * linR r [] [] = 0
    rw [lin_nil r]
    simp
theorem lin_one : ∀ {r : List Int}, Pos r → ∀ {x : Int}, 0 ≤ x → x < prodR r → linR r [x] [] = x
  | [], _, x, h0, h1 => by
    have : prodR [] = 1 := rfl
    show (0 : Int) = x
    omega
  | o :: r, h, x, h0, h1 => by
    have b := h.head
    have q : x < o * prodR r := h1
    have ih := lin_one h.tail (x := x / o) (Int.ediv_nonneg h0 (by omega)) (Int.ediv_lt_of_lt_mul (by omega) (by rw [Int.mul_comm]; exact q))
    show ([x].sum - ([] : List Int).sum) % o + o * linR r [x / o] [] = x
    rw [ih]
    have : [x].sum - ([] : List Int).sum = x := by simp
    rw [this]
    exact Int.emod_add_mul_ediv x o
theorem lin_all : ∀ {r : List Int} (xs : List Int), linR r xs xs = 0
  | r, [] => lin_nil r
  | r, x :: xs => by rw [lin_cancel, lin_all xs]
/-- a member that is to be added so that nought comes -/
theorem lin_zero {r : List Int} (h : Pos r) {x t : Int} (h0 : 0 ≤ x) (h1 : x < prodR r) (rest : List Int) : linR r (x :: rest) [t] = 0 ↔ x = linR r [t] rest := by
  constructor
  · intro e
    have a : linR r (linR r (x :: rest) [t] :: [t]) rest = linR r ((x :: rest) ++ [t]) ([t] ++ rest) := lin_in h [t] rest (x :: rest) [t]
    rw [e] at a
    have b : linR r ((0 : Int) :: [t]) rest = linR r [t] rest := by
      have z := lin_in h [t] rest [] []
      rw [lin_nil] at z
      exact z
    rw [b] at a
    have c : linR r ((x :: rest) ++ [t]) ([t] ++ rest) = linR r [x] [] := by
      have p1 : ((x :: rest) ++ [t]).Perm ((t :: rest) ++ [x]) := by
        have q1 : ((x :: rest) ++ [t]).Perm (t :: (x :: rest)) := List.perm_append_comm
        exact q1.trans ((List.Perm.swap x t rest).trans ((List.perm_append_comm (l₁ := t :: rest) (l₂ := [x])).symm))
      rw [lin_perm p1 (List.Perm.refl _)]
      have go : ∀ zs : List Int, linR r (zs ++ [x]) zs = linR r [x] [] := fun zs => by
        induction zs with
        | nil => rfl
        | cons z zs ih => rw [List.cons_append, lin_cancel, ih]
      exact go (t :: rest)
    rw [c, lin_one h h0 h1] at a
    exact a.symm
  · intro e
    rw [e, lin_in h rest [t] [t] rest]
    have p : ([t] ++ rest).Perm (rest ++ [t]) := List.perm_append_comm
    rw [lin_perm p (List.Perm.refl _)]
    exact lin_all _
end Lin
end
section
set_option maxRecDepth 100000
set_option maxHeartbeats 2000000
/-! new lists of new lists; a new tuple that holds one; lent as data, then marked -/
namespace G
open PySem PySem.Spec PyProof.Rows L2
theorem Gr.keepNone {B H B' H' : Hp} (g : Gr B H B' H') {a : Addr} (hb : B a = none) (hh : H a ≠ none) : B' a = none := by
  cases z : B' a with
  | none => rfl
  | some o => exact absurd (g.new a o z hb) hh
structure Nest (B H0 H : Hp) (l : Addr) (as : List Addr) (tss : List (List Int)) : Prop where
  newH : ∀ x ∈ l :: as, H0 x = none
  newB : ∀ x ∈ l :: as, B x = none
  nd : (l :: as).Nodup
  at_l : H l = some (.lst (as.map V.ref))
  len : as.length = tss.length
  at_i : ∀ (i : Nat) (a : Addr) (t : List Int), as[i]? = some a → tss[i]? = some t → H a = some (.lst (t.map .int))
theorem Nest.full {B H0 H : Hp} {l : Addr} {as : List Addr} {tss : List (List Int)} (n : Nest B H0 H l as tss) : ∀ x ∈ l :: as, H x ≠ none := fun x hx => by
  rcases List.mem_cons.mp hx with rfl | hx
  · rw [n.at_l]; simp
  · obtain ⟨i, hi⟩ := List.mem_iff_getElem?.mp hx
    have hl := (List.getElem?_eq_some_iff.mp hi).1
    rw [n.at_i i x _ hi (List.getElem?_eq_getElem (by rw [← n.len]; exact hl))]
    simp
theorem Nest.mono {B H0 H B' H' : Hp} {l : Addr} {as : List Addr} {tss : List (List Int)} (n : Nest B H0 H l as tss) (g : Gr B H B' H') : Nest B' H0 H' l as tss :=
  ⟨n.newH, fun x hx => g.keepNone (n.newB x hx) (n.full x hx), n.nd, g.ex _ _ n.at_l, n.len, fun i a t h1 h2 => g.ex _ _ (n.at_i i a t h1 h2)⟩
theorem Nest.from {B H0 H1 H : Hp} {l : Addr} {as : List Addr} {tss : List (List Int)} (n : Nest B H1 H l as tss) (s : Same H0 H1) : Nest B H0 H l as tss :=
  ⟨fun x hx => s.free (n.newH x hx), n.newB, n.nd, n.at_l, n.len, n.at_i⟩
def NestQ (tss : List (List Int)) (B H : Hp) (Q : VK) : Prop := ∀ (l : Addr) (as : List Addr) (B' H' : Hp), Gr B H B' H' → Nest B' H H' l as tss → Q (.ref l) H'
structure Loan (K : PySem.W.Frag) (B H0 H : Hp) (p : Addr) (ov : V) (l : Addr) (as : List Addr) (os : List Int) (tss : List (List Int)) (tot : Int) : Prop where
  nest : Nest B H0 H l as tss
  pH : H0 p = none
  pB : B p = none
  pt : H p = some (.tup [ov, .ref l, .int tot])
  po : Da K B ov (.tuple (os.map .int))
theorem Loan.mono {K : PySem.W.Frag} {B H0 H B' H' : Hp} {p : Addr} {ov : V} {l : Addr} {as : List Addr} {os : List Int} {tss : List (List Int)} {tot : Int} (n : Loan K B H0 H p ov l as os tss tot) (g : Gr B H B' H') : Loan K B' H0 H' p ov l as os tss tot :=
  ⟨n.nest.mono g, n.pH, g.keepNone n.pB (by rw [n.pt]; simp), g.ex _ _ n.pt, n.po.mono g.bb⟩
def SysQ (K : PySem.W.Frag) (os : List Int) (tss : List (List Int)) (tot : Int) (B H : Hp) (Q : VK) : Prop := ∀ (p : Addr) (ov : V) (l : Addr) (as : List Addr) (B' H' : Hp), Gr B H B' H' → Loan K B' H H' p ov l as os tss tot → Q (.ref p) H'
/-! a family of what is wanted of a value -/
abbrev QF := Hp → Hp → VK → Prop
def Aft (q : QF) : Prop := ∀ (B H B1 H1 : Hp) (Q : VK), q B H Q → Gr B H B1 H1 → q B1 H1 Q
theorem aft_nest {tss : List (List Int)} : Aft (NestQ tss) := fun B H B1 H1 Q h g l as B' H' g' n => h l as B' H' (g.trans g') (n.from g.ex)
theorem aft_sys {K : PySem.W.Frag} {os : List Int} {tss : List (List Int)} {tot : Int} : Aft (SysQ K os tss tot) := fun B H B1 H1 Q h g p ov l as B' H' g' n => h p ov l as B' H' (g.trans g') ⟨n.nest.from g.ex, g.ex.free n.pH, n.pB, n.pt, n.po⟩
def EvQ (K : PySem.W.Frag) (q : QF) (te : TE) (ρ : Rho) : Prop := ∀ σ B H, EnvOk K B σ ρ → Same B H → ∀ Q : VK, q B H Q → te σ H Q
def DoQ (K : PySem.W.Frag) (q : QF) (ts : TS) (ρ : Rho) : Prop := ∀ σ B H (D : Ends), EnvOk K B σ ρ → Same B H → q B H D.rt → ts D σ H
/-- what a def promises that hands on what the family says -/
def spQ (K : PySem.W.Frag) {α : Type} (q : α → QF) (P : List PyData → α → Prop) : Sp := fun vs H Q _ => ∃ B ds a, Same B H ∧ DaAll K B vs ds ∧ P ds a ∧ q a B H Q
section
variable {K : PySem.W.Frag} {ρ : Rho} {te ta tb tn : TE} {t u : TS} {tr : TA} {tt : TT} {d : PyData} {q : QF} {α : Type} {qa : α → QF}
theorem doq_ret (h : EvQ K q te ρ) : DoQ K q (tRet te) ρ := fun σ B H D e s k => h σ B H e s _ k
theorem doq_set (a : Aft q) {i : Nat} (h : Ev K te ρ d) (k : DoQ K q t (ρ.set i (some d))) : DoQ K q (tSeq (tAsg te (gName i)) t) ρ := fun σ B H D e s x =>
  h σ B H e s _ fun v B1 H1 g1 hv => k _ B1 H1 D ((e.mono g1.bb).set hv i) g1.sub (a _ _ _ _ _ x g1)
theorem doq_asg (a : Aft q) {g : TG} {ρ1 : Rho} (h : Ev K te ρ d) (hg : Tg K g d ρ ρ1) (k : DoQ K q t ρ1) : DoQ K q (tSeq (tAsg te g) t) ρ := fun σ B H D e s x =>
  h σ B H e s _ fun v B1 H1 g1 hv => hg σ B1 H1 v (e.mono g1.bb) g1.sub hv _ fun σ' e' => k σ' B1 H1 D e' g1.sub (a _ _ _ _ _ x g1)
theorem doq_drop (a : Aft q) (h : Ev K te ρ d) (k : DoQ K q t ρ) : DoQ K q (tSeq (tDrop te) t) ρ := fun σ B H D e s x =>
  h σ B H e s _ fun v B1 H1 g1 hv => k σ B1 H1 D (e.mono g1.bb) g1.sub (a _ _ _ _ _ x g1)
theorem doq_skip (a : Aft q) (h : EvB K tt ρ false) (k : DoQ K q t ρ) : DoQ K q (tSeq (tIfS tt u tNext) t) ρ := fun σ B H D e s x =>
  h σ B H e s _ fun B1 H1 g1 => iteF (k σ B1 H1 D (e.mono g1.bb) g1.sub (a _ _ _ _ _ x g1))
theorem evq_call (a : ∀ x, Aft (qa x)) {P : List PyData → α → Prop} {E : XK} {ds : List PyData} {x : α} (h : EvL K tr ρ ds) (hp : P ds x) : EvQ K (qa x) (tCall (spQ K qa P) [] E tr) ρ := fun σ B H e s Q k =>
  h σ B H e s _ fun vs B1 H1 g1 hv => ⟨B1, ds, x, g1.sub, by rw [List.append_nil]; exact hv, hp, a x _ _ _ _ _ k g1⟩
theorem evq_callK (a : ∀ x, Aft (qa x)) {P : List PyData → α → Prop} {E : XK} {gV : List V → List V → List V} {ds zs : List PyData} {x : α} (h : EvL K tr ρ zs) (hp : P ds x) (hg : ∀ B ws, DaAll K B ws zs → DaAll K B (gV [] ws) ds) : EvQ K (qa x) (tCallK (spQ K qa P) gV E tNil tr) ρ := fun σ B H e s Q k =>
  h σ B H e s _ fun vs B1 H1 g1 hv => ⟨B1, ds, x, g1.sub, hg B1 vs hv, hp, a x _ _ _ _ _ k g1⟩
theorem has_q {P : Program} {w : World} {mg : Str → Option Value} {base : Heap} {x : Str} {st : Stmt} {N ps : List Str} {k : Nat} {p : List PyData → α → Prop} (h : Has K mg x st ps) (S : FnScope N ps (defScope st))
    (ar : ∀ ds d, p ds d → ds.length = ps.length)
    (hb : ∀ (f : Addr) (cdv : Value) (A : Around) (outer : List Env) (s : Shared) (H : Hp) (E : XK), A.guards = some [] → Room k (A.deeper (envOfC x (defScope st) s.heap.objs.size f cdv)) →
      ∃ t, PSs (bodyCx CX0 P w K mg base N x st f cdv A outer s H E).nox (defBody st) t ∧ ∀ ds y, p ds y → DoQ K (qa y) t (startR N ds)) : Cal P w K mg base (k + 1) x ps (spQ K qa p) := by
  obtain ⟨f, fd, F, hm, bd⟩ := h
  refine ⟨f, fd, hm, kq_of F, bd, fn_g0 F S (fun vs H Q E h => ?_) fun cdv A outer s H vs Q E hg hr h => ?_⟩
  · obtain ⟨B, ds, y, _, a, hp, _⟩ := h
    rw [a.len]
    exact ar ds _ hp
  · obtain ⟨B, ds, y, hs, a, hp, z⟩ := h
    obtain ⟨t, ht, hd⟩ := hb f cdv A outer s H E hg hr
    exact ⟨t, ht, hd ds y hp _ B H _ (env_start a) hs z⟩
/-- [f(x) for x in xs], each time a new list of ints -/
theorem evn_lc {wi : TI} {g : TG} {vs : List Nat} {es : List PyData} (h : Iter K wi ρ es) (hz : es.length ≤ 1000000) (f : PyData → List Int)
    (hs : ∀ e, e ∈ es → ∃ ρ1, TgW K g vs e ρ ρ1 ∧ EvF K te ρ1 (f e)) : EvQ K (NestQ (es.map f)) (tLc wi g tYes te vs) ρ := fun σ B H e s Q q =>
  h σ B H e s _ fun J B1 H1 g1 w => fun Dl hD => by
    refine lc_it w (fun i H' => ∃ (B' : Hp) (as : List Addr), Gr B1 H1 B' H' ∧ B' Dl = none ∧ H' Dl = some (.lst (as.map V.ref)) ∧ (∀ a ∈ as, H1 a = none ∧ B' a = none ∧ a ≠ Dl) ∧ as.Nodup ∧ as.length = i ∧
      (∀ (k : Nat) (a : Addr) (el : PyData), as[k]? = some a → es[k]? = some el → H' a = some (.lst ((f el).map .int)))) ?_ (fun i H' _ ⟨B', _, g2, _⟩ => g2.bb.trans g2.sub) ?_ ?_
    · exact ⟨B1, [], .side g1.sub hD _, g1.sub.free hD, upd_same, fun a ha => by simp at ha, List.nodup_nil, rfl, fun k a el h => by simp at h⟩
    · rintro i x H' H2 hi ⟨B', as, g2, hB, hH, hf, hnd, hl, hc⟩ y
      obtain ⟨B2, el, g3, hel, hx⟩ := y B' g2.bb g2.sub
      obtain ⟨ρ1, ht, hv⟩ := hs el (List.mem_of_getElem? hel)
      have g23 := g2.trans g3
      have inH : ∀ a ∈ as, H' a ≠ none := fun a ha => by
        obtain ⟨k, hk⟩ := List.mem_iff_getElem?.mp ha
        have lk := (List.getElem?_eq_some_iff.mp hk).1
        rw [hc k a _ hk (List.getElem?_eq_getElem (by have : i < es.length := hi; omega))]
        simp
      refine ht σ B2 H2 x (e.mono (g1.bb.trans g23.bb)) g3.sub hx _ fun σ2 e3 hw => ⟨hw, ?_⟩
      dsimp only [tYes]
      rw [if_pos rfl]
      refine hv σ2 B2 H2 e3 g3.sub _ fun a B3 H3 g4 hBa hHa hla => ?_
      have g34 := g3.trans g4
      have h3 : H3 Dl = some (.lst (as.map V.ref)) := g34.ex _ _ hH
      have aD : a ≠ Dl := fun z => by rw [z, g3.ex _ _ hH] at hHa; cases hHa
      have aN : a ∉ as := fun z => by
        have q1 := inH a z
        cases z2 : H' a with
        | none => exact q1 z2
        | some o => rw [g3.ex _ _ z2] at hHa; cases hHa
      have hB3 : B3 Dl = none := g34.keepNone hB (by rw [hH]; simp)
      have gg := g23.trans g4
      have hi2 : i < es.length := hi
      refine ⟨as.map V.ref, h3, by rw [List.length_map, sizeLine_eq]; omega, B3, as ++ [a], ⟨fun b o z => ?_, gg.bb, fun b o z => ?_, gg.new⟩, hB3, ?_, ?_, ?_, by rw [List.length_append, hl]; rfl, ?_⟩
      · rw [upd_ne (ne_of_none z hD)]
        exact gg.ex b o z
      · rw [upd_ne (ne_of_none z hB3)]
        exact gg.sub b o z
      · rw [upd_same, List.map_append]
        rfl
      · intro b hb
        rcases List.mem_append.mp hb with hb | hb
        · obtain ⟨q1, q2, q3⟩ := hf b hb
          exact ⟨q1, g34.keepNone q2 (inH b hb), q3⟩
        · have : b = a := by simpa using hb
          subst this
          exact ⟨(g23.ex.free hHa), hBa, aD⟩
      · rw [List.nodup_append]
        exact ⟨hnd, by simp, fun x hx y hy => by
          have : y = a := by simpa using hy
          rw [this]
          exact fun z => aN (z ▸ hx)⟩
      · intro k b el2 h1 h2
        by_cases hk : k < as.length
        · rw [List.getElem?_append_left hk] at h1
          have bD := (hf b (List.mem_of_getElem? h1)).2.2
          rw [upd_ne bD]
          exact g34.ex _ _ (hc k b el2 h1 h2)
        · have hk2 : k = as.length := by
            have := (List.getElem?_eq_some_iff.mp h1).1
            rw [List.length_append] at this
            have e1 : [a].length = 1 := rfl
            omega
          subst hk2
          rw [List.getElem?_append_right (Nat.le_refl _), Nat.sub_self] at h1
          have : a = b := by simpa using h1
          subst this
          rw [hl, hel] at h2
          cases h2
          rw [upd_ne aD]
          exact hla
    · rintro H' ⟨B', as, g2, hB, hH, hf, hnd, hl, hc⟩
      refine q Dl as B' H' (g1.trans g2) ⟨fun x hx => ?_, fun x hx => ?_, List.nodup_cons.mpr ⟨fun z => (hf Dl z).2.2 rfl, hnd⟩, hH, by rw [List.length_map, hl], fun k a t h1 h2 => ?_⟩
      · rcases List.mem_cons.mp hx with rfl | hx
        · exact g1.ex.free hD
        · exact g1.ex.free (hf x hx).1
      · rcases List.mem_cons.mp hx with rfl | hx
        · exact hB
        · exact (hf x hx).2.1
      · rw [List.getElem?_map] at h2
        cases z : es[k]? with
        | none => rw [z] at h2; cases h2
        | some el =>
          rw [z] at h2
          cases h2
          exact hc k a el h1 z
/-- (orders, [..], total) -/
theorem evs_tup {os : List Int} {tss : List (List Int)} {tot : Int} (ho : Ev K ta ρ (.tuple (os.map .int))) (hn : EvQ K (NestQ tss) tn ρ) (ht : Ev K tb ρ (.int tot)) : EvQ K (SysQ K os tss tot) (tTup (tCons ta (tCons tn (tCons tb tNil)))) ρ := fun σ B H e s Q q =>
  ho σ B H e s _ fun ov B1 H1 g1 hv => hn σ B1 H1 (e.mono g1.bb) g1.sub _ fun l as B2 H2 g2 n => ht σ B2 H2 (e.mono (g1.trans g2).bb) g2.sub _ fun v B3 H3 g3 hi => by
    cases hi
    refine ⟨by show 3 ≤ sizeLine; decide, fun p hp => ?_⟩
    have g123 := (g1.trans g2).trans g3
    have gp := Gr.side g3.sub hp (.tup [ov, .ref l, .int tot])
    have hB3 : B3 p = none := g3.sub.free hp
    exact q p ov l as B3 _ (g123.trans gp) ⟨(((n.mono g3).mono gp).from g1.ex), g123.ex.free hp, hB3, upd_same, hv.mono (g2.trans g3).bb⟩
/-! lent as data -/
def lend (B H : Hp) (S : List Addr) : Hp := fun b => if b ∈ S then H b else B b
theorem lend_in {B H : Hp} {S : List Addr} {a : Addr} (h : a ∈ S) : lend B H S a = H a := if_pos h
theorem lend_out {B H : Hp} {S : List Addr} {a : Addr} (h : a ∉ S) : lend B H S a = B a := if_neg h
theorem lend_up {B H : Hp} {S : List Addr} (h : ∀ x ∈ S, B x = none) : Same B (lend B H S) := fun b o z => by
  rw [lend_out fun m => by rw [h b m] at z; cases z]
  exact z
theorem lend_sub {B H : Hp} {S : List Addr} (s : Same B H) : Same (lend B H S) H := fun b o z => by
  by_cases m : b ∈ S
  · rw [lend_in m] at z
    exact z
  · rw [lend_out m] at z
    exact s b o z
theorem daAll_of {B : Hp} : ∀ {vs : List V} {ds : List PyData}, vs.length = ds.length → (∀ (i : Nat) (v : V) (d : PyData), vs[i]? = some v → ds[i]? = some d → Da K B v d) → DaAll K B vs ds
  | [], [], _, _ => .nil
  | [], _ :: _, h, _ => by simp at h
  | _ :: _, [], h, _ => by simp at h
  | v :: vs, d :: ds, h, f => .cons (f 0 v d rfl rfl) (daAll_of (by simpa using h) fun i x y h1 h2 => f (i + 1) x y (by simpa using h1) (by simpa using h2))
abbrev sysT (os : List Int) (tss : List (List Int)) (tot : Int) : PyData := .tuple [.tuple (os.map .int), .list (tss.map fun t => .list (t.map .int)), .int tot]
theorem Loan.da {B H0 H : Hp} {p : Addr} {ov : V} {l : Addr} {as : List Addr} {os : List Int} {tss : List (List Int)} {tot : Int} (n : Loan K B H0 H p ov l as os tss tot) :
    Same B (lend B H (p :: l :: as)) ∧ Da K (lend B H (p :: l :: as)) (.ref p) (sysT os tss tot) := by
  have up : Same B (lend B H (p :: l :: as)) := lend_up fun x hx => by
    rcases List.mem_cons.mp hx with rfl | hx
    · exact n.pB
    · exact n.nest.newB x hx
  refine ⟨up, .tup (xs := [ov, .ref l, .int tot]) (.of ?_) (.cons (n.po.mono up) (.cons (.lst (xs := as.map V.ref) ?_ ?_) (.cons (.int _) .nil)))⟩
  · rw [lend_in (List.mem_cons_self ..)]
    exact n.pt
  · rw [lend_in (List.mem_cons_of_mem _ (List.mem_cons_self ..))]
    exact n.nest.at_l
  · refine daAll_of (by rw [List.length_map, List.length_map]; exact n.nest.len) fun i v d h1 h2 => ?_
    rw [List.getElem?_map] at h1 h2
    cases z1 : as[i]? with
    | none => rw [z1] at h1; cases h1
    | some a =>
      cases z2 : tss[i]? with
      | none => rw [z2] at h2; cases h2
      | some t =>
        rw [z1] at h1
        rw [z2] at h2
        cases h1
        cases h2
        refine .lst (xs := t.map .int) ?_ (daIn t)
        rw [lend_in (List.mem_cons_of_mem _ (List.mem_cons_of_mem _ (List.mem_of_getElem? z1)))]
        exact n.nest.at_i i a t z1 z2
theorem Loan.new {B H0 H : Hp} {p : Addr} {ov : V} {l : Addr} {as : List Addr} {os : List Int} {tss : List (List Int)} {tot : Int} (n : Loan K B H0 H p ov l as os tss tot) : ∀ x ∈ p :: l :: as, H0 x = none ∧ B x = none := fun x hx => by
  rcases List.mem_cons.mp hx with rfl | hx
  · exact ⟨n.pH, n.pB⟩
  · exact ⟨n.nest.newH x hx, n.nest.newB x hx⟩
theorem EvQ.ev {os : List Int} {tss : List (List Int)} {tot : Int} (h : EvQ K (SysQ K os tss tot) te ρ) : Ev K te ρ (sysT os tss tot) := fun σ B H e s Q q =>
  h σ B H e s Q fun p ov l as B' H' g n => by
    obtain ⟨up, d⟩ := n.da
    refine q _ (lend B' H' (p :: l :: as)) H' ⟨g.ex, g.bb.trans up, lend_sub g.sub, fun b o z nb => ?_⟩ d
    by_cases m : b ∈ p :: l :: as
    · exact (n.new b m).1
    · rw [lend_out m] at z
      exact g.new b o z nb
end
/-! statements while a told tuple is lent: H0 the heap ahead of it -/
def Dl (K : PySem.W.Frag) (i j : Nat) (os : List Int) (tss : List (List Int)) (tot : Int) (ts : TS) (ρ : Rho) (c : Nat) (N : Rho → Nat → Prop) (R : PyData → Nat → Prop) : Prop :=
  ∀ g σ B H0 H (D : Ends) p ov l as, EnvG K B σ ρ g i → Loan K B H0 H p ov l as os tss tot → σ[j]? = some (some (.ref p)) → Gg g B H0 B H → GenAt H0 g c → GenAt H g c →
  (∀ σ' B' H' ρ' c', Gg g B H0 B' H' → EnvG K B' σ' ρ' g i → GenAt H' g c' → N ρ' c' → D.nx σ' H') → (∀ v B' H' d c', Gg g B H0 B' H' → GenAt H' g c' → Da K B' v d → R d c' → D.rt v H') → ts D σ H
section
variable {K : PySem.W.Frag} {i j : Nat} {ρ : Rho} {c : Nat} {N : Rho → Nat → Prop} {R : PyData → Nat → Prop} {te ta tb : TE} {tr : TA} {tt : TT} {t u : TS} {d : PyData} {os : List Int} {tss : List (List Int)} {tot : Int}
/-- within the loan, H grows, the rest is let go again -/
theorem Loan.after {g : Addr} {B H0 H B1 H1 : Hp} {p : Addr} {ov : V} {l : Addr} {as : List Addr} (n : Loan K B H0 H p ov l as os tss tot) (gg : Gg g B H0 B H) (k : Gr (lend B H (p :: l :: as)) H B1 H1) (gen : GenAt H g c) :
    Loan K B H0 H1 p ov l as os tss tot ∧ Gg g B H0 B H1 ∧ GenAt H1 g c := by
  have sb : Same B H1 := n.da.1.trans (k.bb.trans k.sub)
  have kk : Gr B H B H1 := ⟨k.ex, Same.refl _, sb, fun a o z nb => by rw [nb] at z; cases z⟩
  exact ⟨n.mono kk, gg.trans ⟨fun a o _ z => k.ex a o z, Same.refl _, sb, fun a o z nb => (by rw [nb] at z; cases z), gg.off⟩, gen.same k.ex⟩
theorem dl_if (hb : EvB K tt (ρ.set j (some (sysT os tss tot))) false) (hj : j < ρ.length) (k : Dl K i j os tss tot u ρ c N R) : Dl K i j os tss tot (tSeq (tIfS tt t tNext) u) ρ c N R := fun g σ B H0 H D p ov l as e n hp gg gen0 gen nx r => by
  obtain ⟨up, da⟩ := n.da
  have e2 : EnvOk K (lend B H (p :: l :: as)) σ (ρ.set j (some (sysT os tss tot))) := by
    have q := (e.env.mono up).set da j
    have z : σ.set j (some (.ref p)) = σ := by
      obtain ⟨h1, h2⟩ := List.getElem?_eq_some_iff.mp hp
      rw [← h2]
      exact List.set_getElem_self h1
    rw [z] at q
    exact q
  refine hb σ _ H e2 (lend_sub gg.sub) _ fun B1 H1 g1 => iteF ?_
  obtain ⟨n1, gg1, gen1⟩ := n.after gg g1 gen
  exact k g σ B H0 H1 D p ov l as e n1 hp gg1 gen0 gen1 nx r
/-- x = f(..), then lent -/
theorem dg_lend (h : EvQ K (SysQ K os tss tot) te ρ) (hj : j ≠ i) (hj2 : j < ρ.length) (k : Dl K i j os tss tot t (ρ.set j none) c N R) : Dg K i (tSeq (tAsg te (gName j)) t) ρ c N R := fun g σ B H D e s n nx r =>
  h σ B H e.env s _ fun p ov l as B1 H1 g1 ln => by
    have G1 : Gg g B H B1 H1 := .of g1 e.gone n.ne
    have e1 : EnvG K B1 (σ.set j (some (.ref p))) (ρ.set j none) g i := ⟨(e.env.mono g1.bb).forget _ j, by rw [List.getElem?_set_ne hj]; exact e.here, G1.off⟩
    have s1 : Same B1 H1 := g1.sub
    have G2 : Gg g B1 H B1 H1 := ⟨fun a o nb z => G1.ex a o nb z, Same.refl _, s1, fun a o z nb => (by rw [nb] at z; cases z), G1.off⟩
    refine k g _ B1 H H1 D p ov l as e1 ln (List.getElem?_set_self (by rw [e.env.len]; exact hj2)) G2 n (n.same g1.ex) (fun σ2 B2 H2 ρ2 c2 g2 => nx σ2 B2 H2 ρ2 c2 ?_) fun v B2 H2 d c2 g2 => r v B2 H2 d c2 ?_
    · exact ⟨g2.ex, G1.bb.trans g2.bb, g2.sub, fun a o z nb => by
        cases q : B1 a with
        | none => exact g2.new a o z q
        | some u => exact G1.new a u q nb, g2.off⟩
    · exact ⟨g2.ex, G1.bb.trans g2.bb, g2.sub, fun a o z nb => by
        cases q : B1 a with
        | none => exact g2.new a o z q
        | some u => exact G1.new a u q nb, g2.off⟩
/-- what marks: it gives True, and changes lists of S alone -/
def MarkQ (S : List Addr) (H : Hp) (Q : VK) : Prop := ∀ H', (∀ b o, b ∉ S → H b = some o → H' b = some o) → Q (.bl true) H'
theorem Loan.marked {g : Addr} {B H0 H H1 : Hp} {p : Addr} {ov : V} {l : Addr} {as : List Addr} (n : Loan K B H0 H p ov l as os tss tot) (gg : Gg g B H0 B H) (gen0 : GenAt H0 g c) (gen : GenAt H g c) (k : ∀ b o, b ∉ l :: as → H b = some o → H1 b = some o) :
    Gg g B H0 B H1 ∧ GenAt H1 g c := by
  have out : ∀ b, H0 b ≠ none → b ∉ l :: as := fun b hb z => hb (n.nest.newH b z)
  have outB : ∀ b o, B b = some o → b ∉ l :: as := fun b o hb z => by rw [n.nest.newB b z] at hb; cases hb
  refine ⟨⟨fun a o na z => k a o (out a (by rw [z]; simp)) (gg.ex a o na z), Same.refl _, fun a o z => k a o (outB a o z) (gg.sub a o z), fun a o z nb => (by rw [nb] at z; cases z), gg.off⟩, ?_⟩
  obtain ⟨x, y, z, h1, r⟩ := gen
  exact ⟨x, y, z, k g _ (out g gen0.ne) h1, r⟩
/-- if not marked(x): return ..; the loan is over -/
theorem dl_mark {sm : Sp} {E : XK} (hm : ∀ B H0 H p ov l as Q, Loan K B H0 H p ov l as os tss tot → Same B H → MarkQ (l :: as) H Q → sm [.ref p] H Q E) (k : Dg K i u ρ c N R) :
    Dl K i j os tss tot (tSeq (tIfS (tNot (tB (tCall sm [] E (tCons (tVar j) tNil)))) t tNext) u) ρ c N R := fun g σ B H0 H D p ov l as e n hp gg gen0 gen nx r =>
  ⟨.ref p, hp, hm B H0 H p ov l as _ n gg.sub fun H1 kk => ⟨true, rfl, iteF (by
    obtain ⟨gg1, gen1⟩ := n.marked gg gen0 gen kk
    exact k g σ B H1 D e gg1.sub gen1 (fun σ2 B2 H2 ρ2 c2 g2 => nx σ2 B2 H2 ρ2 c2 (gg1.trans g2)) fun v B2 H2 d c2 g2 => r v B2 H2 d c2 (gg1.trans g2))⟩⟩
/-- return marked(x) and .. -/
theorem dl_ret {sm : Sp} {E : XK} (hm : ∀ B H0 H p ov l as Q, Loan K B H0 H p ov l as os tss tot → Same B H → MarkQ (l :: as) H Q → sm [.ref p] H Q E) (h : Ev K tb ρ d) (hr : R d c) :
    Dl K i j os tss tot (tRet (tAndV (tCall sm [] E (tCons (tVar j) tNil)) tb)) ρ c N R := fun g σ B H0 H D p ov l as e n hp gg gen0 gen nx r =>
  ⟨.ref p, hp, hm B H0 H p ov l as _ n gg.sub fun H1 kk => ⟨true, rfl, iteT (by
    obtain ⟨gg1, gen1⟩ := n.marked gg gen0 gen kk
    refine h σ B H1 e.env gg1.sub _ fun v B2 H2 g2 hv => ?_
    exact r v B2 H2 d c (gg1.trans (.of g2 gg1.off gen1.ne)) (gen1.same g2.ex) hv hr)⟩⟩
end
end G
end
section
set_option maxRecDepth 100000
set_option maxHeartbeats 2000000
/-! marking all lists of a value, once each -/
namespace G
open PySem PySem.Spec PyProof.Rows L2
theorem seq_go {t u : TS} {D : Ends} {σ : L2.St} {H : Hp} (h : t { D with nx := u D } σ H) : tSeq t u D σ H := h
theorem for_go {wi : TI} {g : TG} {tb : TS} {D : Ends} {σ : L2.St} {H : Hp} (h : wi σ H fun J H1 => ∃ W : Nat → Nat → L2.St → Hp → Prop, (∃ m, W 0 m σ H1) ∧ ∀ i m σ H, W i m σ H →
  (J.stop i H ∧ D.nx σ H) ∨ (J.go i H ∧ ∃ N : L2.St → Hp → Prop, (∀ σ' H', N σ' H' → ∃ m', m' < m ∧ W (i + 1) m' σ' H') ∧ ∀ x H', J.yld i H x H' → g x σ H' fun σ2 H2 => tb { D with nx := N, ct := N, bk := D.nx } σ2 H2)) : tFor wi g tb D σ H := h
theorem nxt_go {D : Ends} {σ : L2.St} {H : Hp} (h : D.nx σ H) : tNext D σ H := h
theorem ret_go {te : TE} {D : Ends} {σ : L2.St} {H : Hp} (h : te σ H D.rt) : tRet te D σ H := h
theorem orv_go {ta tb : TE} {σ : L2.St} {H : Hp} {Q : VK} (h : ta σ H fun x H1 => ∃ c, x = .bl c ∧ if c = true then Q (.bl true) H1 else tb σ H1 Q) : tOrV ta tb σ H Q := h
theorem asg_go {te : TE} {g : TG} {D : Ends} {σ : L2.St} {H : Hp} (h : te σ H fun x H1 => g x σ H1 D.nx) : tAsg te g D σ H := h
theorem opc_go {r : R2} {v : V} {tb : TE} {σ : L2.St} {H : Hp} {Q : VK} (h : tb σ H fun y H2 => r v y H2 Q) : tOp r (tC v) tb σ H Q := h
theorem if_go {tt : TT} {t u : TS} {D : Ends} {σ : L2.St} {H : Hp} (h : tt σ H fun b H1 => if b = true then t D σ H1 else u D σ H1) : tIfS tt t u D σ H := h
mutual
inductive MkOk (K : PySem.W.Frag) (H : Hp) : Nat → V → PyData → List Addr → Prop where
  | int {n : Nat} (i : Int) : MkOk K H n (.int i) (.int i) []
  | lst {n : Nat} {a : Addr} {xs : List V} {ds : List PyData} {S : List Addr} : H a = some (.lst xs) → xs.length ≤ 1000000 → MkAll K H n xs ds S → a ∉ S → MkOk K H (n + 1) (.ref a) (.list ds) (a :: S)
  | tup {n : Nat} {a : Addr} {xs : List V} {ds : List PyData} {S : List Addr} : SqT K H a xs → xs.length ≤ 1000000 → MkAll K H n xs ds S → MkOk K H (n + 1) (.ref a) (.tuple ds) S
inductive MkAll (K : PySem.W.Frag) (H : Hp) : Nat → List V → List PyData → List Addr → Prop where
  | nil {n : Nat} : MkAll K H n [] [] []
  | cons {n : Nat} {v : V} {d : PyData} {vs : List V} {ds : List PyData} {S T : List Addr} : MkOk K H n v d S → MkAll K H n vs ds T → (∀ x ∈ S, x ∉ T) → MkAll K H n (v :: vs) (d :: ds) (S ++ T)
end
def Keeps (S : List Addr) (H H' : Hp) : Prop := ∀ b o, b ∉ S → H b = some o → H' b = some o
theorem Keeps.refl {S : List Addr} {H : Hp} : Keeps S H H := fun _ _ _ e => e
theorem Keeps.trans {S T : List Addr} {H H1 H2 : Hp} (h : Keeps S H H1) (k : Keeps T H1 H2) : Keeps (S ++ T) H H2 := fun b o nb e => k b o (fun z => nb (List.mem_append_right _ z)) (h b o (fun z => nb (List.mem_append_left _ z)) e)
theorem Keeps.of {S : List Addr} {H H' : Hp} (h : Same H H') : Keeps S H H' := fun b o _ e => h b o e
theorem Keeps.sub {S T : List Addr} {H H' : Hp} (h : Keeps S H H') (s : ∀ x ∈ S, x ∈ T) : Keeps T H H' := fun b o nb e => h b o (fun z => nb (s b z)) e
section
variable {K : PySem.W.Frag} {H H' : Hp}
def Lists (H : Hp) (T : List Addr) : Prop := ∀ x ∈ T, ∃ xs, H x = some (.lst xs)
theorem sqt_keep {a : Addr} {xs : List V} {T : List Addr} (k : Keeps T H H') (l : Lists H T) (h : SqT K H a xs) : SqT K H' a xs := by
  rcases h with (h | ⟨o, h⟩) | h
  · exact .inl (.inl (k _ _ (fun z => by obtain ⟨ys, q⟩ := l _ z; rw [h] at q; cases q) h))
  · exact .inl (.inr ⟨o, k _ _ (fun z => by obtain ⟨ys, q⟩ := l _ z; rw [h] at q; cases q) h⟩)
  · exact .inr h
mutual
theorem MkOk.lists : ∀ {n : Nat} {v : V} {d : PyData} {S : List Addr}, MkOk K H n v d S → Lists H S
  | _, _, _, _, .int i => fun x hx => by simp at hx
  | _, _, _, _, .lst h _ m _ => fun x hx => by
    rcases List.mem_cons.mp hx with rfl | hx
    · exact ⟨_, h⟩
    · exact m.lists x hx
  | _, _, _, _, .tup _ _ m => m.lists
theorem MkAll.lists : ∀ {n : Nat} {vs : List V} {ds : List PyData} {S : List Addr}, MkAll K H n vs ds S → Lists H S
  | _, _, _, _, .nil => fun x hx => by simp at hx
  | _, _, _, _, .cons m ms _ => fun x hx => by
    rcases List.mem_append.mp hx with hx | hx
    · exact m.lists x hx
    · exact ms.lists x hx
end
mutual
theorem MkOk.keep {T : List Addr} (k : Keeps T H H') (l : Lists H T) : ∀ {n : Nat} {v : V} {d : PyData} {S : List Addr}, MkOk K H n v d S → (∀ x ∈ S, x ∉ T) → MkOk K H' n v d S
  | _, _, _, _, .int i, _ => .int i
  | _, _, _, _, .lst h z m na, s => .lst (k _ _ (s _ (List.mem_cons_self ..)) h) z (m.keep k l fun x hx => s x (List.mem_cons_of_mem _ hx)) na
  | _, _, _, _, .tup h z m, s => .tup (sqt_keep k l h) z (m.keep k l s)
theorem MkAll.keep {T : List Addr} (k : Keeps T H H') (l : Lists H T) : ∀ {n : Nat} {vs : List V} {ds : List PyData} {S : List Addr}, MkAll K H n vs ds S → (∀ x ∈ S, x ∉ T) → MkAll K H' n vs ds S
  | _, _, _, _, .nil, _ => .nil
  | _, _, _, _, .cons m ms dj, s => .cons (m.keep k l fun x hx => s x (List.mem_append_left _ hx)) (ms.keep k l fun x hx => s x (List.mem_append_right _ hx)) dj
end
mutual
theorem MkOk.da : ∀ {n : Nat} {v : V} {d : PyData} {S : List Addr}, MkOk K H n v d S → Da K H v d
  | _, _, _, _, .int i => .int i
  | _, _, _, _, .lst h _ m _ => .lst h m.da
  | _, _, _, _, .tup h _ m => .tup h m.da
theorem MkAll.da : ∀ {n : Nat} {vs : List V} {ds : List PyData} {S : List Addr}, MkAll K H n vs ds S → DaAll K H vs ds
  | _, _, _, _, .nil => .nil
  | _, _, _, _, .cons m ms _ => .cons m.da ms.da
end
/-! no text in it, and not deep -/
mutual
theorem MkOk.pl : ∀ {n : Nat} {v : V} {d : PyData} {S : List Addr}, MkOk K H n v d S → d.canLay0 = true ∧ d.depth ≤ n ∧ (∀ c : Str, PyData.eqv d (.str c) = false)
  | _, _, _, _, .int i => ⟨rfl, by rw [depth_int]; omega, fun c => by simp [PyData.eqv]⟩
  | _, _, _, _, .lst _ _ m _ => by
    obtain ⟨a, b⟩ := m.pl
    exact ⟨by rw [PyData.canLay0]; exact a, by rw [PyData.depth]; omega, fun c => by simp [PyData.eqv]⟩
  | _, _, _, _, .tup _ _ m => by
    obtain ⟨a, b⟩ := m.pl
    exact ⟨by rw [PyData.canLay0]; exact a, by rw [PyData.depth]; omega, fun c => by simp [PyData.eqv]⟩
theorem MkAll.pl : ∀ {n : Nat} {vs : List V} {ds : List PyData} {S : List Addr}, MkAll K H n vs ds S → PyData.canLayAll0 ds = true ∧ PyData.depthAll ds ≤ n
  | _, _, _, _, .nil => ⟨by simp [PyData.canLayAll0], by simp [PyData.depthAll]⟩
  | _, _, _, _, .cons m ms _ => by
    obtain ⟨a1, b1, _⟩ := m.pl
    obtain ⟨a2, b2⟩ := ms.pl
    exact ⟨by rw [PyData.canLayAll0, a1, a2]; rfl, by rw [PyData.depthAll]; omega⟩
end
theorem MkAll.len : ∀ {n : Nat} {vs : List V} {ds : List PyData} {S : List Addr}, MkAll K H n vs ds S → vs.length = ds.length
  | _, _, _, _, .nil => rfl
  | _, _, _, _, .cons _ ms _ => by rw [List.length_cons, List.length_cons, ms.len]
theorem MkAll.mem : ∀ {n : Nat} {vs : List V} {ds : List PyData} {S : List Addr}, MkAll K H n vs ds S → ∀ d ∈ ds, ∃ v T, MkOk K H n v d T
  | _, _, _, _, .nil, d, hd => by simp at hd
  | _, _, _, _, .cons m ms _, d, hd => by
    rcases List.mem_cons.mp hd with rfl | hd
    · exact ⟨_, _, m⟩
    · exact ms.mem d hd
/-- what marks such a value -/
def sMk (K : PySem.W.Frag) (n : Nat) : Sp := fun vs H Q _ => ∃ v d S, vs = [v] ∧ MkOk K H n v d S ∧ MarkQ S H Q
/-- [marked(x) for x in xs] -/
theorem mk_lc {n : Nat} {self : Sp} {E : XK} (hs : ∀ v d S H Q, MkOk K H n v d S → MarkQ S H Q → self [v] H Q E) {J : It} {xs : List V} {ds : List PyData} {S : List Addr} {G : Hp → Prop} (w : Walk J xs.length G (YAt xs)) {i : Nat} {σ : L2.St} {H1 : Hp}
    (hi : i < σ.length) (m : MkAll K H1 n xs ds S) (hG : ∀ H', Keeps S H1 H' → G H') (hz : xs.length ≤ 1000000) {Q : VK} (q : ∀ D H', Keeps S H1 H' → H1 D = none → H' D = some (.lst (List.replicate xs.length (.bl true))) → Q (.ref D) H') :
    ∀ D, H1 D = none → ∃ W : Nat → Nat → Hp → Prop, (∃ m, W 0 m (upd H1 D (.lst []))) ∧ ∀ k m H, W k m H →
      (J.stop k H ∧ Q (.ref D) H) ∨ (J.go k H ∧ ∃ Nx : Hp → Prop, (∀ H', Nx H' → ∃ m', m' < m ∧ W (k + 1) m' H') ∧ ∀ x H', J.yld k H x H' → gName i x (wipe σ [i]) H' fun σ2 H2 => wipe σ2 [i] = wipe σ [i] ∧ tYes σ2 H2 fun b H3 =>
        if b = true then tCall self [] E (tCons (tVar i) tNil) σ2 H3 fun y H4 => ∃ acc, H4 D = some (.lst acc) ∧ acc.length < sizeLine ∧ Nx (upd H4 D (.lst (acc ++ [y]))) else Nx H3) := fun D hD => by
  have dS : D ∉ S := fun z => by
    obtain ⟨ys, e⟩ := m.lists D z
    rw [hD] at e
    cases e
  refine lc_it w (fun k H' => ∃ (T U : List Addr), S = T ++ U ∧ Keeps T H1 H' ∧ H' D = some (.lst (List.replicate k (.bl true))) ∧ MkAll K H' n (xs.drop k) (ds.drop k) U ∧ (∀ x ∈ U, x ∉ T)) ?_ (fun k H' _ ⟨T, U, e, kp, _⟩ => hG H' (kp.sub fun x hx => by rw [e]; exact List.mem_append_left _ hx)) ?_ ?_
  · refine ⟨[], S, rfl, fun b o _ e => ?_, upd_same, ?_, fun x _ z => by simp at z⟩
    · rw [upd_ne (ne_of_none e hD)]
      exact e
    · rw [List.drop_zero, List.drop_zero]
      exact m.keep (T := []) (fun b o _ e => by rw [upd_ne (ne_of_none e hD)]; exact e) (fun x hx => by simp at hx) fun x _ z => by simp at z
  · rintro k x H' H2 hk ⟨T, U, e, kp, hDl, mm, dj⟩ y
    obtain ⟨rfl, hx⟩ := y
    have hx' : xs[k]? = some x := hx
    obtain ⟨lk, ek⟩ := List.getElem?_eq_some_iff.mp hx'
    have dk : xs.drop k = x :: xs.drop (k + 1) := by rw [List.drop_eq_getElem_cons lk, ek]
    have hl := m.len
    have lk2 : k < ds.length := by omega
    have dd : ds.drop k = ds[k] :: ds.drop (k + 1) := List.drop_eq_getElem_cons lk2
    rw [dk, dd] at mm
    cases mm with
    | @cons _ _ _ _ _ S1 U1 m1 ms d1 =>
      refine ⟨by show ((σ.set i none).set i (some x)).set i none = σ.set i none; rw [List.set_set, List.set_set], ?_⟩
      dsimp only [tYes]
      rw [if_pos rfl]
      have look : ((wipe σ [i]).set i (some x))[i]? = some (some x) := by
        show ((σ.set i none).set i (some x))[i]? = _
        rw [List.set_set]
        exact List.getElem?_set_self hi
      refine ⟨x, look, ?_⟩
      show self ([x] ++ []) _ _ _
      refine hs x _ S1 _ _ m1 fun H4 k4 => ?_
      have dU : D ∉ S1 := fun z => dS (by rw [e]; exact List.mem_append_right _ (List.mem_append_left _ z))
      refine ⟨_, k4 D _ dU hDl, by rw [List.length_replicate, sizeLine_eq]; omega, T ++ S1, U1, by rw [e, List.append_assoc], ?_, ?_, ?_, ?_⟩
      · intro b o nb eb
        have ne : b ≠ D := ne_of_none eb hD
        rw [upd_ne ne]
        exact (kp.trans k4) b o nb eb
      · rw [upd_same, List.replicate_succ']
      · refine ms.keep (T := D :: S1) (H' := upd H4 D _) (fun b o nb eb => ?_) (fun z hz => ?_) fun z hz hz2 => ?_
        · rw [upd_ne (fun z => nb (by rw [z]; exact List.mem_cons_self ..))]
          exact k4 b o (fun z => nb (List.mem_cons_of_mem _ z)) eb
        · rcases List.mem_cons.mp hz with rfl | hz
          · exact ⟨_, hDl⟩
          · exact m1.lists z hz
        · rcases List.mem_cons.mp hz2 with rfl | hz2
          · exact dS (by rw [e]; exact List.mem_append_right _ (List.mem_append_right _ hz))
          · exact d1 z hz2 hz
      · intro z hz hz2
        rcases List.mem_append.mp hz2 with hz2 | hz2
        · exact dj z (List.mem_append_right _ hz) hz2
        · exact d1 z hz2 hz
  · rintro H' ⟨T, U, e, kp, hDl, _, _⟩
    exact q D H' (kp.sub fun x hx => by rw [e]; exact List.mem_append_left _ hx) hD hDl
theorem mk_tL {n : Nat} {self : Sp} {E : XK} (hs : ∀ v d S H Q, MkOk K H n v d S → MarkQ S H Q → self [v] H Q E) {a : Addr} {xs : List V} {ds : List PyData} {S : List Addr} {i : Nat} {σ : L2.St} {H1 : Hp} (h0 : σ[0]? = some (some (.ref a))) (hL : H1 a = some (.lst xs)) (na : a ∉ S)
    (hi : i < σ.length) (m : MkAll K H1 n xs ds S) (hz : xs.length ≤ 1000000) {Q : VK} (q : ∀ D H', Keeps S H1 H' → H1 D = none → H' D = some (.lst (List.replicate xs.length (.bl true))) → Q (.ref D) H') :
    tLc (orI (iList K (tVar 0)) (iTup K (tVar 0))) (gName i) tYes (tCall self [] E (tCons (tVar i) tNil)) [i] σ H1 Q :=
  .inl ⟨_, h0, a, rfl, ⟨_, .of hL⟩, mk_lc hs walk_list hi m (fun H' k => .of (k _ _ na hL)) hz q⟩
theorem mk_tT {n : Nat} {self : Sp} {E : XK} (hs : ∀ v d S H Q, MkOk K H n v d S → MarkQ S H Q → self [v] H Q E) {a : Addr} {xs : List V} {ds : List PyData} {S : List Addr} {i : Nat} {σ : L2.St} {H1 : Hp} (h0 : σ[0]? = some (some (.ref a))) (hT : SqT K H1 a xs)
    (hi : i < σ.length) (m : MkAll K H1 n xs ds S) (hz : xs.length ≤ 1000000) {Q : VK} (q : ∀ D H', Keeps S H1 H' → H1 D = none → H' D = some (.lst (List.replicate xs.length (.bl true))) → Q (.ref D) H') :
    tLc (orI (iList K (tVar 0)) (iTup K (tVar 0))) (gName i) tYes (tCall self [] E (tCons (tVar i) tNil)) [i] σ H1 Q :=
  .inr ⟨_, h0, a, rfl, ⟨_, hT⟩, mk_lc hs walk_tup hi m (fun H' k => sqt_keep k m.lists hT) hz q⟩
/-- t[-1] -/
theorem opp_last {ds : List PyData} {z : PyData} (h : ds.getLast? = some z) : Op2 K (rIxL K) (.list ds) (.int (-1)) z := fun B H s u v hu hv Q q => by
  cases hv
  cases hu with
  | @lst a us _ h1 a1 =>
    have hl := a1.len
    have ne : ds ≠ [] := fun e => by rw [e] at h; cases h
    have lp : 0 < ds.length := List.length_pos_iff.mpr ne
    have hz : ds[ds.length - 1]? = some z := by rw [← List.getLast?_eq_getElem?]; exact h
    obtain ⟨w, e1, e2⟩ := (a1.mono s).at hz
    refine ⟨_, _, _, w, rfl, rfl, .of (s _ _ h1), ?_, q _ B H (.refl s) ?_⟩
    · unfold atI
      have e3 : ixN us.length (-1) = some (us.length - 1) := by
        unfold ixN
        rw [if_neg (by decide)]
        rw [if_pos (by omega)]
        congr 1
        omega
      rw [e3]
      show us[us.length - 1]? = some w
      rw [hl]
      exact e1
    · exact (a1.at hz).elim fun w2 hw2 => by
        rw [hw2.1] at e1
        cases e1
        exact hw2.2
end
end G
end
section
set_option maxRecDepth 100000
set_option maxHeartbeats 2000000
/-! more of new lists -/
namespace G
open PySem PySem.Spec PyProof.Rows L2
section
variable {K : PySem.W.Frag} {ρ : Rho} {te ta tb : TE} {ns : List Int}
theorem evf_list (h : Ev K ta ρ (.list (ns.map .int))) : EvF K (tCB (rListOf K) (tCons ta tNil)) ρ ns := fun σ B H e s Q q =>
  h σ B H e s _ fun v B1 H1 g hv => by
    cases hv with
    | @lst a xs _ h hs =>
      obtain rfl := daInts hs
      exact ⟨a, _, rfl, .inl (.of (g.sub _ _ h)), fun l hl => q l B1 _ (g.trans (Gr.side g.sub hl _)) (g.sub.free hl) (g.ex.free hl) upd_same⟩
/-- [f(x) for x in xs], ints -/
theorem evf_lc {wi : TI} {g : TG} {vs : List Nat} {es : List PyData} (h : Iter K wi ρ es) (hz : es.length ≤ 1000000) (f : PyData → Int)
    (hs : ∀ e, e ∈ es → ∃ ρ1, TgW K g vs e ρ ρ1 ∧ Ev K te ρ1 (.int (f e))) : EvF K (tLc wi g tYes te vs) ρ (es.map f) := fun σ B H e s Q q =>
  h σ B H e s _ fun J B1 H1 g1 w => fun Dl hD => by
    refine lc_it w (fun i H' => ∃ (B' : Hp), Gr B1 H1 B' H' ∧ B' Dl = none ∧ H' Dl = some (.lst (((es.take i).map f).map .int))) ?_ (fun i H' _ ⟨B', g2, _⟩ => g2.bb.trans g2.sub) ?_ ?_
    · exact ⟨B1, .side g1.sub hD _, g1.sub.free hD, upd_same⟩
    · rintro i x H' H2 hi ⟨B', g2, hB, hH⟩ y
      obtain ⟨B2, el, g3, hel, hx⟩ := y B' g2.bb g2.sub
      obtain ⟨ρ1, ht, hv⟩ := hs el (List.mem_of_getElem? hel)
      have g23 := g2.trans g3
      refine ht σ B2 H2 x (e.mono (g1.bb.trans g23.bb)) g3.sub hx _ fun σ2 e3 hw => ⟨hw, ?_⟩
      dsimp only [tYes]
      rw [if_pos rfl]
      refine hv σ2 B2 H2 e3 g3.sub _ fun u B3 H3 g4 hu => ?_
      cases hu
      have g34 := g3.trans g4
      have h3 : H3 Dl = some (.lst (((es.take i).map f).map .int)) := g34.ex _ _ hH
      have hB3 : B3 Dl = none := g34.keepNone hB (by rw [hH]; simp)
      have gg := g23.trans g4
      have hi2 : i < es.length := hi
      refine ⟨_, h3, by rw [List.length_map, List.length_map, List.length_take, sizeLine_eq]; omega, B3, ⟨fun b o z => ?_, gg.bb, fun b o z => ?_, gg.new⟩, hB3, ?_⟩
      · rw [upd_ne (ne_of_none z hD)]
        exact gg.ex b o z
      · rw [upd_ne (ne_of_none z hB3)]
        exact gg.sub b o z
      · rw [upd_same, List.take_add_one, hel, List.map_append, List.map_append]
        rfl
    · rintro H' ⟨B', g2, hB, hH⟩
      rw [List.take_length] at hH
      exact q Dl B' H' (g1.trans g2) hB (g1.ex.free hD) hH
/-- one of the lists exchanged for a new one -/
theorem Nest.put {B H0 H : Hp} {l a : Addr} {as : List Addr} {tss : List (List Int)} {p : Nat} {ns : List Int} (n : Nest B H0 H l as tss) (h0 : H0 a = none) (hb : B a = none) (ha : H a = some (.lst (ns.map .int))) (na : a ∉ l :: as) (hp : p < as.length) :
    Nest B H0 (upd H l (.lst ((as.map V.ref).set p (.ref a)))) l (as.set p a) (tss.set p ns) := by
  have nal : a ≠ l := fun z => na (by rw [z]; exact List.mem_cons_self ..)
  have nas : a ∉ as := fun z => na (List.mem_cons_of_mem _ z)
  obtain ⟨nl, nn⟩ := List.nodup_cons.mp n.nd
  have sub : ∀ x ∈ as.set p a, x = a ∨ x ∈ as := fun x hx => (List.mem_or_eq_of_mem_set hx).symm
  refine ⟨fun x hx => ?_, fun x hx => ?_, List.nodup_cons.mpr ⟨fun z => ?_, ?_⟩, ?_, by rw [List.length_set, List.length_set]; exact n.len, fun i b t h1 h2 => ?_⟩
  · rcases List.mem_cons.mp hx with rfl | hx
    · exact n.newH x (List.mem_cons_self ..)
    · rcases sub x hx with rfl | hx
      · exact h0
      · exact n.newH x (List.mem_cons_of_mem _ hx)
  · rcases List.mem_cons.mp hx with rfl | hx
    · exact n.newB x (List.mem_cons_self ..)
    · rcases sub x hx with rfl | hx
      · exact hb
      · exact n.newB x (List.mem_cons_of_mem _ hx)
  · rcases sub l z with z | z
    · exact nal z.symm
    · exact nl z
  · rw [List.nodup_iff_pairwise_ne] at *
    rw [List.pairwise_iff_getElem] at nn ⊢
    intro i j hi hj hij
    rw [List.length_set] at hi hj
    rw [List.getElem_set, List.getElem_set]
    split
    · split
      · omega
      · exact fun z => nas (by rw [z]; exact List.getElem_mem ..)
    · split
      · exact fun z => nas (by rw [← z]; exact List.getElem_mem ..)
      · exact nn i j hi hj hij
  · rw [upd_same, List.map_set]
  · have hl := n.len
    by_cases c : i = p
    · subst c
      rw [List.getElem?_set_self hp] at h1
      rw [List.getElem?_set_self (by omega)] at h2
      cases h1
      cases h2
      rw [upd_ne nal]
      exact ha
    · rw [List.getElem?_set_ne (fun z => c z.symm)] at h1 h2
      rw [upd_ne fun z => nl (by rw [← z]; exact List.mem_of_getElem? h1)]
      exact n.at_i i b t h1 h2
/-- (orders, xs, total), xs a name of such a list -/
theorem ret_nest {j : Nat} {os : List Int} {tss : List (List Int)} {tot : Int} {σ : L2.St} {B0 H0 B H : Hp} {l : Addr} {as : List Addr} {D : Ends} (ho : Ev K ta ρ (.tuple (os.map .int))) (ht : Ev K tb ρ (.int tot)) (e : EnvOk K B σ ρ) (g : Gr B0 H0 B H) (hj : σ[j]? = some (some (.ref l))) (n : Nest B H0 H l as tss)
    (q : SysQ K os tss tot B0 H0 D.rt) : tRet (tTup (tCons ta (tCons (tVar j) (tCons tb tNil)))) D σ H :=
  ho σ B H e g.sub _ fun ov B1 H1 g1 hv => ⟨_, hj, ht σ B1 H1 (e.mono g1.bb) g1.sub _ fun v B3 H3 g3 hi => by
    cases hi
    refine ⟨by show 3 ≤ sizeLine; decide, fun p hp => ?_⟩
    have gg := (g.trans g1).trans g3
    have gp := Gr.side g3.sub hp (.tup [ov, .ref l, .int tot])
    exact q p ov l as B3 _ (gg.trans gp) ⟨((n.mono g1).mono g3).mono gp, gg.ex.free hp, g3.sub.free hp, upd_same, hv.mono g3.bb⟩⟩
theorem ix_nat {n i : Nat} (h : i < n) : ixN n (i : Int) = some i := by
  unfold ixN
  rw [if_pos (by omega), if_pos (by omega), Int.toNat_natCast]
/-- xs = f(..); xs[i] = [..]; return (orders, xs, total) -/
theorem doq_put {j jp p : Nat} {os ns : List Int} {tss : List (List Int)} {tot : Int} {tc tl : TE} (hc : EvQ K (NestQ tss) tc ρ) (hl : EvF K tl (ρ.set j none) ns) (hp : (ρ.set j none)[jp]? = some (some (.int (p : Int)))) (lp : p < tss.length) (lj : j < ρ.length)
    (ho : Ev K ta (ρ.set j none) (.tuple (os.map .int))) (ht : Ev K tb (ρ.set j none) (.int tot)) :
    DoQ K (SysQ K os (tss.set p ns) tot) (tSeq (tAsg tc (gName j)) (tSeq (tAsg tl (gSub (tVar j) (tVar jp) rSetL)) (tRet (tTup (tCons ta (tCons (tVar j) (tCons tb tNil))))))) ρ := fun σ B H D e s q =>
  hc σ B H e s _ fun l as B1 H1 g1 n => by
    have e1 : EnvOk K B1 (σ.set j (some (.ref l))) (ρ.set j none) := (e.mono g1.bb).forget _ j
    have lk : (σ.set j (some (.ref l)))[j]? = some (some (.ref l)) := List.getElem?_set_self (by rw [e.len]; exact lj)
    refine hl _ B1 H1 e1 g1.sub _ fun a B2 H2 g2 hBa hHa hla => ?_
    have n2 := n.mono g2
    have na : a ∉ l :: as := fun z => n.full a z hHa
    obtain ⟨v, e3, e4⟩ := e1.look jp _ hp
    cases e4
    have lp2 : p < as.length := by rw [n.len]; exact lp
    refine ⟨_, lk, _, e3, l, as.map V.ref, _, p, rfl, rfl, n2.at_l, by rw [List.length_map]; exact ix_nat lp2, ?_⟩
    have n3 := n2.put (p := p) (g1.ex.free hHa) hBa hla na lp2
    have bl : B2 l = none := n2.newB l (List.mem_cons_self ..)
    have hl0 : H l = none := n2.newH l (List.mem_cons_self ..)
    have g12 := g1.trans g2
    have gg : Gr B H B2 (upd H2 l (.lst ((as.map V.ref).set p (.ref a)))) := ⟨fun b o z => by
      rw [upd_ne (ne_of_none z hl0)]
      exact g12.ex b o z, g12.bb, fun b o z => by
      rw [upd_ne (ne_of_none z bl)]
      exact g12.sub b o z, g12.new⟩
    exact ret_nest ho ht (e1.mono g2.bb) gg lk n3 q
/-- [z] * n -/
theorem evf_rep {z : Int} {n : Nat} (h : Ev K tb ρ (.int (n : Int))) (hn : n ≤ 1000000) : EvF K (tOp rMulA (tLst (tCons (tC (.int z)) tNil)) tb) ρ (List.replicate n z) := fun σ B H e s Q q =>
  ⟨by show 1 ≤ sizeLine; decide, fun p hp => by
    have g0 := Gr.side s hp (.lst [.int z])
    refine h σ B _ e g0.sub _ fun v B1 H1 g1 hv => ?_
    cases hv
    refine .inr ⟨p, _, [.int z], rfl, rfl, g1.ex _ _ upd_same, by omega, by omega, by rw [Int.toNat_natCast, sizeLine_eq]; show 1 * n ≤ _; omega, fun l hl => ?_⟩
    have g01 := g0.trans g1
    refine q l B1 _ (g01.trans (Gr.side g1.sub hl _)) (g1.sub.free hl) (g01.ex.free hl) ?_
    rw [upd_same, Int.toNat_natCast, List.map_replicate]
    congr 2
    induction n with
    | zero => rfl
    | succ n ih => rw [List.replicate_succ, List.flatten_cons, List.replicate_succ]; exact congrArg (V.int z :: ·) (by clear q g1 g01 h hn; clear ih; induction n with | zero => rfl | succ n ih => rw [List.replicate_succ, List.flatten_cons, List.replicate_succ]; exact congrArg (V.int z :: ·) ih)⟩
end
end G
end
section
set_option maxRecDepth 100000
set_option maxHeartbeats 2000000
/-! sorted(xs) of ints, x in texts -/
namespace G
open PySem PySem.Spec PyProof.Rows L2
theorem sortK {X : Cx} (K : PySem.W.Frag) (h : X.K = K := by rfl) : CallR X (.builtin "sorted") (rSortedI K) := h ▸ cr_sortedI
theorem sorted_uniq : ∀ {a b : List Int}, a.Perm b → a.Pairwise (· ≤ ·) → b.Pairwise (· ≤ ·) → a = b
  | [], b, p, _, _ => p.nil_eq
  | x :: a, [], p, _, _ => absurd p.length_eq (by simp)
  | x :: a, y :: b, p, ha, hb => by
    obtain ⟨a1, a2⟩ := List.pairwise_cons.mp ha
    obtain ⟨b1, b2⟩ := List.pairwise_cons.mp hb
    have hx : x ∈ y :: b := p.mem_iff.mp (List.mem_cons_self ..)
    have hy : y ∈ x :: a := p.mem_iff.mpr (List.mem_cons_self ..)
    have e : x = y := by
      rcases List.mem_cons.mp hx with h | h
      · exact h
      · rcases List.mem_cons.mp hy with h2 | h2
        · exact h2.symm
        · have := b1 x h
          have := a1 y h2
          omega
    subst e
    rw [sorted_uniq p.cons_inv a2 b2]
section
variable {K : PySem.W.Frag}
theorem fn_sorted {ns ms : List Int} (p : ms.Perm ns) (s : ms.Pairwise (· ≤ ·)) (hz : ns.length ≤ 1000000) : Fn K (rSortedI K) [.list (ns.map .int)] (.list (ms.map .int)) := fun B H sm us hu Q q => by
  cases hu with
  | cons h t =>
    cases t
    cases h with
    | @lst a xs _ h1 a1 =>
      obtain rfl := daInts a1
      refine ⟨a, ns, rfl, .of (sm _ _ h1), ?_⟩
      first
        | exact fun ns' l h2 h3 hl => by
            obtain rfl := sorted_uniq (h2.trans p.symm) h3 s
            exact q _ _ _ (Gr.add sm hl _) (.lst upd_same (daIn _))
        | exact ⟨by rw [sizeLine_eq]; omega, fun ns' l h2 h3 hl => by
            obtain rfl := sorted_uniq (h2.trans p.symm) h3 s
            exact q _ _ _ (Gr.add sm hl _) (.lst upd_same (daIn _))⟩
theorem daStrs : ∀ {vs : List V} {cs : List Str} {B : Hp}, DaAll K B vs (cs.map .str) → vs = cs.map .str
  | [], [], _, _ => rfl
  | _, [], _, h => by cases h; rfl
  | _, c :: cs, _, h => by
    cases h with
    | cons h1 t =>
      cases h1
      rw [daStrs t]
      rfl
theorem opp_inS {c : Str} {cs : List Str} (h : c ∈ cs) : Op2 K (rIn K false) (.str c) (.list (cs.map .str)) (.bool true) := fun B H s u v hu hv Q q => by
  cases hu
  cases hv with
  | @lst a xs _ h1 a1 =>
    obtain rfl := daStrs a1
    refine ⟨a, _, rfl, .inl (.of (s _ _ h1)), rfl, ?_, q _ B H (.refl s) ?_⟩
    · rw [List.all_eq_true]
      intro y hy
      obtain ⟨z, _, rfl⟩ := List.mem_map.mp hy
      rfl
    · have e : inV (.str c) (cs.map V.str) = true := by
        unfold inV
        rw [List.any_eq_true]
        exact ⟨.str c, List.mem_map.mpr ⟨c, h, rfl⟩, by simp [eqV]⟩
      rw [e]
      exact .bl _
end
end G
end
section
set_option maxRecDepth 100000
set_option maxHeartbeats 2000000
/-! names bound by a tuple, what draws; loans and marks -/
namespace G
open PySem PySem.Spec PyProof.Rows L2
section
variable {K : PySem.W.Frag} {i : Nat} {ρ : Rho} {c : Nat} {N : Rho → Nat → Prop} {R : PyData → Nat → Prop} {te : TE} {P : PyData → Nat → Prop}
theorem dg_asg2 {j l : Nat} (h : Eg K i te ρ c P) (hj : j ≠ i) (hl : l ≠ i) (k : ∀ d c', P d c' → ∃ x y, d = .tuple [x, y] ∧ N ((ρ.set j (some x)).set l (some y)) c') : Dg K i (tAsg te (gTup K 2 (gCons (gName j) (gCons (gName l) gNil)))) ρ c N R := fun g σ B H D e s n nx _ =>
  h g σ B H e s n _ fun v B' H' d c' gg n' hv p => by
    obtain ⟨x, y, rfl, hn⟩ := k d c' p
    cases hv with
    | tup h1 a =>
      cases a with
      | cons a1 t =>
        cases t with
        | cons a2 t =>
          cases t
          exact ⟨_, _, rfl, same_t gg.sub h1, rfl, _, _, rfl, _, _, rfl, rfl, nx _ B' H' _ c' gg (((e.to gg).set a1 hj).set a2 hl) n' hn⟩
theorem dg_asg3 {j l m : Nat} (h : Eg K i te ρ c P) (hj : j ≠ i) (hl : l ≠ i) (hm : m ≠ i) (k : ∀ d c', P d c' → ∃ x y z, d = .tuple [x, y, z] ∧ N (((ρ.set j (some x)).set l (some y)).set m (some z)) c') :
    Dg K i (tAsg te (gTup K 3 (gCons (gName j) (gCons (gName l) (gCons (gName m) gNil))))) ρ c N R := fun g σ B H D e s n nx _ =>
  h g σ B H e s n _ fun v B' H' d c' gg n' hv p => by
    obtain ⟨x, y, z, rfl, hn⟩ := k d c' p
    cases hv with
    | tup h1 a =>
      cases a with
      | cons a1 t =>
        cases t with
        | cons a2 t =>
          cases t with
          | cons a3 t =>
            cases t
            exact ⟨_, _, rfl, same_t gg.sub h1, rfl, _, _, rfl, _, _, rfl, _, _, rfl, rfl, nx _ B' H' _ c' gg ((((e.to gg).set a1 hj).set a2 hl).set a3 hm) n' hn⟩
theorem dg_par3 {j l m : Nat} {ta : TA} {P : List PyData → Nat → Prop} (h : El K i ta ρ c P) (hj : j ≠ i) (hl : l ≠ i) (hm : m ≠ i) (k : ∀ ds c', P ds c' → ∃ x y z, ds = [x, y, z] ∧ N (((ρ.set j (some x)).set l (some y)).set m (some z)) c') : Dg K i (tPar3 j l m ta) ρ c N R := fun g σ B H D e s n nx _ =>
  h g σ B H e s n _ fun vs B' H' ds c' gg n' hv p => by
    obtain ⟨x, y, z, rfl, hn⟩ := k ds c' p
    cases hv with
    | cons h1 r =>
      cases r with
      | cons h2 r =>
        cases r with
        | cons h3 r =>
          cases r
          exact ⟨_, _, _, rfl, nx _ B' H' _ c' gg ((((e.to gg).set h1 hj).set h2 hl).set h3 hm) n' hn⟩
theorem egb_test {P : Bool → Nat → Prop} (h : Eg K i te ρ c fun d c' => ∃ b, d = .bool b ∧ P b c') : Egb K i (tTest te) ρ c P := fun g σ B H e s n Q q =>
  h g σ B H e s n _ fun v B' H' d c' gg n' hv ⟨b, hd, p⟩ => by
    subst hd
    cases hv
    exact ⟨b, rfl, q b B' H' c' gg n' p⟩
theorem dg_ifD {tt : TT} {t u : TS} {P : Bool → Nat → Prop} (h : Egb K i tt ρ c P) (h1 : ∀ c', P true c' → Dg K i t ρ c' N R) (h2 : ∀ c', P false c' → Dg K i u ρ c' N R) : Dg K i (tIfS tt t u) ρ c N R := fun g σ B H D e s n nx r =>
  h g σ B H e s n _ fun b B1 H1 c1 g1 n1 p => by
    cases b with
    | true => exact iteT (h1 c1 p g σ B1 H1 D (e.to g1) g1.sub n1 (fun σ2 B2 H2 ρ2 c2 g2 => nx σ2 B2 H2 ρ2 c2 (g1.trans g2)) fun v B2 H2 d c2 g2 => r v B2 H2 d c2 (g1.trans g2))
    | false => exact iteF (h2 c1 p g σ B1 H1 D (e.to g1) g1.sub n1 (fun σ2 B2 H2 ρ2 c2 g2 => nx σ2 B2 H2 ρ2 c2 (g1.trans g2)) fun v B2 H2 d c2 g2 => r v B2 H2 d c2 (g1.trans g2))
theorem egb_or {tt tu : TT} {m : Nat} {P : Bool → Nat → Prop} (h : Egb K i tt ρ c fun b c' => b = false ∧ c' ≤ m) (k : ∀ c', c' ≤ m → Egb K i tu ρ c' P) : Egb K i (tOr tt tu) ρ c P := fun g σ B H e s n Q q =>
  h g σ B H e s n _ fun b B1 H1 c1 g1 n1 ⟨hb, hm⟩ => by
    subst hb
    exact iteF (k c1 hm g σ B1 H1 (e.to g1) g1.sub n1 Q fun b B2 H2 c2 g2 => q b B2 H2 c2 (g1.trans g2))
theorem EnvOk.weak {B : Hp} {σ : L2.St} {ρ ρ' : Rho} (h : EnvOk K B σ ρ) (hl : ρ'.length = ρ.length) (k : ∀ (i : Nat) (d : PyData), ρ'[i]? = some (some d) → ρ[i]? = some (some d)) : EnvOk K B σ ρ' := ⟨by rw [h.len, hl], fun i d q => h.look i d (k i d q)⟩
/-- a loan's end as the last of a suite -/
theorem dl_markN {j : Nat} {os : List Int} {tss : List (List Int)} {tot : Int} {t : TS} {sm : Sp} {E : XK} (hm : ∀ B H0 H p ov l as Q, Loan K B H0 H p ov l as os tss tot → Same B H → MarkQ (l :: as) H Q → sm [.ref p] H Q E) (k : N ρ c) :
    Dl K i j os tss tot (tIfS (tNot (tB (tCall sm [] E (tCons (tVar j) tNil)))) t tNext) ρ c N R := fun g σ B H0 H D p ov l as e n hp gg gen0 gen nx r =>
  ⟨.ref p, hp, hm B H0 H p ov l as _ n gg.sub fun H1 kk => ⟨true, rfl, iteF (by
    obtain ⟨gg1, gen1⟩ := n.marked gg gen0 gen kk
    exact nx σ B H1 ρ c gg1 e gen1 k)⟩⟩
/-- a if t else b, what draws -/
theorem eg_if {tt : TT} {ta tb : TE} {b : Bool} (h : EvB K tt ρ b) (h1 : b = true → Eg K i ta ρ c P) (h2 : b = false → Eg K i tb ρ c P) : Eg K i (tIf tt ta tb) ρ c P := fun g σ B H e s n Q q =>
  h σ B H e.env s _ fun B1 H1 k => by
    have g1 : Gg g B H B1 H1 := .of k e.gone n.ne
    have n1 := n.same k.ex
    cases b with
    | true => exact iteT (h1 rfl g σ B1 H1 (e.to g1) g1.sub n1 Q fun v B2 H2 d c2 g2 => q v B2 H2 d c2 (g1.trans g2))
    | false => exact iteF (h2 rfl g σ B1 H1 (e.to g1) g1.sub n1 Q fun v B2 H2 d c2 g2 => q v B2 H2 d c2 (g1.trans g2))
end
section
variable {K : PySem.W.Frag}
theorem mk_ints {H : Hp} {n : Nat} : ∀ ns : List Int, MkAll K H n (ns.map .int) (ns.map .int) []
  | [] => .nil
  | z :: ns => .cons (S := []) (T := []) (.int z) (mk_ints ns) fun x hx => by simp at hx
theorem mk_tabs {H : Hp} {n : Nat} : ∀ {as : List Addr} {tss : List (List Int)}, as.Nodup → as.length = tss.length → (∀ (i : Nat) (a : Addr) (t : List Int), as[i]? = some a → tss[i]? = some t → H a = some (.lst (t.map .int))) → (∀ t ∈ tss, t.length ≤ 1000000) →
    MkAll K H (n + 1) (as.map V.ref) (tss.map fun t => .list (t.map .int)) as
  | [], [], _, _, _, _ => .nil
  | [], _ :: _, _, h, _, _ => by simp at h
  | _ :: _, [], _, h, _, _ => by simp at h
  | a :: as, t :: tss, nd, h, f, z => by
    obtain ⟨n1, n2⟩ := List.nodup_cons.mp nd
    have m := mk_tabs (n := n) n2 (by simpa using h) (fun i b u h1 h2 => f (i + 1) b u (by simpa using h1) (by simpa using h2)) fun u hu => z u (List.mem_cons_of_mem _ hu)
    have q := MkAll.cons (MkOk.lst (K := K) (n := n) (f 0 a t rfl rfl) (by rw [List.length_map]; exact z t (List.mem_cons_self ..)) (mk_ints t) (by simp)) m fun x hx => by
      have : x = a := by simpa using hx
      rw [this]
      exact n1
    exact q
theorem loan_mk {B H0 H : Hp} {p : Addr} {ov : V} {l : Addr} {as : List Addr} {os : List Int} {tss : List (List Int)} {tot : Int} (n : Loan K B H0 H p ov l as os tss tot) (s : Same B H) (ho : os.length ≤ 1000000) (ht : tss.length ≤ 1000000) (hz : ∀ t ∈ tss, t.length ≤ 1000000) :
    MkOk K H 3 (.ref p) (sysT os tss tot) (l :: as) := by
  obtain ⟨nl, nn⟩ := List.nodup_cons.mp n.nest.nd
  have m1 : MkOk K H 2 (.ref l) (.list (tss.map fun t => .list (t.map .int))) (l :: as) := .lst n.nest.at_l (by rw [List.length_map, n.nest.len]; exact ht) (mk_tabs nn n.nest.len n.nest.at_i hz) nl
  have m0 : MkOk K H 2 ov (.tuple (os.map .int)) [] := by
    have po := n.po
    cases po with
    | @tup a xs _ h1 a1 =>
      obtain rfl := daInts a1
      exact .tup (same_t s h1) (by rw [List.length_map]; exact ho) (mk_ints os)
  have q : MkAll K H 2 [ov, .ref l, .int tot] [.tuple (os.map .int), .list (tss.map fun t => .list (t.map .int)), .int tot] ([] ++ ((l :: as) ++ ([] ++ []))) :=
    .cons m0 (.cons m1 (.cons (.int tot) .nil fun x hx => by simp at hx) fun x _ h => by simp at h) fun x hx => by simp at hx
  have e : ([] ++ ((l :: as) ++ ([] ++ []))) = l :: as := by simp
  rw [e] at q
  exact .tup (.of n.pt) (by show 3 ≤ 1000000; decide) q
end
theorem bmK {X : Cx} (K : PySem.W.Frag) {o e : Expr} {es : List Expr} {to : TE} {t : TA} {name : Str} {apos cpos : Pos} {T id : String} {r : V → List V → Hp → VK → Prop} (pa : PlainAttrs T) (slot : Slot T name id) (hty : typeOf (.builtin id) = pure (.type "method_descriptor")) (hm : MtR X id r) (ho : PE X o to) (ha : PA X (e :: es) t) (h : X.K = K := by rfl)
    (hbase : attributeBase o name X.env (eval o X.env) = eval o X.env := by rfl)
    (hfew : ((backTo cpos (starEach (e :: es) X.env)).all (fun x => !x.1) && (backToKw cpos (keywordEach [] X.env)).all (fun x => x.1.isSome)
      && decide ((e :: es).length + ([] : List Keyword).length + (if ([] : List Keyword).isEmpty then 0 else 1) < 30)) = true := by rfl)
    (hline : (apos.endLine == cpos.line) = true := by rfl) (hs : starEach (e :: es) X.env = (false, eval e X.env) :: starEach es X.env := by rfl) (hplain : (backTo cpos (starEach es X.env)).any (·.1) = false := by rfl) :
    PE X (.Call (.Attribute o name apos) (e :: es) [] cpos) (tBM K T r to t) := h ▸ pe_bm pa slot hty hm ho ha hbase hfew hline hs hplain
/-- small data: lists of it are shown, too -/
structure PlS (d : PyData) : Prop where
  p : pl d = true
  dep : d.depth ≤ 10
  blk : d.bulk ≤ 20000
theorem PlS.pl {d : PyData} (h : PlS d) : Pl d := ⟨h.p, by have := h.dep; omega, by have := h.blk; omega⟩
theorem PlS.list {ds : List PyData} (h : ∀ d ∈ ds, PlS d) (hl : ds.length ≤ 20) : Pl (.list ds) := by
  refine ⟨pl_list fun d hd => (h d hd).p, ?_, ?_⟩
  · have := depth_list fun d hd => (h d hd).dep
    omega
  · have a := bulk_list fun d hd => (h d hd).blk
    have : ds.length * (20000 + 1) ≤ 20 * 20001 := Nat.mul_le_mul_right _ hl
    omega
theorem PlS.ints {ns : List Int} (h : ∀ n ∈ ns, n.natAbs < 10 ^ 12) (hl : ns.length ≤ 20000) : PlS (.list (ns.map .int)) :=
  ⟨pl_list (pl_ints h), by have := depth_list (depth_ints ns); omega, by have := bulk_list (bulk_ints ns); rw [List.length_map] at this; omega⟩
end G
end
section
set_option maxRecDepth 100000
set_option maxHeartbeats 4000000
namespace C
open PySem PySem.Spec PyProof.Rows L2 G Lin
local macro_rules | `(tactic| walk_at "ev") => `(tactic| first
  | exact ev_var rfl | exact ev_int | exact ev_bl | exact ev_non | exact ev_str
  | (apply ev_op; (focus walk_at "ev"); (focus walk_at "ev"); (focus walk_at "op"))
  | (apply ev_cb; (focus walk_at "el"); (focus walk_at "fn"))
  | (apply ev_lst; (focus walk_at "el"); (show _ ≤ sizeLine; decide))
  | (apply ev_tup; (focus walk_at "el"); (show _ ≤ sizeLine; decide)))
local macro_rules | `(tactic| walk_at "el") => `(tactic| first
  | exact el_nil
  | (apply el_cons; (focus walk_at "ev"); (focus walk_at "el")))
local macro_rules | `(tactic| walk_at "fn") => `(tactic| first
  | exact fn_int | exact fn_len | exact fn_all | exact fn_listL | exact fn_listT)
local macro_rules | `(tactic| walk_at "op") => `(tactic| first
  | exact op_I0 (fun _ => .int _) | exact op_I0 (fun _ => .bl _) | exact opp_1 (op_I0 fun _ => .int _)
  | exact op_I (by show (_ : Int) ≠ 0; decide) (fun _ => .int _)
  | exact op_I (by assumption) (fun _ => .int _)
  | exact opp_1 (op_I (by assumption) fun _ => .int _)
  | exact opp_1 (opp_ixL (i := 0) rfl) | exact opp_2 (opp_ixT (i := 0) rfl) | exact opp_2 (opp_ixT (i := 1) rfl) | exact opp_2 (opp_ixT (i := 2) rfl))
/-! what each def does, by data -/
def isBelowD (x : PyData) (n : Int) : Bool := match x with
  | .int i => decide (0 ≤ i) && decide (i < n)
  | _ => false
def isFromD (x : PyData) (n : Int) : Bool := match x with
  | .int i => decide (n ≤ i)
  | _ => false
def isWholeD (x : PyData) : Bool := isIntD x && !isBoolD x
abbrev intsD (ns : List Int) : List PyData := ns.map .int
def p_is_whole (ds : List PyData) (d : PyData) : Prop := ∃ x, ds = [x] ∧ d = .bool (isWholeD x)
def p_is_below (ds : List PyData) (d : PyData) : Prop := ∃ x n, ds = [x, .int n] ∧ d = .bool (isBelowD x n)
def p_is_from (ds : List PyData) (d : PyData) : Prop := ∃ x n, ds = [x, .int n] ∧ d = .bool (isFromD x n)
def p_are_below (ds : List PyData) (d : PyData) : Prop := ∃ ns n, ds = [.list (intsD ns), .int n] ∧ ns.length ≤ 1000 ∧ (∀ x ∈ ns, 0 ≤ x ∧ x < n) ∧ d = .bool true
def p_is_each_once (ds : List PyData) (d : PyData) : Prop := ∃ (ns : List Int) (n : Nat), ds = [.list (intsD ns), .int n] ∧ ns.length = n ∧ n ≤ 1000 ∧ (∀ x ∈ ns, 0 ≤ x ∧ x < n) ∧ ns.Nodup ∧ d = .bool true
def prodI (os : List Int) : Int := os.foldl (· * ·) 1
def Ords (os : List Int) : Prop := os ≠ [] ∧ (∀ o ∈ os, 2 ≤ o) ∧ prodI os ≤ 1000
def p_size_of (ds : List PyData) (d : PyData) : Prop := ∃ os, ds = [.tuple (intsD os)] ∧ Ords os ∧ d = .int (prodI os)
theorem ar_is_whole (ds : List PyData) (d : PyData) (h : p_is_whole ds d) : ds.length = 1 := by obtain ⟨x, rfl, _⟩ := h; rfl
theorem ar_is_below (ds : List PyData) (d : PyData) (h : p_is_below ds d) : ds.length = 2 := by obtain ⟨x, n, rfl, _⟩ := h; rfl
theorem ar_is_from (ds : List PyData) (d : PyData) (h : p_is_from ds d) : ds.length = 2 := by obtain ⟨x, n, rfl, _⟩ := h; rfl
theorem ar_are_below (ds : List PyData) (d : PyData) (h : p_are_below ds d) : ds.length = 2 := by obtain ⟨x, n, rfl, _⟩ := h; rfl
theorem ar_is_each_once (ds : List PyData) (d : PyData) (h : p_is_each_once ds d) : ds.length = 2 := by obtain ⟨x, n, rfl, _⟩ := h; rfl
theorem ar_size_of (ds : List PyData) (d : PyData) (h : p_size_of ds d) : ds.length = 1 := by obtain ⟨x, rfl, _⟩ := h; rfl
theorem sh_int (i : Int) : SeqAt.shaped (.int i) = true := by simp [SeqAt.shaped, PyData.canLay0, PyData.depth]
theorem eqv_int (i j : Int) : PyData.eqv (.int i) (.int j) = (i == j) := by simp [PyData.eqv]
theorem at_ints {ns : List Int} {i : Nat} {e : PyData} (h : (intsD ns)[i]? = some e) : ∃ o, ns[i]? = some o ∧ e = .int o := by
  rw [List.getElem?_map] at h
  cases q : ns[i]? with
  | none => rw [q] at h; cases h
  | some o => rw [q] at h; exact ⟨o, rfl, (Option.some.inj h).symm⟩
theorem take_prod {os : List Int} {i : Nat} {o : Int} (h : os[i]? = some o) : prodI (os.take (i + 1)) = prodI (os.take i) * o := by
  unfold prodI
  rw [List.take_add_one, h, List.foldl_append]
  rfl
theorem prod_from (os : List Int) : ∀ z : Int, os.foldl (· * ·) z = z * prodI os := by
  induction os with
  | nil => intro z; show z = z * 1; omega
  | cons o os ih =>
    intro z
    show os.foldl (· * ·) (z * o) = z * (os.foldl (· * ·) (1 * o))
    rw [ih, ih (1 * o), Int.one_mul, Int.mul_assoc]
theorem prod_app (a b : List Int) : prodI (a ++ b) = prodI a * prodI b := by
  show (a ++ b).foldl (· * ·) 1 = _
  rw [List.foldl_append, prod_from]
  rfl
theorem prod_pos : ∀ {os : List Int}, (∀ o ∈ os, 2 ≤ o) → 1 ≤ prodI os
  | [], _ => Int.le_refl 1
  | o :: os, h => by
    have q := prod_pos (os := os) fun x hx => h x (List.mem_cons_of_mem _ hx)
    have e : prodI (o :: os) = o * prodI os := by
      show os.foldl (· * ·) (1 * o) = _
      rw [prod_from, Int.one_mul]
    have h2 := h o (List.mem_cons_self ..)
    rw [e]
    have := Int.mul_le_mul (a := 1) (b := 1) (c := o) (d := prodI os) (by omega) q (by omega) (by omega)
    omega
theorem prod_take_le {os : List Int} (h : Ords os) (i : Nat) : 1 ≤ prodI (os.take i) ∧ prodI (os.take i) ≤ 1000 := by
  have p1 := prod_pos (os := os.take i) fun o ho => h.2.1 o (List.mem_of_mem_take ho)
  have p2 := prod_pos (os := os.drop i) fun o ho => h.2.1 o (List.mem_of_mem_drop ho)
  have e : prodI os = prodI (os.take i) * prodI (os.drop i) := by rw [← prod_app, List.take_append_drop]
  have h3 := h.2.2
  refine ⟨p1, ?_⟩
  rw [e] at h3
  have := Int.mul_le_mul (a := prodI (os.take i)) (b := 1) (c := prodI (os.take i)) (d := prodI (os.drop i)) (Int.le_refl _) p2 (by omega) (by omega)
  omega
theorem ord_le {os : List Int} (h : Ords os) {o : Int} (ho : o ∈ os) : 2 ≤ o ∧ o ≤ 1000 := by
  refine ⟨h.2.1 o ho, ?_⟩
  obtain ⟨i, hi⟩ := List.mem_iff_getElem?.mp ho
  have a := prod_take_le h (i + 1)
  have b := prod_take_le h i
  rw [take_prod hi] at a
  have := Int.mul_le_mul (a := 1) (b := o) (c := prodI (os.take i)) (d := o) b.1 (Int.le_refl _) (by have := h.2.1 o ho; omega) (by omega)
  omega
def hashI (s n : Int) : Int := ((((s * 1140671 + 27644437 * n * n + 131 * n + 19).fmod 2147483629) * ((s * 1140671 + 27644437 * n * n + 131 * n + 19).fmod 2147483629) + 62089 * n + 32416187).fmod 2147483587 * 48271).fmod 2147483647
def p_law_hash (ds : List PyData) (d : PyData) : Prop := ∃ s n : Int, ds = [.int s, .int n] ∧ 0 ≤ s ∧ s < 2147483647 ∧ 0 ≤ n ∧ n ≤ 2 ^ 40 ∧ d = .int (hashI s n)
theorem ar_law_hash (ds : List PyData) (d : PyData) (h : p_law_hash ds d) : ds.length = 2 := by obtain ⟨x, n, rfl, _⟩ := h; rfl
theorem fmod_rng (x : Int) {m : Int} (h : 0 < m) : 0 ≤ x.fmod m ∧ x.fmod m < m := ⟨Int.fmod_nonneg_of_pos x h, Int.fmod_lt_of_pos x h⟩
theorem hash_rng (s n : Int) : 0 ≤ hashI s n ∧ hashI s n < 2147483647 := fmod_rng _ (by decide)
theorem abs_mul {i j : Int} {a b : Nat} (h : i.natAbs < 2 ^ a) (k : j.natAbs < 2 ^ b) : (i * j).natAbs < 2 ^ (a + b) := by
  rw [Int.natAbs_mul, Nat.pow_add]
  exact Nat.mul_lt_mul'' h k
theorem abs_of {i : Int} {n : Nat} (h : 0 ≤ i) (l : i < (n : Int)) : i.natAbs < n := by omega
theorem bits_le {b : Int} (h0 : 0 < b) (h1 : b < 2 ^ 100) : Builtin.Int.intBits b ≤ 100 := by
  unfold Builtin.Int.intBits
  rw [if_neg (by simp; omega)]
  have h : b.natAbs.log2 < 100 := (Nat.log2_lt (by omega)).mpr (by omega)
  omega
theorem rev_ints (os : List Int) : (intsD os).reverse = intsD os.reverse := (List.map_reverse ..).symm
theorem prod_R : ∀ r : List Int, prodR r = prodI r
  | [] => rfl
  | o :: r => by
    show o * prodR r = r.foldl (· * ·) (1 * o)
    rw [prod_from, Int.one_mul, prod_R r]
theorem prod_rev (os : List Int) : prodI os.reverse = prodI os := by
  induction os with
  | nil => rfl
  | cons o os ih =>
    rw [List.reverse_cons, prod_app, ih]
    show prodI os * (1 * o) = os.foldl (· * ·) (1 * o)
    rw [prod_from, Int.one_mul, Int.mul_comm]
theorem Ords.rev {os : List Int} (h : Ords os) : Ords os.reverse := ⟨by simpa using h.1, fun o ho => h.2.1 o (List.mem_reverse.mp ho), by rw [prod_rev]; exact h.2.2⟩
theorem Ords.pos {os : List Int} (h : Ords os) : Pos os.reverse := fun o ho => h.2.1 o (List.mem_reverse.mp ho)
theorem Ords.n {os : List Int} (h : Ords os) : prodR os.reverse = prodI os := by rw [prod_R, prod_rev]
def p_plus (ds : List PyData) (d : PyData) : Prop := ∃ os a b, ds = [.tuple (intsD os), .int a, .int b] ∧ Ords os ∧ d = .int (linR os.reverse [a, b] [])
def p_minus (ds : List PyData) (d : PyData) : Prop := ∃ os a b, ds = [.tuple (intsD os), .int a, .int b] ∧ Ords os ∧ d = .int (linR os.reverse [a] [b])
def p_sum_up (ds : List PyData) (d : PyData) : Prop := ∃ os xs, ds = [.tuple (intsD os), .list (intsD xs)] ∧ Ords os ∧ d = .int (linR os.reverse xs [])
def p_power (ds : List PyData) (d : PyData) : Prop := ∃ (a : Int) (n : Nat), ds = [.int a, .int n] ∧ 0 ≤ a ∧ a ≤ 1000 ∧ n ≤ 1000 ∧ d = .int (a ^ n)
theorem ar_plus (ds : List PyData) (d : PyData) (h : p_plus ds d) : ds.length = 3 := by obtain ⟨x, n, m, rfl, _⟩ := h; rfl
theorem ar_minus (ds : List PyData) (d : PyData) (h : p_minus ds d) : ds.length = 3 := by obtain ⟨x, n, m, rfl, _⟩ := h; rfl
theorem ar_sum_up (ds : List PyData) (d : PyData) (h : p_sum_up ds d) : ds.length = 2 := by obtain ⟨x, n, rfl, _⟩ := h; rfl
theorem ar_power (ds : List PyData) (d : PyData) (h : p_power ds d) : ds.length = 2 := by obtain ⟨x, n, rfl, _⟩ := h; rfl
theorem step_lin {o : Int} {r : List Int} (h : 2 ≤ o) {t w m k : Int} {z : Int} (e : t + w * linR (o :: r) [m, k] [] = z) : (t + (m + k).fmod o * w) + (w * o) * linR r [m / o, k / o] [] = z := by
  rw [← e, Int.fmod_eq_emod_of_nonneg _ (by omega)]
  have q : linR (o :: r) [m, k] [] = (m + k) % o + o * linR r [m / o, k / o] [] := by
    show ([m, k].sum - ([] : List Int).sum) % o + o * linR r [m / o, k / o] [] = _
    have : [m, k].sum - ([] : List Int).sum = m + k := by simp
    rw [this]
  rw [q, Int.mul_add, Int.mul_comm w ((m + k) % o), Int.mul_assoc]
  omega
theorem step_lis {o : Int} {r : List Int} (h : 2 ≤ o) {t w m k : Int} {z : Int} (e : t + w * linR (o :: r) [m] [k] = z) : (t + (m - k).fmod o * w) + (w * o) * linR r [m / o] [k / o] = z := by
  rw [← e, Int.fmod_eq_emod_of_nonneg _ (by omega)]
  have q : linR (o :: r) [m] [k] = (m - k) % o + o * linR r [m / o] [k / o] := by
    show ([m].sum - [k].sum) % o + o * linR r [m / o] [k / o] = _
    have : [m].sum - [k].sum = m - k := by simp
    rw [this]
  rw [q, Int.mul_add, Int.mul_comm w ((m - k) % o), Int.mul_assoc]
  omega
theorem drop_at {α : Type} {r : List α} {i : Nat} {o : α} (h : r[i]? = some o) : r.drop i = o :: r.drop (i + 1) := by
  obtain ⟨l, e⟩ := List.getElem?_eq_some_iff.mp h
  rw [List.drop_eq_getElem_cons l, e]
theorem mulW_small {i j : Int} (h1 : -1000000 ≤ i) (h2 : i ≤ 1000000) (h3 : -1000000 ≤ j) (h4 : j ≤ 1000000) : CMulW i j := wide_mul (a := 21) (b := 21) (by omega) (by omega) (by decide) (by decide) (by decide)
theorem divW_small {i j : Int} (h1 : 0 < j) (h2 : j ≤ 1000000) : CDivW i j := wide_div h1 (b := 21) (by omega) (by decide) (by decide)
/-! systems -/
structure Tab (n : Int) (t : List Int) : Prop where
  len : (t.length : Int) = n
  mem : ∀ x ∈ t, 0 ≤ x ∧ x < n
  nd : t.Nodup
structure Sys (os : List Int) (ts : List (List Int)) (tot : Int) : Prop where
  ord : Ords os
  two : 2 ≤ ts.length
  few : ts.length ≤ 100
  tabs : ∀ t ∈ ts, Tab (prodI os) t
  t0 : 0 ≤ tot
  t1 : tot < prodI os
def tabsD (ts : List (List Int)) : List PyData := ts.map fun t => .list (intsD t)
def sysD (os : List Int) (ts : List (List Int)) (tot : Int) : PyData := .tuple [.tuple (intsD os), .list (tabsD ts), .int tot]
structure Code (os : List Int) (ts : List (List Int)) (cs : List Int) : Prop where
  len : cs.length = ts.length
  mem : ∀ x ∈ cs, 0 ≤ x ∧ x < prodI os
def vals (ts : List (List Int)) (cs : List Int) : List Int := List.zipWith (fun t c => t.getD c.toNat 0) ts cs
def p_are_orders (ds : List PyData) (d : PyData) : Prop := ∃ os, ds = [.tuple (intsD os)] ∧ Ords os ∧ os.length ≤ 100 ∧ d = .bool true
def p_is_system (ds : List PyData) (d : PyData) : Prop := ∃ os ts tot, ds = [sysD os ts tot] ∧ Sys os ts tot ∧ d = .bool true
def p_check_system (ds : List PyData) (d : PyData) : Prop := ∃ os ts tot, ds = [sysD os ts tot] ∧ Sys os ts tot ∧ d = .none
def p_is_code_of (ds : List PyData) (d : PyData) : Prop := ∃ os ts tot cs, ds = [sysD os ts tot, .list (intsD cs)] ∧ Sys os ts tot ∧ Code os ts cs ∧ d = .bool true
def p_check_code (ds : List PyData) (d : PyData) : Prop := ∃ os ts tot cs, ds = [sysD os ts tot, .list (intsD cs)] ∧ Sys os ts tot ∧ Code os ts cs ∧ d = .none
def p_sum_borne (ds : List PyData) (d : PyData) : Prop := ∃ os ts tot cs, ds = [sysD os ts tot, .list (intsD cs)] ∧ Sys os ts tot ∧ Code os ts cs ∧ d = .int (linR os.reverse (vals ts cs) [])
def p_off_by (ds : List PyData) (d : PyData) : Prop := ∃ os ts tot cs, ds = [sysD os ts tot, .list (intsD cs)] ∧ Sys os ts tot ∧ Code os ts cs ∧ d = .int (linR os.reverse (vals ts cs) [tot])
def p_check_place (ds : List PyData) (d : PyData) : Prop := ∃ os ts tot p, ds = [sysD os ts tot, .int p] ∧ Sys os ts tot ∧ 0 ≤ p ∧ p < (ts.length : Int) ∧ d = .none
def p_how_many_codes (ds : List PyData) (d : PyData) : Prop := ∃ os ts tot, ds = [sysD os ts tot] ∧ Sys os ts tot ∧ d = .int (prodI os ^ (ts.length - 1))
theorem ar_are_orders (ds : List PyData) (d : PyData) (h : p_are_orders ds d) : ds.length = 1 := by obtain ⟨_, rfl, _⟩ := h; rfl
theorem ar_is_system (ds : List PyData) (d : PyData) (h : p_is_system ds d) : ds.length = 1 := by obtain ⟨_, _, _, rfl, _⟩ := h; rfl
theorem ar_check_system (ds : List PyData) (d : PyData) (h : p_check_system ds d) : ds.length = 1 := by obtain ⟨_, _, _, rfl, _⟩ := h; rfl
theorem ar_is_code_of (ds : List PyData) (d : PyData) (h : p_is_code_of ds d) : ds.length = 2 := by obtain ⟨_, _, _, _, rfl, _⟩ := h; rfl
theorem ar_check_code (ds : List PyData) (d : PyData) (h : p_check_code ds d) : ds.length = 2 := by obtain ⟨_, _, _, _, rfl, _⟩ := h; rfl
theorem ar_sum_borne (ds : List PyData) (d : PyData) (h : p_sum_borne ds d) : ds.length = 2 := by obtain ⟨_, _, _, _, rfl, _⟩ := h; rfl
theorem ar_off_by (ds : List PyData) (d : PyData) (h : p_off_by ds d) : ds.length = 2 := by obtain ⟨_, _, _, _, rfl, _⟩ := h; rfl
theorem ar_check_place (ds : List PyData) (d : PyData) (h : p_check_place ds d) : ds.length = 2 := by obtain ⟨_, _, _, _, rfl, _⟩ := h; rfl
theorem ar_how_many_codes (ds : List PyData) (d : PyData) (h : p_how_many_codes ds d) : ds.length = 1 := by obtain ⟨_, _, _, rfl, _⟩ := h; rfl
theorem ords_len {os : List Int} (h : Ords os) : os.length ≤ 10 := by
  have two : ∀ l : List Int, (∀ o ∈ l, 2 ≤ o) → (2 : Int) ^ l.length ≤ prodI l := fun l => by
    induction l with
    | nil => intro _; exact Int.le_refl 1
    | cons o l ih =>
      intro hl
      have a := ih fun x hx => hl x (List.mem_cons_of_mem _ hx)
      have b := hl o (List.mem_cons_self ..)
      have e : prodI (o :: l) = o * prodI l := by
        show l.foldl (· * ·) (1 * o) = _
        rw [prod_from, Int.one_mul]
      rw [e, List.length_cons, Int.pow_succ, Int.mul_comm]
      have z : (0 : Int) ≤ 2 ^ l.length := Int.le_of_lt (Int.pow_pos (by decide))
      exact Int.mul_le_mul b a z (by omega)
  have t := two os h.2.1
  have u := h.2.2
  refine Decidable.byContradiction fun c => ?_
  have k : (2 : Nat) ^ 11 ≤ 2 ^ os.length := Nat.pow_le_pow_right (by decide) (by omega)
  have k2 : ((2 ^ os.length : Nat) : Int) = (2 : Int) ^ os.length := by simp
  omega
theorem at_tabs {ts : List (List Int)} {i : Nat} {t : List Int} (h : ts[i]? = some t) : (tabsD ts)[i]? = some (.list (intsD t)) := by
  unfold tabsD
  rw [List.getElem?_map, h]
  rfl
theorem tabs_len (ts : List (List Int)) : (tabsD ts).length = ts.length := by unfold tabsD; simp
theorem ints_len (ns : List Int) : (intsD ns).length = ns.length := List.length_map ..
theorem get_ints {ns : List Int} {i : Nat} (h : i < ns.length) : (intsD ns)[i]? = some (.int (ns.getD i 0)) := by
  rw [List.getElem?_map, List.getElem?_eq_getElem h]
  simp [List.getD, h]
theorem zip_vals : ∀ (ts : List (List Int)) (cs : List Int) , (zipD (tabsD ts) (intsD cs)) = List.zipWith (fun t c => .tuple [.list (intsD t), .int c]) ts cs
  | [], _ => rfl
  | t :: ts, [] => by unfold zipD tabsD; simp
  | t :: ts, c :: cs => by
    have ih := zip_vals ts cs
    unfold zipD tabsD at ih ⊢
    simp only [List.map_cons, List.zip_cons_cons, List.zipWith_cons_cons]
    rw [← ih]
def tabMark : PyData → PyData
  | .tuple [.list t, .int c] => t.getD c.toNat .none
  | _ => .none
theorem mem_zw {f : List Int → Int → PyData} : ∀ {ts : List (List Int)} {cs : List Int} {e : PyData}, e ∈ List.zipWith f ts cs → ∃ t c, t ∈ ts ∧ c ∈ cs ∧ e = f t c
  | [], _, _, h => by simp at h
  | _ :: _, [], _, h => by simp at h
  | t :: ts, c :: cs, e, h => by
    rw [List.zipWith_cons_cons] at h
    rcases List.mem_cons.mp h with rfl | h
    · exact ⟨t, c, List.mem_cons_self .., List.mem_cons_self .., rfl⟩
    · obtain ⟨a, b, h1, h2, h3⟩ := mem_zw h
      exact ⟨a, b, List.mem_cons_of_mem _ h1, List.mem_cons_of_mem _ h2, h3⟩
theorem mark_at {t : List Int} {c : Int} (h0 : 0 ≤ c) (h1 : c < (t.length : Int)) : (intsD t)[c.toNat]? = some (.int (t.getD c.toNat 0)) := get_ints (by omega)
theorem map_marks : ∀ {ts : List (List Int)} {cs : List Int}, (∀ t ∈ ts, ∀ c ∈ cs, 0 ≤ c ∧ c < (t.length : Int)) → (List.zipWith (fun t c => PyData.tuple [.list (intsD t), .int c]) ts cs).map tabMark = intsD (vals ts cs)
  | [], _, _ => rfl
  | _ :: _, [], _ => rfl
  | t :: ts, c :: cs, h => by
    have ih := map_marks (ts := ts) (cs := cs) fun a ha b hb => h a (List.mem_cons_of_mem _ ha) b (List.mem_cons_of_mem _ hb)
    have hc := h t (List.mem_cons_self ..) c (List.mem_cons_self ..)
    have e : tabMark (.tuple [.list (intsD t), .int c]) = .int (t.getD c.toNat 0) := by
      have q := mark_at hc.1 hc.2
      show (intsD t).getD c.toNat .none = _
      rw [List.getD_eq_getElem?_getD, q]
      rfl
    show tabMark (.tuple [.list (intsD t), .int c]) :: List.map tabMark (List.zipWith _ ts cs) = .int (t.getD c.toNat 0) :: intsD (vals ts cs)
    rw [e, ih]
theorem Code.in_ {os : List Int} {ts : List (List Int)} {tot : Int} {cs : List Int} (hs : Sys os ts tot) (hc : Code os ts cs) : ∀ t ∈ ts, ∀ c ∈ cs, 0 ≤ c ∧ c < (t.length : Int) := fun t ht c hcm => by
  rw [(hs.tabs t ht).len]
  exact hc.mem c hcm
/-! the sign that is wanted -/
def rest (ts : List (List Int)) (cs : List Int) (p : Nat) : List Int := (vals ts cs).eraseIdx p
def p_sign_wanted (ds : List PyData) (d : PyData) : Prop := ∃ (os : List Int) (ts : List (List Int)) (tot : Int) (cs : List Int) (p w : Nat) (t : List Int), ds = [sysD os ts tot, .list (intsD cs), .int p] ∧ Sys os ts tot ∧ Code os ts cs ∧ ts[p]? = some t ∧ t[w]? = some (linR os.reverse [tot] (rest ts cs p)) ∧ d = .int w
def p_set_right (ds : List PyData) (d : PyData) : Prop := ∃ (os : List Int) (ts : List (List Int)) (tot : Int) (cs : List Int) (p w : Nat) (t : List Int), ds = [sysD os ts tot, .list (intsD cs), .int p] ∧ Sys os ts tot ∧ Code os ts cs ∧ ts[p]? = some t ∧ t[w]? = some (linR os.reverse [tot] (rest ts cs p)) ∧ d = .list (intsD (cs.set p w))
theorem ar_sign_wanted (ds : List PyData) (d : PyData) (h : p_sign_wanted ds d) : ds.length = 3 := by obtain ⟨_, _, _, _, _, _, _, rfl, _⟩ := h; rfl
theorem ar_set_right (ds : List PyData) (d : PyData) (h : p_set_right ds d) : ds.length = 3 := by obtain ⟨_, _, _, _, _, _, _, rfl, _⟩ := h; rfl
theorem perm_erase : ∀ {xs : List Int} {p : Nat} {x : Int}, xs[p]? = some x → xs.Perm (x :: xs.eraseIdx p)
  | [], _, _, h => by simp at h
  | y :: xs, 0, x, h => by
    simp at h
    subst h
    exact List.Perm.refl _
  | y :: xs, p + 1, x, h => by
    have ih := perm_erase (xs := xs) (p := p) (by simpa using h)
    exact (ih.cons y).trans (List.Perm.swap x y _)
theorem vals_at : ∀ {ts : List (List Int)} {cs : List Int} {p : Nat} {t : List Int} {c : Int}, ts[p]? = some t → cs[p]? = some c → (vals ts cs)[p]? = some (t.getD c.toNat 0)
  | [], _, _, _, _, h, _ => by simp at h
  | _ :: _, [], _, _, _, _, h => by simp at h
  | t :: ts, c :: cs, 0, _, _, h, k => by
    simp at h k
    subst h
    subst k
    rfl
  | t :: ts, c :: cs, p + 1, _, _, h, k => vals_at (ts := ts) (cs := cs) (p := p) (by simpa using h) (by simpa using k)
theorem wanted_eq {os : List Int} {ts : List (List Int)} {tot : Int} {cs : List Int} (hs : Sys os ts tot) {p : Nat} {x : Int} (h : (vals ts cs)[p]? = some x) :
    linR os.reverse [x] [linR os.reverse (vals ts cs) [tot]] = linR os.reverse [tot] (rest ts cs p) := by
  have a := lin_out hs.ord.pos [x] [] (vals ts cs) [tot]
  rw [List.append_nil] at a
  rw [a]
  have b := lin_perm (r := os.reverse) (ps := [tot] ++ [x]) (qs := x :: [tot]) (List.Perm.swap x tot []) (perm_erase h)
  rw [b, lin_cancel]
  rfl
def exI (os : List Int) (ts : List (List Int)) (cs : List Int) (tot : Int) : Int := linR os.reverse [linR os.reverse (vals ts cs) []] [tot]
theorem ex_eq {os : List Int} {ts : List (List Int)} {tot : Int} {cs : List Int} (hs : Sys os ts tot) : exI os ts cs tot = linR os.reverse (vals ts cs) [tot] := by
  have e := lin_in hs.ord.pos [] [tot] (vals ts cs) []
  rw [List.append_nil] at e
  exact e
theorem cut_to {xs : List PyData} {p : Nat} (h : p ≤ xs.length) : G.cutD xs none (some (p : Int)) = xs.take p := by
  unfold G.cutD
  rw [HT.sIx_none, HT.sIx_nat, Nat.min_eq_left h, Nat.sub_zero, List.drop_zero]
theorem cut_from {xs : List PyData} {p : Nat} (h : p ≤ xs.length) : G.cutD xs (some (p : Int)) none = xs.drop p := by
  unfold G.cutD
  rw [HT.sIx_none, HT.sIx_nat, Nat.min_eq_left h]
  exact List.take_of_length_le (by rw [List.length_drop]; exact Nat.le_refl _)
theorem put_eq {cs : List Int} {p : Nat} {w : Int} (h : p < cs.length) : (intsD cs).take p ++ [.int w] ++ (intsD cs).drop (p + 1) = intsD (cs.set p w) := by
  have e : cs.set p w = cs.take p ++ w :: cs.drop (p + 1) := List.set_eq_take_append_cons_drop .. |>.trans (by rw [if_pos h])
  rw [e, List.append_assoc]
  show _ = (cs.take p ++ w :: cs.drop (p + 1)).map PyData.int
  rw [List.map_append, List.map_cons, List.map_take, List.map_drop]
  rfl
theorem ev_to {K : PySem.W.Frag} {ta tb : TE} {ρ : Rho} {xs : List PyData} {p : Nat} (ha : Ev K ta ρ (.list xs)) (hb : Ev K tb ρ (.int (p : Int))) (h : p ≤ xs.length) : Ev K (tSl (rSlL K) ta tNoPart (tPart tb)) ρ (.list (xs.take p)) := by
  rw [← cut_to h]
  exact ev_slL ha eo_none (eo_some hb)
theorem ev_fr {K : PySem.W.Frag} {ta tb : TE} {ρ : Rho} {xs : List PyData} {p : Nat} (ha : Ev K ta ρ (.list xs)) (hb : Ev K tb ρ (.int (p : Int))) (h : p ≤ xs.length) : Ev K (tSl (rSlL K) ta (tPart tb) tNoPart) ρ (.list (xs.drop p)) := by
  rw [← cut_from h]
  exact ev_slL ha (eo_some hb) eo_none
/-- cs[:p] + [w] + cs[p + 1:] -/
theorem ev_put {K : PySem.W.Frag} {ta tb tc tw : TE} {ρ : Rho} {cs : List Int} {p : Nat} {w : Int} (ha : Ev K ta ρ (.list (intsD cs))) (hb : Ev K tb ρ (.int (p : Int))) (hc : Ev K tc ρ (.int ((p + 1 : Nat) : Int))) (hw : Ev K tw ρ (.int w)) (h : p < cs.length) (hl : cs.length ≤ 1000) {r r' : R2}
    (hr : ∀ {x y z : PyData}, Op2 K rCat x y z → Op2 K r x y z) (hr' : ∀ {x y z : PyData}, Op2 K rCat x y z → Op2 K r' x y z) :
    Ev K (tOp r' (tOp r (tSl (rSlL K) ta tNoPart (tPart tb)) (tLst (tCons tw tNil))) (tSl (rSlL K) ta (tPart tc) tNoPart)) ρ (.list (intsD (cs.set p w))) := by
  rw [← put_eq h]
  have l1 : ((intsD cs).take p).length ≤ 1000 := by rw [List.length_take, ints_len]; omega
  have l2 : ((intsD cs).drop (p + 1)).length ≤ 1000 := by rw [List.length_drop, ints_len]; omega
  refine ev_op (ev_op (ev_to ha hb (by rw [ints_len]; omega)) (ev_lst (el_cons hw el_nil) (by show 1 ≤ sizeLine; decide)) (hr (opp_cat ?_))) (ev_fr ha hc (by rw [ints_len]; omega)) (hr' (opp_cat ?_))
  · rw [sizeLine_eq]
    show _ + 1 ≤ _
    omega
  · rw [sizeLine_eq, List.length_append]
    show _ + 1 + _ ≤ _
    omega
/-! the law's own figures -/
def digR : List Int → Int → List Int
  | [], _ => []
  | o :: r, x => x % o :: digR r (x / o)
def fromR : List Int → List Int → Int
  | o :: r, p :: ps => p % o + o * fromR r ps
  | _, _ => 0
def divR (r : List Int) (x : Int) : Int := r.foldl (fun y o => y / o) x
theorem digR_len : ∀ (r : List Int) (x : Int), (digR r x).length = r.length
  | [], _ => rfl
  | o :: r, x => by
    show (digR r (x / o)).length + 1 = r.length + 1
    rw [digR_len r]
theorem digR_snoc : ∀ (r : List Int) (o x : Int), digR (r ++ [o]) x = digR r x ++ [divR r x % o]
  | [], _, _ => rfl
  | a :: r, o, x => by
    show x % a :: digR (r ++ [o]) (x / a) = x % a :: (digR r (x / a) ++ [divR r (x / a) % o])
    rw [digR_snoc r o (x / a)]
theorem divR_snoc (r : List Int) (o x : Int) : divR (r ++ [o]) x = divR r x / o := by
  unfold divR
  rw [List.foldl_append]
  rfl
theorem fromR_rng : ∀ {r : List Int}, Pos r → ∀ ps, 0 ≤ fromR r ps ∧ fromR r ps < prodR r
  | [], _, ps => by cases ps <;> exact ⟨Int.le_refl 0, (by decide : (0 : Int) < 1)⟩
  | o :: r, h, [] => by
    have := prodR_pos h
    exact ⟨Int.le_refl 0, by show (0 : Int) < _; omega⟩
  | o :: r, h, p :: ps => by
    have ih := fromR_rng h.tail ps
    have h0 := h.head
    have a0 := Int.emod_nonneg p (show o ≠ 0 by omega)
    have a1 := Int.emod_lt_of_pos p (show 0 < o by omega)
    show 0 ≤ p % o + o * fromR r ps ∧ p % o + o * fromR r ps < o * prodR r
    have b0 : 0 ≤ o * fromR r ps := Int.mul_nonneg (by omega) ih.1
    have b1 : o * (fromR r ps + 1) ≤ o * prodR r := Int.mul_le_mul_of_nonneg_left (by omega) (by omega)
    rw [Int.mul_add] at b1
    omega
theorem from_add : ∀ {r : List Int}, Pos r → ∀ a b, fromR r (List.zipWith (· + ·) (digR r a) (digR r b)) = linR r [a, b] []
  | [], _, _, _ => rfl
  | o :: r, h, a, b => by
    have h0 := h.head
    show (a % o + b % o) % o + o * fromR r (List.zipWith (· + ·) (digR r (a / o)) (digR r (b / o))) = ([a, b].sum - ([] : List Int).sum) % o + o * linR r [a / o, b / o] []
    rw [from_add h.tail]
    have e : [a, b].sum - ([] : List Int).sum = a + b := by simp
    rw [e, ← Int.add_emod]
theorem from_sub : ∀ {r : List Int}, Pos r → ∀ a b, fromR r (List.zipWith (· - ·) (digR r a) (digR r b)) = linR r [a] [b]
  | [], _, _, _ => rfl
  | o :: r, h, a, b => by
    have h0 := h.head
    show (a % o - b % o) % o + o * fromR r (List.zipWith (· - ·) (digR r (a / o)) (digR r (b / o))) = ([a].sum - [b].sum) % o + o * linR r [a / o] [b / o]
    rw [from_sub h.tail]
    have e : [a].sum - [b].sum = a - b := by simp
    rw [e, ← Int.sub_emod]
def p_law_size (ds : List PyData) (d : PyData) : Prop := ∃ os, ds = [.tuple (intsD os)] ∧ Ords os ∧ d = .int (prodI os)
def p_law_parts (ds : List PyData) (d : PyData) : Prop := ∃ os x, ds = [.tuple (intsD os), .int x] ∧ Ords os ∧ d = .list (intsD (digR os.reverse x).reverse)
def p_law_from (ds : List PyData) (d : PyData) : Prop := ∃ os ps, ds = [.tuple (intsD os), .list (intsD ps)] ∧ Ords os ∧ ps.length = os.length ∧ d = .int (fromR os.reverse ps.reverse)
def p_law_plus (ds : List PyData) (d : PyData) : Prop := ∃ os a b, ds = [.tuple (intsD os), .int a, .int b] ∧ Ords os ∧ d = .int (linR os.reverse [a, b] [])
def p_law_less (ds : List PyData) (d : PyData) : Prop := ∃ os a b, ds = [.tuple (intsD os), .int a, .int b] ∧ Ords os ∧ d = .int (linR os.reverse [a] [b])
def p_law_off (ds : List PyData) (d : PyData) : Prop := ∃ os ts tot cs, ds = [sysD os ts tot, .list (intsD cs)] ∧ Sys os ts tot ∧ Code os ts cs ∧ d = .int (linR os.reverse (vals ts cs) [tot])
def p_law_put (ds : List PyData) (d : PyData) : Prop := ∃ (cs : List Int) (p : Nat) (w : Int), ds = [.list (intsD cs), .int p, .int w] ∧ p < cs.length ∧ cs.length ≤ 1000 ∧ d = .list (intsD (cs.set p w))
theorem ar_law_size (ds : List PyData) (d : PyData) (h : p_law_size ds d) : ds.length = 1 := by obtain ⟨_, rfl, _⟩ := h; rfl
theorem ar_law_parts (ds : List PyData) (d : PyData) (h : p_law_parts ds d) : ds.length = 2 := by obtain ⟨_, _, rfl, _⟩ := h; rfl
theorem ar_law_from (ds : List PyData) (d : PyData) (h : p_law_from ds d) : ds.length = 2 := by obtain ⟨_, _, rfl, _⟩ := h; rfl
theorem ar_law_plus (ds : List PyData) (d : PyData) (h : p_law_plus ds d) : ds.length = 3 := by obtain ⟨_, _, _, rfl, _⟩ := h; rfl
theorem ar_law_less (ds : List PyData) (d : PyData) (h : p_law_less ds d) : ds.length = 3 := by obtain ⟨_, _, _, rfl, _⟩ := h; rfl
theorem ar_law_off (ds : List PyData) (d : PyData) (h : p_law_off ds d) : ds.length = 2 := by obtain ⟨_, _, _, _, rfl, _⟩ := h; rfl
theorem ar_law_put (ds : List PyData) (d : PyData) (h : p_law_put ds d) : ds.length = 3 := by obtain ⟨_, _, _, rfl, _⟩ := h; rfl
theorem take_snoc {α : Type} {r : List α} {i : Nat} {o : α} (h : r[i]? = some o) : r.take (i + 1) = r.take i ++ [o] := by rw [List.take_add_one, h]; rfl
def addP : PyData → PyData
  | .tuple [.int x, .int y] => .int (x + y)
  | _ => .none
def subP : PyData → PyData
  | .tuple [.int x, .int y] => .int (x - y)
  | _ => .none
theorem zip_ints : ∀ (xs ys : List Int), zipD (intsD xs) (intsD ys) = List.zipWith (fun x y => .tuple [.int x, .int y]) xs ys
  | [], _ => rfl
  | x :: xs, [] => rfl
  | x :: xs, y :: ys => by
    have ih := zip_ints xs ys
    show PyData.tuple [.int x, .int y] :: zipD (intsD xs) (intsD ys) = _
    rw [ih]
    rfl
theorem map_addP (xs ys : List Int) : (List.zipWith (fun x y => PyData.tuple [.int x, .int y]) xs ys).map addP = intsD (List.zipWith (· + ·) xs ys) := by
  rw [List.map_zipWith, intsD, List.map_zipWith]
  rfl
theorem map_subP (xs ys : List Int) : (List.zipWith (fun x y => PyData.tuple [.int x, .int y]) xs ys).map subP = intsD (List.zipWith (· - ·) xs ys) := by
  rw [List.map_zipWith, intsD, List.map_zipWith]
  rfl
theorem mem_zi : ∀ {xs ys : List Int} {e : PyData}, e ∈ List.zipWith (fun x y => PyData.tuple [.int x, .int y]) xs ys → ∃ x y, e = .tuple [.int x, .int y]
  | [], _, _, h => by simp at h
  | _ :: _, [], _, h => by simp at h
  | x :: xs, y :: ys, e, h => by
    rw [List.zipWith_cons_cons] at h
    rcases List.mem_cons.mp h with rfl | h
    · exact ⟨x, y, rfl⟩
    · exact mem_zi h
/-! all numbers, and just one sign -/
theorem nodup_le : ∀ {l S : List Int}, l.Nodup → (∀ x ∈ l, x ∈ S) → l.length ≤ S.length
  | [], _, _, _ => Nat.zero_le _
  | x :: l, S, nd, h => by
    have hx := h x (List.mem_cons_self ..)
    have nd' := List.nodup_cons.mp nd
    have ih := nodup_le (l := l) (S := S.erase x) nd'.2 fun y hy => by
      have ne : y ≠ x := fun e => nd'.1 (e ▸ hy)
      exact (List.mem_erase_of_ne ne).mpr (h y (List.mem_cons_of_mem _ hy))
    have e := List.length_erase_of_mem hx
    have p := List.length_pos_of_mem hx
    show l.length + 1 ≤ _
    omega
theorem Tab.has {n : Int} {t : List Int} (T : Tab n t) {v : Int} (h0 : 0 ≤ v) (h1 : v < n) : v ∈ t := by
  refine Decidable.byContradiction fun c => ?_
  have hv : v ∈ (List.range n.toNat).map (fun i : Nat => (i : Int)) := List.mem_map.mpr ⟨v.toNat, List.mem_range.mpr (by omega), by omega⟩
  have q := nodup_le (l := t) (S := ((List.range n.toNat).map (fun i : Nat => (i : Int))).erase v) T.nd fun y hy => by
    have ne : y ≠ v := fun e => c (e ▸ hy)
    have m := T.mem y hy
    exact (List.mem_erase_of_ne ne).mpr (List.mem_map.mpr ⟨y.toNat, List.mem_range.mpr (by omega), by omega⟩)
  rw [List.length_erase_of_mem hv, List.length_map, List.length_range] at q
  have := T.len
  omega
theorem Tab.one {n : Int} {t : List Int} (T : Tab n t) {v : Int} (h0 : 0 ≤ v) (h1 : v < n) : ∃ w : Nat, w < n.toNat ∧ t[w]? = some v ∧ ∀ m : Nat, t[m]? = some v → m = w := by
  obtain ⟨w, hw⟩ := List.mem_iff_getElem?.mp (T.has h0 h1)
  have l := (List.getElem?_eq_some_iff.mp hw).1
  refine ⟨w, by have := T.len; omega, hw, fun m hm => ?_⟩
  obtain ⟨l1, e1⟩ := List.getElem?_eq_some_iff.mp hm
  obtain ⟨l2, e2⟩ := List.getElem?_eq_some_iff.mp hw
  rcases Nat.lt_trichotomy m w with q | q | q
  · exact absurd (e1.trans e2.symm) (List.pairwise_iff_getElem.mp T.nd m w l1 l2 q)
  · exact q
  · exact absurd (e2.trans e1.symm) (List.pairwise_iff_getElem.mp T.nd w m l2 l1 q)
theorem filter_none {p : Nat → Bool} : ∀ (n : Nat), (∀ m, m < n → p m = false) → (List.range n).filter p = [] := fun n h => by
  rw [List.filter_eq_nil_iff]
  intro a ha
  rw [h a (List.mem_range.mp ha)]
  exact Bool.false_ne_true
theorem filter_one {p : Nat → Bool} {w : Nat} : ∀ (n : Nat), w < n → p w = true → (∀ m, m < n → p m = true → m = w) → (List.range n).filter p = [w]
  | 0, h, _, _ => by omega
  | n + 1, h, hw, hu => by
    rw [List.range_succ, List.filter_append]
    by_cases e : w = n
    · subst e
      rw [filter_none w fun m hm => by
        cases q : p m with
        | false => rfl
        | true => have := hu m (by omega) q; omega]
      rw [List.filter_cons, if_pos hw]
      rfl
    · rw [filter_one n (by omega) hw fun m hm q => hu m (by omega) q]
      have pn : p n = false := by
        cases q : p n with
        | false => rfl
        | true => have := hu n (by omega) q; omega
      rw [List.filter_cons, if_neg (by rw [pn]; exact Bool.false_ne_true)]
      rfl
/-- the sign that is wanted, and no other one -/
def wantV (os : List Int) (ts : List (List Int)) (tot : Int) (cs : List Int) (p : Nat) : Int := linR os.reverse [tot] (rest ts cs p)
theorem want_rng {os : List Int} {ts : List (List Int)} {tot : Int} {cs : List Int} {p : Nat} (hs : Sys os ts tot) : 0 ≤ wantV os ts tot cs p ∧ wantV os ts tot cs p < prodI os := by
  have := lin_rng hs.ord.pos [tot] (rest ts cs p)
  rw [hs.ord.n] at this
  exact this
theorem vals_set : ∀ {ts : List (List Int)} {cs : List Int} {p : Nat} {t : List Int} {m : Int}, ts[p]? = some t → p < cs.length → vals ts (cs.set p m) = (vals ts cs).set p (t.getD m.toNat 0)
  | [], _, _, _, _, h, _ => by simp at h
  | _ :: _, [], _, _, _, _, h => by simp at h
  | t :: ts, c :: cs, 0, _, _, h, _ => by
    simp at h
    subst h
    rfl
  | t :: ts, c :: cs, p + 1, u, m, h, k => by
    have ih := vals_set (ts := ts) (cs := cs) (p := p) (t := u) (m := m) (by simpa using h) (by simpa using k)
    show t.getD c.toNat 0 :: vals ts (cs.set p m) = t.getD c.toNat 0 :: (vals ts cs).set p _
    rw [ih]
theorem set_perm : ∀ {xs : List Int} {p : Nat} {x : Int}, p < xs.length → (xs.set p x).Perm (x :: xs.eraseIdx p)
  | [], _, _, h => by simp at h
  | y :: xs, 0, x, _ => List.Perm.refl _
  | y :: xs, p + 1, x, h => by
    have ih := set_perm (xs := xs) (p := p) (x := x) (by simpa using h)
    exact (ih.cons y).trans (List.Perm.swap x y _)
theorem off_put {os : List Int} {ts : List (List Int)} {tot : Int} {cs : List Int} {p : Nat} {t : List Int} (hs : Sys os ts tot) (hc : Code os ts cs) (ht : ts[p]? = some t) {m : Nat} (hm : m < (prodI os).toNat) :
    linR os.reverse (vals ts (cs.set p (m : Int))) [tot] = 0 ↔ t[m]? = some (wantV os ts tot cs p) := by
  have hp := (List.getElem?_eq_some_iff.mp ht).1
  have T := hs.tabs t (List.mem_of_getElem? ht)
  have lv : (vals ts cs).length = ts.length := by unfold vals; rw [List.length_zipWith, hc.len, Nat.min_self]
  have hl := T.len
  have hm' : m < t.length := by omega
  have e1 : t.getD (m : Int).toNat 0 = t[m] := by rw [Int.toNat_natCast, List.getD_eq_getElem?_getD, List.getElem?_eq_getElem hm']; rfl
  have mm := T.mem t[m] (List.getElem_mem hm')
  rw [vals_set ht (by have := hc.len; omega), e1, lin_perm (set_perm (x := t[m]) (by omega)) (List.Perm.refl [tot]), lin_zero hs.ord.pos mm.1 (by rw [hs.ord.n]; exact mm.2), List.getElem?_eq_getElem hm']
  exact ⟨fun e => congrArg some e, fun e => Option.some.inj e⟩
theorem Code.put {os : List Int} {ts : List (List Int)} {cs : List Int} (hc : Code os ts cs) {p : Nat} {m : Int} (h0 : 0 ≤ m) (h1 : m < prodI os) : Code os ts (cs.set p m) :=
  ⟨by rw [List.length_set]; exact hc.len, fun x hx => by
    rcases List.mem_or_eq_of_mem_set hx with q | rfl
    · exact hc.mem x q
    · exact ⟨h0, h1⟩⟩
/-- all numbers of so many places -/
def allL (n : Nat) : Nat → List (List Int)
  | 0 => [[]]
  | w + 1 => (allL n w).flatMap fun c => (List.range n).map fun m : Nat => c ++ [(m : Int)]
theorem len_flat {α β : Type} {f : α → List β} {n : Nat} (h : ∀ x, (f x).length = n) : ∀ l : List α, (l.flatMap f).length = l.length * n
  | [] => by simp
  | x :: l => by rw [List.flatMap_cons, List.length_append, h, len_flat h l, List.length_cons, Nat.add_mul]; omega
theorem all_len (n : Nat) : ∀ w, (allL n w).length = n ^ w
  | 0 => rfl
  | w + 1 => by
    show ((allL n w).flatMap _).length = _
    rw [len_flat (n := n) (fun x => by rw [List.length_map, List.length_range]), all_len n w, Nat.pow_succ]
theorem all_mem {n : Nat} : ∀ {w : Nat} {c : List Int}, c ∈ allL n w → c.length = w ∧ ∀ x ∈ c, 0 ≤ x ∧ x < (n : Int)
  | 0, c, h => by
    have : c = [] := by simpa [allL] using h
    subst this
    exact ⟨rfl, fun x hx => by simp at hx⟩
  | w + 1, c, h => by
    obtain ⟨a, ha, hb⟩ := List.mem_flatMap.mp h
    obtain ⟨m, hm, rfl⟩ := List.mem_map.mp hb
    obtain ⟨h1, h2⟩ := all_mem ha
    refine ⟨by rw [List.length_append, h1]; rfl, fun x hx => ?_⟩
    rcases List.mem_append.mp hx with q | q
    · exact h2 x q
    · have : x = (m : Int) := by simpa using q
      have := List.mem_range.mp hm
      omega
theorem len_filter_flat {α β : Type} {f : α → List β} {p : β → Bool} : ∀ l : List α, (∀ x ∈ l, ((f x).filter p).length = 1) → ((l.flatMap f).filter p).length = l.length
  | [], _ => rfl
  | x :: l, h => by
    rw [List.flatMap_cons, List.filter_append, List.length_append, h x (List.mem_cons_self ..), len_filter_flat l fun y hy => h y (List.mem_cons_of_mem _ hy), List.length_cons]
    omega
/-- so many are right -/
theorem count_right {os : List Int} {ts : List (List Int)} {tot : Int} (hs : Sys os ts tot) :
    ((allL (prodI os).toNat ts.length).filter fun cs => decide (linR os.reverse (vals ts cs) [tot] = 0)).length = (prodI os).toNat ^ (ts.length - 1) := by
  have h2 := hs.two
  obtain ⟨w, hw⟩ : ∃ w, ts.length = w + 1 := ⟨ts.length - 1, by omega⟩
  rw [hw, Nat.add_sub_cancel, ← all_len]
  show (((allL (prodI os).toNat w).flatMap fun c => (List.range (prodI os).toNat).map fun m : Nat => c ++ [(m : Int)]).filter _).length = _
  refine len_filter_flat _ fun c hc => ?_
  obtain ⟨h1, h3⟩ := all_mem hc
  have p0 := prod_pos hs.ord.2.1
  have hcc : Code os ts (c ++ [0]) := ⟨by rw [List.length_append, h1, hw]; rfl, fun x hx => by
    rcases List.mem_append.mp hx with q | q
    · have := h3 x q
      omega
    · have : x = 0 := by simpa using q
      omega⟩
  obtain ⟨t, ht⟩ : ∃ t, ts[w]? = some t := ⟨_, List.getElem?_eq_getElem (by omega)⟩
  have rg := want_rng (cs := c ++ [0]) (p := w) hs
  obtain ⟨k, k1, k2, k3⟩ := (hs.tabs t (List.mem_of_getElem? ht)).one rg.1 rg.2
  have set_e : ∀ m : Int, (c ++ [0]).set w m = c ++ [m] := fun m => by
    rw [List.set_append_right _ _ (by omega), h1, Nat.sub_self]
    rfl
  rw [List.filter_map, List.length_map, filter_one (w := k) _ k1]
  · rfl
  · show decide (linR os.reverse (vals ts (c ++ [(k : Int)])) [tot] = 0) = true
    rw [← set_e]
    exact decide_eq_true ((off_put hs hcc ht k1).mpr k2)
  · intro m hm q
    have q' : decide (linR os.reverse (vals ts (c ++ [(m : Int)])) [tot] = 0) = true := q
    rw [← set_e] at q'
    exact k3 m ((off_put hs hcc ht hm).mp (of_decide_eq_true q'))
def codesD (cs : List (List Int)) : List PyData := cs.map fun c => .list (intsD c)
def p_law_all (ds : List PyData) (d : PyData) : Prop := ∃ n w : Nat, ds = [.int n, .int w] ∧ 1 ≤ n ∧ w ≤ 100 ∧ n ^ w ≤ 1000 ∧ d = .list (codesD (allL n w))
theorem ar_law_all (ds : List PyData) (d : PyData) (h : p_law_all ds d) : ds.length = 2 := by obtain ⟨_, _, rfl, _⟩ := h; rfl
def extD (c : List Int) (n : Nat) : List (List Int) := (List.range n).map fun m : Nat => c ++ [(m : Int)]
theorem ext_eq (c : List Int) (n : Nat) : ((List.range n).map fun (i : Nat) => PyData.int (i : Int)).map (fun e => PyData.list (intsD c ++ [e])) = codesD (extD c n) := by
  unfold codesD extD
  rw [List.map_map, List.map_map]
  refine List.map_congr_left fun i _ => ?_
  show PyData.list (intsD c ++ [.int (i : Int)]) = .list ((c ++ [(i : Int)]).map PyData.int)
  rw [List.map_append]
  rfl
theorem codes_app (a b : List (List Int)) : codesD (a ++ b) = codesD a ++ codesD b := List.map_append ..
theorem codes_len (a : List (List Int)) : (codesD a).length = a.length := List.length_map ..
theorem pow_le_pow {n i w : Nat} (h : 1 ≤ n) (k : i ≤ w) : n ^ i ≤ n ^ w := Nat.pow_le_pow_right h k
/-! what is drawn -/
def menuA : List (List Int) := [[2], [3], [4], [2, 2], [5], [6], [2, 3], [7], [8], [2, 4], [2, 2, 2], [9], [3, 3], [10], [2, 5], [12]]
def menuB : List (List Int) := [[4, 2], [3, 2], [6, 2], [2, 6], [2, 2, 3], [4, 3], [11], [5, 2]]
def menuL : List (List Int) := menuA ++ menuB
def tupsD (l : List (List Int)) : List PyData := l.map fun os => .tuple (intsD os)
def Small (os : List Int) : Prop := Ords os ∧ prodI os ≤ 12
theorem menu_small : ∀ os ∈ menuL, Small os := by
  have h : (menuL.all fun os => decide (os ≠ []) && os.all (fun o => decide (2 ≤ o)) && decide (prodI os ≤ 12)) = true := by decide +kernel
  intro os ho
  have q := List.all_eq_true.mp h os ho
  rw [Bool.and_eq_true_iff, Bool.and_eq_true_iff] at q
  obtain ⟨⟨a, b⟩, c⟩ := q
  have c' := of_decide_eq_true c
  exact ⟨⟨of_decide_eq_true a, fun o hx => of_decide_eq_true (List.all_eq_true.mp b o hx), by omega⟩, c'⟩
def p_law_orders (ds : List PyData) (c : Nat) (R : PyData → Nat → Prop) : Prop := ds = [] ∧ c ≤ 2 ^ 39 ∧ ∀ os, os ∈ menuL → R (.tuple (intsD os)) (c + 4)
theorem ar_law_orders (ds : List PyData) (c : Nat) (R : PyData → Nat → Prop) (h : p_law_orders ds c R) : ds.length = 0 := by obtain ⟨rfl, _⟩ := h; rfl
def p_law_code (ds : List PyData) (c : Nat) (R : PyData → Nat → Prop) : Prop := ∃ os ts tot, ds = [sysD os ts tot] ∧ Sys os ts tot ∧ c ≤ 2 ^ 38 ∧ ∀ cs c', Code os ts cs → c' ≤ c + 4 * ts.length → R (.list (intsD cs)) c'
theorem ar_law_code (ds : List PyData) (c : Nat) (R : PyData → Nat → Prop) (h : p_law_code ds c R) : ds.length = 1 := by obtain ⟨_, _, _, rfl, _⟩ := h; rfl
def p_law_shuffled (ds : List PyData) (c : Nat) (R : PyData → Nat → Prop) : Prop := ∃ xs : List Int, ds = [.list (intsD xs)] ∧ xs.length ≤ 1000 ∧ c ≤ 2 ^ 38 ∧ ∀ ys, ys.Perm xs → R (.list (intsD ys)) (c + 4 * xs.length)
theorem ar_law_shuffled (ds : List PyData) (c : Nat) (R : PyData → Nat → Prop) (h : p_law_shuffled ds c R) : ds.length = 1 := by obtain ⟨_, rfl, _⟩ := h; rfl
def p_law_system (ds : List PyData) (c : Nat) (R : PyData → Nat → Prop) : Prop := ∃ (os : List Int) (wide : Nat), ds = [.tuple (intsD os), .int wide] ∧ Small os ∧ 2 ≤ wide ∧ wide ≤ 100 ∧ c ≤ 2 ^ 37 ∧ ∀ ts tot c', Sys os ts tot → ts.length = wide → c' ≤ c + 10000 → R (sysD os ts tot) c'
theorem ar_law_system (ds : List PyData) (c : Nat) (R : PyData → Nat → Prop) (h : p_law_system ds c R) : ds.length = 2 := by obtain ⟨_, _, rfl, _⟩ := h; rfl
def p_law_righted (ds : List PyData) (c : Nat) (R : PyData → Nat → Prop) : Prop := ∃ os ts tot, ds = [sysD os ts tot] ∧ Sys os ts tot ∧ c ≤ 2 ^ 37 ∧ ∀ cs c', Code os ts cs → c' ≤ c + 1000 → R (.list (intsD cs)) c'
theorem ar_law_righted (ds : List PyData) (c : Nat) (R : PyData → Nat → Prop) (h : p_law_righted ds c R) : ds.length = 1 := by obtain ⟨_, _, _, rfl, _⟩ := h; rfl
theorem daI {K : PySem.W.Frag} {B : Hp} : ∀ ns : List Int, DaAll K B (ns.map .int) (intsD ns)
  | [] => .nil
  | n :: ns => .cons (.int n) (daI ns)
theorem canLay_ints : ∀ ns : List Int, PyData.canLayAll0 (intsD ns) = true
  | [] => rfl
  | n :: ns => by
    show PyData.canLayAll0 (.int n :: intsD ns) = true
    rw [PyData.canLayAll0, canLay_ints ns]
    rfl
theorem erase_map : ∀ (ls : List Int) (i : Nat), (ls.map V.int).eraseIdx i = (ls.eraseIdx i).map V.int
  | [], _ => rfl
  | y :: ls, 0 => rfl
  | y :: ls, i + 1 => by
    show V.int y :: (ls.map V.int).eraseIdx i = V.int y :: (ls.eraseIdx i).map V.int
    rw [erase_map ls i]
theorem seq_nat {i n : Nat} (h : i < n) : seqIndex? (i : Int) n = some i := by
  have e : (if (i : Int) < 0 then (i : Int) + n else (i : Int)) = (i : Int) := if_neg (by omega)
  unfold seqIndex?
  simp only [e]
  rw [if_pos (by rw [decide_eq_true (show 0 ≤ (i : Int) by omega), decide_eq_true (show (i : Int) < (n : Int) by omega)]; rfl), Int.toNat_natCast]
theorem ev_listRg {K : PySem.W.Frag} {ta : TE} {ρ : Rho} {n : Nat} (h : Ev K ta ρ (.int (n : Int))) (hn : n ≤ 1000000) : Ev K (tLstRg (tRg1 ta)) ρ (.list ((List.range n).map fun (i : Nat) => .int (i : Int))) := fun σ B H e s Q q =>
  h σ B H e s _ fun v B1 H1 g hv => by
    cases hv
    refine ⟨_, rfl, RgOk.of_le (by decide) (by omega) (by decide) (by omega), fun p hp => ?_⟩
    have ga := Gr.add g.sub hp (.lst (rgV 0 (n : Int)))
    refine q _ _ _ (g.trans ga) (.lst upd_same ?_)
    have e1 : rgV 0 (n : Int) = ((List.range n).map fun i : Nat => (i : Int)).map V.int := by
      unfold rgV
      rw [Int.sub_zero, Int.toNat_natCast, List.map_map]
      refine List.map_congr_left fun i _ => ?_
      show V.int (0 + (i : Int)) = V.int (i : Int)
      rw [Int.zero_add]
    have e2 : ((List.range n).map fun (i : Nat) => PyData.int (i : Int)) = intsD ((List.range n).map fun i : Nat => (i : Int)) := by
      rw [intsD, List.map_map]
      rfl
    rw [e1, e2]
    exact daI _
def rgI (n : Nat) : List Int := (List.range n).map fun i : Nat => (i : Int)
theorem rg_eq (n : Nat) : ((List.range n).map fun (i : Nat) => PyData.int (i : Int)) = intsD (rgI n) := by
  rw [intsD, rgI, List.map_map]
  rfl
theorem rg_len (n : Nat) : (rgI n).length = n := by rw [rgI, List.length_map, List.length_range]
theorem tab_of_perm {n : Nat} {ys : List Int} (h : ys.Perm (rgI n)) : Tab (n : Int) ys := by
  refine ⟨by rw [h.length_eq, rg_len], fun x hx => ?_, ?_⟩
  · obtain ⟨i, hi, rfl⟩ := List.mem_map.mp (h.mem_iff.mp hx)
    have := List.mem_range.mp hi
    omega
  · refine h.nodup_iff.mpr (List.pairwise_map.mpr (List.nodup_range.imp fun {a b} h => by omega))
/-! the script's own numbers -/
def sCell (K : PySem.W.Frag) : Sp := fun vs H Q _ => ∃ (a : Addr) (xs : List Int) (i : Nat) (B : Hp), vs = [.ref a, .int (i : Int)] ∧ SqL K H a (xs.map .int) ∧ Same B H ∧ ∀ (n : Int) (H' : Hp), Gr B H B H' → Q (.int n) H'
def sGen (K : PySem.W.Frag) : Sp := fun vs H Q _ => ∃ (a : Addr) (xs : List Int) (i : Nat) (B : Hp), vs = [.ref a, .int (i : Int)] ∧ i ≤ 100 ∧ SqL K H a (xs.map .int) ∧ Same B H ∧
  ∀ (g : Addr) (H' : Hp), Gr B H B H' → B g = none → H g = none → GenAt H' g 100000 → Q (.ref g) H'
theorem sh_str {c : Str} (h : c.cps.all (· < 0x110000) = true) : SeqAt.shaped (.str c) = true := by
  unfold SeqAt.shaped
  rw [PyData.canLay0, PyData.depth]
  show (c.cps.all (· < 0x110000) && decide (0 ≤ 64)) = true
  rw [h]
  rfl
theorem rep_noF (n : Nat) : inV (.bl false) (List.replicate n (V.bl true)) = false := by
  unfold inV
  rw [List.any_eq_false]
  intro y hy
  rw [List.eq_of_mem_replicate hy]
  decide
theorem rep_flat (n : Nat) : (List.replicate n (V.bl true)).all flatV = true := by
  rw [List.all_eq_true]
  intro y hy
  rw [List.eq_of_mem_replicate hy]
  rfl
/-! systems turned -/
abbrev SysX := List Int × List (List Int) × Int
def qS (K : PySem.W.Frag) (x : SysX) : QF := SysQ K x.1 x.2.1 x.2.2
theorem aft_qS {K : PySem.W.Frag} (x : SysX) : Aft (qS K x) := aft_sys
theorem aft_qN (x : List (List Int)) : Aft (NestQ x) := aft_nest
def toI : PyData → Int
  | .int i => i
  | _ => 0
def tabIs : PyData → List Int
  | .list ds => ds.map toI
  | _ => []
theorem toI_ints : ∀ cs : List Int, (intsD cs).map toI = cs
  | [] => rfl
  | c :: cs => by
    show c :: (intsD cs).map toI = c :: cs
    rw [toI_ints cs]
theorem tabIs_tabs (ts : List (List Int)) : (tabsD ts).map tabIs = ts := by
  unfold tabsD
  rw [List.map_map]
  have e : (tabIs ∘ fun t => PyData.list (intsD t)) = id := by
    funext t
    exact toI_ints t
  rw [e, List.map_id]
def p_copied (ds : List PyData) (tss : List (List Int)) : Prop := ds = [.list (tabsD tss)] ∧ tss.length ≤ 1000
theorem ar_copied (ds : List PyData) (x : List (List Int)) (h : p_copied ds x) : ds.length = 1 := by obtain ⟨rfl, _⟩ := h; rfl
theorem idx_at : ∀ {l : List Int} {i : Nat} {x : Int}, l.Nodup → l[i]? = some x → l.idxOf x = i
  | [], _, _, _, h => by simp at h
  | y :: l, 0, x, _, h => by
    have : y = x := by simpa using h
    subst this
    simp [List.idxOf_cons]
  | y :: l, i + 1, x, nd, h => by
    have nd' := List.nodup_cons.mp nd
    have h' : l[i]? = some x := by simpa using h
    have ne : y ≠ x := fun e => nd'.1 (e ▸ List.mem_of_getElem? h')
    have ih := idx_at nd'.2 h'
    rw [List.idxOf_cons]
    rw [show (y == x) = false from beq_eq_false_iff_ne.mpr ne, ih]
    rfl
/-- the table with its signs written by other names -/
def renT (names t : List Int) : List Int := (rgI t.length).map fun m => t.getD (names.idxOf m) 0
def Ren (names t rs : List Int) : Prop := rs.length = t.length ∧ ∀ (i : Nat) (e m : Int), t[i]? = some e → names[i]? = some m → rs[m.toNat]? = some e
theorem rg_at {n i : Nat} (h : i < n) : (rgI n)[i]? = some (i : Int) := by
  rw [rgI, List.getElem?_map, List.getElem?_range h]
  rfl
theorem rg_nodup (n : Nat) : (rgI n).Nodup := List.pairwise_map.mpr (List.nodup_range.imp fun {a b} h => by omega)
theorem perm_at {names : List Int} {n : Nat} (h : names.Perm (rgI n)) {m : Int} (h0 : 0 ≤ m) (h1 : m < (n : Int)) : ∃ i : Nat, i < n ∧ names[i]? = some m := by
  have hm : m ∈ names := h.mem_iff.mpr (List.mem_map.mpr ⟨m.toNat, List.mem_range.mpr (by omega), by omega⟩)
  obtain ⟨i, hi⟩ := List.mem_iff_getElem?.mp hm
  have l := (List.getElem?_eq_some_iff.mp hi).1
  rw [h.length_eq, rg_len] at l
  exact ⟨i, l, hi⟩
theorem perm_in {names : List Int} {n : Nat} (h : names.Perm (rgI n)) {i : Nat} {m : Int} (hi : names[i]? = some m) : 0 ≤ m ∧ m < (n : Int) := by
  obtain ⟨j, hj, rfl⟩ := List.mem_map.mp (h.mem_iff.mp (List.mem_of_getElem? hi))
  have := List.mem_range.mp hj
  omega
theorem ren_len (names t : List Int) : (renT names t).length = t.length := by rw [renT, List.length_map, rg_len]
theorem ren_get {names t : List Int} {j : Nat} (h : j < t.length) : (renT names t)[j]? = some (t.getD (names.idxOf (j : Int)) 0) := by
  rw [renT, List.getElem?_map, rg_at h]
  rfl
theorem ren_ok {names t : List Int} (h : names.Perm (rgI t.length)) : Ren names t (renT names t) := by
  refine ⟨ren_len names t, fun i e m h1 h2 => ?_⟩
  have r := perm_in h h2
  have e1 : ((m.toNat : Nat) : Int) = m := Int.toNat_of_nonneg r.1
  rw [ren_get (j := m.toNat) (by omega), e1, idx_at (h.nodup_iff.mpr (rg_nodup _)) h2, List.getD_eq_getElem?_getD, h1]
  rfl
theorem ren_uniq {names t rs cur : List Int} (h : names.Perm (rgI t.length)) (a : Ren names t rs) (b : Ren names t cur) : cur = rs := by
  refine List.ext_getElem? fun j => ?_
  by_cases hj : j < t.length
  · obtain ⟨i, hi, hn⟩ := perm_at h (m := (j : Int)) (by omega) (by omega)
    have ht : t[i]? = some t[i] := List.getElem?_eq_getElem hi
    have x := a.2 i _ _ ht hn
    have y := b.2 i _ _ ht hn
    rw [Int.toNat_natCast] at x y
    rw [x, y]
  · rw [List.getElem?_eq_none (by rw [b.1]; omega), List.getElem?_eq_none (by rw [a.1]; omega)]
def p_renamed_table (ds : List PyData) (d : PyData) : Prop := ∃ (t names : List Int), ds = [.list (intsD t), .list (intsD names)] ∧ names.Perm (rgI t.length) ∧ t.length ≤ 1000 ∧ d = .list (intsD (renT names t))
theorem ar_renamed_table (ds : List PyData) (x : PyData) (h : p_renamed_table ds x) : ds.length = 2 := by obtain ⟨_, _, rfl, _⟩ := h; rfl
def p_check_member (ds : List PyData) (d : PyData) : Prop := ∃ os m, ds = [.tuple (intsD os), .int m] ∧ Ords os ∧ 0 ≤ m ∧ m < prodI os ∧ d = .none
theorem ar_check_member (ds : List PyData) (x : PyData) (h : p_check_member ds x) : ds.length = 2 := by obtain ⟨_, _, rfl, _⟩ := h; rfl
def p_with_signs (ds : List PyData) (x : SysX) : Prop := ∃ (os : List Int) (ts : List (List Int)) (tot : Int) (names : List Int), ds = [sysD os ts tot, .list (intsD names)] ∧ Sys os ts tot ∧ names.Perm (rgI (prodI os).toNat) ∧ x = (os, ts.map (renT names), tot)
def p_reordered (ds : List PyData) (x : SysX) : Prop := ∃ (os : List Int) (ts : List (List Int)) (tot : Int) (order : List Int), ds = [sysD os ts tot, .list (intsD order)] ∧ Sys os ts tot ∧ order.Perm (rgI ts.length) ∧ x = (os, order.map (fun p => ts.getD p.toNat []), tot)
def shT (os t : List Int) (m : Int) : List Int := t.map fun e => linR os.reverse [e, m] []
def p_added_to (ds : List PyData) (x : SysX) : Prop := ∃ (os : List Int) (ts : List (List Int)) (tot : Int) (p : Nat) (m : Int), ds = [sysD os ts tot, .int p, .int m] ∧ Sys os ts tot ∧ p < ts.length ∧ 0 ≤ m ∧ m < prodI os ∧ x = (os, ts.set p (shT os (ts.getD p []) m), linR os.reverse [tot, m] [])
def p_fixed_at (ds : List PyData) (x : SysX) : Prop := ∃ (os : List Int) (ts : List (List Int)) (tot : Int) (p s : Nat), ds = [sysD os ts tot, .int p, .int s] ∧ Sys os ts tot ∧ 3 ≤ ts.length ∧ p < ts.length ∧ (s : Int) < prodI os ∧ x = (os, ts.eraseIdx p, linR os.reverse [tot] [(ts.getD p []).getD s 0])
def p_put_together (ds : List PyData) (x : SysX) : Prop := ∃ (os : List Int) (ts us : List (List Int)) (tot tot2 : Int), ds = [sysD os ts tot, sysD os us tot2] ∧ Sys os ts tot ∧ Sys os us tot2 ∧ x = (os, ts ++ us, linR os.reverse [tot, tot2] [])
theorem ar_with_signs (ds : List PyData) (x : SysX) (h : p_with_signs ds x) : ds.length = 2 := by obtain ⟨_, _, _, _, rfl, _⟩ := h; rfl
theorem ar_reordered (ds : List PyData) (x : SysX) (h : p_reordered ds x) : ds.length = 2 := by obtain ⟨_, _, _, _, rfl, _⟩ := h; rfl
theorem ar_added_to (ds : List PyData) (x : SysX) (h : p_added_to ds x) : ds.length = 3 := by obtain ⟨_, _, _, _, _, rfl, _⟩ := h; rfl
theorem ar_fixed_at (ds : List PyData) (x : SysX) (h : p_fixed_at ds x) : ds.length = 3 := by obtain ⟨_, _, _, _, _, rfl, _⟩ := h; rfl
theorem ar_put_together (ds : List PyData) (x : SysX) (h : p_put_together ds x) : ds.length = 2 := by obtain ⟨_, _, _, _, _, rfl, _⟩ := h; rfl
theorem tab_nodup {n : Nat} {names : List Int} (h : names.Perm (rgI n)) : names.length = n ∧ (∀ x ∈ names, 0 ≤ x ∧ x < (n : Int)) ∧ names.Nodup := by
  have T := tab_of_perm h
  exact ⟨by have := T.len; omega, T.mem, T.nd⟩
theorem tabs_cat (a b : List (List Int)) : tabsD (a ++ b) = tabsD a ++ tabsD b := List.map_append ..
theorem take_tabs (ts : List (List Int)) (p : Nat) : (tabsD ts).take p = tabsD (ts.take p) := (List.map_take ..).symm
theorem drop_tabs (ts : List (List Int)) (p : Nat) : (tabsD ts).drop p = tabsD (ts.drop p) := (List.map_drop ..).symm
def p_law_is_system (ds : List PyData) (d : PyData) : Prop := ∃ (os : List Int) (ts : List (List Int)) (tot : Int) (w : Nat), ds = [sysD os ts tot, .tuple (intsD os), .int w] ∧ Sys os ts tot ∧ ts.length = w ∧ d = .bool true
theorem ar_law_is_system (ds : List PyData) (x : PyData) (h : p_law_is_system ds x) : ds.length = 3 := by obtain ⟨_, _, _, _, rfl, _⟩ := h; rfl
theorem pl_os {os : List Int} (ho : Ords os) : Pl (.tuple (intsD os)) := by
  have hl := ords_len ho
  refine ⟨pl_tuple (pl_ints fun x hx => ?_), ?_, ?_⟩
  · have := ord_le ho hx
    omega
  · have : (PyData.tuple (intsD os)).depth ≤ 0 + 1 := depth_tuple (depth_ints os)
    omega
  · have : (PyData.tuple (intsD os)).bulk ≤ (os.map PyData.int).length * (0 + 1) := bulk_tuple (bulk_ints os)
    rw [List.length_map] at this
    omega
theorem tab_perm {n : Nat} {t : List Int} (T : Tab (n : Int) t) : (rgI n).Perm t := by
  refine (List.perm_ext_iff_of_nodup (rg_nodup n) T.nd).mpr fun a => ⟨fun h => ?_, fun h => ?_⟩
  · obtain ⟨i, hi, rfl⟩ := List.mem_map.mp h
    have := List.mem_range.mp hi
    exact T.has (by omega) (by omega)
  · have := T.mem a h
    exact List.mem_map.mpr ⟨a.toNat, List.mem_range.mpr (by omega), by omega⟩
theorem rg_sorted (n : Nat) : (rgI n).Pairwise (· ≤ ·) := List.pairwise_map.mpr (List.pairwise_lt_range.imp fun {a b} h => by omega)
theorem pl_rg {n : Nat} (h : n ≤ 1000) : Pl (.list (intsD (rgI n))) := Pl.ints (fun x hx => by
  obtain ⟨i, hi, rfl⟩ := List.mem_map.mp hx
  have := List.mem_range.mp hi
  omega) (by rw [rg_len]; omega)
/-! the turned systems are systems, and what numbers are off by -/
theorem vals_len {ts : List (List Int)} {cs : List Int} (h : cs.length = ts.length) : (vals ts cs).length = ts.length := by unfold vals; rw [List.length_zipWith, h, Nat.min_self]
theorem tab_ren {n : Nat} {names t : List Int} (T : Tab (n : Int) t) (h : names.Perm (rgI n)) : Tab (n : Int) (renT names t) := by
  have hl : t.length = n := by have := T.len; omega
  have hp : names.Perm (rgI t.length) := by rw [hl]; exact h
  have nd : names.Nodup := h.nodup_iff.mpr (rg_nodup _)
  have key : ∀ j : Nat, j < n → ∃ i, i < n ∧ names[i]? = some (j : Int) ∧ (renT names t)[j]? = t[i]? := fun j hj => by
    obtain ⟨i, hi, hn⟩ := perm_at h (m := (j : Int)) (by omega) (by omega)
    refine ⟨i, hi, hn, ?_⟩
    have q := (ren_ok hp).2 i _ _ (List.getElem?_eq_getElem (show i < t.length by omega)) hn
    rw [Int.toNat_natCast] at q
    rw [q, List.getElem?_eq_getElem (show i < t.length by omega)]
  refine ⟨by rw [ren_len, hl], fun x hx => ?_, ?_⟩
  · obtain ⟨j, hj⟩ := List.mem_iff_getElem?.mp hx
    have jl := (List.getElem?_eq_some_iff.mp hj).1
    rw [ren_len, hl] at jl
    obtain ⟨i, _, _, e⟩ := key j jl
    rw [hj] at e
    exact T.mem x (List.mem_of_getElem? e.symm)
  · rw [List.nodup_iff_pairwise_ne, List.pairwise_iff_getElem]
    intro a b ha hb hab e
    have la := ha
    have lb := hb
    rw [ren_len, hl] at la lb
    obtain ⟨i, hi, n1, e1⟩ := key a la
    obtain ⟨k, hk, n2, e2⟩ := key b lb
    rw [List.getElem?_eq_getElem ha] at e1
    rw [List.getElem?_eq_getElem hb] at e2
    have hik : i ≠ k := fun z => by
      subst z
      rw [n1] at n2
      have := Option.some.inj n2
      omega
    have t1 := List.getElem?_eq_getElem (show i < t.length by omega)
    have t2 := List.getElem?_eq_getElem (show k < t.length by omega)
    rw [t1] at e1
    rw [t2] at e2
    have e3 : t[i]'(by omega) = t[k]'(by omega) := by
      have a1 := Option.some.inj e1
      have a2 := Option.some.inj e2
      rw [← a1, ← a2, e]
    rcases Nat.lt_or_gt_of_ne hik with q | q
    · exact List.pairwise_iff_getElem.mp T.nd i k _ _ q e3
    · exact List.pairwise_iff_getElem.mp T.nd k i _ _ q e3.symm
theorem sys_ren {os : List Int} {ts : List (List Int)} {tot : Int} {n : Nat} {names : List Int} (hs : Sys os ts tot) (hn : prodI os = n) (h : names.Perm (rgI n)) : Sys os (ts.map (renT names)) tot :=
  ⟨hs.ord, by rw [List.length_map]; exact hs.two, by rw [List.length_map]; exact hs.few, fun t ht => by
    obtain ⟨u, hu, rfl⟩ := List.mem_map.mp ht
    have T := hs.tabs u hu
    rw [hn] at T ⊢
    exact tab_ren T h, hs.t0, hs.t1⟩
def byN (names cs : List Int) : List Int := cs.map fun c => names.getD c.toNat 0
theorem names_at {n : Nat} {names : List Int} (h : names.Perm (rgI n)) {c : Int} (h0 : 0 ≤ c) (h1 : c < (n : Int)) : ∃ m, names[c.toNat]? = some m ∧ names.getD c.toNat 0 = m ∧ 0 ≤ m ∧ m < (n : Int) := by
  have l : c.toNat < names.length := by rw [h.length_eq, rg_len]; omega
  refine ⟨names[c.toNat], List.getElem?_eq_getElem l, by rw [List.getD_eq_getElem?_getD, List.getElem?_eq_getElem l]; rfl, ?_⟩
  exact perm_in h (List.getElem?_eq_getElem l)
theorem code_ren {os : List Int} {ts : List (List Int)} {cs : List Int} {n : Nat} {names : List Int} (hc : Code os ts cs) (hn : prodI os = n) (h : names.Perm (rgI n)) : Code os (ts.map (renT names)) (byN names cs) :=
  ⟨by rw [byN, List.length_map, List.length_map]; exact hc.len, fun x hx => by
    obtain ⟨c, hcm, rfl⟩ := List.mem_map.mp hx
    have r := hc.mem c hcm
    rw [hn] at r ⊢
    obtain ⟨m, _, e, h0, h1⟩ := names_at h r.1 r.2
    rw [e]
    exact ⟨h0, h1⟩⟩
theorem vals_ren {n : Nat} {names : List Int} (h : names.Perm (rgI n)) : ∀ {ts : List (List Int)} {cs : List Int}, (∀ t ∈ ts, t.length = n) → (∀ c ∈ cs, 0 ≤ c ∧ c < (n : Int)) → vals (ts.map (renT names)) (byN names cs) = vals ts cs
  | [], _, _, _ => rfl
  | _ :: _, [], _, _ => rfl
  | t :: ts, c :: cs, ht, hc => by
    have ih := vals_ren h (ts := ts) (cs := cs) (fun u hu => ht u (List.mem_cons_of_mem _ hu)) fun d hd => hc d (List.mem_cons_of_mem _ hd)
    have hl := ht t (List.mem_cons_self ..)
    have r := hc c (List.mem_cons_self ..)
    obtain ⟨m, e1, e2, h0, h1⟩ := names_at h r.1 r.2
    have hp : names.Perm (rgI t.length) := by rw [hl]; exact h
    have tc := List.getElem?_eq_getElem (show c.toNat < t.length by omega)
    have q := (ren_ok hp).2 c.toNat _ _ tc e1
    show (renT names t).getD (names.getD c.toNat 0).toNat 0 :: vals (ts.map (renT names)) (byN names cs) = t.getD c.toNat 0 :: vals ts cs
    rw [ih, e2, List.getD_eq_getElem?_getD, q, List.getD_eq_getElem?_getD, tc]
/-- in another order -/
def byO {α : Type} (order : List Int) (xs : List α) (z : α) : List α := order.map fun p => xs.getD p.toNat z
theorem byO_rg {α : Type} {z : α} : ∀ xs : List α, byO (rgI xs.length) xs z = xs := fun xs => by
  refine List.ext_getElem? fun i => ?_
  unfold byO
  rw [List.getElem?_map]
  by_cases h : i < xs.length
  · rw [rg_at h, List.getElem?_eq_getElem h]
    show some (xs.getD ((i : Nat) : Int).toNat z) = _
    rw [Int.toNat_natCast, List.getD_eq_getElem?_getD, List.getElem?_eq_getElem h]
    rfl
  · rw [List.getElem?_eq_none (by rw [rg_len]; omega), List.getElem?_eq_none (by omega)]
    rfl
theorem byO_perm {α : Type} {z : α} {order : List Int} {xs : List α} (h : order.Perm (rgI xs.length)) : (byO order xs z).Perm xs := by
  have q := h.map fun p : Int => xs.getD p.toNat z
  have e := byO_rg (z := z) xs
  unfold byO at e
  rw [e] at q
  exact q
theorem byO_mem {α : Type} {z : α} {order : List Int} {xs : List α} (h : order.Perm (rgI xs.length)) {x : α} (hx : x ∈ byO order xs z) : x ∈ xs := (byO_perm h).mem_iff.mp hx
theorem sys_reo {os : List Int} {ts : List (List Int)} {tot : Int} {order : List Int} (hs : Sys os ts tot) (h : order.Perm (rgI ts.length)) : Sys os (byO order ts []) tot := by
  have l : (byO order ts []).length = ts.length := by unfold byO; rw [List.length_map, h.length_eq, rg_len]
  exact ⟨hs.ord, by rw [l]; exact hs.two, by rw [l]; exact hs.few, fun t ht => hs.tabs t (byO_mem h ht), hs.t0, hs.t1⟩
theorem code_reo {os : List Int} {ts : List (List Int)} {cs order : List Int} (hc : Code os ts cs) (h : order.Perm (rgI ts.length)) : Code os (byO order ts []) (byO order cs 0) :=
  ⟨by unfold byO; rw [List.length_map, List.length_map], fun x hx => hc.mem x (byO_mem (by rw [hc.len]; exact h) hx)⟩
theorem vals_getD {ts : List (List Int)} {cs : List Int} {p : Nat} (h1 : p < ts.length) (h2 : cs.length = ts.length) : (vals ts cs).getD p 0 = (ts.getD p []).getD (cs.getD p 0).toNat 0 := by
  have a : ts[p]? = some (ts.getD p []) := by rw [List.getD_eq_getElem?_getD, List.getElem?_eq_getElem h1]; rfl
  have b : cs[p]? = some (cs.getD p 0) := by rw [List.getD_eq_getElem?_getD, List.getElem?_eq_getElem (by omega)]; rfl
  rw [List.getD_eq_getElem?_getD, vals_at a b]
  rfl
theorem vals_reo {ts : List (List Int)} {cs order : List Int} (hl : cs.length = ts.length) (h : order.Perm (rgI ts.length)) : (vals (byO order ts []) (byO order cs 0)).Perm (vals ts cs) := by
  have e : vals (byO order ts []) (byO order cs 0) = byO order (vals ts cs) 0 := by
    unfold vals byO
    rw [List.zipWith_map, List.zipWith_self]
    refine List.map_congr_left fun p hp => ?_
    obtain ⟨i, hi⟩ := List.mem_iff_getElem?.mp hp
    have r := perm_in h hi
    exact (vals_getD (by omega) hl).symm
  rw [e]
  exact byO_perm (by rw [vals_len hl]; exact h)
/-- a member added -/
theorem shift_inj {r : List Int} (h : Pos r) {a b m : Int} (a0 : 0 ≤ a) (a1 : a < prodR r) (b0 : 0 ≤ b) (b1 : b < prodR r) (e : linR r [a, m] [] = linR r [b, m] []) : a = b := by
  have q : ∀ x : Int, 0 ≤ x → x < prodR r → linR r [linR r [x, m] []] [m] = x := fun x x0 x1 => by
    have z := lin_in h [] [m] [x, m] []
    rw [List.append_nil, List.nil_append] at z
    rw [z, lin_perm (List.Perm.swap m x []) (List.Perm.refl [m]), lin_cancel, lin_one h x0 x1]
  rw [← q a a0 a1, ← q b b0 b1, e]
theorem tab_sh {os t : List Int} {m : Int} (ho : Ords os) (T : Tab (prodI os) t) : Tab (prodI os) (shT os t m) := by
  refine ⟨by unfold shT; rw [List.length_map]; exact T.len, fun x hx => ?_, ?_⟩
  · obtain ⟨e, _, rfl⟩ := List.mem_map.mp hx
    have r := lin_rng ho.pos [e, m] []
    rw [ho.n] at r
    exact r
  · rw [List.nodup_iff_pairwise_ne, List.pairwise_iff_getElem]
    intro i j hi hj hij e
    unfold shT at hi hj e
    rw [List.length_map] at hi hj
    rw [List.getElem_map, List.getElem_map] at e
    have ri := T.mem t[i] (List.getElem_mem hi)
    have rj := T.mem t[j] (List.getElem_mem hj)
    exact List.pairwise_iff_getElem.mp T.nd i j hi hj hij (shift_inj ho.pos ri.1 (by rw [ho.n]; exact ri.2) rj.1 (by rw [ho.n]; exact rj.2) e)
theorem lin_in_n {os : List Int} (ho : Ords os) (ps ns : List Int) : 0 ≤ linR os.reverse ps ns ∧ linR os.reverse ps ns < prodI os := by
  have r := lin_rng ho.pos ps ns
  rw [ho.n] at r
  exact r
theorem sys_add {os : List Int} {ts : List (List Int)} {tot m : Int} {p : Nat} (hs : Sys os ts tot) (hp : p < ts.length) : Sys os (ts.set p (shT os (ts.getD p []) m)) (linR os.reverse [tot, m] []) := by
  have r := lin_in_n hs.ord [tot, m] []
  have ht : ts.getD p [] ∈ ts := by rw [List.getD_eq_getElem?_getD, List.getElem?_eq_getElem hp]; exact List.getElem_mem hp
  refine ⟨hs.ord, by rw [List.length_set]; exact hs.two, by rw [List.length_set]; exact hs.few, fun t h => ?_, r.1, r.2⟩
  rcases List.mem_or_eq_of_mem_set h with h | rfl
  · exact hs.tabs t h
  · exact tab_sh hs.ord (hs.tabs _ ht)
theorem code_set {os : List Int} {ts : List (List Int)} {cs : List Int} {p : Nat} {t : List Int} (hc : Code os ts cs) : Code os (ts.set p t) cs := ⟨by rw [List.length_set]; exact hc.len, hc.mem⟩
theorem vals_sett : ∀ {ts : List (List Int)} {cs : List Int} {p : Nat} {t : List Int}, vals (ts.set p t) cs = (vals ts cs).set p (t.getD (cs.getD p 0).toNat 0) ∨ ts.length ≤ p ∨ cs.length ≤ p
  | [], _, _, _ => .inr (.inl (Nat.zero_le _))
  | _ :: _, [], _, _ => .inr (.inr (Nat.zero_le _))
  | t :: ts, c :: cs, 0, u => .inl rfl
  | t :: ts, c :: cs, p + 1, u => by
    rcases vals_sett (ts := ts) (cs := cs) (p := p) (t := u) with h | h | h
    · refine .inl ?_
      show t.getD c.toNat 0 :: vals (ts.set p u) cs = t.getD c.toNat 0 :: (vals ts cs).set p _
      rw [h]
      rfl
    · exact .inr (.inl (Nat.succ_le_succ h))
    · exact .inr (.inr (Nat.succ_le_succ h))
theorem off_add {os : List Int} {ts : List (List Int)} {tot m : Int} {cs : List Int} {p : Nat} (hs : Sys os ts tot) (hc : Code os ts cs) (hp : p < ts.length) :
    linR os.reverse (vals (ts.set p (shT os (ts.getD p []) m)) cs) [linR os.reverse [tot, m] []] = linR os.reverse (vals ts cs) [tot] := by
  have hl := hc.len
  have hv := vals_len hl
  have ht : ts[p]? = some (ts.getD p []) := by rw [List.getD_eq_getElem?_getD, List.getElem?_eq_getElem hp]; rfl
  have hcp : cs[p]? = some (cs.getD p 0) := by rw [List.getD_eq_getElem?_getD, List.getElem?_eq_getElem (by omega)]; rfl
  have cr := hc.in_ hs _ (List.mem_of_getElem? ht) _ (List.mem_of_getElem? hcp)
  have e1 : (shT os (ts.getD p []) m).getD (cs.getD p 0).toNat 0 = linR os.reverse [(ts.getD p []).getD (cs.getD p 0).toNat 0, m] [] := by
    have lt : (cs.getD p 0).toNat < (ts.getD p []).length := by omega
    clear ht cr hcp
    generalize ts.getD p [] = tp at lt ⊢
    generalize (cs.getD p 0).toNat = j at lt ⊢
    unfold shT
    rw [List.getD_eq_getElem?_getD, List.getElem?_map, List.getElem?_eq_getElem lt, List.getD_eq_getElem?_getD, List.getElem?_eq_getElem lt]
    rfl
  have e2 : vals (ts.set p (shT os (ts.getD p []) m)) cs = (vals ts cs).set p (linR os.reverse [(vals ts cs).getD p 0, m] []) := by
    rcases vals_sett (ts := ts) (cs := cs) (p := p) (t := shT os (ts.getD p []) m) with h | h | h
    · rw [h, e1, vals_getD hp hl]
    · omega
    · omega
  have hx : (vals ts cs)[p]? = some ((vals ts cs).getD p 0) := by rw [List.getD_eq_getElem?_getD, List.getElem?_eq_getElem (by omega)]; rfl
  generalize (vals ts cs).getD p 0 = x at e2 hx
  rw [e2, lin_perm (set_perm (by omega)) (List.Perm.refl _), lin_in hs.ord.pos]
  have a := lin_out hs.ord.pos ([x, m] ++ (vals ts cs).eraseIdx p) ([] ++ []) [tot, m] []
  rw [List.nil_append, List.nil_append, List.append_nil] at a
  show linR os.reverse ([x, m] ++ (vals ts cs).eraseIdx p) (linR os.reverse [tot, m] [] :: []) = _
  rw [a]
  have b : linR os.reverse ([x, m] ++ (vals ts cs).eraseIdx p) [tot, m] = linR os.reverse (m :: x :: (vals ts cs).eraseIdx p) (m :: [tot]) := lin_perm (List.Perm.swap m x _) (List.Perm.swap m tot [])
  rw [b, lin_cancel]
  exact lin_perm (perm_erase hx).symm (List.Perm.refl _)
/-- a place fixed -/
theorem vals_erase : ∀ {ts : List (List Int)} {cs : List Int} {p : Nat}, cs.length = ts.length → vals (ts.eraseIdx p) (cs.eraseIdx p) = (vals ts cs).eraseIdx p
  | [], [], _, _ => rfl
  | [], _ :: _, _, h => by simp at h
  | _ :: _, [], _, h => by simp at h
  | t :: ts, c :: cs, 0, _ => rfl
  | t :: ts, c :: cs, p + 1, h => by
    have ih := vals_erase (ts := ts) (cs := cs) (p := p) (by simpa using h)
    show t.getD c.toNat 0 :: vals (ts.eraseIdx p) (cs.eraseIdx p) = t.getD c.toNat 0 :: (vals ts cs).eraseIdx p
    rw [ih]
theorem sys_fix {os : List Int} {ts : List (List Int)} {tot x : Int} {p : Nat} (hs : Sys os ts tot) (h3 : 3 ≤ ts.length) (hp : p < ts.length) : Sys os (ts.eraseIdx p) (linR os.reverse [tot] [x]) := by
  have r := lin_in_n hs.ord [tot] [x]
  have l := List.length_eraseIdx_of_lt hp
  have h4 := hs.few
  exact ⟨hs.ord, by omega, by omega, fun t h => hs.tabs t (List.mem_of_mem_eraseIdx h), r.1, r.2⟩
theorem code_fix {os : List Int} {ts : List (List Int)} {cs : List Int} {p : Nat} (hc : Code os ts cs) (hp : p < ts.length) : Code os (ts.eraseIdx p) (cs.eraseIdx p) := by
  have hl := hc.len
  exact ⟨by rw [List.length_eraseIdx_of_lt hp, List.length_eraseIdx_of_lt (by omega), hl], fun x h => hc.mem x (List.mem_of_mem_eraseIdx h)⟩
theorem off_fix {os : List Int} {ts : List (List Int)} {tot : Int} {cs : List Int} {p : Nat} (hs : Sys os ts tot) (hc : Code os ts cs) (hp : p < ts.length) :
    linR os.reverse (vals (ts.eraseIdx p) (cs.eraseIdx p)) [linR os.reverse [tot] [(ts.getD p []).getD (cs.getD p 0).toNat 0]] = linR os.reverse (vals ts cs) [tot] := by
  have hl := hc.len
  have hv := vals_len hl
  have hx : (vals ts cs)[p]? = some ((ts.getD p []).getD (cs.getD p 0).toNat 0) := by rw [← vals_getD hp hl, List.getD_eq_getElem?_getD, List.getElem?_eq_getElem (by omega)]; rfl
  rw [vals_erase hl]
  generalize (ts.getD p []).getD (cs.getD p 0).toNat 0 = x at hx
  have a := lin_out hs.ord.pos ((vals ts cs).eraseIdx p) [] [tot] [x]
  rw [List.append_nil] at a
  rw [a]
  exact lin_perm (perm_erase hx).symm (List.Perm.refl _)
/-- two put together -/
theorem vals_app : ∀ {ts us : List (List Int)} {cs ds : List Int}, cs.length = ts.length → vals (ts ++ us) (cs ++ ds) = vals ts cs ++ vals us ds
  | [], _, [], _, _ => rfl
  | [], _, _ :: _, _, h => by simp at h
  | _ :: _, _, [], _, h => by simp at h
  | t :: ts, us, c :: cs, ds, h => by
    have ih := vals_app (ts := ts) (us := us) (cs := cs) (ds := ds) (by simpa using h)
    show t.getD c.toNat 0 :: vals (ts ++ us) (cs ++ ds) = t.getD c.toNat 0 :: (vals ts cs ++ vals us ds)
    rw [ih]
theorem sys_put {os : List Int} {ts us : List (List Int)} {tot tot2 : Int} (hs : Sys os ts tot) (hs2 : Sys os us tot2) (h : ts.length + us.length ≤ 100) : Sys os (ts ++ us) (linR os.reverse [tot, tot2] []) := by
  have r := lin_in_n hs.ord [tot, tot2] []
  have h2 := hs.two
  exact ⟨hs.ord, by rw [List.length_append]; omega, by rw [List.length_append]; exact h, fun t ht => (List.mem_append.mp ht).elim (hs.tabs t) (hs2.tabs t), r.1, r.2⟩
theorem code_put {os : List Int} {ts us : List (List Int)} {cs ds : List Int} (hc : Code os ts cs) (hd : Code os us ds) : Code os (ts ++ us) (cs ++ ds) :=
  ⟨by rw [List.length_append, List.length_append, hc.len, hd.len], fun x hx => (List.mem_append.mp hx).elim (hc.mem x) (hd.mem x)⟩
theorem off_putt {os : List Int} {ts us : List (List Int)} {tot tot2 : Int} {cs ds : List Int} (hs : Sys os ts tot) (hc : Code os ts cs) :
    linR os.reverse (vals (ts ++ us) (cs ++ ds)) [linR os.reverse [tot, tot2] []] = linR os.reverse [linR os.reverse (vals ts cs) [tot], linR os.reverse (vals us ds) [tot2]] [] := by
  rw [vals_app hc.len]
  have a := lin_out hs.ord.pos (vals ts cs ++ vals us ds) [] [tot, tot2] []
  rw [List.nil_append, List.append_nil] at a
  rw [a, lin_in hs.ord.pos]
  have b : linR os.reverse (vals ts cs ++ [linR os.reverse (vals us ds) [tot2]]) ([tot] ++ []) = linR os.reverse (linR os.reverse (vals us ds) [tot2] :: vals ts cs) [tot] := lin_perm (List.perm_append_singleton _ _) (List.Perm.refl _)
  rw [b, lin_in hs.ord.pos]
  exact lin_perm List.perm_append_comm (List.Perm.swap tot2 tot [])
theorem ne_int {K : PySem.W.Frag} {a b : Int} (h : a = b) : Op2 K (rNeD K) (.int a) (.int b) (.bool false) := opp_neD (sh_int _) (sh_int _) (by rw [eqv_int, h]; simp)
theorem ne_same {K : PySem.W.Frag} {d e : PyData} (h : Pl d) (he : d = e) : Op2 K (rNeD K) d e (.bool false) := he ▸ ne_self h
def SmallS (os : List Int) (ts : List (List Int)) (tot : Int) : Prop := Sys os ts tot ∧ prodI os ≤ 12 ∧ ts.length ≤ 20
theorem pls_code {os : List Int} {ts : List (List Int)} {tot : Int} {cs : List Int} (hs : Sys os ts tot) (hc : Code os ts cs) : PlS (.list (intsD cs)) := by
  have pp := (prod_take_le hs.ord os.length).2
  rw [List.take_length] at pp
  have h4 := hs.few
  refine PlS.ints (fun x hx => ?_) (by have := hc.len; omega)
  have := hc.mem x hx
  omega
theorem pls_perm {n : Nat} {names : List Int} (h : names.Perm (rgI n)) (hn : n ≤ 1000) : PlS (.list (intsD names)) := by
  obtain ⟨a, b, _⟩ := tab_nodup h
  refine PlS.ints (fun x hx => ?_) (by omega)
  have := b x hx
  omega
theorem pls_sys {os : List Int} {ts : List (List Int)} {tot : Int} (hs : Sys os ts tot) (h12 : prodI os ≤ 12) (hl : ts.length ≤ 100) : PlS (sysD os ts tot) := by
  have hl2 := ords_len hs.ord
  have t0 := hs.t0
  have t1 := hs.t1
  have pt : ∀ d ∈ tabsD ts, pl d = true ∧ d.depth ≤ 1 ∧ d.bulk ≤ 12 := fun d hd => by
    obtain ⟨t, ht, rfl⟩ := List.mem_map.mp hd
    have T := hs.tabs t ht
    refine ⟨pl_list (pl_ints fun x hx => ?_), depth_list (depth_ints t), ?_⟩
    · have := T.mem x hx
      omega
    · have : (PyData.list (intsD t)).bulk ≤ (t.map PyData.int).length * (0 + 1) := bulk_list (bulk_ints t)
      rw [List.length_map] at this
      have := T.len
      omega
  have d0 : ∀ d ∈ [PyData.tuple (intsD os), .list (tabsD ts), .int tot], pl d = true ∧ d.depth ≤ 2 ∧ d.bulk ≤ 1400 := fun d hd => by
    rcases List.mem_cons.mp hd with rfl | hd
    · refine ⟨pl_tuple (pl_ints fun x hx => ?_), ?_, ?_⟩
      · have := ord_le hs.ord hx
        omega
      · have : (PyData.tuple (intsD os)).depth ≤ 0 + 1 := depth_tuple (depth_ints os)
        omega
      · have : (PyData.tuple (intsD os)).bulk ≤ (os.map PyData.int).length * (0 + 1) := bulk_tuple (bulk_ints os)
        rw [List.length_map] at this
        omega
    rcases List.mem_cons.mp hd with rfl | hd
    · refine ⟨pl_list fun d h => (pt d h).1, depth_list fun d h => (pt d h).2.1, ?_⟩
      have := bulk_list fun d h => (pt d h).2.2
      rw [tabs_len] at this
      have : ts.length * (12 + 1) ≤ 100 * 13 := Nat.mul_le_mul_right _ hl
      omega
    · have : d = .int tot := by simpa using hd
      subst this
      exact ⟨pl_int (by omega), by rw [depth_int]; omega, by rw [bulk_int]; omega⟩
  refine ⟨pl_tuple fun d h => (d0 d h).1, ?_, ?_⟩
  · have := depth_tuple fun d h => (d0 d h).2.1
    unfold sysD
    omega
  · have := bulk_tuple fun d h => (d0 d h).2.2
    unfold sysD
    have e : [PyData.tuple (intsD os), .list (tabsD ts), .int tot].length = 3 := rfl
    rw [e] at this
    omega
theorem pl_tabs {os : List Int} {ts : List (List Int)} {tot : Int} (hs : Sys os ts tot) : Pl (.list (tabsD ts)) := by
  have pp := (prod_take_le hs.ord os.length).2
  rw [List.take_length] at pp
  have h4 := hs.few
  have pt : ∀ d ∈ tabsD ts, pl d = true ∧ d.depth ≤ 1 ∧ d.bulk ≤ 1000 := fun d hd => by
    obtain ⟨t, ht, rfl⟩ := List.mem_map.mp hd
    have T := hs.tabs t ht
    refine ⟨pl_list (pl_ints fun x hx => ?_), depth_list (depth_ints t), ?_⟩
    · have := T.mem x hx
      omega
    · have : (PyData.list (intsD t)).bulk ≤ (t.map PyData.int).length * (0 + 1) := bulk_list (bulk_ints t)
      rw [List.length_map] at this
      have := T.len
      omega
  refine ⟨pl_list fun d h => (pt d h).1, ?_, ?_⟩
  · have := depth_list fun d h => (pt d h).2.1
    omega
  · have := bulk_list fun d h => (pt d h).2.2
    rw [tabs_len] at this
    have : ts.length * (1000 + 1) ≤ 100 * 1001 := Nat.mul_le_mul_right _ h4
    omega
theorem mk_of {K : PySem.W.Frag} {os : List Int} {tss : List (List Int)} {tot : Int} {E : XK} (hs : Sys os tss tot) : ∀ B H0 H p ov l as Q, Loan K B H0 H p ov l as os tss tot → Same B H → MarkQ (l :: as) H Q → sMk K 3 [.ref p] H Q E := fun B H0 H p ov l as Q n s q => by
  have pp := (prod_take_le hs.ord os.length).2
  rw [List.take_length] at pp
  have hl := ords_len hs.ord
  have h4 := hs.few
  exact ⟨_, _, _, rfl, loan_mk n s (by omega) (by omega) fun t ht => by have := (hs.tabs t ht).len; omega, q⟩
def p_law_turned_right (ds : List PyData) (c : Nat) (R : PyData → Nat → Prop) : Prop := ∃ os ts tot cs, ds = [sysD os ts tot, .list (intsD cs)] ∧ SmallS os ts tot ∧ Code os ts cs ∧ c ≤ 2 ^ 36 ∧ ∀ c', c' ≤ c + 2000 → R (.bool true) c'
def p_law_cut_right (ds : List PyData) (c : Nat) (R : PyData → Nat → Prop) : Prop := ∃ os ts tot cs, ds = [sysD os ts tot, .list (intsD cs)] ∧ SmallS os ts tot ∧ Code os ts cs ∧ c ≤ 2 ^ 36 ∧ ∀ c', c' ≤ c + 20000 → R (.bool true) c'
theorem ar_law_turned_right (ds : List PyData) (c : Nat) (R : PyData → Nat → Prop) (h : p_law_turned_right ds c R) : ds.length = 2 := by obtain ⟨_, _, _, _, rfl, _⟩ := h; rfl
theorem ar_law_cut_right (ds : List PyData) (c : Nat) (R : PyData → Nat → Prop) (h : p_law_cut_right ds c R) : ds.length = 2 := by obtain ⟨_, _, _, _, rfl, _⟩ := h; rfl
theorem kw2 {K : PySem.W.Frag} {x y : PyData} {B : Hp} {ws : List V} (h : DaAll K B ws [x, y]) : ∃ a b, ws = [a, b] ∧ Da K B a x ∧ Da K B b y := by
  cases h with
  | cons h1 t =>
    cases t with
    | cons h2 t =>
      cases t
      exact ⟨_, _, rfl, h1, h2⟩
theorem kw3 {K : PySem.W.Frag} {x y z : PyData} {B : Hp} {ws : List V} (h : DaAll K B ws [x, y, z]) : ∃ a b c, ws = [a, b, c] ∧ Da K B a x ∧ Da K B b y ∧ Da K B c z := by
  cases h with
  | cons h1 t =>
    cases t with
    | cons h2 t =>
      cases t with
      | cons h3 t =>
        cases t
        exact ⟨_, _, _, rfl, h1, h2, h3⟩
theorem byN_data (names cs : List Int) : (intsD cs).map (fun e => PyData.int (names.getD (toI e).toNat 0)) = intsD (byN names cs) := by
  rw [intsD, List.map_map, intsD, byN, List.map_map]
  rfl
theorem byO_data (order cs : List Int) : (intsD order).map (fun e => PyData.int (cs.getD (toI e).toNat 0)) = intsD (byO order cs 0) := by
  rw [intsD, List.map_map, intsD, byO, List.map_map]
  rfl
theorem byO_tabs (order : List Int) (ts : List (List Int)) : (intsD order).map (fun e => PyData.list (intsD (ts.getD (toI e).toNat []))) = tabsD (byO order ts []) := by
  rw [intsD, List.map_map, tabsD, byO, List.map_map]
  rfl
theorem ren_data (names t : List Int) : (intsD (rgI t.length)).map (fun e => PyData.int (t.getD (names.idxOf (toI e)) 0)) = intsD (renT names t) := by
  rw [intsD, List.map_map, intsD, renT, List.map_map]
  rfl
theorem rent_data (names : List Int) (ts : List (List Int)) : (tabsD ts).map (fun e => PyData.list (intsD (renT names (tabIs e)))) = tabsD (ts.map (renT names)) := by
  unfold tabsD
  rw [List.map_map, List.map_map]
  refine List.map_congr_left fun t _ => ?_
  show PyData.list (intsD (renT names (tabIs (.list (intsD t))))) = .list (intsD (renT names t))
  rw [show tabIs (.list (intsD t)) = t from toI_ints t]
theorem sh_data (os t : List Int) (m : Int) : (intsD t).map (fun e => PyData.int (linR os.reverse [toI e, m] [])) = intsD (shT os t m) := by
  rw [intsD, List.map_map, intsD, shT, List.map_map]
  rfl
def rightD (os : List Int) (ts : List (List Int)) (tot : Int) (cs : List Int) (p : Nat) : PyData → Bool
  | .int m => decide (linR os.reverse (vals ts (cs.set p m)) [tot] = 0)
  | _ => false
theorem due_eq {os : List Int} {ts : List (List Int)} {tot : Int} {cs : List Int} {p w n : Nat} {t : List Int} (hs : Sys os ts tot) (hc : Code os ts cs) (ht : ts[p]? = some t) (hn : prodI os = n) (w1 : w < n) (w2 : t[w]? = some (wantV os ts tot cs p)) (w3 : ∀ m : Nat, t[m]? = some (wantV os ts tot cs p) → m = w) :
    (((List.range n).map fun (i : Nat) => PyData.int (i : Int)).filter (rightD os ts tot cs p)).map id = [.int (w : Int)] := by
  rw [List.filter_map, List.map_id, filter_one (w := w) n w1]
  · rfl
  · exact decide_eq_true ((off_put hs hc ht (m := w) (by omega)).mpr w2)
  · intro m hm q
    exact w3 m ((off_put hs hc ht (m := m) (by omega)).mp (of_decide_eq_true q))
theorem pl_code {os : List Int} {ts : List (List Int)} {tot : Int} {cs : List Int} (hs : Sys os ts tot) (hc : Code os ts cs) : Pl (.list (intsD cs)) := by
  have pp := (prod_take_le hs.ord os.length).2
  rw [List.take_length] at pp
  have h4 := hs.few
  refine Pl.ints (fun x hx => ?_) (by have := hc.len; omega)
  have := hc.mem x hx
  omega
theorem pl_off {os : List Int} (ho : Ords os) (ps ns : List Int) : Pl (.int (linR os.reverse ps ns)) := by
  have pp := (prod_take_le ho os.length).2
  rw [List.take_length] at pp
  have r := lin_rng ho.pos ps ns
  rw [ho.n] at r
  exact Pl.int (by omega)
theorem pl_sys {os : List Int} {ts : List (List Int)} {tot : Int} (hs : Sys os ts tot) : Pl (sysD os ts tot) := by
  have pp := (prod_take_le hs.ord os.length).2
  rw [List.take_length] at pp
  have hl := ords_len hs.ord
  have h4 := hs.few
  have t0 := hs.t0
  have t1 := hs.t1
  have pt : ∀ d ∈ tabsD ts, pl d = true ∧ d.depth ≤ 1 ∧ d.bulk ≤ 1000 := fun d hd => by
    obtain ⟨t, ht, rfl⟩ := List.mem_map.mp hd
    have T := hs.tabs t ht
    refine ⟨pl_list (pl_ints fun x hx => ?_), depth_list (depth_ints t), ?_⟩
    · have := T.mem x hx
      omega
    · have : (PyData.list (intsD t)).bulk ≤ (t.map PyData.int).length * (0 + 1) := bulk_list (bulk_ints t)
      rw [List.length_map] at this
      have := T.len
      omega
  have d0 : ∀ d ∈ [PyData.tuple (intsD os), .list (tabsD ts), .int tot], pl d = true ∧ d.depth ≤ 2 ∧ d.bulk ≤ 100200 := fun d hd => by
    rcases List.mem_cons.mp hd with rfl | hd
    · refine ⟨pl_tuple (pl_ints fun x hx => ?_), ?_, ?_⟩
      · have := ord_le hs.ord hx
        omega
      · have : (PyData.tuple (intsD os)).depth ≤ 0 + 1 := depth_tuple (depth_ints os)
        omega
      · have : (PyData.tuple (intsD os)).bulk ≤ (os.map PyData.int).length * (0 + 1) := bulk_tuple (bulk_ints os)
        rw [List.length_map] at this
        omega
    rcases List.mem_cons.mp hd with rfl | hd
    · refine ⟨pl_list fun d h => (pt d h).1, depth_list fun d h => (pt d h).2.1, ?_⟩
      have := bulk_list fun d h => (pt d h).2.2
      rw [tabs_len] at this
      have : ts.length * (1000 + 1) ≤ 100 * 1001 := Nat.mul_le_mul_right _ h4
      omega
    · have : d = .int tot := by simpa using hd
      subst this
      exact ⟨pl_int (by omega), by rw [depth_int]; omega, by rw [bulk_int]; omega⟩
  refine ⟨pl_tuple fun d h => (d0 d h).1, ?_, ?_⟩
  · have := depth_tuple fun d h => (d0 d h).2.1
    unfold sysD
    omega
  · have := bulk_tuple fun d h => (d0 d h).2.2
    unfold sysD
    show _ ≤ _
    have e : [PyData.tuple (intsD os), .list (tabsD ts), .int tot].length = 3 := rfl
    rw [e] at this
    omega
theorem pow12 {n k : Nat} (h : n ≤ 12) (k6 : k ≤ 6) : n ^ k ≤ 2985984 := by
  have a : n ^ k ≤ 12 ^ k := Nat.pow_le_pow_left h k
  have b : 12 ^ k ≤ 12 ^ 6 := Nat.pow_le_pow_right (by decide) k6
  have c : (12 : Nat) ^ 6 = 2985984 := by decide
  omega
def okD (os : List Int) (ts : List (List Int)) (tot : Int) : PyData → Bool
  | .list ds => decide (linR os.reverse (vals ts (ds.map toI)) [tot] = 0)
  | _ => false
theorem okD_eq {os : List Int} {ts : List (List Int)} {tot : Int} (cs : List Int) : okD os ts tot (.list (intsD cs)) = decide (linR os.reverse (vals ts cs) [tot] = 0) := by
  show decide (linR os.reverse (vals ts ((intsD cs).map toI)) [tot] = 0) = _
  rw [toI_ints]
theorem okD_len {os : List Int} {ts : List (List Int)} {tot : Int} {n wide : Nat} (hs : Sys os ts tot) (hn : prodI os = n) (hl : ts.length = wide) : ((codesD (allL n wide)).filter (okD os ts tot)).length = n ^ (wide - 1) := by
  have e := count_right hs
  rw [hn, hl, Int.toNat_natCast] at e
  unfold codesD
  rw [List.filter_map, List.length_map, ← e]
  congr 2
  funext cs
  exact okD_eq cs
end C
end
section
set_option maxRecDepth 100000
set_option maxHeartbeats 4000000
/-! the walk: one entry of the differences changed -/
namespace C
open PySem PySem.Spec PyProof.Rows L2 G Lin
theorem lin_eq : ∀ {r ps ns qs ms : List Int}, (ps ++ ms).Perm (qs ++ ns) → linR r ps ns = linR r qs ms
  | [], _, _, _, _, _ => rfl
  | o :: r, ps, ns, qs, ms, h => by
    have s := sum_perm h
    rw [List.sum_append, List.sum_append] at s
    have ih := lin_eq (r := r) (ps := ps.map (· / o)) (ns := ns.map (· / o)) (qs := qs.map (· / o)) (ms := ms.map (· / o)) (by rw [← List.map_append, ← List.map_append]; exact h.map _)
    show (ps.sum - ns.sum) % o + o * _ = (qs.sum - ms.sum) % o + o * _
    rw [ih, show ps.sum - ns.sum = qs.sum - ms.sum by omega]
/-- permutations of short lists -/
theorem perm_c {xs ys : List Int} (h : ∀ x : Int, xs.count x = ys.count x) : xs.Perm ys := List.perm_iff_count.mpr h
section
variable {r : List Int}
/-- the same member by what it sums to -/
theorem lin_cut (h : Pos r) {x y : Int} (x0 : 0 ≤ x) (x1 : x < prodR r) (y0 : 0 ≤ y) (y1 : y < prodR r) (ps ns : List Int) (e : linR r (x :: ps) ns = linR r (y :: ps) ns) : x = y := by
  have a := lin_one h x0 x1
  have b := lin_one h y0 y1
  have c : ∀ z : Int, linR r [linR r (z :: ps) ns] [linR r ps ns] = linR r [z] [] := fun z => by
    rw [lin_in h, lin_eq (ps := (z :: ps) ++ []) (ns := ns ++ [linR r ps ns]) (qs := z :: ps) (ms := linR r ps ns :: ns) (perm_c fun u => by simp only [List.count_append, List.count_cons, List.count_nil]; omega), lin_out h]
    exact lin_eq (perm_c fun u => by simp only [List.count_append, List.count_cons, List.count_nil]; omega)
  rw [← a, ← b, ← c x, ← c y, e]
theorem lin_cutn (h : Pos r) {x y : Int} (x0 : 0 ≤ x) (x1 : x < prodR r) (y0 : 0 ≤ y) (y1 : y < prodR r) (ps ns : List Int) (e : linR r ps (x :: ns) = linR r ps (y :: ns)) : x = y := by
  refine lin_cut h x0 x1 y0 y1 [] [] ?_
  have c : ∀ z : Int, linR r ps [linR r ps (z :: ns), linR r ns []] = linR r [z] [] := fun z => by
    rw [lin_out h, lin_eq (ps := (z :: ns) ++ ps) (ns := ps ++ [linR r ns []]) (qs := (z :: ns) ++ ps) (ms := linR r ns [] :: ps) (perm_c fun u => by simp only [List.count_append, List.count_cons, List.count_nil]; omega), lin_out h]
    exact lin_eq (perm_c fun u => by simp only [List.count_append, List.count_cons, List.count_nil]; omega)
  rw [← c x, ← c y, e]
end
/-- the member m bears in b -/
def At (b : List Int) (m v : Int) : Prop := b[m.toNat]? = some v
theorem At.uniq {b : List Int} {m v u : Int} (h : At b m v) (k : At b m u) : v = u := by
  unfold At at h k
  rw [h] at k
  exact Option.some.inj k
theorem at_set {b : List Int} {m v : Int} {n : Nat} (hl : b.length = n) (h0 : 0 ≤ m) (h : m < n) : At (b.set m.toNat v) m v := List.getElem?_set_self (by omega)
theorem at_ne {b : List Int} {m k v u : Int} (hm : 0 ≤ m) (hk : 0 ≤ k) (ne : k ≠ m) (h : At b k u) : At (b.set m.toNat v) k u := by
  unfold At
  rw [List.getElem?_set_ne (by omega)]
  exact h
theorem at_in {b : List Int} {m : Int} {n : Nat} (hl : b.length = n) (h0 : 0 ≤ m) (h : m < n) : ∃ v, At b m v := ⟨b[m.toNat]'(by omega), List.getElem?_eq_getElem _⟩
structure WInv (r : List Int) (n : Nat) (c : List Int) (F : List Int) (p q new : Int) (b br : List Int) (t w v : Int) (L : List Int) : Prop where
  lc : c.length = n
  lb : b.length = n
  lr : br.length = n
  nd : L.Nodup
  mem : ∀ x ∈ L, 0 ≤ x ∧ x < n
  tail : ∃ M, L = M ++ [t, w]
  one : L[0]? = some p
  two : L[1]? = some q
  took : ∀ (i : Nat) (x y : Int), L[i]? = some x → L[i + 1]? = some y → i + 2 < L.length → At b x (linR r [p, new, q] [y])
  fresh : ∀ x u : Int, 0 ≤ x → x < n → x ∉ L → At c x u → At b x u
  hist : ∀ (i : Nat) (x y : Int), L[i + 2]? = some x → L[i + 1]? = some y → At c x (linR r [p, new, q] [y])
  brs : ∀ u : Int, 0 ≤ u → u < n → u ∉ F → ∃ m : Int, At br u m ∧ 0 ≤ m ∧ m < n ∧ m ≠ t ∧ m ≠ w ∧ At b m u
  bs : ∀ m : Int, 0 ≤ m → m < n → m ≠ t → m ≠ w → ∃ u : Int, At b m u ∧ 0 ≤ u ∧ u < n ∧ u ∉ F ∧ At br u m
  want : v = linR r [p, new, q] [w]
section
variable {r : List Int} {n : Nat} {c F : List Int} {p q new : Int} {b br L : List Int} {t w v : Int}
theorem WInv.ts (h : WInv r n c F p q new b br t w v L) : t ∈ L ∧ w ∈ L ∧ t ≠ w := by
  obtain ⟨M, e⟩ := h.tail
  have nd := h.nd
  rw [e] at nd ⊢
  refine ⟨by simp, by simp, fun z => ?_⟩
  subst z
  have := (List.nodup_append.mp nd).2.1
  simp at this
theorem WInv.few (h : WInv r n c F p q new b br t w v L) : L.length ≤ n := by
  have q := nodup_le (l := L) (S := rgI n) h.nd fun x hx => by
    have := h.mem x hx
    exact List.mem_map.mpr ⟨x.toNat, List.mem_range.mpr (by omega), by omega⟩
  rwa [rg_len] at q
theorem WInv.vr (h : WInv r n c F p q new b br t w v L) (hp : Pos r) (hn : prodR r = n) : 0 ≤ v ∧ v < n := by
  have := lin_rng hp [p, new, q] [w]
  rw [h.want, ← hn]
  exact this
theorem WInv.step (h : WInv r n c F p q new b br t w v L) (hp : Pos r) (hn : prodR r = n) (hv : v ∉ F) :
    ∃ j, At br v j ∧ 0 ≤ j ∧ j < n ∧ WInv r n c F p q new (b.set t.toNat v) (br.set v.toNat t) w j (linR r [w, linR r [v] [j]] []) (L ++ [j]) := by
  obtain ⟨v0, v1⟩ := h.vr hp hn
  obtain ⟨tL, wL, tw⟩ := h.ts
  obtain ⟨t0, t1⟩ := h.mem t tL
  obtain ⟨w0, w1⟩ := h.mem w wL
  obtain ⟨j, hj, j0, j1, jt, jw, bj⟩ := h.brs v v0 v1 hv
  obtain ⟨M, eM⟩ := h.tail
  have hl : L.length = M.length + 2 := by rw [eM]; simp
  have lt : L[M.length]? = some t := by rw [eM]; simp
  have lw : L[M.length + 1]? = some w := by rw [eM]; simp
  have jL : j ∉ L := fun hm => by
    obtain ⟨i, hi⟩ := List.mem_iff_getElem?.mp hm
    have il := (List.getElem?_eq_some_iff.mp hi).1
    have i1 : i ≠ M.length := fun e => by
      subst e
      rw [lt] at hi
      exact jt (Option.some.inj hi).symm
    have i2 : i ≠ M.length + 1 := fun e => by
      subst e
      rw [lw] at hi
      exact jw (Option.some.inj hi).symm
    have hy : L[i + 1]? = some (L[i + 1]'(by omega)) := List.getElem?_eq_getElem _
    generalize L[i + 1]'(by omega) = y at hy
    have k := h.took i j y hi hy (by omega)
    have e := k.uniq bj
    rw [h.want] at e
    obtain ⟨y0, y1⟩ := h.mem y (List.mem_of_getElem? hy)
    have ey := lin_cutn hp y0 (by omega) w0 (by omega) [p, new, q] [] e
    subst ey
    have a1 := idx_at h.nd hy
    have a2 := idx_at h.nd lw
    omega
  have nw : linR r [w, linR r [v] [j]] [] = linR r [p, new, q] [j] := by
    rw [h.want]
    have e1 : linR r [w, linR r [linR r [p, new, q] [w]] [j]] [] = linR r [linR r [linR r [p, new, q] [w]] [j], w] [] := lin_eq (perm_c fun u => by simp only [List.count_append, List.count_cons, List.count_nil]; omega)
    rw [e1, lin_in hp]
    show linR r (linR r [p, new, q] [w] :: [w]) [j] = _
    rw [lin_in hp]
    exact lin_eq (perm_c fun u => by simp only [List.count_append, List.count_cons, List.count_nil]; omega)
  refine ⟨j, hj, j0, j1, ?_⟩
  have get_old : ∀ (i : Nat) (x : Int), i < L.length → (L ++ [j])[i]? = some x → L[i]? = some x := fun i x hi e => by
    rw [List.getElem?_append_left hi] at e
    exact e
  have get_new : ∀ (x : Int), (L ++ [j])[L.length]? = some x → x = j := fun x e => by
    rw [List.getElem?_append_right (Nat.le_refl _), Nat.sub_self] at e
    exact (Option.some.inj e).symm
  refine { lc := h.lc, lb := by rw [List.length_set]; exact h.lb, lr := by rw [List.length_set]; exact h.lr, nd := ?_, mem := ?_, tail := ⟨M ++ [t], by rw [eM]; simp⟩, one := ?_, two := ?_, took := ?_, fresh := ?_, hist := ?_, brs := ?_, bs := ?_, want := nw }
  · exact List.nodup_append.mpr ⟨h.nd, by simp, fun a ha b hb => by
      have : b = j := by simpa using hb
      subst this
      exact fun e => jL (e ▸ ha)⟩
  · intro x hx
    rcases List.mem_append.mp hx with hx | hx
    · exact h.mem x hx
    · have : x = j := by simpa using hx
      subst this
      exact ⟨j0, j1⟩
  · rw [List.getElem?_append_left (by omega)]
    exact h.one
  · rw [List.getElem?_append_left (by omega)]
    exact h.two
  · intro i x y hx hy hi
    rw [List.length_append] at hi
    have hi' : i + 2 < L.length + 1 := hi
    have hx' := get_old i x (by omega) hx
    have hy' := get_old (i + 1) y (by omega) hy
    by_cases c : i = M.length
    · subst c
      rw [lt] at hx'
      rw [lw] at hy'
      cases hx'
      cases hy'
      rw [← h.want]
      exact at_set h.lb t0 t1
    · have k := h.took i x y hx' hy' (by omega)
      have x0 := h.mem x (List.mem_of_getElem? hx')
      refine at_ne t0 x0.1 (fun e => ?_) k
      subst e
      have a1 := idx_at h.nd hx'
      have a2 := idx_at h.nd lt
      omega
  · intro x u x0 x1 hx k
    have xL : x ∉ L := fun z => hx (List.mem_append_left _ z)
    exact at_ne t0 x0 (fun e => xL (e ▸ tL)) (h.fresh x u x0 x1 xL k)
  · intro i x y hx hy
    have il : i + 2 < (L ++ [j]).length := (List.getElem?_eq_some_iff.mp hx).1
    rw [List.length_append] at il
    have il' : i + 2 < L.length + 1 := il
    have hy' := get_old (i + 1) y (by omega) hy
    by_cases c : i + 2 = L.length
    · rw [c] at hx
      have ex := get_new x hx
      subst ex
      have e2 : i + 1 = M.length + 1 := by omega
      rw [e2, lw] at hy'
      cases hy'
      obtain ⟨u, hu⟩ := at_in h.lc j0 j1
      have k := h.fresh x u j0 j1 jL hu
      rw [k.uniq bj, h.want] at hu
      exact hu
    · exact h.hist i x y (get_old (i + 2) x (by omega) hx) hy'
  · intro u u0 u1 hu
    by_cases c : u = v
    · subst c
      exact ⟨t, at_set h.lr u0 u1, t0, t1, tw, fun e => jt e.symm, at_set h.lb t0 t1⟩
    · obtain ⟨m, k1, m0, m1, mt, mw, k2⟩ := h.brs u u0 u1 hu
      refine ⟨m, at_ne v0 u0 c k1, m0, m1, mw, fun e => ?_, at_ne t0 m0 mt k2⟩
      subst e
      exact c (k2.uniq bj)
  · intro m m0 m1 mw mj
    by_cases c : m = t
    · subst c
      exact ⟨v, at_set h.lb t0 t1, v0, v1, hv, at_set h.lr v0 v1⟩
    · obtain ⟨u, k1, u0, u1, uF, k2⟩ := h.bs m m0 m1 c mw
      refine ⟨u, at_ne t0 m0 c k1, u0, u1, uF, at_ne v0 u0 (fun e => ?_) k2⟩
      subst e
      exact mj (k2.uniq hj)
end
end C
end
section
set_option maxRecDepth 100000
set_option maxHeartbeats 4000000
/-! the walk's start and end -/
namespace C
open PySem PySem.Spec PyProof.Rows L2 G Lin
def bv (b : List Int) (m : Int) : Int := b.getD m.toNat 0
theorem At.bv {b : List Int} {m v : Int} (h : At b m v) : bv b m = v := by
  unfold C.bv
  unfold At at h
  rw [List.getD_eq_getElem?_getD, h]
  rfl
theorem at_bv {b : List Int} {m : Int} {n : Nat} (hl : b.length = n) (h0 : 0 ≤ m) (h : m < n) : At b m (bv b m) := by
  obtain ⟨v, hv⟩ := at_in hl h0 h
  rw [hv.bv]
  exact hv
/-- the differences, by members -/
def dl (r b : List Int) : List Int := (rgI b.length).map fun m => linR r [bv b m] [m]
theorem mem_rg {n : Nat} {x : Int} : x ∈ rgI n ↔ 0 ≤ x ∧ x < n := by
  constructor
  · intro h
    obtain ⟨i, hi, rfl⟩ := List.mem_map.mp h
    have := List.mem_range.mp hi
    omega
  · intro h
    exact List.mem_map.mpr ⟨x.toNat, List.mem_range.mpr (by omega), by omega⟩
theorem perm_rg_of {n : Nat} {l : List Int} (nd : l.Nodup) (h : ∀ x, x ∈ l ↔ 0 ≤ x ∧ x < n) : l.Perm (rgI n) := by
  refine List.perm_iff_count.mpr fun x => ?_
  rw [nd.count, (rg_nodup n).count]
  by_cases c : 0 ≤ x ∧ x < n
  · rw [if_pos ((h x).mpr c), if_pos (mem_rg.mpr c)]
  · rw [if_neg (fun z => c ((h x).mp z)), if_neg (fun z => c (mem_rg.mp z))]
theorem split_rg {n : Nat} {L : List Int} (nd : L.Nodup) (h : ∀ x ∈ L, 0 ≤ x ∧ x < n) : (rgI n).Perm (L ++ (rgI n).filter fun x => decide (x ∉ L)) := by
  refine (perm_rg_of ?_ fun x => ?_).symm
  · refine List.nodup_append.mpr ⟨nd, (rg_nodup n).filter _, fun a ha b hb e => ?_⟩
    subst e
    have := (List.mem_filter.mp hb).2
    simp at this
    exact this ha
  · rw [List.mem_append, List.mem_filter, mem_rg]
    constructor
    · rintro (a | a)
      · exact h x a
      · exact a.1
    · intro a
      by_cases c : x ∈ L
      · exact .inl c
      · exact .inr ⟨a, by simpa using c⟩
/-- turned round -/
def invT (t : List Int) : List Int := (rgI t.length).map fun m => ((t.idxOf m : Nat) : Int)
theorem inv_len (t : List Int) : (invT t).length = t.length := by unfold invT; rw [List.length_map, rg_len]
theorem inv_at {n : Nat} {t : List Int} (T : Tab (n : Int) t) {m v : Int} (h0 : 0 ≤ m) (h : At t m v) : At (invT t) v m := by
  have hv := T.mem v (List.mem_of_getElem? h)
  have hl := T.len
  unfold At invT
  rw [List.getElem?_map, rg_at (by omega)]
  have e : ((v.toNat : Nat) : Int) = v := by omega
  show some (((t.idxOf ((v.toNat : Nat) : Int) : Nat) : Int)) = _
  rw [e, idx_at T.nd h]
  congr 1
  omega
theorem at_has {n : Nat} {t : List Int} (T : Tab (n : Int) t) {v : Int} (h0 : 0 ≤ v) (h1 : v < n) : ∃ m, At t m v ∧ 0 ≤ m ∧ m < n := by
  obtain ⟨w, hw, h, _⟩ := T.one h0 h1
  exact ⟨(w : Int), by unfold At; rw [Int.toNat_natCast]; exact h, by omega, by omega⟩
theorem at_inj {n : Nat} {t : List Int} (T : Tab (n : Int) t) {m k v : Int} (m0 : 0 ≤ m) (k0 : 0 ≤ k) (h : At t m v) (g : At t k v) : m = k := by
  have a := idx_at T.nd h
  have b := idx_at T.nd g
  omega
section
variable {r : List Int} {n : Nat} {c F : List Int} {p q new : Int} {b br L : List Int} {t w v : Int}
theorem WInv.start (hp : Pos r) (hn : prodR r = n) (T : Tab (n : Int) c) (p0 : 0 ≤ p) (p1 : p < n) (q0 : 0 ≤ q) (q1 : q < n) (pq : p ≠ q) {cp cq : Int} (hcp : At c p cp) (hcq : At c q cq) :
    WInv r n c [cp, cq] p q new c (invT c) p q (linR r [p, new] []) [p, q] := by
  have hl : c.length = n := by have := T.len; omega
  refine { lc := hl, lb := hl, lr := by rw [inv_len]; exact hl, nd := by simp [pq], mem := ?_, tail := ⟨[], rfl⟩, one := rfl, two := rfl, took := ?_, fresh := fun _ _ _ _ _ h => h, hist := ?_, brs := ?_, bs := ?_, want := ?_ }
  · intro x hx
    rcases List.mem_cons.mp hx with rfl | hx
    · exact ⟨p0, p1⟩
    · have : x = q := by simpa using hx
      subst this
      exact ⟨q0, q1⟩
  · intro i x y _ _ h
    have h' : i + 2 < 2 := h
    omega
  · intro i x y h
    have h' : i + 2 < 2 := (List.getElem?_eq_some_iff.mp h).1
    omega
  · intro u u0 u1 hu
    obtain ⟨m, hm, m0, m1⟩ := at_has T u0 u1
    refine ⟨m, inv_at T m0 hm, m0, m1, fun e => ?_, fun e => ?_, hm⟩
    · subst e
      exact hu (by rw [hm.uniq hcp]; simp)
    · subst e
      exact hu (by rw [hm.uniq hcq]; simp)
  · intro m m0 m1 mp mq
    obtain ⟨u, hu⟩ := at_in hl m0 m1
    have hur := T.mem u (List.mem_of_getElem? hu)
    refine ⟨u, hu, hur.1, hur.2, fun z => ?_, inv_at T m0 hu⟩
    rcases List.mem_cons.mp z with rfl | z
    · exact mp (at_inj T m0 p0 hu hcp)
    · have : u = cq := by simpa using z
      subst this
      exact mq (at_inj T m0 q0 hu hcq)
  · exact lin_eq (perm_c fun u => by simp only [List.count_append, List.count_cons, List.count_nil]; omega)
/-- what a chain of members makes of functions that slide along it -/
theorem slide {fd od : Int → Int} : ∀ (T : List Int) (y : Int), (∀ (i : Nat) (x z : Int), (y :: T)[i]? = some x → (y :: T)[i + 1]? = some z → od z = fd x) → ∃ l, (y :: T).getLast? = some l ∧ (y :: T).map fd = T.map od ++ [fd l]
  | [], y, _ => ⟨y, rfl, rfl⟩
  | z :: T, y, h => by
    obtain ⟨l, e1, e2⟩ := slide T z fun i a b h1 h2 => h (i + 1) a b (by simpa using h1) (by simpa using h2)
    refine ⟨l, by rw [List.getLast?_cons_cons]; exact e1, ?_⟩
    rw [List.map_cons, e2, ← h 0 y z rfl rfl]
    rfl
theorem sum_dl (hp : Pos r) (hn : prodR r = n) {b : List Int} (T : Tab (n : Int) b) : linR r (dl r b) [] = 0 := by
  have hl : b.length = n := by have := T.len; omega
  have g : ∀ l : List Int, linR r (l.map fun m => linR r [bv b m] [m]) [] = linR r (l.map (bv b)) l := fun l => by
    induction l with
    | nil => rfl
    | cons x l ih =>
      rw [List.map_cons, lin_in hp]
      have e : ∀ us : List Int, linR r ([bv b x] ++ us) ([x] ++ []) = linR r [linR r us [], bv b x] [x] := fun us => by
        rw [lin_in hp]
        exact lin_eq (perm_c fun u => by simp only [List.count_append, List.count_cons, List.count_nil]; omega)
      rw [e, ih, lin_in hp]
      exact lin_eq (perm_c fun u => by simp only [List.map_cons, List.count_append, List.count_cons, List.count_nil]; omega)
  unfold dl
  rw [g, hl]
  have e : (rgI n).map (bv b) = b := by
    refine List.ext_getElem? fun i => ?_
    by_cases hi : i < n
    · rw [List.getElem?_map, rg_at hi]
      have k := at_bv (m := (i : Int)) hl (by omega) (by omega)
      unfold At at k
      rw [Int.toNat_natCast] at k
      exact k.symm
    · rw [List.getElem?_eq_none (by rw [List.length_map, rg_len]; omega), List.getElem?_eq_none (by omega)]
  rw [e, ← lin_all (r := r) b]
  refine lin_eq ?_
  have pb : b.Perm (rgI n) := perm_rg_of T.nd fun x => ⟨fun h => T.mem x h, fun h => T.has h.1 h.2⟩
  exact (List.Perm.refl b).append pb
theorem sum_rng (h : Pos r) (ps : List Int) (x : Int) (x0 : 0 ≤ x) (x1 : x < prodR r) : linR r (x :: ps) [] = linR r ps [] → x = 0 := fun e => by
  refine lin_cut h x0 x1 (Int.le_refl 0) (by have := prodR_pos h; omega) ps [] (e.trans ?_)
  have z := lin_in h ps [] [] []
  rw [lin_nil] at z
  exact z.symm
theorem lin_z (h : Pos r) (ds ps : List Int) (e : linR r ds [] = 0) : linR r (ps ++ ds) [] = linR r ps [] := by
  have a := lin_in h ps [] ds []
  have b := lin_in h ps [] [] []
  rw [lin_nil] at b
  rw [e] at a
  refine (lin_eq (qs := ds ++ ps) (ms := []) (ns := []) (perm_c fun u => by simp only [List.count_append, List.count_cons, List.count_nil]; omega)).trans (?_ : linR r (ds ++ ps) [] = _)
  have a' : linR r (0 :: ps) [] = linR r (ds ++ ps) [] := by simpa using a
  have b' : linR r (0 :: ps) [] = linR r ps [] := by simpa using b
  exact a'.symm.trans b'
theorem tab_at {b : List Int} (hl : b.length = n) (h : ∀ m : Int, 0 ≤ m → m < n → ∃ u, At b m u ∧ 0 ≤ u ∧ u < n) (inj : ∀ m k u : Int, 0 ≤ m → m < n → 0 ≤ k → k < n → At b m u → At b k u → m = k) : Tab (n : Int) b := by
  refine ⟨by omega, fun x hx => ?_, List.pairwise_iff_getElem.mpr fun i j hi hj hij e => ?_⟩
  · obtain ⟨i, hi⟩ := List.mem_iff_getElem?.mp hx
    have l := (List.getElem?_eq_some_iff.mp hi).1
    obtain ⟨u, hu, u0, u1⟩ := h i (by omega) (by omega)
    unfold At at hu
    rw [Int.toNat_natCast, hi] at hu
    cases hu
    exact ⟨u0, u1⟩
  · have := inj i j b[i] (by omega) (by omega) (by omega) (by omega) (by unfold At; rw [Int.toNat_natCast]; exact List.getElem?_eq_getElem hi) (by unfold At; rw [Int.toNat_natCast, e]; exact List.getElem?_eq_getElem hj)
    omega
theorem WInv.done (h : WInv r n c F p q new b br t w v L) (hp : Pos r) (hn : prodR r = n) (T : Tab (n : Int) c) (n0 : 0 ≤ new) (n1 : new < n) {o : Int} (o0 : 0 ≤ o) (o1 : o < n) (hF : ∀ u, u ∈ F ↔ u = v ∨ u = o) (vo : v ≠ o) :
    Tab (n : Int) ((b.set t.toNat v).set w.toNat o) ∧ (linR r [bv c p] [p] :: linR r [bv c q] [q] :: dl r ((b.set t.toNat v).set w.toNat o)).Perm (new :: linR r [linR r [bv c p] [p], linR r [bv c q] [q]] [new] :: dl r c) := by
  obtain ⟨tL, wL, tw⟩ := h.ts
  obtain ⟨t0, t1⟩ := h.mem t tL
  obtain ⟨w0, w1⟩ := h.mem w wL
  obtain ⟨v0, v1⟩ := h.vr hp hn
  have cl : c.length = n := h.lc
  have bl : ((b.set t.toNat v).set w.toNat o).length = n := by rw [List.length_set, List.length_set]; exact h.lb
  have aw : At ((b.set t.toNat v).set w.toNat o) w o := at_set (by rw [List.length_set]; exact h.lb) w0 w1
  have at' : At ((b.set t.toNat v).set w.toNat o) t v := at_ne w0 t0 tw (at_set h.lb t0 t1)
  have am : ∀ m u : Int, 0 ≤ m → m ≠ t → m ≠ w → At b m u → At ((b.set t.toNat v).set w.toNat o) m u := fun m u m0 mt mw k => at_ne w0 m0 mw (at_ne t0 m0 mt k)
  generalize hb' : (b.set t.toNat v).set w.toNat o = b' at bl aw at' am ⊢
  have vF : v ∈ F := (hF v).mpr (.inl rfl)
  have oF : o ∈ F := (hF o).mpr (.inr rfl)
  have T' : Tab (n : Int) b' := by
    refine tab_at bl (fun m m0 m1 => ?_) fun m k u m0 m1 k0 k1 hm hk => ?_
    · by_cases c1 : m = t
      · exact ⟨v, by rw [c1]; exact at', v0, v1⟩
      by_cases c2 : m = w
      · exact ⟨o, by rw [c2]; exact aw, o0, o1⟩
      obtain ⟨u, k1, u0, u1, _⟩ := h.bs m m0 m1 c1 c2
      exact ⟨u, am m u m0 c1 c2 k1, u0, u1⟩
    · have key : ∀ m : Int, 0 ≤ m → m < n → At b' m u → (m = t ∧ u = v) ∨ (m = w ∧ u = o) ∨ (u ∉ F ∧ At br u m) := fun m m0 m1 hm => by
        by_cases c1 : m = t
        · subst c1
          exact .inl ⟨rfl, hm.uniq at'⟩
        by_cases c2 : m = w
        · subst c2
          exact .inr (.inl ⟨rfl, hm.uniq aw⟩)
        obtain ⟨u2, k1, _, _, uF, k2⟩ := h.bs m m0 m1 c1 c2
        have e := hm.uniq (am m u2 m0 c1 c2 k1)
        subst e
        exact .inr (.inr ⟨uF, k2⟩)
      rcases key m m0 m1 hm with ⟨a, ea⟩ | ⟨a, ea⟩ | ⟨a, ea⟩ <;> rcases key k k0 k1 hk with ⟨b2, eb⟩ | ⟨b2, eb⟩ | ⟨b2, eb⟩
      · omega
      · omega
      · exact absurd (ea ▸ vF) b2
      · omega
      · omega
      · exact absurd (ea ▸ oF) b2
      · exact absurd (eb ▸ vF) a
      · exact absurd (eb ▸ oF) a
      · exact ea.uniq eb
  refine ⟨T', ?_⟩
  -- the history
  obtain ⟨Tl, eL⟩ : ∃ Tl, L = p :: q :: Tl := by
    match L, h.one, h.two with
    | a :: b :: l, h1, h2 =>
      have e1 : a = p := by simpa using h1
      have e2 : b = q := by simpa using h2
      exact ⟨l, by rw [e1, e2]⟩
  obtain ⟨M, eM⟩ := h.tail
  have ll : L.length = M.length + 2 := by rw [eM]; simp
  have lt : L[M.length]? = some t := by rw [eM]; simp
  have lw : L[M.length + 1]? = some w := by rw [eM]; simp
  have bn : ∀ (i : Nat) (x y : Int), L[i]? = some x → L[i + 1]? = some y → At b' x (linR r [p, new, q] [y]) := fun i x y hx hy => by
    have il := (List.getElem?_eq_some_iff.mp hy).1
    by_cases c1 : i = M.length
    · subst c1
      rw [lt] at hx
      rw [lw] at hy
      cases hx
      cases hy
      rw [← h.want]
      exact at'
    · have k := h.took i x y hx hy (by omega)
      have xr := h.mem x (List.mem_of_getElem? hx)
      refine am x _ xr.1 (fun e => ?_) (fun e => ?_) k
      · subst e
        have a1 := idx_at h.nd hx
        have a2 := idx_at h.nd lt
        omega
      · subst e
        have a1 := idx_at h.nd hx
        have a2 := idx_at h.nd lw
        omega
  obtain ⟨l, _, es⟩ := slide (fd := fun m => linR r [bv b' m] [m]) (od := fun m => linR r [bv c m] [m]) Tl q fun i x z hx hz => by
    have hx' : L[i + 1]? = some x := by rw [eL]; simpa using hx
    have hz' : L[i + 2]? = some z := by rw [eL]; simpa using hz
    have k1 := bn (i + 1) x z hx' hz'
    have k2 := h.hist i z x hz' hx'
    show linR r [bv c z] [z] = linR r [bv b' x] [x]
    rw [k1.bv, k2.bv, lin_in hp, lin_in hp]
    exact lin_eq (perm_c fun u => by simp only [List.count_append, List.count_cons, List.count_nil]; omega)
  have ep : linR r [bv b' p] [p] = new := by
    have k := bn 0 p q h.one h.two
    rw [k.bv, lin_in hp, ← lin_one hp n0 (by rw [hn]; exact n1)]
    rw [lin_one hp n0 (by rw [hn]; exact n1)]
    exact (lin_eq (perm_c fun u => by simp only [List.count_append, List.count_cons, List.count_nil]; omega)).trans (lin_one hp n0 (by rw [hn]; exact n1))
  have sp := split_rg h.nd h.mem
  have d1 := sp.map (fun m => linR r [bv b' m] [m])
  have d2 := sp.map (fun m => linR r [bv c m] [m])
  have er : ((rgI n).filter fun x => decide (x ∉ L)).map (fun m => linR r [bv b' m] [m]) = ((rgI n).filter fun x => decide (x ∉ L)).map (fun m => linR r [bv c m] [m]) := by
    refine List.map_congr_left fun x hx => ?_
    obtain ⟨h1, h2⟩ := List.mem_filter.mp hx
    have xr := mem_rg.mp h1
    have xL : x ∉ L := by simpa using h2
    have k := h.fresh x _ xr.1 xr.2 xL (at_bv cl xr.1 xr.2)
    rw [(am x _ xr.1 (fun e => xL (e ▸ tL)) (fun e => xL (e ▸ wL)) k).bv]
  rw [List.map_append, er] at d1
  rw [List.map_append] at d2
  generalize ((rgI n).filter fun x => decide (x ∉ L)).map (fun m => linR r [bv c m] [m]) = R at d1 d2
  have f1 : L.map (fun m => linR r [bv b' m] [m]) = new :: (Tl.map (fun m => linR r [bv c m] [m]) ++ [linR r [bv b' l] [l]]) := by
    rw [eL, List.map_cons, es, ep]
  have f2 : L.map (fun m => linR r [bv c m] [m]) = linR r [bv c p] [p] :: linR r [bv c q] [q] :: Tl.map (fun m => linR r [bv c m] [m]) := by
    rw [eL, List.map_cons, List.map_cons]
  rw [f1] at d1
  rw [f2] at d2
  have g1 : (linR r [bv c p] [p] :: linR r [bv c q] [q] :: dl r b').Perm (new :: linR r [bv b' l] [l] :: dl r c) := by
    unfold dl
    rw [bl, cl]
    refine List.perm_iff_count.mpr fun u => ?_
    have a := d1.count_eq u
    have b := d2.count_eq u
    simp only [List.count_append, List.count_cons, List.count_nil] at a b ⊢
    omega
  have ex : linR r [bv b' l] [l] = linR r [linR r [bv c p] [p], linR r [bv c q] [q]] [new] := by
    have x0 := lin_rng hp [bv b' l] [l]
    have y0 := lin_rng hp [linR r [bv c p] [p], linR r [bv c q] [q]] [new]
    generalize linR r [bv b' l] [l] = x at g1 x0 ⊢
    refine lin_cut hp x0.1 x0.2 y0.1 y0.2 [new] [] ?_
    have s1 := lin_z hp (dl r b') [linR r [bv c p] [p], linR r [bv c q] [q]] (sum_dl hp hn T')
    have s2 := lin_z hp (dl r c) [new, x] (sum_dl hp hn T)
    have s3 : linR r ([linR r [bv c p] [p], linR r [bv c q] [q]] ++ dl r b') [] = linR r ([new, x] ++ dl r c) [] := lin_eq (by rw [List.append_nil, List.append_nil]; exact g1)
    rw [s1, s2] at s3
    refine (lin_eq (ps := [x, new]) (ns := []) (qs := [new, x]) (ms := []) (perm_c fun u => by simp only [List.count_append, List.count_cons, List.count_nil]; omega)).trans (s3.symm.trans ?_)
    rw [lin_in hp [new] [] [linR r [bv c p] [p], linR r [bv c q] [q]] [new]]
    exact lin_eq (perm_c fun u => by simp only [List.count_append, List.count_cons, List.count_nil]; omega)
  rw [← ex]
  exact g1
end
end C
end
section
set_option maxRecDepth 100000
set_option maxHeartbeats 4000000
/-! walks, rounds, tables that follow -/
namespace C
open PySem PySem.Spec PyProof.Rows L2 G Lin
def othF (F : List Int) (v : Int) : Int := (F.erase v).headD 0
/-- the loop of the walk -/
def walkL (r F : List Int) : Nat → List Int → List Int → Int → Int → Int → List Int
  | 0, b, _, _, _, _ => b
  | k + 1, b, br, t, w, v => if v ∈ F then (b.set t.toNat v).set w.toNat (othF F v) else walkL r F k (b.set t.toNat v) (br.set v.toNat t) w (bv br v) (linR r [w, linR r [v] [bv br v]] [])
def tkr (r c : List Int) (old : Int) : Nat := (dl r c).idxOf old
def wtL (D : List Int) (last p : Int) : List Int := (rgI D.length).filter fun m => decide (bv D m = last) && decide (m ≠ p)
def wtr (r c : List Int) (old last : Int) : Int := (wtL (dl r c) last (tkr r c old : Nat)).headD 0
def walkT (os c : List Int) (old last new : Int) : List Int :=
  walkL os.reverse [bv c (tkr os.reverse c old : Nat), bv c (wtr os.reverse c old last)] (c.length - 1) c (invT c) (tkr os.reverse c old : Nat) (wtr os.reverse c old last) (linR os.reverse [(tkr os.reverse c old : Nat), new] [])
/-- old is one of the differences, last one at another sign -/
structure Can (r c : List Int) (old last : Int) : Prop where
  o : old ∈ dl r c
  l : wtL (dl r c) last (tkr r c old : Nat) ≠ []
theorem dl_len (r b : List Int) : (dl r b).length = b.length := by unfold dl; rw [List.length_map, rg_len]
theorem dl_at {r b : List Int} {n : Nat} (hl : b.length = n) {m : Int} (h0 : 0 ≤ m) (h1 : m < n) : At (dl r b) m (linR r [bv b m] [m]) := by
  unfold At dl
  rw [List.getElem?_map, hl, rg_at (by omega)]
  have e : ((m.toNat : Nat) : Int) = m := by omega
  show some (linR r [bv b ((m.toNat : Nat) : Int)] [((m.toNat : Nat) : Int)]) = _
  rw [e]
theorem headD_of {l : List Int} (h : l ≠ []) : ∃ t, l = l.headD 0 :: t := by
  cases l with
  | nil => exact absurd rfl h
  | cons a t => exact ⟨t, rfl⟩
theorem Can.tk {r c : List Int} {old last : Int} (h : Can r c old last) : tkr r c old < c.length ∧ linR r [bv c (tkr r c old : Nat)] [(tkr r c old : Nat)] = old ∧ (dl r c)[tkr r c old]? = some old := by
  have l := List.idxOf_lt_length_iff.mpr h.o
  have g : (dl r c)[tkr r c old]? = some old := by
    unfold tkr
    rw [List.getElem?_eq_getElem l]
    congr 1
    exact List.getElem_idxOf l
  have l' : tkr r c old < c.length := by rw [← dl_len r c]; exact l
  refine ⟨l', ?_, g⟩
  have k := dl_at (r := r) (b := c) rfl (m := ((tkr r c old : Nat) : Int)) (by omega) (by omega)
  unfold At at k
  rw [Int.toNat_natCast, g] at k
  exact (Option.some.inj k).symm
theorem Can.wt {r c : List Int} {old last : Int} (h : Can r c old last) : 0 ≤ wtr r c old last ∧ wtr r c old last < c.length ∧ linR r [bv c (wtr r c old last)] [wtr r c old last] = last ∧ wtr r c old last ≠ (tkr r c old : Nat) := by
  obtain ⟨t, e⟩ := headD_of h.l
  have m : wtr r c old last ∈ wtL (dl r c) last (tkr r c old : Nat) := by
    unfold wtr
    rw [e]
    simp
  obtain ⟨m1, m2⟩ := List.mem_filter.mp m
  rw [dl_len] at m1
  have b := mem_rg.mp m1
  have m3 : bv (dl r c) (wtr r c old last) = last ∧ wtr r c old last ≠ (tkr r c old : Nat) := by simpa using m2
  refine ⟨b.1, b.2, ?_, m3.2⟩
  exact (dl_at (r := r) (b := c) rfl b.1 b.2).bv.symm.trans m3.1
section
variable {os c : List Int} {n : Nat} {old last new : Int}
theorem walk_go {r F : List Int} {p q : Int} (hp : Pos r) (hn : prodR r = n) (T : Tab (n : Int) c) (n0 : 0 ≤ new) (n1 : new < n) {f1 f2 : Int} (eF : F = [f1, f2]) (f12 : f1 ≠ f2) (fr : ∀ u ∈ F, 0 ≤ u ∧ u < n) :
    ∀ (k : Nat) (b br : List Int) (t w v : Int) (L : List Int), WInv r n c F p q new b br t w v L → n < L.length + k → Tab (n : Int) (walkL r F k b br t w v) ∧ (linR r [bv c p] [p] :: linR r [bv c q] [q] :: dl r (walkL r F k b br t w v)).Perm (new :: linR r [linR r [bv c p] [p], linR r [bv c q] [q]] [new] :: dl r c)
  | 0, b, br, t, w, v, L, h, hk => by have := h.few; omega
  | k + 1, b, br, t, w, v, L, h, hk => by
    rw [walkL]
    by_cases hv : v ∈ F
    · rw [if_pos hv]
      have ho : othF F v ∈ F ∧ othF F v ≠ v ∧ ∀ u, u ∈ F ↔ u = v ∨ u = othF F v := by
        subst eF
        rcases List.mem_cons.mp hv with rfl | z
        · have e : othF [v, f2] v = f2 := by simp [othF]
          rw [e]
          exact ⟨by simp, fun z => f12 z.symm, fun u => by simp⟩
        · have z' : v = f2 := by simpa using z
          subst z'
          have e : othF [f1, v] v = f1 := by
            have : (f1 == v) = false := beq_eq_false_iff_ne.mpr f12
            simp [othF, List.erase_cons, this]
          rw [e]
          exact ⟨by simp, f12, fun u => by simp [or_comm]⟩
      have r1 := fr _ ho.1
      exact h.done hp hn T n0 n1 r1.1 r1.2 ho.2.2 (fun e => ho.2.1 e.symm)
    · rw [if_neg hv]
      obtain ⟨j, hj, j0, j1, h2⟩ := h.step hp hn hv
      rw [hj.bv]
      exact walk_go hp hn T n0 n1 eF f12 fr k _ _ _ _ _ _ h2 (by rw [List.length_append]; show n < L.length + 1 + k; omega)
theorem walk_ok (ho : Ords os) (hn : prodI os = n) (T : Tab (n : Int) c) (n0 : 0 ≤ new) (n1 : new < n) (h : Can os.reverse c old last) :
    Tab (n : Int) (walkT os c old last new) ∧ (old :: last :: dl os.reverse (walkT os c old last new)).Perm (new :: linR os.reverse [old, last] [new] :: dl os.reverse c) := by
  have hl : c.length = n := by have := T.len; omega
  obtain ⟨p1, e1, _⟩ := h.tk
  obtain ⟨q0, q1, e2, pq⟩ := h.wt
  rw [hl] at p1 q1
  have hp := ho.pos
  have hN : prodR os.reverse = n := by rw [ho.n]; exact hn
  have ap := at_bv (b := c) (m := ((tkr os.reverse c old : Nat) : Int)) hl (by omega) (by omega)
  have aq := at_bv (b := c) hl q0 q1
  have w := WInv.start (new := new) hp hN T (by omega) (by omega) q0 q1 (fun e => pq e.symm) ap aq
  have f12 : bv c ((tkr os.reverse c old : Nat) : Int) ≠ bv c (wtr os.reverse c old last) := fun e => by
    rw [e] at ap
    exact pq (at_inj T q0 (by omega) aq ap)
  have z := walk_go hp hN T n0 n1 rfl f12 (fun u hu => by
    rcases List.mem_cons.mp hu with rfl | hu
    · exact T.mem _ (List.mem_of_getElem? ap)
    · have : u = bv c (wtr os.reverse c old last) := by simpa using hu
      subst this
      exact T.mem _ (List.mem_of_getElem? aq)) (c.length - 1) _ _ _ _ _ _ w (by rw [hl]; show n < 2 + (n - 1); omega)
  rw [e1, e2] at z
  exact z
end
/-! rounds -/
def goW (os : List Int) : List Int → List Int → Int → List (List Int)
  | [], _, _ => []
  | e :: es, c, lack => walkT os c 0 lack e :: goW os es (walkT os c 0 lack e) (linR os.reverse [lack] [e])
def rdsT (os row : List Int) : List (List Int) := rgI row.length :: goW os row.dropLast (rgI row.length) 0
theorem tab_rg (n : Nat) : Tab (n : Int) (rgI n) := ⟨by rw [rg_len], fun x hx => mem_rg.mp hx, rg_nodup n⟩
theorem wt_some {D : List Int} {last : Int} {p : Nat} (h : last ∈ D.eraseIdx p) : wtL D last (p : Nat) ≠ [] := by
  obtain ⟨i, hi⟩ := List.mem_iff_getElem?.mp h
  rw [List.getElem?_eraseIdx] at hi
  have : ∃ m : Nat, m ≠ p ∧ D[m]? = some last := by
    split at hi
    · exact ⟨i, by omega, hi⟩
    · exact ⟨i + 1, by omega, hi⟩
  obtain ⟨m, mp, hm⟩ := this
  have ml := (List.getElem?_eq_some_iff.mp hm).1
  intro e
  have z : ((m : Nat) : Int) ∈ wtL D last (p : Nat) := List.mem_filter.mpr ⟨mem_rg.mpr (by omega), by
    have : bv D (m : Int) = last := At.bv (by unfold At; rw [Int.toNat_natCast]; exact hm)
    have mp' : ((m : Nat) : Int) ≠ ((p : Nat) : Int) := by omega
    simp [this, mp']⟩
  rw [e] at z
  simp at z
/-- what the differences are after some entries -/
structure Rd (os : List Int) (n : Nat) (pre c : List Int) (lack : Int) : Prop where
  tab : Tab (n : Int) c
  perm : (dl os.reverse c).Perm (pre ++ List.replicate (n - 1 - pre.length) 0 ++ [lack])
  lk : lack = linR os.reverse [] pre
theorem Rd.can {os : List Int} {n : Nat} {pre c : List Int} {lack : Int} (h : Rd os n pre c lack) (hk : pre.length + 1 < n) : Can os.reverse c 0 lack := by
  have hz : 0 ∈ List.replicate (n - 1 - pre.length) (0 : Int) := List.mem_replicate.mpr ⟨by omega, rfl⟩
  have m0 : (0 : Int) ∈ dl os.reverse c := h.perm.mem_iff.mpr (by simp [hz])
  refine ⟨m0, wt_some ?_⟩
  have l := List.idxOf_lt_length_iff.mpr m0
  have g : (dl os.reverse c)[tkr os.reverse c 0]? = some 0 := by
    unfold tkr
    rw [List.getElem?_eq_getElem l]
    congr 1
    exact List.getElem_idxOf l
  have pe := (perm_erase g).symm.trans h.perm
  obtain ⟨k, ek⟩ : ∃ k, n - 1 - pre.length = k + 1 := ⟨n - 2 - pre.length, by omega⟩
  rw [ek, List.replicate_succ] at pe
  have pe2 : ((0 : Int) :: (dl os.reverse c).eraseIdx (tkr os.reverse c 0)).Perm (0 :: (pre ++ List.replicate k 0 ++ [lack])) := pe.trans (by
    refine List.perm_iff_count.mpr fun x => ?_
    simp only [List.count_append, List.count_cons, List.count_nil, List.cons_append, List.append_assoc]
    omega)
  exact pe2.cons_inv.mem_iff.mpr (by simp)
theorem Rd.next {os : List Int} {n : Nat} {pre c : List Int} {lack e : Int} (ho : Ords os) (hn : prodI os = n) (h : Rd os n pre c lack) (hk : pre.length + 1 < n) (e0 : 0 ≤ e) (e1 : e < n) : Rd os n (pre ++ [e]) (walkT os c 0 lack e) (linR os.reverse [lack] [e]) := by
  obtain ⟨T, P⟩ := walk_ok ho hn h.tab e0 e1 (h.can hk)
  refine ⟨T, ?_, ?_⟩
  · have z : linR os.reverse [0, lack] [e] = linR os.reverse [lack] [e] := by
      have a := lin_in ho.pos [lack] [e] [] []
      rw [lin_nil] at a
      simpa using a
    rw [z] at P
    obtain ⟨k, ek⟩ : ∃ k, n - 1 - pre.length = k + 1 := ⟨n - 2 - pre.length, by omega⟩
    have hp := h.perm
    rw [ek, List.replicate_succ] at hp
    have ek2 : n - 1 - (pre ++ [e]).length = k := by rw [List.length_append, List.length_singleton]; omega
    rw [ek2]
    refine List.perm_iff_count.mpr fun x => ?_
    have a := P.count_eq x
    have b := hp.count_eq x
    simp only [List.count_append, List.count_cons, List.count_nil] at a b ⊢
    omega
  · rw [h.lk, lin_in ho.pos]
    exact lin_eq (perm_c fun u => by simp only [List.count_append, List.count_cons, List.count_nil])
theorem Rd.first {os : List Int} {n : Nat} (ho : Ords os) (hn : prodI os = n) (h2 : 1 ≤ n) : Rd os n [] (rgI n) 0 := by
  refine ⟨tab_rg n, ?_, (lin_nil _).symm⟩
  have e : dl os.reverse (rgI n) = List.replicate n 0 := by
    unfold dl
    rw [rg_len]
    refine List.eq_replicate_iff.mpr ⟨by rw [List.length_map, rg_len], fun x hx => ?_⟩
    obtain ⟨m, hm, rfl⟩ := List.mem_map.mp hx
    have b := mem_rg.mp hm
    have k : At (rgI n) m m := by
      unfold At
      rw [rg_at (by omega)]
      congr 1
      omega
    rw [k.bv]
    exact lin_all [m]
  rw [e]
  refine List.perm_iff_count.mpr fun x => ?_
  simp only [List.count_append, List.count_cons, List.count_nil, List.count_replicate, List.length_nil, List.nil_append]
  by_cases c : (0 == x) = true
  · rw [if_pos c, if_pos c, if_pos c]; omega
  · rw [if_neg c, if_neg c, if_neg c]
theorem goW_ok {os : List Int} {n : Nat} (ho : Ords os) (hn : prodI os = n) : ∀ (es pre c : List Int) (lack : Int), Rd os n pre c lack → pre.length + es.length < n → (∀ e ∈ es, 0 ≤ e ∧ e < n) →
    (∀ t ∈ goW os es c lack, Tab (n : Int) t) ∧ ∃ c' lack', (c :: goW os es c lack).getLast? = some c' ∧ Rd os n (pre ++ es) c' lack'
  | [], pre, c, lack, h, _, _ => ⟨fun t ht => by simp [goW] at ht, c, lack, rfl, by rw [List.append_nil]; exact h⟩
  | e :: es, pre, c, lack, h, hl, hr => by
    have he := hr e (List.mem_cons_self ..)
    have hl' : pre.length + (es.length + 1) < n := hl
    have nx := h.next ho hn (by omega) he.1 he.2
    obtain ⟨a, c', lack', b1, b2⟩ := goW_ok ho hn es (pre ++ [e]) _ _ nx (by rw [List.length_append]; show pre.length + 1 + es.length < n; omega) fun x hx => hr x (List.mem_cons_of_mem _ hx)
    refine ⟨fun t ht => ?_, c', lack', by rw [goW, List.getLast?_cons_cons]; exact b1, by rw [List.append_assoc] at b2; exact b2⟩
    rw [goW] at ht
    rcases List.mem_cons.mp ht with rfl | ht
    · exact nx.tab
    · exact a t ht
/-- a row -/
structure Row (n : Nat) (row : List Int) : Prop where
  len : row.length = n
  mem : ∀ x ∈ row, 0 ≤ x ∧ x < n
def bornT (os row : List Int) : List Int := (rdsT os row).getLastD []
theorem drop_last {n : Nat} {row : List Int} (h : Row n row) (h1 : 1 ≤ n) : ∃ l, row = row.dropLast ++ [l] := by
  have ne : row ≠ [] := fun e => by have := h.len; rw [e] at this; simp at this; omega
  exact ⟨row.getLast ne, (List.dropLast_concat_getLast ne).symm⟩
theorem rds_ok {os row : List Int} {n : Nat} (ho : Ords os) (hn : prodI os = n) (h1 : 1 ≤ n) (h : Row n row) : (∀ t ∈ rdsT os row, Tab (n : Int) t) ∧ (rdsT os row).length = n ∧ ∃ lack, Rd os n row.dropLast (bornT os row) lack ∧ (rdsT os row).getLast? = some (bornT os row) := by
  have f := Rd.first ho hn h1
  have dl1 : row.dropLast.length = n - 1 := by rw [List.length_dropLast, h.len]
  obtain ⟨a, c', lack', b1, b2⟩ := goW_ok ho hn row.dropLast [] (rgI n) 0 f (by show 0 + row.dropLast.length < n; omega) fun e he => h.mem e (List.dropLast_subset _ he)
  have gl : ∀ (es c : List Int) (lack : Int), (goW os es c lack).length = es.length := fun es => by
    induction es with
    | nil => intro c lack; rfl
    | cons e es ih => intro c lack; rw [goW, List.length_cons, ih]; rfl
  have eb : bornT os row = c' := by
    unfold bornT rdsT
    rw [h.len, List.getLastD_eq_getLast?, b1]
    rfl
  refine ⟨fun t ht => ?_, ?_, lack', ?_, ?_⟩
  · unfold rdsT at ht
    rw [h.len] at ht
    rcases List.mem_cons.mp ht with rfl | ht
    · exact tab_rg n
    · exact a t ht
  · unfold rdsT
    rw [List.length_cons, gl, dl1]
    omega
  · rw [eb]
    exact b2
  · rw [eb]
    unfold rdsT
    rw [h.len]
    exact b1
theorem born_ok {os row : List Int} {n : Nat} (ho : Ords os) (hn : prodI os = n) (h1 : 1 ≤ n) (h : Row n row) (hz : linR os.reverse row [] = 0) : Tab (n : Int) (bornT os row) ∧ (dl os.reverse (bornT os row)).Perm row := by
  obtain ⟨a, _, lack, b, _⟩ := rds_ok ho hn h1 h
  refine ⟨b.tab, ?_⟩
  obtain ⟨l, el⟩ := drop_last h h1
  have lr : 0 ≤ l ∧ l < n := h.mem l (by rw [el]; simp)
  have hN : prodR os.reverse = n := by rw [ho.n]; exact hn
  have e : lack = l := by
    rw [b.lk]
    have x0 := lin_rng ho.pos [] row.dropLast
    rw [hN] at x0
    refine lin_cut ho.pos x0.1 (by rw [hN]; exact x0.2) lr.1 (by rw [hN]; exact lr.2) row.dropLast [] ?_
    rw [lin_in ho.pos]
    rw [el] at hz
    have z1 : linR os.reverse (l :: row.dropLast) [] = 0 := by
      rw [← hz]
      exact lin_eq (perm_c fun u => by simp only [List.count_append, List.count_cons, List.count_nil]; omega)
    rw [z1]
    simp only [List.nil_append, List.append_nil]
    exact lin_all _
  have p := b.perm
  have dl1 : row.dropLast.length = n - 1 := by rw [List.length_dropLast, h.len]
  rw [dl1, Nat.sub_self, List.replicate_zero, List.append_nil, e, ← el] at p
  exact p
/-! the next table -/
def folT (os table row : List Int) : List Int := table.map (bv (invT (bornT os row)))
def negT (os t : List Int) : List Int := t.map fun e => linR os.reverse [0] [e]
theorem tab_inv {n : Nat} {t : List Int} (T : Tab (n : Int) t) : Tab (n : Int) (invT t) := by
  have hl : t.length = n := by have := T.len; omega
  refine tab_at (by rw [inv_len]; exact hl) (fun m m0 m1 => ?_) fun m k u m0 m1 k0 k1 hm hk => ?_
  · obtain ⟨a, ha, a0, a1⟩ := at_has T m0 m1
    exact ⟨a, inv_at T a0 ha, a0, a1⟩
  · obtain ⟨a, ha, a0, a1⟩ := at_has T m0 m1
    obtain ⟨b, hb, b0, b1⟩ := at_has T k0 k1
    have e1 := hm.uniq (inv_at T a0 ha)
    have e2 := hk.uniq (inv_at T b0 hb)
    subst e1
    subst e2
    exact ha.uniq hb
theorem tab_map {n : Nat} {t u : List Int} (T : Tab (n : Int) t) (U : Tab (n : Int) u) : Tab (n : Int) (t.map (bv u)) := by
  have hl : t.length = n := by have := T.len; omega
  have hu : u.length = n := by have := U.len; omega
  refine ⟨by rw [List.length_map]; omega, fun x hx => ?_, ?_⟩
  · obtain ⟨m, hm, rfl⟩ := List.mem_map.mp hx
    have b := T.mem m hm
    exact U.mem _ (List.mem_of_getElem? (at_bv hu b.1 b.2))
  · refine List.Pairwise.map _ ?_ (List.Pairwise.and_mem.mp T.nd)
    rintro a b ⟨ha, hb, ne⟩ e
    have x := T.mem a ha
    have y := T.mem b hb
    have h1 := at_bv hu x.1 x.2
    have h2 := at_bv hu y.1 y.2
    rw [e] at h1
    exact ne (at_inj U x.1 y.1 h1 h2)
theorem tab_perm2 {n : Nat} {t : List Int} (T : Tab (n : Int) t) : t.Perm (rgI n) := perm_rg_of T.nd fun x => ⟨fun h => T.mem x h, fun h => T.has h.1 h.2⟩
/-- sign by sign -/
def subT (os a b : List Int) : List Int := List.zipWith (fun x y => linR os.reverse [x] [y]) a b
def addT (os a b : List Int) : List Int := List.zipWith (fun x y => linR os.reverse [x, y] []) a b
theorem zw_map (f : Int → Int → Int) (g : Int → Int) : ∀ t : List Int, List.zipWith f t (t.map g) = t.map fun x => f x (g x)
  | [] => rfl
  | x :: t => by rw [List.map_cons, List.zipWith_cons_cons, zw_map f g t]; rfl
theorem fol_row {os table row : List Int} {n : Nat} (ho : Ords os) (hn : prodI os = n) (h1 : 1 ≤ n) (h : Row n row) (hz : linR os.reverse row [] = 0) (T : Tab (n : Int) table) : Tab (n : Int) (folT os table row) ∧ (subT os table (folT os table row)).Perm row := by
  obtain ⟨B, P⟩ := born_ok ho hn h1 h hz
  refine ⟨tab_map T (tab_inv B), ?_⟩
  unfold subT folT
  rw [zw_map]
  have p1 := (tab_perm2 T).trans (tab_perm2 B).symm
  refine (p1.map _).trans (List.Perm.trans ?_ P)
  have bl : (bornT os row).length = n := by have := B.len; omega
  have e : (rgI n).map (bv (bornT os row)) = bornT os row := by
    refine List.ext_getElem? fun i => ?_
    by_cases hi : i < n
    · rw [List.getElem?_map, rg_at hi]
      have k := at_bv (m := (i : Int)) bl (by omega) (by omega)
      unfold At at k
      rw [Int.toNat_natCast] at k
      exact k.symm
    · rw [List.getElem?_eq_none (by rw [List.length_map, rg_len]; omega), List.getElem?_eq_none (by omega)]
  have e2 : (bornT os row).map (fun x => linR os.reverse [x] [bv (invT (bornT os row)) x]) = dl os.reverse (bornT os row) := by
    unfold dl
    rw [bl]
    generalize hI : invT (bornT os row) = I
    have key : ∀ m, 0 ≤ m → m < (n : Int) → bv I (bv (bornT os row) m) = m := fun m m0 m1 => by
      rw [← hI]
      exact (inv_at B m0 (at_bv bl m0 m1)).bv
    have e3 : ((rgI n).map (bv (bornT os row))).map (fun x => linR os.reverse [x] [bv I x]) = (rgI n).map fun m => linR os.reverse [bv (bornT os row) m] [m] := by
      rw [List.map_map]
      refine List.map_congr_left fun m hm => ?_
      have b := mem_rg.mp hm
      show linR os.reverse [bv (bornT os row) m] [bv I (bv (bornT os row) m)] = _
      rw [key m b.1 b.2]
    rw [e] at e3
    exact e3
  rw [e2]
theorem tab_neg {os t : List Int} {n : Nat} (ho : Ords os) (hn : prodI os = n) (T : Tab (n : Int) t) : Tab (n : Int) (negT os t) := by
  have hN : prodR os.reverse = n := by rw [ho.n]; exact hn
  refine ⟨by unfold negT; rw [List.length_map]; exact T.len, fun x hx => ?_, ?_⟩
  · obtain ⟨m, _, rfl⟩ := List.mem_map.mp hx
    have := lin_rng ho.pos [0] [m]
    rw [hN] at this
    exact this
  · refine List.Pairwise.map _ ?_ (List.Pairwise.and_mem.mp T.nd)
    rintro a b ⟨ha, hb, ne⟩ e
    have x := T.mem a ha
    have y := T.mem b hb
    exact ne (lin_cutn ho.pos x.1 (by rw [hN]; exact x.2) y.1 (by rw [hN]; exact y.2) [0] [] e)
theorem neg_row {os table row : List Int} {n : Nat} (ho : Ords os) (hn : prodI os = n) (h1 : 1 ≤ n) (h : Row n row) (hz : linR os.reverse row [] = 0) (T : Tab (n : Int) table) : Tab (n : Int) (negT os (folT os table row)) ∧ (addT os table (negT os (folT os table row))).Perm row := by
  obtain ⟨a, b⟩ := fol_row ho hn h1 h hz T
  refine ⟨tab_neg ho hn a, ?_⟩
  have e : addT os table (negT os (folT os table row)) = subT os table (folT os table row) := by
    unfold addT subT negT
    rw [List.zipWith_map_right]
    congr 1
    funext x y
    have z : linR os.reverse [x, linR os.reverse [0] [y]] [] = linR os.reverse [linR os.reverse [0] [y], x] [] := lin_eq (perm_c fun u => by simp only [List.count_append, List.count_cons, List.count_nil]; omega)
    rw [z, lin_in ho.pos]
    have c := lin_in ho.pos [x] [y] [] []
    rw [lin_nil] at c
    simpa using c
  rw [e]
  exact b
end C
end
section
set_option maxRecDepth 100000
set_option maxHeartbeats 4000000
/-! what the defs of rows, walks and wishes promise -/
namespace C
open PySem PySem.Spec PyProof.Rows L2 G Lin
def p_minuses (ds : List PyData) (d : PyData) : Prop := ∃ os xs ys, ds = [.tuple (intsD os), .list (intsD xs), .list (intsD ys)] ∧ Ords os ∧ xs.length = ys.length ∧ xs.length ≤ 1000 ∧ d = .list (intsD (subT os xs ys))
def p_pluses (ds : List PyData) (d : PyData) : Prop := ∃ os xs ys, ds = [.tuple (intsD os), .list (intsD xs), .list (intsD ys)] ∧ Ords os ∧ xs.length = ys.length ∧ xs.length ≤ 1000 ∧ d = .list (intsD (addT os xs ys))
def p_turned_round (ds : List PyData) (d : PyData) : Prop := ∃ (t : List Int) (n : Nat), ds = [.list (intsD t)] ∧ Tab (n : Int) t ∧ n ≤ 1000 ∧ d = .list (intsD (invT t))
def p_is_row_of (ds : List PyData) (d : PyData) : Prop := ∃ (n : Nat) (row : List Int), ds = [.int (n : Int), .list (intsD row)] ∧ Row n row ∧ n ≤ 1000 ∧ d = .bool true
def p_walk (ds : List PyData) (d : PyData) : Prop := ∃ (os c : List Int) (old last new : Int) (n : Nat), ds = [.tuple (intsD os), .list (intsD c), .int old, .int last, .int new] ∧ Ords os ∧ prodI os = n ∧ Tab (n : Int) c ∧ 0 ≤ new ∧ new < n ∧ Can os.reverse c old last ∧ d = .list (intsD (walkT os c old last new))
def p_walked_rounds (ds : List PyData) (d : PyData) : Prop := ∃ (os row : List Int) (n : Nat), ds = [.tuple (intsD os), .list (intsD row)] ∧ Ords os ∧ prodI os = n ∧ Row n row ∧ d = .list (tabsD (rdsT os row))
def p_borne_by_members (ds : List PyData) (d : PyData) : Prop := ∃ (os row : List Int) (n : Nat), ds = [.tuple (intsD os), .list (intsD row)] ∧ Ords os ∧ prodI os = n ∧ Row n row ∧ d = .list (intsD (bornT os row))
def p_following (ds : List PyData) (d : PyData) : Prop := ∃ (os t row : List Int) (n : Nat), ds = [.tuple (intsD os), .list (intsD t), .list (intsD row)] ∧ Ords os ∧ prodI os = n ∧ Tab (n : Int) t ∧ Row n row ∧ d = .list (intsD (folT os t row))
def p_following_by_sums (ds : List PyData) (d : PyData) : Prop := ∃ (os t row : List Int) (n : Nat), ds = [.tuple (intsD os), .list (intsD t), .list (intsD row)] ∧ Ords os ∧ prodI os = n ∧ Tab (n : Int) t ∧ Row n row ∧ d = .list (intsD (negT os (folT os t row)))
def kinds : List Str := ["swap", "twin"]
def wishD (kind : Str) (row : List Int) : PyData := .tuple [.str kind, .list (intsD row)]
def wnT (os t : List Int) (kind : Str) (row : List Int) : List Int := if kind = "swap" then folT os t row else negT os (folT os t row)
def p_is_wish_of (ds : List PyData) (d : PyData) : Prop := ∃ (os : List Int) (kind : Str) (row : List Int) (n : Nat), ds = [.tuple (intsD os), wishD kind row] ∧ Ords os ∧ prodI os = n ∧ kind ∈ kinds ∧ Row n row ∧ d = .bool true
def p_check_wish (ds : List PyData) (d : PyData) : Prop := ∃ (os : List Int) (kind : Str) (row : List Int) (n : Nat), ds = [.tuple (intsD os), wishD kind row] ∧ Ords os ∧ prodI os = n ∧ kind ∈ kinds ∧ Row n row ∧ d = .none
def p_check_even_wish (ds : List PyData) (d : PyData) : Prop := ∃ (os : List Int) (kind : Str) (row : List Int) (n : Nat), ds = [.tuple (intsD os), wishD kind row] ∧ Ords os ∧ prodI os = n ∧ Row n row ∧ linR os.reverse row [] = 0 ∧ d = .none
def p_check_wish_at (ds : List PyData) (d : PyData) : Prop := ∃ (os : List Int) (ts : List (List Int)) (tot : Int) (p : Nat) (kind : Str) (row : List Int) (n : Nat), ds = [sysD os ts tot, .int (p : Int), wishD kind row] ∧ Sys os ts tot ∧ prodI os = n ∧ p + 1 < ts.length ∧ kind ∈ kinds ∧ Row n row ∧ d = .none
def p_wished_next (ds : List PyData) (d : PyData) : Prop := ∃ (os t : List Int) (kind : Str) (row : List Int) (n : Nat), ds = [.tuple (intsD os), .list (intsD t), wishD kind row] ∧ Ords os ∧ prodI os = n ∧ Tab (n : Int) t ∧ kind ∈ kinds ∧ Row n row ∧ d = .list (intsD (wnT os t kind row))
def p_extended (ds : List PyData) (x : SysX) : Prop := ∃ (os : List Int) (ts : List (List Int)) (tot : Int) (kind : Str) (row : List Int) (n : Nat), ds = [sysD os ts tot, wishD kind row] ∧ Sys os ts tot ∧ prodI os = n ∧ kind ∈ kinds ∧ Row n row ∧ linR os.reverse row [] = 0 ∧ x = (os, ts ++ [wnT os (ts.getLastD []) kind row], tot)
/-- the signs that turn the tables behind -/
def sgT (os : List Int) (ts : List (List Int)) (p : Nat) (kind : Str) (row : List Int) : List Int := (wnT os (ts.getD p []) kind row).map (bv (invT (ts.getD (p + 1) [])))
def rwT (os : List Int) (ts : List (List Int)) (p : Nat) (kind : Str) (row : List Int) : List (List Int) := ts.take (p + 1) ++ (ts.drop (p + 1)).map fun t => (sgT os ts p kind row).map (bv t)
def p_rewished (ds : List PyData) (x : SysX) : Prop := ∃ (os : List Int) (ts : List (List Int)) (tot : Int) (p : Nat) (kind : Str) (row : List Int) (n : Nat), ds = [sysD os ts tot, .int (p : Int), wishD kind row] ∧ Sys os ts tot ∧ prodI os = n ∧ p + 1 < ts.length ∧ kind ∈ kinds ∧ Row n row ∧ linR os.reverse row [] = 0 ∧ x = (os, rwT os ts p kind row, tot)
theorem ar_minuses (ds : List PyData) (d : PyData) (h : p_minuses ds d) : ds.length = 3 := by obtain ⟨_, _, _, rfl, _⟩ := h; rfl
theorem ar_pluses (ds : List PyData) (d : PyData) (h : p_pluses ds d) : ds.length = 3 := by obtain ⟨_, _, _, rfl, _⟩ := h; rfl
theorem ar_turned_round (ds : List PyData) (d : PyData) (h : p_turned_round ds d) : ds.length = 1 := by obtain ⟨_, _, rfl, _⟩ := h; rfl
theorem ar_is_row_of (ds : List PyData) (d : PyData) (h : p_is_row_of ds d) : ds.length = 2 := by obtain ⟨_, _, rfl, _⟩ := h; rfl
theorem ar_walk (ds : List PyData) (d : PyData) (h : p_walk ds d) : ds.length = 5 := by obtain ⟨_, _, _, _, _, _, rfl, _⟩ := h; rfl
theorem ar_walked_rounds (ds : List PyData) (d : PyData) (h : p_walked_rounds ds d) : ds.length = 2 := by obtain ⟨_, _, _, rfl, _⟩ := h; rfl
theorem ar_borne_by_members (ds : List PyData) (d : PyData) (h : p_borne_by_members ds d) : ds.length = 2 := by obtain ⟨_, _, _, rfl, _⟩ := h; rfl
theorem ar_following (ds : List PyData) (d : PyData) (h : p_following ds d) : ds.length = 3 := by obtain ⟨_, _, _, _, rfl, _⟩ := h; rfl
theorem ar_following_by_sums (ds : List PyData) (d : PyData) (h : p_following_by_sums ds d) : ds.length = 3 := by obtain ⟨_, _, _, _, rfl, _⟩ := h; rfl
theorem ar_is_wish_of (ds : List PyData) (d : PyData) (h : p_is_wish_of ds d) : ds.length = 2 := by obtain ⟨_, _, _, _, rfl, _⟩ := h; rfl
theorem ar_check_wish (ds : List PyData) (d : PyData) (h : p_check_wish ds d) : ds.length = 2 := by obtain ⟨_, _, _, _, rfl, _⟩ := h; rfl
theorem ar_check_even_wish (ds : List PyData) (d : PyData) (h : p_check_even_wish ds d) : ds.length = 2 := by obtain ⟨_, _, _, _, rfl, _⟩ := h; rfl
theorem ar_check_wish_at (ds : List PyData) (d : PyData) (h : p_check_wish_at ds d) : ds.length = 3 := by obtain ⟨_, _, _, _, _, _, _, rfl, _⟩ := h; rfl
theorem ar_wished_next (ds : List PyData) (d : PyData) (h : p_wished_next ds d) : ds.length = 3 := by obtain ⟨_, _, _, _, _, rfl, _⟩ := h; rfl
theorem ar_extended (ds : List PyData) (x : SysX) (h : p_extended ds x) : ds.length = 2 := by obtain ⟨_, _, _, _, _, _, rfl, _⟩ := h; rfl
theorem ar_rewished (ds : List PyData) (x : SysX) (h : p_rewished ds x) : ds.length = 3 := by obtain ⟨_, _, _, _, _, _, _, rfl, _⟩ := h; rfl
theorem Ords.n1 {os : List Int} {n : Nat} (ho : Ords os) (hn : prodI os = n) : 2 ≤ n ∧ n ≤ 1000 := by
  have a := ho.2.2
  obtain ⟨o, l, e⟩ : ∃ o l, os = o :: l := by
    cases os with
    | nil => exact absurd rfl ho.1
    | cons o l => exact ⟨o, l, rfl⟩
  have h2 := ho.2.1 o (by rw [e]; exact List.mem_cons_self ..)
  have h3 := prod_pos (os := l) fun x hx => ho.2.1 x (by rw [e]; exact List.mem_cons_of_mem _ hx)
  have e2 : prodI os = o * prodI l := by
    rw [e]
    show l.foldl (· * ·) (1 * o) = _
    rw [prod_from, Int.one_mul]
  have h4 := Int.mul_le_mul (a := 2) (b := 1) (c := o) (d := prodI l) h2 h3 (by omega) (by omega)
  omega
theorem Row.rng {n : Nat} {row : List Int} (h : Row n row) : row.length = n ∧ ∀ x ∈ row, 0 ≤ x ∧ x < (n : Int) := ⟨h.len, h.mem⟩
theorem sub_dl {os c : List Int} {n : Nat} (hl : c.length = n) : subT os c (rgI n) = dl os.reverse c := by
  unfold subT dl
  rw [hl]
  refine List.ext_getElem? fun i => ?_
  by_cases hi : i < n
  · rw [List.getElem?_zipWith, rg_at hi, List.getElem?_map, rg_at hi]
    have k := at_bv (b := c) (m := (i : Int)) hl (by omega) (by omega)
    unfold At at k
    rw [Int.toNat_natCast] at k
    rw [k]
    rfl
  · rw [List.getElem?_eq_none (by rw [List.length_zipWith, rg_len]; omega), List.getElem?_eq_none (by rw [List.length_map, rg_len]; omega)]
/-- pairs of two lists of ints -/
def subP2 (os : List Int) : PyData → PyData
  | .tuple [.int a, .int b] => .int (linR os.reverse [a] [b])
  | _ => .none
def addP2 (os : List Int) : PyData → PyData
  | .tuple [.int a, .int b] => .int (linR os.reverse [a, b] [])
  | _ => .none
theorem map_subP2 (os xs ys : List Int) : (List.zipWith (fun x y => PyData.tuple [.int x, .int y]) xs ys).map (subP2 os) = intsD (subT os xs ys) := by
  unfold subT intsD
  rw [List.map_zipWith, List.map_zipWith]
  rfl
theorem map_addP2 (os xs ys : List Int) : (List.zipWith (fun x y => PyData.tuple [.int x, .int y]) xs ys).map (addP2 os) = intsD (addT os xs ys) := by
  unfold addT intsD
  rw [List.map_zipWith, List.map_zipWith]
  rfl
end C
namespace C
open PySem PySem.Spec PyProof.Rows L2 G Lin
def subI (os : List Int) : PyData → Int
  | .tuple [.int a, .int b] => linR os.reverse [a] [b]
  | _ => 0
def addI (os : List Int) : PyData → Int
  | .tuple [.int a, .int b] => linR os.reverse [a, b] []
  | _ => 0
theorem map_subI (os xs ys : List Int) : (List.zipWith (fun x y => PyData.tuple [.int x, .int y]) xs ys).map (subI os) = subT os xs ys := by
  unfold subT
  rw [List.map_zipWith]
  rfl
theorem map_addI (os xs ys : List Int) : (List.zipWith (fun x y => PyData.tuple [.int x, .int y]) xs ys).map (addI os) = addT os xs ys := by
  unfold addT
  rw [List.map_zipWith]
  rfl
theorem ints_inj {ns ms : List Int} (h : PyData.list (ns.map .int) = .list (intsD ms)) : ns = ms := by
  have : ns.map PyData.int = intsD ms := by injection h
  exact List.map_inj_right (fun _ _ h => PyData.int.inj h) |>.mp this
theorem enum_at {t : List Int} {k : Nat} {e : Int} (h : t[k]? = some e) : (enumD (intsD t))[k]? = some (.tuple [.int (k : Int), .int e]) := by
  unfold enumD intsD
  rw [List.getElem?_map, List.getElem?_zipIdx, List.getElem?_map, h]
  simp
theorem enum_len (t : List Int) : (enumD (intsD t)).length = t.length := by unfold enumD; simp
/-- a table that is turned round, by its entries -/
theorem inv_of {n : Nat} {t cur : List Int} (T : Tab (n : Int) t) (hl : cur.length = t.length) (h : ∀ (i : Nat) (e : Int), t[i]? = some e → cur[e.toNat]? = some (i : Int)) : cur = invT t := by
  refine List.ext_getElem? fun j => ?_
  have tl : t.length = n := by have := T.len; omega
  by_cases hj : j < n
  · obtain ⟨m, hm, m0, m1⟩ := at_has T (v := (j : Int)) (by omega) (by omega)
    have k := inv_at T m0 hm
    unfold At at k hm
    rw [Int.toNat_natCast] at k
    have q := h m.toNat j hm
    rw [Int.toNat_natCast] at q
    rw [k, q]
    congr 1
    omega
  · rw [List.getElem?_eq_none (by omega), List.getElem?_eq_none (by rw [inv_len]; omega)]
theorem tab_len {n : Nat} {t : List Int} (T : Tab (n : Int) t) : t.length = n := by have := T.len; omega
theorem get_at {t : List Int} {m v : Int} (h : At t m v) : (intsD t)[m.toNat]? = some (.int v) := by
  unfold At at h
  rw [intsD, List.getElem?_map, h]
  rfl
end C
end
section
set_option maxRecDepth 100000
set_option maxHeartbeats 2000000
namespace G
open PySem PySem.Spec PyProof.Rows L2
theorem walk_gE {l : PySem.W.OpenLaw} {n k : Nat} {q : Program} {loose : List Str} {XP : (Str → Option Value) → Heap → Prop} {YP : World → Heap → Prop} {d : DefRec} {x : Str}
    (hn : l.most = some n) (hn2 : n ≤ sizeLine) (hdf : d.params.defaults = []) (hr : Room k callerA)
    (F : ∀ (w : World) (mg : Str → Option Value) (fa : Addr) (h : Heap), YP w h → h.Ns mainGlobals mg → mg d.name = some (.ref fa) →
      ∃ (K : PySem.W.Frag) (fd : FuncData) (sp : Sp), K.In h ∧ (∀ (s : Shared) (u : Value), BindsTo s fd ⟨[u], []⟩ [(x, u)]) ∧
        (∀ (H : Hp) (a : Addr) (ns : List Int), ns.length ≤ n → Only H → SqL K H a (ns.map V.int) → sp [.ref a] H (fun v _ => v = .bl true) fun _ _ _ => False) ∧
        ∀ base : Heap, K.In base → base.Ns mainGlobals mg → FnG l.prog w K mg base CX0 k fa fd [x] sp) :
    PySem.W.WalkO q loose XP YP l.row.toRowW d [] (fun f vs => PySem.call f vs) := by
  refine Att.attach_call hn hdf fun w s0 s1 mg mb fa o pm cd doc a vs ns G Y ho hd hcd hmg hobj hints hlen hg => ?_
  obtain ⟨K, fd, sp, KX, hb, hsp, hF⟩ := F w mg fa _ Y G.T.g hmg
  exact law_g KX G.T.g G.T.b G.T.builtins G.T.nolimit hg hobj hints (Nat.le_trans hlen hn2) hr hF hb (fun H hO hS => hsp H a ns hlen hO hS) fun _ _ _ z => z
theorem fun_of {K : PySem.W.Frag} {x : Str} {st : Stmt} {f : Addr} {fd : FuncData} (F : FunD K x x (defArgs st) (defBody st) (defScope st) [] [] f fd) : Fun K x x st f fd := by
  obtain ⟨oc, od, dV, kV, doc, pm, an, cdv, ct, osl, e, lk, hcd, hD, _⟩ := F.ex
  rcases hD with ⟨_, rfl⟩ | ⟨z, _⟩
  · exact ⟨⟨oc, od, kV, doc, pm, an, cdv, ct, osl, e, lk, hcd⟩, F.kp⟩
  · exact absurd rfl z
theorem has_of {K : PySem.W.Frag} {mg : Str → Option Value} {x : Str} {st : Stmt} {ps : List Str} {f : Addr} (F : ∃ fd, FunD K x x (defArgs st) (defBody st) (defScope st) [] [] f fd) (hm : mg x = some (.ref f))
    (h : ∀ (kV doc pm : Value) (an : Option Addr) (cdv ct : Value) (us : List Value), us.length = ps.length → bindArgs (PySem.W.fnOf x x (defArgs st) (defBody st) (defScope st) .none kV doc pm an cdv ct) ⟨us, []⟩ = pure (ps.zip us)) : Has K mg x st ps := by
  obtain ⟨fd, F⟩ := F
  exact ⟨f, fd, fun_of F, hm, F.bindsN h⟩
/-- the law's own def -/
theorem law_end {P : Program} {w : World} {K : PySem.W.Frag} {mg : Str → Option Value} {x y : Str} {st : Stmt} {f : Addr} {k : Nat} {q : Sp} (F : ∃ fd, FunD K x x (defArgs st) (defBody st) (defScope st) [] [] f fd) (hm : mg x = some (.ref f))
    (h : ∀ (kV doc pm : Value) (an : Option Addr) (cdv ct : Value) (us : List Value), us.length = [y].length → bindArgs (PySem.W.fnOf x x (defArgs st) (defBody st) (defScope st) .none kV doc pm an cdv ct) ⟨us, []⟩ = pure ([y].zip us))
    (c : ∀ base : Heap, K.In base → base.Ns mainGlobals mg → Cal P w K mg base k x [y] q) :
    ∃ fd : FuncData, (∀ (s : Shared) (v : Value), BindsTo s fd ⟨[v], []⟩ [(y, v)]) ∧ ∀ base : Heap, K.In base → base.Ns mainGlobals mg → FnG P w K mg base CX0 k f fd [y] q := by
  obtain ⟨fd, F⟩ := F
  refine ⟨fd, fun s v => F.bindsA (ps := [y]) h s [v] rfl, fun base hb hn => ?_⟩
  obtain ⟨f2, fd2, hm2, ⟨_, o, lo, od⟩, _, FG⟩ := (c base hb hn).ex
  rw [hm] at hm2
  cases hm2
  obtain ⟨oc, od2, dV, kV, doc, pm, an, cdv, ct, osl, e, lk, _⟩ := F.ex
  rw [lo] at lk
  cases lk
  cases od
  exact FG
end G
end
section
set_option maxRecDepth 100000
set_option maxHeartbeats 2000000
namespace G
open PySem PySem.Spec PyProof.Rows L2
section
variable {P : Program} {w : World} {K : PySem.W.Frag} {mg : Str → Option Value} {base : Heap} {j k : Nat} {x : Str} {ps : List Str} {q : Sp}
/-- what is never called -/
theorem Cal.void {st : Stmt} (h : Has K mg x st ps) : Cal P w K mg base 0 x ps (fun _ _ _ _ => False) := by
  obtain ⟨f, fd, F, hm, bd⟩ := h
  exact ⟨f, fd, hm, kq_of F, bd, ⟨fun _ _ _ _ z => z.elim, fun _ _ _ _ _ _ _ _ _ _ _ _ _ _ z => z.elim⟩⟩
end
end G
end
section
set_option maxRecDepth 100000
set_option maxHeartbeats 2000000
/-! the head's facts, and one Bool more; globals that are tuples -/
namespace He
open PySem PySem.Spec PyProof.Rows L2
def kOf (n : Nat) (g : Addr → Option Obj) : PySem.W.Frag := frG g (sysModules :: asD g n)
structure SaysM (fa : List Fa) (fn : List DefD) (ex : PySem.W.Frag → Bool) (K : PySem.W.Frag) : Prop where
  d : SaysD fa fn K
  more : ex K = true
abbrev AlM : Type := AlD × Bool
def obsM (n : Nat) (fa : List Fa) (fn : List DefD) (ex : PySem.W.Frag → Bool) (g : Addr → Option Obj) : AlM := (obsD fa fn (kOf n g), ex (kOf n g))
def valM (fn : List DefD) : AlM := (valD fn, true)
theorem saysM_of {n : Nat} {fa : List Fa} {fn : List DefD} {ex : PySem.W.Frag → Bool} {g : Addr → Option Obj} (e : obsM n fa fn ex g = valM fn) : SaysM fa fn ex (kOf n g) :=
  ⟨congrArg (fun z : AlM => z.1) e, congrArg (fun z : AlM => z.2) e⟩
def hookM (n : Nat) (fa : List Fa) (fn : List DefD) (ex : PySem.W.Frag → Bool) : PySem.W.Hook where
  α := AlM
  obs := fun s => obsM n fa fn ex s.heap.get?
  val := fun _ => valM fn
  says := fun _ h => ∃ K : PySem.W.Frag, K.In h ∧ SaysM fa fn ex K
  of := fun _ _ e => ⟨_, frG_in, saysM_of e⟩
  keeps := fun _ _ _ ⟨K, hK, c⟩ k => ⟨K, PySem.W.Frag.In.keeps hK k, c⟩
theorem obsM_eq {n : Nat} {fa : List Fa} {fn : List DefD} {ex : PySem.W.Frag → Bool} {g : Addr → Option Obj} {s : Shared} (h : ∀ a, g a = s.heap.get? a) : obsM n fa fn ex g = (hookM n fa fn ex).obs s := by
  have e : g = s.heap.get? := funext h
  rw [e] <;> rfl
end He
namespace G
open PySem PySem.Spec PyProof.Rows L2
/-- a global that is a tuple of the top's -/
structure GTup (mg : Str → Option Value) (K : PySem.W.Frag) (x : Str) (vs : List V) : Prop where
  ex : ∃ a, mg x = some (.ref a) ∧ ∀ H : Hp, SqT K H a vs
theorem gtup_of {mg : Str → Option Value} {K : PySem.W.Frag} {x : Str} {vs : List He.Dv} (hm : mg x = some (.ref (He.ga K x))) (h : He.tupB K x vs = true) : GTup mg K x (vs.map (He.Dv.v K)) := ⟨⟨_, hm, fun H => He.tupB_ok h H⟩⟩
def tGT (K : PySem.W.Frag) (vs : List V) : TE := fun _ H Q => ∀ a, (∀ H' : Hp, SqT K H' a vs) → Q (.ref a) H
theorem pe_gtup {X : Cx} {x : Str} {vs : List V} {pos : Pos} (hg : Gl X x) (g : GTup X.mg X.K x vs) (hdb : (x == ("__debug__" : Str)) = false := by decide) : PE X (.Name x pos) (tGT X.K vs) := by
  obtain ⟨a, hm, hs⟩ := g.ex
  exact ⟨fun pins s σ H Q I h => (pe_glob (v := .ref a) hg hm rfl hdb).run pins s σ H Q I (h a hs)⟩
theorem ev_gtup {K : PySem.W.Frag} {ρ : Rho} {vs : List V} {ds : List PyData} (h : ∀ B : Hp, DaAll K B vs ds) : Ev K (tGT K vs) ρ (.tuple ds) := fun σ B H e s Q q a ha => q _ B H (.refl s) (.tup (ha B) (h B))
theorem opp_inT {K : PySem.W.Frag} {c : Str} {cs : List Str} (h : c ∈ cs) : Op2 K (rIn K false) (.str c) (.tuple (cs.map .str)) (.bool true) := fun B H s u v hu hv Q q => by
  cases hu
  cases hv with
  | @tup a xs _ h1 a1 =>
    obtain rfl := daStrs a1
    refine ⟨a, _, rfl, .inr (same_t s h1), rfl, ?_, q _ B H (.refl s) ?_⟩
    · rw [List.all_eq_true]
      intro y hy
      obtain ⟨z, _, rfl⟩ := List.mem_map.mp hy
      rfl
    · have e : inV (.str c) (cs.map V.str) = true := by
        unfold inV
        rw [List.any_eq_true]
        exact ⟨.str c, List.mem_map.mpr ⟨c, h, rfl⟩, by simp [eqV]⟩
      rw [e]
      exact .bl _
end G
end
section
set_option maxRecDepth 100000
set_option maxHeartbeats 4000000
/-! an error that an except clause hands to a further name: it stays readable behind the clause -/
namespace G
open PySem PySem.Spec PyProof.Rows L2
/-- at a: a caught error; its class, its dict -/
def caO (cls : Value) (d : Option Addr) (a : Addr) : HO := .ext fun h => ∃ (o : Obj) (vs : Array Value), h.get? a = some o ∧ Zc cls d o ∧ o.data = .fields vs
section
variable {P : Program} {w : World} {H : Hp} {h : Heap} {a : Addr} {cls : Value} {d : Option Addr} {o : Obj} {vs : Array Value}
theorem caO_new (ha : h.get? a = some o) (hz : Zc cls d o) (hd : o.data = .fields vs) : ObjOk P w H h a (caO cls d a) :=
  ⟨⟨o, vs, ha, hz, hd⟩, ⟨o, ha⟩, fun _ _ ⟨u, us, p, r⟩ kp => ⟨u, us, kp u p, r⟩⟩
theorem caO_look (hk : HOk P w H h) (ha : H a = some (caO cls d a)) : ∃ (u : Obj) (us : Array Value), h.get? a = some u ∧ Zc cls d u ∧ u.data = .fields us := (hk a _ ha).1
end
section
variable {X : Cx} {pins : List (Addr × Obj)} {σ : L2.St} {H : Hp} {s : Shared}
/-- what was pinned, new since the entry, is tracked -/
theorem Inv.hold {a : Addr} {u : Obj} {o : HO} (I : L2.Inv X ((a, u) :: pins) σ H s) (fresh : X.s_0.heap.get? a = none) (apart : ∀ p ∈ X.pn ++ pins, p.1 ≠ a) (good : ObjOk X.prog X.w (upd H a o) s.heap a o) : L2.Inv X pins σ (upd H a o) s := by
  have pa := I.pin (a, u) (List.mem_append_right _ (List.mem_cons_self ..))
  have na : H a = none := pa.2.1
  have old : ∀ {b : Addr} {v : Obj}, X.s_0.heap.get? b = some v → b ≠ a := fun {b v} q z => by
    rw [z, fresh] at q
    cases q
  have B := I.base
  exact {
    ok := I.ok
    os := I.os
    bare := I.bare
    base := {
      keep := B.keep
      slot := B.slot
      there := B.there
      free := fun b v q n hx => (upd_ne (old q)).trans (B.free b v q n hx)
      tups := fun b xs q => (upd_ne (ne_of_none (B.tups b xs q) na)).trans (B.tups b xs q)
      frzs := fun b v x q => (upd_ne (ne_of_none (B.frzs b v x q) na)).trans (B.frzs b v x q)
      tbls := fun b ps q => by
        obtain ⟨more, e⟩ := B.tbls b ps q
        exact ⟨more, (upd_ne (ne_of_none e na)).trans e⟩ }
    loc := I.loc
    cell := I.cell
    free := (upd_ne (Ne.symm pa.2.2.1)).trans I.free
    freeC := fun x c q => by
      obtain ⟨v, t, ht, hd⟩ := I.cell x c q
      have : c ≠ a := fun z => by
        rw [z, pa.1] at ht
        cases ht
        exact pa.2.2.2.2 _ hd
      exact (upd_ne this).trans (I.freeC x c q)
    pin := fun p hp => by
      have q : p ∈ X.pn ++ (a, u) :: pins := by
        rcases List.mem_append.mp hp with z | z
        · exact List.mem_append_left _ z
        · exact List.mem_append_right _ (List.mem_cons_of_mem _ z)
      obtain ⟨p1, p2, p3⟩ := I.pin p q
      exact ⟨p1, (upd_ne (apart p hp)).trans p2, p3⟩
    hok := fun b v q => by
      by_cases z : b = a
      · subst z
        rw [upd_same] at q
        cases q
        exact good
      · rw [upd_ne z] at q
        exact (I.hok b v q).stay (fun c t _ k => k) (fun c k => (upd_ne (ne_of_none k na)).trans k) fun c xs k => (upd_ne (ne_of_none k na)).trans k
    len := I.len }
end
end G
namespace G
open PySem PySem.Spec PyProof.Rows L2
/-- the wish of 'try: .. except x as n: suite' where what was caught may be named on: behind the suite it is held -/
def wHold (K : PySem.W.Frag) (c : Value) (i : Nat) (ts : Addr → Value → Option Addr → TS) (W0 : WX) (D : Ends) : WX := fun cls d σ H =>
  ∃ y : Bool, PySem.W.exmOne K cls c = some y ∧ (y = false → W0 cls d σ H) ∧ (y = true → ∀ a, H a = none →
    ts a cls d ⟨fun σ1 H1 => D.nx (σ1.set i none) (upd H1 a (caO cls d a)), D.rt, fun σ1 H1 => D.bk (σ1.set i none) H1, fun σ1 H1 => D.ct (σ1.set i none) H1⟩ (σ.set i (some (.ref a))) H)
/-- what meets an error of the body: it is noted, landed, handed to the clause -/
def air (X : Cx) (pins : List (Addr × Obj)) (D : Ends) (cl : ExceptHandler) (e : Value) (s1 : Shared) : Prop :=
  let M := model X.prog X.w
  wpAny M X.A (noteFrame e X.env) (fun _ s2 => wpAny M X.A (setFlight e none) (fun _ s3 => wpAny M X.A (handleBy e X.env [cl]) (SP X pins D) X.xe s3) X.xe s2) X.xe s1
section
variable {X : Cx} {x n : Str} {c : Value} {i : Nat} {body suite : List Stmt} {b0 : Stmt} {np pos pos' : Pos} {tb : WX → TS} {ts : Addr → Value → Option Addr → TS} {W0 : WX} {pins : List (Addr × Obj)} {D : Ends}
theorem air_ok (hs : X.stack = X.env :: X.outer) (hf : X.env.frame = some X.env.locals) (hx0 : X.ex = []) (hN : X.N.Nodup) (hi : X.N[i]? = some n) (hl : X.env.kindOf n = some .local) (hc : Names X x c) (tk : Takes X W0)
    (hsu : ∀ (a : Addr) (oe : Obj) (cls : Value) (d : Option Addr) (pn : List (Addr × Obj)), Zc cls d oe → (∃ vs, oe.data = .fields vs) → PSs (X.suite a ((a, oe) :: pn)) (b0 :: suite) (ts a cls d))
    (ok : X.Ok) (xe : Value → Shared → Prop) {u : Value} {t : Shared} (z : XE (X.tr (X.pn ++ pins) xe) (wHold X.K c i ts W0 D) u t) :
    air X pins D (.ExceptHandler (some (.Name x np)) (some n) (b0 :: suite) pos') u t := by
  obtain ⟨a, B, sI, pi2, σ, H, cls, d, rfl, J0, nb, up, sky, na, eos, bare, y, hy, no, yes⟩ := z
  have J : L2.Inv X pins σ H sI := J0.ofTry ok
  have frames : X.A.frames = some (X.env :: X.outer) := by rw [← hs]; exact ok.frames
  have sky2 : Sky B (X.env :: X.outer) a (Zc cls d) X.env.locals t.heap := hs ▸ sky
  unfold air
  dsimp only
  refine Sky.land Zc.steady frames hf sky2 fun h1 f1 u1 => ?_
  -- where it lies
  have notIn : a ∉ frs (X.env :: X.outer) := fun hm => by
    obtain ⟨o, vs, ho, _, hd⟩ := f1.there
    obtain ⟨_, o2, q, nf⟩ := f1.2.2.1.mem hm
    rw [ho] at q
    cases q
    exact nf _ hd
  have nL : a ≠ X.env.locals := fun q => notIn (List.mem_filterMap.mpr ⟨X.env, List.mem_cons_self .., by rw [hf, q]⟩)
  have nF : a ∉ X.fs := fun q => by
    obtain ⟨e, he, r⟩ := List.mem_filterMap.mp q
    exact notIn (List.mem_filterMap.mpr ⟨e, List.mem_cons_of_mem _ he, r⟩)
  have gone : sI.heap.get? a = none := by
    cases e : sI.heap.get? a with
    | none => rfl
    | some o =>
      have q := nb a o e (by rw [show X.stack = _ from hs]; exact notIn)
      rw [f1.2.1] at q
      cases q
  have fresh : X.s_0.heap.get? a = none := by
    cases e : X.s_0.heap.get? a with
    | none => rfl
    | some o =>
      obtain ⟨o2, q⟩ := J.base.there a o e (by rw [hx0]; exact fun z => nomatch z)
      rw [gone] at q
      cases q
  have apart : ∀ p ∈ X.pn ++ pins, p.1 ≠ a := fun p hp q => by
    have r := (J.pin p hp).1
    rw [q, gone] at r
    cases r
  have at_ : ∀ h, HandSPX.FlyingZ B (X.env :: X.outer) a (Zc cls d) h → sI.heap.UpToSlots h → L2.Inv X pins σ H { t with heap := h } := fun h f k => J.landed nb f.1 k eos bare
  have J1 := at_ h1 f1 (up.trans u1)
  obtain ⟨o1, vs1, ho1, z1, d1⟩ := f1.there
  have S1 := J1.suite ho1 d1 na nL nF
  -- the clause's class
  have ty : PySem.W.Looks (model X.prog X.w) h1 (typeOf (.ref a)) cls := fun A Q E s k q => wpAny_typeOf_ref (k _ _ ho1) (by rw [z1.1]; exact q)
  have mt := PySem.W.exm_one (M := model X.prog X.w) J1.kIn ty hy
  refine wpAny_handleBy_cons (codeAny_handlers_test ?_) (by intro q; cases q)
  have named : ∀ {Q : Value → Shared → Prop} {E : Value → Shared → Prop}, Q c { t with heap := h1 } → wpAny (model X.prog X.w) (X.A.mark (some (.ref a))) (eval (.Name x np) X.env) Q E { t with heap := h1 } := fun {Q E} q => by
    obtain ⟨g, db, r⟩ := hc
    rcases r with m | ⟨m, b, nn⟩
    · exact ld_glob S1 g m q db
    · exact ld_blt S1 g m b q nn db
  refine named (mt.here ?_)
  cases y with
  | false =>
    show wpAny _ X.A (handleBy (.ref a) X.env []) _ _ _
    refine wpAny_handleBy_nil ?_
    have f1' := f1
    obtain ⟨_, _, _, oe, vs, T, oT, tv, he, _, hd, e1, _⟩ := f1'
    have again : wpAny (model X.prog X.w) X.A (setFlight (.ref a) X.env.frame) (fun _ s4 => wpAny (model X.prog X.w) X.A (throw (.ref a) : Sem Flow) (SP X pins D) X.xe s4) X.xe { t with heap := h1 } := by
      rw [hf]
      exact HandSPX.setFlight_upZ f1 fun h2 g2 u2 => wpAny_throw (tk _ _ ⟨a, B, sI, pins, σ, H, cls, d, rfl, J, nb, (up.trans u1).trans u2, .inr (.inr (hs ▸ g2)), na, eos, bare, no rfl⟩)
    unfold PySem.passOn
    refine wpAny_bind (wpAny_field he hd e1 ?_)
    rw [if_neg (show ¬ ((Value.ref T == Value.none) = true) from by simp)]
    first
      | exact wpAny_bind (wpAny_pure (wpAny_bind again))
      | exact wpAny_bind again
  | true =>
    refine codeAny_handlers_suite_as (HandSPX.lands_againZ f1 fun h2 f2 u2 => ?_)
    have J2 := at_ h2 f2 ((up.trans u1).trans u2)
    obtain ⟨o2, vs2, ho2, z2, d2⟩ := f2.there
    have S2 := J2.suite ho2 d2 na nL nF
    refine store_ok (X := X.suite a ((a, o2) :: (X.pn ++ pins))) (v := .ref a) S2 hN hi (.inl hl) rfl (fun s3 S3 => ?_) (.inr hl)
    refine wpAny_mono ((hsu a o2 cls d (X.pn ++ pins) z2 ⟨_, d2⟩).run [] s3 _ H _ S3 (yes rfl a na)) (fun f s4 r => ?_) fun _ _ w => w.elim
    -- behind the suite
    have back : ∀ {σ4 : L2.St} {H4 : Hp}, L2.Inv (X.suite a ((a, o2) :: (X.pn ++ pins))) [] σ4 H4 s4 → L2.Inv X ((a, o2) :: pins) σ4 H4 s4 := fun {σ4 H4} S4 =>
      (S4.unsuite ok).pins_of fun p hp => by
        rcases List.mem_cons.mp hp with rfl | hp
        · exact S4.pin _ (List.mem_append_left _ (List.mem_cons_self ..))
        · exact (S4.unsuite ok).pin p (List.mem_append_right _ hp)
    cases f with
    | next =>
      obtain ⟨σ4, H4, S4, q4⟩ := r
      refine gone_ok (back S4) hN hi hl fun s5 S5 => ⟨_, _, Inv.hold S5 fresh apart (caO_new (S5.pin _ (List.mem_append_right _ (List.mem_cons_self ..))).1 z2 d2), q4⟩
    | brk =>
      obtain ⟨σ4, H4, S4, q4⟩ := r
      exact gone_ok (S4.unsuite ok) hN hi hl fun s5 S5 => ⟨_, _, S5, q4⟩
    | cont =>
      obtain ⟨σ4, H4, S4, q4⟩ := r
      exact gone_ok (S4.unsuite ok) hN hi hl fun s5 S5 => ⟨_, _, S5, q4⟩
    | ret w =>
      obtain ⟨v, σ4, H4, S4, rv, q4⟩ := r
      exact gone_ok (S4.unsuite ok) hN hi hl fun s5 S5 => ⟨_, _, _, S5, rv, q4⟩
/-- try: body, except x as n: suite; what was caught is held behind it -/
theorem ps_try_hold (hs : X.stack = X.env :: X.outer) (hf : X.env.frame = some X.env.locals) (hx0 : X.ex = []) (hN : X.N.Nodup) (hi : X.N[i]? = some n) (hl : X.env.kindOf n = some .local) (hc : Names X x c) (tk : Takes X W0)
    (hb : ∀ (W : WX) (pn : List (Addr × Obj)) (xe : Value → Shared → Prop), Takes (X.tr pn xe) W → PassesOwn (model X.prog X.w) X.A X.env xe → PSs (X.tr pn xe) body (tb W))
    (hsu : ∀ (a : Addr) (oe : Obj) (cls : Value) (d : Option Addr) (pn : List (Addr × Obj)), Zc cls d oe → (∃ vs, oe.data = .fields vs) → PSs (X.suite a ((a, oe) :: pn)) (b0 :: suite) (ts a cls d)) :
    PS X (.Try body [.ExceptHandler (some (.Name x np)) (some n) (b0 :: suite) pos'] [] [] pos) (fun D σ H => tb (wHold X.K c i ts W0 D) D σ H) :=
  ⟨fun pins s σ H D I start => by
    have ok := I.ok
    have go := (hb (wHold X.K c i ts W0 D) (X.pn ++ pins) (air X pins D (.ExceptHandler (some (.Name x np)) (some n) (b0 :: suite) pos')) (fun _ _ z => air_ok hs hf hx0 hN hi hl hc tk hsu ok _ z) PassesOwn.looking).run [] s σ H D (I.toTry _) start
    refine wpAny_Try_except (wpAny_mono go (fun f s1 r => ?_) fun _ _ w => w)
    cases f with
    | next =>
      obtain ⟨σ1, H1, J, q⟩ := r
      exact wpAny_execs_nil ⟨σ1, H1, J.ofTry ok, q⟩
    | brk =>
      obtain ⟨σ1, H1, J, q⟩ := r
      exact ⟨σ1, H1, J.ofTry ok, q⟩
    | cont =>
      obtain ⟨σ1, H1, J, q⟩ := r
      exact ⟨σ1, H1, J.ofTry ok, q⟩
    | ret w =>
      obtain ⟨v, σ1, H1, J, rv, q⟩ := r
      exact ⟨v, σ1, H1, J.ofTry ok, rv, q⟩⟩
/-- the field of a held error -/
def tCaF (C : Addr) (f : Str) (te : TE) : TE := fun σ H Q => te σ H fun x H1 => ∃ (a dd : Addr) (fs : List (Str × V)) (v : V), x = .ref a ∧ H1 a = some (caO (.ref C) (some dd) a) ∧ H1 dd = some (.xd fs) ∧ fs.lookup f = some v ∧ Q v H1
theorem pe_caF {C : Addr} {e : Expr} {te : TE} {f : Str} (T : XfC X.K C) (hno : PySem.W.findIn X.K (.ref C) f = some none) (he : PE X e te) (hb : attributeBase e f X.env (eval e X.env) = eval e X.env := by rfl) : PE X (.Attribute e f pos) (tCaF C f te) :=
  ⟨fun pins s σ H Q I h => attr_of hb (thn (he.run pins s σ H _ I h) fun u s1 hh => by
    obtain ⟨xv, H1, J, rx, a, dd, fs, v, ex, ea, ed, l, q⟩ := hh
    subst ex
    obtain rfl : u = Value.ref a := rx
    obtain ⟨oe, vs, ha, hz, hd⟩ := caO_look J.hok ea
    have xd : ObjOk X.prog X.w H1 s1.heap dd (.xd fs) := J.hok dd _ ed
    obtain ⟨mA, ns, rel⟩ := xd
    obtain ⟨od, ho, lk⟩ := lookIn_ns ns
    have rf := rel f
    rw [l] at rf
    obtain ⟨w, hw, rw'⟩ := RelO.some_of (v := v) rf
    have inst : PySem.W.InstAt s1.heap a oe C (some od) := ⟨ha, hz.1, by unfold PySem.W.notCls; rw [hd] <;> rfl, by rw [hz.2]; exact ho⟩
    exact HandSPX.exc_get J.kIn inst T.ga T.gg T.exC (PySem.W.findObj_own T.hdC hno rfl (by rw [lk, hw])) (handed_of rw') ⟨v, H1, J.tok _, rw', q⟩)⟩
end
end G
end
section
set_option maxRecDepth 100000
set_option maxHeartbeats 4000000
/-! an own error class whose __init__ keeps its value; what the head tells of it -/
namespace G
open PySem PySem.Spec PyProof.Rows L2
def clsB (K : PySem.W.Frag) (C : Addr) : Bool := match K.lookup C with
  | some ⟨.type "type", _, .cls cd, sl⟩ => (match cd.mro, sl.toList with
    | .ref C2 :: bm, [_, _, _, _, some (.builtin nw), _] => C2 == C && (nw == "ValueError.__new__" && ((!cd.hasDel) && (cd.hasDict && PySem.HandSPX.refsVE bm)))
    | _, _ => false)
  | _ => false
structure ErrC (K : PySem.W.Frag) (C fI : Addr) : Prop where
  o : OexC K C
  x : XfC K C
  ini : PySem.W.findIn K (.ref C) "__init__" = some (some (.ref fI))
  val : PySem.W.findIn K (.ref C) "value" = some none
  fn : PySem.W.typeIn K (.ref fI) = some (.type "function")
  self : PySem.W.exmOne K (.ref C) (.ref C) = some true
def errB (K : PySem.W.Frag) (C fI : Addr) : Bool :=
  clsB K C && (decide (PySem.W.findIn K (.ref C) "__setattr__" = some (some (.builtin "object.__setattr__"))) && (decide (PySem.W.subIn K (.ref C) (.type "BaseException") = some true) && (decide (PySem.W.typeIn K (.ref C) = some (.type "type")) && (PySem.W.keepIn K (.ref C) &&
    (xfB K C && (decide (PySem.W.findIn K (.ref C) "__init__" = some (some (.ref fI))) && (decide (PySem.W.findIn K (.ref C) "value" = some none) && (decide (PySem.W.typeIn K (.ref fI) = some (.type "function")) && decide (PySem.W.exmOne K (.ref C) (.ref C) = some true)))))))))
theorem clsB_ok {K : PySem.W.Frag} {C : Addr} (h : clsB K C = true) : ∃ nm q N bs bm sn sub ab col dd k0 k1 k2 k3 k5, K.lookup C = some (excClassObj nm q C N bs bm true sn sub ab col dd k0 k1 k2 k3 k5 "ValueError.__new__") ∧ PySem.HandSPX.refsVE bm = true := by
  unfold clsB at h
  split at h
  · rename_i dd cd sl lk
    split at h
    · rename_i C2 bm k0 k1 k2 k3 nw k5 e1 e2
      rw [Bool.and_eq_true, Bool.and_eq_true, Bool.and_eq_true, Bool.and_eq_true] at h
      obtain ⟨a1, a2, a3, a4, a5⟩ := h
      have a1 : C2 = C := by simpa using a1
      have a2 : nw = "ValueError.__new__" := by simpa using a2
      have a3 : cd.hasDel = false := by simpa using a3
      obtain ⟨nm, bs, mro, ns, qn, hd, sn, sub, ab, col, del⟩ := cd
      dsimp only at e1 a3 a4
      subst a1 a2 a3 a4 e1
      obtain ⟨l⟩ := sl
      dsimp only at e2
      subst e2
      exact ⟨nm, qn, ns, bs, bm, sn, sub, ab, col, dd, k0, k1, k2, k3, k5, lk, a5⟩
    · cases h
  · cases h
theorem errB_ok {K : PySem.W.Frag} {C fI : Addr} (h : errB K C fI = true) : ErrC K C fI := by
  unfold errB at h
  simp only [Bool.and_eq_true, decide_eq_true_eq] at h
  obtain ⟨h0, h1, h2, h3, h4, h5, h6, h7, h8, h9⟩ := h
  exact ⟨⟨clsB_ok h0, h1, h2, h3, h4⟩, xfB_ok h5, h6, h7, h8, h9⟩
/-- def __init__(self, value): self.value = value -/
def sIni (K : PySem.W.Frag) : Sp := fun vs H Q _ => ∃ (a C : Addr) (v : V), vs = [.ref a, v] ∧ OexC K C ∧ PySem.W.findIn K (.ref C) "value" = some none ∧ H a = some (exo a C none) ∧ ∀ d, H d = none → d ≠ a → Q .non (upd (upd H d (exd d [("value", v)])) a (exo a C (some d)))
theorem ini_ok {P : Program} {w : World} {K : PySem.W.Frag} {mg : Str → Option Value} {base : Heap} {qual : Str} {st : Stmt} {f : Addr} {fd : FuncData} {p1 p2 p3 p4 : Pos} (F : L2.Fun K "__init__" qual st f fd) (S : FnScope ["self", "value"] ["self", "value"] (defScope st))
    (h1 : (defScope st).names.lookup ("self" : Str) = some NameKind.local) (h2 : (defScope st).names.lookup ("value" : Str) = some NameKind.local) (hb : defBody st = [.Assign [.Attribute (.Name "self" p1) "value" p2] (.Name "value" p3) p4]) : FnOk P w K mg base CX0 1 f fd ["self", "value"] (sIni K) :=
  F.ok S (fun vs H Q E ⟨_, _, _, e, _⟩ => by rw [e]; rfl) fun cdv A outer s H vs Q E hr ⟨a, C, v, e, T, hv, ha, q⟩ => by
    rw [hb]
    subst e
    refine ⟨_, pss_one (ps_ost (pv 0 (hv := .inl h1)) (pv 1 (hv := .inl h2))), ?_⟩
    exact ⟨v, rfl, .ref a, rfl, a, C, rfl, T, hv, .inl ⟨ha, fun d n ne => q d n ne⟩⟩
end G
namespace G
open PySem PySem.Spec PyProof.Rows L2
section
variable {X : Cx} {CX : CXT} {k : Nat} {f : Addr} {fd : FuncData} {ps : List Str} {sp : Sp} {W : L2.St → XK} {x : Str} {p pos : Pos} {e : Expr} {es : List Expr} {ta : TA}
theorem run_gS {pins : List (Addr × Obj)} {σ : L2.St} {H : Hp} {s : Shared} {Q : VK} {us : List Value} {vs : List V} (hg : X.A.guards = some []) (F : FnG X.prog X.w X.K X.mg X.base CX k f fd ps sp) (hr : Room k X.A) (hb : Binds X.K fd ps [])
    (out : PassesAt CX X σ (W σ)) (I : L2.Inv X pins σ H s) (r : Vals vs us) (h : sp vs H Q (W σ)) : wpAny (model X.prog X.w) X.A (call (.ref f) us) (EP X pins σ Q) X.xe s := by
  have n : us.length = ps.length := r.length.symm.trans (F.ar _ _ _ _ h)
  have to := hb s us I.kIn (by rw [List.append_nil]; exact n)
  rw [List.append_nil] at to
  have go := F.go X.A X.stack s H ⟨us, []⟩ us vs Q (W σ) hg hr I.env0 to r h
  exact wpAny_call (codeAny_mono go fun res s' hq => match res, hq with
    | .error er, hq => out pins H s er s' I hq
    | .ok (.ret _), hq => I.after hq
    | .ok .next, hq => hq.elim
    | .ok .brk, hq => hq.elim
    | .ok .cont, hq => hq.elim)
/-- f(e, ..) whose error is met by a wish of the slots -/
theorem pg_callS (hg : X.A.guards = some []) (F : FnG X.prog X.w X.K X.mg X.base CX k f fd ps sp) (hr : Room k X.A) (hgl : Gl X x) (hm : X.mg x = some (.ref f)) (hk : PySem.W.keepIn X.K (.ref f) = true) (hb : Binds X.K fd ps []) (out : ∀ σ, PassesAt CX X σ (W σ)) (ha : PA X (e :: es) ta)
    (hdb : (x == ("__debug__" : Str)) = false := by decide) (he : starEach (e :: es) X.env = (false, eval e X.env) :: starEach es X.env := by rfl) (hpl : (backTo pos (starEach es X.env)).any (·.1) = false := by rfl) : PE X (.Call (.Name x p) (e :: es) [] pos) (tCallS sp W ta) :=
  ⟨fun pins s σ H Q I h => wpAny_Call_Name_kw (ld_glob I hgl hm (PySem.W.callWith_K (h₀ := X.base) I.ok.mod.kin hk (thn (ha.run pos pins s σ H _ I h) fun us s1 ⟨vs, H1, I1, r, q⟩ => ⟨I1.kIn, run_gS hg F hr hb (out σ) I1 r q⟩) he hpl) hdb)⟩
end
end G
end
section
set_option maxRecDepth 100000
set_option maxHeartbeats 0
namespace K22
open PySem PySem.Spec PyProof.Rows L2
def top (i : Nat) : Stmt := PySem.Challenge.pw_checkwright_k22_whole_systems_for_wishes.main.body.getD i (.Pass ⟨0, 0, 0, 0⟩)
abbrev s_is_whole : Stmt := top 8
abbrev s_is_from : Stmt := top 9
abbrev s_is_below : Stmt := top 10
abbrev s_are_below : Stmt := top 11
abbrev s_is_each_once : Stmt := top 12
abbrev s_size_of : Stmt := top 13
abbrev s_plus : Stmt := top 14
abbrev s_minus : Stmt := top 15
abbrev s_sum_up : Stmt := top 16
abbrev s_minuses : Stmt := top 17
abbrev s_turned_round : Stmt := top 18
abbrev s_are_orders : Stmt := top 20
abbrev s_check_orders : Stmt := top 21
abbrev s_check_member : Stmt := top 22
abbrev s_check_table : Stmt := top 24
abbrev s_is_row_of : Stmt := top 25
abbrev s_walked_rounds : Stmt := top 27
abbrev s_walk : Stmt := top 28
abbrev s_borne_by_members : Stmt := top 30
abbrev s_following : Stmt := top 31
abbrev s_following_by_sums : Stmt := top 32
abbrev s_system_for : Stmt := top 35
abbrev s_check_wishes : Stmt := top 36
abbrev s_is_wish_of : Stmt := top 37
abbrev s_are_wishes : Stmt := top 38
abbrev s_uneven_at : Stmt := top 39
abbrev s_wished_next : Stmt := top 40
abbrev s_law_hash : Stmt := top 42
abbrev s_law_random : Stmt := top 43
abbrev s_law_cell : Stmt := top 44
abbrev s_law_generator : Stmt := top 45
abbrev s_law_add : Stmt := top 46
abbrev s_law_minus : Stmt := top 47
abbrev s_law_total : Stmt := top 48
abbrev s_law_size : Stmt := top 49
abbrev s_law_orders : Stmt := top 50
abbrev s_law_shuffled : Stmt := top 51
abbrev s_law_even_row : Stmt := top 52
abbrev s_law_row : Stmt := top 53
abbrev s_law_kept : Stmt := top 54
abbrev s_law_system_right : Stmt := top 55
abbrev s_law_marked : Stmt := top 56
abbrev s_law_refused : Stmt := top 57
abbrev s_law_asked : Stmt := top 58
abbrev s_law : Stmt := top 59
def inC (s : Stmt) : Stmt := match s with
  | .ClassDef _ _ _ b _ _ _ _ _ _ _ => b.getD 0 (.Pass ⟨0, 0, 0, 0⟩)
  | s => s
abbrev s_Uneven_ini : Stmt := inC (top 6)
abbrev mkD (x : Str) (st : Stmt) : He.DefD := ⟨(x, none), x, x, defArgs st, defBody st, defScope st, [], []⟩
def fn0 : List He.DefD := [mkD "is_whole" s_is_whole, mkD "is_from" s_is_from, mkD "is_below" s_is_below, mkD "are_below" s_are_below, mkD "is_each_once" s_is_each_once, mkD "size_of" s_size_of, mkD "plus" s_plus, mkD "minus" s_minus, mkD "sum_up" s_sum_up, mkD "minuses" s_minuses, mkD "turned_round" s_turned_round, mkD "are_orders" s_are_orders, mkD "check_orders" s_check_orders, mkD "check_member" s_check_member, mkD "check_table" s_check_table, mkD "is_row_of" s_is_row_of, mkD "walked_rounds" s_walked_rounds, mkD "walk" s_walk, mkD "borne_by_members" s_borne_by_members, mkD "following" s_following]
def fn1 : List He.DefD := [mkD "following_by_sums" s_following_by_sums, mkD "system_for" s_system_for, mkD "check_wishes" s_check_wishes, mkD "is_wish_of" s_is_wish_of, mkD "are_wishes" s_are_wishes, mkD "uneven_at" s_uneven_at, mkD "wished_next" s_wished_next, mkD "_law_hash" s_law_hash, mkD "_law_random" s_law_random, mkD "_law_cell" s_law_cell, mkD "_law_generator" s_law_generator, mkD "_law_add" s_law_add, mkD "_law_minus" s_law_minus, mkD "_law_total" s_law_total, mkD "_law_size" s_law_size, mkD "_law_orders" s_law_orders, mkD "_law_shuffled" s_law_shuffled, mkD "_law_even_row" s_law_even_row, mkD "_law_row" s_law_row, mkD "_law_kept" s_law_kept]
def fn2 : List He.DefD := [mkD "_law_system_right" s_law_system_right, mkD "_law_marked" s_law_marked, mkD "_law_refused" s_law_refused, mkD "_law_asked" s_law_asked, mkD "law" s_law]
def fnE : List He.DefD := [⟨("Uneven", some "__init__"), "__init__", "Uneven.__init__", defArgs s_Uneven_ini, defBody s_Uneven_ini, defScope s_Uneven_ini, [.non], []⟩]
def fn : List He.DefD := fn0 ++ fn1 ++ fn2 ++ fnE
def fa0 : List He.Fa := [.glo "is_whole", .glo "is_from", .glo "is_below", .glo "are_below", .glo "is_each_once", .glo "size_of", .glo "plus", .glo "minus", .glo "sum_up", .glo "minuses", .glo "turned_round", .glo "are_orders", .glo "check_orders", .glo "check_member", .glo "check_table", .glo "is_row_of", .glo "walked_rounds", .glo "walk", .glo "borne_by_members", .glo "following", .glo "following_by_sums", .glo "system_for", .glo "check_wishes", .glo "is_wish_of", .glo "are_wishes", .glo "uneven_at", .glo "wished_next", .glo "_law_hash", .glo "_law_random", .glo "_law_cell"]
def fa1 : List He.Fa := [.glo "_law_generator", .glo "_law_add", .glo "_law_minus", .glo "_law_total", .glo "_law_size", .glo "_law_orders", .glo "_law_shuffled", .glo "_law_even_row", .glo "_law_row", .glo "_law_kept", .glo "_law_system_right", .glo "_law_marked", .glo "_law_refused", .glo "_law_asked", .glo "law", .free "ValueError", .free "all", .free "bool", .free "enumerate", .free "int", .free "isinstance", .free "len", .free "list", .free "max", .free "range", .free "repr", .free "reversed", .free "set", .free "sorted", .free "sum"]
def fa2 : List He.Fa := [.free "tuple", .free "zip", .glo "KINDS"]
def faE : List He.Fa := [.glo "Uneven"]
def fa : List He.Fa := fa0 ++ fa1 ++ fa2 ++ faE
abbrev R : PySem.W.OpenRow := PySem.W.OpenLaw.row PySem.Challenge.rw_checkwright_k22_whole_systems_for_wishes
def ex (K : PySem.W.Frag) : Bool := He.tupB K "KINDS" [.str "swap", .str "twin"] && G.errB K (He.ga K "Uneven") (He.ma K (He.ga K "Uneven") "__init__")
abbrev hk : PySem.W.Hook := He.hookM 4 fa fn ex
def ob (s : PySem.W.SharedT) : He.AlM := He.obsM 4 fa fn ex (HandSHeadRun.getT s)
theorem ob_eq (s : PySem.W.SharedT) : ob s = hk.obs s.abs := He.obsM_eq (HandSHeadRun.getT_eq s)
def ls0 : List PySem.Str := ["is_whole", "is_from", "is_below", "are_below", "is_each_once", "size_of", "plus", "minus", "sum_up", "minuses", "turned_round", "are_orders", "check_orders", "check_member", "check_table", "is_row_of", "walked_rounds", "walk", "borne_by_members", "following", "following_by_sums", "system_for", "check_wishes", "is_wish_of", "are_wishes", "uneven_at", "wished_next", "_law_hash", "_law_random", "_law_cell"]
def ls1 : List PySem.Str := ["_law_generator", "_law_add", "_law_minus", "_law_total", "_law_size", "_law_orders", "_law_shuffled", "_law_even_row", "_law_row", "_law_kept", "_law_system_right", "_law_marked", "_law_refused", "_law_asked", "CheckError", "InvalidOrders", "InvalidMember", "InvalidTable", "InvalidWish", "Uneven", "KINDS"]
def ls : List PySem.Str := ls0 ++ ls1
theorem run (w : World) : HandSHeadRun.RunEq R (PySem.W.view R.prog [59]) hk ob 3800 ls w := by
  intro os
  kernel_rfl
end K22
end
section
set_option maxRecDepth 100000
set_option maxHeartbeats 4000000
namespace K22
open PySem PySem.Spec PyProof.Rows L2 G Lin C
local macro_rules | `(tactic| walk_at "ev") => `(tactic| first
  | exact ev_var rfl | exact ev_int | exact ev_bl | exact ev_non | exact ev_str
  | (apply ev_op; (focus walk_at "ev"); (focus walk_at "ev"); (focus walk_at "op"))
  | (apply ev_cb; (focus walk_at "el"); (focus walk_at "fn"))
  | (apply ev_lst; (focus walk_at "el"); (show _ ≤ sizeLine; decide))
  | (apply ev_tup; (focus walk_at "el"); (show _ ≤ sizeLine; decide)))
local macro_rules | `(tactic| walk_at "el") => `(tactic| first
  | exact el_nil
  | (apply el_cons; (focus walk_at "ev"); (focus walk_at "el")))
local macro_rules | `(tactic| walk_at "fn") => `(tactic| first
  | exact fn_int | exact fn_len | exact fn_all | exact fn_listL | exact fn_listT)
local macro_rules | `(tactic| walk_at "op") => `(tactic| first
  | exact op_I0 (fun _ => .int _) | exact op_I0 (fun _ => .bl _) | exact opp_1 (op_I0 fun _ => .int _)
  | exact op_I (by show (_ : Int) ≠ 0; decide) (fun _ => .int _)
  | exact op_I (by assumption) (fun _ => .int _)
  | exact opp_1 (op_I (by assumption) fun _ => .int _)
  | exact opp_1 (opp_ixL (i := 0) rfl) | exact opp_2 (opp_ixT (i := 0) rfl) | exact opp_2 (opp_ixT (i := 1) rfl) | exact opp_2 (opp_ixT (i := 2) rfl))
structure Bi (mg : Str → Option Value) : Prop where
  all : mg "all" = none
  bool : mg "bool" = none
  enumerate : mg "enumerate" = none
  int : mg "int" = none
  isinstance : mg "isinstance" = none
  len : mg "len" = none
  list : mg "list" = none
  max : mg "max" = none
  range : mg "range" = none
  repr : mg "repr" = none
  reversed : mg "reversed" = none
  set : mg "set" = none
  sorted : mg "sorted" = none
  sum : mg "sum" = none
  tuple : mg "tuple" = none
  zip : mg "zip" = none
end K22
end
section
set_option maxRecDepth 100000
set_option maxHeartbeats 2000000
/-! lists that are the def's own, written to; lent for each reading -/
namespace G
open PySem PySem.Spec PyProof.Rows L2
section
variable {K : PySem.W.Frag} {B H : Hp} {σ : L2.St} {ρ : Rho} {te : TE} {tt : TT} {S : List Addr}
theorem env_nil : EnvOk K B [] [] := ⟨rfl, fun i d h => by simp at h⟩
theorem env_n (x : Option V) (h : EnvOk K B σ ρ) : EnvOk K B (x :: σ) (none :: ρ) := ⟨by rw [List.length_cons, List.length_cons, h.len], fun i d q => by
  cases i with
  | zero => cases q
  | succ i => exact h.look i d q⟩
theorem env_s {v : V} {d : PyData} (hv : Da K B v d) (h : EnvOk K B σ ρ) : EnvOk K B (some v :: σ) (some d :: ρ) := ⟨by rw [List.length_cons, List.length_cons, h.len], fun i e q => by
  cases i with
  | zero => cases q; exact ⟨v, rfl, hv⟩
  | succ i => exact h.look i e q⟩
theorem own_da {x : Addr} {ns : List Int} (hx : x ∈ S) (h : H x = some (.lst (ns.map .int))) : Da K (lend B H S) (.ref x) (.list (ns.map .int)) := .lst (by rw [lend_in hx]; exact h) (daIn ns)
theorem lent_da {v : V} {d : PyData} (n : ∀ x ∈ S, B x = none) (h : Da K B v d) : Da K (lend B H S) v d := h.mono (lend_up n)
theorem ow_int {z : Int} {Q : VK} (h : Ev K te ρ (.int z)) (e : EnvOk K (lend B H S) σ ρ) (s : Same B H) (q : ∀ H', Same H H' → Q (.int z) H') : te σ H Q :=
  h σ _ H e (lend_sub s) Q fun v B' H' g hv => by cases hv; exact q H' g.ex
theorem ow_bl {z : Bool} {Q : VK} (h : Ev K te ρ (.bool z)) (e : EnvOk K (lend B H S) σ ρ) (s : Same B H) (q : ∀ H', Same H H' → Q (.bl z) H') : te σ H Q :=
  h σ _ H e (lend_sub s) Q fun v B' H' g hv => by cases hv; exact q H' g.ex
theorem ow_t {b : Bool} {Q : Bool → Hp → Prop} (h : EvB K tt ρ b) (e : EnvOk K (lend B H S) σ ρ) (s : Same B H) (q : ∀ H', Same H H' → Q b H') : tt σ H Q :=
  h σ _ H e (lend_sub s) Q fun B' H' g => q H' g.ex
theorem ow_fr {ns : List Int} {Q : VK} (h : EvF K te ρ ns) (e : EnvOk K (lend B H S) σ ρ) (s : Same B H) (q : ∀ a H', Same H H' → H a = none → H' a = some (.lst (ns.map .int)) → Q (.ref a) H') : te σ H Q :=
  h σ _ H e (lend_sub s) Q fun a B' H' g _ ha hl => q a H' g.ex ha hl
/-- a new list of ints, told sign by sign -/
theorem evf_lst1 {ta : TE} {a : Int} (ha : Ev K ta ρ (.int a)) : EvF K (tLst (tCons ta tNil)) ρ [a] := fun σ B H e s Q q =>
  ha σ B H e s _ fun v B1 H1 g1 hv => by
    cases hv
    refine ⟨by show 1 ≤ sizeLine; decide, fun p hp => ?_⟩
    exact q p B1 _ (g1.trans (Gr.side g1.sub hp _)) (g1.sub.free hp) (g1.ex.free hp) upd_same
theorem evf_lst2 {ta tb : TE} {a b : Int} (ha : Ev K ta ρ (.int a)) (hb : Ev K tb ρ (.int b)) : EvF K (tLst (tCons ta (tCons tb tNil))) ρ [a, b] := fun σ B H e s Q q =>
  ha σ B H e s _ fun v B1 H1 g1 hv => by
    cases hv
    refine hb σ B1 H1 (e.mono g1.bb) g1.sub _ fun v B2 H2 g2 hv => ?_
    cases hv
    refine ⟨by show 2 ≤ sizeLine; decide, fun p hp => ?_⟩
    have g12 := g1.trans g2
    exact q p B2 _ (g12.trans (Gr.side g2.sub hp _)) (g2.sub.free hp) (g12.ex.free hp) upd_same
/-- [e for .. if t], e an int -/
theorem evf_lcf {wi : TI} {g : TG} {vs : List Nat} {es : List PyData} (h : Iter K wi ρ es) (hz : es.length ≤ 1000000) (f : PyData → Bool) (k : PyData → Int)
    (hs : ∀ e, e ∈ es → ∃ ρ1, TgW K g vs e ρ ρ1 ∧ EvB K tt ρ1 (f e) ∧ (f e = true → Ev K te ρ1 (.int (k e)))) : EvF K (tLc wi g tt te vs) ρ ((es.filter f).map k) := fun σ B H e s Q q =>
  h σ B H e s _ fun J B1 H1 g1 w => fun Dl hD => by
    refine lc_it w (fun i H' => ∃ B' xs, Gr B1 H1 B' H' ∧ B' Dl = none ∧ H' Dl = some (.lst (xs.map V.int)) ∧ xs = (((es.take i).filter f).map k)) ?_ (fun i H' _ ⟨B', _, g2, _, _, _⟩ => g2.bb.trans g2.sub) ?_ ?_
    · exact ⟨B1, [], .side g1.sub hD _, g1.sub.free hD, upd_same, rfl⟩
    · rintro i x H' H2 hi ⟨B', xs, g2, hB, hH, a⟩ y
      obtain ⟨B2, el, g3, hel, hx⟩ := y B' g2.bb g2.sub
      obtain ⟨ρ1, ht, hf, hk⟩ := hs el (List.mem_of_getElem? hel)
      have g23 := g2.trans g3
      have hB2 : B2 Dl = none := g3.keepNone hB (by rw [hH]; simp)
      refine ht σ B2 H2 x (e.mono (g1.bb.trans g23.bb)) g3.sub hx _ fun σ2 e3 hw => ⟨hw, ?_⟩
      refine hf σ2 B2 H2 e3 g3.sub _ fun B3 H3 g4 => ?_
      have hH2 : H2 Dl = some (.lst (xs.map V.int)) := g3.ex _ _ hH
      have hB3 := g4.keepNone hB2 (by rw [hH2]; simp)
      have hH3 : H3 Dl = some (.lst (xs.map V.int)) := g4.ex _ _ hH2
      have tk : es.take (i + 1) = es.take i ++ [el] := by rw [List.take_add_one, hel]; rfl
      have hlen : xs.length ≤ i := by
        rw [a, List.length_map]
        exact Nat.le_trans (List.length_filter_le _ _) (List.length_take_le _ _)
      have hi' : i < es.length := hi
      cases hb : f el with
      | true =>
        refine iteT (hk hb σ2 B3 H3 (e3.mono g4.bb) g4.sub _ fun w B4 H4 g5 hw => ?_)
        cases hw
        have h4 : H4 Dl = some (.lst (xs.map V.int)) := g5.ex _ _ hH3
        have hB4 := g5.keepNone hB3 (by rw [hH3]; simp)
        have gg := g23.trans (g4.trans g5)
        refine ⟨xs.map V.int, h4, by rw [List.length_map, sizeLine_eq]; omega, B4, xs ++ [k el], ?_, hB4, by rw [upd_same, List.map_append]; rfl, ?_⟩
        · refine ⟨fun b o z => ?_, gg.bb, fun b o z => ?_, gg.new⟩
          · rw [upd_ne (ne_of_none z hD)]
            exact gg.ex b o z
          · rw [upd_ne (ne_of_none z hB4)]
            exact gg.sub b o z
        · rw [tk, List.filter_append, List.map_append, List.filter_cons, if_pos hb, a]
          rfl
      | false =>
        refine iteF ⟨B3, xs, g23.trans g4, hB3, hH3, ?_⟩
        rw [tk, List.filter_append, List.map_append, List.filter_cons, if_neg (by rw [hb]; simp), a]
        exact (List.append_nil _).symm
    · rintro H' ⟨B', xs, g2, hB, hH, a⟩
      rw [List.take_length] at a
      rw [a] at hH
      exact q Dl B' H' (g1.trans g2) hB (g1.ex.free hD) hH
/-- x in a list of ints -/
theorem opp_ninI {x : Int} {ns : List Int} : Op2 K (rIn K true) (.int x) (.list (ns.map .int)) (.bool (decide (x ∉ ns))) := fun B H s u v hu hv Q q => by
  cases hu
  cases hv with
  | @lst a xs _ h1 a1 =>
    obtain rfl := daInts a1
    refine ⟨a, _, rfl, .inl (.of (s _ _ h1)), rfl, ?_, q _ B H (.refl s) ?_⟩
    · rw [List.all_eq_true]
      intro y hy
      obtain ⟨z, _, rfl⟩ := List.mem_map.mp hy
      rfl
    · have e : inV (.int x) (ns.map V.int) = decide (x ∈ ns) := by
        unfold inV
        rw [Bool.eq_iff_iff, List.any_eq_true, decide_eq_true_iff]
        constructor
        · rintro ⟨y, hy, e⟩
          obtain ⟨z, hz, rfl⟩ := List.mem_map.mp hy
          simp [eqV] at e
          exact e ▸ hz
        · intro h
          exact ⟨.int x, List.mem_map.mpr ⟨x, h, rfl⟩, by simp [eqV]⟩
      rw [e]
      have e2 : decide (x ∉ ns) = !decide (x ∈ ns) := by by_cases c : x ∈ ns <;> simp [c]
      rw [e2]
      exact .bl _

theorem Nest.app {B H0 H : Hp} {l a : Addr} {as : List Addr} {tss : List (List Int)} {ns : List Int} (n : Nest B H0 H l as tss) (h0 : H0 a = none) (hb : B a = none) (ha : H a = some (.lst (ns.map .int))) (na : a ∉ l :: as) :
    Nest B H0 (upd H l (.lst (as.map V.ref ++ [.ref a]))) l (as ++ [a]) (tss ++ [ns]) := by
  have nal : a ≠ l := fun z => na (by rw [z]; exact List.mem_cons_self ..)
  have nas : a ∉ as := fun z => na (List.mem_cons_of_mem _ z)
  obtain ⟨nl, nn⟩ := List.nodup_cons.mp n.nd
  have sub : ∀ x ∈ l :: (as ++ [a]), x ∈ l :: as ∨ x = a := fun x hx => by
    rcases List.mem_cons.mp hx with rfl | hx
    · exact .inl (List.mem_cons_self ..)
    rcases List.mem_append.mp hx with hx | hx
    · exact .inl (List.mem_cons_of_mem _ hx)
    · exact .inr (by simpa using hx)
  have hl := n.len
  refine ⟨fun x hx => ?_, fun x hx => ?_, List.nodup_cons.mpr ⟨fun z => ?_, List.nodup_append.mpr ⟨nn, by simp, fun x hx y hy e => ?_⟩⟩, ?_, by rw [List.length_append, List.length_append, hl]; rfl, fun i b t h1 h2 => ?_⟩
  · rcases sub x hx with h | rfl
    · exact n.newH x h
    · exact h0
  · rcases sub x hx with h | rfl
    · exact n.newB x h
    · exact hb
  · rcases List.mem_append.mp z with z | z
    · exact nl z
    · exact nal (List.mem_singleton.mp z).symm
  · have : y = a := by simpa using hy
    subst this
    exact nas (e ▸ hx)
  · rw [upd_same, List.map_append]
    rfl
  · by_cases c : i < as.length
    · rw [List.getElem?_append_left c] at h1
      rw [List.getElem?_append_left (by omega)] at h2
      rw [upd_ne fun z => nl (by rw [← z]; exact List.mem_of_getElem? h1)]
      exact n.at_i i b t h1 h2
    · have li : i < (as ++ [a]).length := (List.getElem?_eq_some_iff.mp h1).1
      rw [List.length_append] at li
      have ei : i = as.length := by have : i < as.length + 1 := li; omega
      subst ei
      rw [List.getElem?_append_right (Nat.le_refl _), Nat.sub_self] at h1
      rw [List.getElem?_append_right (by omega), hl, Nat.sub_self] at h2
      cases h1
      cases h2
      rw [upd_ne nal]
      exact ha
/-- xs = [..]; xs.append(..); return (orders, xs, total) -/
theorem doq_app {ta tb : TE} {j : Nat} {os ns : List Int} {tss : List (List Int)} {tot : Int} {tc tl : TE} (hc : EvQ K (NestQ tss) tc ρ) (hl : EvF K tl (ρ.set j none) ns) (lp : tss.length ≤ 1000000) (lj : j < ρ.length)
    (ho : Ev K ta (ρ.set j none) (.tuple (os.map .int))) (ht : Ev K tb (ρ.set j none) (.int tot)) :
    DoQ K (SysQ K os (tss ++ [ns]) tot) (tSeq (tAsg tc (gName j)) (tSeq (tDrop (tBM K "list" rAppend (tVar j) (tCons tl tNil))) (tRet (tTup (tCons ta (tCons (tVar j) (tCons tb tNil))))))) ρ := fun σ B H D e s q =>
  hc σ B H e s _ fun l as B1 H1 g1 n => by
    have e1 : EnvOk K B1 (σ.set j (some (.ref l))) (ρ.set j none) := (e.mono g1.bb).forget _ j
    have lk : (σ.set j (some (.ref l)))[j]? = some (some (.ref l)) := List.getElem?_set_self (by rw [e.len]; exact lj)
    refine ⟨_, lk, .inl ⟨rfl, _, .of n.at_l⟩, ?_⟩
    refine hl _ B1 H1 e1 g1.sub _ fun a B2 H2 g2 hBa hHa hla => ?_
    have n2 := n.mono g2
    have na : a ∉ l :: as := fun z => n.full a z hHa
    refine ⟨l, as.map V.ref, _, rfl, rfl, n2.at_l, by rw [List.length_map, n.len, sizeLine_eq]; omega, ?_⟩
    have n3 := n2.app (g1.ex.free hHa) hBa hla na
    have bl : B2 l = none := n2.newB l (List.mem_cons_self ..)
    have hl0 : H l = none := n2.newH l (List.mem_cons_self ..)
    have g12 := g1.trans g2
    have gg : Gr B H B2 (upd H2 l (.lst (as.map V.ref ++ [.ref a]))) := ⟨fun b o z => by
      rw [upd_ne (ne_of_none z hl0)]
      exact g12.ex b o z, g12.bb, fun b o z => by
      rw [upd_ne (ne_of_none z bl)]
      exact g12.sub b o z, g12.new⟩
    exact ret_nest ho ht (e1.mono g2.bb) gg lk n3 q
theorem Nest.cat {B H0 H : Hp} {l1 l2 l : Addr} {as bs : List Addr} {tss uss : List (List Int)} (n : Nest B H0 H l1 as tss) (m : Nest B H0 H l2 bs uss) (dj : ∀ x ∈ as, x ∉ bs) (h0 : H0 l = none) (hb : B l = none) (hl : H l = none) :
    Nest B H0 (upd H l (.lst (as.map V.ref ++ bs.map V.ref))) l (as ++ bs) (tss ++ uss) := by
  obtain ⟨_, na⟩ := List.nodup_cons.mp n.nd
  obtain ⟨_, nb⟩ := List.nodup_cons.mp m.nd
  have fl : ∀ x ∈ as ++ bs, x ≠ l := fun x hx e => by
    subst e
    rcases List.mem_append.mp hx with h | h
    · exact n.full x (List.mem_cons_of_mem _ h) hl
    · exact m.full x (List.mem_cons_of_mem _ h) hl
  have h1 := n.len
  have h2 := m.len
  refine ⟨fun x hx => ?_, fun x hx => ?_, List.nodup_cons.mpr ⟨fun z => fl l z rfl, List.nodup_append.mpr ⟨na, nb, fun x hx y hy e => dj x hx (e ▸ hy)⟩⟩, by rw [upd_same, List.map_append], by rw [List.length_append, List.length_append, h1, h2], fun i b t q1 q2 => ?_⟩
  · rcases List.mem_cons.mp hx with rfl | hx
    · exact h0
    rcases List.mem_append.mp hx with h | h
    · exact n.newH x (List.mem_cons_of_mem _ h)
    · exact m.newH x (List.mem_cons_of_mem _ h)
  · rcases List.mem_cons.mp hx with rfl | hx
    · exact hb
    rcases List.mem_append.mp hx with h | h
    · exact n.newB x (List.mem_cons_of_mem _ h)
    · exact m.newB x (List.mem_cons_of_mem _ h)
  · rw [upd_ne (fl b (List.mem_of_getElem? q1))]
    by_cases c : i < as.length
    · rw [List.getElem?_append_left c] at q1
      rw [List.getElem?_append_left (by omega)] at q2
      exact n.at_i i b t q1 q2
    · rw [List.getElem?_append_right (by omega)] at q1
      rw [List.getElem?_append_right (by omega)] at q2
      rw [← h1] at q2
      exact m.at_i _ b t q1 q2
/-- xs = [[..] ..]; return (orders, xs + [[..] ..], total) -/
theorem doq_cat {ta tb tn : TE} {j : Nat} {os : List Int} {tss uss : List (List Int)} {tot : Int} {tc : TE} (hc : EvQ K (NestQ tss) tc ρ) (hn : EvQ K (NestQ uss) tn (ρ.set j none)) (lp : tss.length + uss.length ≤ 1000000) (lj : j < ρ.length)
    (ho : Ev K ta (ρ.set j none) (.tuple (os.map .int))) (ht : Ev K tb (ρ.set j none) (.int tot)) :
    DoQ K (SysQ K os (tss ++ uss) tot) (tSeq (tAsg tc (gName j)) (tRet (tTup (tCons ta (tCons (tOp (rAddA K) (tVar j) tn) (tCons tb tNil)))))) ρ := fun σ B H D e s q =>
  hc σ B H e s _ fun l as B1 H1 g1 n => by
    have e1 : EnvOk K B1 (σ.set j (some (.ref l))) (ρ.set j none) := (e.mono g1.bb).forget _ j
    have lk : (σ.set j (some (.ref l)))[j]? = some (some (.ref l)) := List.getElem?_set_self (by rw [e.len]; exact lj)
    refine ho _ B1 H1 e1 g1.sub _ fun ov B2 H2 g2 hv => ?_
    have n2 := n.mono g2
    refine ⟨_, lk, hn _ B2 H2 (e1.mono g2.bb) g2.sub _ fun l2 bs B3 H3 g3 m => ?_⟩
    have n3 := n2.mono g3
    have g13 := (g1.trans g2).trans g3
    have dj : ∀ x ∈ as, x ∉ bs := fun x hx hy => n2.full x (List.mem_cons_of_mem _ hx) (m.newH x (List.mem_cons_of_mem _ hy))
    have m3 : Nest B3 H H3 l2 bs uss := m.from (g1.ex.trans g2.ex)
    refine .inr (.inl ⟨l, l2, _, _, rfl, rfl, n3.at_l, m3.at_l, by rw [List.length_map, List.length_map, n3.len, m3.len, sizeLine_eq]; omega, fun p hp => ?_⟩)
    have k := n3.cat m3 dj (g13.ex.free hp) (g3.sub.free hp) hp
    have gs : Gr B H B3 (upd H3 p (.lst (as.map V.ref ++ bs.map V.ref))) := g13.trans (Gr.side g3.sub hp _)
    refine ht _ B3 _ (e1.mono (g2.trans g3).bb) gs.sub _ fun v B4 H4 g4 hi => ?_
    cases hi
    refine ⟨by show 3 ≤ sizeLine; decide, fun t ht => ?_⟩
    have k4 := k.mono g4
    have gg := gs.trans g4
    have gp := Gr.side g4.sub ht (.tup [ov, .ref p, .int tot])
    exact q t ov p (as ++ bs) B4 _ (gg.trans gp) ⟨k4.mono gp, gg.ex.free ht, g4.sub.free ht, upd_same, (hv.mono g3.bb).mono g4.bb⟩
/-- if ..: return a; return b, new lists -/
theorem dof_if {t u : TS} {tt : TT} {b : Bool} {ns : List Int} (h : EvB K tt ρ b) (h1 : b = true → DoF K t ρ ns) (h2 : b = false → DoF K u ρ ns) : DoF K (tSeq (tIfS tt t tNext) u) ρ ns := fun σ B H D e s q =>
  h σ B H e s _ fun B1 H1 g1 => by
    cases b with
    | true => exact iteT (h1 rfl σ B1 H1 _ (e.mono g1.bb) g1.sub (q.after g1))
    | false => exact iteF (h2 rfl σ B1 H1 D (e.mono g1.bb) g1.sub (q.after g1))
theorem dof_asg {te : TE} {t : TS} {g : TG} {ρ1 : Rho} {d : PyData} {ns : List Int} (h : Ev K te ρ d) (hg : Tg K g d ρ ρ1) (k : DoF K t ρ1 ns) : DoF K (tSeq (tAsg te g) t) ρ ns := fun σ B H D e s x =>
  h σ B H e s _ fun v B1 H1 g1 hv => hg σ B1 H1 v (e.mono g1.bb) g1.sub hv _ fun σ' e' => k σ' B1 H1 D e' g1.sub (x.after g1)
/-- minus one -/
theorem ev_neg {i : Int} : Ev K (tUn (rU fun i => .int (-i)) (tC (.int i))) ρ (.int (-i)) := fun σ B H e s Q q => ⟨i, rfl, q _ B H (.refl s) (.int _)⟩
theorem cut_init {xs : List PyData} : cutD xs none (some (-1)) = xs.dropLast := by
  unfold cutD
  rw [HT.sIx_none]
  have e : HT.sIx xs.length xs.length (some (-1)) = xs.length - 1 := by
    unfold HT.sIx
    simp
    try omega
  rw [e, List.drop_zero, Nat.sub_zero, List.dropLast_eq_take]
end
end G
end
section
set_option maxRecDepth 100000
set_option maxHeartbeats 4000000
namespace K22
open PySem PySem.Spec PyProof.Rows L2 G Lin C
local macro_rules | `(tactic| walk_at "ev") => `(tactic| first
  | exact ev_var rfl | exact ev_int | exact ev_bl | exact ev_non | exact ev_str
  | (apply ev_op; (focus walk_at "ev"); (focus walk_at "ev"); (focus walk_at "op"))
  | (apply ev_cb; (focus walk_at "el"); (focus walk_at "fn"))
  | (apply ev_lst; (focus walk_at "el"); (show _ ≤ sizeLine; decide))
  | (apply ev_tup; (focus walk_at "el"); (show _ ≤ sizeLine; decide)))
local macro_rules | `(tactic| walk_at "el") => `(tactic| first
  | exact el_nil
  | (apply el_cons; (focus walk_at "ev"); (focus walk_at "el")))
local macro_rules | `(tactic| walk_at "fn") => `(tactic| first
  | exact fn_int | exact fn_len | exact fn_all | exact fn_listL | exact fn_listT)
local macro_rules | `(tactic| walk_at "op") => `(tactic| first
  | exact op_I0 (fun _ => .int _) | exact op_I0 (fun _ => .bl _) | exact opp_1 (op_I0 fun _ => .int _)
  | exact op_I (by show (_ : Int) ≠ 0; decide) (fun _ => .int _)
  | exact op_I (by assumption) (fun _ => .int _)
  | exact opp_1 (op_I (by assumption) fun _ => .int _)
  | exact opp_1 (opp_ixL (i := 0) rfl) | exact opp_2 (opp_ixT (i := 0) rfl) | exact opp_2 (opp_ixT (i := 1) rfl) | exact opp_2 (opp_ixT (i := 2) rfl))
theorem sc_is_whole : FnScope ["value"] ["value"] (defScope s_is_whole) := ⟨rfl, rfl, rfl, by decide +kernel, rfl, by decide +kernel, by decide +kernel⟩
theorem ok_is_whole {P : Program} {w : World} {K : PySem.W.Frag} {mg : Str → Option Value} {base : Heap} (B : Bi mg)  (h : Has K mg "is_whole" s_is_whole ["value"]) :
    Cal P w K mg base 1 "is_whole" ["value"] (sp K p_is_whole) := by
  refine has_d h sc_is_whole ar_is_whole fun f cdv A outer s H E hg hr => ⟨_, (pss_one (ps_ret (pe_and (pe_callB (isiK K) (by rfl) B.isinstance (by decide +kernel) (pa_cons (pv 0) (pa_cons (pe_bltn (v := .ty "int") (by rfl) B.int (by decide +kernel) rfl) pa_nil))) (pe_one (pe_not (pe_callB (isiK K) (by rfl) B.isinstance (by decide +kernel) (pa_cons (pv 0) (pa_cons (pe_bltn (v := .ty "bool") (by rfl) B.bool (by decide +kernel) rfl) pa_nil)))))))), fun ds d hp => ?_⟩
  obtain ⟨x, rfl, rfl⟩ := hp
  exact do_ret (ev_and (ev_isi (ev_var rfl) (kit_int x)) (fun ha => ev_not (ev_isi (ev_var rfl) (kit_bool x)) (by unfold isWholeD; rw [ha]; rfl)) (fun ha => by unfold isWholeD; rw [ha]; rfl)) rfl
theorem sc_is_below : FnScope ["value", "many"] ["value", "many"] (defScope s_is_below) := ⟨rfl, rfl, rfl, by decide +kernel, rfl, by decide +kernel, by decide +kernel⟩
theorem ok_is_below {P : Program} {w : World} {K : PySem.W.Frag} {mg : Str → Option Value} {base : Heap} (B : Bi mg) (c_is_whole : Cal P w K mg base 1 "is_whole" ["value"] (sp K p_is_whole)) (h : Has K mg "is_below" s_is_below ["value", "many"]) :
    Cal P w K mg base 2 "is_below" ["value", "many"] (sp K p_is_below) := by
  refine has_d h sc_is_below ar_is_below fun f cdv A outer s H E hg hr => ⟨_, (pss_one (ps_ret (pe_and (pg_cal hg c_is_whole hr (by rfl) (pa_cons (pv 0) pa_nil)) (pe_one (pe_chain op_le op_lt pe_int (pv 0) (pv 1)))))), fun ds d hp => ?_⟩
  obtain ⟨x, n, rfl, rfl⟩ := hp
  refine do_ret (ev_and (ev_call (el_cons (ev_var rfl) el_nil) ⟨x, rfl, rfl⟩) (fun ha => ?_) (fun ha => ?_)) rfl
  · cases x <;> cases ha
    rename_i i
    exact ev_chain (a := decide (0 ≤ i)) ev_int (ev_var rfl) (op_I0 fun _ => .bl _) (fun _ => ev_var rfl) (fun h1 => op_I0 fun _ => by
      show Da _ _ _ (.bool (decide (0 ≤ i) && decide (i < n)))
      rw [h1]
      exact .bl _) (fun h1 => by show PyData.bool (decide (0 ≤ i) && decide (i < n)) = _; rw [h1]; rfl)
  · cases x <;> first | rfl | cases ha
theorem sc_is_from : FnScope ["value", "least"] ["value", "least"] (defScope s_is_from) := ⟨rfl, rfl, rfl, by decide +kernel, rfl, by decide +kernel, by decide +kernel⟩
theorem ok_is_from {P : Program} {w : World} {K : PySem.W.Frag} {mg : Str → Option Value} {base : Heap} (B : Bi mg) (c_is_whole : Cal P w K mg base 1 "is_whole" ["value"] (sp K p_is_whole)) (h : Has K mg "is_from" s_is_from ["value", "least"]) :
    Cal P w K mg base 2 "is_from" ["value", "least"] (sp K p_is_from) := by
  refine has_d h sc_is_from ar_is_from fun f cdv A outer s H E hg hr => ⟨_, (pss_one (ps_ret (pe_and (pg_cal hg c_is_whole hr (by rfl) (pa_cons (pv 0) pa_nil)) (pe_one (pe_cmpR op_ge (pv 0) (pv 1) (nomark _)))))), fun ds d hp => ?_⟩
  obtain ⟨x, n, rfl, rfl⟩ := hp
  refine do_ret (ev_and (ev_call (el_cons (ev_var rfl) el_nil) ⟨x, rfl, rfl⟩) (fun ha => ?_) (fun ha => ?_)) rfl
  · cases x <;> cases ha
    rename_i i
    exact ev_op (ev_var rfl) (ev_var rfl) (op_I0 fun _ => .bl _)
  · cases x <;> first | rfl | cases ha
theorem sc_are_below : FnScope ["value", "many", "one"] ["value", "many"] (defScope s_are_below) := ⟨rfl, rfl, rfl, by decide +kernel, rfl, by decide +kernel, by decide +kernel⟩
theorem ok_are_below {P : Program} {w : World} {K : PySem.W.Frag} {mg : Str → Option Value} {base : Heap} (B : Bi mg) (c_is_below : Cal P w K mg base 2 "is_below" ["value", "many"] (sp K p_is_below)) (h : Has K mg "are_below" s_are_below ["value", "many"]) :
    Cal P w K mg base 3 "are_below" ["value", "many"] (sp K p_are_below) := by
  refine has_d h sc_are_below ar_are_below fun f cdv A outer s H E hg hr => ⟨_, (pss_one (ps_ret (pe_and (pe_callB (isiK K) (by rfl) B.isinstance (by decide +kernel) (pa_cons (pv 0) (pa_cons (pe_bltn (v := .ty "list") (by rfl) B.list (by decide +kernel) rfl) pa_nil))) (pe_one (pe_callB (allK K rfl) (by rfl) B.all (by decide +kernel) (pa_cons (pe_lc (own := [("one", 2)]) (g := (gName 2)) rfl sc_are_below.nd (pi_or (pi_listK K (pv 0)) (pi_tupK K (pv 0))) (blkOk_by (N := ["value", "many", "one"]) (sc := defScope s_are_below) (own := [("one", 2)]) (by decide +kernel)) (fun _ _ _ _ _ => pg_name (i := 2) sc_are_below.nd rfl (Or.inl rfl)) (fun _ _ _ _ _ => pts_nil) (fun _ _ _ _ _ => (pg_cal hg c_is_below hr (by rfl) (pa_cons (pv 2) (pa_cons (pv 1) pa_nil))))) pa_nil)))))), fun ds d hp => ?_⟩
  obtain ⟨ns, n, rfl, hl, hb, rfl⟩ := hp
  refine do_ret (ev_and (ev_isi (ev_var rfl) (kit_list _)) (fun _ => ev_cb (el_cons (ev_map (it_1 (it_list (ev_var rfl))) (by rw [List.length_map]; omega) (fun _ => .bool true) fun e he => ?_) el_nil) ?_) (fun h => nomatch h)) rfl
  · obtain ⟨x, hx, rfl⟩ := List.mem_map.mp he
    refine ⟨_, tgw_name, ev_call (el_cons (ev_var rfl) (el_cons (ev_var rfl) el_nil)) ⟨_, _, rfl, ?_⟩⟩
    have q := hb x hx
    show PyData.bool true = .bool (decide (0 ≤ x) && decide (x < n))
    rw [decide_eq_true q.1, decide_eq_true q.2]
    rfl
  · have q := fn_all (K := K) (bs := ns.map fun _ => true)
    have e1 : (ns.map fun _ => true).all id = true := by rw [List.all_eq_true]; intro b hb; obtain ⟨_, _, rfl⟩ := List.mem_map.mp hb; rfl
    rw [List.map_map, e1] at q
    rw [List.map_map]
    exact q
theorem sc_is_each_once : FnScope ["value", "many"] ["value", "many"] (defScope s_is_each_once) := ⟨rfl, rfl, rfl, by decide +kernel, rfl, by decide +kernel, by decide +kernel⟩
theorem ok_is_each_once {P : Program} {w : World} {K : PySem.W.Frag} {mg : Str → Option Value} {base : Heap} (B : Bi mg) (c_are_below : Cal P w K mg base 3 "are_below" ["value", "many"] (sp K p_are_below)) (h : Has K mg "is_each_once" s_is_each_once ["value", "many"]) :
    Cal P w K mg base 4 "is_each_once" ["value", "many"] (sp K p_is_each_once) := by
  refine has_d h sc_is_each_once ar_is_each_once fun f cdv A outer s H E hg hr => ⟨_, (pss_cons (ps_if (PW.pt (pw_or (pt_not (pt_val (pe_callB (isiK K) (by rfl) B.isinstance (by decide +kernel) (pa_cons (pv 0) (pa_cons (pe_bltn (v := .ty "list") (by rfl) B.list (by decide +kernel) rfl) pa_nil))))) (pw_or1 (pt_cmpR (neK K hr) (pe_callB (lenK K) (by rfl) B.len PySem.boot_len (pa_cons (pv 0) pa_nil)) (pv 1) (nomark _))))) (pss_one (ps_ret pe_bl)) pss_nil)
      (pss_one (ps_ret (pe_and (pg_cal hg c_are_below hr (by rfl) (pa_cons (pv 0) (pa_cons (pv 1) pa_nil))) (pe_one (pe_cmpR (eqK K hr) (lenSetK K (by rfl) B.len (by rfl) B.set (pv 0)) (pv 1) (nomark _))))))), fun ds d hp => ?_⟩
  obtain ⟨ns, n, rfl, hl, hn, hb, nd, rfl⟩ := hp
  refine do_seq (M := fun ρ => ρ = startR ["value", "many"] [.list (intsD ns), .int n]) (do_if (b := false) ?_ (fun h => nomatch h) fun _ => do_next rfl) fun ρ' e => ?_
  · refine eb_or (a := false) (eb_not (eb_B (ev_isi (ev_var rfl) (kit_list _))) rfl) (fun _ => ?_) (fun h => nomatch h)
    refine eb_test (ev_op (ev_cb (el_cons (ev_var rfl) el_nil) fn_len) (ev_var rfl) (opp_neD (sh_int _) (sh_int _) ?_))
    rw [eqv_int, List.length_map, hl]
    simp
  · subst e
    refine do_ret (ev_and (ev_call (el_cons (ev_var rfl) (el_cons (ev_var rfl) el_nil)) ⟨ns, n, rfl, by omega, hb, rfl⟩) (fun _ => ?_) (fun h => nomatch h)) rfl
    refine ev_op (ev_lenSet (ev_var rfl) nd (by omega)) (ev_var rfl) (opp_eqD (sh_int _) (sh_int _) ?_)
    rw [eqv_int, hl]
    simp
theorem sc_size_of : FnScope ["orders", "many", "order"] ["orders"] (defScope s_size_of) := ⟨rfl, rfl, rfl, by decide +kernel, rfl, by decide +kernel, by decide +kernel⟩
theorem ok_size_of {P : Program} {w : World} {K : PySem.W.Frag} {mg : Str → Option Value} {base : Heap} (B : Bi mg)  (h : Has K mg "size_of" s_size_of ["orders"]) :
    Cal P w K mg base 1 "size_of" ["orders"] (sp K p_size_of) := by
  refine has_d h sc_size_of ar_size_of fun f cdv A outer s H E hg hr => ⟨_, (pss_cons (ps_set (i := 1) sc_size_of.nd rfl (Or.inl rfl) pe_int)
      (pss_cons (ps_for PassesOwn.never rfl (pi_or (pi_listK K (pv 0)) (pi_tupK K (pv 0))) (pg_name (i := 2) sc_size_of.nd rfl (Or.inl rfl)) (pss_one (ps_set (i := 1) sc_size_of.nd rfl (Or.inl rfl) (pe_op op_mulA (pv 1) (pv 2)))))
      (pss_one (ps_ret (pv 1))))), fun ds d hp => ?_⟩
  obtain ⟨os, rfl, ho, rfl⟩ := hp
  refine do_seq (M := fun ρ => ρ = [some (.tuple (intsD os)), some (.int 1), none]) (do_set ev_int rfl) fun ρ' e => ?_
  subst e
  refine do_seq (M := fun ρ => ∃ z, ρ = [some (.tuple (intsD os)), some (.int (prodI os)), z]) (do_for (it_2 (it_tup (ev_var rfl))) (fun i ρ => ∃ z, ρ = [some (.tuple (intsD os)), some (.int (prodI (os.take i))), z]) ⟨_, rfl⟩ ?_ ?_) fun ρ' e => ?_
  · rintro i e ρ' he ⟨z, rfl⟩
    obtain ⟨o, ho', rfl⟩ := at_ints he
    have st := take_prod ho'
    refine ⟨_, tg_name, do_set (ev_op (ev_var rfl) (ev_var rfl) (opp_1 (op_I ?_ fun _ => .int _))) ⟨some (.int o), ?_⟩⟩
    · have b1 := prod_take_le ho i
      have b2 := ord_le ho (List.mem_of_getElem? ho')
      exact wide_mul (a := 20) (b := 20) (by have := b1.1; have := b1.2; omega) (by omega) (by decide) (by decide) (by decide)
    · rw [st]
      rfl
  · rintro ρ' ⟨z, rfl⟩
    refine ⟨z, ?_⟩
    rw [List.length_map, List.take_length]
  · obtain ⟨z, rfl⟩ := e
    exact do_ret (ev_var rfl) rfl
theorem sc_plus : FnScope ["orders", "member", "other", "total", "worth", "order"] ["orders", "member", "other"] (defScope s_plus) := ⟨rfl, rfl, rfl, by decide +kernel, rfl, by decide +kernel, by decide +kernel⟩
theorem ok_plus {P : Program} {w : World} {K : PySem.W.Frag} {mg : Str → Option Value} {base : Heap} (B : Bi mg)  (h : Has K mg "plus" s_plus ["orders", "member", "other"]) :
    Cal P w K mg base 1 "plus" ["orders", "member", "other"] (sp K p_plus) := by
  refine has_d h sc_plus ar_plus fun f cdv A outer s H E hg hr => ⟨_, (pss_cons (ps_asg (pe_tup (pa_cons pe_int (pa_cons pe_int pa_nil))) (pg_tup rfl (pgs_cons (pg_name (i := 3) sc_plus.nd rfl (Or.inl rfl)) (pgs_cons (pg_name (i := 4) sc_plus.nd rfl (Or.inl rfl)) pgs_nil))))
      (pss_cons (ps_for PassesOwn.never rfl (pi_revK K (by rfl) B.reversed (pv 0)) (pg_name (i := 5) sc_plus.nd rfl (Or.inl rfl)) (pss_cons (ps_set (i := 3) sc_plus.nd rfl (Or.inl rfl) (pe_op (addK K) (pv 3) (pe_op op_mulA (pe_op op_modN (pe_op (addK K) (pv 1) (pv 2)) (pv 5)) (pv 4))))
      (pss_one (ps_par3 (i := 1) (j := 2) (l := 4) rfl sc_plus.nd rfl rfl rfl (by decide) (by decide) (by decide) rfl rfl rfl (pa_cons (pe_op op_fdivW (pv 1) (pv 5)) (pa_cons (pe_op op_fdivW (pv 2) (pv 5)) (pa_cons (pe_op op_mulA (pv 4) (pv 5)) pa_nil))) (by rfl)))))
      (pss_one (ps_ret (pv 3))))), fun ds d hp => ?_⟩
  obtain ⟨os, a, b, rfl, ho, rfl⟩ := hp
  have hr' := ho.rev
  refine do_seq (M := fun ρ => ρ = [some (.tuple (intsD os)), some (.int a), some (.int b), some (.int 0), some (.int 1), none]) (do_asg (d := .tuple [.int 0, .int 1]) (by walk_at "ev") (tg_tup rfl (tgs_cons tg_name (tgs_cons tg_name tgs_nil))) rfl) fun ρ' e => ?_
  subst e
  refine do_seq (M := fun ρ => ∃ m k w z, ρ = [some (.tuple (intsD os)), m, k, some (.int (linR os.reverse [a, b] [])), w, z]) (do_for (it_revT (ev_var rfl)) (fun i ρ => ∃ m k t z, ρ = [some (.tuple (intsD os)), some (.int m), some (.int k), some (.int t), some (.int (prodI (os.reverse.take i))), z] ∧ t + prodI (os.reverse.take i) * linR (os.reverse.drop i) [m, k] [] = linR os.reverse [a, b] []) ⟨a, b, 0, none, rfl, by simp [prodI]⟩ ?_ ?_) fun ρ' e => ?_
  · rintro i e ρ' he ⟨m, k, t, z, rfl, inv⟩
    rw [rev_ints] at he
    obtain ⟨o, ho', rfl⟩ := at_ints he
    have b1 := prod_take_le hr' i
    have b2 := ord_le hr' (List.mem_of_getElem? ho')
    have r1 := fmod_rng (m + k) (m := o) (by omega)
    have m1 : CMulW ((m + k).fmod o) (prodI (os.reverse.take i)) := mulW_small (by omega) (by omega) (by omega) (by omega)
    have m2 : CMulW (prodI (os.reverse.take i)) o := mulW_small (by omega) (by omega) (by omega) (by omega)
    have d1 : CDivW m o := divW_small (by omega) (by omega)
    have d2 : CDivW k o := divW_small (by omega) (by omega)
    have n1 : o ≠ 0 := by omega
    rw [drop_at ho'] at inv
    have inv2 := step_lin b2.1 inv
    refine ⟨_, tg_name, do_seq (M := fun ρ => ρ = [some (.tuple (intsD os)), some (.int m), some (.int k), some (.int (t + (m + k).fmod o * prodI (os.reverse.take i))), some (.int (prodI (os.reverse.take i))), some (.int o)]) (do_set (d := .int (t + (m + k).fmod o * prodI (os.reverse.take i))) (by walk_at "ev") rfl) fun ρ' e => ?_⟩
    subst e
    refine do_par3 (x := .int (m / o)) (y := .int (k / o)) (z := .int (prodI (os.reverse.take i) * o)) (by walk_at "el") ⟨m / o, k / o, t + (m + k).fmod o * prodI (os.reverse.take i), some (.int o), ?_, ?_⟩
    · rw [take_prod ho']
      rfl
    · rw [take_prod ho']
      exact inv2
  · rintro ρ' ⟨m, k, t, z, rfl, inv⟩
    rw [List.length_reverse, List.length_map, ← List.length_reverse, List.take_length, List.drop_length] at inv
    have e0 : linR [] [m, k] [] = 0 := rfl
    rw [e0, Int.mul_zero, Int.add_zero] at inv
    rw [inv]
    exact ⟨some (.int m), some (.int k), some (.int _), z, rfl⟩
  · obtain ⟨m, k, w, z, rfl⟩ := e
    exact do_ret (ev_var rfl) rfl
theorem sc_minus : FnScope ["orders", "member", "other", "total", "worth", "order"] ["orders", "member", "other"] (defScope s_minus) := ⟨rfl, rfl, rfl, by decide +kernel, rfl, by decide +kernel, by decide +kernel⟩
theorem ok_minus {P : Program} {w : World} {K : PySem.W.Frag} {mg : Str → Option Value} {base : Heap} (B : Bi mg)  (h : Has K mg "minus" s_minus ["orders", "member", "other"]) :
    Cal P w K mg base 1 "minus" ["orders", "member", "other"] (sp K p_minus) := by
  refine has_d h sc_minus ar_minus fun f cdv A outer s H E hg hr => ⟨_, (pss_cons (ps_asg (pe_tup (pa_cons pe_int (pa_cons pe_int pa_nil))) (pg_tup rfl (pgs_cons (pg_name (i := 3) sc_minus.nd rfl (Or.inl rfl)) (pgs_cons (pg_name (i := 4) sc_minus.nd rfl (Or.inl rfl)) pgs_nil))))
      (pss_cons (ps_for PassesOwn.never rfl (pi_revK K (by rfl) B.reversed (pv 0)) (pg_name (i := 5) sc_minus.nd rfl (Or.inl rfl)) (pss_cons (ps_set (i := 3) sc_minus.nd rfl (Or.inl rfl) (pe_op (addK K) (pv 3) (pe_op op_mulA (pe_op op_modN (pe_op op_sub (pv 1) (pv 2)) (pv 5)) (pv 4))))
      (pss_one (ps_par3 (i := 1) (j := 2) (l := 4) rfl sc_minus.nd rfl rfl rfl (by decide) (by decide) (by decide) rfl rfl rfl (pa_cons (pe_op op_fdivW (pv 1) (pv 5)) (pa_cons (pe_op op_fdivW (pv 2) (pv 5)) (pa_cons (pe_op op_mulA (pv 4) (pv 5)) pa_nil))) (by rfl)))))
      (pss_one (ps_ret (pv 3))))), fun ds d hp => ?_⟩
  obtain ⟨os, a, b, rfl, ho, rfl⟩ := hp
  have hr' := ho.rev
  refine do_seq (M := fun ρ => ρ = [some (.tuple (intsD os)), some (.int a), some (.int b), some (.int 0), some (.int 1), none]) (do_asg (d := .tuple [.int 0, .int 1]) (by walk_at "ev") (tg_tup rfl (tgs_cons tg_name (tgs_cons tg_name tgs_nil))) rfl) fun ρ' e => ?_
  subst e
  refine do_seq (M := fun ρ => ∃ m k w z, ρ = [some (.tuple (intsD os)), m, k, some (.int (linR os.reverse [a] [b])), w, z]) (do_for (it_revT (ev_var rfl)) (fun i ρ => ∃ m k t z, ρ = [some (.tuple (intsD os)), some (.int m), some (.int k), some (.int t), some (.int (prodI (os.reverse.take i))), z] ∧ t + prodI (os.reverse.take i) * linR (os.reverse.drop i) [m] [k] = linR os.reverse [a] [b]) ⟨a, b, 0, none, rfl, by simp [prodI]⟩ ?_ ?_) fun ρ' e => ?_
  · rintro i e ρ' he ⟨m, k, t, z, rfl, inv⟩
    rw [rev_ints] at he
    obtain ⟨o, ho', rfl⟩ := at_ints he
    have b1 := prod_take_le hr' i
    have b2 := ord_le hr' (List.mem_of_getElem? ho')
    have r1 := fmod_rng (m - k) (m := o) (by omega)
    have m1 : CMulW ((m - k).fmod o) (prodI (os.reverse.take i)) := mulW_small (by omega) (by omega) (by omega) (by omega)
    have m2 : CMulW (prodI (os.reverse.take i)) o := mulW_small (by omega) (by omega) (by omega) (by omega)
    have d1 : CDivW m o := divW_small (by omega) (by omega)
    have d2 : CDivW k o := divW_small (by omega) (by omega)
    have n1 : o ≠ 0 := by omega
    rw [drop_at ho'] at inv
    have inv2 := step_lis b2.1 inv
    refine ⟨_, tg_name, do_seq (M := fun ρ => ρ = [some (.tuple (intsD os)), some (.int m), some (.int k), some (.int (t + (m - k).fmod o * prodI (os.reverse.take i))), some (.int (prodI (os.reverse.take i))), some (.int o)]) (do_set (d := .int (t + (m - k).fmod o * prodI (os.reverse.take i))) (by walk_at "ev") rfl) fun ρ' e => ?_⟩
    subst e
    refine do_par3 (x := .int (m / o)) (y := .int (k / o)) (z := .int (prodI (os.reverse.take i) * o)) (by walk_at "el") ⟨m / o, k / o, t + (m - k).fmod o * prodI (os.reverse.take i), some (.int o), ?_, ?_⟩
    · rw [take_prod ho']
      rfl
    · rw [take_prod ho']
      exact inv2
  · rintro ρ' ⟨m, k, t, z, rfl, inv⟩
    rw [List.length_reverse, List.length_map, ← List.length_reverse, List.take_length, List.drop_length] at inv
    have e0 : linR [] [m] [k] = 0 := rfl
    rw [e0, Int.mul_zero, Int.add_zero] at inv
    rw [inv]
    exact ⟨some (.int m), some (.int k), some (.int _), z, rfl⟩
  · obtain ⟨m, k, w, z, rfl⟩ := e
    exact do_ret (ev_var rfl) rfl
theorem sc_sum_up : FnScope ["orders", "members", "total", "member"] ["orders", "members"] (defScope s_sum_up) := ⟨rfl, rfl, rfl, by decide +kernel, rfl, by decide +kernel, by decide +kernel⟩
theorem ok_sum_up {P : Program} {w : World} {K : PySem.W.Frag} {mg : Str → Option Value} {base : Heap} (B : Bi mg) (c_plus : Cal P w K mg base 1 "plus" ["orders", "member", "other"] (sp K p_plus)) (h : Has K mg "sum_up" s_sum_up ["orders", "members"]) :
    Cal P w K mg base 2 "sum_up" ["orders", "members"] (sp K p_sum_up) := by
  refine has_d h sc_sum_up ar_sum_up fun f cdv A outer s H E hg hr => ⟨_, (pss_cons (ps_set (i := 2) sc_sum_up.nd rfl (Or.inl rfl) pe_int)
      (pss_cons (ps_for PassesOwn.never rfl (pi_or (pi_listK K (pv 1)) (pi_tupK K (pv 1))) (pg_name (i := 3) sc_sum_up.nd rfl (Or.inl rfl)) (pss_one (ps_set (i := 2) sc_sum_up.nd rfl (Or.inl rfl) (pg_cal hg c_plus hr (by rfl) (pa_cons (pv 0) (pa_cons (pv 2) (pa_cons (pv 3) pa_nil)))))))
      (pss_one (ps_ret (pv 2))))), fun ds d hp => ?_⟩
  obtain ⟨os, xs, rfl, ho, rfl⟩ := hp
  refine do_seq (M := fun ρ => ρ = [some (.tuple (intsD os)), some (.list (intsD xs)), some (.int 0), none]) (do_set ev_int rfl) fun ρ' e => ?_
  subst e
  refine do_seq (M := fun ρ => ∃ z, ρ = [some (.tuple (intsD os)), some (.list (intsD xs)), some (.int (linR os.reverse xs [])), z]) (do_for (it_1 (it_list (ev_var rfl))) (fun i ρ => ∃ z, ρ = [some (.tuple (intsD os)), some (.list (intsD xs)), some (.int (linR os.reverse (xs.take i) [])), z]) ⟨none, by rw [List.take_zero, lin_nil]⟩ ?_ ?_) fun ρ' e => ?_
  · rintro i e ρ' he ⟨z, rfl⟩
    obtain ⟨x, hx, rfl⟩ := at_ints he
    refine ⟨_, tg_name, do_set (ev_call (el_cons (ev_var rfl) (el_cons (ev_var rfl) (el_cons (ev_var rfl) el_nil))) ⟨os, _, _, rfl, ho, rfl⟩) ⟨some (.int x), ?_⟩⟩
    rw [lin_in ho.pos, List.append_nil, List.take_add_one, hx]
    rfl
  · rintro ρ' ⟨z, rfl⟩
    refine ⟨z, ?_⟩
    rw [List.length_map, List.take_length]
  · obtain ⟨z, rfl⟩ := e
    exact do_ret (ev_var rfl) rfl
theorem sc_minuses : FnScope ["orders", "first", "second", "one", "two"] ["orders", "first", "second"] (defScope s_minuses) := ⟨rfl, rfl, rfl, by decide +kernel, rfl, by decide +kernel, by decide +kernel⟩
theorem ok_minuses {P : Program} {w : World} {K : PySem.W.Frag} {mg : Str → Option Value} {base : Heap} (B : Bi mg) (c_minus : Cal P w K mg base 1 "minus" ["orders", "member", "other"] (sp K p_minus)) (h : Has K mg "minuses" s_minuses ["orders", "first", "second"]) :
    Cal P w K mg base 2 "minuses" ["orders", "first", "second"] (spFr K p_minuses) := by
  --RAW
  refine has_f h sc_minuses ar_minuses fun f cdv A outer s H E hg hr => ⟨_, (pss_one (ps_ret (pe_lc (own := [("one", 3), ("two", 4)]) (g := (gTup K 2 (gCons (gName 3) (gCons (gName 4) gNil)))) rfl sc_minuses.nd (pi_zipK K (by rfl) B.zip (pa_cons (pv 1) (pa_cons (pv 2) pa_nil))) (blkOk_by (N := ["orders", "first", "second", "one", "two"]) (sc := defScope s_minuses) (own := [("one", 3), ("two", 4)]) (by decide +kernel)) (fun _ _ _ _ _ => pg_tup rfl (pgs_cons (pg_name (i := 3) sc_minuses.nd rfl (Or.inl rfl)) (pgs_cons (pg_name (i := 4) sc_minuses.nd rfl (Or.inl rfl)) pgs_nil))) (fun _ _ _ _ _ => pts_nil) (fun _ _ _ _ _ => (pg_cal hg c_minus hr (by rfl) (pa_cons (pv 0) (pa_cons (pv 3) (pa_cons (pv 4) pa_nil)))))))), fun ds ns hp => ?_⟩
  obtain ⟨os, xs, ys, rfl, ho, hl, hz, hd⟩ := hp
  obtain rfl := ints_inj hd
  rw [← map_subI, ← zip_ints]
  refine dof_ret (evf_lc (it_1 (it_zipL (el_cons (ev_var rfl) (el_cons (ev_var rfl) el_nil)))) (by rw [zipD_len, ints_len, ints_len]; omega) (subI os) fun e he => ?_)
  rw [zip_ints] at he
  obtain ⟨x, y, rfl⟩ := mem_zi he
  exact ⟨_, tgw_pair (by decide), ev_call (el_cons (ev_var rfl) (el_cons (ev_var rfl) (el_cons (ev_var rfl) el_nil))) ⟨os, _, _, rfl, ho, rfl⟩⟩
theorem sc_turned_round : FnScope ["table", "signs", "sign", "entry"] ["table"] (defScope s_turned_round) := ⟨rfl, rfl, rfl, by decide +kernel, rfl, by decide +kernel, by decide +kernel⟩
theorem ok_turned_round {P : Program} {w : World} {K : PySem.W.Frag} {mg : Str → Option Value} {base : Heap} (B : Bi mg)  (h : Has K mg "turned_round" s_turned_round ["table"]) :
    Cal P w K mg base 1 "turned_round" ["table"] (spFr K p_turned_round) := by
  --RAW
  refine has_f h sc_turned_round ar_turned_round fun f cdv A outer s H E hg hr => ⟨_, (pss_cons (ps_set (i := 1) sc_turned_round.nd rfl (Or.inl rfl) (pe_op op_mulA (pe_lst (pa_cons pe_int pa_nil)) (pe_callB (lenK K) (by rfl) B.len PySem.boot_len (pa_cons (pv 0) pa_nil))))
      (pss_cons (ps_for PassesOwn.never rfl (pi_enum (by rfl) B.enumerate (pa_cons (pv 0) pa_nil)) (pg_tup rfl (pgs_cons (pg_name (i := 2) sc_turned_round.nd rfl (Or.inl rfl)) (pgs_cons (pg_name (i := 3) sc_turned_round.nd rfl (Or.inl rfl)) pgs_nil))) (pss_one (ps_asg (pv 2) (pg_sub (pv 1) (pv 3) set_list))))
      (pss_one (ps_ret (pv 1))))), fun ds ns hp => ?_⟩
  obtain ⟨t, n, rfl, T, hn, hd⟩ := hp
  obtain rfl := ints_inj hd
  have tl := tab_len T
  intro σ B H D e s q
  refine seq_go (asg_go (evf_rep (n := t.length) (z := 0) (by rw [← ints_len t]; exact ev_cb (el_cons (ev_var rfl) el_nil) fn_len) (by omega) σ B H e s _ fun r B1 H1 g1 hBr hHr hr1 => ?_))
  match σ, e.len with
  | [x0, x1, x2, x3], _ =>
    have e1 : EnvOk K B1 [x0, some (.ref r), x2, x3] [some (.list (intsD t)), none, none, none] := (e.mono g1.bb).forget (some (.ref r)) 1
    refine seq_go (for_go ((it_enum (el_cons (ev_var (i := 0) rfl) el_nil)) _ B1 H1 e1 g1.sub _ fun J B2 H2 g2 w => ?_))
    have G12 := g1.trans g2
    refine for_it w (fun k σ' H' => ∃ (B' : Hp) (z2 z3 : Option V) (cur : List Int), σ' = [x0, some (.ref r), z2, z3] ∧ Gr B H B' H' ∧ Same B2 B' ∧ B' r = none ∧ H' r = some (.lst (cur.map .int)) ∧ cur.length = t.length ∧
      ∀ (i : Nat) (e : Int), i < k → t[i]? = some e → cur[e.toNat]? = some (i : Int)) ⟨B2, x2, x3, List.replicate t.length 0, rfl, G12, Same.refl _, g2.keepNone hBr (by rw [hr1]; simp), g2.ex _ _ hr1, List.length_replicate, fun i e h => by omega⟩ (fun k σ' H' _ ⟨B', _, _, _, _, gg, sb, _⟩ => sb.trans gg.sub) ?_ ?_
    · rintro k x σ' H' H3 hk ⟨B', z2, z3, cur, rfl, gg, sb, hB, hr', hcl, hc⟩ y
      obtain ⟨B3, el, g3, hel, hx⟩ := y B' sb gg.sub
      have hk' : k < t.length := by rw [← enum_len t]; exact hk
      have ht : t[k]? = some t[k] := List.getElem?_eq_getElem hk'
      generalize t[k] = ek at ht
      rw [enum_at ht] at hel
      cases hel
      have mr := T.mem ek (List.mem_of_getElem? ht)
      cases hx with
      | @tup ta us _ h1 a1 =>
        cases a1 with
        | cons p1 a2 =>
          cases a2 with
          | cons p2 a3 =>
            cases a3
            cases p1
            cases p2
            have hr3 : H3 r = some (.lst (cur.map .int)) := g3.ex _ _ hr'
            have hB3 : B3 r = none := g3.keepNone hB (by rw [hr']; simp)
            have g03 := gg.trans g3
            have em : ek = ((ek.toNat : Nat) : Int) := (Int.toNat_of_nonneg mr.1).symm
            refine ⟨_, _, rfl, same_t g3.sub h1, rfl, _, _, rfl, _, _, rfl, rfl, _, rfl, _, rfl, _, rfl, r, cur.map .int, ek, ek.toNat, rfl, rfl, hr3, ?_, ?_⟩
            · rw [em]
              exact ix_nat (by rw [List.length_map]; omega)
            · refine ⟨B3, _, _, cur.set ek.toNat (k : Int), rfl, ⟨fun b o z => ?_, g03.bb, fun b o z => ?_, g03.new⟩, sb.trans g3.bb, hB3, by rw [upd_same, List.map_set], by rw [List.length_set]; exact hcl, fun i e2 hi h3 => ?_⟩
              · rw [upd_ne (ne_of_none z hHr)]
                exact g03.ex b o z
              · rw [upd_ne (ne_of_none z hB3)]
                exact g03.sub b o z
              · by_cases c : i = k
                · subst c
                  rw [ht] at h3
                  cases h3
                  exact List.getElem?_set_self (by omega)
                · have ne : e2.toNat ≠ ek.toNat := fun z => by
                    have r2 := T.mem e2 (List.mem_of_getElem? h3)
                    have e5 : e2 = ek := by omega
                    subst e5
                    have i1 := idx_at T.nd h3
                    have i2 := idx_at T.nd ht
                    omega
                  rw [List.getElem?_set_ne (fun z => ne z.symm)]
                  exact hc i e2 (by omega) h3
    · rintro σ' H' ⟨B', z2, z3, cur, rfl, gg, sb, hB, hr', hcl, hc⟩
      have eq : cur = invT t := inv_of T hcl fun i e2 h3 => hc i e2 (by rw [enum_len]; exact (List.getElem?_eq_some_iff.mp h3).1) h3
      rw [eq] at hr'
      exact ⟨_, rfl, q r B' H' gg hB hHr hr'⟩
theorem sc_are_orders : FnScope ["value", "order"] ["value"] (defScope s_are_orders) := ⟨rfl, rfl, rfl, by decide +kernel, rfl, by decide +kernel, by decide +kernel⟩
theorem ok_are_orders {P : Program} {w : World} {K : PySem.W.Frag} {mg : Str → Option Value} {base : Heap} (B : Bi mg) (c_is_from : Cal P w K mg base 2 "is_from" ["value", "least"] (sp K p_is_from)) (h : Has K mg "are_orders" s_are_orders ["value"]) :
    Cal P w K mg base 3 "are_orders" ["value"] (sp K p_are_orders) := by
  refine has_d h sc_are_orders ar_are_orders fun f cdv A outer s H E hg hr => ⟨_, (pss_cons (ps_if (PW.pt (pw_or (pt_not (pt_val (pe_callB (isiK K) (by rfl) B.isinstance (by decide +kernel) (pa_cons (pv 0) (pa_cons (pe_bltn (v := .ty "tuple") (by rfl) B.tuple (by decide +kernel) rfl) pa_nil))))) (pw_or1 (pt_cmpR (eqK K hr) (pe_callB (lenK K) (by rfl) B.len PySem.boot_len (pa_cons (pv 0) pa_nil)) pe_int (nomark _))))) (pss_one (ps_ret pe_bl)) pss_nil)
      (pss_one (ps_ret (pe_callB (allK K rfl) (by rfl) B.all (by decide +kernel) (pa_cons (pe_lc (own := [("order", 1)]) (g := (gName 1)) rfl sc_are_orders.nd (pi_or (pi_listK K (pv 0)) (pi_tupK K (pv 0))) (blkOk_by (N := ["value", "order"]) (sc := defScope s_are_orders) (own := [("order", 1)]) (by decide +kernel)) (fun _ _ _ _ _ => pg_name (i := 1) sc_are_orders.nd rfl (Or.inl rfl)) (fun _ _ _ _ _ => pts_nil) (fun _ _ _ _ _ => (pg_cal hg c_is_from hr (by rfl) (pa_cons (pv 1) (pa_cons pe_int pa_nil))))) pa_nil))))), fun ds d hp => ?_⟩
  obtain ⟨os, rfl, ho, hl, rfl⟩ := hp
  refine do_seq (M := fun ρ => ρ = [some (.tuple (intsD os)), none]) (do_if (b := false) ?_ (fun h => nomatch h) fun _ => do_next rfl) fun ρ' e => ?_
  · refine eb_or (a := false) (eb_not (eb_B (ev_isi (ev_var rfl) (kit_tuple _))) rfl) (fun _ => ?_) (fun h => nomatch h)
    refine eb_test (ev_op (ev_cb (el_cons (ev_var rfl) el_nil) fn_lenT) ev_int (opp_eqD (sh_int _) (sh_int _) ?_))
    rw [eqv_int, ints_len]
    have := ho.1
    cases os with
    | nil => exact absurd rfl this
    | cons o os => simp; omega
  · subst e
    refine do_ret (ev_cb (el_cons (ev_map (it_2 (it_tup (ev_var rfl))) (by rw [ints_len]; omega) (fun _ => .bool true) fun e he => ?_) el_nil) ?_) rfl
    · obtain ⟨x, hx, rfl⟩ := List.mem_map.mp he
      refine ⟨_, tgw_name, ev_call (el_cons (ev_var rfl) (el_cons ev_int el_nil)) ⟨_, _, rfl, ?_⟩⟩
      show PyData.bool true = .bool (decide (2 ≤ x))
      rw [decide_eq_true (ho.2.1 x hx)]
    · have q := fn_all (K := K) (bs := os.map fun _ => true)
      have e1 : (os.map fun _ => true).all id = true := by rw [List.all_eq_true]; intro b hb; obtain ⟨_, _, rfl⟩ := List.mem_map.mp hb; rfl
      rw [List.map_map, e1] at q
      rw [List.map_map]
      exact q
theorem sc_is_row_of : FnScope ["many", "value"] ["many", "value"] (defScope s_is_row_of) := ⟨rfl, rfl, rfl, by decide +kernel, rfl, by decide +kernel, by decide +kernel⟩
theorem ok_is_row_of {P : Program} {w : World} {K : PySem.W.Frag} {mg : Str → Option Value} {base : Heap} (B : Bi mg) (c_are_below : Cal P w K mg base 3 "are_below" ["value", "many"] (sp K p_are_below)) (h : Has K mg "is_row_of" s_is_row_of ["many", "value"]) :
    Cal P w K mg base 4 "is_row_of" ["many", "value"] (sp K p_is_row_of) := by
  refine has_d h sc_is_row_of ar_is_row_of fun f cdv A outer s H E hg hr => ⟨_, (pss_one (ps_ret (pe_and (pe_callB (isiK K) (by rfl) B.isinstance (by decide +kernel) (pa_cons (pv 1) (pa_cons (pe_bltn (v := .ty "list") (by rfl) B.list (by decide +kernel) rfl) pa_nil))) (pe_and (pe_cmpR (eqK K hr) (pe_callB (lenK K) (by rfl) B.len PySem.boot_len (pa_cons (pv 1) pa_nil)) (pv 0) (nomark _)) (pe_one (pg_cal hg c_are_below hr (by rfl) (pa_cons (pv 1) (pa_cons (pv 0) pa_nil)))))))), fun ds d hp => ?_⟩
  obtain ⟨n, row, rfl, hrow, hn, rfl⟩ := hp
  have hl := hrow.len
  refine do_ret (ev_and (a := true) (ev_isi (ev_var rfl) (kit_list _)) (fun _ => ev_and (a := true) (ev_op (ev_cb (el_cons (ev_var rfl) el_nil) fn_len) (ev_var rfl) (opp_eqD (sh_int _) (sh_int _) ?_)) (fun _ => ev_call (el_cons (ev_var rfl) (el_cons (ev_var rfl) el_nil)) ⟨row, n, rfl, by omega, hrow.mem, rfl⟩) (fun h => nomatch h)) (fun h => nomatch h)) rfl
  rw [eqv_int, ints_len, hl]
  simp
theorem sc_borne_by_members : FnScope ["orders", "row"] ["orders", "row"] (defScope s_borne_by_members) := ⟨rfl, rfl, rfl, by decide +kernel, rfl, by decide +kernel, by decide +kernel⟩
theorem ok_borne_by_members {P : Program} {w : World} {K : PySem.W.Frag} {mg : Str → Option Value} {base : Heap} (B : Bi mg) (c_walked_rounds : Cal P w K mg base 4 "walked_rounds" ["orders", "row"] (sp K p_walked_rounds)) (h : Has K mg "borne_by_members" s_borne_by_members ["orders", "row"]) :
    Cal P w K mg base 5 "borne_by_members" ["orders", "row"] (sp K p_borne_by_members) := by
  refine has_d h sc_borne_by_members ar_borne_by_members fun f cdv A outer s H E hg hr => ⟨_, (pss_one (ps_ret (pe_ix (ixK K) (pg_cal hg c_walked_rounds hr (by rfl) (pa_cons (pv 0) (pa_cons (pv 1) pa_nil))) (pe_un un_neg pe_int) (fun _ _ => rfl)))), fun ds d hp => ?_⟩
  obtain ⟨os, row, n, rfl, ho, hn, hrow, rfl⟩ := hp
  have n1 := ho.n1 hn
  obtain ⟨_, hlen, lack, _, gl⟩ := rds_ok ho hn (by omega) hrow
  refine do_ret (ev_op (ev_call (el_cons (ev_var rfl) (el_cons (ev_var rfl) el_nil)) ⟨os, row, n, rfl, ho, hn, hrow, rfl⟩) ev_neg (opp_1 (opp_last ?_))) rfl
  unfold tabsD
  rw [List.getLast?_map, gl]
  rfl
theorem sc_following : FnScope ["orders", "table", "row", "bearers", "entry"] ["orders", "table", "row"] (defScope s_following) := ⟨rfl, rfl, rfl, by decide +kernel, rfl, by decide +kernel, by decide +kernel⟩
theorem ok_following {P : Program} {w : World} {K : PySem.W.Frag} {mg : Str → Option Value} {base : Heap} (B : Bi mg) (c_turned_round : Cal P w K mg base 1 "turned_round" ["table"] (spFr K p_turned_round)) (c_borne_by_members : Cal P w K mg base 5 "borne_by_members" ["orders", "row"] (sp K p_borne_by_members)) (h : Has K mg "following" s_following ["orders", "table", "row"]) :
    Cal P w K mg base 6 "following" ["orders", "table", "row"] (spFr K p_following) := by
  --RAW
  refine has_f h sc_following ar_following fun f cdv A outer s H E hg hr => ⟨_, (pss_cons (ps_set (i := 3) sc_following.nd rfl (Or.inr rfl) (pg_cal hg c_turned_round hr (by rfl) (pa_cons (pg_cal hg c_borne_by_members hr (by rfl) (pa_cons (pv 0) (pa_cons (pv 2) pa_nil))) pa_nil)))
      (pss_one (ps_ret (pe_lc (own := [("entry", 4)]) (g := (gName 4)) rfl sc_following.nd (pi_or (pi_listK K (pv 1)) (pi_tupK K (pv 1))) (blkOk_by (N := ["orders", "table", "row", "bearers", "entry"]) (sc := defScope s_following) (own := [("entry", 4)]) (by decide +kernel)) (fun _ _ _ _ _ => pg_name (i := 4) sc_following.nd rfl (Or.inl rfl)) (fun _ _ _ _ _ => pts_nil) (fun _ _ _ _ _ => (pe_ix (ixK K) (pv 3) (pv 4) (fun _ _ => rfl))))))), fun ds ns hp => ?_⟩
  obtain ⟨os, t, row, n, rfl, ho, hn, T, hrow, hd⟩ := hp
  obtain rfl := ints_inj hd
  have n1 := ho.n1 hn
  have B1 := (rds_ok ho hn (by omega) hrow).2.2
  obtain ⟨lack, rd, _⟩ := B1
  have I := tab_inv rd.tab
  have il := tab_len I
  have tl := tab_len T
  refine dof_set (d := .list (intsD (invT (bornT os row)))) (evf_call (el_cons (ev_call (el_cons (ev_var rfl) (el_cons (ev_var rfl) el_nil)) ⟨os, row, n, rfl, ho, hn, hrow, rfl⟩) el_nil) ⟨_, n, rfl, rd.tab, by omega, rfl⟩).ev ?_
  have e0 : folT os t row = (intsD t).map fun e => bv (invT (bornT os row)) (toI e) := by
    unfold folT
    rw [intsD, List.map_map]
    rfl
  rw [e0]
  refine dof_ret (evf_lc (it_1 (it_list (ev_var rfl))) (by rw [ints_len]; omega) _ fun e he => ?_)
  obtain ⟨m, hm, rfl⟩ := List.mem_map.mp he
  have b := T.mem m hm
  have em : ((m.toNat : Nat) : Int) = m := Int.toNat_of_nonneg b.1
  refine ⟨_, tgw_name, ev_op (ev_var rfl) (y := .int ((m.toNat : Nat) : Int)) (by rw [em]; exact ev_var rfl) (opp_1 (opp_ixL (get_at (at_bv il b.1 b.2))))⟩
theorem sc_following_by_sums : FnScope ["orders", "table", "row", "entry"] ["orders", "table", "row"] (defScope s_following_by_sums) := ⟨rfl, rfl, rfl, by decide +kernel, rfl, by decide +kernel, by decide +kernel⟩
theorem ok_following_by_sums {P : Program} {w : World} {K : PySem.W.Frag} {mg : Str → Option Value} {base : Heap} (B : Bi mg) (c_following : Cal P w K mg base 6 "following" ["orders", "table", "row"] (spFr K p_following)) (c_minus : Cal P w K mg base 1 "minus" ["orders", "member", "other"] (sp K p_minus)) (h : Has K mg "following_by_sums" s_following_by_sums ["orders", "table", "row"]) :
    Cal P w K mg base 7 "following_by_sums" ["orders", "table", "row"] (spFr K p_following_by_sums) := by
  --RAW
  refine has_f h sc_following_by_sums ar_following_by_sums fun f cdv A outer s H E hg hr => ⟨_, (pss_one (ps_ret (pe_lc (own := [("entry", 3)]) (g := (gName 3)) rfl sc_following_by_sums.nd (pi_or (pi_listK K (pg_cal hg c_following hr (by rfl) (pa_cons (pv 0) (pa_cons (pv 1) (pa_cons (pv 2) pa_nil))))) (pi_tupK K (pg_cal hg c_following hr (by rfl) (pa_cons (pv 0) (pa_cons (pv 1) (pa_cons (pv 2) pa_nil)))))) (blkOk_by (N := ["orders", "table", "row", "entry"]) (sc := defScope s_following_by_sums) (own := [("entry", 3)]) (by decide +kernel)) (fun _ _ _ _ _ => pg_name (i := 3) sc_following_by_sums.nd rfl (Or.inl rfl)) (fun _ _ _ _ _ => pts_nil) (fun _ _ _ _ _ => (pg_cal hg c_minus hr (by rfl) (pa_cons (pv 0) (pa_cons pe_int (pa_cons (pv 3) pa_nil)))))))), fun ds ns hp => ?_⟩
  obtain ⟨os, t, row, n, rfl, ho, hn, T, hrow, hd⟩ := hp
  obtain rfl := ints_inj hd
  have n1 := ho.n1 hn
  have e0 : negT os (folT os t row) = (intsD (folT os t row)).map fun e => linR os.reverse [0] [toI e] := by
    unfold negT
    rw [intsD, List.map_map]
    rfl
  have fl : (folT os t row).length ≤ 1000 := by unfold folT; rw [List.length_map]; have := tab_len T; omega
  rw [e0]
  refine dof_ret (evf_lc (it_1 (it_list (evf_call (el_cons (ev_var rfl) (el_cons (ev_var rfl) (el_cons (ev_var rfl) el_nil))) ⟨os, t, row, n, rfl, ho, hn, T, hrow, rfl⟩).ev)) (by show (intsD (folT os t row)).length ≤ _; rw [ints_len]; omega) _ fun e he => ?_)
  obtain ⟨m, hm, rfl⟩ := List.mem_map.mp he
  exact ⟨_, tgw_name, ev_call (el_cons (ev_var rfl) (el_cons ev_int (el_cons (ev_var rfl) el_nil))) ⟨os, _, _, rfl, ho, rfl⟩⟩
theorem sc_is_wish_of : FnScope ["orders", "value", "kind", "row"] ["orders", "value"] (defScope s_is_wish_of) := ⟨rfl, rfl, rfl, by decide +kernel, rfl, by decide +kernel, by decide +kernel⟩
theorem ok_is_wish_of {P : Program} {w : World} {K : PySem.W.Frag} {mg : Str → Option Value} {base : Heap} (B : Bi mg) (c_is_row_of : Cal P w K mg base 4 "is_row_of" ["many", "value"] (sp K p_is_row_of)) (c_size_of : Cal P w K mg base 1 "size_of" ["orders"] (sp K p_size_of)) (g_KINDS : GTup mg K "KINDS" [.str "swap", .str "twin"]) (h : Has K mg "is_wish_of" s_is_wish_of ["orders", "value"]) :
    Cal P w K mg base 5 "is_wish_of" ["orders", "value"] (sp K p_is_wish_of) := by
  refine has_d h sc_is_wish_of ar_is_wish_of fun f cdv A outer s H E hg hr => ⟨_, (pss_cons (ps_if (PW.pt (pw_or (pt_not (pt_val (pe_callB (isiK K) (by rfl) B.isinstance (by decide +kernel) (pa_cons (pv 1) (pa_cons (pe_bltn (v := .ty "tuple") (by rfl) B.tuple (by decide +kernel) rfl) pa_nil))))) (pw_or1 (pt_cmpR (neK K hr) (pe_callB (lenK K) (by rfl) B.len PySem.boot_len (pa_cons (pv 1) pa_nil)) pe_int (nomark _))))) (pss_one (ps_ret pe_bl)) pss_nil)
      (pss_cons (ps_asg (pv 1) (pg_tup rfl (pgs_cons (pg_name (i := 2) sc_is_wish_of.nd rfl (Or.inl rfl)) (pgs_cons (pg_name (i := 3) sc_is_wish_of.nd rfl (Or.inl rfl)) pgs_nil))))
      (pss_one (ps_ret (pe_and (pe_cmpR (inK K) (pv 2) (pe_gtup (by rfl) g_KINDS) (by rfl)) (pe_one (pg_cal hg c_is_row_of hr (by rfl) (pa_cons (pg_cal hg c_size_of hr (by rfl) (pa_cons (pv 0) pa_nil)) (pa_cons (pv 3) pa_nil))))))))), fun ds d hp => ?_⟩
  obtain ⟨os, kind, row, n, rfl, ho, hn, hk, hrow, rfl⟩ := hp
  have n1 := ho.n1 hn
  refine do_seq (M := fun ρ => ρ = [some (.tuple (intsD os)), some (wishD kind row), none, none]) (do_if (b := false) ?_ (fun h => nomatch h) fun _ => do_next rfl) fun ρ' e => ?_
  · refine eb_or (a := false) (eb_not (eb_B (ev_isi (ev_var rfl) (kit_tuple _))) rfl) (fun _ => ?_) (fun h => nomatch h)
    refine eb_test (ev_op (ev_cb (el_cons (ev_var rfl) el_nil) fn_lenT) ev_int (opp_neD (sh_int _) (sh_int _) ?_))
    rw [eqv_int]
    rfl
  subst e
  refine do_seq (M := fun ρ => ρ = [some (.tuple (intsD os)), some (wishD kind row), some (.str kind), some (.list (intsD row))]) (do_asg (ev_var rfl) (tg_tup rfl (tgs_cons tg_name (tgs_cons tg_name tgs_nil))) rfl) fun ρ' e => ?_
  subst e
  refine do_ret (ev_and (a := true) (ev_op (y := .tuple (kinds.map .str)) (ev_var rfl) (ev_gtup fun B => .cons (.str _) (.cons (.str _) .nil)) (opp_inT hk)) (fun _ => ev_call (el_cons (ev_call (el_cons (ev_var rfl) el_nil) ⟨os, rfl, ho, by rw [hn]⟩) (el_cons (ev_var rfl) el_nil)) ⟨n, row, rfl, hrow, by omega, rfl⟩) (fun h => nomatch h)) rfl
theorem sc_wished_next : FnScope ["orders", "table", "wish", "kind", "row"] ["orders", "table", "wish"] (defScope s_wished_next) := ⟨rfl, rfl, rfl, by decide +kernel, rfl, by decide +kernel, by decide +kernel⟩
theorem ok_wished_next {P : Program} {w : World} {K : PySem.W.Frag} {mg : Str → Option Value} {base : Heap} (B : Bi mg) (c_following_by_sums : Cal P w K mg base 7 "following_by_sums" ["orders", "table", "row"] (spFr K p_following_by_sums)) (c_following : Cal P w K mg base 6 "following" ["orders", "table", "row"] (spFr K p_following)) (h : Has K mg "wished_next" s_wished_next ["orders", "table", "wish"]) :
    Cal P w K mg base 8 "wished_next" ["orders", "table", "wish"] (spFr K p_wished_next) := by
  --RAW
  refine has_f h sc_wished_next ar_wished_next fun f cdv A outer s H E hg hr => ⟨_, (pss_cons (ps_asg (pv 2) (pg_tup rfl (pgs_cons (pg_name (i := 3) sc_wished_next.nd rfl (Or.inl rfl)) (pgs_cons (pg_name (i := 4) sc_wished_next.nd rfl (Or.inl rfl)) pgs_nil))))
      (pss_cons (ps_if (pt_cmpR (eqK K hr) (pv 3) pe_str (nomark _)) (pss_one (ps_ret (pg_cal hg c_following hr (by rfl) (pa_cons (pv 0) (pa_cons (pv 1) (pa_cons (pv 4) pa_nil)))))) pss_nil)
      (pss_one (ps_ret (pg_cal hg c_following_by_sums hr (by rfl) (pa_cons (pv 0) (pa_cons (pv 1) (pa_cons (pv 4) pa_nil)))))))), fun ds ns hp => ?_⟩
  obtain ⟨os, t, kind, row, n, rfl, ho, hn, T, hk, hrow, hd⟩ := hp
  obtain rfl := ints_inj hd
  refine dof_asg (d := wishD kind row) (by exact ev_var rfl) (by exact tg_tup rfl (tgs_cons tg_name (tgs_cons tg_name tgs_nil))) ?_
  have hsh : ∀ c : Str, c ∈ kinds → SeqAt.shaped (.str c) = true := fun c hc => by
    have : ∀ c ∈ kinds, SeqAt.shaped (.str c) = true := by
      intro c hc
      rcases List.mem_cons.mp hc with rfl | hc
      · exact sh_str (by decide +kernel)
      · have : c = "twin" := by simpa using hc
        rw [this]
        exact sh_str (by decide +kernel)
    exact this c hc
  refine dof_if (b := decide (kind = "swap")) (eb_test (ev_op (ev_var rfl) ev_str (opp_eqD (hsh _ hk) (sh_str (by decide +kernel)) ?_))) (fun hb => ?_) (fun hb => ?_)
  · simp [PyData.eqv]
    try rfl
  · have e : wnT os t kind row = folT os t row := if_pos (of_decide_eq_true hb)
    rw [e]
    exact dof_ret (evf_call (el_cons (ev_var rfl) (el_cons (ev_var rfl) (el_cons (ev_var rfl) el_nil))) ⟨os, t, row, n, rfl, ho, hn, T, hrow, rfl⟩)
  · have e : wnT os t kind row = negT os (folT os t row) := if_neg (of_decide_eq_false hb)
    rw [e]
    exact dof_ret (evf_call (el_cons (ev_var rfl) (el_cons (ev_var rfl) (el_cons (ev_var rfl) el_nil))) ⟨os, t, row, n, rfl, ho, hn, T, hrow, rfl⟩)
theorem sc_check_member : FnScope ["orders", "member"] ["orders", "member"] (defScope s_check_member) := ⟨rfl, rfl, rfl, by decide +kernel, rfl, by decide +kernel, by decide +kernel⟩
theorem ok_check_member {P : Program} {w : World} {K : PySem.W.Frag} {mg : Str → Option Value} {base : Heap} (B : Bi mg) (c_is_below : Cal P w K mg base 2 "is_below" ["value", "many"] (sp K p_is_below)) (c_size_of : Cal P w K mg base 1 "size_of" ["orders"] (sp K p_size_of)) (h : Has K mg "check_member" s_check_member ["orders", "member"]) :
    Cal P w K mg base 3 "check_member" ["orders", "member"] (sp K p_check_member) := by
  refine has_d h sc_check_member ar_check_member fun f cdv A outer s H E hg hr => ⟨_, (pss_one (ps_if (pt_not (pt_val (pg_cal hg c_is_below hr (by rfl) (pa_cons (pv 1) (pa_cons (pg_cal hg c_size_of hr (by rfl) (pa_cons (pv 0) pa_nil)) pa_nil))))) (pss_one ps_never) pss_nil)), fun ds d hp => ?_⟩
  obtain ⟨os, m, rfl, ho, h0, h1, rfl⟩ := hp
  refine do_if (b := false) (eb_not (a := true) (eb_B (ev_call (el_cons (ev_var rfl) (el_cons (ev_call (el_cons (ev_var rfl) el_nil) ⟨os, rfl, ho, rfl⟩) el_nil)) ⟨_, _, rfl, ?_⟩)) rfl) (fun h => nomatch h) fun _ => do_next rfl
  show PyData.bool true = .bool (decide (0 ≤ m) && decide (m < prodI os))
  rw [decide_eq_true h0, decide_eq_true h1]
  rfl
end K22
end
section
set_option maxRecDepth 100000
set_option maxHeartbeats 4000000
namespace C
open PySem PySem.Spec PyProof.Rows L2 G Lin
theorem nm_go {i : Nat} {x : V} {σ : L2.St} {H : Hp} {k : L2.St → Hp → Prop} (h : k (σ.set i (some x)) H) : gName i x σ H k := h
theorem gr_side {B H H' : Hp} (s : Same B H) (k : Same H H') : Gr B H B H' := ⟨k, Same.refl _, s.trans k, fun a o e n => by rw [n] at e; cases e⟩
theorem ev_idx {K : PySem.W.Frag} {ρ : Rho} {ta tb : TE} {ns : List Int} {x : Int} (h : Ev K ta ρ (.list (ns.map .int))) (hx : Ev K tb ρ (.int x)) (hm : x ∈ ns) :
    Ev K (tBM K "list" (rIndex K) ta (tCons tb tNil)) ρ (.int (ns.idxOf x : Nat)) := fun σ B H e s Q q =>
  h σ B H e s _ fun v B1 H1 g hv => by
    cases hv with
    | lst h1 a =>
      obtain rfl := daInts a
      have l := List.idxOf_lt_length_iff.mpr hm
      have hj : ns[ns.idxOf x]? = some x := by
        rw [List.getElem?_eq_getElem l]
        congr 1
        exact List.getElem_idxOf l
      refine ⟨.inl ⟨rfl, _, .of (g.sub _ _ h1)⟩, hx σ B1 H1 (e.mono g.bb) g.sub _ fun u B2 H2 g2 hu => ?_⟩
      cases hu
      refine ⟨_, ns.map .int, .int x, ns.idxOf x, .int x, rfl, rfl, .of ((g2.ex _ _ (g.sub _ _ h1))), rfl, flat_ints ns, by rw [List.getElem?_map, hj]; rfl, by simp [eqV], fun m z hm2 hz => ?_, q _ B2 H2 (g.trans g2) (.int _)⟩
      rw [List.getElem?_map] at hz
      cases e1 : ns[m]? with
      | none => rw [e1] at hz; cases hz
      | some y =>
        rw [e1] at hz
        cases hz
        have ne : y ≠ x := fun e2 => by
          subst e2
          obtain ⟨l1, w1⟩ := List.getElem?_eq_some_iff.mp e1
          have := List.not_of_lt_findIdx (xs := ns) (p := (· == y)) (i := m) (by exact hm2)
          rw [w1] at this
          simp at this
        simp [eqV, ne]
def wtF (last p : Int) : PyData → Bool
  | .tuple [.int m, .int one] => decide (one = last) && decide (m ≠ p)
  | _ => false
def wtK : PyData → Int
  | .tuple [.int m, .int _] => m
  | _ => 0
theorem enum_eq (D : List Int) : enumD (intsD D) = (rgI D.length).map fun m => .tuple [.int m, .int (bv D m)] := by
  refine List.ext_getElem? fun i => ?_
  by_cases hi : i < D.length
  · have h : D[i]? = some (D[i]) := List.getElem?_eq_getElem hi
    rw [enum_at h, List.getElem?_map, rg_at hi]
    have k : At D (i : Int) D[i] := by unfold At; rw [Int.toNat_natCast]; exact h
    show _ = some (PyData.tuple [.int (i : Int), .int (bv D (i : Int))])
    rw [k.bv]
  · rw [List.getElem?_eq_none (by rw [enum_len]; omega), List.getElem?_eq_none (by rw [List.length_map, rg_len]; omega)]
theorem wt_eq (D : List Int) (last p : Int) : ((enumD (intsD D)).filter (wtF last p)).map wtK = wtL D last p := by
  rw [enum_eq, List.filter_map, List.map_map]
  unfold wtL
  have e : (wtK ∘ fun m => PyData.tuple [.int m, .int (bv D m)]) = id := by funext m; rfl
  rw [e, List.map_id]
  rfl
theorem wt_first {l : List Int} (h : l ≠ []) : (intsD l)[0]? = some (.int (l.headD 0)) := by
  cases l with
  | nil => exact absurd rfl h
  | cons a t => rfl
theorem int_eqv {i j : Int} : PyData.eqv (.int i) (.int j) = decide (i = j) := by rw [eqv_int]; by_cases c : i = j <;> simp [c]
theorem oth_get {F : List Int} {v : Int} (h : 0 < (F.erase v).length) : (intsD (F.erase v))[0]? = some (.int (othF F v)) := by
  unfold othF
  exact wt_first (List.length_pos_iff.mp h)
theorem erase_idx {F : List Int} {v : Int} : F.eraseIdx (F.idxOf v) = F.erase v := (List.erase_eq_eraseIdx_of_idxOf rfl).symm
theorem evq_eq {K : PySem.W.Frag} {ρ : Rho} {te : TE} {a b : List (List Int)} (h : EvQ K (NestQ a) te ρ) (e : a = b) : EvQ K (NestQ b) te ρ := e ▸ h
theorem eb_and2 {K : PySem.W.Frag} {ρ : Rho} {t u : TT} {a b : Bool} (h1 : EvB K t ρ a) (h2 : EvB K u ρ b) : EvB K (tAnd t u) ρ (a && b) :=
  eb_and h1 (fun ha => by rw [ha, Bool.true_and]; exact h2) (fun ha => by rw [ha]; rfl)
end C
end
section
set_option maxRecDepth 100000
set_option maxHeartbeats 4000000
namespace K22
open PySem PySem.Spec PyProof.Rows L2 G Lin C
local macro_rules | `(tactic| walk_at "ev") => `(tactic| first
  | exact ev_var rfl | exact ev_int | exact ev_bl | exact ev_non | exact ev_str
  | (apply ev_op; (focus walk_at "ev"); (focus walk_at "ev"); (focus walk_at "op"))
  | (apply ev_cb; (focus walk_at "el"); (focus walk_at "fn"))
  | (apply ev_lst; (focus walk_at "el"); (show _ ≤ sizeLine; decide))
  | (apply ev_tup; (focus walk_at "el"); (show _ ≤ sizeLine; decide)))
local macro_rules | `(tactic| walk_at "el") => `(tactic| first
  | exact el_nil
  | (apply el_cons; (focus walk_at "ev"); (focus walk_at "el")))
local macro_rules | `(tactic| walk_at "fn") => `(tactic| first
  | exact fn_int | exact fn_len | exact fn_all | exact fn_listL | exact fn_listT)
local macro_rules | `(tactic| walk_at "op") => `(tactic| first
  | exact op_I0 (fun _ => .int _) | exact op_I0 (fun _ => .bl _) | exact opp_1 (op_I0 fun _ => .int _)
  | exact op_I (by show (_ : Int) ≠ 0; decide) (fun _ => .int _)
  | exact op_I (by assumption) (fun _ => .int _)
  | exact opp_1 (op_I (by assumption) fun _ => .int _)
  | exact opp_1 (opp_ixL (i := 0) rfl) | exact opp_2 (opp_ixT (i := 0) rfl) | exact opp_2 (opp_ixT (i := 1) rfl) | exact opp_2 (opp_ixT (i := 2) rfl))
theorem sc_walk : FnScope ["orders", "bearing", "old", "last", "new", "told", "taker", "waiter", "bearers", "free", "wanted", "loser", "member", "one"] ["orders", "bearing", "old", "last", "new"] (defScope s_walk) := ⟨rfl, rfl, rfl, by decide +kernel, rfl, by decide +kernel, by decide +kernel⟩
theorem ok_walk {P : Program} {w : World} {K : PySem.W.Frag} {mg : Str → Option Value} {base : Heap} (B : Bi mg) (c_plus : Cal P w K mg base 1 "plus" ["orders", "member", "other"] (sp K p_plus)) (c_minus : Cal P w K mg base 1 "minus" ["orders", "member", "other"] (sp K p_minus)) (c_turned_round : Cal P w K mg base 1 "turned_round" ["table"] (spFr K p_turned_round)) (c_minuses : Cal P w K mg base 2 "minuses" ["orders", "first", "second"] (spFr K p_minuses)) (h : Has K mg "walk" s_walk ["orders", "bearing", "old", "last", "new"]) :
    Cal P w K mg base 3 "walk" ["orders", "bearing", "old", "last", "new"] (spFr K p_walk) := by
  --RAW
  refine has_f h sc_walk ar_walk fun f cdv A outer s H E hg hr => ⟨_, (pss_cons (ps_set (i := 1) sc_walk.nd rfl (Or.inl rfl) (pe_callTy (listK K) (by rfl) B.list (by decide +kernel) (pa_cons (pv 1) pa_nil)))
      (pss_cons (ps_set (i := 5) sc_walk.nd rfl (Or.inl rfl) (pg_cal hg c_minuses hr (by rfl) (pa_cons (pv 0) (pa_cons (pv 1) (pa_cons (pe_listRg rfl (by rfl) B.list (prg_1 (by rfl) B.range (pe_callB (lenK K) (by rfl) B.len PySem.boot_len (pa_cons (pv 1) pa_nil)))) pa_nil)))))
      (pss_cons (ps_set (i := 6) sc_walk.nd rfl (Or.inr rfl) (bmK K PySem.F.plainAttrs_list PySem.F.slot_list_index PySem.F.type_list_index (indexK K) (pv 5) (pa_cons (pv 2) pa_nil)))
      (pss_cons (ps_set (i := 7) sc_walk.nd rfl (Or.inl rfl) (pe_ix (ixK K) (pe_lc (own := [("member", 12), ("one", 13)]) (g := (gTup K 2 (gCons (gName 12) (gCons (gName 13) gNil)))) rfl sc_walk.nd (pi_enum (by rfl) B.enumerate (pa_cons (pv 5) pa_nil)) (blkOk_by (N := ["orders", "bearing", "old", "last", "new", "told", "taker", "waiter", "bearers", "free", "wanted", "loser", "member", "one"]) (sc := defScope s_walk) (own := [("member", 12), ("one", 13)]) (by decide +kernel)) (fun _ _ _ _ _ => pg_tup rfl (pgs_cons (pg_name (i := 12) sc_walk.nd rfl (Or.inl rfl)) (pgs_cons (pg_name (i := 13) sc_walk.nd rfl (Or.inl rfl)) pgs_nil))) (fun _ _ _ _ _ => pts_one (PW.pt (pw_and (pt_cmpR (eqK K hr) (pv 13) (pv 3) (nomark _)) (pw_and1 (pt_cmpR (neK K hr) (pv 12) (pv 6) (nomark _)))))) (fun _ _ _ _ _ => (pv 12))) pe_int (fun _ _ => rfl)))
      (pss_cons (ps_set (i := 8) sc_walk.nd rfl (Or.inl rfl) (pg_cal hg c_turned_round hr (by rfl) (pa_cons (pv 1) pa_nil)))
      (pss_cons (ps_set (i := 9) sc_walk.nd rfl (Or.inl rfl) (pe_lst (pa_cons (pe_ix (ixK K) (pv 1) (pv 6) (fun _ _ => rfl)) (pa_cons (pe_ix (ixK K) (pv 1) (pv 7) (fun _ _ => rfl)) pa_nil))))
      (pss_cons (ps_set (i := 10) sc_walk.nd rfl (Or.inl rfl) (pg_cal hg c_plus hr (by rfl) (pa_cons (pv 0) (pa_cons (pv 6) (pa_cons (pv 4) pa_nil)))))
      (pss_cons (ps_while PassesOwn.never (pt_cmpR (ninK K) (pv 10) (pv 9) (by rfl)) (pss_cons (ps_set (i := 11) sc_walk.nd rfl (Or.inl rfl) (pe_ix (ixK K) (pv 8) (pv 10) (fun _ _ => rfl)))
      (pss_cons (ps_asg (pe_tup (pa_cons (pv 10) (pa_cons (pv 6) pa_nil))) (pg_tup rfl (pgs_cons (pg_sub (pv 1) (pv 6) set_list) (pgs_cons (pg_sub (pv 8) (pv 10) set_list) pgs_nil))))
      (pss_one (ps_asg (pe_tup (pa_cons (pv 7) (pa_cons (pg_cal hg c_plus hr (by rfl) (pa_cons (pv 0) (pa_cons (pv 7) (pa_cons (pg_cal hg c_minus hr (by rfl) (pa_cons (pv 0) (pa_cons (pv 10) (pa_cons (pv 11) pa_nil)))) pa_nil)))) (pa_cons (pv 11) pa_nil)))) (pg_tup rfl (pgs_cons (pg_name (i := 6) sc_walk.nd rfl (Or.inr rfl)) (pgs_cons (pg_name (i := 10) sc_walk.nd rfl (Or.inl rfl)) (pgs_cons (pg_name (i := 7) sc_walk.nd rfl (Or.inl rfl)) pgs_nil)))))))))
      (pss_cons (ps_expr (pe_bm PySem.F.plainAttrs_list PySem.F.slot_list_remove PySem.F.type_list_remove mt_remove (pv 9) (pa_cons (pv 10) pa_nil)))
      (pss_cons (ps_asg (pe_tup (pa_cons (pv 10) (pa_cons (pe_ix (ixK K) (pv 9) pe_int (fun _ _ => rfl)) pa_nil))) (pg_tup rfl (pgs_cons (pg_sub (pv 1) (pv 6) set_list) (pgs_cons (pg_sub (pv 1) (pv 7) set_list) pgs_nil))))
      (pss_one (ps_ret (pv 1))))))))))))), fun ds ns hp => ?_⟩
  obtain ⟨os, c, old, last, new, n, rfl, ho, hn, T, n0, n1, can, hd⟩ := hp
  obtain rfl := ints_inj hd
  have nb := ho.n1 hn
  have cl := tab_len T
  have hN : prodR os.reverse = n := by rw [ho.n]; exact hn
  obtain ⟨tk1, tk2, tk3⟩ := can.tk
  obtain ⟨wt0, wt1, wt2, wt3⟩ := can.wt
  have hDl : (dl os.reverse c).length = n := by rw [dl_len]; exact cl
  generalize hD : dl os.reverse c = D at *
  have hwt : wtr os.reverse c old last = (wtL D last (tkr os.reverse c old : Nat)).headD 0 := by unfold wtr; rw [hD]
  have hcl : wtL D last (tkr os.reverse c old : Nat) ≠ [] := by rw [← hD]; exact can.l
  have hold : old ∈ D := by rw [← hD]; exact can.o
  have htk : D.idxOf old = tkr os.reverse c old := by rw [← hD]; rfl
  generalize hp : tkr os.reverse c old = p at *
  generalize hq : wtr os.reverse c old last = qq at *
  have ap := at_bv (b := c) (m := (p : Int)) cl (by omega) (by omega)
  have aq := at_bv (b := c) (m := qq) cl wt0 (by omega)
  have hw0 := WInv.start (new := new) ho.pos hN T (p := (p : Int)) (q := qq) (by omega) (by omega) wt0 (by omega) (fun e => wt3 e.symm) ap aq
  have htarget : C.walkT os c old last new = walkL os.reverse [bv c (p : Int), bv c qq] (n - 1) c (invT c) (p : Int) qq (linR os.reverse [(p : Int), new] []) := by unfold C.walkT; rw [hp, hq, cl]
  intro σ B H D0 e s q
  obtain ⟨ov, l0, d0⟩ := e.look 0 _ rfl
  obtain ⟨v2, l2, d2⟩ := e.look 2 _ rfl
  obtain ⟨v3, l3, d3⟩ := e.look 3 _ rfl
  obtain ⟨v4, l4, d4⟩ := e.look 4 _ rfl
  cases d2
  cases d3
  cases d4
  refine seq_go (asg_go (evf_list (ev_var rfl) σ B H e s _ fun rb B1 H1 g1 _ hHb hb1 => nm_go ?_))
  dsimp only
  match σ, e.len, l0, l2, l3, l4 with
  | [_, x1, _, _, _, x5, x6, x7, x8, x9, x10, x11, x12, x13], _, rfl, rfl, rfl, rfl =>
    have k1 : Same H H1 := g1.ex
    have s1 : Same B H1 := s.trans k1
    have nB : ∀ {x : Addr}, H x = none → B x = none := fun h => s.free h
    clear g1 e
    -- told
    have hS1 : ∀ x ∈ [rb], B x = none := fun x hx => by rw [List.mem_singleton.mp hx]; exact nB hHb
    have e1 : EnvOk K (lend B H1 [rb]) [some ov, some (.ref rb), some (.int old), some (.int last), some (.int new), x5, x6, x7, x8, x9, x10, x11, x12, x13] [some (.tuple (intsD os)), some (.list (intsD c)), some (.int old), some (.int last), some (.int new), none, none, none, none, none, none, none, none, none] :=
      env_s (lent_da hS1 d0) (env_s (own_da (List.mem_singleton.mpr rfl) hb1) (env_s (.int _) (env_s (.int _) (env_s (.int _) (env_n _ (env_n _ (env_n _ (env_n _ (env_n _ (env_n _ (env_n _ (env_n _ (env_n _ env_nil)))))))))))))
    refine seq_go (asg_go (ow_fr (ns := D) (evf_call (el_cons (ev_var rfl) (el_cons (ev_var rfl) (el_cons (ev_listRg (n := n) (by rw [← cl, ← ints_len c]; exact ev_cb (el_cons (ev_var rfl) el_nil) fn_len) (by omega)) el_nil))) ⟨os, c, rgI n, by rw [rg_eq], ho, by rw [cl, rg_len], by omega, by rw [sub_dl cl, hD]⟩) e1 s1 fun rt H2 k2 ht2 hrt => nm_go ?_))
    dsimp only
    have s2 := s1.trans k2
    have ntb : rt ≠ rb := fun z => by rw [z, hb1] at ht2; cases ht2
    have hHt : H rt = none := k1.free ht2
    have hb2 : H2 rb = some (.lst (c.map .int)) := k2 _ _ hb1
    have hS2 : ∀ x ∈ [rb, rt], B x = none := fun x hx => by
      rcases List.mem_cons.mp hx with rfl | hx
      · exact nB hHb
      · rw [List.mem_singleton.mp hx]; exact nB hHt
    have e2 : EnvOk K (lend B H2 [rb, rt]) [some ov, some (.ref rb), some (.int old), some (.int last), some (.int new), some (.ref rt), x6, x7, x8, x9, x10, x11, x12, x13] [some (.tuple (intsD os)), some (.list (intsD c)), some (.int old), some (.int last), some (.int new), some (.list (intsD D)), none, none, none, none, none, none, none, none] :=
      env_s (lent_da hS2 d0) (env_s (own_da (by simp) hb2) (env_s (.int _) (env_s (.int _) (env_s (.int _) (env_s (own_da (by simp) hrt) (env_n _ (env_n _ (env_n _ (env_n _ (env_n _ (env_n _ (env_n _ (env_n _ env_nil)))))))))))))
    refine seq_go (asg_go (ow_int (z := (p : Int)) (by have z := ev_idx (K := K) (ta := tVar 5) (tb := tVar 2) (ρ := [some (.tuple (intsD os)), some (.list (intsD c)), some (.int old), some (.int last), some (.int new), some (.list (intsD D)), none, none, none, none, none, none, none, none]) (ns := D) (x := old) (ev_var rfl) (ev_var rfl) hold; rw [htk] at z; exact z) e2 s2 fun H3 k3 => nm_go ?_))
    dsimp only
    have s3 := s2.trans k3
    have hb3 : H3 rb = some (.lst (c.map .int)) := k3 _ _ hb2
    have ht3 : H3 rt = some (.lst (D.map .int)) := k3 _ _ hrt
    have e3 : EnvOk K (lend B H3 [rb, rt]) [some ov, some (.ref rb), some (.int old), some (.int last), some (.int new), some (.ref rt), some (.int (p : Int)), x7, x8, x9, x10, x11, x12, x13] [some (.tuple (intsD os)), some (.list (intsD c)), some (.int old), some (.int last), some (.int new), some (.list (intsD D)), some (.int (p : Int)), none, none, none, none, none, none, none] :=
      env_s (lent_da hS2 d0) (env_s (own_da (by simp) hb3) (env_s (.int _) (env_s (.int _) (env_s (.int _) (env_s (own_da (by simp) ht3) (env_s (.int _) (env_n _ (env_n _ (env_n _ (env_n _ (env_n _ (env_n _ (env_n _ env_nil)))))))))))))
    refine seq_go (asg_go (ow_int (z := qq) (ev_op (x := .list (intsD (wtL D last (p : Int)))) (y := .int 0) (EvF.ev (ns := wtL D last (p : Int)) ?_) ev_int (opp_1 (opp_ixL (i := 0) (by rw [hwt]; exact wt_first hcl)))) e3 s3 fun H4 k4 => nm_go ?_))
    · rw [← wt_eq]
      refine evf_lcf (it_enum (el_cons (ev_var rfl) el_nil)) (by rw [enum_len, hDl]; omega) (wtF last (p : Int)) wtK fun el he => ?_
      rw [enum_eq] at he
      obtain ⟨m, _, rfl⟩ := List.mem_map.mp he
      refine ⟨_, tgw_pair (by decide), ?_, fun _ => ev_var rfl⟩
      exact eb_and2 (a := decide (bv D m = last)) (b := decide (m ≠ (p : Int))) (eb_test (ev_op (ev_var rfl) (ev_var rfl) (opp_eqD (sh_int _) (sh_int _) (by rw [int_eqv])))) (eb_test (ev_op (ev_var rfl) (ev_var rfl) (opp_neD (sh_int _) (sh_int _) (by rw [int_eqv]; by_cases c : m = (p : Int) <;> simp [c]))))
    dsimp only
    have s4 := s3.trans k4
    have hb4 : H4 rb = some (.lst (c.map .int)) := k4 _ _ hb3
    have e4 : EnvOk K (lend B H4 [rb, rt]) [some ov, some (.ref rb), some (.int old), some (.int last), some (.int new), some (.ref rt), some (.int (p : Int)), some (.int qq), x8, x9, x10, x11, x12, x13] [some (.tuple (intsD os)), some (.list (intsD c)), some (.int old), some (.int last), some (.int new), none, some (.int (p : Int)), some (.int qq), none, none, none, none, none, none] :=
      env_s (lent_da hS2 d0) (env_s (own_da (by simp) hb4) (env_s (.int _) (env_s (.int _) (env_s (.int _) (env_n _ (env_s (.int _) (env_s (.int _) (env_n _ (env_n _ (env_n _ (env_n _ (env_n _ (env_n _ env_nil)))))))))))))
    refine seq_go (asg_go (ow_fr (ns := invT c) (evf_call (el_cons (ev_var rfl) el_nil) ⟨c, n, rfl, T, by omega, rfl⟩) e4 s4 fun ri H5 k5 hi5 hri => nm_go ?_))
    dsimp only
    have s5 := s4.trans k5
    have hb5 : H5 rb = some (.lst (c.map .int)) := k5 _ _ hb4
    have hHi : H ri = none := (((k1.trans k2).trans k3).trans k4).free hi5
    have nib : ri ≠ rb := fun z => by rw [z, hb4] at hi5; cases hi5
    have hS5 : ∀ x ∈ [rb, ri], B x = none := fun x hx => by
      rcases List.mem_cons.mp hx with rfl | hx
      · exact nB hHb
      · rw [List.mem_singleton.mp hx]; exact nB hHi
    have e5 : EnvOk K (lend B H5 [rb, ri]) [some ov, some (.ref rb), some (.int old), some (.int last), some (.int new), some (.ref rt), some (.int (p : Int)), some (.int qq), some (.ref ri), x9, x10, x11, x12, x13] [some (.tuple (intsD os)), some (.list (intsD c)), some (.int old), some (.int last), some (.int new), none, some (.int (p : Int)), some (.int qq), some (.list (intsD (invT c))), none, none, none, none, none] :=
      env_s (lent_da hS5 d0) (env_s (own_da (by simp) hb5) (env_s (.int _) (env_s (.int _) (env_s (.int _) (env_n _ (env_s (.int _) (env_s (.int _) (env_s (own_da (by simp) hri) (env_n _ (env_n _ (env_n _ (env_n _ (env_n _ env_nil)))))))))))))
    have eqq : ((qq.toNat : Nat) : Int) = qq := Int.toNat_of_nonneg wt0
    refine seq_go (asg_go (ow_fr (ns := [bv c (p : Int), bv c qq]) (evf_lst2 (ev_op (ev_var rfl) (ev_var rfl) (opp_1 (opp_ixL (i := p) (by have z := get_at ap; rw [Int.toNat_natCast] at z; exact z)))) (ev_op (ev_var rfl) (y := .int ((qq.toNat : Nat) : Int)) (by rw [eqq]; exact ev_var rfl) (opp_1 (opp_ixL (get_at aq))))) e5 s5 fun rf H6 k6 hf6 hrf => nm_go ?_))
    dsimp only
    have s6 := s5.trans k6
    have hb6 : H6 rb = some (.lst (c.map .int)) := k6 _ _ hb5
    have hi6 : H6 ri = some (.lst ((invT c).map .int)) := k6 _ _ hri
    have k06 : Same H H6 := ((((k1.trans k2).trans k3).trans k4).trans k5).trans k6
    have hHf : H rf = none := ((((k1.trans k2).trans k3).trans k4).trans k5).free hf6
    have nfb : rf ≠ rb := fun z => by rw [z, hb5] at hf6; cases hf6
    have nfi : rf ≠ ri := fun z => by rw [z, hri] at hf6; cases hf6
    have hS : ∀ x ∈ [rb, ri, rf], B x = none := fun x hx => by
      rcases List.mem_cons.mp hx with rfl | hx
      · exact nB hHb
      rcases List.mem_cons.mp hx with rfl | hx
      · exact nB hHi
      · rw [List.mem_singleton.mp hx]; exact nB hHf
    have env : ∀ {H' : Hp} {b br F : List Int} {z5 z11 z12 z13 : Option V} {t w v : Int}, H' rb = some (.lst (b.map .int)) → H' ri = some (.lst (br.map .int)) → H' rf = some (.lst (F.map .int)) →
        EnvOk K (lend B H' [rb, ri, rf]) [some ov, some (.ref rb), some (.int old), some (.int last), some (.int new), z5, some (.int t), some (.int w), some (.ref ri), some (.ref rf), some (.int v), z11, z12, z13] [some (.tuple (intsD os)), some (.list (intsD b)), some (.int old), some (.int last), some (.int new), none, some (.int t), some (.int w), some (.list (intsD br)), some (.list (intsD F)), some (.int v), none, none, none] := fun h1 h2 h3 =>
      env_s (lent_da hS d0) (env_s (own_da (by simp) h1) (env_s (.int _) (env_s (.int _) (env_s (.int _) (env_n _ (env_s (.int _) (env_s (.int _) (env_s (own_da (by simp) h2) (env_s (own_da (by simp) h3) (env_s (.int _) (env_n _ (env_n _ (env_n _ env_nil)))))))))))))
    have e6 : EnvOk K (lend B H6 [rb, ri, rf]) [some ov, some (.ref rb), some (.int old), some (.int last), some (.int new), some (.ref rt), some (.int (p : Int)), some (.int qq), some (.ref ri), some (.ref rf), x10, x11, x12, x13] [some (.tuple (intsD os)), some (.list (intsD c)), some (.int old), some (.int last), some (.int new), none, some (.int (p : Int)), some (.int qq), some (.list (intsD (invT c))), some (.list (intsD [bv c (p : Int), bv c qq])), none, none, none, none] :=
      env_s (lent_da hS d0) (env_s (own_da (by simp) hb6) (env_s (.int _) (env_s (.int _) (env_s (.int _) (env_n _ (env_s (.int _) (env_s (.int _) (env_s (own_da (by simp) hi6) (env_s (own_da (by simp) hrf) (env_n _ (env_n _ (env_n _ (env_n _ env_nil)))))))))))))
    refine seq_go (asg_go (ow_int (z := linR os.reverse [(p : Int), new] []) (ev_call (el_cons (ev_var rfl) (el_cons (ev_var rfl) (el_cons (ev_var rfl) el_nil))) ⟨os, _, _, rfl, ho, rfl⟩) e6 s6 fun H7 k7 => nm_go ?_))
    dsimp only
    generalize hF : [bv c (p : Int), bv c qq] = F at *
    have f12 : bv c (p : Int) ≠ bv c qq := fun z => by
      rw [z] at ap
      exact wt3 (at_inj T wt0 (by omega) aq ap)
    refine seq_go ?_
    refine ⟨fun m σ' H' => ∃ (b br L : List Int) (t w v : Int) (z11 : Option V), σ' = [some ov, some (.ref rb), some (.int old), some (.int last), some (.int new), some (.ref rt), some (.int t), some (.int w), some (.ref ri), some (.ref rf), some (.int v), z11, x12, x13] ∧ Same H H' ∧ H' rb = some (.lst (b.map .int)) ∧ H' ri = some (.lst (br.map .int)) ∧ H' rf = some (.lst (F.map .int)) ∧
      WInv os.reverse n c F (p : Int) qq new b br t w v L ∧ m = n - L.length ∧ walkL os.reverse F (m + 1) b br t w v = C.walkT os c old last new, ⟨n - 2, c, invT c, [(p : Int), qq], _, _, _, x11, rfl, k06.trans k7, k7 _ _ hb6, k7 _ _ hi6, k7 _ _ hrf, hw0, rfl, by rw [htarget, show n - 2 + 1 = n - 1 by omega]⟩, ?_⟩
    rintro m σ' H' ⟨b, br, L, t, w, v, z11, rfl, kH, hb, hbr, hf, hW, hm, hT⟩
    obtain ⟨tL, wL, tw⟩ := hW.ts
    obtain ⟨t0, t1⟩ := hW.mem t tL
    obtain ⟨w0, w1⟩ := hW.mem w wL
    obtain ⟨v0, v1⟩ := hW.vr ho.pos hN
    have sH := s.trans kH
    refine ow_t (b := decide (v ∉ F)) (eb_test (ev_op (ev_var rfl) (ev_var rfl) opp_ninI)) (env hb hbr hf) sH fun H8 k8 => ?_
    have kH8 := kH.trans k8
    have s8 := s.trans kH8
    have hb8 := k8 _ _ hb
    have hbr8 := k8 _ _ hbr
    have hf8 := k8 _ _ hf
    have bl := hW.lb
    have brl := hW.lr
    by_cases hv : v ∈ F
    · rw [decide_eq_false (fun z => z hv)]
      refine iteF ?_
      dsimp only
      have li := List.idxOf_lt_length_iff.mpr hv
      have gi : F[F.idxOf v]? = some v := by
        rw [List.getElem?_eq_getElem li]
        congr 1
        exact List.getElem_idxOf li
      have hT' : (b.set t.toNat v).set w.toNat (othF F v) = C.walkT os c old last new := by
        rw [walkL, if_pos hv] at hT
        exact hT
      have fl2 : 0 < (F.erase v).length := by
        rw [List.length_erase_of_mem hv, ← hF]
        exact Nat.one_pos
      refine seq_go ⟨_, rfl, .inl ⟨rfl, _, .of hf8⟩, _, rfl, rf, F, v, F.idxOf v, rfl, rfl, hf8, gi, fun m hm hz => ?_, ?_⟩
      · have := List.not_of_lt_findIdx (xs := F) (p := (· == v)) (i := m) (by exact hm)
        obtain ⟨l1, w1⟩ := List.getElem?_eq_some_iff.mp hz
        rw [w1] at this
        simp at this
      dsimp only
      rw [erase_idx]
      have kH9 : Same H (upd H8 rf (.lst ((F.erase v).map .int))) := fun x o e => by
        rw [upd_ne (ne_of_none e hHf)]
        exact kH8 _ _ e
      have hb9 : upd H8 rf (.lst ((F.erase v).map .int)) rb = some (.lst (b.map .int)) := by rw [upd_ne (Ne.symm nfb)]; exact hb8
      have hbr9 : upd H8 rf (.lst ((F.erase v).map .int)) ri = some (.lst (br.map .int)) := by rw [upd_ne (Ne.symm nfi)]; exact hbr8
      have hf9 : upd H8 rf (.lst ((F.erase v).map .int)) rf = some (.lst ((F.erase v).map .int)) := upd_same
      generalize upd H8 rf (.lst ((F.erase v).map .int)) = H9 at *
      refine seq_go (asg_go ⟨_, rfl, ow_int (z := othF F v) (ev_op (ev_var (i := 9) rfl) ev_int (opp_1 (opp_ixL (i := 0) (oth_get fl2)))) (env hb9 hbr9 hf9) (s.trans kH9) fun H10 k10 => ⟨by show 2 ≤ sizeLine; decide, fun tp htp => ?_⟩⟩)
      have hb10 := k10 _ _ hb9
      have ntb2 : rb ≠ tp := fun z => by rw [z] at hb10; rw [hb10] at htp; cases htp
      have kH10 := kH9.trans k10
      refine ⟨tp, _, rfl, .of upd_same, rfl, _, _, rfl, _, rfl, _, rfl, rb, b.map .int, t, t.toNat, rfl, rfl, by rw [upd_ne ntb2]; exact hb10, ?_, _, _, rfl, _, rfl, _, rfl, rb, (b.map .int).set t.toNat (.int v), w, w.toNat, rfl, rfl, upd_same, ?_, rfl, ?_⟩
      · rw [← Int.toNat_of_nonneg t0]
        exact ix_nat (by rw [List.length_map]; omega)
      · rw [← Int.toNat_of_nonneg w0]
        exact ix_nat (by rw [List.length_set, List.length_map]; omega)
      dsimp only
      refine ret_go ⟨_, rfl, q rb B _ (gr_side s fun x o e => ?_) (nB hHb) hHb ?_⟩
      · rw [upd_ne (ne_of_none e hHb), upd_ne (ne_of_none e hHb), upd_ne (ne_of_none (kH10 _ _ e) htp)]
        exact kH10 _ _ e
      · rw [upd_same, ← hT', List.map_set, List.map_set]
    · rw [decide_eq_true hv]
      refine iteT ?_
      obtain ⟨j, hj, j0, j1, hW2⟩ := hW.step ho.pos hN hv
      have fw := hW2.few
      rw [List.length_append, List.length_singleton] at fw
      have ej : bv br v = j := hj.bv
      have hT' : walkL os.reverse F m (b.set t.toNat v) (br.set v.toNat t) w j (linR os.reverse [w, linR os.reverse [v] [j]] []) = C.walkT os c old last new := by
        rw [walkL, if_neg hv, ej] at hT
        exact hT
      refine ⟨_, fun σ' H' h => ⟨m - 1, by omega, h⟩, ?_⟩
      have ev : ((v.toNat : Nat) : Int) = v := Int.toNat_of_nonneg v0
      refine seq_go (asg_go (ow_int (z := j) (ev_op (ev_var (i := 8) rfl) (y := .int ((v.toNat : Nat) : Int)) (by rw [ev]; exact ev_var (i := 10) rfl) (opp_1 (opp_ixL (get_at hj)))) (env hb8 hbr8 hf8) s8 fun H9 k9 => nm_go ?_))
      dsimp only
      have kH9 := kH8.trans k9
      have hb9 := k9 _ _ hb8
      have hbr9 := k9 _ _ hbr8
      have hf9 := k9 _ _ hf8
      refine seq_go (asg_go ⟨_, rfl, _, rfl, by show 2 ≤ sizeLine; decide, fun tp htp => ?_⟩)
      have n1 : rb ≠ tp := fun z => by rw [z] at hb9; rw [hb9] at htp; cases htp
      have n2 : ri ≠ tp := fun z => by rw [z] at hbr9; rw [hbr9] at htp; cases htp
      have n3 : rf ≠ tp := fun z => by rw [z] at hf9; rw [hf9] at htp; cases htp
      refine ⟨tp, _, rfl, .of upd_same, rfl, _, _, rfl, _, rfl, _, rfl, rb, b.map .int, t, t.toNat, rfl, rfl, by rw [upd_ne n1]; exact hb9, ?_, _, _, rfl, _, rfl, _, rfl, ri, br.map .int, v, v.toNat, rfl, rfl, by rw [upd_ne nib, upd_ne n2]; exact hbr9, ?_, rfl, ?_⟩
      · rw [← Int.toNat_of_nonneg t0]
        exact ix_nat (by rw [List.length_map]; omega)
      · rw [← Int.toNat_of_nonneg v0]
        exact ix_nat (by rw [List.length_map]; omega)
      dsimp only
      have kH12 : Same H (upd (upd (upd H9 tp (.tup [.int v, .int t])) rb (.lst ((b.map V.int).set t.toNat (.int v)))) ri (.lst ((br.map V.int).set v.toNat (.int t)))) := fun x o e => by
        rw [upd_ne (ne_of_none e hHi), upd_ne (ne_of_none e hHb), upd_ne (ne_of_none (kH9 _ _ e) htp)]
        exact kH9 _ _ e
      have hb12 : upd (upd (upd H9 tp (.tup [.int v, .int t])) rb (.lst ((b.map V.int).set t.toNat (.int v)))) ri (.lst ((br.map V.int).set v.toNat (.int t))) rb = some (.lst ((b.set t.toNat v).map .int)) := by
        rw [upd_ne (Ne.symm nib), upd_same, List.map_set]
      have hbr12 : upd (upd (upd H9 tp (.tup [.int v, .int t])) rb (.lst ((b.map V.int).set t.toNat (.int v)))) ri (.lst ((br.map V.int).set v.toNat (.int t))) ri = some (.lst ((br.set v.toNat t).map .int)) := by
        rw [upd_same, List.map_set]
      have hf12 : upd (upd (upd H9 tp (.tup [.int v, .int t])) rb (.lst ((b.map V.int).set t.toNat (.int v)))) ri (.lst ((br.map V.int).set v.toNat (.int t))) rf = some (.lst (F.map .int)) := by
        rw [upd_ne nfi, upd_ne nfb, upd_ne n3]
        exact hf9
      generalize upd (upd (upd H9 tp (.tup [.int v, .int t])) rb (.lst ((b.map V.int).set t.toNat (.int v)))) ri (.lst ((br.map V.int).set v.toNat (.int t))) = H12 at *
      have e12 : EnvOk K (lend B H12 [rb, ri, rf]) [some ov, some (.ref rb), some (.int old), some (.int last), some (.int new), some (.ref rt), some (.int t), some (.int w), some (.ref ri), some (.ref rf), some (.int v), some (.int j), x12, x13] [some (.tuple (intsD os)), some (.list (intsD (b.set t.toNat v))), some (.int old), some (.int last), some (.int new), none, some (.int t), some (.int w), some (.list (intsD (br.set v.toNat t))), some (.list (intsD F)), some (.int v), some (.int j), none, none] :=
        env_s (lent_da hS d0) (env_s (own_da (by simp) hb12) (env_s (.int _) (env_s (.int _) (env_s (.int _) (env_n _ (env_s (.int _) (env_s (.int _) (env_s (own_da (by simp) hbr12) (env_s (own_da (by simp) hf12) (env_s (.int _) (env_s (.int _) (env_n _ (env_n _ env_nil)))))))))))))
      refine asg_go ⟨_, rfl, ow_int (z := linR os.reverse [w, linR os.reverse [v] [j]] []) (ev_call (el_cons (ev_var (i := 0) rfl) (el_cons (ev_var (i := 7) rfl) (el_cons (ev_call (el_cons (ev_var (i := 0) rfl) (el_cons (ev_var (i := 10) rfl) (el_cons (ev_var (i := 11) rfl) el_nil))) ⟨os, _, _, rfl, ho, rfl⟩) el_nil))) ⟨os, _, _, rfl, ho, rfl⟩) e12 (s.trans kH12) fun H13 k13 => ⟨_, rfl, by show 3 ≤ sizeLine; decide, fun tq htq => ?_⟩⟩
      have hb13 := k13 _ _ hb12
      have hbr13 := k13 _ _ hbr12
      have hf13 := k13 _ _ hf12
      have kH13 := kH12.trans k13
      refine ⟨tq, _, rfl, .of upd_same, rfl, _, _, rfl, _, _, rfl, _, _, rfl, rfl, ?_⟩
      refine ⟨b.set t.toNat v, br.set v.toNat t, L ++ [j], w, j, _, some (.int j), rfl, kH13.trans (same_new htq), same_new htq _ _ hb13, same_new htq _ _ hbr13, same_new htq _ _ hf13, hW2, ?_, ?_⟩
      · rw [List.length_append, List.length_singleton]
        omega
      · rw [show m - 1 + 1 = m by omega]
        exact hT'
end K22
end
section
set_option maxRecDepth 100000
set_option maxHeartbeats 4000000
namespace K22
open PySem PySem.Spec PyProof.Rows L2 G Lin C
local macro_rules | `(tactic| walk_at "ev") => `(tactic| first
  | exact ev_var rfl | exact ev_int | exact ev_bl | exact ev_non | exact ev_str
  | (apply ev_op; (focus walk_at "ev"); (focus walk_at "ev"); (focus walk_at "op"))
  | (apply ev_cb; (focus walk_at "el"); (focus walk_at "fn"))
  | (apply ev_lst; (focus walk_at "el"); (show _ ≤ sizeLine; decide))
  | (apply ev_tup; (focus walk_at "el"); (show _ ≤ sizeLine; decide)))
local macro_rules | `(tactic| walk_at "el") => `(tactic| first
  | exact el_nil
  | (apply el_cons; (focus walk_at "ev"); (focus walk_at "el")))
local macro_rules | `(tactic| walk_at "fn") => `(tactic| first
  | exact fn_int | exact fn_len | exact fn_all | exact fn_listL | exact fn_listT)
local macro_rules | `(tactic| walk_at "op") => `(tactic| first
  | exact op_I0 (fun _ => .int _) | exact op_I0 (fun _ => .bl _) | exact opp_1 (op_I0 fun _ => .int _)
  | exact op_I (by show (_ : Int) ≠ 0; decide) (fun _ => .int _)
  | exact op_I (by assumption) (fun _ => .int _)
  | exact opp_1 (op_I (by assumption) fun _ => .int _)
  | exact opp_1 (opp_ixL (i := 0) rfl) | exact opp_2 (opp_ixT (i := 0) rfl) | exact opp_2 (opp_ixT (i := 1) rfl) | exact opp_2 (opp_ixT (i := 2) rfl))
theorem sc_walked_rounds : FnScope ["orders", "row", "bearing", "lack", "tables", "entry"] ["orders", "row"] (defScope s_walked_rounds) := ⟨rfl, rfl, rfl, by decide +kernel, rfl, by decide +kernel, by decide +kernel⟩
theorem ok_walked_rounds {P : Program} {w : World} {K : PySem.W.Frag} {mg : Str → Option Value} {base : Heap} (B : Bi mg) (c_minus : Cal P w K mg base 1 "minus" ["orders", "member", "other"] (sp K p_minus)) (c_walk : Cal P w K mg base 3 "walk" ["orders", "bearing", "old", "last", "new"] (spFr K p_walk)) (h : Has K mg "walked_rounds" s_walked_rounds ["orders", "row"]) :
    Cal P w K mg base 4 "walked_rounds" ["orders", "row"] (sp K p_walked_rounds) := by
  refine has_d h sc_walked_rounds ar_walked_rounds fun f cdv A outer s H E hg hr => ⟨_, (pss_cons (ps_par (i := 2) (j := 3) rfl sc_walked_rounds.nd rfl rfl (by decide) rfl rfl (pa_cons (pe_listRg rfl (by rfl) B.list (prg_1 (by rfl) B.range (pe_callB (lenK K) (by rfl) B.len PySem.boot_len (pa_cons (pv 1) pa_nil)))) (pa_cons pe_int pa_nil)) (by rfl))
      (pss_cons (ps_set (i := 4) sc_walked_rounds.nd rfl (Or.inl rfl) (pe_lst (pa_cons (pv 2) pa_nil)))
      (pss_cons (ps_for PassesOwn.never rfl (pi_or (pi_listK K (pe_slice (slK K) (pv 1) po_none (po_some (pe_un un_neg pe_int)))) (pi_tupK K (pe_slice (slK K) (pv 1) po_none (po_some (pe_un un_neg pe_int))))) (pg_name (i := 5) sc_walked_rounds.nd rfl (Or.inl rfl)) (pss_cons (ps_set (i := 2) sc_walked_rounds.nd rfl (Or.inl rfl) (pg_cal hg c_walk hr (by rfl) (pa_cons (pv 0) (pa_cons (pv 2) (pa_cons pe_int (pa_cons (pv 3) (pa_cons (pv 5) pa_nil)))))))
      (pss_cons (ps_set (i := 3) sc_walked_rounds.nd rfl (Or.inl rfl) (pg_cal hg c_minus hr (by rfl) (pa_cons (pv 0) (pa_cons (pv 3) (pa_cons (pv 5) pa_nil)))))
      (pss_one (ps_expr (pe_bm PySem.F.plainAttrs_list PySem.F.slot_list_append PySem.F.type_list_append mt_append (pv 4) (pa_cons (pv 2) pa_nil)))))))
      (pss_one (ps_ret (pv 4)))))), fun ds d hp => ?_⟩
  obtain ⟨os, row, n, rfl, ho, hn, hrow, rfl⟩ := hp
  have nb := ho.n1 hn
  have rl := hrow.len
  refine do_seq (M := fun ρ => ρ = [some (.tuple (intsD os)), some (.list (intsD row)), some (.list (intsD (rgI n))), some (.int 0), none, none]) (do_par (x := .list (intsD (rgI n))) (y := .int 0) (el_cons (by rw [← rg_eq]; exact ev_listRg (by rw [← rl, ← ints_len row]; exact ev_cb (el_cons (ev_var rfl) el_nil) fn_len) (by omega)) (el_cons ev_int el_nil)) rfl) fun ρ' e => ?_
  subst e
  intro σ B H D e s nx rt
  obtain ⟨v2, l2, d2⟩ := e.look 2 _ rfl
  refine seq_go (asg_go ⟨v2, l2, by show 1 ≤ sizeLine; decide, fun lt hlt => nm_go ?_⟩)
  dsimp only
  have ll : σ.length = 6 := e.len
  have hBl : B lt = none := s.free hlt
  have e1 : EnvOk K B (σ.set 4 (some (.ref lt))) [some (.tuple (intsD os)), some (.list (intsD row)), some (.list (intsD (rgI n))), some (.int 0), none, none] := e.forget (some (.ref lt)) 4
  have i4 : (σ.set 4 (some (.ref lt)))[4]? = some (some (.ref lt)) := List.getElem?_set_self (by omega)
  have s1 : Same B (upd H lt (.lst [v2])) := s.trans (same_new hlt)
  have g0 : Gr B H B (upd H lt (.lst [v2])) := Gr.side s hlt _
  generalize σ.set 4 (some (.ref lt)) = σ1 at e1 i4
  have ecut : cutD (intsD row) none (some (-1)) = intsD row.dropLast := by rw [cut_init, intsD, intsD, List.map_dropLast]
  have itE : Ev K (tSl (rSlL K) (tVar 1) tNoPart (tPart (tUn (rU fun i => .int (-i)) (tC (.int 1))))) [some (.tuple (intsD os)), some (.list (intsD row)), some (.list (intsD (rgI n))), some (.int 0), none, none] (.list (intsD row.dropLast)) := by
    rw [← ecut]
    exact ev_slL (ev_var rfl) eo_none (eo_some ev_neg)
  have dl1 : row.dropLast.length = n - 1 := by rw [List.length_dropLast, rl]
  refine seq_go (for_go (it_1 (it_list itE) σ1 B _ e1 s1 _ fun J B2 H2 g2 w => ?_))
  have hl2 : H2 lt = some (.lst [v2]) := g2.ex _ _ upd_same
  have gA := g0.trans g2
  have hB2 : B2 lt = none := g2.keepNone hBl (by rw [upd_same]; simp)
  refine for_it w (fun k σ' H' => ∃ (B' : Hp) (c : List Int) (lack : Int) (done : List (List Int)) (xs : List V) (z : Option PyData), EnvOk K B' σ' [some (.tuple (intsD os)), some (.list (intsD row)), some (.list (intsD c)), some (.int lack), none, z] ∧ σ'[4]? = some (some (.ref lt)) ∧ Gr B H B' H' ∧ Same B2 B' ∧ B' lt = none ∧ H' lt = some (.lst xs) ∧ DaAll K B' xs (tabsD done) ∧
      Rd os n (row.dropLast.take k) c lack ∧ rdsT os row = done ++ goW os (row.dropLast.drop k) c lack) ?_ (fun k σ' H' _ ⟨B', _, _, _, _, _, _, _, gg, sb, _⟩ => sb.trans gg.sub) ?_ ?_
  · refine ⟨B2, rgI n, 0, [rgI n], [v2], none, e1.mono g2.bb, i4, gA, Same.refl _, hB2, hl2, .cons (d2.mono g2.bb) .nil, ?_, ?_⟩
    · rw [List.take_zero]
      exact Rd.first ho hn (by omega)
    · rw [List.drop_zero]
      unfold rdsT
      rw [rl]
      rfl
  · rintro k x σ' H' H3 hk ⟨B', c, lack, done, xs, z, e2, i42, gg, sb, hB, hL, ha, hrd, heq⟩ y
    obtain ⟨B3, el, g3, hel, hx⟩ := y B' sb gg.sub
    obtain ⟨en, hen, rfl⟩ := at_ints hel
    have kl : k < row.dropLast.length := (List.getElem?_eq_some_iff.mp hen).1
    have enr := hrow.mem en (List.dropLast_subset _ (List.mem_of_getElem? hen))
    cases hx
    have pl : (row.dropLast.take k).length = k := by rw [List.length_take]; omega
    have can := hrd.can (by rw [pl]; omega)
    have nxt := hrd.next ho hn (by rw [pl]; omega) enr.1 enr.2
    rw [← take_snoc hen] at nxt
    have heq2 : rdsT os row = (done ++ [C.walkT os c 0 lack en]) ++ goW os (row.dropLast.drop (k + 1)) (C.walkT os c 0 lack en) (linR os.reverse [lack] [en]) := by
      rw [heq, drop_at hen, goW, List.append_assoc]
      rfl
    have g03 := gg.trans g3
    have hL3 : H3 lt = some (.lst xs) := g3.ex _ _ hL
    have hB3 : B3 lt = none := g3.keepNone hB (by rw [hL]; simp)
    have s2 : σ'.length = 6 := e2.len
    refine nm_go ?_
    have e3 : EnvOk K B3 (σ'.set 5 (some (.int en))) [some (.tuple (intsD os)), some (.list (intsD row)), some (.list (intsD c)), some (.int lack), none, some (.int en)] := (e2.mono g3.bb).set (.int en) 5
    have i43 : (σ'.set 5 (some (V.int en)))[4]? = some (some (.ref lt)) := by rw [List.getElem?_set_ne (by decide)]; exact i42
    have s3 : (σ'.set 5 (some (V.int en))).length = 6 := by rw [List.length_set]; exact s2
    generalize σ'.set 5 (some (V.int en)) = σ3 at e3 i43 s3 ⊢
    refine seq_go (asg_go ((evf_call (ns := C.walkT os c 0 lack en) (el_cons (ev_var rfl) (el_cons (ev_var rfl) (el_cons ev_int (el_cons (ev_var rfl) (el_cons (ev_var rfl) el_nil))))) ⟨os, c, 0, lack, en, n, rfl, ho, hn, hrd.tab, enr.1, enr.2, can, rfl⟩).ev σ3 B3 H3 e3 g3.sub _ fun v B4 H4 g4 hv => nm_go ?_))
    dsimp only
    have e4 : EnvOk K B4 (σ3.set 2 (some v)) [some (.tuple (intsD os)), some (.list (intsD row)), some (.list (intsD (C.walkT os c 0 lack en))), some (.int lack), none, some (.int en)] := (e3.mono g4.bb).set hv 2
    have i44 : (σ3.set 2 (some v))[4]? = some (some (.ref lt)) := by rw [List.getElem?_set_ne (by decide)]; exact i43
    have s4 : (σ3.set 2 (some v)).length = 6 := by rw [List.length_set]; exact s3
    have i24 : (σ3.set 2 (some v))[2]? = some (some v) := List.getElem?_set_self (by omega)
    have g04 := g03.trans g4
    have hL4 : H4 lt = some (.lst xs) := g4.ex _ _ hL3
    have hB4 : B4 lt = none := g4.keepNone hB3 (by rw [hL3]; simp)
    generalize σ3.set 2 (some v) = σ4 at e4 i44 s4 i24 ⊢
    refine seq_go (asg_go (ev_call (d := .int (linR os.reverse [lack] [en])) (el_cons (ev_var rfl) (el_cons (ev_var rfl) (el_cons (ev_var rfl) el_nil))) ⟨os, _, _, rfl, ho, rfl⟩ σ4 B4 H4 e4 g4.sub _ fun u B5 H5 g5 hu => nm_go ?_))
    dsimp only
    cases hu
    have e5 : EnvOk K B5 (σ4.set 3 (some (V.int (linR os.reverse [lack] [en])))) [some (.tuple (intsD os)), some (.list (intsD row)), some (.list (intsD (C.walkT os c 0 lack en))), some (.int (linR os.reverse [lack] [en])), none, some (.int en)] := (e4.mono g5.bb).set (.int _) 3
    have i45 : (σ4.set 3 (some (V.int (linR os.reverse [lack] [en]))))[4]? = some (some (.ref lt)) := by rw [List.getElem?_set_ne (by decide)]; exact i44
    have i25 : (σ4.set 3 (some (V.int (linR os.reverse [lack] [en]))))[2]? = some (some v) := by rw [List.getElem?_set_ne (by decide)]; exact i24
    have g05 := g04.trans g5
    have hL5 : H5 lt = some (.lst xs) := g5.ex _ _ hL4
    have hB5 : B5 lt = none := g5.keepNone hB4 (by rw [hL4]; simp)
    have hlen := ha.len
    have dlen : done.length ≤ n := by
      have q := congrArg List.length heq
      have q2 := (rds_ok ho hn (by omega) hrow).2.1
      rw [q2, List.length_append] at q
      omega
    refine ⟨_, i45, .inl ⟨rfl, _, .of hL5⟩, _, i25, lt, xs, v, rfl, rfl, hL5, by rw [hlen, tabs_len, sizeLine_eq]; omega, ?_⟩
    refine ⟨B5, _, _, done ++ [C.walkT os c 0 lack en], xs ++ [v], _, e5, i45, ⟨fun b o q => ?_, g05.bb, fun b o q => ?_, g05.new⟩, ((sb.trans g3.bb).trans g4.bb).trans g5.bb, hB5, upd_same, ?_, nxt, heq2⟩
    · rw [upd_ne (ne_of_none q hlt)]
      exact g05.ex b o q
    · rw [upd_ne (ne_of_none q hB5)]
      exact g05.sub b o q
    · rw [tabsD, List.map_append]
      exact (ha.mono ((g3.bb.trans g4.bb).trans g5.bb)).app (.cons (hv.mono g5.bb) .nil)
  · rintro σ' H' ⟨B', c, lack, done, xs, z, e2, i42, gg, sb, hB, hL, ha, hrd, heq⟩
    have ed : done = rdsT os row := by
      rw [heq]
      rw [List.drop_eq_nil_of_le (by rw [ints_len]; exact Nat.le_refl _)]
      show done = done ++ []
      rw [List.append_nil]
    rw [ed] at ha
    dsimp only
    refine ret_go ⟨_, i42, rt (.ref lt) (upd B' lt (.lst xs)) H' _ ⟨gg.ex, gg.bb.trans (same_new hB), fun b o q => ?_, fun b o q m => ?_⟩ (.lst upd_same (ha.mono (same_new hB))) rfl⟩
    · by_cases x : b = lt
      · subst x
        rw [upd_same] at q
        rw [hL]
        exact q
      · rw [upd_ne x] at q
        exact gg.sub b o q
    · by_cases x : b = lt
      · subst x
        exact hlt
      · rw [upd_ne x] at q
        exact gg.new b o q m
end K22
end
section
set_option maxRecDepth 100000
set_option maxHeartbeats 4000000
/-! lists that are made by drawing and written to; what is walked is drawn; two loans -/
namespace G
open PySem PySem.Spec PyProof.Rows L2
def Egl (K : PySem.W.Frag) (i : Nat) (te : TE) (ρ : Rho) (c : Nat) (P : List PyData → Nat → Prop) : Prop := ∀ g σ B H, EnvG K B σ ρ g i → Same B H → GenAt H g c → ∀ Q : VK,
  (∀ Dl xs B' H' out c', Gg g B H B' H' → GenAt H' g c' → B' Dl = none → H Dl = none → Dl ≠ g → H' Dl = some (.lst xs) → DaAll K B' xs out → P out c' → Q (.ref Dl) H') → te σ H Q
def EgI (K : PySem.W.Frag) (i : Nat) (wi : TI) (ρ : Rho) (c : Nat) (P : List PyData → Nat → Prop) : Prop := ∀ g σ B H, EnvG K B σ ρ g i → Same B H → GenAt H g c → ∀ R : It → Hp → Prop,
  (∀ J B' H' es c', Gg g B H B' H' → GenAt H' g c' → Goes K J B' es → P es c' → R J H') → wi σ H R
section
variable {K : PySem.W.Frag} {i : Nat} {ρ : Rho} {c : Nat} {te ta tb : TE} {tr : TA}
theorem egi_pure {wi : TI} {es : List PyData} {P : List PyData → Nat → Prop} (h : Iter K wi ρ es) (p : P es c) : EgI K i wi ρ c P := fun g σ B H e s n R q =>
  h σ B H e.env s R fun J B1 H1 k w => q J B1 H1 es c (.of k e.gone n.ne) (n.same k.ex) w p
theorem egi_range {P : List PyData → Nat → Prop} {P1 : PyData → Nat → Prop} (h : Eg K i ta ρ c P1) (k : ∀ d c', P1 d c' → ∃ n : Nat, d = .int (n : Int) ∧ (n : Int) < 2 ^ 62 ∧ P ((List.range n).map fun (i : Nat) => .int (i : Int)) c') : EgI K i (iRng1 (tCons ta tNil)) ρ c P := fun g σ B H e s n R q =>
  h g σ B H e s n _ fun v B1 H1 d c1 g1 n1 hv p1 => by
    obtain ⟨m, rfl, hm, p⟩ := k d c1 p1
    cases hv
    refine ⟨(m : Int), rfl, by omega, hm, q _ B1 H1 _ c1 g1 n1 ?_ p⟩
    unfold Goes
    rw [List.length_map, List.length_range]
    show Walk (Itr 0 (m : Int).toNat) m _ _
    rw [Int.toNat_natCast]
    refine walk_range.mono (fun _ _ => trivial) fun i H x H' hi s y B0 s0 h0 => ?_
    obtain ⟨rfl, rfl⟩ := y
    refine ⟨B0, .int (i : Int), .refl h0, by simp [hi], ?_⟩
    show Da K B0 (V.int (0 + (i : Int))) (.int (i : Int))
    rw [Int.zero_add]
    exact .int _
/-- a comprehension whose elements draw, over what is drawn -/
theorem egl_lc {wi : TI} {tg : TG} {vs : List Nat} {PI P : List PyData → Nat → Prop} (h : EgI K i wi ρ c PI) (hi : i ∉ vs)
    (hk : ∀ es c0, PI es c0 → es.length ≤ 1000000 ∧ ∃ J : Nat → List PyData → Nat → Prop, J 0 [] c0 ∧
      (∀ k e out c1, es[k]? = some e → J k out c1 → ∃ ρ1, TgW K tg vs e ρ ρ1 ∧ Eg K i te ρ1 c1 fun d c2 => J (k + 1) (out ++ [d]) c2) ∧
      ∀ out c', J es.length out c' → out.length = es.length → P out c') : Egl K i (tLc wi tg tYes te vs) ρ c P := fun g σ B H e s n Q q =>
  h g σ B H e s n _ fun It0 B1 H1 es c0 g1 n1 w pI => fun Dl hD => by
    obtain ⟨hz, J, h0, hs, hd⟩ := hk es c0 pI
    have gD : g ≠ Dl := fun x => n1.ne (x ▸ hD)
    have hD0 : H Dl = none := by
      cases z : H Dl with
      | none => rfl
      | some o =>
        have := g1.ex Dl o (Ne.symm gD) z
        rw [hD] at this
        cases this
    refine lc_it w (fun k H' => ∃ B' xs out c', Gg g B1 H1 B' H' ∧ B' Dl = none ∧ H' Dl = some (.lst xs) ∧ DaAll K B' xs out ∧ GenAt H' g c' ∧ J k out c' ∧ out.length = k) ?_ (fun k H' _ ⟨B', _, _, _, g2, _⟩ => g2.bb.trans g2.sub) ?_ ?_
    · have sd := Gr.side g1.sub hD (.lst [])
      exact ⟨B1, [], [], c0, .of sd g1.off n1.ne, g1.sub.free hD, upd_same, .nil, n1.same sd.ex, h0, rfl⟩
    · rintro k x H' H2 hk ⟨B', xs, out, c1, g2, hB, hH, ha, n2, hJ, hl⟩ y
      obtain ⟨B2, el, g3, hel, hx⟩ := y B' g2.bb g2.sub
      obtain ⟨ρ1, ht, hv⟩ := hs k el out c1 hel hJ
      have G3 : Gg g B' H' B2 H2 := .of g3 g2.off n2.ne
      have n3 := n2.same g3.ex
      have hB2 : B2 Dl = none := g3.keepNone hB (by rw [hH]; simp)
      have hH2 : H2 Dl = some (.lst xs) := g3.ex _ _ hH
      have g23 := g2.trans G3
      refine ht σ B2 H2 x (e.env.mono (g1.bb.trans g23.bb)) G3.sub hx _ fun σ2 e3 hwp => ?_
      refine ⟨hwp, ?_⟩
      dsimp only [tYes]
      rw [if_pos rfl]
      have eg : EnvG K B2 σ2 ρ1 g i := ⟨e3, by rw [← wipe_at σ2 hi, hwp, wipe_at σ hi]; exact e.here, G3.off⟩
      refine hv g σ2 B2 H2 eg G3.sub n3 _ fun u B4 H4 d c4 g4 n4 hu hJ4 => ?_
      have hB4 : B4 Dl = none := by
        cases z : B4 Dl with
        | none => rfl
        | some o => exact absurd (g4.new Dl o z hB2) (by rw [hH2]; simp)
      have hH4 : H4 Dl = some (.lst xs) := g4.ex _ _ (Ne.symm gD) hH2
      have gg := g23.trans g4
      have hk' : k < es.length := hk
      refine ⟨xs, hH4, by have := ha.len; rw [sizeLine_eq]; omega, B4, xs ++ [u], out ++ [d], c4, ⟨fun b o nb z => ?_, gg.bb, fun b o z => ?_, gg.new, gg.off⟩, hB4, upd_same, (ha.mono (G3.bb.trans g4.bb)).app (.cons hu .nil), ?_, hJ4, by rw [List.length_append, hl]; rfl⟩
      · rw [upd_ne (ne_of_none z hD)]
        exact gg.ex b o nb z
      · rw [upd_ne (ne_of_none z hB4)]
        exact gg.sub b o z
      · obtain ⟨a, b, m, h1, r⟩ := n4
        exact ⟨a, b, m, by rw [upd_ne gD]; exact h1, r⟩
    · rintro H' ⟨B', xs, out, c', g2, hB, hH, ha, n2, hJ, hl⟩
      exact q Dl xs B' H' out c' (g1.trans g2) n2 hB hD0 (Ne.symm gD) hH ha (hd out c' hJ hl)
/-- the list let go as data -/
theorem gg_let {g : Addr} {B H B' H' : Hp} {Dl : Addr} {xs : List V} (gg : Gg g B H B' H') (hB : B' Dl = none) (h0 : H Dl = none) (gD : Dl ≠ g) (hH : H' Dl = some (.lst xs)) : Gg g B H (upd B' Dl (.lst xs)) H' :=
  ⟨gg.ex, gg.bb.trans (same_new hB), fun b o z => by
    by_cases x : b = Dl
    · subst x
      rw [upd_same] at z
      rw [hH]
      exact z
    · rw [upd_ne x] at z
      exact gg.sub b o z, fun b o z m => by
    by_cases x : b = Dl
    · subst x
      exact h0
    · rw [upd_ne x] at z
      exact gg.new b o z m, by rw [upd_ne (Ne.symm gD)]; exact gg.off⟩
theorem Egl.eg {P : PyData → Nat → Prop} (h : Egl K i te ρ c fun out c' => P (.list out) c') : Eg K i te ρ c P := fun g σ B H e s n Q q =>
  h g σ B H e s n Q fun Dl xs B' H' out c' gg n' hB h0 gD hH ha p => q _ _ H' _ c' (gg_let gg hB h0 gD hH) n' (.lst upd_same (ha.mono (same_new hB))) p
/-! loans where something is drawn -/
theorem Gg.keepN {g : Addr} {B H B1 H1 : Hp} (k : Gg g B H B1 H1) {a : Addr} (hb : B a = none) (hh : H a ≠ none) : B1 a = none := by
  cases z : B1 a with
  | none => rfl
  | some o => exact absurd (k.new a o z hb) hh
theorem Nest.gg {g : Addr} {B H0 H B1 H1 : Hp} {l : Addr} {as : List Addr} {tss : List (List Int)} (n : Nest B H0 H l as tss) (k : Gg g B H B1 H1) (hg : H0 g ≠ none) : Nest B1 H0 H1 l as tss := by
  have ne : ∀ x ∈ l :: as, x ≠ g := fun x hx e => hg (e ▸ n.newH x hx)
  exact ⟨n.newH, fun x hx => k.keepN (n.newB x hx) (n.full x hx), n.nd, k.ex _ _ (ne l (List.mem_cons_self ..)) n.at_l, n.len, fun i a t h1 h2 => k.ex _ _ (ne a (List.mem_cons_of_mem _ (List.mem_of_getElem? h1))) (n.at_i i a t h1 h2)⟩
theorem Loan.gg {g : Addr} {B H0 H B1 H1 : Hp} {p : Addr} {ov : V} {l : Addr} {as : List Addr} {os : List Int} {tss : List (List Int)} {tot : Int} (n : Loan K B H0 H p ov l as os tss tot) (k : Gg g B H B1 H1) (hg : H0 g ≠ none) : Loan K B1 H0 H1 p ov l as os tss tot :=
  ⟨n.nest.gg k hg, n.pH, k.keepN n.pB (by rw [n.pt]; simp), k.ex _ _ (fun e => hg (e ▸ n.pH)) n.pt, n.po.mono k.bb⟩
/-- .. where all but the drawn list stays, and the ground -/
theorem Loan.keep {B H0 H H1 : Hp} {p : Addr} {ov : V} {l : Addr} {as : List Addr} {os : List Int} {tss : List (List Int)} {tot : Int} (n : Loan K B H0 H p ov l as os tss tot) (k : ∀ b o, b ∈ p :: l :: as → H b = some o → H1 b = some o) : Loan K B H0 H1 p ov l as os tss tot :=
  ⟨⟨n.nest.newH, n.nest.newB, n.nest.nd, k _ _ (by simp) n.nest.at_l, n.nest.len, fun i a t h1 h2 => k _ _ (List.mem_cons_of_mem _ (List.mem_cons_of_mem _ (List.mem_of_getElem? h1))) (n.nest.at_i i a t h1 h2)⟩, n.pH, n.pB, k _ _ (by simp) n.pt, n.po⟩
theorem lend_mono {B H : Hp} {S T : List Addr} (h : ∀ x ∈ S, x ∈ T) (n : ∀ x ∈ T, B x = none) : Same (lend B H S) (lend B H T) := fun b o z => by
  by_cases hs : b ∈ S
  · rw [lend_in hs] at z
    rw [lend_in (h b hs)]
    exact z
  · rw [lend_out hs] at z
    rw [lend_out (fun q => by rw [n b q] at z; cases z)]
    exact z
end
end G
end
section
set_option maxRecDepth 100000
set_option maxHeartbeats 4000000
/-! what the laws of wishes use -/
namespace C
open PySem PySem.Spec PyProof.Rows L2 G Lin
def p_law_add (ds : List PyData) (d : PyData) : Prop := ∃ os a b, ds = [.tuple (intsD os), .int a, .int b] ∧ Ords os ∧ d = .int (linR os.reverse [a, b] [])
def p_law_minus (ds : List PyData) (d : PyData) : Prop := ∃ os a, ds = [.tuple (intsD os), .int a] ∧ Ords os ∧ d = .int (linR os.reverse [] [a])
def p_law_total (ds : List PyData) (d : PyData) : Prop := ∃ os xs, ds = [.tuple (intsD os), .list (intsD xs)] ∧ Ords os ∧ d = .int (linR os.reverse xs [])
theorem ar_law_add (ds : List PyData) (d : PyData) (h : p_law_add ds d) : ds.length = 3 := by obtain ⟨_, _, _, rfl, _⟩ := h; rfl
theorem ar_law_minus (ds : List PyData) (d : PyData) (h : p_law_minus ds d) : ds.length = 2 := by obtain ⟨_, _, rfl, _⟩ := h; rfl
theorem ar_law_total (ds : List PyData) (d : PyData) (h : p_law_total ds d) : ds.length = 2 := by obtain ⟨_, _, rfl, _⟩ := h; rfl
def menuW : List (List Int) := [[2], [3], [4], [2, 2], [5], [6], [2, 3], [7], [8], [2, 4], [4, 2], [2, 2, 2], [9], [3, 3], [10], [2, 5], [12], [2, 6], [2, 2, 3]]
theorem menuW_small : ∀ os ∈ menuW, Small os := by
  have h : (menuW.all fun os => decide (os ≠ []) && os.all (fun o => decide (2 ≤ o)) && decide (prodI os ≤ 12)) = true := by decide +kernel
  intro os ho
  have q := List.all_eq_true.mp h os ho
  simp only [Bool.and_eq_true, List.all_eq_true, decide_eq_true_eq] at q
  exact ⟨⟨q.1.1, q.1.2, by omega⟩, q.2⟩
def p_law_orders12 (ds : List PyData) (c : Nat) (R : PyData → Nat → Prop) : Prop := ds = [.int 12] ∧ c ≤ 2 ^ 39 ∧ ∀ os, os ∈ menuW → R (.tuple (intsD os)) (c + 4)
theorem ar_law_orders12 (ds : List PyData) (c : Nat) (R : PyData → Nat → Prop) (h : p_law_orders12 ds c R) : ds.length = 1 := by obtain ⟨rfl, _⟩ := h; rfl
def p_law_shuffledN (ds : List PyData) (c : Nat) (R : PyData → Nat → Prop) : Prop := ∃ n : Nat, ds = [.int (n : Int)] ∧ n ≤ 1000 ∧ c ≤ 2 ^ 38 ∧ ∀ ys, ys.Perm (rgI n) → R (.list (intsD ys)) (c + 4 * n)
theorem ar_law_shuffledN (ds : List PyData) (c : Nat) (R : PyData → Nat → Prop) (h : p_law_shuffledN ds c R) : ds.length = 1 := by obtain ⟨_, rfl, _⟩ := h; rfl
def p_law_even_row (ds : List PyData) (c : Nat) (R : PyData → Nat → Prop) : Prop := ∃ (os : List Int) (n : Nat), ds = [.tuple (intsD os)] ∧ Ords os ∧ prodI os = n ∧ c ≤ 2 ^ 37 ∧ ∀ row c', Row n row → linR os.reverse row [] = 0 → c' ≤ c + 4 + 4 * n → R (.list (intsD row)) c'
theorem ar_law_even_row (ds : List PyData) (c : Nat) (R : PyData → Nat → Prop) (h : p_law_even_row ds c R) : ds.length = 1 := by obtain ⟨_, _, rfl, _⟩ := h; rfl
/-- the row of a kind of two tables -/
def rowT (os : List Int) (kind : Str) (a b : List Int) : List Int := if kind = "twin" then addT os a b else subT os a b
def p_law_row (ds : List PyData) (d : PyData) : Prop := ∃ (os : List Int) (kind : Str) (a b : List Int), ds = [.tuple (intsD os), .str kind, .list (intsD a), .list (intsD b)] ∧ Ords os ∧ kind ∈ kinds ∧ a.length = b.length ∧ a.length ≤ 1000 ∧ d = .list (intsD (rowT os kind a b))
theorem ar_law_row (ds : List PyData) (d : PyData) (h : p_law_row ds d) : ds.length = 4 := by obtain ⟨_, _, _, _, rfl, _⟩ := h; rfl
def p_law_kept (ds : List PyData) (d : PyData) : Prop := ∃ (os : List Int) (ts : List (List Int)) (tot : Int) (p n : Nat) (kind : Str) (row : List Int), ds = [sysD os ts tot, .int (p : Int), wishD kind row] ∧ Sys os ts tot ∧ prodI os = n ∧ p + 1 < ts.length ∧ kind ∈ kinds ∧ Row n row ∧ (rowT os kind (ts.getD p []) (ts.getD (p + 1) [])).Perm row ∧ d = .bool true
theorem ar_law_kept (ds : List PyData) (d : PyData) (h : p_law_kept ds d) : ds.length = 3 := by obtain ⟨_, _, _, _, _, _, _, rfl, _⟩ := h; rfl
def p_law_system_right (ds : List PyData) (d : PyData) : Prop := ∃ (os : List Int) (ts : List (List Int)) (tot : Int) (w : Nat), ds = [sysD os ts tot, .int (w : Int)] ∧ Sys os ts tot ∧ ts.length = w ∧ d = .bool true
theorem ar_law_system_right (ds : List PyData) (d : PyData) (h : p_law_system_right ds d) : ds.length = 2 := by obtain ⟨_, _, _, _, rfl, _⟩ := h; rfl
def p_law_system12 (ds : List PyData) (c : Nat) (R : PyData → Nat → Prop) : Prop := ds = [.int 12, .int 5] ∧ c ≤ 2 ^ 37 ∧ ∀ os ts tot c', Sys os ts tot → prodI os ≤ 12 → ts.length ≤ 5 → c' ≤ c + 1000 → R (sysD os ts tot) c'
theorem ar_law_system12 (ds : List PyData) (c : Nat) (R : PyData → Nat → Prop) (h : p_law_system12 ds c R) : ds.length = 2 := by obtain ⟨rfl, _⟩ := h; rfl
theorem step_add {o : Int} {r : List Int} (h : 2 ≤ o) {t w m k : Int} {z : Int} (e : t + w * linR (o :: r) [m, k] [] = z) : (t + (m.fmod o + k.fmod o).fmod o * w) + (w * o) * linR r [m / o, k / o] [] = z := by
  have q := step_lin h e
  have e2 : (m.fmod o + k.fmod o).fmod o = (m + k).fmod o := by
    rw [Int.fmod_eq_emod_of_nonneg _ (by omega), Int.fmod_eq_emod_of_nonneg _ (by omega), Int.fmod_eq_emod_of_nonneg _ (by omega), Int.fmod_eq_emod_of_nonneg _ (by omega)]
    exact (Int.add_emod m k o).symm
  rw [e2]
  exact q
theorem step_neg {o : Int} {r : List Int} (h : 2 ≤ o) {t w m : Int} {z : Int} (e : t + w * linR (o :: r) [] [m] = z) : (t + (o - m.fmod o).fmod o * w) + (w * o) * linR r [] [m / o] = z := by
  rw [← e, Int.fmod_eq_emod_of_nonneg _ (by omega), Int.fmod_eq_emod_of_nonneg _ (by omega)]
  have q : linR (o :: r) [] [m] = (0 - m) % o + o * linR r [] [m / o] := by
    show (([] : List Int).sum - [m].sum) % o + o * linR r [] [m / o] = _
    have : ([] : List Int).sum - [m].sum = 0 - m := by simp
    rw [this]
  have q2 : (o - m % o) % o = (0 - m) % o := by
    rw [Int.sub_emod, Int.emod_self, Int.emod_emod, ← Int.zero_emod o, ← Int.sub_emod]
    rw [Int.zero_emod]
  rw [q, q2, Int.mul_add, Int.mul_comm w ((0 - m) % o), Int.mul_assoc]
  omega
def sortL (l : List Int) : List Int := l.mergeSort (fun a b => decide (a ≤ b))
theorem sort_perm (l : List Int) : (sortL l).Perm l := List.mergeSort_perm l _
theorem sort_sorted (l : List Int) : (sortL l).Pairwise (· ≤ ·) := by
  have q := List.pairwise_mergeSort (le := fun a b : Int => decide (a ≤ b)) (fun a b c h1 h2 => by simp at *; omega) (fun a b => by simp; omega) l
  exact q.imp fun h => by simpa using h
theorem sort_eq {a b : List Int} (h : a.Perm b) : sortL a = sortL b := sorted_uniq ((sort_perm a).trans (h.trans (sort_perm b).symm)) (sort_sorted a) (sort_sorted b)
theorem neg_add {os : List Int} (ho : Ords os) (a b : Int) : linR os.reverse [a, linR os.reverse [] [b]] [] = linR os.reverse [a] [b] := by
  have z : linR os.reverse [a, linR os.reverse [] [b]] [] = linR os.reverse [linR os.reverse [] [b], a] [] := lin_eq (perm_c fun u => by simp only [List.count_append, List.count_cons, List.count_nil]; omega)
  rw [z, lin_in ho.pos]
  rfl
theorem zw_idx {f : Int → Int → Int} {a b : List Int} (h : a.length = b.length) : List.zipWith f a b = (List.range a.length).map fun i => f (a.getD i 0) (b.getD i 0) := by
  refine List.ext_getElem? fun i => ?_
  by_cases hi : i < a.length
  · rw [List.getElem?_zipWith, List.getElem?_map, List.getElem?_range hi, List.getElem?_eq_getElem hi, List.getElem?_eq_getElem (by omega : i < b.length)]
    simp [List.getD, hi, show i < b.length by omega]
  · rw [List.getElem?_eq_none (by rw [List.length_zipWith]; omega), List.getElem?_eq_none (by rw [List.length_map, List.length_range]; omega)]
theorem opp_inB {K : PySem.W.Frag} {n : Nat} : Op2 K (rIn K false) (.bool true) (.list (List.replicate n (.bool false))) (.bool false) := fun B H s u v hu hv Q q => by
  cases hu
  cases hv with
  | @lst a xs _ h1 a1 =>
    have e0 : xs = List.replicate n (V.bl false) := by
      have z : DaAll K B xs ((List.replicate n false).map .bool) := by rw [List.map_replicate]; exact a1
      have := daBools z
      rw [this, List.map_replicate]
    subst e0
    refine ⟨a, _, rfl, .inl (.of (s _ _ h1)), rfl, ?_, q _ B H (.refl s) ?_⟩
    · rw [List.all_eq_true]
      intro y hy
      rw [List.eq_of_mem_replicate hy]
      rfl
    · have e : inV (.bl true) (List.replicate n (V.bl false)) = false := by
        unfold inV
        rw [Bool.eq_false_iff]
        intro h
        obtain ⟨y, hy, e⟩ := List.any_eq_true.mp h
        rw [List.eq_of_mem_replicate hy] at e
        simp [eqV] at e
      rw [e]
      exact .bl _
theorem kinds_sh {c : Str} (hc : c ∈ kinds) : SeqAt.shaped (.str c) = true := by
  rcases List.mem_cons.mp hc with rfl | hc
  · exact sh_str (by decide +kernel)
  · rw [List.mem_singleton.mp hc]
    exact sh_str (by decide +kernel)
theorem ev_eq {K : PySem.W.Frag} {ρ : Rho} {te : TE} {d d' : PyData} (h : Ev K te ρ d) (e : d = d') : Ev K te ρ d' := e ▸ h
theorem da_set {K : PySem.W.Frag} {B : Hp} {v : V} {d : PyData} (hv : Da K B v d) : ∀ {xs : List V} {ds : List PyData} (i : Nat), DaAll K B xs ds → DaAll K B (xs.set i v) (ds.set i d)
  | _, _, _, .nil => .nil
  | _, _, 0, .cons _ t => .cons hv t
  | _, _, i + 1, .cons h t => .cons h (da_set hv i t)
end C
end
section
set_option maxRecDepth 100000
set_option maxHeartbeats 4000000
/-! systems that keep wishes: the maths of extended and rewished -/
namespace C
open PySem PySem.Spec PyProof.Rows L2 G Lin
def p_law_right23 (ds : List PyData) (c : Nat) (R : PyData → Nat → Prop) : Prop := ds = [] ∧ c ≤ 2 ^ 36 ∧ ∀ c', c' ≤ c + 2000 → R (.bool true) c'
theorem ar_law_right23 (ds : List PyData) (c : Nat) (R : PyData → Nat → Prop) (h : p_law_right23 ds c R) : ds.length = 0 := by obtain ⟨rfl, _⟩ := h; rfl
/-! what is shown -/
theorem fn_wish {K : PySem.W.Frag} {kind : Str} {row : List Int} (hk : kind ∈ kinds) (hr : ∀ x ∈ row, x.natAbs < 10 ^ 12) (hl : row.length ≤ 1000) : Fn K (rRepr K) [wishD kind row] (.str (wishD kind row).shown) := by
  have a := pl_facts (.list (intsD row)) (pl_list (pl_ints hr))
  have d1 := depth_list (depth_ints row)
  have b1 := bulk_list (bulk_ints row)
  rw [List.length_map] at b1
  have k : (PyData.str kind).canLay0 = true ∧ (PyData.str kind).leavesShort 13 = true ∧ (PyData.str kind).showable = true ∧ (PyData.str kind).depth = 0 ∧ (PyData.str kind).bulk ≤ 10 := by
    rcases List.mem_cons.mp hk with rfl | hk
    · exact ⟨by decide +kernel, by decide +kernel, by decide +kernel, by rw [PyData.depth], by decide +kernel⟩
    · rw [List.mem_singleton.mp hk]
      exact ⟨by decide +kernel, by decide +kernel, by decide +kernel, by rw [PyData.depth], by decide +kernel⟩
  have sh : (wishD kind row).showable = true := by
    unfold wishD
    rw [PyData.showable, PyData.showableAll, PyData.showableAll, PyData.showableAll, k.2.2.1, a.2.2.1]
    rfl
  have cl : (wishD kind row).canLay0 = true := by
    unfold wishD
    rw [PyData.canLay0, PyData.canLayAll0, PyData.canLayAll0, PyData.canLayAll0, k.1, a.1]
    rfl
  have ls : (wishD kind row).leavesShort 13 = true := by
    unfold wishD
    rw [PyData.leavesShort, PyData.leavesShortAll, PyData.leavesShortAll, PyData.leavesShortAll, k.2.1, a.2.1]
    rfl
  refine fn_repr sh (PyData.hasDict_of_canLay _ cl) ?_ ?_
  · have q := depth_tuple (ds := [PyData.str kind, .list (intsD row)]) (k := 1) fun d hd => by
      rcases List.mem_cons.mp hd with rfl | hd
      · omega
      · rw [List.mem_singleton.mp hd]
        unfold intsD
        omega
    unfold wishD
    omega
  · have q := bulk_tuple (ds := [PyData.str kind, .list (intsD row)]) (k := 1010) fun d hd => by
      rcases List.mem_cons.mp hd with rfl | hd
      · omega
      · rw [List.mem_singleton.mp hd]
        unfold intsD
        omega
    have s := PyData.shown_le_bulk 13 (by decide) (wishD kind row) ls
    rw [sizeLine_eq]
    unfold wishD at *
    have e : [PyData.str kind, .list (intsD row)].length = 2 := rfl
    rw [e] at q
    omega
theorem pls_tabs {n : Nat} {ts : List (List Int)} (hn : n ≤ 12) (hT : ∀ t ∈ ts, Tab (n : Int) t) (hl : ts.length ≤ 100) : PlS (.list (tabsD ts)) := by
  have pt : ∀ d ∈ tabsD ts, pl d = true ∧ d.depth ≤ 1 ∧ d.bulk ≤ 12 := fun d hd => by
    obtain ⟨t, ht, rfl⟩ := List.mem_map.mp hd
    have T := hT t ht
    refine ⟨pl_list (pl_ints fun x hx => ?_), depth_list (depth_ints t), ?_⟩
    · have := T.mem x hx
      omega
    · have : (PyData.list (intsD t)).bulk ≤ (t.map PyData.int).length * (0 + 1) := bulk_list (bulk_ints t)
      rw [List.length_map] at this
      have := T.len
      omega
  refine ⟨pl_list fun d h => (pt d h).1, ?_, ?_⟩
  · have := depth_list fun d h => (pt d h).2.1
    omega
  · have := bulk_list fun d h => (pt d h).2.2
    rw [tabs_len] at this
    have : ts.length * (12 + 1) ≤ 100 * 13 := Nat.mul_le_mul_right _ hl
    omega
theorem pls_ords {os : List Int} (h : Ords os) : PlS (.tuple (intsD os)) := by
  have hl2 := ords_len h
  refine ⟨pl_tuple (pl_ints fun x hx => ?_), ?_, ?_⟩
  · have := ord_le h hx
    omega
  · have : (PyData.tuple (intsD os)).depth ≤ 0 + 1 := depth_tuple (depth_ints os)
    omega
  · have : (PyData.tuple (intsD os)).bulk ≤ (os.map PyData.int).length * (0 + 1) := bulk_tuple (bulk_ints os)
    rw [List.length_map] at this
    omega
theorem pls_int {i : Int} (h : i.natAbs < 10 ^ 12) : PlS (.int i) := ⟨pl_int h, by rw [depth_int]; omega, by rw [bulk_int]; omega⟩
theorem pl_parts {os : List Int} {n : Nat} {ts : List (List Int)} {tot : Int} (ho : Ords os) (h12 : n ≤ 12) (hT : ∀ t ∈ ts, Tab (n : Int) t) (hl : ts.length ≤ 100) (t0 : 0 ≤ tot) (t1 : tot < n) : Pl (.list [.tuple (intsD os), .list (tabsD ts), .int tot]) :=
  PlS.list (fun d hd => by
    rcases List.mem_cons.mp hd with rfl | hd
    · exact pls_ords ho
    rcases List.mem_cons.mp hd with rfl | hd
    · exact pls_tabs h12 hT hl
    · have : d = .int tot := by simpa using hd
      rw [this]
      exact pls_int (by omega)) (by show 3 ≤ 20; decide)
/-! the maths -/
theorem wn_ok {os t row : List Int} {n : Nat} {kind : Str} (ho : Ords os) (hn : prodI os = n) (hk : kind ∈ kinds) (h : Row n row) (hz : linR os.reverse row [] = 0) (T : Tab (n : Int) t) : Tab (n : Int) (wnT os t kind row) ∧ (rowT os kind t (wnT os t kind row)).Perm row := by
  have nb := ho.n1 hn
  unfold wnT rowT
  rcases List.mem_cons.mp hk with rfl | hk
  · rw [if_pos rfl, if_neg (by decide)]
    exact fol_row ho hn (by omega) h hz T
  · rw [List.mem_singleton.mp hk, if_neg (by decide), if_pos rfl]
    exact neg_row ho hn (by omega) h hz T
theorem Sys.at {os : List Int} {ts : List (List Int)} {tot : Int} {n : Nat} (hs : Sys os ts tot) (hn : prodI os = n) {i : Nat} (h : i < ts.length) : Tab (n : Int) (ts.getD i []) := by
  rw [List.getD_eq_getElem?_getD, List.getElem?_eq_getElem h, ← hn]
  exact hs.tabs _ (List.getElem_mem h)
theorem last_getD {ts : List (List Int)} (h : 1 ≤ ts.length) : ts.getLastD [] = ts.getD (ts.length - 1) [] := by
  rw [List.getLastD_eq_getLast?, List.getLast?_eq_getElem?, List.getD_eq_getElem?_getD]
theorem sys_ext {os : List Int} {ts : List (List Int)} {tot : Int} {n : Nat} {kind : Str} {row : List Int} (hs : Sys os ts tot) (hn : prodI os = n) (hl : ts.length ≤ 99) (hk : kind ∈ kinds) (h : Row n row) (hz : linR os.reverse row [] = 0) : Sys os (ts ++ [wnT os (ts.getLastD []) kind row]) tot := by
  have h2 := hs.two
  refine ⟨hs.ord, by rw [List.length_append]; omega, by rw [List.length_append]; show ts.length + 1 ≤ 100; omega, fun t ht => ?_, hs.t0, hs.t1⟩
  rcases List.mem_append.mp ht with q | q
  · exact hs.tabs t q
  · rw [List.mem_singleton.mp q, hn, last_getD (by omega)]
    exact (wn_ok hs.ord hn hk h hz (hs.at hn (by omega))).1
theorem ext_kept {os : List Int} {ts : List (List Int)} {tot : Int} {n : Nat} {kind : Str} {row : List Int} (hs : Sys os ts tot) (hn : prodI os = n) (hk : kind ∈ kinds) (h : Row n row) (hz : linR os.reverse row [] = 0) :
    (rowT os kind ((ts ++ [wnT os (ts.getLastD []) kind row]).getD (ts.length - 1) []) ((ts ++ [wnT os (ts.getLastD []) kind row]).getD (ts.length - 1 + 1) [])).Perm row := by
  have h2 := hs.two
  have e1 : (ts ++ [wnT os (ts.getLastD []) kind row]).getD (ts.length - 1) [] = ts.getLastD [] := by
    rw [last_getD (by omega), List.getD_eq_getElem?_getD, List.getElem?_append_left (by omega), ← List.getD_eq_getElem?_getD]
  have e2 : (ts ++ [wnT os (ts.getLastD []) kind row]).getD (ts.length - 1 + 1) [] = wnT os (ts.getLastD []) kind row := by
    rw [List.getD_eq_getElem?_getD, List.getElem?_append_right (by omega), show ts.length - 1 + 1 - ts.length = 0 by omega]
    rfl
  rw [e1, e2, last_getD (by omega)]
  exact (wn_ok hs.ord hn hk h hz (hs.at hn (by omega))).2
theorem map_inv {n : Nat} {t w : List Int} (T : Tab (n : Int) t) (W : ∀ x ∈ w, 0 ≤ x ∧ x < (n : Int)) : (w.map (bv (invT t))).map (bv t) = w := by
  rw [List.map_map]
  conv => rhs; rw [← List.map_id w]
  refine List.map_congr_left fun x hx => ?_
  have r := W x hx
  have il : (invT t).length = n := by rw [inv_len]; exact tab_len T
  obtain ⟨m, hm, m0, m1⟩ := at_has T r.1 r.2
  have k := inv_at T m0 hm
  show bv t (bv (invT t) x) = x
  rw [k.bv, hm.bv]
theorem tab_sg {os : List Int} {ts : List (List Int)} {tot : Int} {n p : Nat} {kind : Str} {row : List Int} (hs : Sys os ts tot) (hn : prodI os = n) (hp : p + 1 < ts.length) (hk : kind ∈ kinds) (h : Row n row) (hz : linR os.reverse row [] = 0) : Tab (n : Int) (sgT os ts p kind row) :=
  tab_map (wn_ok hs.ord hn hk h hz (hs.at hn (by omega))).1 (tab_inv (hs.at hn hp))
theorem rw_len {os : List Int} {ts : List (List Int)} {p : Nat} {kind : Str} {row : List Int} (hp : p + 1 < ts.length) : (rwT os ts p kind row).length = ts.length := by
  unfold rwT
  rw [List.length_append, List.length_take, List.length_map, List.length_drop]
  omega
theorem rw_low {os : List Int} {ts : List (List Int)} {p i : Nat} {kind : Str} {row : List Int} (hp : p + 1 < ts.length) (hi : i < p + 1) : (rwT os ts p kind row).getD i [] = ts.getD i [] := by
  unfold rwT
  rw [List.getD_eq_getElem?_getD, List.getElem?_append_left (by rw [List.length_take]; omega), List.getElem?_take_of_lt hi, ← List.getD_eq_getElem?_getD]
theorem rw_high {os : List Int} {ts : List (List Int)} {p i : Nat} {kind : Str} {row : List Int} (hp : p + 1 < ts.length) (hi : p + 1 ≤ i) (hl : i < ts.length) : (rwT os ts p kind row).getD i [] = (sgT os ts p kind row).map (bv (ts.getD i [])) := by
  unfold rwT
  have l : (ts.take (p + 1)).length = p + 1 := by rw [List.length_take]; omega
  rw [List.getD_eq_getElem?_getD, List.getElem?_append_right (by omega), l, List.getElem?_map, List.getElem?_drop, show p + 1 + (i - (p + 1)) = i by omega, List.getElem?_eq_getElem hl, List.getD_eq_getElem?_getD, List.getElem?_eq_getElem hl]
  rfl
theorem rw_first {os : List Int} {ts : List (List Int)} {tot : Int} {n p : Nat} {kind : Str} {row : List Int} (hs : Sys os ts tot) (hn : prodI os = n) (hp : p + 1 < ts.length) (hk : kind ∈ kinds) (h : Row n row) (hz : linR os.reverse row [] = 0) : (rwT os ts p kind row).getD (p + 1) [] = wnT os (ts.getD p []) kind row := by
  rw [rw_high hp (Nat.le_refl _) hp]
  unfold sgT
  exact map_inv (hs.at hn hp) fun x hx => (wn_ok hs.ord hn hk h hz (hs.at hn (by omega))).1.mem x hx
theorem sys_rw {os : List Int} {ts : List (List Int)} {tot : Int} {n p : Nat} {kind : Str} {row : List Int} (hs : Sys os ts tot) (hn : prodI os = n) (hp : p + 1 < ts.length) (hk : kind ∈ kinds) (h : Row n row) (hz : linR os.reverse row [] = 0) : Sys os (rwT os ts p kind row) tot := by
  refine ⟨hs.ord, by rw [rw_len hp]; exact hs.two, by rw [rw_len hp]; exact hs.few, fun t ht => ?_, hs.t0, hs.t1⟩
  unfold rwT at ht
  rcases List.mem_append.mp ht with q | q
  · exact hs.tabs t (List.mem_of_mem_take q)
  · obtain ⟨u, hu, rfl⟩ := List.mem_map.mp q
    have U := hs.tabs u (List.mem_of_mem_drop hu)
    rw [hn] at U ⊢
    exact tab_map (tab_sg hs hn hp hk h hz) U
theorem rw_kept {os : List Int} {ts : List (List Int)} {tot : Int} {n p : Nat} {kind : Str} {row : List Int} (hs : Sys os ts tot) (hn : prodI os = n) (hp : p + 1 < ts.length) (hk : kind ∈ kinds) (h : Row n row) (hz : linR os.reverse row [] = 0) :
    (rowT os kind ((rwT os ts p kind row).getD p []) ((rwT os ts p kind row).getD (p + 1) [])).Perm row := by
  rw [rw_low hp (by omega), rw_first hs hn hp hk h hz]
  exact (wn_ok hs.ord hn hk h hz (hs.at hn (by omega))).2
theorem rw_take {os : List Int} {ts : List (List Int)} {p : Nat} {kind : Str} {row : List Int} (hp : p + 1 < ts.length) : (rwT os ts p kind row).take (p + 1) = ts.take (p + 1) := by
  unfold rwT
  have l : (ts.take (p + 1)).length = p + 1 := by rw [List.length_take]; omega
  rw [List.take_append_of_le_length (by omega), List.take_of_length_le (by omega)]
theorem map_bv {n : Nat} {t : List Int} (hl : t.length = n) : (rgI n).map (bv t) = t := by
  refine List.ext_getElem? fun i => ?_
  by_cases hi : i < n
  · rw [List.getElem?_map, rg_at hi]
    have k := at_bv (m := (i : Int)) hl (by omega) (by omega)
    unfold At at k
    rw [Int.toNat_natCast] at k
    exact k.symm
  · rw [List.getElem?_eq_none (by rw [List.length_map, rg_len]; omega), List.getElem?_eq_none (by omega)]
theorem zw_two (f : Int → Int → Int) (g h : Int → Int) : ∀ l : List Int, List.zipWith f (l.map g) (l.map h) = l.map fun m => f (g m) (h m)
  | [] => rfl
  | x :: l => by rw [List.map_cons, List.map_cons, List.zipWith_cons_cons, zw_two f g h l, List.map_cons]
theorem rot_perm {os sg t u : List Int} {n : Nat} (S : Tab (n : Int) sg) (ht : t.length = n) (hu : u.length = n) : (subT os (sg.map (bv t)) (sg.map (bv u))).Perm (subT os t u) := by
  have e : subT os t u = subT os ((rgI n).map (bv t)) ((rgI n).map (bv u)) := by rw [map_bv ht, map_bv hu]
  rw [e]
  unfold subT
  rw [zw_two, zw_two]
  exact (tab_perm2 S).map _
theorem row_sub {os t u : List Int} {n : Nat} (ho : Ords os) (hn : prodI os = n) (ht : t.length = n) (hu : u.length = n) : Row n (subT os t u) := by
  refine ⟨by unfold subT; rw [List.length_zipWith]; omega, fun x hx => ?_⟩
  unfold subT at hx
  obtain ⟨i, hi, rfl⟩ := List.getElem_of_mem hx
  rw [List.getElem_zipWith, ← hn]
  exact lin_in_n ho _ _
theorem rw_back {os : List Int} {ts : List (List Int)} {tot : Int} {n p i : Nat} {kind : Str} {row : List Int} (hs : Sys os ts tot) (hn : prodI os = n) (hp : p + 1 < ts.length) (hk : kind ∈ kinds) (h : Row n row) (hz : linR os.reverse row [] = 0) (hi : p + 1 ≤ i) (hl : i + 1 < ts.length) :
    (rowT os "swap" ((rwT os ts p kind row).getD i []) ((rwT os ts p kind row).getD (i + 1) [])).Perm (subT os (ts.getD i []) (ts.getD (i + 1) [])) := by
  rw [rw_high hp hi (by omega), rw_high hp (by omega) hl]
  unfold rowT
  rw [if_neg (by decide)]
  exact rot_perm (tab_sg hs hn hp hk h hz) (tab_len (hs.at hn (by omega))) (tab_len (hs.at hn hl))
theorem perm_kept {os : List Int} {kind : Str} {a b : List Int} {row : List Int} (h : (rowT os kind a b).Perm row) : (rowT os kind a b).Perm row := h
end C
end
section
set_option maxRecDepth 100000
set_option maxHeartbeats 4000000
/-! two told tuples lent at once -/
namespace G
open PySem PySem.Spec PyProof.Rows L2
section
variable {K : PySem.W.Frag} {B H H1 : Hp} {σ : L2.St} {ρ : Rho} {te : TE} {S : List Addr}
theorem par_go {j l : Nat} {ta : TA} {D : Ends} (h : ta σ H fun vs H1 => ∃ x y, vs = [x, y] ∧ D.nx ((σ.set j (some x)).set l (some y)) H1) : tPar j l ta D σ H := h
theorem cons_go {ta : TE} {tr : TA} {Q : List V → Hp → Prop} (h : ta σ H fun v H1 => tr σ H1 fun vs H2 => Q (v :: vs) H2) : tCons ta tr σ H Q := h
theorem nil_go {Q : List V → Hp → Prop} (h : Q [] H) : tNil σ H Q := h
theorem or_go {t u : TT} {Q : Bool → Hp → Prop} (h : t σ H fun b H1 => if b = true then Q true H1 else u σ H1 Q) : tOr t u σ H Q := h
theorem lend_step (k : Same H H1) : Same (lend B H S) (lend B H1 S) := fun b o z => by
  by_cases hs : b ∈ S
  · rw [lend_in hs] at z ⊢
    exact k b o z
  · rw [lend_out hs] at z ⊢
    exact z
theorem set_look {j : Nat} {x : Option V} (h : σ[j]? = some x) : σ.set j x = σ := by
  refine List.ext_getElem? fun i => ?_
  by_cases c : i = j
  · subst c
    rw [h, List.getElem?_set_self (List.getElem?_eq_some_iff.mp h).1]
  · rw [List.getElem?_set_ne (Ne.symm c)]
theorem EnvOk.put (e : EnvOk K B σ ρ) {j : Nat} {v : V} {d : PyData} (h : σ[j]? = some (some v)) (hv : Da K B v d) : EnvOk K B σ (ρ.set j (some d)) := by
  have z := e.set hv j
  rw [set_look h] at z
  exact z
theorem EnvOk.step (e : EnvOk K (lend B H S) σ ρ) (k : Same H H1) : EnvOk K (lend B H1 S) σ ρ := e.mono (lend_step k)
theorem ow_str {z : Str} {Q : VK} (h : Ev K te ρ (.str z)) (e : EnvOk K (lend B H S) σ ρ) (s : Same B H) (q : ∀ H', Same H H' → Q (.str z) H') : te σ H Q :=
  h σ _ H e (lend_sub s) Q fun v B' H' g hv => by cases hv; exact q H' g.ex
theorem mk_go {sm : Sp} {E : XK} {j : Nat} {v : V} {Q : Bool → Hp → Prop} (hp : σ[j]? = some (some v)) (h : sm [v] H (fun y H1 => ∃ b, y = .bl b ∧ Q (!b) H1) E) : tNot (tB (tCall sm [] E (tCons (tVar j) tNil))) σ H Q := ⟨v, hp, h⟩
/-- two tuples out at once share nothing -/
theorem Loan.apart {B H0 H1 H : Hp} {p p' : Addr} {ov ov' : V} {l l' : Addr} {as as' : List Addr} {os os' : List Int} {tss tss' : List (List Int)} {tot tot' : Int} (n : Loan K B H0 H1 p ov l as os tss tot) (m : Loan K B H1 H p' ov' l' as' os' tss' tot') :
    ∀ x ∈ p :: l :: as, x ∉ p' :: l' :: as' := fun x hx hy => by
  have z := (m.new x hy).1
  rcases List.mem_cons.mp hx with rfl | hx
  · rw [n.pt] at z
    cases z
  · exact n.nest.full x hx z
end
end G
end
section
set_option maxRecDepth 100000
set_option maxHeartbeats 4000000
/-! systems for wishes -/
namespace C
open PySem PySem.Spec PyProof.Rows L2 G Lin
abbrev WL := List (Str × List Int)
def wlD (ws : WL) : List PyData := ws.map fun w => wishD w.1 w.2
def Wl (n : Nat) (ws : WL) : Prop := ∀ w ∈ ws, w.1 ∈ kinds ∧ Row n w.2
theorem wlD_len (ws : WL) : (wlD ws).length = ws.length := List.length_map ..
theorem wlD_at {ws : WL} {i : Nat} {w : Str × List Int} (h : ws[i]? = some w) : (wlD ws)[i]? = some (wishD w.1 w.2) := by
  unfold wlD
  rw [List.getElem?_map, h]
  rfl
def p_check_orders (ds : List PyData) (d : PyData) : Prop := ∃ os, ds = [.tuple (intsD os)] ∧ Ords os ∧ d = .none
def p_check_table (ds : List PyData) (d : PyData) : Prop := ∃ (os t : List Int) (n : Nat), ds = [.tuple (intsD os), .list (intsD t)] ∧ Ords os ∧ prodI os = n ∧ Tab (n : Int) t ∧ d = .none
def p_are_wishes (ds : List PyData) (d : PyData) : Prop := ∃ (os : List Int) (ws : WL) (n : Nat), ds = [.tuple (intsD os), .list (wlD ws)] ∧ Ords os ∧ prodI os = n ∧ Wl n ws ∧ ws.length ≤ 1000 ∧ d = .bool true
def p_check_wishes (ds : List PyData) (d : PyData) : Prop := ∃ (os : List Int) (ws : WL) (n : Nat), ds = [.tuple (intsD os), .list (wlD ws)] ∧ Ords os ∧ prodI os = n ∧ Wl n ws ∧ ws.length ≤ 1000 ∧ ws ≠ [] ∧ d = .none
def bentAt (os : List Int) (ws : WL) : PyData := match ws.findIdx? fun w => decide (linR os.reverse w.2 [] ≠ 0) with
  | some i => .int (i : Int)
  | none => .none
def p_uneven_at (ds : List PyData) (d : PyData) : Prop := ∃ (os : List Int) (ws : WL), ds = [.tuple (intsD os), .list (wlD ws)] ∧ Ords os ∧ ws.length ≤ 1000 ∧ d = bentAt os ws
def grT (os t : List Int) : WL → List (List Int)
  | [] => [t]
  | w :: ws => t :: grT os (wnT os t w.1 w.2) ws
theorem grT_ne (os t : List Int) : ∀ ws : WL, grT os t ws ≠ []
  | [] => fun h => nomatch h
  | _ :: _ => fun h => nomatch h
theorem grT_len (os : List Int) : ∀ (t : List Int) (ws : WL), (grT os t ws).length = ws.length + 1
  | _, [] => rfl
  | t, w :: ws => by show (grT os _ ws).length + 1 = _; rw [grT_len os _ ws]; rfl
theorem last_cons {α : Type} (d x : α) {l : List α} (h : l ≠ []) : (x :: l).getLastD d = l.getLastD d := by
  cases l with
  | nil => exact absurd rfl h
  | cons y l => rfl
theorem grT_snoc (os : List Int) : ∀ (t : List Int) (ws : WL) (w : Str × List Int), grT os t (ws ++ [w]) = grT os t ws ++ [wnT os ((grT os t ws).getLastD []) w.1 w.2]
  | t, [], w => rfl
  | t, v :: ws, w => by
    show t :: grT os _ (ws ++ [w]) = t :: grT os _ ws ++ [wnT os ((t :: grT os _ ws).getLastD []) w.1 w.2]
    rw [grT_snoc os _ ws w, last_cons _ _ (grT_ne os _ ws)]
    rfl
theorem grT_tab {os : List Int} {n : Nat} (ho : Ords os) (hn : prodI os = n) : ∀ {t : List Int} {ws : WL}, Tab (n : Int) t → Wl n ws → (∀ w ∈ ws, linR os.reverse w.2 [] = 0) → ∀ u ∈ grT os t ws, Tab (n : Int) u
  | t, [], T, _, _, u, hu => by rw [List.mem_singleton.mp hu]; exact T
  | t, w :: ws, T, W, z, u, hu => by
    rcases List.mem_cons.mp hu with rfl | hu
    · exact T
    · have a := W w (List.mem_cons_self ..)
      exact grT_tab ho hn (wn_ok ho hn a.1 a.2 (z w (List.mem_cons_self ..)) T).1 (fun x hx => W x (List.mem_cons_of_mem _ hx)) (fun x hx => z x (List.mem_cons_of_mem _ hx)) u hu
theorem grT_at (os : List Int) : ∀ (t : List Int) (ws : WL), (grT os t ws).getD 0 [] = t
  | _, [] => rfl
  | _, _ :: _ => rfl
theorem grT_step {os : List Int} {n : Nat} (ho : Ords os) (hn : prodI os = n) : ∀ {t : List Int} {ws : WL}, Tab (n : Int) t → Wl n ws → (∀ w ∈ ws, linR os.reverse w.2 [] = 0) → ∀ (i : Nat) (w : Str × List Int), ws[i]? = some w →
    (rowT os w.1 ((grT os t ws).getD i []) ((grT os t ws).getD (i + 1) [])).Perm w.2
  | t, [], _, _, _, i, w, h => by simp at h
  | t, v :: ws, T, W, z, 0, w, h => by
    cases h
    have a := W v (List.mem_cons_self ..)
    have q := (wn_ok ho hn a.1 a.2 (z v (List.mem_cons_self ..)) T).2
    show (rowT os v.1 t ((grT os _ ws).getD 0 [])).Perm v.2
    rw [grT_at]
    exact q
  | t, v :: ws, T, W, z, i + 1, w, h => by
    have a := W v (List.mem_cons_self ..)
    exact grT_step ho hn (wn_ok ho hn a.1 a.2 (z v (List.mem_cons_self ..)) T).1 (fun x hx => W x (List.mem_cons_of_mem _ hx)) (fun x hx => z x (List.mem_cons_of_mem _ hx)) i w h
def p_system_for (ds : List PyData) (x : SysX) : Prop := ∃ (os t : List Int) (ws : WL) (tot : Int) (n : Nat), ds = [.tuple (intsD os), .list (intsD t), .list (wlD ws), .int tot] ∧ Ords os ∧ prodI os = n ∧ Tab (n : Int) t ∧ Wl n ws ∧ ws.length ≤ 900 ∧ ws ≠ [] ∧ (∀ w ∈ ws, linR os.reverse w.2 [] = 0) ∧ 0 ≤ tot ∧ tot < n ∧ x = (os, grT os t ws, tot)
theorem ar_check_orders (ds : List PyData) (d : PyData) (h : p_check_orders ds d) : ds.length = 1 := by obtain ⟨_, rfl, _⟩ := h; rfl
theorem ar_check_table (ds : List PyData) (d : PyData) (h : p_check_table ds d) : ds.length = 2 := by obtain ⟨_, _, _, rfl, _⟩ := h; rfl
theorem ar_are_wishes (ds : List PyData) (d : PyData) (h : p_are_wishes ds d) : ds.length = 2 := by obtain ⟨_, _, _, rfl, _⟩ := h; rfl
theorem ar_check_wishes (ds : List PyData) (d : PyData) (h : p_check_wishes ds d) : ds.length = 2 := by obtain ⟨_, _, _, rfl, _⟩ := h; rfl
theorem ar_uneven_at (ds : List PyData) (d : PyData) (h : p_uneven_at ds d) : ds.length = 2 := by obtain ⟨_, _, rfl, _⟩ := h; rfl
theorem ar_system_for (ds : List PyData) (x : SysX) (h : p_system_for ds x) : ds.length = 4 := by obtain ⟨_, _, _, _, _, rfl, _⟩ := h; rfl
theorem bent_none {os : List Int} {ws : WL} (h : ∀ w ∈ ws, linR os.reverse w.2 [] = 0) : bentAt os ws = .none := by
  unfold bentAt
  have e : ws.findIdx? (fun w => decide (linR os.reverse w.2 [] ≠ 0)) = none := List.findIdx?_eq_none_iff.mpr fun w hw => by simp [h w hw]
  rw [e]
end C
namespace C
open PySem PySem.Spec PyProof.Rows L2 G Lin
def p_law_refused (ds : List PyData) (d : PyData) : Prop := ∃ (os t : List Int) (ws : WL) (n i : Nat) (w : Str × List Int), ds = [.tuple (intsD os), .list (intsD t), .list (wlD ws), .list (intsD w.2)] ∧ Ords os ∧ prodI os = n ∧ Tab (n : Int) t ∧ Wl n ws ∧ ws.length ≤ 900 ∧ bentAt os ws = .int (i : Int) ∧ ws[i]? = some w ∧ d = .bool true
theorem ar_law_refused (ds : List PyData) (d : PyData) (h : p_law_refused ds d) : ds.length = 4 := by obtain ⟨_, _, _, _, _, _, rfl, _⟩ := h; rfl
end C
end
section
set_option maxRecDepth 100000
set_option maxHeartbeats 4000000
namespace K22
open PySem PySem.Spec PyProof.Rows L2 G Lin C
local macro_rules | `(tactic| walk_at "ev") => `(tactic| first
  | exact ev_var rfl | exact ev_int | exact ev_bl | exact ev_non | exact ev_str
  | (apply ev_op; (focus walk_at "ev"); (focus walk_at "ev"); (focus walk_at "op"))
  | (apply ev_cb; (focus walk_at "el"); (focus walk_at "fn"))
  | (apply ev_lst; (focus walk_at "el"); (show _ ≤ sizeLine; decide))
  | (apply ev_tup; (focus walk_at "el"); (show _ ≤ sizeLine; decide)))
local macro_rules | `(tactic| walk_at "el") => `(tactic| first
  | exact el_nil
  | (apply el_cons; (focus walk_at "ev"); (focus walk_at "el")))
local macro_rules | `(tactic| walk_at "fn") => `(tactic| first
  | exact fn_int | exact fn_len | exact fn_all | exact fn_listL | exact fn_listT)
local macro_rules | `(tactic| walk_at "op") => `(tactic| first
  | exact op_I0 (fun _ => .int _) | exact op_I0 (fun _ => .bl _) | exact opp_1 (op_I0 fun _ => .int _)
  | exact op_I (by show (_ : Int) ≠ 0; decide) (fun _ => .int _)
  | exact op_I (by assumption) (fun _ => .int _)
  | exact opp_1 (op_I (by assumption) fun _ => .int _)
  | exact opp_1 (opp_ixL (i := 0) rfl) | exact opp_2 (opp_ixT (i := 0) rfl) | exact opp_2 (opp_ixT (i := 1) rfl) | exact opp_2 (opp_ixT (i := 2) rfl))
theorem sc_check_orders : FnScope ["orders"] ["orders"] (defScope s_check_orders) := ⟨rfl, rfl, rfl, by decide +kernel, rfl, by decide +kernel, by decide +kernel⟩
theorem ok_check_orders {P : Program} {w : World} {K : PySem.W.Frag} {mg : Str → Option Value} {base : Heap} (B : Bi mg) (c_are_orders : Cal P w K mg base 3 "are_orders" ["value"] (sp K p_are_orders)) (h : Has K mg "check_orders" s_check_orders ["orders"]) :
    Cal P w K mg base 4 "check_orders" ["orders"] (sp K p_check_orders) := by
  refine has_d h sc_check_orders ar_check_orders fun f cdv A outer s H E hg hr => ⟨_, (pss_one (ps_if (pt_not (pt_val (pg_cal hg c_are_orders hr (by rfl) (pa_cons (pv 0) pa_nil)))) (pss_one ps_never) pss_nil)), fun ds d hp => ?_⟩
  obtain ⟨os, rfl, ho, rfl⟩ := hp
  have hl := ords_len ho
  exact do_if (b := false) (eb_not (a := true) (eb_B (ev_call (el_cons (ev_var rfl) el_nil) ⟨os, rfl, ho, by omega, rfl⟩)) rfl) (fun h => nomatch h) fun _ => do_next rfl
theorem sc_check_table : FnScope ["orders", "table"] ["orders", "table"] (defScope s_check_table) := ⟨rfl, rfl, rfl, by decide +kernel, rfl, by decide +kernel, by decide +kernel⟩
theorem ok_check_table {P : Program} {w : World} {K : PySem.W.Frag} {mg : Str → Option Value} {base : Heap} (B : Bi mg) (c_is_each_once : Cal P w K mg base 4 "is_each_once" ["value", "many"] (sp K p_is_each_once)) (c_size_of : Cal P w K mg base 1 "size_of" ["orders"] (sp K p_size_of)) (h : Has K mg "check_table" s_check_table ["orders", "table"]) :
    Cal P w K mg base 5 "check_table" ["orders", "table"] (sp K p_check_table) := by
  refine has_d h sc_check_table ar_check_table fun f cdv A outer s H E hg hr => ⟨_, (pss_one (ps_if (pt_not (pt_val (pg_cal hg c_is_each_once hr (by rfl) (pa_cons (pv 1) (pa_cons (pg_cal hg c_size_of hr (by rfl) (pa_cons (pv 0) pa_nil)) pa_nil))))) (pss_one ps_never) pss_nil)), fun ds d hp => ?_⟩
  obtain ⟨os, t, n, rfl, ho, hn, T, rfl⟩ := hp
  have nb := ho.n1 hn
  exact do_if (b := false) (eb_not (a := true) (eb_B (ev_call (el_cons (ev_var rfl) (el_cons (ev_call (el_cons (ev_var rfl) el_nil) ⟨os, rfl, ho, by rw [hn]⟩) el_nil)) ⟨t, n, rfl, tab_len T, by omega, T.mem, T.nd, rfl⟩)) rfl) (fun h => nomatch h) fun _ => do_next rfl
theorem sc_are_wishes : FnScope ["orders", "value", "wish"] ["orders", "value"] (defScope s_are_wishes) := ⟨rfl, rfl, rfl, by decide +kernel, rfl, by decide +kernel, by decide +kernel⟩
theorem ok_are_wishes {P : Program} {w : World} {K : PySem.W.Frag} {mg : Str → Option Value} {base : Heap} (B : Bi mg) (c_is_wish_of : Cal P w K mg base 5 "is_wish_of" ["orders", "value"] (sp K p_is_wish_of)) (h : Has K mg "are_wishes" s_are_wishes ["orders", "value"]) :
    Cal P w K mg base 6 "are_wishes" ["orders", "value"] (sp K p_are_wishes) := by
  refine has_d h sc_are_wishes ar_are_wishes fun f cdv A outer s H E hg hr => ⟨_, (pss_one (ps_ret (pe_and (pe_callB (isiK K) (by rfl) B.isinstance (by decide +kernel) (pa_cons (pv 1) (pa_cons (pe_bltn (v := .ty "list") (by rfl) B.list (by decide +kernel) rfl) pa_nil))) (pe_one (pe_callB (allK K rfl) (by rfl) B.all (by decide +kernel) (pa_cons (pe_lc (own := [("wish", 2)]) (g := (gName 2)) rfl sc_are_wishes.nd (pi_or (pi_listK K (pv 1)) (pi_tupK K (pv 1))) (blkOk_by (N := ["orders", "value", "wish"]) (sc := defScope s_are_wishes) (own := [("wish", 2)]) (by decide +kernel)) (fun _ _ _ _ _ => pg_name (i := 2) sc_are_wishes.nd rfl (Or.inl rfl)) (fun _ _ _ _ _ => pts_nil) (fun _ _ _ _ _ => (pg_cal hg c_is_wish_of hr (by rfl) (pa_cons (pv 0) (pa_cons (pv 2) pa_nil))))) pa_nil)))))), fun ds d hp => ?_⟩
  obtain ⟨os, ws, n, rfl, ho, hn, hw, hl, rfl⟩ := hp
  refine do_ret (ev_and (a := true) (ev_isi (ev_var rfl) (kit_list _)) (fun _ => ev_cb (el_cons (ev_map (it_1 (it_list (ev_var rfl))) (by rw [wlD_len]; omega) (fun _ => .bool true) fun e he => ?_) el_nil) ?_) (fun h => nomatch h)) rfl
  · unfold wlD at he
    obtain ⟨w, hm, rfl⟩ := List.mem_map.mp he
    exact ⟨_, tgw_name, ev_call (el_cons (ev_var rfl) (el_cons (ev_var rfl) el_nil)) ⟨os, w.1, w.2, n, rfl, ho, hn, (hw w hm).1, (hw w hm).2, rfl⟩⟩
  · have q := fn_all (K := K) (bs := ws.map fun _ => true)
    have e1 : (ws.map fun _ => true).all id = true := by rw [List.all_eq_true]; intro b hb; obtain ⟨_, _, rfl⟩ := List.mem_map.mp hb; rfl
    rw [List.map_map, e1] at q
    unfold wlD
    rw [List.map_map]
    exact q
theorem sc_check_wishes : FnScope ["orders", "wishes"] ["orders", "wishes"] (defScope s_check_wishes) := ⟨rfl, rfl, rfl, by decide +kernel, rfl, by decide +kernel, by decide +kernel⟩
theorem ok_check_wishes {P : Program} {w : World} {K : PySem.W.Frag} {mg : Str → Option Value} {base : Heap} (B : Bi mg) (c_are_wishes : Cal P w K mg base 6 "are_wishes" ["orders", "value"] (sp K p_are_wishes)) (h : Has K mg "check_wishes" s_check_wishes ["orders", "wishes"]) :
    Cal P w K mg base 7 "check_wishes" ["orders", "wishes"] (sp K p_check_wishes) := by
  refine has_d h sc_check_wishes ar_check_wishes fun f cdv A outer s H E hg hr => ⟨_, (pss_one (ps_if (PW.pt (pw_or (pt_not (pt_val (pg_cal hg c_are_wishes hr (by rfl) (pa_cons (pv 0) (pa_cons (pv 1) pa_nil))))) (pw_or1 (pt_cmpR (eqK K hr) (pe_callB (lenK K) (by rfl) B.len PySem.boot_len (pa_cons (pv 1) pa_nil)) pe_int (nomark _))))) (pss_one ps_never) pss_nil)), fun ds d hp => ?_⟩
  obtain ⟨os, ws, n, rfl, ho, hn, hw, hl, ne, rfl⟩ := hp
  have lp := List.length_pos_iff.mpr ne
  refine do_if (b := false) (eb_or (a := false) (eb_not (a := true) (eb_B (ev_call (el_cons (ev_var rfl) (el_cons (ev_var rfl) el_nil)) ⟨os, ws, n, rfl, ho, hn, hw, hl, rfl⟩)) rfl) (fun _ => eb_test (ev_op (ev_cb (el_cons (ev_var rfl) el_nil) fn_len) ev_int (opp_eqD (sh_int _) (sh_int _) ?_))) (fun h => nomatch h)) (fun h => nomatch h) fun _ => do_next rfl
  rw [int_eqv, wlD_len, decide_eq_false (by omega)]
theorem sc_uneven_at : FnScope ["orders", "wishes", "at", "_", "row"] ["orders", "wishes"] (defScope s_uneven_at) := ⟨rfl, rfl, rfl, by decide +kernel, rfl, by decide +kernel, by decide +kernel⟩
theorem ok_uneven_at {P : Program} {w : World} {K : PySem.W.Frag} {mg : Str → Option Value} {base : Heap} (B : Bi mg) (c_sum_up : Cal P w K mg base 2 "sum_up" ["orders", "members"] (sp K p_sum_up)) (h : Has K mg "uneven_at" s_uneven_at ["orders", "wishes"]) :
    Cal P w K mg base 3 "uneven_at" ["orders", "wishes"] (sp K p_uneven_at) := by
  refine has_d h sc_uneven_at ar_uneven_at fun f cdv A outer s H E hg hr => ⟨_, (pss_cons (ps_for PassesOwn.never rfl (pi_enum (by rfl) B.enumerate (pa_cons (pv 1) pa_nil)) (pg_tup rfl (pgs_cons (pg_name (i := 2) sc_uneven_at.nd rfl (Or.inl rfl)) (pgs_cons (pg_tup rfl (pgs_cons (pg_name (i := 3) sc_uneven_at.nd rfl (Or.inl rfl)) (pgs_cons (pg_name (i := 4) sc_uneven_at.nd rfl (Or.inl rfl)) pgs_nil))) pgs_nil))) (pss_one (ps_if (pt_cmpR (neK K hr) (pg_cal hg c_sum_up hr (by rfl) (pa_cons (pv 0) (pa_cons (pv 4) pa_nil))) pe_int (nomark _)) (pss_one (ps_ret (pv 2))) pss_nil)))
      (pss_one (ps_ret pe_non))), fun ds d hp => ?_⟩
  obtain ⟨os, ws, rfl, ho, hl, rfl⟩ := hp
  refine do_seq (M := fun _ => ∀ w ∈ ws, linR os.reverse w.2 [] = 0) (do_for (it_enum (el_cons (ev_var rfl) el_nil)) (fun i ρ' => (∃ a b c, ρ' = [some (.tuple (intsD os)), some (.list (wlD ws)), a, b, c]) ∧ ∀ (j : Nat) (w : Str × List Int), j < i → ws[j]? = some w → linR os.reverse w.2 [] = 0) ⟨⟨_, _, _, rfl⟩, fun j w h => by omega⟩ ?_ ?_) fun ρ' hz => do_ret ev_non (bent_none hz).symm
  · rintro i e ρ' he ⟨⟨a, b, c, rfl⟩, hz⟩
    have hi : i < ws.length := by
      have := (List.getElem?_eq_some_iff.mp he).1
      unfold enumD at this
      simpa [wlD_len] using this
    have hw : ws[i]? = some ws[i] := List.getElem?_eq_getElem hi
    have ee : e = .tuple [.int (i : Int), wishD ws[i].1 ws[i].2] := by
      unfold enumD at he
      rw [List.getElem?_map, List.getElem?_zipIdx, wlD_at hw] at he
      simpa using he.symm
    subst ee
    refine ⟨_, tg_tup rfl (tgs_cons tg_name (tgs_cons (tg_tup rfl (tgs_cons tg_name (tgs_cons tg_name tgs_nil))) tgs_nil)), ?_⟩
    refine do_if (b := decide (linR os.reverse ws[i].2 [] ≠ 0)) (eb_test (ev_op (ev_call (el_cons (ev_var rfl) (el_cons (ev_var rfl) el_nil)) ⟨os, ws[i].2, rfl, ho, rfl⟩) ev_int (opp_neD (sh_int _) (sh_int _) ?_))) (fun hb => do_ret (ev_var rfl) ?_) (fun hb => do_next ⟨⟨_, _, _, rfl⟩, fun j w hj hw2 => ?_⟩)
    · rw [int_eqv]
      simp
    · unfold bentAt
      have e1 : ws.findIdx? (fun w => decide (linR os.reverse w.2 [] ≠ 0)) = some i := List.findIdx?_eq_some_iff_getElem.mpr ⟨hi, hb, fun j hj => by
        have z := hz j _ hj (List.getElem?_eq_getElem (by omega))
        simp [z]⟩
      rw [e1]
    · rcases Nat.lt_succ_iff_lt_or_eq.mp hj with h | rfl
      · exact hz j w h hw2
      · rw [hw] at hw2
        cases hw2
        simpa using hb
  · rintro ρ' ⟨_, hz⟩ w hw
    obtain ⟨i, hi, rfl⟩ := List.getElem_of_mem hw
    unfold enumD at hz
    exact hz i _ (by simpa [wlD_len] using hi) (List.getElem?_eq_getElem hi)
end K22
end
section
set_option maxRecDepth 100000
set_option maxHeartbeats 4000000
namespace K22
open PySem PySem.Spec PyProof.Rows L2 G Lin C
local macro_rules | `(tactic| walk_at "ev") => `(tactic| first
  | exact ev_var rfl | exact ev_int | exact ev_bl | exact ev_non | exact ev_str
  | (apply ev_op; (focus walk_at "ev"); (focus walk_at "ev"); (focus walk_at "op"))
  | (apply ev_cb; (focus walk_at "el"); (focus walk_at "fn"))
  | (apply ev_lst; (focus walk_at "el"); (show _ ≤ sizeLine; decide))
  | (apply ev_tup; (focus walk_at "el"); (show _ ≤ sizeLine; decide)))
local macro_rules | `(tactic| walk_at "el") => `(tactic| first
  | exact el_nil
  | (apply el_cons; (focus walk_at "ev"); (focus walk_at "el")))
local macro_rules | `(tactic| walk_at "fn") => `(tactic| first
  | exact fn_int | exact fn_len | exact fn_all | exact fn_listL | exact fn_listT)
local macro_rules | `(tactic| walk_at "op") => `(tactic| first
  | exact op_I0 (fun _ => .int _) | exact op_I0 (fun _ => .bl _) | exact opp_1 (op_I0 fun _ => .int _)
  | exact op_I (by show (_ : Int) ≠ 0; decide) (fun _ => .int _)
  | exact op_I (by assumption) (fun _ => .int _)
  | exact opp_1 (op_I (by assumption) fun _ => .int _)
  | exact opp_1 (opp_ixL (i := 0) rfl) | exact opp_2 (opp_ixT (i := 0) rfl) | exact opp_2 (opp_ixT (i := 1) rfl) | exact opp_2 (opp_ixT (i := 2) rfl))
theorem sc_law_size : FnScope ["orders_told", "found", "order"] ["orders_told"] (defScope s_law_size) := ⟨rfl, rfl, rfl, by decide +kernel, rfl, by decide +kernel, by decide +kernel⟩
theorem ok_law_size {P : Program} {w : World} {K : PySem.W.Frag} {mg : Str → Option Value} {base : Heap} (B : Bi mg)  (h : Has K mg "_law_size" s_law_size ["orders_told"]) :
    Cal P w K mg base 1 "_law_size" ["orders_told"] (sp K p_law_size) := by
  refine has_d h sc_law_size ar_law_size fun f cdv A outer s H E hg hr => ⟨_, (pss_cons (ps_set (i := 1) sc_law_size.nd rfl (Or.inl rfl) pe_int)
      (pss_cons (ps_for PassesOwn.never rfl (pi_or (pi_listK K (pv 0)) (pi_tupK K (pv 0))) (pg_name (i := 2) sc_law_size.nd rfl (Or.inl rfl)) (pss_one (ps_set (i := 1) sc_law_size.nd rfl (Or.inl rfl) (pe_op op_mulA (pv 1) (pv 2)))))
      (pss_one (ps_ret (pv 1))))), fun ds d hp => ?_⟩
  obtain ⟨os, rfl, ho, rfl⟩ := hp
  refine do_seq (M := fun ρ => ρ = [some (.tuple (intsD os)), some (.int 1), none]) (do_set ev_int rfl) fun ρ' e => ?_
  subst e
  refine do_seq (M := fun ρ => ∃ z, ρ = [some (.tuple (intsD os)), some (.int (prodI os)), z]) (do_for (it_2 (it_tup (ev_var rfl))) (fun i ρ => ∃ z, ρ = [some (.tuple (intsD os)), some (.int (prodI (os.take i))), z]) ⟨_, rfl⟩ ?_ ?_) fun ρ' e => ?_
  · rintro i e ρ' he ⟨z, rfl⟩
    obtain ⟨o, ho', rfl⟩ := at_ints he
    have st := take_prod ho'
    refine ⟨_, tg_name, do_set (ev_op (ev_var rfl) (ev_var rfl) (opp_1 (op_I ?_ fun _ => .int _))) ⟨some (.int o), ?_⟩⟩
    · have b1 := prod_take_le ho i
      have b2 := ord_le ho (List.mem_of_getElem? ho')
      exact wide_mul (a := 20) (b := 20) (by have := b1.1; have := b1.2; omega) (by omega) (by decide) (by decide) (by decide)
    · rw [st]
      rfl
  · rintro ρ' ⟨z, rfl⟩
    refine ⟨z, ?_⟩
    rw [List.length_map, List.take_length]
  · obtain ⟨z, rfl⟩ := e
    exact do_ret (ev_var rfl) rfl
theorem sc_law_add : FnScope ["orders_told", "one", "other", "found", "place", "order"] ["orders_told", "one", "other"] (defScope s_law_add) := ⟨rfl, rfl, rfl, by decide +kernel, rfl, by decide +kernel, by decide +kernel⟩
theorem ok_law_add {P : Program} {w : World} {K : PySem.W.Frag} {mg : Str → Option Value} {base : Heap} (B : Bi mg)  (h : Has K mg "_law_add" s_law_add ["orders_told", "one", "other"]) :
    Cal P w K mg base 1 "_law_add" ["orders_told", "one", "other"] (sp K p_law_add) := by
  refine has_d h sc_law_add ar_law_add fun f cdv A outer s H E hg hr => ⟨_, (pss_cons (ps_asg (pe_tup (pa_cons pe_int (pa_cons pe_int pa_nil))) (pg_tup rfl (pgs_cons (pg_name (i := 3) sc_law_add.nd rfl (Or.inl rfl)) (pgs_cons (pg_name (i := 4) sc_law_add.nd rfl (Or.inl rfl)) pgs_nil))))
      (pss_cons (ps_for PassesOwn.never rfl (pi_or (pi_listK K (revK K (pv 0))) (pi_tupK K (revK K (pv 0)))) (pg_name (i := 5) sc_law_add.nd rfl (Or.inl rfl)) (pss_cons (ps_set (i := 3) sc_law_add.nd rfl (Or.inl rfl) (pe_op (addK K) (pv 3) (pe_op op_mulA (pe_op op_modN (pe_callTy call_int1 (by rfl) B.int (by decide +kernel) (pa_cons (pe_op (addK K) (pe_op op_modN (pe_callTy call_int1 (by rfl) B.int (by decide +kernel) (pa_cons (pv 1) pa_nil)) (pv 5)) (pe_op op_modN (pe_callTy call_int1 (by rfl) B.int (by decide +kernel) (pa_cons (pv 2) pa_nil)) (pv 5))) pa_nil)) (pv 5)) (pv 4))))
      (pss_one (ps_par3 (i := 1) (j := 2) (l := 4) rfl sc_law_add.nd rfl rfl rfl (by decide) (by decide) (by decide) rfl rfl rfl (pa_cons (pe_op op_fdivW (pe_callTy call_int1 (by rfl) B.int (by decide +kernel) (pa_cons (pv 1) pa_nil)) (pv 5)) (pa_cons (pe_op op_fdivW (pe_callTy call_int1 (by rfl) B.int (by decide +kernel) (pa_cons (pv 2) pa_nil)) (pv 5)) (pa_cons (pe_op op_mulA (pv 4) (pv 5)) pa_nil))) (by rfl)))))
      (pss_one (ps_ret (pv 3))))), fun ds d hp => ?_⟩
  obtain ⟨os, a, b, rfl, ho, rfl⟩ := hp
  have hr' := ho.rev
  refine do_seq (M := fun ρ => ρ = [some (.tuple (intsD os)), some (.int a), some (.int b), some (.int 0), some (.int 1), none]) (do_asg (d := .tuple [.int 0, .int 1]) (by walk_at "ev") (tg_tup rfl (tgs_cons tg_name (tgs_cons tg_name tgs_nil))) rfl) fun ρ' e => ?_
  subst e
  refine do_seq (M := fun ρ => ∃ m k w z, ρ = [some (.tuple (intsD os)), m, k, some (.int (linR os.reverse [a, b] [])), w, z]) (do_for (it_2 (it_tup (ev_revT (ev_var rfl)))) (fun i ρ => ∃ m k t z, ρ = [some (.tuple (intsD os)), some (.int m), some (.int k), some (.int t), some (.int (prodI (os.reverse.take i))), z] ∧ t + prodI (os.reverse.take i) * linR (os.reverse.drop i) [m, k] [] = linR os.reverse [a, b] []) ⟨a, b, 0, none, rfl, by simp [prodI]⟩ ?_ ?_) fun ρ' e => ?_
  · rintro i e ρ' he ⟨m, k, t, z, rfl, inv⟩
    rw [rev_ints] at he
    obtain ⟨o, ho', rfl⟩ := at_ints he
    have b1 := prod_take_le hr' i
    have b2 := ord_le hr' (List.mem_of_getElem? ho')
    have r1 := fmod_rng (m.fmod o + k.fmod o) (m := o) (by omega)
    have m1 : CMulW ((m.fmod o + k.fmod o).fmod o) (prodI (os.reverse.take i)) := mulW_small (by omega) (by omega) (by omega) (by omega)
    have m2 : CMulW (prodI (os.reverse.take i)) o := mulW_small (by omega) (by omega) (by omega) (by omega)
    have d1 : CDivW m o := divW_small (by omega) (by omega)
    have d2 : CDivW k o := divW_small (by omega) (by omega)
    have n1 : o ≠ 0 := by omega
    rw [drop_at ho'] at inv
    have inv2 := step_add b2.1 inv
    refine ⟨_, tg_name, do_seq (M := fun ρ => ρ = [some (.tuple (intsD os)), some (.int m), some (.int k), some (.int (t + (m.fmod o + k.fmod o).fmod o * prodI (os.reverse.take i))), some (.int (prodI (os.reverse.take i))), some (.int o)]) (do_set (d := .int (t + (m.fmod o + k.fmod o).fmod o * prodI (os.reverse.take i))) (by walk_at "ev") rfl) fun ρ' e => ?_⟩
    subst e
    refine do_par3 (x := .int (m / o)) (y := .int (k / o)) (z := .int (prodI (os.reverse.take i) * o)) (by walk_at "el") ⟨m / o, k / o, t + (m.fmod o + k.fmod o).fmod o * prodI (os.reverse.take i), some (.int o), ?_, ?_⟩
    · rw [take_prod ho']
      rfl
    · rw [take_prod ho']
      exact inv2
  · rintro ρ' ⟨m, k, t, z, rfl, inv⟩
    rw [List.length_reverse, List.length_map, ← List.length_reverse, List.take_length, List.drop_length] at inv
    have e0 : linR [] [m, k] [] = 0 := rfl
    rw [e0, Int.mul_zero, Int.add_zero] at inv
    rw [inv]
    exact ⟨some (.int m), some (.int k), some (.int _), z, rfl⟩
  · obtain ⟨m, k, w, z, rfl⟩ := e
    exact do_ret (ev_var rfl) rfl
theorem sc_law_minus : FnScope ["orders_told", "one", "found", "place", "order"] ["orders_told", "one"] (defScope s_law_minus) := ⟨rfl, rfl, rfl, by decide +kernel, rfl, by decide +kernel, by decide +kernel⟩
theorem ok_law_minus {P : Program} {w : World} {K : PySem.W.Frag} {mg : Str → Option Value} {base : Heap} (B : Bi mg)  (h : Has K mg "_law_minus" s_law_minus ["orders_told", "one"]) :
    Cal P w K mg base 1 "_law_minus" ["orders_told", "one"] (sp K p_law_minus) := by
  refine has_d h sc_law_minus ar_law_minus fun f cdv A outer s H E hg hr => ⟨_, (pss_cons (ps_asg (pe_tup (pa_cons pe_int (pa_cons pe_int pa_nil))) (pg_tup rfl (pgs_cons (pg_name (i := 2) sc_law_minus.nd rfl (Or.inl rfl)) (pgs_cons (pg_name (i := 3) sc_law_minus.nd rfl (Or.inl rfl)) pgs_nil))))
      (pss_cons (ps_for PassesOwn.never rfl (pi_or (pi_listK K (revK K (pv 0))) (pi_tupK K (revK K (pv 0)))) (pg_name (i := 4) sc_law_minus.nd rfl (Or.inl rfl)) (pss_cons (ps_set (i := 2) sc_law_minus.nd rfl (Or.inl rfl) (pe_op (addK K) (pv 2) (pe_op op_mulA (pe_op op_modN (pe_callTy call_int1 (by rfl) B.int (by decide +kernel) (pa_cons (pe_op op_sub (pv 4) (pe_op op_modN (pe_callTy call_int1 (by rfl) B.int (by decide +kernel) (pa_cons (pv 1) pa_nil)) (pv 4))) pa_nil)) (pv 4)) (pv 3))))
      (pss_one (ps_par (i := 1) (j := 3) rfl sc_law_minus.nd rfl rfl (by decide) rfl rfl (pa_cons (pe_op op_fdivW (pe_callTy call_int1 (by rfl) B.int (by decide +kernel) (pa_cons (pv 1) pa_nil)) (pv 4)) (pa_cons (pe_op op_mulA (pv 3) (pv 4)) pa_nil)) (by rfl)))))
      (pss_one (ps_ret (pv 2))))), fun ds d hp => ?_⟩
  obtain ⟨os, a, rfl, ho, rfl⟩ := hp
  have hr' := ho.rev
  refine do_seq (M := fun ρ => ρ = [some (.tuple (intsD os)), some (.int a), some (.int 0), some (.int 1), none]) (do_asg (d := .tuple [.int 0, .int 1]) (by walk_at "ev") (tg_tup rfl (tgs_cons tg_name (tgs_cons tg_name tgs_nil))) rfl) fun ρ' e => ?_
  subst e
  refine do_seq (M := fun ρ => ∃ m w z, ρ = [some (.tuple (intsD os)), m, some (.int (linR os.reverse [] [a])), w, z]) (do_for (it_2 (it_tup (ev_revT (ev_var rfl)))) (fun i ρ => ∃ m t z, ρ = [some (.tuple (intsD os)), some (.int m), some (.int t), some (.int (prodI (os.reverse.take i))), z] ∧ t + prodI (os.reverse.take i) * linR (os.reverse.drop i) [] [m] = linR os.reverse [] [a]) ⟨a, 0, none, rfl, by simp [prodI]⟩ ?_ ?_) fun ρ' e => ?_
  · rintro i e ρ' he ⟨m, t, z, rfl, inv⟩
    rw [rev_ints] at he
    obtain ⟨o, ho', rfl⟩ := at_ints he
    have b1 := prod_take_le hr' i
    have b2 := ord_le hr' (List.mem_of_getElem? ho')
    have r1 := fmod_rng (o - m.fmod o) (m := o) (by omega)
    have m1 : CMulW ((o - m.fmod o).fmod o) (prodI (os.reverse.take i)) := mulW_small (by omega) (by omega) (by omega) (by omega)
    have m2 : CMulW (prodI (os.reverse.take i)) o := mulW_small (by omega) (by omega) (by omega) (by omega)
    have d1 : CDivW m o := divW_small (by omega) (by omega)
    have n1 : o ≠ 0 := by omega
    rw [drop_at ho'] at inv
    have inv2 := step_neg b2.1 inv
    refine ⟨_, tg_name, do_seq (M := fun ρ => ρ = [some (.tuple (intsD os)), some (.int m), some (.int (t + (o - m.fmod o).fmod o * prodI (os.reverse.take i))), some (.int (prodI (os.reverse.take i))), some (.int o)]) (do_set (d := .int (t + (o - m.fmod o).fmod o * prodI (os.reverse.take i))) (by walk_at "ev") rfl) fun ρ' e => ?_⟩
    subst e
    refine do_par (x := .int (m / o)) (y := .int (prodI (os.reverse.take i) * o)) (by walk_at "el") ⟨m / o, t + (o - m.fmod o).fmod o * prodI (os.reverse.take i), some (.int o), ?_, ?_⟩
    · rw [take_prod ho']
      rfl
    · rw [take_prod ho']
      exact inv2
  · rintro ρ' ⟨m, t, z, rfl, inv⟩
    rw [List.length_reverse, List.length_map, ← List.length_reverse, List.take_length, List.drop_length] at inv
    have e0 : linR [] [] [m] = 0 := rfl
    rw [e0, Int.mul_zero, Int.add_zero] at inv
    rw [inv]
    exact ⟨some (.int m), some (.int _), z, rfl⟩
  · obtain ⟨m, w, z, rfl⟩ := e
    exact do_ret (ev_var rfl) rfl
theorem sc_law_total : FnScope ["orders_told", "members", "found", "one"] ["orders_told", "members"] (defScope s_law_total) := ⟨rfl, rfl, rfl, by decide +kernel, rfl, by decide +kernel, by decide +kernel⟩
theorem ok_law_total {P : Program} {w : World} {K : PySem.W.Frag} {mg : Str → Option Value} {base : Heap} (B : Bi mg) (c_law_add : Cal P w K mg base 1 "_law_add" ["orders_told", "one", "other"] (sp K p_law_add)) (h : Has K mg "_law_total" s_law_total ["orders_told", "members"]) :
    Cal P w K mg base 2 "_law_total" ["orders_told", "members"] (sp K p_law_total) := by
  refine has_d h sc_law_total ar_law_total fun f cdv A outer s H E hg hr => ⟨_, (pss_cons (ps_set (i := 2) sc_law_total.nd rfl (Or.inl rfl) pe_int)
      (pss_cons (ps_for PassesOwn.never rfl (pi_or (pi_listK K (pv 1)) (pi_tupK K (pv 1))) (pg_name (i := 3) sc_law_total.nd rfl (Or.inl rfl)) (pss_one (ps_set (i := 2) sc_law_total.nd rfl (Or.inl rfl) (pg_cal hg c_law_add hr (by rfl) (pa_cons (pv 0) (pa_cons (pv 2) (pa_cons (pv 3) pa_nil)))))))
      (pss_one (ps_ret (pv 2))))), fun ds d hp => ?_⟩
  obtain ⟨os, xs, rfl, ho, rfl⟩ := hp
  refine do_seq (M := fun ρ => ρ = [some (.tuple (intsD os)), some (.list (intsD xs)), some (.int 0), none]) (do_set ev_int rfl) fun ρ' e => ?_
  subst e
  refine do_seq (M := fun ρ => ∃ z, ρ = [some (.tuple (intsD os)), some (.list (intsD xs)), some (.int (linR os.reverse xs [])), z]) (do_for (it_1 (it_list (ev_var rfl))) (fun i ρ => ∃ z, ρ = [some (.tuple (intsD os)), some (.list (intsD xs)), some (.int (linR os.reverse (xs.take i) [])), z]) ⟨none, by rw [List.take_zero, lin_nil]⟩ ?_ ?_) fun ρ' e => ?_
  · rintro i e ρ' he ⟨z, rfl⟩
    obtain ⟨x, hx, rfl⟩ := at_ints he
    refine ⟨_, tg_name, do_set (ev_call (el_cons (ev_var rfl) (el_cons (ev_var rfl) (el_cons (ev_var rfl) el_nil))) ⟨os, _, _, rfl, ho, rfl⟩) ⟨some (.int x), ?_⟩⟩
    rw [lin_in ho.pos, List.append_nil, List.take_add_one, hx]
    rfl
  · rintro ρ' ⟨z, rfl⟩
    refine ⟨z, ?_⟩
    rw [List.length_map, List.take_length]
  · obtain ⟨z, rfl⟩ := e
    exact do_ret (ev_var rfl) rfl
theorem sc_law_row : FnScope ["orders_told", "sort", "one", "other", "sign"] ["orders_told", "sort", "one", "other"] (defScope s_law_row) := ⟨rfl, rfl, rfl, by decide +kernel, rfl, by decide +kernel, by decide +kernel⟩
theorem ok_law_row {P : Program} {w : World} {K : PySem.W.Frag} {mg : Str → Option Value} {base : Heap} (B : Bi mg) (c_law_add : Cal P w K mg base 1 "_law_add" ["orders_told", "one", "other"] (sp K p_law_add)) (c_law_minus : Cal P w K mg base 1 "_law_minus" ["orders_told", "one"] (sp K p_law_minus)) (h : Has K mg "_law_row" s_law_row ["orders_told", "sort", "one", "other"]) :
    Cal P w K mg base 2 "_law_row" ["orders_told", "sort", "one", "other"] (sp K p_law_row) := by
  refine has_d h sc_law_row ar_law_row fun f cdv A outer s H E hg hr => ⟨_, (pss_cons (ps_if (pt_cmpR (eqK K hr) (pv 1) pe_str (nomark _)) (pss_one (ps_ret (pe_lc (own := [("sign", 4)]) (g := (gName 4)) rfl sc_law_row.nd (pi_range1 (by rfl) B.range (pa_cons (pe_callB (lenK K) (by rfl) B.len PySem.boot_len (pa_cons (pv 2) pa_nil)) pa_nil)) (blkOk_by (N := ["orders_told", "sort", "one", "other", "sign"]) (sc := defScope s_law_row) (own := [("sign", 4)]) (by decide +kernel)) (fun _ _ _ _ _ => pg_name (i := 4) sc_law_row.nd rfl (Or.inl rfl)) (fun _ _ _ _ _ => pts_nil) (fun _ _ _ _ _ => (pg_cal hg c_law_add hr (by rfl) (pa_cons (pv 0) (pa_cons (pe_ix (ixK K) (pv 2) (pv 4) (fun _ _ => rfl)) (pa_cons (pe_ix (ixK K) (pv 3) (pv 4) (fun _ _ => rfl)) pa_nil)))))))) pss_nil)
      (pss_one (ps_ret (pe_lc (own := [("sign", 4)]) (g := (gName 4)) rfl sc_law_row.nd (pi_range1 (by rfl) B.range (pa_cons (pe_callB (lenK K) (by rfl) B.len PySem.boot_len (pa_cons (pv 2) pa_nil)) pa_nil)) (blkOk_by (N := ["orders_told", "sort", "one", "other", "sign"]) (sc := defScope s_law_row) (own := [("sign", 4)]) (by decide +kernel)) (fun _ _ _ _ _ => pg_name (i := 4) sc_law_row.nd rfl (Or.inl rfl)) (fun _ _ _ _ _ => pts_nil) (fun _ _ _ _ _ => (pg_cal hg c_law_add hr (by rfl) (pa_cons (pv 0) (pa_cons (pe_ix (ixK K) (pv 2) (pv 4) (fun _ _ => rfl)) (pa_cons (pg_cal hg c_law_minus hr (by rfl) (pa_cons (pv 0) (pa_cons (pe_ix (ixK K) (pv 3) (pv 4) (fun _ _ => rfl)) pa_nil))) pa_nil))))))))), fun ds d hp => ?_⟩
  obtain ⟨os, kind, a, b, rfl, ho, hk, hl, hz, rfl⟩ := hp
  have geta : ∀ {i : Nat}, i < a.length → (intsD a)[i]? = some (.int (a.getD i 0)) := fun h => get_ints h
  have getb : ∀ {i : Nat}, i < a.length → (intsD b)[i]? = some (.int (b.getD i 0)) := fun h => get_ints (by omega)
  refine do_seq (M := fun ρ => ρ = [some (.tuple (intsD os)), some (.str kind), some (.list (intsD a)), some (.list (intsD b)), none] ∧ kind ≠ "twin") (do_if (b := decide (kind = "twin")) (eb_test (ev_op (ev_var rfl) ev_str (opp_eqD (kinds_sh hk) (sh_str (by decide +kernel)) (by simp [PyData.eqv] <;> rfl)))) (fun hb => ?_) fun hb => do_next ⟨rfl, of_decide_eq_false hb⟩) fun ρ' e => ?_
  · have e : rowT os kind a b = addT os a b := if_pos (of_decide_eq_true hb)
    rw [e]
    have e2 : PyData.list (intsD (addT os a b)) = .list (((List.range a.length).map fun (i : Nat) => PyData.int (i : Int)).map fun e => .int (linR os.reverse [a.getD (toI e).toNat 0, b.getD (toI e).toNat 0] [])) := by
      unfold addT
      rw [zw_idx hl, intsD, List.map_map, List.map_map]
      rfl
    rw [e2]
    refine do_ret (ev_map (it_range1 (n := a.length) (el_cons (by rw [← ints_len a]; exact ev_cb (el_cons (ev_var rfl) el_nil) fn_len) el_nil) (by omega)) (by rw [List.length_map, List.length_range]; omega) _ fun e he => ?_) rfl
    obtain ⟨i, hi, rfl⟩ := List.mem_map.mp he
    have hi' := List.mem_range.mp hi
    exact ⟨_, tgw_name, ev_call (el_cons (ev_var rfl) (el_cons (ev_op (ev_var rfl) (ev_var rfl) (opp_1 (opp_ixL (geta hi')))) (el_cons (ev_op (ev_var rfl) (ev_var rfl) (opp_1 (opp_ixL (getb hi')))) el_nil))) ⟨os, _, _, rfl, ho, rfl⟩⟩
  · obtain ⟨rfl, hb⟩ := e
    have e : rowT os kind a b = subT os a b := if_neg hb
    rw [e]
    have e2 : PyData.list (intsD (subT os a b)) = .list (((List.range a.length).map fun (i : Nat) => PyData.int (i : Int)).map fun e => .int (linR os.reverse [a.getD (toI e).toNat 0] [b.getD (toI e).toNat 0])) := by
      unfold subT
      rw [zw_idx hl, intsD, List.map_map, List.map_map]
      rfl
    rw [e2]
    refine do_ret (ev_map (it_range1 (n := a.length) (el_cons (by rw [← ints_len a]; exact ev_cb (el_cons (ev_var rfl) el_nil) fn_len) el_nil) (by omega)) (by rw [List.length_map, List.length_range]; omega) _ fun e he => ?_) rfl
    obtain ⟨i, hi, rfl⟩ := List.mem_map.mp he
    have hi' := List.mem_range.mp hi
    refine ⟨_, tgw_name, ev_call (el_cons (ev_var rfl) (el_cons (ev_op (ev_var rfl) (ev_var rfl) (opp_1 (opp_ixL (geta hi')))) (el_cons (ev_call (el_cons (ev_var rfl) (el_cons (ev_op (ev_var rfl) (ev_var rfl) (opp_1 (opp_ixL (getb hi')))) el_nil)) ⟨os, _, rfl, ho, rfl⟩) el_nil))) ⟨os, _, _, rfl, ho, ?_⟩⟩
    rw [neg_add ho]
    rfl
theorem sc_law_kept : FnScope ["system_told", "place", "wish_told", "orders_told", "tables_told", "total_told"] ["system_told", "place", "wish_told"] (defScope s_law_kept) := ⟨rfl, rfl, rfl, by decide +kernel, rfl, by decide +kernel, by decide +kernel⟩
theorem ok_law_kept {P : Program} {w : World} {K : PySem.W.Frag} {mg : Str → Option Value} {base : Heap} (B : Bi mg) (c_law_row : Cal P w K mg base 2 "_law_row" ["orders_told", "sort", "one", "other"] (sp K p_law_row)) (h : Has K mg "_law_kept" s_law_kept ["system_told", "place", "wish_told"]) :
    Cal P w K mg base 3 "_law_kept" ["system_told", "place", "wish_told"] (sp K p_law_kept) := by
  refine has_d h sc_law_kept ar_law_kept fun f cdv A outer s H E hg hr => ⟨_, (pss_cons (ps_asg (pv 0) (pg_tup rfl (pgs_cons (pg_name (i := 3) sc_law_kept.nd rfl (Or.inl rfl)) (pgs_cons (pg_name (i := 4) sc_law_kept.nd rfl (Or.inl rfl)) (pgs_cons (pg_name (i := 5) sc_law_kept.nd rfl (Or.inl rfl)) pgs_nil)))))
      (pss_one (ps_ret (pe_cmpR (eqK K hr) (pe_callB (sortK K) (by rfl) B.sorted (by decide +kernel) (pa_cons (pg_cal hg c_law_row hr (by rfl) (pa_cons (pv 3) (pa_cons (pe_ix (ixK K) (pv 2) pe_int (fun _ _ => rfl)) (pa_cons (pe_ix (ixK K) (pv 4) (pv 1) (fun _ _ => rfl)) (pa_cons (pe_ix (ixK K) (pv 4) (pe_op (addK K) (pv 1) pe_int) (fun _ _ => rfl)) pa_nil))))) pa_nil)) (pe_callB (sortK K) (by rfl) B.sorted (by decide +kernel) (pa_cons (pe_ix (ixK K) (pv 2) pe_int (fun _ _ => rfl)) pa_nil)) (nomark _))))), fun ds d hp => ?_⟩
  obtain ⟨os, ts, tot, p, n, kind, row, rfl, hs, hn, hp, hk, hrow, hpm, rfl⟩ := hp
  have nb := hs.ord.n1 hn
  have ht : ts[p]? = some (ts.getD p []) := by rw [List.getD_eq_getElem?_getD, List.getElem?_eq_getElem (by omega)]; rfl
  have ht2 : ts[p + 1]? = some (ts.getD (p + 1) []) := by rw [List.getD_eq_getElem?_getD, List.getElem?_eq_getElem (by omega)]; rfl
  have T := hs.tabs _ (List.mem_of_getElem? ht)
  have T2 := hs.tabs _ (List.mem_of_getElem? ht2)
  rw [hn] at T T2
  have ep : ((p + 1 : Nat) : Int) = (p : Int) + 1 := by omega
  have rl := hrow.len
  have rl2 := hpm.length_eq
  refine do_seq (M := fun ρ => ∃ a b c, ρ = [some (sysD os ts tot), some (.int (p : Int)), some (wishD kind row), a, b, c] ∧ a = some (.tuple (intsD os)) ∧ b = some (.list (tabsD ts))) (do_asg (ev_var rfl) (tg_tup rfl (tgs_cons tg_name (tgs_cons tg_name (tgs_cons tg_name tgs_nil)))) ⟨_, _, _, rfl, rfl, rfl⟩) fun ρ' e => ?_
  obtain ⟨_, _, c, rfl, rfl, rfl⟩ := e
  refine do_ret (ev_op (x := .list (intsD (sortL (rowT os kind (ts.getD p []) (ts.getD (p + 1) []))))) (y := .list (intsD (sortL (rowT os kind (ts.getD p []) (ts.getD (p + 1) []))))) (ev_cb (el_cons (ev_call (el_cons (ev_var rfl) (el_cons (ev_op (ev_var rfl) ev_int (opp_2 (opp_ixT (i := 0) rfl))) (el_cons (ev_op (ev_var rfl) (ev_var rfl) (opp_1 (opp_ixL (at_tabs ht)))) (el_cons (ev_op (ev_var rfl) (y := .int ((p + 1 : Nat) : Int)) (ev_op (ev_var rfl) ev_int (opp_1 (op_I0 fun _ => by rw [ep]; exact .int _))) (opp_1 (opp_ixL (at_tabs ht2)))) el_nil)))) ⟨os, kind, _, _, rfl, hs.ord, hk, by rw [tab_len T, tab_len T2], by rw [tab_len T]; omega, rfl⟩) el_nil) (fn_sorted (sort_perm _) (sort_sorted _) (by omega))) ?_ (eq_self (Pl.ints (fun x hx => ?_) (by rw [(sort_perm _).length_eq]; omega)))) rfl
  · rw [sort_eq hpm]
    exact ev_cb (el_cons (ev_op (ev_var rfl) ev_int (opp_2 (opp_ixT (i := 1) rfl))) el_nil) (fn_sorted (sort_perm _) (sort_sorted _) (by omega))
  · have := hrow.mem x (hpm.mem_iff.mp ((sort_perm _).mem_iff.mp hx))
    omega
end K22
end
section
set_option maxRecDepth 100000
set_option maxHeartbeats 4000000
namespace K22
open PySem PySem.Spec PyProof.Rows L2 G Lin C
local macro_rules | `(tactic| walk_at "ev") => `(tactic| first
  | exact ev_var rfl | exact ev_int | exact ev_bl | exact ev_non | exact ev_str
  | (apply ev_op; (focus walk_at "ev"); (focus walk_at "ev"); (focus walk_at "op"))
  | (apply ev_cb; (focus walk_at "el"); (focus walk_at "fn"))
  | (apply ev_lst; (focus walk_at "el"); (show _ ≤ sizeLine; decide))
  | (apply ev_tup; (focus walk_at "el"); (show _ ≤ sizeLine; decide)))
local macro_rules | `(tactic| walk_at "el") => `(tactic| first
  | exact el_nil
  | (apply el_cons; (focus walk_at "ev"); (focus walk_at "el")))
local macro_rules | `(tactic| walk_at "fn") => `(tactic| first
  | exact fn_int | exact fn_len | exact fn_all | exact fn_listL | exact fn_listT)
local macro_rules | `(tactic| walk_at "op") => `(tactic| first
  | exact op_I0 (fun _ => .int _) | exact op_I0 (fun _ => .bl _) | exact opp_1 (op_I0 fun _ => .int _)
  | exact op_I (by show (_ : Int) ≠ 0; decide) (fun _ => .int _)
  | exact op_I (by assumption) (fun _ => .int _)
  | exact opp_1 (op_I (by assumption) fun _ => .int _)
  | exact opp_1 (opp_ixL (i := 0) rfl) | exact opp_2 (opp_ixT (i := 0) rfl) | exact opp_2 (opp_ixT (i := 1) rfl) | exact opp_2 (opp_ixT (i := 2) rfl))
theorem sc_law_hash : FnScope ["seed", "index", "mixed"] ["seed", "index"] (defScope s_law_hash) := ⟨rfl, rfl, rfl, by decide +kernel, rfl, by decide +kernel, by decide +kernel⟩
theorem ok_law_hash {P : Program} {w : World} {K : PySem.W.Frag} {mg : Str → Option Value} {base : Heap} (B : Bi mg)  (h : Has K mg "_law_hash" s_law_hash ["seed", "index"]) :
    Cal P w K mg base 1 "_law_hash" ["seed", "index"] (sp K p_law_hash) := by
  refine has_d h sc_law_hash ar_law_hash fun f cdv A outer s H E hg hr => ⟨_, (pss_cons (ps_set (i := 2) sc_law_hash.nd rfl (Or.inl rfl) (pe_op op_modN (pe_callTy call_int1 (by rfl) B.int (by decide +kernel) (pa_cons (pe_op (addK K) (pe_op (addK K) (pe_op (addK K) (pe_op op_mulA (pv 0) pe_int) (pe_op op_mulA (pe_op op_mulA pe_int (pv 1)) (pv 1))) (pe_op op_mulA pe_int (pv 1))) pe_int) pa_nil)) pe_int))
      (pss_cons (ps_set (i := 2) sc_law_hash.nd rfl (Or.inl rfl) (pe_op op_modN (pe_callTy call_int1 (by rfl) B.int (by decide +kernel) (pa_cons (pe_op (addK K) (pe_op (addK K) (pe_op op_mulA (pv 2) (pv 2)) (pe_op op_mulA pe_int (pv 1))) pe_int) pa_nil)) pe_int))
      (pss_one (ps_ret (pe_op op_modN (pe_callTy call_int1 (by rfl) B.int (by decide +kernel) (pa_cons (pe_op op_mulA (pv 2) pe_int) pa_nil)) pe_int))))), fun ds d hp => ?_⟩
  obtain ⟨a, n, rfl, h1, h2, h3, h4, rfl⟩ := hp
  have bn : n.natAbs < 2 ^ 41 := by omega
  have ba : a.natAbs < 2 ^ 31 := by omega
  have b1 : (27644437 * n).natAbs < 2 ^ (25 + 41) := abs_mul (by decide) bn
  have m1 : CMulW a 1140671 := wide_mul ba (b := 21) (by decide) (by decide) (by decide) (by decide)
  have m2 : CMulW 27644437 n := wide_mul (a := 25) (by decide) bn (by decide) (by decide) (by decide)
  have m3 : CMulW (27644437 * n) n := wide_mul b1 bn (by decide) (by decide) (by decide)
  have m4 : CMulW 131 n := wide_mul (a := 8) (by decide) bn (by decide) (by decide) (by decide)
  have m5 : CMulW 62089 n := wide_mul (a := 16) (by decide) bn (by decide) (by decide) (by decide)
  have r1 := fmod_rng (a * 1140671 + 27644437 * n * n + 131 * n + 19) (m := 2147483629) (by decide)
  have m6 : CMulW ((a * 1140671 + 27644437 * n * n + 131 * n + 19).fmod 2147483629) ((a * 1140671 + 27644437 * n * n + 131 * n + 19).fmod 2147483629) :=
    wide_mul (a := 31) (b := 31) (by omega) (by omega) (by decide) (by decide) (by decide)
  have r2 := fmod_rng ((a * 1140671 + 27644437 * n * n + 131 * n + 19).fmod 2147483629 * (a * 1140671 + 27644437 * n * n + 131 * n + 19).fmod 2147483629 + 62089 * n + 32416187) (m := 2147483587) (by decide)
  have m7 : CMulW (((a * 1140671 + 27644437 * n * n + 131 * n + 19).fmod 2147483629 * (a * 1140671 + 27644437 * n * n + 131 * n + 19).fmod 2147483629 + 62089 * n + 32416187).fmod 2147483587) 48271 :=
    wide_mul (a := 31) (b := 16) (by omega) (by decide) (by decide) (by decide) (by decide)
  refine do_seq (M := fun ρ => ρ = [some (.int a), some (.int n), some (.int ((a * 1140671 + 27644437 * n * n + 131 * n + 19).fmod 2147483629))]) (do_set (d := .int ((a * 1140671 + 27644437 * n * n + 131 * n + 19).fmod 2147483629)) (by walk_at "ev") rfl) fun ρ' e => ?_
  subst e
  refine do_seq (M := fun ρ => ρ = [some (.int a), some (.int n), some (.int (((a * 1140671 + 27644437 * n * n + 131 * n + 19).fmod 2147483629 * (a * 1140671 + 27644437 * n * n + 131 * n + 19).fmod 2147483629 + 62089 * n + 32416187).fmod 2147483587))]) (do_set (d := .int (((a * 1140671 + 27644437 * n * n + 131 * n + 19).fmod 2147483629 * (a * 1140671 + 27644437 * n * n + 131 * n + 19).fmod 2147483629 + 62089 * n + 32416187).fmod 2147483587)) (by walk_at "ev") rfl) fun ρ' e => ?_
  subst e
  exact do_ret (d := .int (hashI a n)) (by unfold hashI; walk_at "ev") rfl
def p_law_random (ds : List PyData) (c : Nat) (R : PyData → Nat → Prop) : Prop := ∃ b : Int, ds = [.int b] ∧ 0 < b ∧ b < 2 ^ 100 ∧ c ≤ 2 ^ 39 ∧ ∀ i : Int, 0 ≤ i → i < b → R (.int i) (c + 4)
theorem sc_law_random : FnScope ["generator", "bound", "drawn", "turn"] ["generator", "bound"] (defScope s_law_random) := ⟨rfl, rfl, rfl, by decide +kernel, rfl, by decide +kernel, by decide +kernel⟩
theorem ok_law_random {P : Program} {w : World} {K : PySem.W.Frag} {mg : Str → Option Value} {base : Heap} (B : Bi mg) (c_law_hash : Cal P w K mg base 1 "_law_hash" ["seed", "index"] (sp K p_law_hash)) (h : Has K mg "_law_random" s_law_random ["generator", "bound"]) :
    Cal P w K mg base 2 "_law_random" ["generator", "bound"] (spG K p_law_random) := by
  obtain ⟨f, fd, F, hmg, bd⟩ := h
  refine ⟨f, fd, hmg, kq_of F, bd, fn_g0 F sc_law_random (fun vs H Q E h => ?_) fun cdv A outer s H vs Q E hg hr h => ⟨_, (pss_cons (ps_if (pt_cmpR op_gt (pe_ix ix_A (pv 0) pe_int (fun _ _ => rfl)) pe_int (nomark _)) (pss_cons (ps_set (i := 2) sc_law_random.nd rfl (Or.inl rfl) (pe_op op_modN (pe_callTy call_int1 (by rfl) B.int (by decide +kernel) (pa_cons (pe_ix ix_A (pv 0) pe_int (fun _ _ => rfl)) pa_nil)) (pv 1)))
      (pss_cons (ps_asg (pe_op op_fdivW (pe_ix ix_A (pv 0) pe_int (fun _ _ => rfl)) (pv 1)) (pg_sub (pv 0) pe_int set_list))
      (pss_one (ps_ret (pv 2))))) pss_nil)
      (pss_cons (ps_set (i := 2) sc_law_random.nd rfl (Or.inl rfl) pe_int)
      (pss_cons (ps_for PassesOwn.never rfl (pi_range1 (by rfl) B.range (pa_cons (pe_op op_addA pe_int (pe_op op_fdivW (pe_bits (pv 1)) pe_int)) pa_nil)) (pg_name (i := 3) sc_law_random.nd rfl (Or.inl rfl)) (pss_cons (ps_asg (pe_op op_addA (pe_ix ix_A (pv 0) pe_int (fun _ _ => rfl)) pe_int) (pg_sub (pv 0) pe_int set_list))
      (pss_one (ps_set (i := 2) sc_law_random.nd rfl (Or.inl rfl) (pe_op op_addA (pe_op op_mulA (pv 2) pe_int) (pg_cal hg c_law_hash hr (by rfl) (pa_cons (pe_ix ix_A (pv 0) pe_int (fun _ _ => rfl)) (pa_cons (pe_ix ix_A (pv 0) pe_int (fun _ _ => rfl)) pa_nil))))))))
      (pss_one (ps_ret (pe_op op_modN (pe_callTy call_int1 (by rfl) B.int (by decide +kernel) (pa_cons (pv 2) pa_nil)) (pv 1))))))), ?_⟩⟩
  · obtain ⟨g, us, B, ds, c, R, rfl, _, _, _, a, ⟨b, rfl, _⟩, _⟩ := h
    rw [List.length_cons, a.len]
    rfl
  obtain ⟨g, us, B, ds, c, R, rfl, hs, hgn, n, a, ⟨b, rfl, hb0, hb1, hc, hR⟩, q⟩ := h
  cases a with
  | cons h1 t =>
    cases t
    cases h1
    obtain ⟨x, y, z, hH, x0, x1, y0, y1, z0, z1⟩ := n
    have nb : b ≠ 0 := by omega
    have dv : CDivW x b := wide_div hb0 (b := 100) (by omega) (by decide) (by decide)
    refine ⟨_, rfl, .inl ⟨g, _, 0, _, rfl, rfl, .of hH, rfl, _, _, rfl, rfl, _, rfl, ?_⟩⟩
    refine ite2 (fun hx => ?_) (fun hx => ?_)
    · have hx' : 0 < x := of_decide_eq_true hx
      refine ⟨_, rfl, .inl ⟨g, _, 0, _, rfl, rfl, .of hH, rfl, .inl ⟨_, rfl, _, rfl, _, _, rfl, rfl, nb, ?_⟩⟩⟩
      refine ⟨_, rfl, .inl ⟨g, _, 0, _, rfl, rfl, .of hH, rfl, _, rfl, _, _, rfl, rfl, dv, ?_⟩⟩
      refine ⟨_, rfl, g, _, 0, 0, rfl, rfl, hH, rfl, _, rfl, ?_⟩
      have r := fmod_rng x hb0
      have dx : x / b ≤ x := Int.ediv_le_self _ x0
      have dn : 0 ≤ x / b := Int.ediv_nonneg x0 (by omega)
      refine q _ B _ (.int (x.fmod b)) (c + 4) ⟨fun a o ne e => ?_, Same.refl _, fun a o e => ?_, fun a o e m => (by rw [m] at e; cases e), hgn⟩ ⟨x / b, y, z, upd_same, dn, by omega, y0, y1, z0, by omega⟩ (.int _) (hR _ r.1 r.2)
      · rw [upd_ne ne]
        exact e
      · rw [upd_ne (ne_of_none e hgn)]
        exact hs a o e
    · have ib := bits_le hb0 hb1
      generalize hk : Builtin.Int.intBits b = bits at ib
      have hd30 : ((bits : Nat) : Int) / 30 = ((bits / 30 : Nat) : Int) := by omega
      have e1 : (1 : Int) + ((bits : Nat) : Int) / 30 = ((1 + bits / 30 : Nat) : Int) := by omega
      refine ⟨_, rfl, b, rfl, ?_⟩
      rw [hk]
      refine ⟨_, _, rfl, rfl, wide_div (by decide) (b := 5) (by decide) (by decide) (by decide), .inl ⟨_, _, rfl, rfl, _, rfl, by omega, by omega, ?_⟩⟩
      rw [e1, Int.toNat_natCast]
      refine for_range (lo := 0) (n := 1 + bits / 30) (fun i σ' H' => ∃ (dn : Nat) (t : Option V) (B' : Hp), σ' = [some (.ref g), some (.int b), some (.int dn), t] ∧ dn < 2 ^ (32 * i) ∧ Gg g B H B' H' ∧ H' g = some (.lst [.int x, .int y, .int (z + i)])) ?_ ?_ ?_
      · exact ⟨0, none, B, rfl, by decide, .refl hs hgn, by rw [hH]; simp⟩
      · rintro i σ' H' hi ⟨dn, t, B', rfl, hdn, gg, hg'⟩
        refine ⟨_, rfl, .inl ⟨g, _, 2, _, rfl, rfl, .of hg', rfl, .inl ⟨_, _, rfl, rfl, ?_⟩⟩⟩
        refine ⟨_, rfl, g, _, 2, 2, rfl, rfl, hg', rfl, ?_⟩
        have mw : CMulW (dn : Int) 2147483587 := by
          refine wide_mul (a := 32 * i + 1) (b := 32) ?_ (by decide) (by omega) (by decide) (by omega)
          rw [Int.natAbs_natCast, Nat.pow_succ]
          omega
        refine ⟨_, rfl, .inl ⟨_, _, rfl, rfl, mw, ?_⟩⟩
        refine ⟨_, rfl, .inl ⟨g, _, 1, _, rfl, rfl, .of upd_same, rfl, ?_⟩⟩
        refine ⟨_, rfl, .inl ⟨g, _, 2, _, rfl, rfl, .of upd_same, rfl, ?_⟩⟩
        have sb : Same B' (upd H' g (.lst [.int x, .int y, .int (z + i + 1)])) := fun a o e => by
          rw [upd_ne (ne_of_none e gg.off)]
          exact gg.sub a o e
        refine ⟨B', [.int y, .int (z + i + 1)], .int (hashI y (z + i + 1)), sb, .cons (.int _) (.cons (.int _) .nil), ⟨y, z + i + 1, rfl, y0, y1, by omega, by omega, rfl⟩, fun v B2 H2 g2 hv => ?_⟩
        cases hv
        have hr2 := hash_rng y (z + i + 1)
        refine .inl ⟨_, _, rfl, rfl, (dn * 2147483587 + (hashI y (z + i + 1)).toNat), some (.int (0 + i)), B2, ?_, ?_, ?_, ?_⟩
        · have e : ((dn * 2147483587 + (hashI y (z + i + 1)).toNat : Nat) : Int) = (dn : Int) * 2147483587 + hashI y (z + i + 1) := by omega
          rw [e]
          rfl
        · rw [show 32 * (i + 1) = 32 * i + 32 by omega, Nat.pow_add]
          generalize 2 ^ (32 * i) = p at *
          omega
        · have gB2 : B2 g = none := by
            cases zz : B2 g with
            | none => rfl
            | some o => exact absurd (g2.new g o zz gg.off) (by rw [upd_same]; simp)
          refine ⟨fun a o ne e => g2.ex a o ?_, gg.bb.trans g2.bb, g2.sub, fun a o e m => ?_, gB2⟩
          · rw [upd_ne ne]
            exact gg.ex a o ne e
          · cases w1 : B' a with
            | none =>
              have z2 := g2.new a o e w1
              have ne : a ≠ g := fun qq => by subst qq; rw [gB2] at e; cases e
              rw [upd_ne ne] at z2
              cases w2 : H a with
              | none => rfl
              | some u => rw [gg.ex a u ne w2] at z2; cases z2
            | some u => exact gg.new a u w1 m
        · rw [g2.ex _ _ upd_same]
          have e : z + (i : Int) + 1 = z + ((i + 1 : Nat) : Int) := by omega
          show some (HO.lst [V.int x, V.int y, V.int (z + i + 1)]) = _
          rw [e]
      · rintro σ' H' ⟨dn, t, B', rfl, hdn, gg, hg'⟩
        refine ⟨_, rfl, .inl ⟨_, rfl, _, rfl, _, _, rfl, rfl, nb, ?_⟩⟩
        have r := fmod_rng (dn : Int) hb0
        exact q _ B' _ (.int ((dn : Int).fmod b)) (c + 4) gg ⟨x, y, _, hg', x0, x1, y0, y1, by omega, by omega⟩ (.int _) (hR _ r.1 r.2)

end K22
end
section
set_option maxRecDepth 100000
set_option maxHeartbeats 4000000
namespace K22
open PySem PySem.Spec PyProof.Rows L2 G Lin C
local macro_rules | `(tactic| walk_at "ev") => `(tactic| first
  | exact ev_var rfl | exact ev_int | exact ev_bl | exact ev_non | exact ev_str
  | (apply ev_op; (focus walk_at "ev"); (focus walk_at "ev"); (focus walk_at "op"))
  | (apply ev_cb; (focus walk_at "el"); (focus walk_at "fn"))
  | (apply ev_lst; (focus walk_at "el"); (show _ ≤ sizeLine; decide))
  | (apply ev_tup; (focus walk_at "el"); (show _ ≤ sizeLine; decide)))
local macro_rules | `(tactic| walk_at "el") => `(tactic| first
  | exact el_nil
  | (apply el_cons; (focus walk_at "ev"); (focus walk_at "el")))
local macro_rules | `(tactic| walk_at "fn") => `(tactic| first
  | exact fn_int | exact fn_len | exact fn_all | exact fn_listL | exact fn_listT)
local macro_rules | `(tactic| walk_at "op") => `(tactic| first
  | exact op_I0 (fun _ => .int _) | exact op_I0 (fun _ => .bl _) | exact opp_1 (op_I0 fun _ => .int _)
  | exact op_I (by show (_ : Int) ≠ 0; decide) (fun _ => .int _)
  | exact op_I (by assumption) (fun _ => .int _)
  | exact opp_1 (op_I (by assumption) fun _ => .int _)
  | exact opp_1 (opp_ixL (i := 0) rfl) | exact opp_2 (opp_ixT (i := 0) rfl) | exact opp_2 (opp_ixT (i := 1) rfl) | exact opp_2 (opp_ixT (i := 2) rfl))
theorem sc_law_orders : FnScope ["generator", "most", "groups", "group"] ["generator", "most"] (defScope s_law_orders) := ⟨rfl, rfl, rfl, by decide +kernel, rfl, by decide +kernel, by decide +kernel⟩
theorem ok_law_orders {P : Program} {w : World} {K : PySem.W.Frag} {mg : Str → Option Value} {base : Heap} (B : Bi mg) (c_law_random : Cal P w K mg base 2 "_law_random" ["generator", "bound"] (spG K p_law_random)) (c_law_size : Cal P w K mg base 1 "_law_size" ["orders_told"] (sp K p_law_size)) (h : Has K mg "_law_orders" s_law_orders ["generator", "most"]) :
    Cal P w K mg base 3 "_law_orders" ["generator", "most"] (spG K p_law_orders12) := by
  refine has_g h sc_law_orders rfl ar_law_orders12 (fun f cdv A outer s H E hg hr => ⟨_, (pss_cons (ps_set (i := 2) sc_law_orders.nd rfl (Or.inl rfl) (pe_lst (pa_cons (pe_tup (pa_cons pe_int pa_nil)) (pa_cons (pe_tup (pa_cons pe_int pa_nil)) (pa_cons (pe_tup (pa_cons pe_int pa_nil)) (pa_cons (pe_tup (pa_cons pe_int (pa_cons pe_int pa_nil))) (pa_cons (pe_tup (pa_cons pe_int pa_nil)) (pa_cons (pe_tup (pa_cons pe_int pa_nil)) (pa_cons (pe_tup (pa_cons pe_int (pa_cons pe_int pa_nil))) (pa_cons (pe_tup (pa_cons pe_int pa_nil)) (pa_cons (pe_tup (pa_cons pe_int pa_nil)) (pa_cons (pe_tup (pa_cons pe_int (pa_cons pe_int pa_nil))) (pa_cons (pe_tup (pa_cons pe_int (pa_cons pe_int pa_nil))) (pa_cons (pe_tup (pa_cons pe_int (pa_cons pe_int (pa_cons pe_int pa_nil)))) (pa_cons (pe_tup (pa_cons pe_int pa_nil)) (pa_cons (pe_tup (pa_cons pe_int (pa_cons pe_int pa_nil))) (pa_cons (pe_tup (pa_cons pe_int pa_nil)) (pa_cons (pe_tup (pa_cons pe_int (pa_cons pe_int pa_nil))) (pa_cons (pe_tup (pa_cons pe_int pa_nil)) (pa_cons (pe_tup (pa_cons pe_int (pa_cons pe_int pa_nil))) (pa_cons (pe_tup (pa_cons pe_int (pa_cons pe_int (pa_cons pe_int pa_nil)))) pa_nil)))))))))))))))))))))
      (pss_cons (ps_setLc (i := 2) (own := [("group", 3)]) (g := (gName 3)) rfl sc_law_orders.nd rfl rfl (sw_true rfl rfl rfl (by decide +kernel)) (pi_or (pi_listK K (pv 2)) (pi_tupK K (pv 2))) (blkOk_by (N := ["generator", "most", "groups", "group"]) (sc := defScope s_law_orders) (own := [("group", 3)]) (by decide +kernel)) (fun _ _ _ _ _ => pg_name (i := 3) sc_law_orders.nd rfl (Or.inl rfl)) (fun _ _ _ _ _ => pts_one (pt_cmpR op_le (pg_cal hg c_law_size hr (by rfl) (pa_cons (pv 3) pa_nil)) (pv 1) (nomark _))) (fun _ _ _ _ _ => (pv 3)))
      (pss_one (ps_ret (pe_ix (ixK K) (pv 2) (pg_cal hg c_law_random hr (by rfl) (pa_cons (pv 0) (pa_cons (pe_callB (lenK K) (by rfl) B.len PySem.boot_len (pa_cons (pv 2) pa_nil)) pa_nil))) (fun _ _ => rfl)))))), fun ds c R hp => ?_⟩) (List.cons_ne_nil _ _)
  obtain ⟨rfl, hc, hR⟩ := hp
  refine dg_seq (M := fun ρ c' => ρ = [none, some (.int 12), some (.list (tupsD menuW)), none] ∧ c' = c) (dg_set (P := fun d c' => d = .list (tupsD menuW) ∧ c' = c) (eg_pure (d := .list (tupsD menuW)) (by show Ev K _ _ (PyData.list (tupsD menuW)); unfold tupsD menuW; walk_at "ev") ⟨rfl, rfl⟩) (by decide) ?_) ?_
  · rintro d c' ⟨rfl, rfl⟩
    exact ⟨rfl, rfl⟩
  rintro ρ' c' ⟨rfl, rfl⟩
  have hsz : ∀ e ∈ tupsD menuW, ∃ os, e = .tuple (intsD os) ∧ os ∈ menuW := fun e he => by
    obtain ⟨os, h, rfl⟩ := List.mem_map.mp he
    exact ⟨os, rfl, h⟩
  have key : PyData.list (((tupsD menuW).filter fun _ => true).map id) = .list (tupsD menuW) := by rw [List.filter_eq_self.mpr (fun _ _ => rfl), List.map_id]
  refine dg_seq (M := fun ρ c2 => ρ = [none, some (.int 12), some (.list (tupsD menuW)), none] ∧ c2 = c') (dg_set (P := fun d c2 => d = .list (tupsD menuW) ∧ c2 = c') (eg_pure (ev_eq (ev_lc (it_1 (it_list (ev_var (i := 2) (d := .list (tupsD menuW)) rfl))) (by decide) (fun _ => true) id fun e he => by
      obtain ⟨os, rfl, ho⟩ := hsz e he
      have sm := menuW_small os ho
      refine ⟨_, tgw_name, eb_test (ev_op (ev_call (el_cons (ev_var rfl) el_nil) ⟨os, rfl, sm.1, rfl⟩) (ev_var rfl) (op_I0 fun _ => ?_)), fun _ => ev_var rfl⟩
      rw [decide_eq_true sm.2]
      exact .bl _) key) ⟨rfl, rfl⟩) (by decide) ?_) ?_
  · rintro d c2 ⟨rfl, rfl⟩
    exact ⟨rfl, rfl⟩
  rintro ρ' c2 ⟨rfl, rfl⟩
  refine dg_ret (eg_op (P1 := fun d c1 => d = .list (tupsD menuW) ∧ c1 = c2) (P2 := fun x y c3 => (∃ i : Nat, y = .int i ∧ i < 19) ∧ c3 = c2 + 4) (eg_pure (ev_var rfl) ⟨rfl, rfl⟩) ?_ ?_)
  · rintro x c1 ⟨rfl, rfl⟩
    exact eg_call (ds := [.int 19]) (el_cons (ev_cb (el_cons (ev_var rfl) el_nil) fn_len) el_nil) (R := fun y c3 => (∃ i : Nat, y = .int i ∧ i < 19) ∧ c3 = c1 + 4) ⟨19, rfl, by decide, by decide, hc, fun i h0 h1 => ⟨⟨i.toNat, by rw [Int.toNat_of_nonneg h0], by omega⟩, rfl⟩⟩ fun _ _ h => h
  · rintro x y c1 c3 ⟨rfl, rfl⟩ ⟨⟨i, rfl, hi⟩, rfl⟩
    have hl : i < menuW.length := hi
    refine ⟨.tuple (intsD menuW[i]), opp_1 (opp_ixL ?_), hR _ (List.getElem_mem hl)⟩
    unfold tupsD
    rw [List.getElem?_map, List.getElem?_eq_getElem hl]
    rfl
theorem sc_law_shuffled : FnScope ["generator", "size", "left", "found", "turn"] ["generator", "size"] (defScope s_law_shuffled) := ⟨rfl, rfl, rfl, by decide +kernel, rfl, by decide +kernel, by decide +kernel⟩
theorem ok_law_shuffled {P : Program} {w : World} {K : PySem.W.Frag} {mg : Str → Option Value} {base : Heap} (B : Bi mg) (c_law_random : Cal P w K mg base 2 "_law_random" ["generator", "bound"] (spG K p_law_random)) (h : Has K mg "_law_shuffled" s_law_shuffled ["generator", "size"]) :
    Cal P w K mg base 3 "_law_shuffled" ["generator", "size"] (spG K p_law_shuffledN) := by
  --RAW
  obtain ⟨f, fd, F, hmg, bd⟩ := h
  refine ⟨f, fd, hmg, kq_of F, bd, fn_g0 F sc_law_shuffled (fun vs H Q E h => ?_) fun cdv A outer s H vs Q E hg hr h => ⟨_, (pss_cons (ps_par (i := 2) (j := 3) rfl sc_law_shuffled.nd rfl rfl (by decide) rfl rfl (pa_cons (pe_listRg rfl (by rfl) B.list (prg_1 (by rfl) B.range (pv 1))) (pa_cons (pe_lst pa_nil) pa_nil)) (by rfl))
      (pss_cons (ps_for PassesOwn.never rfl (pi_range1 (by rfl) B.range (pa_cons (pv 1) pa_nil)) (pg_name (i := 4) sc_law_shuffled.nd rfl (Or.inl rfl)) (pss_one (ps_expr (pe_bm PySem.F.plainAttrs_list PySem.F.slot_list_append PySem.F.type_list_append mt_append (pv 3) (pa_cons (pe_bm PySem.F.plainAttrs_list PySem.F.slot_list_pop PySem.F.type_list_pop mt_popAt (pv 2) (pa_cons (pg_cal hg c_law_random hr (by rfl) (pa_cons (pv 0) (pa_cons (pe_callB (lenK K) (by rfl) B.len PySem.boot_len (pa_cons (pv 2) pa_nil)) pa_nil))) pa_nil)) pa_nil)))))
      (pss_one (ps_ret (pv 3))))), ?_⟩⟩
  · obtain ⟨g, us, B, ds, c, R, rfl, _, _, _, a, hp, _⟩ := h
    rw [List.length_cons, a.len, ar_law_shuffledN ds c R hp]
    rfl
  obtain ⟨g, us, B, ds, c, R, rfl, hs, hgn, n, a, ⟨m, rfl, hm, hc, hR⟩, q⟩ := h
  cases a with
  | cons h1 t =>
    cases t
    cases h1
    have erg : rgV 0 (m : Int) = (rgI m).map V.int := by
      unfold rgV rgI
      rw [Int.sub_zero, Int.toNat_natCast, List.map_map]
      refine List.map_congr_left fun i _ => ?_
      show V.int (0 + (i : Int)) = V.int (i : Int)
      rw [Int.zero_add]
    refine seq_go ⟨_, rfl, _, rfl, RgOk.of_le (by decide) (by omega) (by decide) (by omega), fun l hl0 => ⟨Nat.zero_le _, fun f0 hf0 => ⟨_, _, rfl, ?_⟩⟩⟩
    dsimp only
    rw [erg]
    have nlg : l ≠ g := fun e => n.ne (e ▸ hl0)
    have nfl : f0 ≠ l := fun e => by rw [e, upd_same] at hf0; cases hf0
    have hfH : H f0 = none := by rw [upd_ne nfl] at hf0; exact hf0
    have nfg : f0 ≠ g := fun e => n.ne (e ▸ hfH)
    have hBl : B l = none := hs.free hl0
    have hBf : B f0 = none := hs.free hfH
    have H1s : Same H (upd H l (.lst ((rgI m).map .int))) := same_new hl0
    have hf0' : upd H l (.lst ((rgI m).map .int)) f0 = none := by rw [upd_ne nfl]; exact hfH
    have s2 : Same H (upd (upd H l (.lst ((rgI m).map .int))) f0 (.lst [])) := H1s.trans (same_new hf0')
    have e1 : EnvOk K B [some (.ref g), some (.int (m : Int)), some (.ref l), some (.ref f0), none] [none, some (.int (m : Int)), none, none, none] := env_n _ (env_s (.int _) (env_n _ (env_n _ (env_n _ env_nil))))
    refine seq_go (for_go (it_range1 (n := m) (el_cons (ev_var (i := 1) rfl) el_nil) (by omega) _ B _ e1 (hs.trans s2) _ fun J B1 H1 g1 w => ?_))
    have hl1 : H1 l = some (.lst ((rgI m).map .int)) := g1.ex _ _ (by rw [upd_ne nfl.symm, upd_same])
    have hf1 : H1 f0 = some (.lst []) := g1.ex _ _ upd_same
    have n1 : GenAt H1 g c := (n.same s2).same g1.ex
    have k1 : ∀ b o, b ≠ g → H b = some o → H1 b = some o := fun b o _ e => g1.ex _ _ (s2 _ _ e)
    refine for_it w (fun k σ' H' => ∃ (B' : Hp) (ls fs : List Int) (z : Option V), σ' = [some (.ref g), some (.int (m : Int)), some (.ref l), some (.ref f0), z] ∧ (∀ b o, b ≠ g → H b = some o → H' b = some o) ∧ Same B1 B' ∧ Same B' H' ∧ B' g = none ∧ B' l = none ∧ B' f0 = none ∧ Same B B' ∧ (∀ b o, B' b = some o → B b = none → H b = none) ∧ H' l = some (.lst (ls.map .int)) ∧ H' f0 = some (.lst (fs.map .int)) ∧ GenAt H' g (c + 4 * k) ∧ (fs ++ ls).Perm (rgI m) ∧ ls.length + k = m) ?_ (fun k σ' H' _ ⟨B', _, _, _, _, _, sb, sh, _⟩ => sb.trans sh) ?_ ?_
    · refine ⟨B1, rgI m, [], none, rfl, k1, Same.refl _, g1.sub, ?_, g1.keepNone hBl (by rw [upd_ne nfl.symm, upd_same]; simp), g1.keepNone hBf (by rw [upd_same]; simp), g1.bb, fun b o e nb => ?_, hl1, hf1, n1, List.Perm.refl _, by rw [rg_len]; rfl⟩
      · exact g1.keepNone hgn (n.same s2).ne
      · exact s2.free (g1.new b o e nb)
    · rintro k x σ' H' H2 hk ⟨B', ls, fs, z, rfl, ex, sb, sh, bg, bl, bf, bB, bn, hL, hF, nG, pm, hlen⟩ y
      obtain ⟨B2, el, g2, hel, hx⟩ := y B' sb sh
      have hk' : k < m := by have h0 := hk; rw [List.length_map, List.length_range] at h0; exact h0
      have plen := pm.length_eq
      rw [List.length_append, rg_len] at plen
      have eel : el = .int (k : Int) := by
        rw [List.getElem?_map, List.getElem?_range hk'] at hel
        exact (Option.some.inj hel).symm
      subst eel
      cases hx
      have hL2 : H2 l = some (.lst (ls.map .int)) := g2.ex _ _ hL
      have hF2 : H2 f0 = some (.lst (fs.map .int)) := g2.ex _ _ hF
      have nG2 := nG.same g2.ex
      have bg2 : B2 g = none := g2.keepNone bg nG.ne
      refine nm_go ?_
      refine ⟨_, rfl, .inl ⟨rfl, _, .of hF2⟩, _, rfl, .inl ⟨rfl, _, .of hL2⟩, _, rfl, _, rfl, _, _, rfl, .inl (.of hL2), ?_⟩
      rw [List.length_map]
      refine ⟨g, [.int ((ls.length : Nat) : Int)], B2, [.int ((ls.length : Nat) : Int)], c + 4 * k, fun d c2 => (∃ i : Nat, d = .int i ∧ i < ls.length) ∧ c2 = c + 4 * k + 4, rfl, g2.sub, bg2, nG2, .cons (.int _) .nil, ⟨_, rfl, by omega, by omega, by omega, fun i h0 h1 => ⟨⟨i.toNat, by rw [Int.toNat_of_nonneg h0], by omega⟩, rfl⟩⟩, ?_⟩
      rintro v B3 H3 d c2 g3 n3 hv ⟨⟨i, rfl, hi⟩, rfl⟩
      cases hv
      have hL3 : H3 l = some (.lst (ls.map .int)) := g3.ex _ _ nlg hL2
      have hF3 : H3 f0 = some (.lst (fs.map .int)) := g3.ex _ _ nfg hF2
      obtain ⟨z0, hz⟩ : ∃ z, ls[i]? = some z := ⟨_, List.getElem?_eq_getElem hi⟩
      have bl3 : B3 l = none := g3.keepN (g2.keepNone bl (by rw [hL]; simp)) (by rw [hL2]; simp)
      have bf3 : B3 f0 = none := g3.keepN (g2.keepNone bf (by rw [hF]; simp)) (by rw [hF2]; simp)
      refine ⟨l, ls.map .int, (i : Int), i, .int z0, rfl, rfl, hL3, by omega, by omega, seq_nat (by rw [List.length_map]; exact hi), by rw [List.getElem?_map, hz]; rfl, f0, fs.map .int, .int z0, rfl, rfl, by rw [upd_ne nfl]; exact hF3, by rw [List.length_map, sizeLine_eq]; omega, ?_⟩
      have ex3 : ∀ b o, b ≠ g → H b = some o → H3 b = some o := fun b o nb e => g3.ex _ _ nb (g2.ex _ _ (ex b o nb e))
      refine ⟨B3, ls.eraseIdx i, fs ++ [z0], _, rfl, fun b o nb e => ?_, (sb.trans g2.bb).trans g3.bb, fun b o e => ?_, g3.off, bl3, bf3, (bB.trans g2.bb).trans g3.bb, fun b o e nb => ?_, ?_, ?_, ?_, ?_, ?_⟩
      · rw [upd_ne (ne_of_none e hfH), upd_ne (ne_of_none e hl0)]
        exact ex3 b o nb e
      · rw [upd_ne (ne_of_none e bf3), upd_ne (ne_of_none e bl3)]
        exact g3.sub b o e
      · cases q2 : B2 b with
        | some o2 =>
          cases q1 : B' b with
          | some o1 => exact bn b o1 q1 nb
          | none =>
            have z1 := g2.new b o2 q2 q1
            cases w : H b with
            | none => rfl
            | some u =>
              by_cases c : b = g
              · subst c
                rw [bg2] at q2
                cases q2
              · rw [ex b u c w] at z1
                cases z1
        | none =>
          have z1 := g3.new b o e q2
          cases w : H b with
          | none => rfl
          | some u =>
            by_cases c : b = g
            · subst c
              rw [g3.off] at e
              cases e
            · rw [g2.ex _ _ (ex b u c w)] at z1
              cases z1
      · rw [upd_ne nfl.symm, upd_same, erase_map]
      · rw [upd_same, List.map_append]
        rfl
      · obtain ⟨a1, b1, m1, h1, r1⟩ := n3
        exact ⟨a1, b1, m1, by rw [upd_ne nfg.symm, upd_ne nlg.symm]; exact h1, r1⟩
      · have p1 := perm_erase hz
        refine List.Perm.trans ?_ pm
        rw [List.append_assoc]
        exact p1.symm.append_left fs
      · rw [List.length_eraseIdx_of_lt hi]
        omega
    · rintro σ' H' ⟨B', ls, fs, z, rfl, ex, sb, sh, bg, bl, bf, bB, bn, hL, hF, nG, pm, hlen⟩
      rw [List.length_map, List.length_range] at hlen nG
      have e0 : ls = [] := List.length_eq_zero_iff.mp (by omega)
      subst e0
      rw [List.append_nil] at pm
      dsimp only
      refine ret_go ⟨_, rfl, q _ (upd B' f0 (.lst (fs.map .int))) H' (.list (intsD fs)) (c + 4 * m) ⟨ex, bB.trans (same_new bf), fun b o e => ?_, fun b o e nb => ?_, ?_⟩ nG (.lst upd_same (daI fs)) (hR fs pm)⟩
      · by_cases z : b = f0
        · subst z
          rw [upd_same] at e
          rw [hF]
          exact e
        · rw [upd_ne z] at e
          exact sh b o e
      · by_cases z : b = f0
        · subst z
          exact hfH
        · rw [upd_ne z] at e
          exact bn b o e nb
      · rw [upd_ne nfg.symm]
        exact bg
end K22
end
section
set_option maxRecDepth 100000
set_option maxHeartbeats 4000000
namespace K22
open PySem PySem.Spec PyProof.Rows L2 G Lin C
local macro_rules | `(tactic| walk_at "ev") => `(tactic| first
  | exact ev_var rfl | exact ev_int | exact ev_bl | exact ev_non | exact ev_str
  | (apply ev_op; (focus walk_at "ev"); (focus walk_at "ev"); (focus walk_at "op"))
  | (apply ev_cb; (focus walk_at "el"); (focus walk_at "fn"))
  | (apply ev_lst; (focus walk_at "el"); (show _ ≤ sizeLine; decide))
  | (apply ev_tup; (focus walk_at "el"); (show _ ≤ sizeLine; decide)))
local macro_rules | `(tactic| walk_at "el") => `(tactic| first
  | exact el_nil
  | (apply el_cons; (focus walk_at "ev"); (focus walk_at "el")))
local macro_rules | `(tactic| walk_at "fn") => `(tactic| first
  | exact fn_int | exact fn_len | exact fn_all | exact fn_listL | exact fn_listT)
local macro_rules | `(tactic| walk_at "op") => `(tactic| first
  | exact op_I0 (fun _ => .int _) | exact op_I0 (fun _ => .bl _) | exact opp_1 (op_I0 fun _ => .int _)
  | exact op_I (by show (_ : Int) ≠ 0; decide) (fun _ => .int _)
  | exact op_I (by assumption) (fun _ => .int _)
  | exact opp_1 (op_I (by assumption) fun _ => .int _)
  | exact opp_1 (opp_ixL (i := 0) rfl) | exact opp_2 (opp_ixT (i := 0) rfl) | exact opp_2 (opp_ixT (i := 1) rfl) | exact opp_2 (opp_ixT (i := 2) rfl))
theorem sc_law_even_row : FnScope ["generator", "orders_told", "size", "wide", "row_told", "turn"] ["generator", "orders_told"] (defScope s_law_even_row) := ⟨rfl, rfl, rfl, by decide +kernel, rfl, by decide +kernel, by decide +kernel⟩
theorem ok_law_even_row {P : Program} {w : World} {K : PySem.W.Frag} {mg : Str → Option Value} {base : Heap} (B : Bi mg) (c_law_minus : Cal P w K mg base 1 "_law_minus" ["orders_told", "one"] (sp K p_law_minus)) (c_law_total : Cal P w K mg base 2 "_law_total" ["orders_told", "members"] (sp K p_law_total)) (c_law_random : Cal P w K mg base 2 "_law_random" ["generator", "bound"] (spG K p_law_random)) (c_law_size : Cal P w K mg base 1 "_law_size" ["orders_told"] (sp K p_law_size)) (h : Has K mg "_law_even_row" s_law_even_row ["generator", "orders_told"]) :
    Cal P w K mg base 3 "_law_even_row" ["generator", "orders_told"] (spG K p_law_even_row) := by
  refine has_g h sc_law_even_row rfl ar_law_even_row (fun f cdv A outer s H E hg hr => ⟨_, (pss_cons (ps_set (i := 2) sc_law_even_row.nd rfl (Or.inr rfl) (pg_cal hg c_law_size hr (by rfl) (pa_cons (pv 1) pa_nil)))
      (pss_cons (ps_set (i := 3) sc_law_even_row.nd rfl (Or.inr rfl) (pe_ix (ixK K) (pe_lst (pa_cons pe_int (pa_cons pe_int (pa_cons (pv 2) pa_nil)))) (pg_cal hg c_law_random hr (by rfl) (pa_cons (pv 0) (pa_cons pe_int pa_nil))) (fun _ _ => rfl)))
      (pss_cons (ps_setLc (i := 4) (own := [("turn", 5)]) (g := (gName 5)) rfl sc_law_even_row.nd rfl rfl (sw_true rfl rfl rfl (by decide +kernel)) (pi_range1 (by rfl) B.range (pa_cons (pe_op op_sub (pv 2) pe_int) pa_nil)) (blkOk_by (N := ["generator", "orders_told", "size", "wide", "row_told", "turn"]) (sc := defScope s_law_even_row) (own := [("turn", 5)]) (by decide +kernel)) (fun _ _ _ _ _ => pg_name (i := 5) sc_law_even_row.nd rfl (Or.inl rfl)) (fun _ _ _ _ _ => pts_nil) (fun _ _ _ _ _ => (pe_op op_modN (pe_callTy call_int1 (by rfl) B.int (by decide +kernel) (pa_cons (pe_op (addK K) (pe_op op_mulA (pg_cal hg c_law_random hr (by rfl) (pa_cons (pv 0) (pa_cons (pv 3) pa_nil))) pe_int) pe_int) pa_nil)) (pv 2))))
      (pss_one (ps_ret (pe_op (addK K) (pv 4) (pe_lst (pa_cons (pg_cal hg c_law_minus hr (by rfl) (pa_cons (pv 1) (pa_cons (pg_cal hg c_law_total hr (by rfl) (pa_cons (pv 1) (pa_cons (pv 4) pa_nil))) pa_nil))) pa_nil)))))))), fun ds c R hp => ?_⟩) (List.cons_ne_nil _ _)
  obtain ⟨os, n, rfl, ho, hn, hc, hR⟩ := hp
  have nb := ho.n1 hn
  have hN : prodR os.reverse = n := by rw [ho.n]; exact hn
  refine dg_seq (M := fun ρ c' => ρ = [none, some (.tuple (intsD os)), some (.int (n : Int)), none, none, none] ∧ c' = c) (dg_set (P := fun d c' => d = .int (n : Int) ∧ c' = c) (eg_pure (ev_call (el_cons (ev_var rfl) el_nil) ⟨os, rfl, ho, by rw [hn]⟩) ⟨rfl, rfl⟩) (by decide) ?_) ?_
  · rintro d c' ⟨rfl, rfl⟩
    exact ⟨rfl, rfl⟩
  rintro ρ' c' ⟨rfl, rfl⟩
  refine dg_seq (M := fun ρ c2 => ∃ w : Int, ρ = [none, some (.tuple (intsD os)), some (.int (n : Int)), some (.int w), none, none] ∧ 1 ≤ w ∧ w ≤ 1000 ∧ c2 = c' + 4) (dg_set (P := fun d c2 => ∃ w : Int, d = .int w ∧ 1 ≤ w ∧ w ≤ 1000 ∧ c2 = c' + 4) (eg_op (P1 := fun d c1 => d = .list [.int 1, .int 2, .int (n : Int)] ∧ c1 = c') (P2 := fun x y c2 => (∃ i : Nat, y = .int i ∧ i < 3) ∧ c2 = c' + 4) (eg_pure (ev_lst (el_cons ev_int (el_cons ev_int (el_cons (ev_var rfl) el_nil))) (by show 3 ≤ sizeLine; decide)) ⟨rfl, rfl⟩) ?_ ?_) (by decide) ?_) ?_
  · rintro x c1 ⟨rfl, rfl⟩
    exact eg_call (el_cons ev_int el_nil) (R := fun y c2 => (∃ i : Nat, y = .int i ∧ i < 3) ∧ c2 = c1 + 4) ⟨3, rfl, by decide, by decide, by omega, fun i h0 h1 => ⟨⟨i.toNat, by rw [Int.toNat_of_nonneg h0], by omega⟩, rfl⟩⟩ fun _ _ h => h
  · rintro x y c1 c2 ⟨rfl, rfl⟩ ⟨⟨i, rfl, hi⟩, rfl⟩
    match i, hi with
    | 0, _ => exact ⟨.int 1, opp_1 (opp_ixL (i := 0) rfl), 1, rfl, by decide, by decide, rfl⟩
    | 1, _ => exact ⟨.int 2, opp_1 (opp_ixL (i := 1) rfl), 2, rfl, by decide, by decide, rfl⟩
    | 2, _ => exact ⟨.int (n : Int), opp_1 (opp_ixL (i := 2) rfl), (n : Int), rfl, by omega, by omega, rfl⟩
  · rintro d c2 ⟨w, rfl, h⟩
    exact ⟨w, rfl, h⟩
  rintro ρ' c2 ⟨w, rfl, w1, w2, rfl⟩
  have en : ((n - 1 : Nat) : Int) = (n : Int) - 1 := by omega
  refine dg_seq (M := fun ρ c3 => ∃ row : List Int, ρ = [none, some (.tuple (intsD os)), some (.int (n : Int)), some (.int w), some (.list (intsD row)), none] ∧ row.length = n - 1 ∧ (∀ x ∈ row, 0 ≤ x ∧ x < (n : Int)) ∧ c3 = c' + 4 + 4 * (n - 1)) (dg_set (P := fun d c3 => ∃ row : List Int, d = .list (intsD row) ∧ row.length = n - 1 ∧ (∀ x ∈ row, 0 ≤ x ∧ x < (n : Int)) ∧ c3 = c' + 4 + 4 * (n - 1)) (eg_lc (it_range1 (n := n - 1) (el_cons (by rw [en]; exact ev_op (ev_var rfl) ev_int (op_I0 fun _ => .int _)) el_nil) (by omega)) (by rw [List.length_map, List.length_range]; omega) (by decide) (fun k out c3 => (∃ row : List Int, out = intsD row ∧ row.length = k ∧ ∀ x ∈ row, 0 ≤ x ∧ x < (n : Int)) ∧ c3 = c' + 4 + 4 * k) ⟨⟨[], rfl, rfl, fun x h => by simp at h⟩, rfl⟩ ?_ ?_) (by decide) ?_) ?_
  · rintro k e out c3 he ⟨⟨row, rfl, hl, hm⟩, rfl⟩
    have hk := (List.getElem?_eq_some_iff.mp he).1
    rw [List.length_map, List.length_range] at hk
    refine ⟨_, tgw_name, eg_op (P1 := fun d c4 => (∃ z : Int, d = .int z) ∧ c4 = c' + 4 + 4 * k + 4) (P2 := fun _ y c4 => y = .int (n : Int) ∧ c4 = c' + 4 + 4 * k + 4) (eg_cb (P1 := fun ds c4 => (∃ z : Int, ds = [.int z]) ∧ c4 = c' + 4 + 4 * k + 4) (el_c (P1 := fun d c4 => (∃ z : Int, d = .int z) ∧ c4 = c' + 4 + 4 * k + 4) (eg_op (P1 := fun d c4 => (∃ z : Int, d = .int z) ∧ c4 = c' + 4 + 4 * k + 4) (P2 := fun _ y c4 => y = .int 1 ∧ c4 = c' + 4 + 4 * k + 4) (eg_op (P1 := fun d c4 => (∃ z : Int, d = .int z ∧ 0 ≤ z ∧ z < w) ∧ c4 = c' + 4 + 4 * k + 4) (P2 := fun _ y c4 => y = .int 43 ∧ c4 = c' + 4 + 4 * k + 4) (eg_call (el_cons (ev_var rfl) el_nil) (R := fun d c4 => (∃ z : Int, d = .int z ∧ 0 ≤ z ∧ z < w) ∧ c4 = c' + 4 + 4 * k + 4) ⟨w, rfl, by omega, by omega, by omega, fun i h0 h1 => ⟨⟨i, rfl, h0, h1⟩, rfl⟩⟩ fun _ _ h => h) ?_ ?_) ?_ ?_) ?_) ?_) ?_ ?_⟩
    · rintro x c4 ⟨_, rfl⟩
      exact eg_pure ev_int ⟨rfl, rfl⟩
    · rintro x y c4 c5 ⟨⟨z, rfl, z0, z1⟩, rfl⟩ ⟨rfl, rfl⟩
      exact ⟨.int (z * 43), opp_1 (op_I (mulW_small (by omega) (by omega) (by decide) (by decide)) fun _ => .int _), ⟨_, rfl⟩, rfl⟩
    · rintro x c4 ⟨_, rfl⟩
      exact eg_pure ev_int ⟨rfl, rfl⟩
    · rintro x y c4 c5 ⟨⟨z, rfl⟩, rfl⟩ ⟨rfl, rfl⟩
      exact ⟨.int (z + 1), opp_1 (op_I0 fun _ => .int _), ⟨_, rfl⟩, rfl⟩
    · rintro x c4 ⟨⟨z, rfl⟩, rfl⟩
      exact el_n ⟨⟨z, rfl⟩, rfl⟩
    · rintro ds c4 ⟨⟨z, rfl⟩, rfl⟩
      exact ⟨.int z, fn_int, ⟨z, rfl⟩, rfl⟩
    · rintro x c4 ⟨_, rfl⟩
      exact eg_pure (ev_var rfl) ⟨rfl, rfl⟩
    · rintro x y c4 c5 ⟨⟨z, rfl⟩, rfl⟩ ⟨rfl, rfl⟩
      have r := fmod_rng z (m := (n : Int)) (by omega)
      refine ⟨.int (z.fmod n), op_I (by show (n : Int) ≠ 0; omega) (fun _ => .int _), ⟨row ++ [z.fmod n], ?_, by rw [List.length_append, hl]; rfl, fun x hx => ?_⟩, by omega⟩
      · show _ = (row ++ [z.fmod n]).map PyData.int
        rw [List.map_append]
        rfl
      · rcases List.mem_append.mp hx with h | h
        · exact hm x h
        · rw [List.mem_singleton.mp h]
          exact r
  · rintro out c3 ⟨⟨row, rfl, hl, hm⟩, rfl⟩ _
    rw [List.length_map, List.length_range] at hl
    exact ⟨row, rfl, hl, hm, by rw [List.length_map, List.length_range]⟩
  · rintro d c3 ⟨row, rfl, h⟩
    exact ⟨row, rfl, h⟩
  rintro ρ' c3 ⟨row, rfl, hl, hm, rfl⟩
  have x0 := lin_rng ho.pos [] [linR os.reverse row []]
  rw [hN] at x0
  refine dg_ret (eg_pure (d := .list (intsD (row ++ [linR os.reverse [] [linR os.reverse row []]]))) (ev_eq (ev_op (ev_var rfl) (ev_lst (el_cons (ev_call (el_cons (ev_var rfl) (el_cons (ev_call (el_cons (ev_var rfl) (el_cons (ev_var rfl) el_nil)) ⟨os, row, rfl, ho, rfl⟩) el_nil)) ⟨os, _, rfl, ho, rfl⟩) el_nil) (by show 1 ≤ sizeLine; decide)) (opp_2 (opp_1 (opp_cat (by rw [ints_len, hl, sizeLine_eq]; show _ + 1 ≤ _; omega))))) (by rw [intsD, intsD, List.map_append]; rfl)) (hR _ _ ⟨by rw [List.length_append, hl]; show n - 1 + 1 = n; omega, fun x hx => ?_⟩ ?_ (by omega)))
  · rcases List.mem_append.mp hx with h | h
    · exact hm x h
    · rw [List.mem_singleton.mp h]
      exact x0
  · have z : linR os.reverse (row ++ [linR os.reverse [] [linR os.reverse row []]]) [] = linR os.reverse (linR os.reverse [] [linR os.reverse row []] :: row) [] := lin_eq (perm_c fun u => by simp only [List.count_append, List.count_cons, List.count_nil]; omega)
    rw [z, lin_in ho.pos]
    show linR os.reverse row ([linR os.reverse row []] ++ []) = 0
    rw [List.append_nil, lin_out ho.pos]
    exact (lin_eq (perm_c fun u => by simp only [List.count_append, List.count_cons, List.count_nil]; omega)).trans (lin_all (r := os.reverse) row)
theorem sc_law_system_right : FnScope ["system_told", "places", "size", "table", "one"] ["system_told", "places"] (defScope s_law_system_right) := ⟨rfl, rfl, rfl, by decide +kernel, rfl, by decide +kernel, by decide +kernel⟩
theorem ok_law_system_right {P : Program} {w : World} {K : PySem.W.Frag} {mg : Str → Option Value} {base : Heap} (B : Bi mg) (c_law_size : Cal P w K mg base 1 "_law_size" ["orders_told"] (sp K p_law_size)) (h : Has K mg "_law_system_right" s_law_system_right ["system_told", "places"]) :
    Cal P w K mg base 2 "_law_system_right" ["system_told", "places"] (sp K p_law_system_right) := by
  refine has_d h sc_law_system_right ar_law_system_right fun f cdv A outer s H E hg hr => ⟨_, (pss_cons (ps_if (PW.pt (pw_or (pt_not (pt_val (pe_callB (isiK K) (by rfl) B.isinstance (by decide +kernel) (pa_cons (pv 0) (pa_cons (pe_bltn (v := .ty "tuple") (by rfl) B.tuple (by decide +kernel) rfl) pa_nil))))) (pw_or (pt_cmpR (neK K hr) (pe_callB (lenK K) (by rfl) B.len PySem.boot_len (pa_cons (pv 0) pa_nil)) pe_int (nomark _)) (pw_or (pt_not (pt_val (pe_callB (isiK K) (by rfl) B.isinstance (by decide +kernel) (pa_cons (pe_ix (ixK K) (pv 0) pe_int (fun _ _ => rfl)) (pa_cons (pe_bltn (v := .ty "list") (by rfl) B.list (by decide +kernel) rfl) pa_nil))))) (pw_or1 (pt_cmpR (neK K hr) (pe_callB (lenK K) (by rfl) B.len PySem.boot_len (pa_cons (pe_ix (ixK K) (pv 0) pe_int (fun _ _ => rfl)) pa_nil)) (pv 1) (nomark _))))))) (pss_one (ps_ret pe_bl)) pss_nil)
      (pss_cons (ps_set (i := 2) sc_law_system_right.nd rfl (Or.inr rfl) (pg_cal hg c_law_size hr (by rfl) (pa_cons (pe_ix (ixK K) (pv 0) pe_int (fun _ _ => rfl)) pa_nil)))
      (pss_one (ps_ret (pe_cmpR (eqK K hr) (pe_lc (own := [("table", 3)]) (g := (gName 3)) rfl sc_law_system_right.nd (pi_or (pi_listK K (pe_ix (ixK K) (pv 0) pe_int (fun _ _ => rfl))) (pi_tupK K (pe_ix (ixK K) (pv 0) pe_int (fun _ _ => rfl)))) (blkOk_by (N := ["system_told", "places", "size", "table", "one"]) (sc := defScope s_law_system_right) (own := [("table", 3)]) (by decide +kernel)) (fun _ _ _ _ _ => pg_name (i := 3) sc_law_system_right.nd rfl (Or.inl rfl)) (fun _ _ _ _ _ => pts_one (PW.pt (pw_or (pt_not (pt_val (pe_callB (isiK K) (by rfl) B.isinstance (by decide +kernel) (pa_cons (pv 3) (pa_cons (pe_bltn (v := .ty "list") (by rfl) B.list (by decide +kernel) rfl) pa_nil))))) (pw_or (pt_cmpR (neK K hr) (pe_callB (sortK K) (by rfl) B.sorted (by decide +kernel) (pa_cons (pv 3) pa_nil)) (pe_listRg rfl (by rfl) B.list (prg_1 (by rfl) B.range (pv 2))) (nomark _)) (pw_or1 (pt_cmpR (inK K) pe_bl (pe_lc (own := [("one", 4)]) (g := (gName 4)) rfl sc_law_system_right.nd (pi_or (pi_listK K (pv 3)) (pi_tupK K (pv 3))) (blkOk_by (N := ["system_told", "places", "size", "table", "one"]) (sc := { kind := ScopeKind.function, names := [(".0", NameKind.local), ("table", NameKind.local), ("isinstance", NameKind.globalImplicit), ("list", NameKind.globalImplicit), ("sorted", NameKind.globalImplicit), ("range", NameKind.globalImplicit), ("size", NameKind.cell)], isGenerator := false, isCoroutine := false }) (own := [("one", 4)]) (by decide +kernel)) (fun _ _ _ _ _ => pg_name (i := 4) sc_law_system_right.nd rfl (Or.inl rfl)) (fun _ _ _ _ _ => pts_nil) (fun _ _ _ _ _ => (pe_callB (isiK K) (by rfl) B.isinstance (by decide +kernel) (pa_cons (pv 4) (pa_cons (pe_bltn (v := .ty "bool") (by rfl) B.bool (by decide +kernel) rfl) pa_nil))))) (by rfl))))))) (fun _ _ _ _ _ => (pv 3))) (pe_lst pa_nil) (nomark _)))))), fun ds d hp => ?_⟩
  obtain ⟨os, ts, tot, w, rfl, hs, hl, rfl⟩ := hp
  obtain ⟨n, hn⟩ : ∃ n : Nat, prodI os = n := ⟨(prodI os).toNat, by have := prod_pos hs.ord.2.1; omega⟩
  have nb := hs.ord.n1 hn
  have h4 := hs.few
  refine do_seq (M := fun ρ => ρ = [some (sysD os ts tot), some (.int (w : Int)), none, none, none]) (do_if (b := false) ?_ (fun h => nomatch h) fun _ => do_next rfl) fun ρ' e => ?_
  · refine eb_or (a := false) (eb_not (eb_B (ev_isi (ev_var rfl) (kit_tuple _))) rfl) (fun _ => ?_) (fun h => nomatch h)
    refine eb_or (a := false) (eb_test (ev_op (ev_cb (el_cons (ev_var rfl) el_nil) fn_lenT) ev_int (opp_neD (sh_int _) (sh_int _) (by rw [eqv_int]; rfl)))) (fun _ => ?_) (fun h => nomatch h)
    refine eb_or (a := false) (eb_not (eb_B (ev_isi (ev_op (ev_var rfl) ev_int (opp_2 (opp_ixT (i := 1) rfl))) (kit_list _))) rfl) (fun _ => ?_) (fun h => nomatch h)
    refine eb_test (ev_op (ev_cb (el_cons (ev_op (ev_var rfl) ev_int (opp_2 (opp_ixT (i := 1) rfl))) el_nil) fn_len) (ev_var rfl) (opp_neD (sh_int _) (sh_int _) ?_))
    rw [eqv_int, tabs_len, hl]
    simp
  subst e
  refine do_seq (M := fun ρ => ρ = [some (sysD os ts tot), some (.int (w : Int)), some (.int (n : Int)), none, none]) (do_set (ev_call (el_cons (ev_op (ev_var rfl) ev_int (opp_2 (opp_ixT (i := 0) rfl))) el_nil) ⟨os, rfl, hs.ord, by rw [hn]⟩) rfl) fun ρ' e => ?_
  subst e
  have key : PyData.list (((tabsD ts).filter fun _ => false).map id) = .list [] := by rw [List.filter_eq_nil_iff.mpr (fun _ _ => by simp)]; rfl
  refine do_ret (ev_op (ev_eq (ev_lc (it_1 (it_list (ev_op (ev_var rfl) ev_int (opp_2 (opp_ixT (i := 1) rfl))))) (by rw [tabs_len]; omega) (fun _ => false) id fun e he => ?_) key) (ev_lst el_nil (by show 0 ≤ sizeLine; decide)) (eq_self (Pl.ints (ns := []) (fun x h => by simp at h) (by decide)))) rfl
  obtain ⟨t, ht, rfl⟩ := List.mem_map.mp he
  have T := hs.tabs t ht
  rw [hn] at T
  have tl := tab_len T
  refine ⟨_, tgw_name, eb_or (a := false) (eb_not (a := true) (eb_B (ev_isi (ev_var rfl) (kit_list _))) rfl) (fun _ => eb_or (a := false) (eb_test (ev_op (x := .list (intsD (rgI n))) (y := .list (intsD (rgI n))) (ev_cb (el_cons (ev_var rfl) el_nil) (fn_sorted (tab_perm2 T).symm (rg_sorted n) (by omega))) (by rw [← rg_eq]; exact ev_listRg (ev_var rfl) (by omega)) (ne_self (pl_rg nb.2)))) (fun _ => eb_test (ev_op (y := .list (List.replicate t.length (.bool false))) ev_bl ?_ opp_inB)) (fun h => nomatch h)) (fun h => nomatch h), fun h => nomatch h⟩
  have e2 : PyData.list ((intsD t).map fun _ => .bool false) = .list (List.replicate t.length (.bool false)) := by
    rw [List.map_const', ints_len]
  refine ev_eq (ev_map (it_1 (it_list (ev_var rfl))) (by rw [ints_len]; omega) (fun _ => .bool false) fun e he => ?_) e2
  obtain ⟨x, hx, rfl⟩ := List.mem_map.mp he
  exact ⟨_, tgw_name, ev_isi (ev_var rfl) (kit_bool _)⟩
end K22
end
section
set_option maxRecDepth 100000
set_option maxHeartbeats 4000000
namespace K22
open PySem PySem.Spec PyProof.Rows L2 G Lin C
local macro_rules | `(tactic| walk_at "ev") => `(tactic| first
  | exact ev_var rfl | exact ev_int | exact ev_bl | exact ev_non | exact ev_str
  | (apply ev_op; (focus walk_at "ev"); (focus walk_at "ev"); (focus walk_at "op"))
  | (apply ev_cb; (focus walk_at "el"); (focus walk_at "fn"))
  | (apply ev_lst; (focus walk_at "el"); (show _ ≤ sizeLine; decide))
  | (apply ev_tup; (focus walk_at "el"); (show _ ≤ sizeLine; decide)))
local macro_rules | `(tactic| walk_at "el") => `(tactic| first
  | exact el_nil
  | (apply el_cons; (focus walk_at "ev"); (focus walk_at "el")))
local macro_rules | `(tactic| walk_at "fn") => `(tactic| first
  | exact fn_int | exact fn_len | exact fn_all | exact fn_listL | exact fn_listT)
local macro_rules | `(tactic| walk_at "op") => `(tactic| first
  | exact op_I0 (fun _ => .int _) | exact op_I0 (fun _ => .bl _) | exact opp_1 (op_I0 fun _ => .int _)
  | exact op_I (by show (_ : Int) ≠ 0; decide) (fun _ => .int _)
  | exact op_I (by assumption) (fun _ => .int _)
  | exact opp_1 (op_I (by assumption) fun _ => .int _)
  | exact opp_1 (opp_ixL (i := 0) rfl) | exact opp_2 (opp_ixT (i := 0) rfl) | exact opp_2 (opp_ixT (i := 1) rfl) | exact opp_2 (opp_ixT (i := 2) rfl))
theorem sc_law_cell : FnScope ["script", "index"] ["script", "index"] (defScope s_law_cell) := ⟨rfl, rfl, rfl, by decide +kernel, rfl, by decide +kernel, by decide +kernel⟩
theorem ok_law_cell {P : Program} {w : World} {K : PySem.W.Frag} {mg : Str → Option Value} {base : Heap} (B : Bi mg)  (h : Has K mg "_law_cell" s_law_cell ["script", "index"]) :
    Cal P w K mg base 1 "_law_cell" ["script", "index"] (sCell K) := by
  --RAW
  obtain ⟨f, fd, F, hmg, bd⟩ := h
  refine ⟨f, fd, hmg, kq_of F, bd, fn_g0 F sc_law_cell (fun vs H Q E h => ?_) fun cdv A outer s H vs Q E hg hr h => ⟨_, (pss_cons (ps_if (pt_cmpR op_lt (pv 1) (pe_callB (lenK K) (by rfl) B.len PySem.boot_len (pa_cons (pv 0) pa_nil)) (nomark _)) (pss_one (ps_ret (pe_ix (ixK K) (pv 0) (pv 1) (fun _ _ => rfl)))) pss_nil)
      (pss_one (ps_ret (pe_op op_modN (pe_callB (sumK K rfl) (by rfl) B.sum (by decide +kernel) (pa_cons (pe_slice (slK K) (pv 0) po_none (po_some pe_int)) pa_nil)) pe_int)))), ?_⟩⟩
  · obtain ⟨a, xs, i, B, rfl, _⟩ := h
    rfl
  obtain ⟨a, xs, i, B, rfl, hS, hs, q⟩ := h
  refine ⟨_, rfl, _, rfl, _, _, rfl, .inl hS, _, _, rfl, rfl, _, rfl, ?_⟩
  rw [List.length_map]
  refine ite2 (fun hx => ?_) (fun hx => ?_)
  · have hi : i < xs.length := by
      have := of_decide_eq_true hx
      omega
    exact ⟨_, rfl, _, rfl, .inl ⟨a, xs.map .int, _, .int xs[i], rfl, rfl, hS, atI_nat (by rw [List.getElem?_map, List.getElem?_eq_getElem hi]; rfl), q _ _ (.refl hs)⟩⟩
  · refine ⟨_, rfl, _, rfl, a, xs.map .int, rfl, hS, fun p hp => ⟨p, (xs.drop (HT.sIx xs.length 0 none)).take (HT.sIx xs.length xs.length (some 1) - HT.sIx xs.length 0 none), rfl, .of ?_, _, _, rfl, rfl, by show (1000003 : Int) ≠ 0; decide, q _ _ (.side hs hp _)⟩⟩
    rw [upd_same]
    unfold cutV
    rw [List.length_map, ← List.map_drop, ← List.map_take]
theorem sc_law_generator : FnScope ["script", "index", "seed"] ["script", "index"] (defScope s_law_generator) := ⟨rfl, rfl, rfl, by decide +kernel, rfl, by decide +kernel, by decide +kernel⟩
theorem ok_law_generator {P : Program} {w : World} {K : PySem.W.Frag} {mg : Str → Option Value} {base : Heap} (B : Bi mg) (c_law_cell : Cal P w K mg base 1 "_law_cell" ["script", "index"] (sCell K)) (h : Has K mg "_law_generator" s_law_generator ["script", "index"]) :
    Cal P w K mg base 2 "_law_generator" ["script", "index"] (sGen K) := by
  --RAW
  obtain ⟨f, fd, F, hmg, bd⟩ := h
  refine ⟨f, fd, hmg, kq_of F, bd, fn_g0 F sc_law_generator (fun vs H Q E h => ?_) fun cdv A outer s H vs Q E hg hr h => ⟨_, (pss_cons (ps_set (i := 2) sc_law_generator.nd rfl (Or.inl rfl) (pg_cal hg c_law_cell hr (by rfl) (pa_cons (pv 0) (pa_cons (pv 1) pa_nil))))
      (pss_one (ps_ret (pe_lst (pa_cons (pe_op op_modN (pe_callTy call_int1 (by rfl) B.int (by decide +kernel) (pa_cons (pe_callB (call_max2 rfl) (by rfl) B.max (by decide +kernel) (pa_cons (pe_op op_sub (pv 2) (pe_op op_powW pe_int pe_int)) (pa_cons pe_int pa_nil))) pa_nil)) (pe_op op_powW (pe_op op_powW pe_int pe_int) pe_int)) (pa_cons (pe_op op_modN (pe_callTy call_int1 (by rfl) B.int (by decide +kernel) (pa_cons (pv 2) pa_nil)) pe_int) (pa_cons (pe_op op_mulA pe_int (pv 1)) pa_nil))))))), ?_⟩⟩
  · obtain ⟨a, xs, i, B, rfl, _⟩ := h
    rfl
  obtain ⟨a, xs, i, B, rfl, hi, hS, hs, q⟩ := h
  refine ⟨_, rfl, _, rfl, a, xs, i, B, rfl, hS, hs, fun n H1 g1 => ?_⟩
  have big : ((10 : Int) ^ Int.toNat 60) ^ Int.toNat 10 = 10 ^ 600 := by decide +kernel
  have bp : (0 : Int) < 10 ^ 600 := by decide +kernel
  refine ⟨_, rfl, _, _, rfl, rfl, ⟨by decide, by decide⟩, _, _, rfl, rfl, _, _, rfl, .inl ⟨_, rfl, _, _, rfl, rfl, ⟨by decide, by decide +kernel⟩, _, _, rfl, rfl, ⟨by decide, by decide +kernel⟩, _, _, rfl, rfl, ?_, ?_⟩⟩
  · show ((10 : Int) ^ Int.toNat 60) ^ Int.toNat 10 ≠ 0
    rw [big]
    exact Int.ne_of_gt bp
  refine ⟨_, rfl, .inl ⟨_, rfl, _, _, rfl, rfl, (by show (2147483647 : Int) ≠ 0; decide), _, rfl, .inl ⟨_, _, rfl, rfl, mulW_small (by decide) (by decide) (by omega) (by omega), (by show 3 ≤ sizeLine; decide), fun p hp => ?_⟩⟩⟩
  have r1 := fmod_rng (if 0 > n - 10 ^ Int.toNat 18 then 0 else n - 10 ^ Int.toNat 18) bp
  have r2 := fmod_rng n (m := 2147483647) (by decide)
  refine q p _ (g1.trans (Gr.side g1.sub hp _)) (g1.bb.trans g1.sub |>.free hp) (g1.ex.free hp) ⟨_, _, _, upd_same, ?_, ?_, r2.1, r2.2, ?_, ?_⟩
  · rw [big]; exact r1.1
  · rw [big]; exact r1.2
  · omega
  · omega
end K22
end
section
set_option maxRecDepth 100000
set_option maxHeartbeats 4000000
namespace K22
open PySem PySem.Spec PyProof.Rows L2 G Lin C
local macro_rules | `(tactic| walk_at "ev") => `(tactic| first
  | exact ev_var rfl | exact ev_int | exact ev_bl | exact ev_non | exact ev_str
  | (apply ev_op; (focus walk_at "ev"); (focus walk_at "ev"); (focus walk_at "op"))
  | (apply ev_cb; (focus walk_at "el"); (focus walk_at "fn"))
  | (apply ev_lst; (focus walk_at "el"); (show _ ≤ sizeLine; decide))
  | (apply ev_tup; (focus walk_at "el"); (show _ ≤ sizeLine; decide)))
local macro_rules | `(tactic| walk_at "el") => `(tactic| first
  | exact el_nil
  | (apply el_cons; (focus walk_at "ev"); (focus walk_at "el")))
local macro_rules | `(tactic| walk_at "fn") => `(tactic| first
  | exact fn_int | exact fn_len | exact fn_all | exact fn_listL | exact fn_listT)
local macro_rules | `(tactic| walk_at "op") => `(tactic| first
  | exact op_I0 (fun _ => .int _) | exact op_I0 (fun _ => .bl _) | exact opp_1 (op_I0 fun _ => .int _)
  | exact op_I (by show (_ : Int) ≠ 0; decide) (fun _ => .int _)
  | exact op_I (by assumption) (fun _ => .int _)
  | exact opp_1 (op_I (by assumption) fun _ => .int _)
  | exact opp_1 (opp_ixL (i := 0) rfl) | exact opp_2 (opp_ixT (i := 0) rfl) | exact opp_2 (opp_ixT (i := 1) rfl) | exact opp_2 (opp_ixT (i := 2) rfl))
theorem sc_law_marked : FnScope ["told", "kept", "item"] ["told"] (defScope s_law_marked) := ⟨rfl, rfl, rfl, by decide +kernel, rfl, by decide +kernel, by decide +kernel⟩
theorem ok_law_marked {P : Program} {w : World} {K : PySem.W.Frag} {mg : Str → Option Value} {base : Heap} (B : Bi mg)  {k0 n1 : Nat} (hn1 : n1 ≤ 50) {self : Sp} (hself : ∀ n0, n1 = n0 + 1 → ∀ v d S H Q E, MkOk K H n0 v d S → MarkQ S H Q → self [v] H Q E) (c_law_marked : Cal P w K mg base k0 "_law_marked" ["told"] self) (h : Has K mg "_law_marked" s_law_marked ["told"]) :
    Cal P w K mg base (k0 + 1) "_law_marked" ["told"] (sMk K n1) := by
  --RAW
  obtain ⟨f, fd, F, hmg, bd⟩ := h
  refine ⟨f, fd, hmg, kq_of F, bd, fn_g0 F sc_law_marked (fun vs H Q E h => ?_) fun cdv A outer s H vs Q E hg hr h => ⟨_, (pss_cons (ps_if (pt_val (pe_callB (isiK K) (by rfl) B.isinstance (by decide +kernel) (pa_cons (pv 0) (pa_cons (pe_bltn (v := .ty "list") (by rfl) B.list (by decide +kernel) rfl) pa_nil)))) (pss_cons (ps_if (PW.pt (pw_and (pt_cmpR (neK K hr) (pv 0) (pe_lst pa_nil) (nomark _)) (pw_and1 (pt_cmpR (eqK K hr) (pe_ix (ixK K) (pv 0) (pe_un un_neg pe_int) (fun _ _ => rfl)) pe_str (nomark _))))) (pss_one (ps_ret pe_bl)) pss_nil)
      (pss_cons (ps_setLc (i := 1) (own := [("item", 2)]) (g := (gName 2)) rfl sc_law_marked.nd rfl rfl (sw_true rfl rfl rfl (by decide +kernel)) (pi_or (pi_listK K (pv 0)) (pi_tupK K (pv 0))) (blkOk_by (N := ["told", "kept", "item"]) (sc := defScope s_law_marked) (own := [("item", 2)]) (by decide +kernel)) (fun _ _ _ _ _ => pg_name (i := 2) sc_law_marked.nd rfl (Or.inl rfl)) (fun _ _ _ _ _ => pts_nil) (fun _ _ _ _ _ => (pg_cal (hj := Nat.le_refl _) hg c_law_marked hr (by rfl) (pa_cons (pv 2) pa_nil))))
      (pss_cons (ps_expr (pe_bm PySem.F.plainAttrs_list PySem.F.slot_list_append PySem.F.type_list_append mt_append (pv 0) (pa_cons pe_str pa_nil)))
      (pss_one (ps_ret (pe_cmpR (ninK K) pe_bl (pv 1) (by rfl))))))) pss_nil)
      (pss_one (ps_ret (pe_or (pe_not (pe_callB (isiK K) (by rfl) B.isinstance (by decide +kernel) (pa_cons (pv 0) (pa_cons (pe_bltn (v := .ty "tuple") (by rfl) B.tuple (by decide +kernel) rfl) pa_nil)))) (pe_one (pe_cmpR (ninK K) pe_bl (pe_lc (own := [("item", 2)]) (g := (gName 2)) rfl sc_law_marked.nd (pi_or (pi_listK K (pv 0)) (pi_tupK K (pv 0))) (blkOk_by (N := ["told", "kept", "item"]) (sc := defScope s_law_marked) (own := [("item", 2)]) (by decide +kernel)) (fun _ _ _ _ _ => pg_name (i := 2) sc_law_marked.nd rfl (Or.inl rfl)) (fun _ _ _ _ _ => pts_nil) (fun _ _ _ _ _ => (pg_cal (hj := Nat.le_refl _) hg c_law_marked hr (by rfl) (pa_cons (pv 2) pa_nil)))) (by rfl))))))), ?_⟩⟩
  · obtain ⟨v, d, S, rfl, _⟩ := h
    rfl
  obtain ⟨v, d, S, rfl, m, q⟩ := h
  have e0 : EnvOk K H [some v, none, none] [some d, none, none] := env_start (N := ["told", "kept", "item"]) (.cons m.da .nil)
  have s0 : Same H H := Same.refl H
  refine seq_go (if_go (eb_B (ev_isi (ev_var rfl) (kit_list d)) _ _ _ e0 s0 _ fun B1 H1 g1 => ?_))
  have mpl := m.pl
  cases m with
  | int i =>
    refine iteF (nxt_go (ret_go (ev_or (a := true) (ev_not (ev_isi (ev_var rfl) (kit_tuple (.int i))) rfl) (fun h => nomatch h) (fun _ => rfl) _ _ _ (e0.mono g1.bb) g1.sub _ fun v B2 H2 g2 hv => ?_)))
    cases hv
    exact q H2 fun b o _ e => g2.ex b o (g1.ex b o e)
  | @tup _ a xs ds S hT hz ms =>
    refine iteF (nxt_go (ret_go (orv_go (ev_not (ev_isi (ev_var rfl) (kit_tuple (.tuple ds))) rfl _ _ _ (e0.mono g1.bb) g1.sub _ fun v B2 H2 g2 hv => ?_))))
    cases hv
    have ex : Same H H2 := g1.ex.trans g2.ex
    have ms2 := ms.keep (T := []) (.of ex) (fun x hx => by simp at hx) fun x _ z => by simp at z
    have hT2 : SqT K H2 a xs := same_t ex hT
    refine ⟨false, rfl, iteF (opc_go (mk_tT (i := 2) (fun v d S H Q m k => hself _ rfl v d S H Q _ m k) rfl hT2 (by show 2 < 3; decide) ms2 hz fun D H' k hD hDl => ?_))⟩
    refine ⟨D, _, rfl, .inl (.of hDl), rfl, rep_flat _, ?_⟩
    rw [rep_noF]
    exact q H' fun b o nb e => k b o nb (ex b o e)
  | @lst _ a xs ds S hL hz ms na =>
    have hl := ms.len
    refine iteT (seq_go (if_go (eb_and (a := !PyData.eqv (.list ds) (.list [])) (b := false) (eb_test (ev_op (ev_var rfl) (ev_lst el_nil (by decide)) (opp_neD ?_ rfl rfl))) (fun hne => ?_) (fun _ => rfl) _ _ _ (e0.mono g1.bb) g1.sub _ fun B2 H2 g2 => iteF (nxt_go ?_))))
    · unfold SeqAt.shaped
      rw [mpl.1, decide_eq_true (by have := mpl.2.1; omega)]
      rfl
    · have dne : ds ≠ [] := fun e => by
        rw [e] at hne
        simp [PyData.eqv, PyData.eqvAll] at hne
      have lp : ds.length - 1 < ds.length := by have := List.length_pos_iff.mpr dne; omega
      have hlast : ds.getLast? = some ds[ds.length - 1] := by rw [List.getLast?_eq_getElem?, List.getElem?_eq_getElem lp]
      obtain ⟨w, T, mw⟩ := ms.mem _ (List.getElem_mem lp)
      have wpl := mw.pl
      refine eb_test (ev_op (ev_op (ev_var rfl) (y := .int (-1)) (ev_un ev_int fun B H s u hu Q q => ?_) (opp_1 (opp_last hlast))) ev_str (opp_eqD ?_ (sh_str (by decide +kernel)) ?_))
      · cases hu
        exact ⟨_, rfl, q _ B H (.refl s) (.int _)⟩
      · unfold SeqAt.shaped
        rw [wpl.1, decide_eq_true (by have := wpl.2.1; omega)]
        rfl
      · rw [wpl.2.2]
    have ex : Same H H2 := g1.ex.trans g2.ex
    have ms2 := ms.keep (T := []) (.of ex) (fun x hx => by simp at hx) fun x _ z => by simp at z
    have hL2 : H2 a = some (.lst xs) := ex _ _ hL
    refine seq_go (asg_go (mk_tL (i := 2) (fun v d S H Q m k => hself _ rfl v d S H Q _ m k) rfl hL2 na (by show 2 < 3; decide) ms2 hz fun D H' k hD hDl => ?_))
    have hL3 : H' a = some (.lst xs) := k _ _ na hL2
    have aD : D ≠ a := fun z => by rw [z, hL2] at hD; cases hD
    refine seq_go ⟨_, rfl, .inl ⟨rfl, _, .of hL3⟩, a, xs, _, rfl, rfl, hL3, by rw [sizeLine_eq]; omega, _, rfl, D, _, rfl, .inl (.of (by rw [upd_ne aD]; exact hDl)), rfl, rep_flat _, ?_⟩
    rw [rep_noF]
    refine q _ fun b o nb e => ?_
    rw [upd_ne fun z => nb (by rw [z]; exact List.mem_cons_self ..)]
    exact k b o (fun z => nb (List.mem_cons_of_mem _ z)) (ex b o e)
end K22
end
section
set_option maxRecDepth 100000
set_option maxHeartbeats 4000000
namespace K22
open PySem PySem.Spec PyProof.Rows L2 G Lin C
local macro_rules | `(tactic| walk_at "ev") => `(tactic| first
  | exact ev_var rfl | exact ev_int | exact ev_bl | exact ev_non | exact ev_str
  | (apply ev_op; (focus walk_at "ev"); (focus walk_at "ev"); (focus walk_at "op"))
  | (apply ev_cb; (focus walk_at "el"); (focus walk_at "fn"))
  | (apply ev_lst; (focus walk_at "el"); (show _ ≤ sizeLine; decide))
  | (apply ev_tup; (focus walk_at "el"); (show _ ≤ sizeLine; decide)))
local macro_rules | `(tactic| walk_at "el") => `(tactic| first
  | exact el_nil
  | (apply el_cons; (focus walk_at "ev"); (focus walk_at "el")))
local macro_rules | `(tactic| walk_at "fn") => `(tactic| first
  | exact fn_int | exact fn_len | exact fn_all | exact fn_listL | exact fn_listT)
local macro_rules | `(tactic| walk_at "op") => `(tactic| first
  | exact op_I0 (fun _ => .int _) | exact op_I0 (fun _ => .bl _) | exact opp_1 (op_I0 fun _ => .int _)
  | exact op_I (by show (_ : Int) ≠ 0; decide) (fun _ => .int _)
  | exact op_I (by assumption) (fun _ => .int _)
  | exact opp_1 (op_I (by assumption) fun _ => .int _)
  | exact opp_1 (opp_ixL (i := 0) rfl) | exact opp_2 (opp_ixT (i := 0) rfl) | exact opp_2 (opp_ixT (i := 1) rfl) | exact opp_2 (opp_ixT (i := 2) rfl))
def kwg_system_for_total_wishes_first_orders {α : Type} : List α → List α → List α
  | [], [a0, a1, a2, a3] => [a3, a2, a1, a0]
  | _, _ => []
theorem kwr_system_for_total_wishes_first_orders {vs : List V} {us : List Value} {zs : List V} {ws : List Value} (r : Vals vs us) (q : Vals zs ws) : Vals (kwg_system_for_total_wishes_first_orders vs zs) (kwg_system_for_total_wishes_first_orders us ws) := by
  cases r with
  | cons _ _ => cases q <;> exact .nil
  | nil =>
    cases q with
    | nil => exact .nil
    | cons h0 q =>
      cases q with
      | nil => exact .nil
      | cons h1 q =>
        cases q with
        | nil => exact .nil
        | cons h2 q =>
          cases q with
          | nil => exact .nil
          | cons h3 q =>
            cases q with
            | nil => exact .cons h3 (.cons h2 (.cons h1 (.cons h0 (.nil))))
            | cons _ _ => exact .nil
theorem kw_system_for_total_wishes_first_orders {P : Program} {w : World} {K : PySem.W.Frag} {mg : Str → Option Value} {base : Heap} {k : Nat} {q : Sp} (c : Cal P w K mg base k "system_for" ["orders", "first", "wishes", "total"] q) (h : Has K mg "system_for" s_system_for ["orders", "first", "wishes", "total"]) : CalK P w K mg base k "system_for" ["orders", "first", "wishes", "total"] ["total", "wishes", "first", "orders"] kwg_system_for_total_wishes_first_orders q :=
  c.kw h (g := kwg_system_for_total_wishes_first_orders) (fun _ _ _ _ _ _ us ws hl => match us, ws, hl with | [], [a0, a1, a2, a3], _ => rfl) kwr_system_for_total_wishes_first_orders

end K22
end
section
set_option maxRecDepth 100000
set_option maxHeartbeats 4000000
namespace K22
open PySem PySem.Spec PyProof.Rows L2 G Lin C
local macro_rules | `(tactic| walk_at "ev") => `(tactic| first
  | exact ev_var rfl | exact ev_int | exact ev_bl | exact ev_non | exact ev_str
  | (apply ev_op; (focus walk_at "ev"); (focus walk_at "ev"); (focus walk_at "op"))
  | (apply ev_cb; (focus walk_at "el"); (focus walk_at "fn"))
  | (apply ev_lst; (focus walk_at "el"); (show _ ≤ sizeLine; decide))
  | (apply ev_tup; (focus walk_at "el"); (show _ ≤ sizeLine; decide)))
local macro_rules | `(tactic| walk_at "el") => `(tactic| first
  | exact el_nil
  | (apply el_cons; (focus walk_at "ev"); (focus walk_at "el")))
local macro_rules | `(tactic| walk_at "fn") => `(tactic| first
  | exact fn_int | exact fn_len | exact fn_all | exact fn_listL | exact fn_listT)
local macro_rules | `(tactic| walk_at "op") => `(tactic| first
  | exact op_I0 (fun _ => .int _) | exact op_I0 (fun _ => .bl _) | exact opp_1 (op_I0 fun _ => .int _)
  | exact op_I (by show (_ : Int) ≠ 0; decide) (fun _ => .int _)
  | exact op_I (by assumption) (fun _ => .int _)
  | exact opp_1 (op_I (by assumption) fun _ => .int _)
  | exact opp_1 (opp_ixL (i := 0) rfl) | exact opp_2 (opp_ixT (i := 0) rfl) | exact opp_2 (opp_ixT (i := 1) rfl) | exact opp_2 (opp_ixT (i := 2) rfl))
theorem sc_system_for : FnScope ["orders", "first", "wishes", "total", "uneven", "tables", "wish"] ["orders", "first", "wishes", "total"] (defScope s_system_for) := ⟨rfl, rfl, rfl, by decide +kernel, rfl, by decide +kernel, by decide +kernel⟩
theorem ok_system_for {P : Program} {w : World} {K : PySem.W.Frag} {mg : Str → Option Value} {base : Heap} (B : Bi mg) (c_wished_next : Cal P w K mg base 8 "wished_next" ["orders", "table", "wish"] (spFr K p_wished_next)) (c_uneven_at : Cal P w K mg base 3 "uneven_at" ["orders", "wishes"] (sp K p_uneven_at)) (c_check_member : Cal P w K mg base 3 "check_member" ["orders", "member"] (sp K p_check_member)) (c_check_wishes : Cal P w K mg base 7 "check_wishes" ["orders", "wishes"] (sp K p_check_wishes)) (c_check_table : Cal P w K mg base 5 "check_table" ["orders", "table"] (sp K p_check_table)) (c_check_orders : Cal P w K mg base 4 "check_orders" ["orders"] (sp K p_check_orders)) (h : Has K mg "system_for" s_system_for ["orders", "first", "wishes", "total"]) :
    Cal P w K mg base 9 "system_for" ["orders", "first", "wishes", "total"] (spQ K (qS K) p_system_for) := by
  --RAW
  refine has_q (qa := qS K) h sc_system_for ar_system_for fun f cdv A outer s H E hg hr => ⟨_, (pss_cons (ps_expr (pg_cal hg c_check_orders hr (by rfl) (pa_cons (pv 0) pa_nil)))
      (pss_cons (ps_expr (pg_cal hg c_check_table hr (by rfl) (pa_cons (pv 0) (pa_cons (pv 1) pa_nil))))
      (pss_cons (ps_expr (pg_cal hg c_check_wishes hr (by rfl) (pa_cons (pv 0) (pa_cons (pv 2) pa_nil))))
      (pss_cons (ps_expr (pg_cal hg c_check_member hr (by rfl) (pa_cons (pv 0) (pa_cons (pv 3) pa_nil))))
      (pss_cons (ps_set (i := 4) sc_system_for.nd rfl (Or.inl rfl) (pg_cal hg c_uneven_at hr (by rfl) (pa_cons (pv 0) (pa_cons (pv 2) pa_nil))))
      (pss_cons (ps_if (pt_cmpR op_notN (pv 4) pe_non (nomark _)) (pss_one ps_never) pss_nil)
      (pss_cons (ps_set (i := 5) sc_system_for.nd rfl (Or.inl rfl) (pe_lst (pa_cons (pe_callTy (listK K) (by rfl) B.list (by decide +kernel) (pa_cons (pv 1) pa_nil)) pa_nil)))
      (pss_cons (ps_for PassesOwn.never rfl (pi_or (pi_listK K (pv 2)) (pi_tupK K (pv 2))) (pg_name (i := 6) sc_system_for.nd rfl (Or.inl rfl)) (pss_one (ps_expr (pe_bm PySem.F.plainAttrs_list PySem.F.slot_list_append PySem.F.type_list_append mt_append (pv 5) (pa_cons (pg_cal hg c_wished_next hr (by rfl) (pa_cons (pv 0) (pa_cons (pe_ix (ixK K) (pv 5) (pe_un un_neg pe_int) (fun _ _ => rfl)) (pa_cons (pv 6) pa_nil)))) pa_nil)))))
      (pss_one (ps_ret (pe_tup (pa_cons (pv 0) (pa_cons (pv 5) (pa_cons (pv 3) pa_nil)))))))))))))), fun ds x hp => ?_⟩
  obtain ⟨os, t, ws, tot, n, rfl, ho, hn, T, W, hl, ne, hz, t0, t1, rfl⟩ := hp
  refine doq_drop (aft_qS _) (ev_call (el_cons (ev_var rfl) el_nil) ⟨os, rfl, ho, rfl⟩) ?_
  refine doq_drop (aft_qS _) (ev_call (el_cons (ev_var rfl) (el_cons (ev_var rfl) el_nil)) ⟨os, t, n, rfl, ho, hn, T, rfl⟩) ?_
  refine doq_drop (aft_qS _) (ev_call (el_cons (ev_var rfl) (el_cons (ev_var rfl) el_nil)) ⟨os, ws, n, rfl, ho, hn, W, by omega, ne, rfl⟩) ?_
  refine doq_drop (aft_qS _) (ev_call (el_cons (ev_var rfl) (el_cons (ev_var rfl) el_nil)) ⟨os, tot, rfl, ho, t0, by rw [hn]; exact t1, rfl⟩) ?_
  refine doq_set (aft_qS _) (ev_call (d := .none) (el_cons (ev_var rfl) (el_cons (ev_var rfl) el_nil)) ⟨os, ws, rfl, ho, by omega, (bent_none hz).symm⟩) ?_
  refine doq_skip (aft_qS _) (eb_test (ev_op (ev_var rfl) ev_non fun B H s u v hu hv Q q => ?_)) ?_
  · cases hu
    cases hv
    exact ⟨rfl, q _ B H (.refl s) (by rw [decide_eq_true rfl]; exact .bl false)⟩
  intro σ B H D e s q
  have ll : σ.length = 7 := e.len
  refine seq_go (asg_go (evf_list (ns := t) (ev_var rfl) σ B H e s _ fun a B1 H1 g1 b1 h1 l1 => ⟨by show 1 ≤ sizeLine; decide, fun l hl' => nm_go ?_⟩))
  have la : l ≠ a := fun z => by rw [z, l1] at hl'; cases hl'
  have g2 : Gr B H B1 (upd H1 l (.lst [.ref a])) := g1.trans (Gr.side g1.sub hl' _)
  have n0 : Nest B1 H (upd H1 l (.lst [.ref a])) l [a] [t] := ⟨fun x hx => by
    rcases List.mem_cons.mp hx with rfl | hx
    · exact g1.ex.free hl'
    · rw [List.mem_singleton.mp hx]
      exact h1, fun x hx => by
    rcases List.mem_cons.mp hx with rfl | hx
    · exact g1.sub.free hl'
    · rw [List.mem_singleton.mp hx]
      exact b1, List.nodup_cons.mpr ⟨fun z => la (List.mem_singleton.mp z), (by simp)⟩, upd_same, rfl, fun i b u q1 q2 => by
    cases i with
    | zero =>
      cases q1
      cases q2
      rw [upd_ne (Ne.symm la)]
      exact l1
    | succ i => cases q1⟩
  have e1 : EnvOk K B1 (σ.set 5 (some (.ref l))) [some (.tuple (intsD os)), some (.list (intsD t)), some (.list (wlD ws)), some (.int tot), some .none, none, none] := (e.mono g1.bb).forget (some (.ref l)) 5
  have i5 : (σ.set 5 (some (V.ref l)))[5]? = some (some (.ref l)) := List.getElem?_set_self (by omega)
  generalize σ.set 5 (some (V.ref l)) = σ1 at e1 i5 ⊢
  dsimp only
  refine seq_go (for_go ?_)
  refine (it_1 (it_list (ev_var (i := 2) rfl))) σ1 B1 _ e1 g2.sub _ fun J B3 H3 g3 w => ?_
  refine for_it w (fun k σ' H' => ∃ B' as, Gr B H B' H' ∧ Same B3 B' ∧ Nest B' H H' l as (grT os t (ws.take k)) ∧ EnvOk K B' σ' [some (.tuple (intsD os)), some (.list (intsD t)), some (.list (wlD ws)), some (.int tot), some .none, none, none] ∧ σ'[5]? = some (some (.ref l))) ⟨B3, [a], g2.trans g3, Same.refl _, n0.mono g3, e1.mono g3.bb, i5⟩ (fun k σ' H' _ ⟨B', _, gg, sb, _⟩ => sb.trans gg.sub) ?_ ?_
  · rintro k x σ' H' H2 hk ⟨B', as, gg, sb, nk, e2, j5⟩ y
    obtain ⟨B4, el, g4, hel, hx⟩ := y B' sb gg.sub
    rw [wlD_len] at hk
    have hw : ws[k]? = some ws[k] := List.getElem?_eq_getElem hk
    rw [wlD_at hw] at hel
    cases hel
    have aw := W _ (List.getElem_mem hk)
    have g5 := gg.trans g4
    have n5 := nk.mono g4
    refine nm_go ?_
    have m5 : (σ'.set 6 (some x))[5]? = some (some (.ref l)) := by rw [List.getElem?_set_ne (by decide)]; exact j5
    have e4 : EnvOk K B4 (σ'.set 6 (some x)) [some (.tuple (intsD os)), some (.list (intsD t)), some (.list (wlD ws)), some (.int tot), some .none, none, some (wishD ws[k].1 ws[k].2)] := (e2.mono g4.bb).set hx 6
    have nd : Da K (lend B4 H2 (l :: as)) (.ref l) (.list (tabsD (grT os t (ws.take k)))) := .lst (by rw [lend_in (List.mem_cons_self ..)]; exact n5.at_l) (daAll_of (by rw [List.length_map, tabs_len, n5.len]) fun i v d q1 q2 => by
      rw [List.getElem?_map] at q1
      unfold tabsD at q2
      rw [List.getElem?_map] at q2
      cases c1 : as[i]? with
      | none => rw [c1] at q1; cases q1
      | some b =>
        rw [c1] at q1
        cases q1
        cases c2 : (grT os t (ws.take k))[i]? with
        | none => rw [c2] at q2; cases q2
        | some u =>
          rw [c2] at q2
          cases q2
          exact own_da (List.mem_cons_of_mem _ (List.mem_of_getElem? c1)) (n5.at_i i b u c1 c2))
    have eL := (e4.mono (lend_up n5.newB)).put m5 nd
    have ne := grT_ne os t (ws.take k)
    have hlast : (tabsD (grT os t (ws.take k))).getLast? = some (.list (intsD ((grT os t (ws.take k)).getLastD []))) := by
      unfold tabsD
      rw [List.getLast?_map, List.getLastD_eq_getLast?]
      cases c : (grT os t (ws.take k)).getLast? with
      | none => exact absurd (List.getLast?_eq_none_iff.mp c) ne
      | some u => rfl
    have Tl : Tab (n : Int) ((grT os t (ws.take k)).getLastD []) := by
      refine grT_tab (ws := ws.take k) ho hn T (fun v hv => W v (List.mem_of_mem_take hv)) (fun v hv => hz v (List.mem_of_mem_take hv)) _ ?_
      rw [List.getLastD_eq_getLast?]
      cases c : (grT os t (ws.take k)).getLast? with
      | none => exact absurd (List.getLast?_eq_none_iff.mp c) ne
      | some u => exact List.mem_of_getLast? c
    refine ⟨_, m5, .inl ⟨rfl, _, .of n5.at_l⟩, ?_⟩
    refine ow_fr (evf_call (ns := wnT os ((grT os t (ws.take k)).getLastD []) ws[k].1 ws[k].2) (el_cons (ev_var rfl) (el_cons (ev_op (ev_var rfl) ev_neg (opp_1 (opp_last hlast))) (el_cons (ev_var rfl) el_nil))) ⟨os, _, ws[k].1, ws[k].2, n, rfl, ho, hn, Tl, aw.1, aw.2, rfl⟩) eL g4.sub fun b H5 k5 b0 bl => ?_
    have n6 := n5.mono (gr_side g4.sub k5)
    have g6 := g5.trans (gr_side g4.sub k5)
    refine ⟨l, as.map V.ref, _, rfl, rfl, n6.at_l, by rw [List.length_map, n6.len, grT_len, List.length_take, sizeLine_eq]; omega, ?_⟩
    have n7 := n6.app (g5.ex.free b0) (g4.sub.free b0) bl (fun z => n5.full b z b0)
    have et : grT os t (ws.take k) ++ [wnT os ((grT os t (ws.take k)).getLastD []) ws[k].1 ws[k].2] = grT os t (ws.take (k + 1)) := by
      rw [List.take_add_one, hw]
      exact (grT_snoc os t (ws.take k) ws[k]).symm
    rw [et] at n7
    have bl0 : B4 l = none := n6.newB l (List.mem_cons_self ..)
    have hl0 : H l = none := n6.newH l (List.mem_cons_self ..)
    exact ⟨B4, _, ⟨fun c o z => by
      rw [upd_ne (ne_of_none z hl0)]
      exact g6.ex c o z, g6.bb, fun c o z => by
      rw [upd_ne (ne_of_none z bl0)]
      exact g6.sub c o z, g6.new⟩, sb.trans g4.bb, n7, (e2.mono g4.bb).forget (some x) 6, m5⟩
  · rintro σ' H' ⟨B', as, gg, sb, nk, e2, j5⟩
    rw [wlD_len, List.take_length] at nk
    exact ret_nest (ev_var rfl) (ev_var rfl) e2 gg j5 nk q
end K22
end
section
set_option maxRecDepth 100000
set_option maxHeartbeats 4000000
namespace K22
open PySem PySem.Spec PyProof.Rows L2 G Lin C
local macro_rules | `(tactic| walk_at "ev") => `(tactic| first
  | exact ev_var rfl | exact ev_int | exact ev_bl | exact ev_non | exact ev_str
  | (apply ev_op; (focus walk_at "ev"); (focus walk_at "ev"); (focus walk_at "op"))
  | (apply ev_cb; (focus walk_at "el"); (focus walk_at "fn"))
  | (apply ev_lst; (focus walk_at "el"); (show _ ≤ sizeLine; decide))
  | (apply ev_tup; (focus walk_at "el"); (show _ ≤ sizeLine; decide)))
local macro_rules | `(tactic| walk_at "el") => `(tactic| first
  | exact el_nil
  | (apply el_cons; (focus walk_at "ev"); (focus walk_at "el")))
local macro_rules | `(tactic| walk_at "fn") => `(tactic| first
  | exact fn_int | exact fn_len | exact fn_all | exact fn_listL | exact fn_listT)
local macro_rules | `(tactic| walk_at "op") => `(tactic| first
  | exact op_I0 (fun _ => .int _) | exact op_I0 (fun _ => .bl _) | exact opp_1 (op_I0 fun _ => .int _)
  | exact op_I (by show (_ : Int) ≠ 0; decide) (fun _ => .int _)
  | exact op_I (by assumption) (fun _ => .int _)
  | exact opp_1 (op_I (by assumption) fun _ => .int _)
  | exact opp_1 (opp_ixL (i := 0) rfl) | exact opp_2 (opp_ixT (i := 0) rfl) | exact opp_2 (opp_ixT (i := 1) rfl) | exact opp_2 (opp_ixT (i := 2) rfl))
/-- who calls it meets its error -/
structure CalX (P : Program) (w : World) (K : PySem.W.Frag) (mg : Str → Option Value) (base : Heap) (k : Nat) (x : Str) (ps : List Str) (q : Sp) : Prop where
  ex : ∃ (f : Addr) (fd : FuncData), mg x = some (.ref f) ∧ Kq K f fd ∧ L2.Binds K fd ps [] ∧ FnG P w K mg base (L2.CX P w) k f fd ps q
/-- it raises, with the row that does not sum to nought -/
def spRz (K : PySem.W.Frag) (C : Addr) : Sp := fun vs H _ E => ∃ (B : Hp) (os t : List Int) (ws : WL) (tot : Int) (n i : Nat) (w : Str × List Int), Same B H ∧ DaAll K B vs [.tuple (intsD os), .list (intsD t), .list (wlD ws), .int tot] ∧ Ords os ∧ prodI os = n ∧ Tab (n : Int) t ∧ Wl n ws ∧ ws.length ≤ 900 ∧ 0 ≤ tot ∧ tot < n ∧
  bentAt os ws = .int (i : Int) ∧ ws[i]? = some w ∧ ∀ v B' H' d, Gr B H B' H' → B' d = none → H d = none → H' d = some (.xd [("value", v)]) → Da K B' v (.list (intsD w.2)) → E (.ref C) (some d) H'
theorem okE_system_for {P : Program} {w : World} {K : PySem.W.Frag} {mg : Str → Option Value} {base : Heap} (B : Bi mg) (c_wished_next : Cal P w K mg base 8 "wished_next" ["orders", "table", "wish"] (spFr K p_wished_next)) (c_uneven_at : Cal P w K mg base 3 "uneven_at" ["orders", "wishes"] (sp K p_uneven_at)) (c_check_member : Cal P w K mg base 3 "check_member" ["orders", "member"] (sp K p_check_member)) (c_check_wishes : Cal P w K mg base 7 "check_wishes" ["orders", "wishes"] (sp K p_check_wishes)) (c_check_table : Cal P w K mg base 5 "check_table" ["orders", "table"] (sp K p_check_table)) (c_check_orders : Cal P w K mg base 4 "check_orders" ["orders"] (sp K p_check_orders)) {C fI : Addr} {fdI : FuncData} (T : ErrC K C fI) (hC : mg "Uneven" = some (.ref C)) (Fi : FnOk P w K mg base CX0 1 fI fdI ["self", "value"] (sIni K)) (bi : L2.Binds K fdI ["self", "value"] []) (h : Has K mg "system_for" s_system_for ["orders", "first", "wishes", "total"]) :
    CalX P w K mg base 9 "system_for" ["orders", "first", "wishes", "total"] (spRz K C) := by
  obtain ⟨f, fd, F, hmg, bd⟩ := h
  refine ⟨f, fd, hmg, kq_of F, bd, fn_g F sc_system_for (fun vs H Q E h => ?_) fun cdv A outer s H vs Q E hg hr h => ⟨_, (pss_cons (ps_expr (pg_cal hg c_check_orders hr (by rfl) (pa_cons (pv 0) pa_nil)))
      (pss_cons (ps_expr (pg_cal hg c_check_table hr (by rfl) (pa_cons (pv 0) (pa_cons (pv 1) pa_nil))))
      (pss_cons (ps_expr (pg_cal hg c_check_wishes hr (by rfl) (pa_cons (pv 0) (pa_cons (pv 2) pa_nil))))
      (pss_cons (ps_expr (pg_cal hg c_check_member hr (by rfl) (pa_cons (pv 0) (pa_cons (pv 3) pa_nil))))
      (pss_cons (ps_set (i := 4) sc_system_for.nd rfl (Or.inl rfl) (pg_cal hg c_uneven_at hr (by rfl) (pa_cons (pv 0) (pa_cons (pv 2) pa_nil))))
      (pss_cons (ps_if (pt_cmpR op_notN (pv 4) pe_non (nomark _)) (pss_one (ps_raise (W := fun cls d _ H => E cls d H) rfl (takes_of rfl rfl rfl rfl) (pmk_oex T.o T.ini T.fn Fi (hr.mono (by decide)) bi .nil (fun _ _ _ _ _ _ _ h => h.elim) (by rfl) hC (pa_cons (pe_ix (ixK K) (pe_ix (ixK K) (pv 2) (pv 4) (fun _ _ => rfl)) pe_int (fun _ _ => rfl)) pa_nil)))) pss_nil)
      (pss_cons (ps_set (i := 5) sc_system_for.nd rfl (Or.inl rfl) (pe_lst (pa_cons (pe_callTy (listK K) (by rfl) B.list (by decide +kernel) (pa_cons (pv 1) pa_nil)) pa_nil)))
      (pss_cons (ps_for (passes_of rfl) rfl (pi_or (pi_listK K (pv 2)) (pi_tupK K (pv 2))) (pg_name (i := 6) sc_system_for.nd rfl (Or.inl rfl)) (pss_one (ps_expr (pe_bm PySem.F.plainAttrs_list PySem.F.slot_list_append PySem.F.type_list_append mt_append (pv 5) (pa_cons (pg_cal hg c_wished_next hr (by rfl) (pa_cons (pv 0) (pa_cons (pe_ix (ixK K) (pv 5) (pe_un un_neg pe_int) (fun _ _ => rfl)) (pa_cons (pv 6) pa_nil)))) pa_nil)))))
      (pss_one (ps_ret (pe_tup (pa_cons (pv 0) (pa_cons (pv 5) (pa_cons (pv 3) pa_nil)))))))))))))), ?_⟩⟩
  · obtain ⟨B, os, t, ws, tot, n, i, w, _, a, _⟩ := h
    rw [a.len]
    rfl
  obtain ⟨B0, os, t, ws, tot, n, i, wi, s0, a0, ho, hn, T0, W, hl, t0, t1, hb, hw, out⟩ := h
  have ne : ws ≠ [] := fun z => by rw [z] at hw; cases hw
  have e0 : EnvOk K B0 (L2.start ["orders", "first", "wishes", "total", "uneven", "tables", "wish"] vs) [some (.tuple (intsD os)), some (.list (intsD t)), some (.list (wlD ws)), some (.int tot), none, none, none] := env_start (N := ["orders", "first", "wishes", "total", "uneven", "tables", "wish"]) a0
  refine seq_go ((ev_call (el_cons (ev_var rfl) el_nil) ⟨os, rfl, ho, rfl⟩) _ B0 H e0 s0 _ fun v1 B1 H1 g1 _ => ?_)
  have e1 := e0.mono g1.bb
  refine seq_go ((ev_call (el_cons (ev_var rfl) (el_cons (ev_var rfl) el_nil)) ⟨os, t, n, rfl, ho, hn, T0, rfl⟩) _ B1 H1 e1 g1.sub _ fun v2 B2 H2 g2 _ => ?_)
  have e2 := e1.mono g2.bb
  refine seq_go ((ev_call (el_cons (ev_var rfl) (el_cons (ev_var rfl) el_nil)) ⟨os, ws, n, rfl, ho, hn, W, by omega, ne, rfl⟩) _ B2 H2 e2 g2.sub _ fun v3 B3 H3 g3 _ => ?_)
  have e3 := e2.mono g3.bb
  refine seq_go ((ev_call (el_cons (ev_var rfl) (el_cons (ev_var rfl) el_nil)) ⟨os, tot, rfl, ho, t0, by rw [hn]; exact t1, rfl⟩) _ B3 H3 e3 g3.sub _ fun v4 B4 H4 g4 _ => ?_)
  have e4 := e3.mono g4.bb
  refine seq_go (asg_go ((ev_call (d := .int (i : Int)) (el_cons (ev_var rfl) (el_cons (ev_var rfl) el_nil)) ⟨os, ws, rfl, ho, by omega, hb.symm⟩) _ B4 H4 e4 g4.sub _ fun v5 B5 H5 g5 hv5 => nm_go ?_))
  cases hv5
  have e5 : EnvOk K B5 _ [some (.tuple (intsD os)), some (.list (intsD t)), some (.list (wlD ws)), some (.int tot), some (.int (i : Int)), none, none] := (e4.mono g5.bb).set (Da.int (i : Int)) 4
  have G5 := (((g1.trans g2).trans g3).trans g4).trans g5
  dsimp only
  refine seq_go (if_go ?_)
  refine (eb_test (b := true) (ev_op (ev_var (i := 4) rfl) ev_non fun B H s u v hu hv Q q => ?_)) _ B5 H5 e5 g5.sub _ fun B6 H6 g6 => iteT ?_
  · cases hu
    cases hv
    exact ⟨rfl, q _ B H (.refl s) (by rw [decide_eq_false (by intro z; cases z)]; exact .bl true)⟩
  have G6 := G5.trans g6
  refine (el_cons (ev_op (ev_op (ev_var rfl) (ev_var rfl) (opp_1 (opp_ixL (wlD_at hw)))) (y := .int 1) ev_int (opp_2 (opp_ixT (i := 1) rfl))) el_nil) _ B6 H6 (e5.mono g6.bb) g6.sub _ fun us B7 H7 g7 hu => ?_
  cases hu with
  | @cons u1 d1 ur dr hu1 hu2 =>
    cases hu2
    have G7 := G6.trans g7
    refine ⟨by show 1 ≤ 1000; decide, fun a ha => ⟨a, C, u1, rfl, T.o, T.val, upd_same, fun d hd da => ⟨rfl, d, [("value", u1)], upd_same, ?_, ?_, ?_⟩⟩⟩
    · rw [upd_ne da, upd_same]
    · rw [upd_ne da] at hd
      exact hd
    · have hd1 : H7 d = none := by
        rw [upd_ne da] at hd
        exact hd
      have eH : upd (del (upd (upd (upd H7 a (exo a C none)) d (exd d [("value", u1)])) a (exo a C (some d))) a) d (.xd [("value", u1)]) = upd H7 d (.xd [("value", u1)]) := by
        funext b
        by_cases c1 : b = d
        · subst c1
          rw [upd_same, upd_same]
        · rw [upd_ne c1, upd_ne c1]
          by_cases c2 : b = a
          · subst c2
            rw [del_same, ha]
          · rw [del_ne c2, upd_ne c2, upd_ne c1, upd_ne c2]
      rw [eH]
      exact out u1 B7 _ d (G7.trans (Gr.side g7.sub hd1 _)) (g7.sub.free hd1) (G7.ex.free hd1) upd_same hu1
end K22
end
section
set_option maxRecDepth 100000
set_option maxHeartbeats 4000000
namespace K22
open PySem PySem.Spec PyProof.Rows L2 G Lin C
local macro_rules | `(tactic| walk_at "ev") => `(tactic| first
  | exact ev_var rfl | exact ev_int | exact ev_bl | exact ev_non | exact ev_str
  | (apply ev_op; (focus walk_at "ev"); (focus walk_at "ev"); (focus walk_at "op"))
  | (apply ev_cb; (focus walk_at "el"); (focus walk_at "fn"))
  | (apply ev_lst; (focus walk_at "el"); (show _ ≤ sizeLine; decide))
  | (apply ev_tup; (focus walk_at "el"); (show _ ≤ sizeLine; decide)))
local macro_rules | `(tactic| walk_at "el") => `(tactic| first
  | exact el_nil
  | (apply el_cons; (focus walk_at "ev"); (focus walk_at "el")))
local macro_rules | `(tactic| walk_at "fn") => `(tactic| first
  | exact fn_int | exact fn_len | exact fn_all | exact fn_listL | exact fn_listT)
local macro_rules | `(tactic| walk_at "op") => `(tactic| first
  | exact op_I0 (fun _ => .int _) | exact op_I0 (fun _ => .bl _) | exact opp_1 (op_I0 fun _ => .int _)
  | exact op_I (by show (_ : Int) ≠ 0; decide) (fun _ => .int _)
  | exact op_I (by assumption) (fun _ => .int _)
  | exact opp_1 (op_I (by assumption) fun _ => .int _)
  | exact opp_1 (opp_ixL (i := 0) rfl) | exact opp_2 (opp_ixT (i := 0) rfl) | exact opp_2 (opp_ixT (i := 1) rfl) | exact opp_2 (opp_ixT (i := 2) rfl))
theorem dropS_go {sp : Sp} {W : L2.St → XK} {ta : TA} {D : Ends} {σ : L2.St} {H : Hp} (h : ta σ H fun vs H1 => sp vs H1 (fun _ H2 => D.nx σ H2) (W σ)) : tDrop (tCallS sp W ta) D σ H := h
theorem sc_law_refused : FnScope ["orders_told", "first_told", "wishes_told", "bad", "caught", "problem"] ["orders_told", "first_told", "wishes_told", "bad"] (defScope s_law_refused) := ⟨rfl, rfl, rfl, by decide +kernel, rfl, by decide +kernel, by decide +kernel⟩
theorem ok_law_refused {P : Program} {w : World} {K : PySem.W.Frag} {mg : Str → Option Value} {base : Heap} (B : Bi mg) {C fI : Addr} (T : ErrC K C fI) (hC : mg "Uneven" = some (.ref C)) (cs : CalX P w K mg base 9 "system_for" ["orders", "first", "wishes", "total"] (spRz K C)) (h : Has K mg "_law_refused" s_law_refused ["orders_told", "first_told", "wishes_told", "bad"]) :
    Cal P w K mg base 10 "_law_refused" ["orders_told", "first_told", "wishes_told", "bad"] (sp K p_law_refused) := by
  obtain ⟨f, fd, F, hmg, bd⟩ := h
  obtain ⟨f2, fd2, hm2, kq2, hb2, F2⟩ := cs.ex
  refine ⟨f, fd, hmg, kq_of F, bd, fn_g0 F sc_law_refused (fun vs H Q E h => ?_) fun cdv A outer s H vs Q E hg hr h => ⟨_, (pss_cons (ps_set (i := 4) sc_law_refused.nd rfl (Or.inl rfl) pe_non)
    (pss_cons (ps_try_hold (i := 5) (c := .ref C) (W0 := fun _ _ _ _ => False) (ts := fun _ _ _ => tAsg (tVar 5) (gName 4)) (tb := fun W => tDrop (tCallS (spRz K C) (WE W) (tCons (tVar 0) (tCons (tVar 1) (tCons (tVar 2) (tCons (tC (.int 0)) tNil)))))) rfl rfl rfl sc_law_refused.nd rfl (by rfl) ⟨by rfl, by decide, .inl hC⟩ (fun _ _ ⟨_, _, _, _, _, _, _, _, _, _, _, _, _, _, _, _, z⟩ => z.elim)
      (fun W pn xe tk po => pss_one (ps_expr (pg_callS (W := WE W) hg F2 hr (by rfl) hm2 kq2.1 hb2 (fun σ => passAt tk σ) (pa_cons (pv 0) (pa_cons (pv 1) (pa_cons (pv 2) (pa_cons pe_int pa_nil)))))))
      (fun a oe cls d pn hz hf => pss_one (ps_set (i := 4) sc_law_refused.nd rfl (Or.inl rfl) (pv 5))))
    (pss_one (ps_ret (pe_and (pe_cmpR op_notN (pv 4) pe_non (nomark _)) (pe_one (pe_cmpR (eqRK K hr) (pe_callB (reprK K hg hr) (by rfl) B.repr (by decide +kernel) (pa_cons (pe_caF T.x T.val (pv 4)) pa_nil)) (pe_callB (reprK K hg hr) (by rfl) B.repr (by decide +kernel) (pa_cons (pv 3) pa_nil)) (nomark _)))))))), ?_⟩⟩
  · obtain ⟨B, ds, d, _, a, hp, _⟩ := h
    rw [a.len]
    exact ar_law_refused ds d hp
  obtain ⟨B0, ds, d, s0, a0, ⟨os, t, ws, n, i, wi, rfl, ho, hn, T0, W, hl, hb, hw, rfl⟩, q⟩ := h
  have nb := ho.n1 hn
  have wr := (W wi (List.mem_of_getElem? hw)).2
  have wl := wr.len
  have plB : Pl (.list (intsD wi.2)) := Pl.ints (fun x hx => by have := wr.mem x hx; omega) (by omega)
  have e0 : EnvOk K B0 (L2.start ["orders_told", "first_told", "wishes_told", "bad", "caught", "problem"] vs) [some (.tuple (intsD os)), some (.list (intsD t)), some (.list (wlD ws)), some (.list (intsD wi.2)), none, none] := env_start (N := ["orders_told", "first_told", "wishes_told", "bad", "caught", "problem"]) a0
  generalize L2.start ["orders_told", "first_told", "wishes_told", "bad", "caught", "problem"] vs = σ0 at e0 ⊢
  have ll := e0.len
  refine seq_go (asg_go ?_)
  refine nm_go ?_
  have e1 : EnvOk K B0 (σ0.set 4 (some .non)) [some (.tuple (intsD os)), some (.list (intsD t)), some (.list (wlD ws)), some (.list (intsD wi.2)), none, none] := e0.forget (some .non) 4
  have l1 : (σ0.set 4 (some V.non)).length = 6 := by rw [List.length_set]; exact ll
  generalize σ0.set 4 (some V.non) = σ1 at e1 l1 ⊢
  dsimp only
  refine seq_go (dropS_go ?_)
  refine (el_cons (ev_var (i := 0) rfl) (el_cons (ev_var (i := 1) rfl) (el_cons (ev_var (i := 2) rfl) (el_cons (ev_int (i := 0)) el_nil)))) σ1 B0 H e1 s0 _ fun us B1 H1 g1 hu => ?_
  refine ⟨B1, os, t, ws, 0, n, i, wi, g1.sub, hu, ho, hn, T0, W, hl, by omega, by omega, hb, hw, fun v B2 H2 dd g2 bd hd0 hd hv => ?_⟩
  refine ⟨true, T.self, (fun z => nomatch z), fun _ a ha => ?_⟩
  refine asg_go ⟨.ref a, List.getElem?_set_self (by omega), nm_go ?_⟩
  have G2 := g1.trans g2
  have da : dd ≠ a := fun z => by rw [z, ha] at hd; cases hd
  have G3 : Gr B0 H B2 (upd H2 a (caO (.ref C) (some dd) a)) := G2.trans (Gr.side g2.sub ha _)
  have e2 : EnvOk K B2 (((σ1.set 5 (some (.ref a))).set 4 (some (.ref a))).set 5 none) [some (.tuple (intsD os)), some (.list (intsD t)), some (.list (wlD ws)), some (.list (intsD wi.2)), none, none] := (((e1.mono G2.bb).forget (some (.ref a)) 5).forget (some (.ref a)) 4).forget none 5
  have i4 : (((σ1.set 5 (some (V.ref a))).set 4 (some (.ref a))).set 5 none)[4]? = some (some (.ref a)) := by rw [List.getElem?_set_ne (by decide), List.getElem?_set_self (by rw [List.length_set]; omega)]
  dsimp only
  refine ret_go ⟨.ref a, i4, rfl, true, ?_, iteT ?_⟩
  · rw [decide_eq_false (by intro z; cases z)]
    rfl
  refine ⟨.ref a, i4, a, dd, [("value", v)], v, rfl, upd_same, by rw [upd_ne da]; exact hd, rfl, ?_⟩
  refine nil_go ?_
  dsimp only
  refine plB.repr B2 _ G3.sub [v] (.cons hv .nil) _ fun u3 B3 H3 g3 hu3 => ?_
  cases hu3
  refine (ev_cb (el_cons (ev_var (i := 3) rfl) el_nil) plB.repr) _ B3 H3 (e2.mono g3.bb) g3.sub _ fun u4 B4 H4 g4 hu4 => ?_
  cases hu4
  exact eqS_self B4 H4 g4.sub _ _ (.str _) (.str _) _ fun u5 B5 H5 g5 hu5 => q u5 B5 H5 (((G3.trans g3).trans g4).trans g5) hu5
end K22
end
section
set_option maxRecDepth 100000
set_option maxHeartbeats 4000000
/-! what the law of wished systems uses -/
namespace C
open PySem PySem.Spec PyProof.Rows L2 G Lin
structure Sh (d : PyData) (k b : Nat) : Prop where
  c : d.canLay0 = true
  l : d.leavesShort 13 = true
  s : d.showable = true
  dep : d.depth ≤ k
  blk : d.bulk ≤ b
theorem shAll {ds : List PyData} {k b : Nat} (h : ∀ d ∈ ds, Sh d k b) : PyData.canLayAll0 ds = true ∧ PyData.leavesShortAll 13 ds = true ∧ PyData.showableAll ds = true := by
  induction ds with
  | nil => exact ⟨by simp [PyData.canLayAll0], by simp [PyData.leavesShortAll], by simp [PyData.showableAll]⟩
  | cons d ds ih =>
    have a := h d (List.mem_cons_self ..)
    obtain ⟨x, y, z⟩ := ih fun e he => h e (List.mem_cons_of_mem _ he)
    exact ⟨by rw [PyData.canLayAll0, a.c, x]; rfl, by rw [PyData.leavesShortAll, a.l, y]; rfl, by rw [PyData.showableAll, a.s, z]; rfl⟩
theorem Sh.list {ds : List PyData} {k b : Nat} (h : ∀ d ∈ ds, Sh d k b) : Sh (.list ds) (k + 1) (ds.length * (b + 1)) := by
  obtain ⟨x, y, z⟩ := shAll h
  exact ⟨by rw [PyData.canLay0]; exact x, by rw [PyData.leavesShort]; exact y, by rw [PyData.showable]; exact z, depth_list fun d hd => (h d hd).dep, bulk_list fun d hd => (h d hd).blk⟩
theorem Sh.tuple {ds : List PyData} {k b : Nat} (h : ∀ d ∈ ds, Sh d k b) : Sh (.tuple ds) (k + 1) (ds.length * (b + 1)) := by
  obtain ⟨x, y, z⟩ := shAll h
  exact ⟨by rw [PyData.canLay0]; exact x, by rw [PyData.leavesShort]; exact y, by rw [PyData.showable]; exact z, depth_tuple fun d hd => (h d hd).dep, bulk_tuple fun d hd => (h d hd).blk⟩
theorem Sh.le {d : PyData} {k b k' b' : Nat} (h : Sh d k b) (hk : k ≤ k') (hb : b ≤ b') : Sh d k' b' := ⟨h.c, h.l, h.s, Nat.le_trans h.dep hk, Nat.le_trans h.blk hb⟩
theorem Sh.repr {K : PySem.W.Frag} {d : PyData} {k b : Nat} (h : Sh d k b) (hk : k ≤ 100) (hb : b ≤ 1000000) : Fn K (rRepr K) [d] (.str d.shown) := by
  refine fn_repr h.s (PyData.hasDict_of_canLay _ h.c) (Nat.le_trans h.dep hk) ?_
  have q := PyData.shown_le_bulk 13 (by decide) d h.l
  have := h.blk
  rw [sizeLine_eq]
  omega
theorem shn_int {i : Int} (h : i.natAbs < 10 ^ 12) : Sh (.int i) 0 0 := by
  have a := pl_facts (.int i) (pl_int h)
  exact ⟨a.1, a.2.1, a.2.2.1, by rw [depth_int]; omega, by rw [bulk_int]; omega⟩
theorem sh_ints {ns : List Int} (h : ∀ n ∈ ns, n.natAbs < 10 ^ 12) : Sh (.list (intsD ns)) 1 ns.length := by
  have q := Sh.list (ds := intsD ns) (k := 0) (b := 0) fun d hd => by
    obtain ⟨n, hn, rfl⟩ := List.mem_map.mp hd
    exact shn_int (h n hn)
  rw [ints_len] at q
  exact q.le (by omega) (by omega)
theorem sh_kind {c : Str} (h : c ∈ kinds) : Sh (.str c) 0 10 := by
  rcases List.mem_cons.mp h with rfl | h
  · exact ⟨by decide +kernel, by decide +kernel, by decide +kernel, by rw [PyData.depth]; omega, by decide +kernel⟩
  · rw [List.mem_singleton.mp h]
    exact ⟨by decide +kernel, by decide +kernel, by decide +kernel, by rw [PyData.depth]; omega, by decide +kernel⟩
theorem sh_wishes {n : Nat} {ws : WL} (hn : n ≤ 1000) (W : Wl n ws) : Sh (.list (wlD ws)) 3 (ws.length * 2100) := by
  have q := Sh.list (ds := wlD ws) (k := 2) (b := 2099) fun d hd => by
    obtain ⟨w, hw, rfl⟩ := List.mem_map.mp hd
    have a := W w hw
    have al := a.2.len
    exact (Sh.tuple (ds := [.str w.1, .list (intsD w.2)]) (k := 1) (b := 1000) fun d hd => by
      rcases List.mem_cons.mp hd with rfl | hd
      · exact (sh_kind a.1).le (by omega) (by omega)
      · rw [List.mem_singleton.mp hd]
        exact (sh_ints fun x hx => by have := a.2.mem x hx; omega).le (by omega) (by omega)).le (by omega) (by show 2 * 1001 ≤ 2099; omega)
  rw [wlD_len] at q
  exact q
theorem fn_kept {K : PySem.W.Frag} {n : Nat} {t : List Int} {ws : WL} (hn : n ≤ 40) (T : Tab (n : Int) t) (W : Wl n ws) (hl : ws.length ≤ 40) : Fn K (rRepr K) [.list [.list (intsD t), .list (wlD ws)]] (.str (PyData.list [.list (intsD t), .list (wlD ws)]).shown) :=
  (Sh.list (ds := [.list (intsD t), .list (wlD ws)]) (k := 3) (b := 90000) fun d hd => by
    rcases List.mem_cons.mp hd with rfl | hd
    · exact (sh_ints fun x hx => by have := T.mem x hx; omega).le (by omega) (by have := T.len; omega)
    · rw [List.mem_singleton.mp hd]
      exact (sh_wishes (by omega) W).le (by omega) (by have : ws.length * 2100 ≤ 40 * 2100 := Nat.mul_le_mul_right _ hl; omega)).repr (by omega) (by show 2 * 90001 ≤ 1000000; omega)
theorem sh_tabs {n : Nat} {ts : List (List Int)} (hn : n ≤ 40) (hT : ∀ t ∈ ts, Tab (n : Int) t) (hl : ts.length ≤ 100) : Sh (.list (tabsD ts)) 2 4100 := by
  have q := Sh.list (ds := tabsD ts) (k := 1) (b := 40) fun d hd => by
    obtain ⟨t, ht, rfl⟩ := List.mem_map.mp hd
    have T := hT t ht
    exact (sh_ints fun x hx => by have := T.mem x hx; omega).le (by omega) (by have := T.len; omega)
  rw [tabs_len] at q
  exact q.le (by omega) (by have : ts.length * 41 ≤ 100 * 41 := Nat.mul_le_mul_right _ hl; omega)
theorem sh_ords {os : List Int} (h : Ords os) : Sh (.tuple (intsD os)) 1 20 := by
  have hl2 := ords_len h
  have q := Sh.tuple (ds := intsD os) (k := 0) (b := 0) fun d hd => by
    obtain ⟨n, hn, rfl⟩ := List.mem_map.mp hd
    have := ord_le h hn
    exact shn_int (by omega)
  rw [ints_len] at q
  exact q.le (by omega) (by omega)
theorem fn_sys40 {K : PySem.W.Frag} {os : List Int} {n : Nat} {ts : List (List Int)} {tot : Int} (hs : Sys os ts tot) (hn : prodI os = n) (h40 : n ≤ 40) : Fn K (rRepr K) [sysD os ts tot] (.str (sysD os ts tot).shown) := by
  have a := hs.t0
  have b := hs.t1
  refine (Sh.tuple (ds := [.tuple (intsD os), .list (tabsD ts), .int tot]) (k := 2) (b := 4100) fun d hd => ?_).repr (by omega) (by show 3 * 4101 ≤ 1000000; omega)
  rcases List.mem_cons.mp hd with rfl | hd
  · exact (sh_ords hs.ord).le (by omega) (by omega)
  rcases List.mem_cons.mp hd with rfl | hd
  · exact sh_tabs h40 (fun t ht => by have := hs.tabs t ht; rw [hn] at this; exact this) hs.few
  · rw [List.mem_singleton.mp hd]
    exact (shn_int (by omega)).le (by omega) (by omega)
theorem fn_told {K : PySem.W.Frag} {os t : List Int} {n : Nat} {tot : Int} (ho : Ords os) (h40 : n ≤ 40) (T : Tab (n : Int) t) (t0 : 0 ≤ tot) (t1 : tot < n) : Fn K (rRepr K) [.list [.tuple (intsD os), .list (intsD t), .int tot]] (.str (PyData.list [.tuple (intsD os), .list (intsD t), .int tot]).shown) := by
  refine (Sh.list (ds := [.tuple (intsD os), .list (intsD t), .int tot]) (k := 2) (b := 4100) fun d hd => ?_).repr (by omega) (by show 3 * 4101 ≤ 1000000; omega)
  rcases List.mem_cons.mp hd with rfl | hd
  · exact (sh_ords ho).le (by omega) (by omega)
  rcases List.mem_cons.mp hd with rfl | hd
  · exact (sh_ints fun x hx => by have := T.mem x hx; omega).le (by omega) (by have := T.len; omega)
  · rw [List.mem_singleton.mp hd]
    exact (shn_int (by omega)).le (by omega) (by omega)
theorem sys_gr {os t : List Int} {ws : WL} {tot : Int} {n : Nat} (ho : Ords os) (hn : prodI os = n) (T : Tab (n : Int) t) (W : Wl n ws) (hl : ws.length ≤ 99) (ne : ws ≠ []) (hz : ∀ w ∈ ws, linR os.reverse w.2 [] = 0) (t0 : 0 ≤ tot) (t1 : tot < n) : Sys os (grT os t ws) tot := by
  have lp := List.length_pos_iff.mpr ne
  exact ⟨ho, by rw [grT_len]; omega, by rw [grT_len]; omega, fun u hu => by rw [hn]; exact grT_tab ho hn T W hz u hu, t0, by rw [hn]; exact t1⟩
def badR (os row : List Int) (p : Nat) : List Int := row.take p ++ [linR os.reverse [row.getD p 0, 1] []] ++ row.drop (p + 1)
def onlyR (n : Nat) : List Int := 1 :: List.replicate (n - 1) 0
theorem row_bad {os row : List Int} {n p : Nat} (ho : Ords os) (hn : prodI os = n) (h : Row n row) (hp : p < n) : Row n (badR os row p) := by
  have hl := h.len
  refine ⟨by unfold badR; rw [List.length_append, List.length_append, List.length_take, List.length_drop]; show min p row.length + 1 + (row.length - (p + 1)) = n; omega, fun x hx => ?_⟩
  unfold badR at hx
  rcases List.mem_append.mp hx with hx | hx
  · rcases List.mem_append.mp hx with hx | hx
    · exact h.mem x (List.mem_of_mem_take hx)
    · rw [List.mem_singleton.mp hx, ← hn]
      exact lin_in_n ho _ _
  · exact h.mem x (List.mem_of_mem_drop hx)
theorem row_only {n : Nat} (h : 2 ≤ n) : Row n (onlyR n) := by
  refine ⟨by unfold onlyR; rw [List.length_cons, List.length_replicate]; omega, fun x hx => ?_⟩
  rcases List.mem_cons.mp hx with rfl | hx
  · omega
  · rw [List.eq_of_mem_replicate hx]
    omega
theorem lin_bad {os row : List Int} {n p : Nat} (ho : Ords os) (hn : prodI os = n) (h : Row n row) (hz : linR os.reverse row [] = 0) (hp : p < n) : linR os.reverse (badR os row p) [] ≠ 0 := by
  have nb := ho.n1 hn
  have hl := h.len
  have hN : prodR os.reverse = n := by rw [ho.n]; exact hn
  have er : row = row.take p ++ row.getD p 0 :: row.drop (p + 1) := by
    have g : row.getD p 0 = row[p] := by rw [List.getD_eq_getElem?_getD, List.getElem?_eq_getElem (by omega)]; rfl
    rw [g, ← List.drop_eq_getElem_cons (by omega), List.take_append_drop]
  have e1 : linR os.reverse (badR os row p) [] = linR os.reverse (linR os.reverse [row.getD p 0, 1] [] :: (row.take p ++ row.drop (p + 1))) [] := by
    unfold badR
    exact lin_eq (perm_c fun u => by simp only [List.count_append, List.count_cons, List.count_nil]; omega)
  have e2 : linR os.reverse ([row.getD p 0, 1] ++ (row.take p ++ row.drop (p + 1))) ([] ++ []) = linR os.reverse (row ++ [1]) ([] ++ []) := by
    refine lin_eq ?_
    conv => rhs; rw [er]
    exact perm_c fun u => by simp only [List.count_append, List.count_cons, List.count_nil]; omega
  have e3 := lin_in ho.pos [1] [] row []
  rw [hz] at e3
  have e4 := lin_in ho.pos [1] [] [] []
  rw [lin_nil] at e4
  rw [e1, lin_in ho.pos, e2, ← e3, e4]
  show linR os.reverse [1] [] ≠ 0
  rw [lin_one ho.pos (by omega) (by rw [hN]; omega)]
  omega
def bentsL (n : Nat) (ws : WL) (at_ : Nat) (bad : List Int) : WL := ws.take at_ ++ [((ws.getD at_ (("" : Str), [])).1, bad)] ++ ws.drop (at_ + 1) ++ [(("swap" : Str), onlyR n)]
theorem bents_at {n : Nat} {ws : WL} {i : Nat} {bad : List Int} (hi : i < ws.length) : (bentsL n ws i bad)[i]? = some ((ws.getD i (("" : Str), [])).1, bad) := by
  unfold bentsL
  have l : (ws.take i).length = i := by rw [List.length_take]; omega
  rw [List.append_assoc, List.append_assoc, List.getElem?_append_right (by omega), l, Nat.sub_self]
  rfl
theorem bents_wl {n : Nat} {ws : WL} {i : Nat} {bad : List Int} (h2 : 2 ≤ n) (W : Wl n ws) (hi : i < ws.length) (hb : Row n bad) : Wl n (bentsL n ws i bad) := fun w hw => by
  unfold bentsL at hw
  rcases List.mem_append.mp hw with hw | hw
  · rcases List.mem_append.mp hw with hw | hw
    · rcases List.mem_append.mp hw with hw | hw
      · exact W w (List.mem_of_mem_take hw)
      · rw [List.mem_singleton.mp hw]
        refine ⟨?_, hb⟩
        rw [List.getD_eq_getElem?_getD, List.getElem?_eq_getElem hi]
        exact (W _ (List.getElem_mem hi)).1
    · exact W w (List.mem_of_mem_drop hw)
  · rw [List.mem_singleton.mp hw]
    exact ⟨List.mem_cons_self .., row_only h2⟩
theorem bents_bent {os : List Int} {n : Nat} {ws : WL} {i : Nat} {bad : List Int} (hi : i < ws.length) (hz : ∀ w ∈ ws, linR os.reverse w.2 [] = 0) (hb : linR os.reverse bad [] ≠ 0) : bentAt os (bentsL n ws i bad) = .int (i : Int) := by
  have a := bents_at (n := n) (bad := bad) hi
  obtain ⟨hl, ha⟩ := List.getElem?_eq_some_iff.mp a
  unfold bentAt
  have e : (bentsL n ws i bad).findIdx? (fun w => decide (linR os.reverse w.2 [] ≠ 0)) = some i := List.findIdx?_eq_some_iff_getElem.mpr ⟨hl, by rw [ha]; simpa using hb, fun j hj => by
    have q : (bentsL n ws i bad)[j]? = ws[j]? := by
      unfold bentsL
      rw [List.append_assoc, List.append_assoc, List.getElem?_append_left (by rw [List.length_take]; omega), List.getElem?_take_of_lt hj]
    have hj2 : j < ws.length := by omega
    rw [List.getElem?_eq_getElem (by omega), List.getElem?_eq_getElem hj2] at q
    have q2 := Option.some.inj q
    rw [q2]
    simp [hz _ (List.getElem_mem hj2)]⟩
  rw [e]
theorem bents_len {n : Nat} {ws : WL} {i : Nat} {bad : List Int} (hi : i < ws.length) : (bentsL n ws i bad).length = ws.length + 1 := by
  unfold bentsL
  rw [List.length_append, List.length_append, List.length_append, List.length_take, List.length_drop]
  show min i ws.length + 1 + (ws.length - (i + 1)) + 1 = _
  omega
def p_law_asked (ds : List PyData) (c : Nat) (R : PyData → Nat → Prop) : Prop := ∃ (os : List Int) (many n : Nat), ds = [.tuple (intsD os), .int (many : Int)] ∧ Ords os ∧ prodI os = n ∧ n ≤ 40 ∧ 1 ≤ many ∧ many ≤ 40 ∧ c ≤ 2 ^ 35 ∧ ∀ c', c' ≤ c + 40000 → R (.bool true) c'
theorem ar_law_asked (ds : List PyData) (c : Nat) (R : PyData → Nat → Prop) (h : p_law_asked ds c R) : ds.length = 2 := by obtain ⟨_, _, _, rfl, _⟩ := h; rfl
end C
end
section
set_option maxRecDepth 100000
set_option maxHeartbeats 4000000
namespace K22
open PySem PySem.Spec PyProof.Rows L2 G Lin C
local macro_rules | `(tactic| walk_at "ev") => `(tactic| first
  | exact ev_var rfl | exact ev_int | exact ev_bl | exact ev_non | exact ev_str
  | (apply ev_op; (focus walk_at "ev"); (focus walk_at "ev"); (focus walk_at "op"))
  | (apply ev_cb; (focus walk_at "el"); (focus walk_at "fn"))
  | (apply ev_lst; (focus walk_at "el"); (show _ ≤ sizeLine; decide))
  | (apply ev_tup; (focus walk_at "el"); (show _ ≤ sizeLine; decide)))
local macro_rules | `(tactic| walk_at "el") => `(tactic| first
  | exact el_nil
  | (apply el_cons; (focus walk_at "ev"); (focus walk_at "el")))
local macro_rules | `(tactic| walk_at "fn") => `(tactic| first
  | exact fn_int | exact fn_len | exact fn_all | exact fn_listL | exact fn_listT)
local macro_rules | `(tactic| walk_at "op") => `(tactic| first
  | exact op_I0 (fun _ => .int _) | exact op_I0 (fun _ => .bl _) | exact opp_1 (op_I0 fun _ => .int _)
  | exact op_I (by show (_ : Int) ≠ 0; decide) (fun _ => .int _)
  | exact op_I (by assumption) (fun _ => .int _)
  | exact opp_1 (op_I (by assumption) fun _ => .int _)
  | exact opp_1 (opp_ixL (i := 0) rfl) | exact opp_2 (opp_ixT (i := 0) rfl) | exact opp_2 (opp_ixT (i := 1) rfl) | exact opp_2 (opp_ixT (i := 2) rfl))
theorem sc_law_asked : FnScope ["generator", "orders_told", "many", "size", "first_told", "total_told", "wishes_told", "kept", "system_told", "before", "at", "place", "sort", "row_told", "bad", "bents", "turn"] ["generator", "orders_told", "many"] (defScope s_law_asked) := ⟨rfl, rfl, rfl, by decide +kernel, rfl, by decide +kernel, by decide +kernel⟩
theorem ok_law_asked {P : Program} {w : World} {K : PySem.W.Frag} {mg : Str → Option Value} {base : Heap} (B : Bi mg) (c_law_refused : Cal P w K mg base 10 "_law_refused" ["orders_told", "first_told", "wishes_told", "bad"] (sp K p_law_refused)) (c_law_add : Cal P w K mg base 1 "_law_add" ["orders_told", "one", "other"] (sp K p_law_add)) (c_law_random : Cal P w K mg base 2 "_law_random" ["generator", "bound"] (spG K p_law_random)) (c_law_marked : Cal P w K mg base 5 "_law_marked" ["told"] (sMk K 3)) (c_law_kept : Cal P w K mg base 3 "_law_kept" ["system_told", "place", "wish_told"] (sp K p_law_kept)) (c_law_system_right : Cal P w K mg base 2 "_law_system_right" ["system_told", "places"] (sp K p_law_system_right)) (c_system_for : Cal P w K mg base 9 "system_for" ["orders", "first", "wishes", "total"] (spQ K (qS K) p_system_for)) (c_law_even_row : Cal P w K mg base 3 "_law_even_row" ["generator", "orders_told"] (spG K p_law_even_row)) (c_law_shuffled : Cal P w K mg base 3 "_law_shuffled" ["generator", "size"] (spG K p_law_shuffledN)) (c_law_size : Cal P w K mg base 1 "_law_size" ["orders_told"] (sp K p_law_size)) (k_system_for_total_wishes_first_orders : CalK P w K mg base 9 "system_for" ["orders", "first", "wishes", "total"] ["total", "wishes", "first", "orders"] kwg_system_for_total_wishes_first_orders (spQ K (qS K) p_system_for)) (h : Has K mg "_law_asked" s_law_asked ["generator", "orders_told", "many"]) :
    Cal P w K mg base 11 "_law_asked" ["generator", "orders_told", "many"] (spG K p_law_asked) := by
  refine has_g h sc_law_asked rfl ar_law_asked (fun f cdv A outer s H E hg hr => ⟨_, (pss_cons (ps_set (i := 3) sc_law_asked.nd rfl (Or.inl rfl) (pg_cal hg c_law_size hr (by rfl) (pa_cons (pv 1) pa_nil)))
      (pss_cons (ps_par (i := 4) (j := 5) rfl sc_law_asked.nd rfl rfl (by decide) rfl rfl (pa_cons (pg_cal hg c_law_shuffled hr (by rfl) (pa_cons (pv 0) (pa_cons (pv 3) pa_nil))) (pa_cons (pg_cal hg c_law_random hr (by rfl) (pa_cons (pv 0) (pa_cons (pv 3) pa_nil))) pa_nil)) (by rfl))
      (pss_cons (ps_set (i := 6) sc_law_asked.nd rfl (Or.inr rfl) (pe_lc (own := [("turn", 16)]) (g := (gName 16)) rfl sc_law_asked.nd (pi_range1 (by rfl) B.range (pa_cons (pv 2) pa_nil)) (blkOk_by (N := ["generator", "orders_told", "many", "size", "first_told", "total_told", "wishes_told", "kept", "system_told", "before", "at", "place", "sort", "row_told", "bad", "bents", "turn"]) (sc := defScope s_law_asked) (own := [("turn", 16)]) (by decide +kernel)) (fun _ _ _ _ _ => pg_name (i := 16) sc_law_asked.nd rfl (Or.inl rfl)) (fun _ _ _ _ _ => pts_nil) (fun _ _ _ _ _ => (pe_tup (pa_cons (pe_ix (ixK K) (pe_lst (pa_cons pe_str (pa_cons pe_str pa_nil))) (pg_cal hg c_law_random hr (by rfl) (pa_cons (pv 0) (pa_cons pe_int pa_nil))) (fun _ _ => rfl)) (pa_cons (pg_cal hg c_law_even_row hr (by rfl) (pa_cons (pv 0) (pa_cons (pv 1) pa_nil))) pa_nil))))))
      (pss_cons (ps_set (i := 7) sc_law_asked.nd rfl (Or.inl rfl) (pe_callB (reprK K hg hr) (by rfl) B.repr (by decide +kernel) (pa_cons (pe_lst (pa_cons (pv 4) (pa_cons (pv 6) pa_nil))) pa_nil)))
      (pss_cons (ps_set (i := 8) sc_law_asked.nd rfl (Or.inr rfl) (pg_cal hg c_system_for hr (by rfl) (pa_cons (pv 1) (pa_cons (pv 4) (pa_cons (pv 6) (pa_cons (pv 5) pa_nil))))))
      (pss_cons (ps_if (PW.pt (pw_or (pt_not (pt_val (pg_cal hg c_law_system_right hr (by rfl) (pa_cons (pv 8) (pa_cons (pe_op (addK K) (pv 2) pe_int) pa_nil))))) (pw_or1 (pt_cmpR (neRK K hr) (pe_callB (reprK K hg hr) (by rfl) B.repr (by decide +kernel) (pa_cons (pe_lst (pa_cons (pe_ix (ixK K) (pv 8) pe_int (fun _ _ => rfl)) (pa_cons (pe_ix (ixK K) (pe_ix (ixK K) (pv 8) pe_int (fun _ _ => rfl)) pe_int (fun _ _ => rfl)) (pa_cons (pe_ix (ixK K) (pv 8) pe_int (fun _ _ => rfl)) pa_nil)))) pa_nil)) (pe_callB (reprK K hg hr) (by rfl) B.repr (by decide +kernel) (pa_cons (pe_lst (pa_cons (pv 1) (pa_cons (pv 4) (pa_cons (pv 5) pa_nil)))) pa_nil)) (nomark _))))) (pss_one (ps_ret pe_bl)) pss_nil)
      (pss_cons (ps_if (PW.pt (pw_or (pt_cmpR (neK K hr) (pe_lc (own := [("at", 10)]) (g := (gName 10)) rfl sc_law_asked.nd (pi_range1 (by rfl) B.range (pa_cons (pv 2) pa_nil)) (blkOk_by (N := ["generator", "orders_told", "many", "size", "first_told", "total_told", "wishes_told", "kept", "system_told", "before", "at", "place", "sort", "row_told", "bad", "bents", "turn"]) (sc := defScope s_law_asked) (own := [("at", 10)]) (by decide +kernel)) (fun _ _ _ _ _ => pg_name (i := 10) sc_law_asked.nd rfl (Or.inl rfl)) (fun _ _ _ _ _ => pts_one (pt_not (pt_val (pg_cal hg c_law_kept hr (by rfl) (pa_cons (pv 8) (pa_cons (pv 10) (pa_cons (pe_ix (ixK K) (pv 6) (pv 10) (fun _ _ => rfl)) pa_nil))))))) (fun _ _ _ _ _ => (pv 10))) (pe_lst pa_nil) (nomark _)) (pw_or1 (pt_cmpR (neRK K hr) (pe_callB (reprK K hg hr) (by rfl) B.repr (by decide +kernel) (pa_cons (pe_lst (pa_cons (pv 4) (pa_cons (pv 6) pa_nil))) pa_nil)) (pv 7) (nomark _))))) (pss_one (ps_ret pe_bl)) pss_nil)
      (pss_cons (ps_set (i := 9) sc_law_asked.nd rfl (Or.inl rfl) (pe_callB (reprK K hg hr) (by rfl) B.repr (by decide +kernel) (pa_cons (pv 8) pa_nil)))
      (pss_cons (ps_if (PW.pt (pw_or (pt_not (pt_val (pg_cal hg c_law_marked hr (by rfl) (pa_cons (pv 8) pa_nil)))) (pw_or (pt_cmpR (neRK K hr) (pe_callB (reprK K hg hr) (by rfl) B.repr (by decide +kernel) (pa_cons (pg_calK hg k_system_for_total_wishes_first_orders hr (by rfl) (pk_cons (pv 5) (pk_cons (pv 6) (pk_cons (pv 4) (pk_cons (pv 1) pk_nil))))) pa_nil)) (pv 9) (nomark _)) (pw_or1 (pt_cmpR (neRK K hr) (pe_callB (reprK K hg hr) (by rfl) B.repr (by decide +kernel) (pa_cons (pe_lst (pa_cons (pv 4) (pa_cons (pv 6) pa_nil))) pa_nil)) (pv 7) (nomark _)))))) (pss_one (ps_ret pe_bl)) pss_nil)
      (pss_cons (ps_par (i := 10) (j := 11) rfl sc_law_asked.nd rfl rfl (by decide) rfl rfl (pa_cons (pg_cal hg c_law_random hr (by rfl) (pa_cons (pv 0) (pa_cons (pv 2) pa_nil))) (pa_cons (pg_cal hg c_law_random hr (by rfl) (pa_cons (pv 0) (pa_cons (pv 3) pa_nil))) pa_nil)) (by rfl))
      (pss_cons (ps_asg (pe_ix (ixK K) (pv 6) (pv 10) (fun _ _ => rfl)) (pg_tup rfl (pgs_cons (pg_name (i := 12) sc_law_asked.nd rfl (Or.inl rfl)) (pgs_cons (pg_name (i := 13) sc_law_asked.nd rfl (Or.inl rfl)) pgs_nil))))
      (pss_cons (ps_set (i := 14) sc_law_asked.nd rfl (Or.inl rfl) (pe_op (addK K) (pe_op (addK K) (pe_slice (slK K) (pv 13) po_none (po_some (pv 11))) (pe_lst (pa_cons (pg_cal hg c_law_add hr (by rfl) (pa_cons (pv 1) (pa_cons (pe_ix (ixK K) (pv 13) (pv 11) (fun _ _ => rfl)) (pa_cons pe_int pa_nil)))) pa_nil))) (pe_slice (slK K) (pv 13) (po_some (pe_op (addK K) (pv 11) pe_int)) po_none)))
      (pss_cons (ps_set (i := 15) sc_law_asked.nd rfl (Or.inl rfl) (pe_op (addK K) (pe_op (addK K) (pe_op (addK K) (pe_slice (slK K) (pv 6) po_none (po_some (pv 10))) (pe_lst (pa_cons (pe_tup (pa_cons (pv 12) (pa_cons (pv 14) pa_nil))) pa_nil))) (pe_slice (slK K) (pv 6) (po_some (pe_op (addK K) (pv 10) pe_int)) po_none)) (pe_lst (pa_cons (pe_tup (pa_cons pe_str (pa_cons (pe_op (addK K) (pe_lst (pa_cons pe_int pa_nil)) (pe_op op_mulA (pe_lst (pa_cons pe_int pa_nil)) (pe_op op_sub (pv 3) pe_int))) pa_nil))) pa_nil))))
      (pss_one (ps_ret (pg_cal hg c_law_refused hr (by rfl) (pa_cons (pv 1) (pa_cons (pv 4) (pa_cons (pv 15) (pa_cons (pv 14) pa_nil)))))))))))))))))))), fun ds c R hp => ?_⟩) (List.cons_ne_nil _ _)
  obtain ⟨os, many, n, rfl, ho, hn, h40, m1, m40, hc, hR⟩ := hp
  have nb := ho.n1 hn
  refine dg_seq (M := fun ρ c' => ρ = [none, some (.tuple (intsD os)), some (.int (many : Int)), some (.int (n : Int)), none, none, none, none, none, none, none, none, none, none, none, none, none] ∧ c' = c) (dg_set (P := fun d c' => d = .int (n : Int) ∧ c' = c) (eg_pure (ev_call (el_cons (ev_var rfl) el_nil) ⟨os, rfl, ho, by rw [hn]⟩) ⟨rfl, rfl⟩) (by decide) ?_) ?_
  · rintro d c' ⟨rfl, rfl⟩
    exact ⟨rfl, rfl⟩
  rintro ρ' c1 ⟨rfl, rfl⟩
  refine dg_seq (M := fun ρ c' => ∃ (t : List Int) (tot : Int), ρ = [none, some (.tuple (intsD os)), some (.int (many : Int)), some (.int (n : Int)), some (.list (intsD t)), some (.int tot), none, none, none, none, none, none, none, none, none, none, none] ∧ Tab (n : Int) t ∧ 0 ≤ tot ∧ tot < n ∧ c' = c1 + 4 * n + 4) (dg_par (P := fun ds c' => ∃ (t : List Int) (tot : Int), ds = [.list (intsD t), .int tot] ∧ Tab (n : Int) t ∧ 0 ≤ tot ∧ tot < n ∧ c' = c1 + 4 * n + 4) (el_c (P1 := fun d c' => (∃ t : List Int, d = .list (intsD t) ∧ t.Perm (rgI n)) ∧ c' = c1 + 4 * n) (eg_call (el_cons (ev_var rfl) el_nil) (R := fun d c' => (∃ t : List Int, d = .list (intsD t) ∧ t.Perm (rgI n)) ∧ c' = c1 + 4 * n) ⟨n, rfl, by omega, by omega, fun ys hy => ⟨⟨ys, rfl, hy⟩, rfl⟩⟩ fun _ _ h => h) ?_) (by decide) (by decide) ?_) ?_
  · rintro x c2 ⟨⟨t, rfl, ht⟩, rfl⟩
    refine el_c (P1 := fun d c' => (∃ tot : Int, d = .int tot ∧ 0 ≤ tot ∧ tot < n) ∧ c' = c1 + 4 * n + 4) (eg_call (el_cons (ev_var rfl) el_nil) (R := fun d c' => (∃ tot : Int, d = .int tot ∧ 0 ≤ tot ∧ tot < n) ∧ c' = c1 + 4 * n + 4) ⟨n, rfl, by omega, by omega, by omega, fun i h0 h1 => ⟨⟨i, rfl, h0, h1⟩, rfl⟩⟩ fun _ _ h => h) ?_
    rintro x c3 ⟨⟨tot, rfl, h0, h1⟩, rfl⟩
    exact el_n ⟨t, tot, rfl, tab_of_perm ht, h0, h1, rfl⟩
  · rintro ds c2 ⟨t, tot, rfl, h⟩
    exact ⟨_, _, rfl, t, tot, rfl, h⟩
  rintro ρ' c2 ⟨t, tot, rfl, T, t0, t1, rfl⟩
  refine dg_seq (M := fun ρ c' => ∃ ws : WL, ρ = [none, some (.tuple (intsD os)), some (.int (many : Int)), some (.int (n : Int)), some (.list (intsD t)), some (.int tot), some (.list (wlD ws)), none, none, none, none, none, none, none, none, none, none] ∧ Wl n ws ∧ (∀ w ∈ ws, linR os.reverse w.2 [] = 0) ∧ ws.length = many ∧ c' ≤ c1 + 10000) (dg_set (P := fun d c' => ∃ ws : WL, d = .list (wlD ws) ∧ Wl n ws ∧ (∀ w ∈ ws, linR os.reverse w.2 [] = 0) ∧ ws.length = many ∧ c' ≤ c1 + 10000) (eg_lc (it_range1 (n := many) (el_cons (ev_var rfl) el_nil) (by omega)) (by rw [List.length_map, List.length_range]; omega) (by decide) (fun k out c' => (∃ ws : WL, out = wlD ws ∧ Wl n ws ∧ (∀ w ∈ ws, linR os.reverse w.2 [] = 0) ∧ ws.length = k) ∧ c' ≤ c1 + 4 * n + 4 + 200 * k) ⟨⟨[], rfl, fun w h => by simp at h, fun w h => by simp at h, rfl⟩, by omega⟩ ?_ ?_) (by decide) ?_) ?_
  · rintro k e out c3 he ⟨⟨ws, rfl, W, hz, hl⟩, hc3⟩
    have hk := (List.getElem?_eq_some_iff.mp he).1
    rw [List.length_map, List.length_range] at hk
    refine ⟨_, tgw_name, eg_tup (P1 := fun ds c' => ∃ (kind : Str) (row : List Int), ds = [.str kind, .list (intsD row)] ∧ kind ∈ kinds ∧ Row n row ∧ linR os.reverse row [] = 0 ∧ c' ≤ c3 + 8 + 4 * n) (el_c (P1 := fun d c' => (∃ kind : Str, d = .str kind ∧ kind ∈ kinds) ∧ c' = c3 + 4) (eg_op (P1 := fun d c' => d = .list [.str "swap", .str "twin"] ∧ c' = c3) (P2 := fun _ d c' => (∃ i : Nat, d = .int (i : Int) ∧ i < 2) ∧ c' = c3 + 4) (eg_pure (ev_lst (el_cons ev_str (el_cons ev_str el_nil)) (by show 2 ≤ sizeLine; decide)) ⟨rfl, rfl⟩) ?_ ?_) ?_) ?_⟩
    · rintro x c4 ⟨rfl, rfl⟩
      exact eg_call (ds := [.int 2]) (el_cons ev_int el_nil) (R := fun d c' => (∃ i : Nat, d = .int (i : Int) ∧ i < 2) ∧ c' = c4 + 4) ⟨2, rfl, by decide, by decide, by omega, fun i h0 h1 => ⟨⟨i.toNat, by rw [Int.toNat_of_nonneg h0], by omega⟩, rfl⟩⟩ fun _ _ h => h
    · rintro x y c4 c5 ⟨rfl, rfl⟩ ⟨⟨i, rfl, hi⟩, rfl⟩
      rcases i with _ | _ | i
      · exact ⟨_, opp_1 (opp_ixL (i := 0) rfl), ⟨_, rfl, List.mem_cons_self ..⟩, rfl⟩
      · exact ⟨_, opp_1 (opp_ixL (i := 1) rfl), ⟨_, rfl, List.mem_cons_of_mem _ (List.mem_cons_self ..)⟩, rfl⟩
      · omega
    · rintro x c4 ⟨⟨kind, rfl, hk2⟩, rfl⟩
      refine el_c (P1 := fun d c' => (∃ row : List Int, d = .list (intsD row) ∧ Row n row ∧ linR os.reverse row [] = 0) ∧ c' ≤ c3 + 4 + 4 + 4 * n) (eg_call (ds := [.tuple (intsD os)]) (el_cons (ev_var rfl) el_nil) (R := fun d c' => (∃ row : List Int, d = .list (intsD row) ∧ Row n row ∧ linR os.reverse row [] = 0) ∧ c' ≤ c3 + 4 + 4 + 4 * n) ⟨os, n, rfl, ho, hn, by omega, fun row c' hr hz hc' => ⟨⟨row, rfl, hr, hz⟩, hc'⟩⟩ fun _ _ h => h) ?_
      rintro x c5 ⟨⟨row, rfl, hr, hz2⟩, hc5⟩
      exact el_n ⟨kind, row, rfl, hk2, hr, hz2, by omega⟩
    · rintro ds c4 ⟨kind, row, rfl, hk2, hr, hz2, hc4⟩
      refine ⟨by show 2 ≤ sizeLine; decide, ⟨ws ++ [(kind, row)], by unfold wlD; rw [List.map_append]; rfl, fun w h => ?_, fun w h => ?_, by rw [List.length_append, hl]; rfl⟩, by omega⟩
      · rcases List.mem_append.mp h with q | q
        · exact W w q
        · rw [List.mem_singleton.mp q]
          exact ⟨hk2, hr⟩
      · rcases List.mem_append.mp h with q | q
        · exact hz w q
        · rw [List.mem_singleton.mp q]
          exact hz2
  · rintro out c' ⟨⟨ws, rfl, W, hz, hl⟩, hc'⟩ _
    rw [List.length_map, List.length_range] at hl hc'
    exact ⟨ws, rfl, W, hz, hl, by omega⟩
  · rintro d c' ⟨ws, rfl, h⟩
    exact ⟨ws, rfl, h⟩
  rintro ρ' c3 ⟨ws, rfl, W, hz, hl, hc3⟩
  have ne : ws ≠ [] := fun z => by rw [z] at hl; simp at hl; omega
  have rK : Fn K (rRepr K) [.list [.list (intsD t), .list (wlD ws)]] (.str (PyData.list [.list (intsD t), .list (wlD ws)]).shown) := fn_kept h40 T W (by omega)
  generalize hkk : (PyData.list [.list (intsD t), .list (wlD ws)]).shown = kk at rK
  have evK : ∀ {ρ : Rho}, ρ[4]? = some (some (.list (intsD t))) → ρ[6]? = some (some (.list (wlD ws))) → Ev K (tCB (rRepr K) (tCons (tLst (tCons (tVar 4) (tCons (tVar 6) tNil))) tNil)) ρ (.str kk) := fun a b => ev_cb (el_cons (ev_lst (el_cons (ev_var a) (el_cons (ev_var b) el_nil)) (by show 2 ≤ sizeLine; decide)) el_nil) rK
  refine dg_seq (M := fun ρ c' => ρ = [none, some (.tuple (intsD os)), some (.int (many : Int)), some (.int (n : Int)), some (.list (intsD t)), some (.int tot), some (.list (wlD ws)), some (.str kk), none, none, none, none, none, none, none, none, none] ∧ c' = c3) (dg_set (P := fun d c' => d = .str kk ∧ c' = c3) (eg_pure (evK rfl rfl) ⟨rfl, rfl⟩) (by decide) ?_) ?_
  · rintro d c' ⟨rfl, rfl⟩
    exact ⟨rfl, rfl⟩
  rintro ρ' c4 ⟨rfl, rfl⟩
  have hs := sys_gr ho hn T W (by omega) ne hz t0 t1
  have rS : Fn K (rRepr K) [sysD os (grT os t ws) tot] (.str (sysD os (grT os t ws) tot).shown) := fn_sys40 hs hn h40
  generalize hbb : (sysD os (grT os t ws) tot).shown = bb at rS
  have rT : Fn K (rRepr K) [.list [.tuple (intsD os), .list (intsD t), .int tot]] (.str (PyData.list [.tuple (intsD os), .list (intsD t), .int tot]).shown) := fn_told ho h40 T t0 t1
  have st := fun (i : Nat) (w : Str × List Int) (h : ws[i]? = some w) => grT_step ho hn T W hz i w h
  have gl : (grT os t ws).length = many + 1 := by rw [grT_len, hl]
  have g0 : (grT os t ws)[0]? = some t := by
    have q := grT_at os t ws
    rw [List.getD_eq_getElem?_getD, List.getElem?_eq_getElem (by omega)] at q
    rw [List.getElem?_eq_getElem (by omega)]
    exact congrArg some q
  intro g σ B H D e s n0 nx r
  have ll : σ.length = 17 := e.env.len
  refine seq_go (asg_go (evq_call aft_qS (x := (os, grT os t ws, tot)) (el_cons (ev_var rfl) (el_cons (ev_var rfl) (el_cons (ev_var rfl) (el_cons (ev_var rfl) el_nil)))) ⟨os, t, ws, tot, n, rfl, ho, hn, T, W, by omega, ne, hz, t0, t1, rfl⟩ σ B H e.env s _ fun p1 ov1 l1 as1 B1 H1 g1 n1 => nm_go ?_))
  have n1 : Loan K B1 H H1 p1 ov1 l1 as1 os (grT os t ws) tot := n1
  have eb1 : EnvOk K B1 (σ.set 8 (some (.ref p1))) [none, some (.tuple (intsD os)), some (.int (many : Int)), some (.int (n : Int)), some (.list (intsD t)), some (.int tot), some (.list (wlD ws)), some (.str kk), none, none, none, none, none, none, none, none, none] := (e.env.mono g1.bb).forget (some (.ref p1)) 8
  have i0 : (σ.set 8 (some (V.ref p1)))[0]? = some (some (.ref g)) := by rw [List.getElem?_set_ne (by decide)]; exact e.here
  have i8 : (σ.set 8 (some (V.ref p1)))[8]? = some (some (.ref p1)) := List.getElem?_set_self (by omega)
  generalize σ.set 8 (some (V.ref p1)) = σ1 at eb1 i0 i8 ⊢
  have G1 : Gg g B H B1 H1 := .of g1 e.gone n0.ne
  have q1 := n0.same g1.ex
  have eL : EnvOk K (lend B1 H1 (p1 :: l1 :: as1)) σ1 [none, some (.tuple (intsD os)), some (.int (many : Int)), some (.int (n : Int)), some (.list (intsD t)), some (.int tot), some (.list (wlD ws)), some (.str kk), some (sysD os (grT os t ws) tot), none, none, none, none, none, none, none, none] := (eb1.mono n1.da.1).put i8 n1.da.2
  refine seq_go (if_go (ow_t (b := false) (eb_or (a := false) (eb_not (a := true) (eb_B (ev_call (el_cons (ev_var rfl) (el_cons (ev_op (ev_var rfl) ev_int (opp_1 (op_I0 fun _ => .int _))) el_nil)) ⟨os, grT os t ws, tot, many + 1, rfl, hs, gl, rfl⟩)) rfl) (fun _ => eb_test (ev_op (ev_cb (el_cons (ev_lst (el_cons (ev_op (ev_var rfl) ev_int (opp_2 (opp_ixT (i := 0) rfl))) (el_cons (ev_op (ev_op (ev_var rfl) (y := .int 1) ev_int (opp_2 (opp_ixT (i := 1) rfl))) (y := .int 0) ev_int (opp_1 (opp_ixL (i := 0) (at_tabs g0)))) (el_cons (ev_op (ev_var rfl) ev_int (opp_2 (opp_ixT (i := 2) rfl))) el_nil))) (by show 3 ≤ sizeLine; decide)) el_nil) rT) (ev_cb (el_cons (ev_lst (el_cons (ev_var rfl) (el_cons (ev_var rfl) (el_cons (ev_var rfl) el_nil))) (by show 3 ≤ sizeLine; decide)) el_nil) rT) neS_self)) (fun h => nomatch h)) eL g1.sub fun H2 k2 => iteF (nxt_go ?_)))
  have eL := eL.step k2
  have n1 := n1.mono (gr_side g1.sub k2)
  have G2 := G1.trans (.of (gr_side g1.sub k2) G1.off q1.ne)
  have q2 := q1.same k2
  refine seq_go (if_go (ow_t (b := false) (eb_or (a := false) (eb_test (ev_op (ev_eq (evf_lcf (it_range1 (n := many) (el_cons (ev_var rfl) el_nil) (by omega)) (by rw [List.length_map, List.length_range]; omega) (fun _ => false) (fun _ => 0) fun e he => ?_).ev (d' := .list []) (by rw [List.filter_eq_nil_iff.mpr (fun _ _ => by simp)]; rfl)) (ev_lst el_nil (by decide)) (ne_same (Pl.ints (ns := []) (fun x h => by simp at h) (by decide)) rfl))) (fun _ => eb_test (ev_op (evK rfl rfl) (ev_var rfl) neS_self)) (fun h => nomatch h)) eL G2.sub fun H3 k3 => iteF (nxt_go ?_)))
  · obtain ⟨k, hk, rfl⟩ := List.mem_map.mp he
    have hk' := List.mem_range.mp hk
    have hw : ws[k]? = some ws[k] := List.getElem?_eq_getElem (by omega)
    have aw := W _ (List.getElem_mem (by omega : k < ws.length))
    exact ⟨_, tgw_name, eb_not (a := true) (eb_B (ev_call (el_cons (ev_var rfl) (el_cons (ev_var rfl) (el_cons (ev_op (ev_var rfl) (ev_var rfl) (opp_1 (opp_ixL (wlD_at hw)))) el_nil))) ⟨os, grT os t ws, tot, k, n, ws[k].1, ws[k].2, rfl, hs, hn, by omega, aw.1, aw.2, st k _ hw, rfl⟩)) rfl, fun h => nomatch h⟩
  have eL := eL.step k3
  have n1 := n1.mono (gr_side G2.sub k3)
  have G3 := G2.trans (.of (gr_side G2.sub k3) G2.off q2.ne)
  have q3 := q2.same k3
  refine seq_go (asg_go (ow_str (ev_cb (el_cons (ev_var rfl) el_nil) rS) eL G3.sub fun H4 k4 => nm_go ?_))
  have eb2 : EnvOk K B1 (σ1.set 9 (some (.str bb))) [none, some (.tuple (intsD os)), some (.int (many : Int)), some (.int (n : Int)), some (.list (intsD t)), some (.int tot), some (.list (wlD ws)), some (.str kk), none, some (.str bb), none, none, none, none, none, none, none] := eb1.set (.str _) 9
  have j0 : (σ1.set 9 (some (V.str bb)))[0]? = some (some (.ref g)) := by rw [List.getElem?_set_ne (by decide)]; exact i0
  have j8 : (σ1.set 9 (some (V.str bb)))[8]? = some (some (.ref p1)) := by rw [List.getElem?_set_ne (by decide)]; exact i8
  generalize σ1.set 9 (some (V.str bb)) = σ2 at eb2 j0 j8 ⊢
  have n1 := n1.mono (gr_side G3.sub k4)
  have G4 := G3.trans (.of (gr_side G3.sub k4) G3.off q3.ne)
  have q4 := q3.same k4
  have ol := ords_len ho
  refine seq_go (if_go (or_go (mk_go j8 ⟨_, _, _, rfl, loan_mk n1 G4.sub (by show os.length ≤ 1000000; omega) (by show (grT os t ws).length ≤ 1000000; omega) (fun u hu => by have := (hs.tabs u hu).len; omega), fun H5 k5 => ⟨true, rfl, iteF ?_⟩⟩)))
  have s5 : Same B1 H5 := fun b o z => k5 b o (fun q => by rw [(n1.new b (List.mem_cons_of_mem _ q)).2] at z; cases z) (G4.sub b o z)
  have G5 : Gg g B H B1 H5 := ⟨fun b o nb z => k5 b o (fun q => by rw [(n1.new b (List.mem_cons_of_mem _ q)).1] at z; cases z) (G4.ex b o nb z), G4.bb, s5, G4.new, G4.off⟩
  have q5 : GenAt H5 g c4 := by
    obtain ⟨x, y, z, r1, r2⟩ := q4
    exact ⟨x, y, z, k5 g _ (fun q => n0.ne (n1.new g (List.mem_cons_of_mem _ q)).1) r1, r2⟩
  refine (eb_or (a := false) (eb_test (ev_op (ev_cb (el_cons (EvQ.ev (os := os) (tss := grT os t ws) (tot := tot) (evq_callK aft_qS (x := (os, grT os t ws, tot)) (zs := [.int tot, .list (wlD ws), .list (intsD t), .tuple (intsD os)]) (el_cons (ev_var rfl) (el_cons (ev_var rfl) (el_cons (ev_var rfl) (el_cons (ev_var rfl) el_nil)))) ⟨os, t, ws, tot, n, rfl, ho, hn, T, W, by omega, ne, hz, t0, t1, rfl⟩ fun B ws' h => ?_)) el_nil) rS) (ev_var rfl) neS_self)) (fun _ => eb_test (ev_op (evK rfl rfl) (ev_var rfl) neS_self)) (fun h => nomatch h)) σ2 B1 H5 eb2 G5.sub _ fun B6 H6 g6 => iteF (nxt_go ?_)
  · cases h with
    | cons h1 h => cases h with
      | cons h2 h => cases h with
        | cons h3 h => cases h with
          | cons h4 h =>
            cases h
            exact .cons h4 (.cons h3 (.cons h2 (.cons h1 .nil)))
  have G6 := G5.trans (.of g6 G5.off q5.ne)
  have q6 := q5.same g6.ex
  have e6 : EnvG K B6 σ2 [none, some (.tuple (intsD os)), some (.int (many : Int)), some (.int (n : Int)), some (.list (intsD t)), some (.int tot), some (.list (wlD ws)), some (.str kk), none, some (.str bb), none, none, none, none, none, none, none] g 0 := ⟨eb2.mono g6.bb, j0, G6.off⟩
  dsimp only
  refine (?_ : Dg K 0 _ _ c4 (fun _ _ => False) R) g σ2 B6 H6 D e6 G6.sub q6 (fun _ _ _ _ _ _ _ _ z => z.elim) fun v B7 H7 d c7 g7 n7 hv hr => r v B7 H7 d c7 (G6.trans g7) n7 hv hr
  refine dg_seq (M := fun ρ c' => ∃ (i p : Nat), ρ = [none, some (.tuple (intsD os)), some (.int (many : Int)), some (.int (n : Int)), some (.list (intsD t)), some (.int tot), some (.list (wlD ws)), some (.str kk), none, some (.str bb), some (.int (i : Int)), some (.int (p : Int)), none, none, none, none, none] ∧ i < many ∧ p < n ∧ c' = c4 + 8) (dg_par (P := fun ds c' => ∃ (i p : Nat), ds = [.int (i : Int), .int (p : Int)] ∧ i < many ∧ p < n ∧ c' = c4 + 8) (el_c (P1 := fun d c' => (∃ i : Nat, d = .int (i : Int) ∧ i < many) ∧ c' = c4 + 4) (eg_call (el_cons (ev_var rfl) el_nil) (R := fun d c' => (∃ i : Nat, d = .int (i : Int) ∧ i < many) ∧ c' = c4 + 4) ⟨many, rfl, by omega, by omega, by omega, fun i h0 h1 => ⟨⟨i.toNat, by rw [Int.toNat_of_nonneg h0], by omega⟩, rfl⟩⟩ fun _ _ h => h) ?_) (by decide) (by decide) ?_) ?_
  · rintro x c5 ⟨⟨i, rfl, hi⟩, rfl⟩
    refine el_c (P1 := fun d c' => (∃ p : Nat, d = .int (p : Int) ∧ p < n) ∧ c' = c4 + 8) (eg_call (el_cons (ev_var rfl) el_nil) (R := fun d c' => (∃ p : Nat, d = .int (p : Int) ∧ p < n) ∧ c' = c4 + 8) ⟨n, rfl, by omega, by omega, by omega, fun i h0 h1 => ⟨⟨i.toNat, by rw [Int.toNat_of_nonneg h0], by omega⟩, rfl⟩⟩ fun _ _ h => h) ?_
    rintro x c6 ⟨⟨p, rfl, hp⟩, rfl⟩
    exact el_n ⟨i, p, rfl, hi, hp, rfl⟩
  · rintro ds c5 ⟨i, p, rfl, h⟩
    exact ⟨_, _, rfl, i, p, rfl, h⟩
  rintro ρ' c5 ⟨i, p, rfl, hi, hp, rfl⟩
  have hi2 : i < ws.length := by omega
  have hw : ws[i]? = some (ws.getD i (("" : Str), [])) := by rw [List.getD_eq_getElem?_getD, List.getElem?_eq_getElem hi2]; rfl
  have aw := W _ (List.mem_of_getElem? hw)
  have zw := hz _ (List.mem_of_getElem? hw)
  generalize hwi : ws.getD i (("" : Str), []) = wi at hw aw zw
  have rl := aw.2.len
  have bR := row_bad ho hn aw.2 hp
  have bz := lin_bad ho hn aw.2 zw hp
  have bl := bents_wl (n := n) (bad := badR os wi.2 p) nb.1 W hi2 bR
  have bb2 := bents_bent (os := os) (n := n) (bad := badR os wi.2 p) hi2 hz bz
  have ba := bents_at (n := n) (bad := badR os wi.2 p) hi2
  have blen := bents_len (n := n) (bad := badR os wi.2 p) hi2
  refine dg_seq (M := fun ρ c' => ρ = [none, some (.tuple (intsD os)), some (.int (many : Int)), some (.int (n : Int)), some (.list (intsD t)), some (.int tot), some (.list (wlD ws)), some (.str kk), none, some (.str bb), some (.int (i : Int)), some (.int (p : Int)), some (.str wi.1), some (.list (intsD wi.2)), none, none, none] ∧ c' = c4 + 8) (dg_asg2 (P := fun d c' => d = wishD wi.1 wi.2 ∧ c' = c4 + 8) (eg_pure (ev_op (ev_var rfl) (ev_var rfl) (opp_1 (opp_ixL (wlD_at hw)))) ⟨rfl, rfl⟩) (by decide) (by decide) ?_) ?_
  · rintro d c' ⟨rfl, rfl⟩
    exact ⟨_, _, rfl, rfl, rfl⟩
  rintro ρ' c6 ⟨rfl, rfl⟩
  have lq : (intsD wi.2).length = n := by rw [ints_len]; exact rl
  have hx : (intsD wi.2)[p]? = some (.int (wi.2.getD p 0)) := get_ints (by omega)
  refine dg_seq (M := fun ρ c' => ρ = [none, some (.tuple (intsD os)), some (.int (many : Int)), some (.int (n : Int)), some (.list (intsD t)), some (.int tot), some (.list (wlD ws)), some (.str kk), none, some (.str bb), some (.int (i : Int)), some (.int (p : Int)), some (.str wi.1), some (.list (intsD wi.2)), some (.list (intsD (badR os wi.2 p))), none, none] ∧ c' = c4 + 8) (dg_set (P := fun d c' => d = .list (intsD (badR os wi.2 p)) ∧ c' = c4 + 8) (eg_pure (ev_eq (ev_op (ev_op (ev_to (p := p) (ev_var (i := 13) rfl) (ev_var (i := 11) rfl) (by rw [lq]; omega)) (ev_lst (el_cons (ev_call (el_cons (ev_var rfl) (el_cons (ev_op (ev_var rfl) (ev_var rfl) (opp_1 (opp_ixL hx))) (el_cons ev_int el_nil))) ⟨os, _, _, rfl, ho, rfl⟩) el_nil) (by show 1 ≤ sizeLine; decide)) (opp_2 (opp_1 (opp_cat ?_)))) (ev_fr (p := p + 1) (ev_var (i := 13) rfl) (ev_eq (ev_op (ev_var (i := 11) rfl) ev_int (opp_1 (op_I0 fun _ => .int _))) (d' := .int ((p + 1 : Nat) : Int)) rfl) (by rw [lq]; omega)) (opp_2 (opp_1 (opp_cat ?_)))) (d' := .list (intsD (badR os wi.2 p))) ?_) ⟨rfl, rfl⟩) (by decide) ?_) ?_
  · rw [List.length_take, lq, sizeLine_eq]
    show min p n + 1 ≤ _
    omega
  · rw [List.length_append, List.length_take, List.length_drop, lq, sizeLine_eq]
    show min p n + 1 + (n - (p + 1)) ≤ _
    omega
  · unfold badR intsD
    rw [List.map_append, List.map_append, List.map_take, List.map_drop]
    rfl
  · rintro d c' ⟨rfl, rfl⟩
    exact ⟨rfl, rfl⟩
  rintro ρ' c7 ⟨rfl, rfl⟩
  rw [hwi] at ba
  have lw : (wlD ws).length = many := by rw [wlD_len]; exact hl
  refine dg_seq (M := fun ρ c' => ρ = [none, some (.tuple (intsD os)), some (.int (many : Int)), some (.int (n : Int)), some (.list (intsD t)), some (.int tot), some (.list (wlD ws)), some (.str kk), none, some (.str bb), some (.int (i : Int)), some (.int (p : Int)), some (.str wi.1), some (.list (intsD wi.2)), some (.list (intsD (badR os wi.2 p))), some (.list (wlD (bentsL n ws i (badR os wi.2 p)))), none] ∧ c' = c4 + 8) (dg_set (P := fun d c' => d = .list (wlD (bentsL n ws i (badR os wi.2 p))) ∧ c' = c4 + 8) (eg_pure (ev_eq (ev_op (ev_op (ev_op (ev_to (p := i) (ev_var (i := 6) rfl) (ev_var (i := 10) rfl) (by rw [lw]; omega)) (ev_lst (el_cons (ev_tup (el_cons (ev_var (i := 12) rfl) (el_cons (ev_var (i := 14) rfl) el_nil)) (by show 2 ≤ sizeLine; decide)) el_nil) (by show 1 ≤ sizeLine; decide)) (opp_2 (opp_1 (opp_cat ?_)))) (ev_fr (p := i + 1) (ev_var (i := 6) rfl) (ev_eq (ev_op (ev_var (i := 10) rfl) ev_int (opp_1 (op_I0 fun _ => .int _))) (d' := .int ((i + 1 : Nat) : Int)) rfl) (by rw [lw]; omega)) (opp_2 (opp_1 (opp_cat ?_)))) (ev_lst (el_cons (ev_tup (el_cons ev_str (el_cons (ev_op (ev_lst (el_cons ev_int el_nil) (by show 1 ≤ sizeLine; decide)) (evf_rep (z := 0) (n := n - 1) (ev_eq (ev_op (ev_var (i := 3) rfl) ev_int (op_I0 fun _ => .int _)) (by congr 1; omega)) (by omega)).ev (opp_2 (opp_1 (opp_cat ?_)))) el_nil)) (by show 2 ≤ sizeLine; decide)) el_nil) (by show 1 ≤ sizeLine; decide)) (opp_2 (opp_1 (opp_cat ?_)))) (d' := .list (wlD (bentsL n ws i (badR os wi.2 p)))) ?_) ⟨rfl, rfl⟩) (by decide) ?_) ?_
  · rw [List.length_take, lw, sizeLine_eq]
    show min i many + 1 ≤ _
    omega
  · rw [List.length_append, List.length_take, List.length_drop, lw, sizeLine_eq]
    show min i many + 1 + (many - (i + 1)) ≤ _
    omega
  · rw [List.length_map, List.length_replicate, sizeLine_eq]
    show 1 + (n - 1) ≤ _
    omega
  · rw [List.length_append, List.length_append, List.length_take, List.length_drop, lw, sizeLine_eq]
    show min i many + 1 + (many - (i + 1)) + 1 ≤ _
    omega
  · unfold bentsL wlD
    rw [hwi, List.map_append, List.map_append, List.map_append, List.map_take, List.map_drop]
    rfl
  · rintro d c' ⟨rfl, rfl⟩
    exact ⟨rfl, rfl⟩
  rintro ρ' c8 ⟨rfl, rfl⟩
  exact dg_ret (eg_pure (ev_call (el_cons (ev_var rfl) (el_cons (ev_var rfl) (el_cons (ev_var rfl) (el_cons (ev_var rfl) el_nil)))) ⟨os, t, bentsL n ws i (badR os wi.2 p), n, i, (wi.1, badR os wi.2 p), rfl, ho, hn, T, bl, by omega, bb2, ba, rfl⟩) (hR _ (by omega)))
end K22
end
section
set_option maxRecDepth 100000
set_option maxHeartbeats 4000000
namespace K22
open PySem PySem.Spec PyProof.Rows L2 G Lin C
local macro_rules | `(tactic| walk_at "ev") => `(tactic| first
  | exact ev_var rfl | exact ev_int | exact ev_bl | exact ev_non | exact ev_str
  | (apply ev_op; (focus walk_at "ev"); (focus walk_at "ev"); (focus walk_at "op"))
  | (apply ev_cb; (focus walk_at "el"); (focus walk_at "fn"))
  | (apply ev_lst; (focus walk_at "el"); (show _ ≤ sizeLine; decide))
  | (apply ev_tup; (focus walk_at "el"); (show _ ≤ sizeLine; decide)))
local macro_rules | `(tactic| walk_at "el") => `(tactic| first
  | exact el_nil
  | (apply el_cons; (focus walk_at "ev"); (focus walk_at "el")))
local macro_rules | `(tactic| walk_at "fn") => `(tactic| first
  | exact fn_int | exact fn_len | exact fn_all | exact fn_listL | exact fn_listT)
local macro_rules | `(tactic| walk_at "op") => `(tactic| first
  | exact op_I0 (fun _ => .int _) | exact op_I0 (fun _ => .bl _) | exact opp_1 (op_I0 fun _ => .int _)
  | exact op_I (by show (_ : Int) ≠ 0; decide) (fun _ => .int _)
  | exact op_I (by assumption) (fun _ => .int _)
  | exact opp_1 (op_I (by assumption) fun _ => .int _)
  | exact opp_1 (opp_ixL (i := 0) rfl) | exact opp_2 (opp_ixT (i := 0) rfl) | exact opp_2 (opp_ixT (i := 1) rfl) | exact opp_2 (opp_ixT (i := 2) rfl))
def sLaw (K : PySem.W.Frag) : Sp := fun vs H Q _ => ∃ (a : Addr) (xs : List Int), vs = [.ref a] ∧ SqL K H a (xs.map .int) ∧ ∀ H', Q (.bl true) H'
theorem sql_keep {K : PySem.W.Frag} {H H' : Hp} {a : Addr} {xs : List V} (k : ∀ b o, H b = some o → H' b = some o) (h : SqL K H a xs) : SqL K H' a xs := by
  rcases h with (h | ⟨o, h⟩) | h
  · exact .inl (.inl (k _ _ h))
  · exact .inl (.inr ⟨o, k _ _ h⟩)
  · exact .inr h
theorem sc_law : FnScope ["script", "index", "generator", "way"] ["script"] (defScope s_law) := ⟨rfl, rfl, rfl, by decide +kernel, rfl, by decide +kernel, by decide +kernel⟩
theorem ok_law {P : Program} {w : World} {K : PySem.W.Frag} {mg : Str → Option Value} {base : Heap} (B : Bi mg) (c_law_asked : Cal P w K mg base 11 "_law_asked" ["generator", "orders_told", "many"] (spG K p_law_asked)) (c_law_generator : Cal P w K mg base 2 "_law_generator" ["script", "index"] (sGen K)) (c_law_random : Cal P w K mg base 2 "_law_random" ["generator", "bound"] (spG K p_law_random)) (c_law_orders : Cal P w K mg base 3 "_law_orders" ["generator", "most"] (spG K p_law_orders12)) (h : Has K mg "law" s_law ["script"]) :
    Cal P w K mg base 12 "law" ["script"] (sLaw K) := by
  --RAW
  obtain ⟨f, fd, F, hmg, bd⟩ := h
  refine ⟨f, fd, hmg, kq_of F, bd, fn_g0 F sc_law (fun vs H Q E h => ?_) fun cdv A outer s H vs Q E hg hr h => ⟨_, (pss_cons (ps_for PassesOwn.never rfl (pi_range1 (by rfl) B.range (pa_cons pe_int pa_nil)) (pg_name (i := 1) sc_law.nd rfl (Or.inl rfl)) (pss_cons (ps_set (i := 2) sc_law.nd rfl (Or.inl rfl) (pg_cal hg c_law_generator hr (by rfl) (pa_cons (pv 0) (pa_cons (pv 1) pa_nil))))
      (pss_one (ps_if (pt_not (pt_val (pg_cal hg c_law_asked hr (by rfl) (pa_cons (pv 2) (pa_cons (pg_cal hg c_law_orders hr (by rfl) (pa_cons (pv 2) (pa_cons pe_int pa_nil))) (pa_cons (pe_op (addK K) pe_int (pg_cal hg c_law_random hr (by rfl) (pa_cons (pv 2) (pa_cons pe_int pa_nil)))) pa_nil)))))) (pss_one (ps_ret pe_bl)) pss_nil))))
      (pss_cons (ps_set (i := 3) sc_law.nd rfl (Or.inl rfl) (pg_cal hg c_law_random hr (by rfl) (pa_cons (pg_cal hg c_law_generator hr (by rfl) (pa_cons (pv 0) (pa_cons pe_int pa_nil))) (pa_cons pe_int pa_nil))))
      (pss_one (ps_ret (pe_or (pe_cmpR op_gt (pv 3) pe_int (nomark _)) (pe_one (pg_cal hg c_law_asked hr (by rfl) (pa_cons (pg_cal hg c_law_generator hr (by rfl) (pa_cons (pv 0) (pa_cons pe_int pa_nil))) (pa_cons (pe_ix (ixK K) (pe_lst (pa_cons (pe_tup (pa_cons pe_int pa_nil)) (pa_cons (pe_tup (pa_cons pe_int (pa_cons pe_int pa_nil))) (pa_cons (pe_tup (pa_cons pe_int pa_nil)) (pa_cons (pe_tup (pa_cons pe_int (pa_cons pe_int pa_nil))) pa_nil))))) (pv 3) (fun _ _ => rfl)) (pa_cons (pe_ix (ixK K) (pe_lst (pa_cons pe_int (pa_cons pe_int (pa_cons pe_int (pa_cons pe_int pa_nil))))) (pv 3) (fun _ _ => rfl)) pa_nil)))))))))), ?_⟩⟩
  · obtain ⟨a, xs, rfl, _⟩ := h
    rfl
  obtain ⟨a, xs, rfl, hS, q⟩ := h
  have none4 : ∀ {i : Nat} {d : PyData}, ([none, none, none, none] : Rho)[i]? ≠ some (some d) := fun {i d} h => by
    rcases i with _ | _ | _ | _ | i <;> simp at h
  have e0 : EnvOk K (fun _ => none) (L2.start ["script", "index", "generator", "way"] [.ref a]) [none, none, none, none] := ⟨rfl, fun i d h => (none4 h).elim⟩
  have s0 : Same (fun _ => none) H := fun a o e => by cases e
  refine seq_go (for_go (it_range1 (K := K) (n := 3) (el_cons ev_int el_nil) (by decide) _ _ _ e0 s0 _ fun J B1 H1 g1 w => ?_))
  have sq1 : SqL K H1 a (xs.map .int) := sql_keep g1.ex hS
  refine for_it w (fun k σ' H' => ∃ B', EnvOk K B' σ' [none, none, none, none] ∧ σ'[0]? = some (some (.ref a)) ∧ SqL K H' a (xs.map .int) ∧ Same B1 B' ∧ Same B' H') ⟨B1, e0.mono g1.bb, rfl, sq1, Same.refl _, g1.sub⟩ (fun k σ' H' _ ⟨B', _, _, _, h1, h2⟩ => h1.trans h2) ?_ ?_
  · rintro k x σ' H' H2 hi ⟨B', e2, h0, sq, sb, sh⟩ y
    obtain ⟨B2, el, g3, hel, hx⟩ := y B' sb sh
    have hk : k < 3 := hi
    have eel : el = .int (k : Int) := by
      rw [List.getElem?_map, List.getElem?_range hk] at hel
      exact (Option.some.inj hel).symm
    subst eel
    cases hx
    have l2 : σ'.length = 4 := e2.len
    have sq2 : SqL K H2 a (xs.map .int) := sql_keep g3.ex sq
    have i0 : (σ'.set 1 (some (V.int (k : Int))))[0]? = some (some (.ref a)) := by rw [List.getElem?_set_ne (by decide)]; exact h0
    have i1 : (σ'.set 1 (some (V.int (k : Int))))[1]? = some (some (.int (k : Int))) := List.getElem?_set_self (by omega)
    have e3 : EnvOk K B2 (σ'.set 1 (some (V.int (k : Int)))) [none, none, none, none] := (e2.mono g3.bb).forget _ 1
    have l3 : (σ'.set 1 (some (V.int (k : Int)))).length = 4 := by rw [List.length_set]; exact l2
    refine nm_go ?_
    dsimp only
    generalize σ'.set 1 (some (V.int (k : Int))) = σ2 at i0 i1 e3 l3 ⊢
    refine seq_go (asg_go ?_)
    refine ⟨_, i0, _, i1, a, xs, k, B2, rfl, by omega, sq2, g3.sub, fun g H3 g4 hBg hHg gen => ?_⟩
    refine nm_go ?_
    have eG : EnvG K B2 (σ2.set 2 (some (.ref g))) [none, none, none, none] g 2 := ⟨e3.forget (some (.ref g)) 2, List.getElem?_set_self (by omega), hBg⟩
    have j0 : (σ2.set 2 (some (V.ref g)))[0]? = some (some (.ref a)) := by rw [List.getElem?_set_ne (by decide)]; exact i0
    generalize σ2.set 2 (some (V.ref g)) = σ3 at eG j0 ⊢
    dsimp only
    refine if_go ?_
    refine (eg_callE (K := K) (i := 2) (c := 100000) (P := fun d _ => d = .bool true) (P1 := fun ds c1 => ∃ (os : List Int) (m : Nat), ds = [.tuple (intsD os), .int (m : Int)] ∧ Small os ∧ 1 ≤ m ∧ m ≤ 4 ∧ c1 = 100008) (R := fun d _ => d = .bool true) (el_c (P1 := fun d c1 => (∃ os : List Int, d = .tuple (intsD os) ∧ Small os) ∧ c1 = 100004) (eg_call (ds := [.int 12]) (el_cons ev_int el_nil) (R := fun d c1 => (∃ os : List Int, d = .tuple (intsD os) ∧ Small os) ∧ c1 = 100004) ⟨rfl, by decide, fun os ho => ⟨⟨os, rfl, menuW_small os ho⟩, rfl⟩⟩ fun _ _ h => h) ?_) ?_ fun _ _ h => h) g σ3 B2 H3 eG g4.sub gen _ fun v B5 H5 d c5 g5 n5 hv hd => ?_
    · rintro d c1 ⟨⟨os, rfl, ho⟩, rfl⟩
      refine el_c (P1 := fun d c1 => (∃ m : Nat, d = .int (m : Int) ∧ 1 ≤ m ∧ m ≤ 4) ∧ c1 = 100008) (eg_op (P1 := fun d c1 => d = .int 1 ∧ c1 = 100004) (P2 := fun _ d c1 => (∃ i : Nat, d = .int (i : Int) ∧ i < 4) ∧ c1 = 100008) (eg_pure ev_int ⟨rfl, rfl⟩) ?_ ?_) ?_
      · rintro x c2 ⟨rfl, rfl⟩
        exact eg_call (ds := [.int 4]) (el_cons ev_int el_nil) (R := fun d c1 => (∃ i : Nat, d = .int (i : Int) ∧ i < 4) ∧ c1 = 100008) ⟨4, rfl, by decide, by decide, by decide, fun i h0 h1 => ⟨⟨i.toNat, by rw [Int.toNat_of_nonneg h0], by omega⟩, rfl⟩⟩ fun _ _ h => h
      · rintro x y c2 c3 ⟨rfl, rfl⟩ ⟨⟨i, rfl, hi⟩, rfl⟩
        exact ⟨.int ((1 + i : Nat) : Int), opp_1 (op_I0 fun _ => by rw [Int.natCast_add]; exact .int _), ⟨1 + i, rfl, by omega, by omega⟩, rfl⟩
      · rintro x c2 ⟨⟨m, rfl, m1, m4⟩, rfl⟩
        exact el_n ⟨os, m, rfl, ho, m1, m4, rfl⟩
    · rintro ds c1 ⟨os, m, rfl, ho, m1, m4, rfl⟩
      have p0 := prod_pos ho.1.2.1
      have p1 := ho.2
      exact ⟨os, m, (prodI os).toNat, rfl, ho.1, by omega, by omega, m1, by omega, by decide, fun _ _ => rfl⟩
    subst hd
    cases hv
    refine ⟨true, rfl, iteF (nxt_go ⟨B5, eG.env.mono g5.bb, j0, sql_keep (fun b o e => g5.ex b o (fun z => by rw [z, hHg] at e; cases e) (g4.ex b o e)) sq2, sb.trans (g3.bb.trans g5.bb), g5.sub⟩)⟩
  rintro σ' H' ⟨B', e, h0, sq, sb, sh⟩
  dsimp only
  refine seq_go (asg_go ?_)
  refine ⟨_, h0, a, xs, 3, B', rfl, by decide, sq, sh, fun g H3 g4 hBg hHg gen => ?_⟩
  refine ⟨g, [.int 16], B', [.int 16], 100000, fun d _ => ∃ i : Nat, d = .int (i : Int) ∧ i < 16, rfl, g4.sub, hBg, gen, .cons (.int _) .nil, ⟨16, rfl, by decide, by decide, by decide, fun i h0 h1 => ⟨i.toNat, by rw [Int.toNat_of_nonneg h0], by omega⟩⟩, fun v B5 H5 d c5 g5 n5 hv hd => ?_⟩
  obtain ⟨i, rfl, hi⟩ := hd
  cases hv
  refine nm_go ?_
  have e5 : EnvOk K B5 (σ'.set 3 (some (V.int (i : Int)))) [none, none, none, some (.int (i : Int))] := (e.mono g5.bb).set (.int _) 3
  have j0 : (σ'.set 3 (some (V.int (i : Int))))[0]? = some (some (.ref a)) := by rw [List.getElem?_set_ne (by decide)]; exact h0
  generalize σ'.set 3 (some (V.int (i : Int))) = σ5 at e5 j0 ⊢
  have sq5 : SqL K H5 a (xs.map .int) := sql_keep (fun b o e => g5.ex b o (fun z => by rw [z, hHg] at e; cases e) (g4.ex b o e)) sq
  dsimp only
  refine ret_go (orv_go ?_)
  refine (ev_op (z := .bool (decide ((i : Int) > 3))) (ev_var (i := 3) rfl) ev_int (op_I0 fun _ => .bl _)) σ5 B5 H5 e5 g5.sub _ fun v6 B6 H6 g6 hv6 => ?_
  cases hv6
  refine ⟨_, rfl, ?_⟩
  have sq6 : SqL K H6 a (xs.map .int) := sql_keep g6.ex sq5
  by_cases c : 3 < i
  · rw [decide_eq_true (by omega)]
    exact iteT (q H6)
  · rw [decide_eq_false (by omega)]
    refine iteF ?_
    obtain ⟨os, m, n, d1, d2, ho, hn, h40, m1, m40⟩ : ∃ (os : List Int) (m n : Nat), ([PyData.tuple (intsD [24]), .tuple (intsD [2, 20]), .tuple (intsD [40]), .tuple (intsD [5, 8])])[i]? = some (.tuple (intsD os)) ∧ ([PyData.int 2, .int 38, .int 9, .int 5])[i]? = some (.int (m : Int)) ∧ Ords os ∧ prodI os = n ∧ n ≤ 40 ∧ 1 ≤ m ∧ m ≤ 40 := by
      rcases i with _ | _ | _ | _ | i
      · exact ⟨[24], 2, 24, rfl, rfl, ⟨by decide, by decide, by decide⟩, rfl, by decide, by decide, by decide⟩
      · exact ⟨[2, 20], 38, 40, rfl, rfl, ⟨by decide, by decide, by decide⟩, rfl, by decide, by decide, by decide⟩
      · exact ⟨[40], 9, 40, rfl, rfl, ⟨by decide, by decide, by decide⟩, rfl, by decide, by decide, by decide⟩
      · exact ⟨[5, 8], 5, 40, rfl, rfl, ⟨by decide, by decide, by decide⟩, rfl, by decide, by decide, by decide⟩
      · omega
    refine ⟨_, j0, a, xs, 4, B6, rfl, by decide, sq6, g6.sub, fun g2 H7 g7 hBg2 hHg2 gen2 => ?_⟩
    refine (el_cons (ds := [.int (m : Int)]) (ev_op (x := .list [PyData.tuple (intsD [24]), .tuple (intsD [2, 20]), .tuple (intsD [40]), .tuple (intsD [5, 8])]) (by walk_at "ev") (ev_var (i := 3) rfl) (opp_1 (opp_ixL (i := i) d1))) (el_cons (ev_op (x := .list [PyData.int 2, .int 38, .int 9, .int 5]) (by walk_at "ev") (ev_var (i := 3) rfl) (opp_1 (opp_ixL (i := i) d2))) el_nil)) σ5 B6 H7 (e5.mono g6.bb) g7.sub _ fun us B8 H8 g8 hu => ?_
    refine ⟨g2, us, B8, [.tuple (intsD os), .int (m : Int)], 100000, fun d _ => d = .bool true, ?_, g8.sub, g8.keepNone hBg2 gen2.ne, gen2.same g8.ex, hu, ⟨os, m, n, rfl, ho, hn, h40, m1, m40, by decide, fun _ _ => rfl⟩, fun v B9 H9 d c9 g9 n9 hv hd => ?_⟩
    · rw [List.append_nil]
    · subst hd
      cases hv
      exact q H9
end K22
end
section
set_option maxRecDepth 100000
set_option maxHeartbeats 0
namespace K22
open PySem PySem.Spec PyProof.Rows L2 G C
theorem iniD_ok {P : Program} {w : World} {K : PySem.W.Frag} {mg : Str → Option Value} {base : Heap} {qual : Str} {st : Stmt} {dvs : List V} {kws : List (Str × V)} {f : Addr} {fd : FuncData} {p1 p2 p3 p4 : Pos} (F : FunD K "__init__" qual (defArgs st) (defBody st) (defScope st) dvs kws f fd) (S : FnScope ["self", "value"] ["self", "value"] (defScope st))
    (h1 : (defScope st).names.lookup ("self" : Str) = some NameKind.local) (h2 : (defScope st).names.lookup ("value" : Str) = some NameKind.local) (hb : defBody st = [.Assign [.Attribute (.Name "self" p1) "value" p2] (.Name "value" p3) p4]) : FnOk P w K mg base CX0 1 f fd ["self", "value"] (sIni K) :=
  F.ok S (fun vs H Q E ⟨_, _, _, e, _⟩ => by rw [e]; rfl) fun cdv A outer s H vs Q E hr ⟨a, C, v, e, T, hv, ha, q⟩ => by
    rw [hb]
    subst e
    refine ⟨_, pss_one (ps_ost (pv 0 (hv := .inl h1)) (pv 1 (hv := .inl h2))), ?_⟩
    exact ⟨v, rfl, .ref a, rfl, a, C, rfl, T, hv, .inl ⟨ha, fun d n ne => q d n ne⟩⟩
theorem ini_binds {K : PySem.W.Frag} {qual : Str} {st : Stmt} {f : Addr} {fd : FuncData} (F : FunD K "__init__" qual (defArgs st) (defBody st) (defScope st) [.non] [] f fd)
    (h : ∀ (T : Addr) (kV doc pm : Value) (an : Option Addr) (cdv ct : Value) (us its : List Value), us.length = 2 → its.length = 1 →
      ∃ k, bindArgs (PySem.W.fnOf "__init__" qual (defArgs st) (defBody st) (defScope st) (.ref T) kV doc pm an cdv ct) ⟨us, []⟩ = seqItems? (.ref T) >>= k ∧ k (some its.toArray) = pure ((["self", "value"] : List Str).zip (us ++ its.drop 1))) : L2.Binds K fd ["self", "value"] [] := by
  obtain ⟨ds, hv, hb⟩ := F.binds1 2 1 (by simp) rfl h
  cases hv
  exact hb
theorem facts {P : Program} {w : World} {K : PySem.W.Frag} {h : Heap} {mg : Str → Option Value} (X : K.In h) (Gn : h.Ns mainGlobals mg) (c : He.SaysM fa fn ex K) :
    ∃ fd : FuncData, (∀ (s : Shared) (v : Value), BindsTo s fd ⟨[v], []⟩ [("script", v)]) ∧ ∀ base : Heap, K.In base → base.Ns mainGlobals mg → FnG P w K mg base CX0 12 (He.ga K "law") fd ["script"] (sLaw K) := by
  have B : Bi mg := ⟨He.free_ok X Gn (c.d.fact 46 (f := .free "all") rfl), He.free_ok X Gn (c.d.fact 47 (f := .free "bool") rfl), He.free_ok X Gn (c.d.fact 48 (f := .free "enumerate") rfl), He.free_ok X Gn (c.d.fact 49 (f := .free "int") rfl), He.free_ok X Gn (c.d.fact 50 (f := .free "isinstance") rfl), He.free_ok X Gn (c.d.fact 51 (f := .free "len") rfl), He.free_ok X Gn (c.d.fact 52 (f := .free "list") rfl), He.free_ok X Gn (c.d.fact 53 (f := .free "max") rfl), He.free_ok X Gn (c.d.fact 54 (f := .free "range") rfl), He.free_ok X Gn (c.d.fact 55 (f := .free "repr") rfl), He.free_ok X Gn (c.d.fact 56 (f := .free "reversed") rfl), He.free_ok X Gn (c.d.fact 57 (f := .free "set") rfl), He.free_ok X Gn (c.d.fact 58 (f := .free "sorted") rfl), He.free_ok X Gn (c.d.fact 59 (f := .free "sum") rfl), He.free_ok X Gn (c.d.fact 60 (f := .free "tuple") rfl), He.free_ok X Gn (c.d.fact 61 (f := .free "zip") rfl)⟩
  have h_is_whole : Has K mg "is_whole" s_is_whole ["value"] := has_of (c.d.def_ 0 (d := mkD "is_whole" s_is_whole) rfl) (He.glo_ok X Gn (c.d.fact 0 (f := .glo "is_whole") rfl)) fun _ _ _ _ _ _ us hl => match us, hl with | [_], _ => rfl
  have h_is_from : Has K mg "is_from" s_is_from ["value", "least"] := has_of (c.d.def_ 1 (d := mkD "is_from" s_is_from) rfl) (He.glo_ok X Gn (c.d.fact 1 (f := .glo "is_from") rfl)) fun _ _ _ _ _ _ us hl => match us, hl with | [_, _], _ => rfl
  have h_is_below : Has K mg "is_below" s_is_below ["value", "many"] := has_of (c.d.def_ 2 (d := mkD "is_below" s_is_below) rfl) (He.glo_ok X Gn (c.d.fact 2 (f := .glo "is_below") rfl)) fun _ _ _ _ _ _ us hl => match us, hl with | [_, _], _ => rfl
  have h_are_below : Has K mg "are_below" s_are_below ["value", "many"] := has_of (c.d.def_ 3 (d := mkD "are_below" s_are_below) rfl) (He.glo_ok X Gn (c.d.fact 3 (f := .glo "are_below") rfl)) fun _ _ _ _ _ _ us hl => match us, hl with | [_, _], _ => rfl
  have h_is_each_once : Has K mg "is_each_once" s_is_each_once ["value", "many"] := has_of (c.d.def_ 4 (d := mkD "is_each_once" s_is_each_once) rfl) (He.glo_ok X Gn (c.d.fact 4 (f := .glo "is_each_once") rfl)) fun _ _ _ _ _ _ us hl => match us, hl with | [_, _], _ => rfl
  have h_size_of : Has K mg "size_of" s_size_of ["orders"] := has_of (c.d.def_ 5 (d := mkD "size_of" s_size_of) rfl) (He.glo_ok X Gn (c.d.fact 5 (f := .glo "size_of") rfl)) fun _ _ _ _ _ _ us hl => match us, hl with | [_], _ => rfl
  have h_plus : Has K mg "plus" s_plus ["orders", "member", "other"] := has_of (c.d.def_ 6 (d := mkD "plus" s_plus) rfl) (He.glo_ok X Gn (c.d.fact 6 (f := .glo "plus") rfl)) fun _ _ _ _ _ _ us hl => match us, hl with | [_, _, _], _ => rfl
  have h_minus : Has K mg "minus" s_minus ["orders", "member", "other"] := has_of (c.d.def_ 7 (d := mkD "minus" s_minus) rfl) (He.glo_ok X Gn (c.d.fact 7 (f := .glo "minus") rfl)) fun _ _ _ _ _ _ us hl => match us, hl with | [_, _, _], _ => rfl
  have h_sum_up : Has K mg "sum_up" s_sum_up ["orders", "members"] := has_of (c.d.def_ 8 (d := mkD "sum_up" s_sum_up) rfl) (He.glo_ok X Gn (c.d.fact 8 (f := .glo "sum_up") rfl)) fun _ _ _ _ _ _ us hl => match us, hl with | [_, _], _ => rfl
  have h_minuses : Has K mg "minuses" s_minuses ["orders", "first", "second"] := has_of (c.d.def_ 9 (d := mkD "minuses" s_minuses) rfl) (He.glo_ok X Gn (c.d.fact 9 (f := .glo "minuses") rfl)) fun _ _ _ _ _ _ us hl => match us, hl with | [_, _, _], _ => rfl
  have h_turned_round : Has K mg "turned_round" s_turned_round ["table"] := has_of (c.d.def_ 10 (d := mkD "turned_round" s_turned_round) rfl) (He.glo_ok X Gn (c.d.fact 10 (f := .glo "turned_round") rfl)) fun _ _ _ _ _ _ us hl => match us, hl with | [_], _ => rfl
  have h_are_orders : Has K mg "are_orders" s_are_orders ["value"] := has_of (c.d.def_ 11 (d := mkD "are_orders" s_are_orders) rfl) (He.glo_ok X Gn (c.d.fact 11 (f := .glo "are_orders") rfl)) fun _ _ _ _ _ _ us hl => match us, hl with | [_], _ => rfl
  have h_check_orders : Has K mg "check_orders" s_check_orders ["orders"] := has_of (c.d.def_ 12 (d := mkD "check_orders" s_check_orders) rfl) (He.glo_ok X Gn (c.d.fact 12 (f := .glo "check_orders") rfl)) fun _ _ _ _ _ _ us hl => match us, hl with | [_], _ => rfl
  have h_check_member : Has K mg "check_member" s_check_member ["orders", "member"] := has_of (c.d.def_ 13 (d := mkD "check_member" s_check_member) rfl) (He.glo_ok X Gn (c.d.fact 13 (f := .glo "check_member") rfl)) fun _ _ _ _ _ _ us hl => match us, hl with | [_, _], _ => rfl
  have h_check_table : Has K mg "check_table" s_check_table ["orders", "table"] := has_of (c.d.def_ 14 (d := mkD "check_table" s_check_table) rfl) (He.glo_ok X Gn (c.d.fact 14 (f := .glo "check_table") rfl)) fun _ _ _ _ _ _ us hl => match us, hl with | [_, _], _ => rfl
  have h_is_row_of : Has K mg "is_row_of" s_is_row_of ["many", "value"] := has_of (c.d.def_ 15 (d := mkD "is_row_of" s_is_row_of) rfl) (He.glo_ok X Gn (c.d.fact 15 (f := .glo "is_row_of") rfl)) fun _ _ _ _ _ _ us hl => match us, hl with | [_, _], _ => rfl
  have h_walked_rounds : Has K mg "walked_rounds" s_walked_rounds ["orders", "row"] := has_of (c.d.def_ 16 (d := mkD "walked_rounds" s_walked_rounds) rfl) (He.glo_ok X Gn (c.d.fact 16 (f := .glo "walked_rounds") rfl)) fun _ _ _ _ _ _ us hl => match us, hl with | [_, _], _ => rfl
  have h_walk : Has K mg "walk" s_walk ["orders", "bearing", "old", "last", "new"] := has_of (c.d.def_ 17 (d := mkD "walk" s_walk) rfl) (He.glo_ok X Gn (c.d.fact 17 (f := .glo "walk") rfl)) fun _ _ _ _ _ _ us hl => match us, hl with | [_, _, _, _, _], _ => rfl
  have h_borne_by_members : Has K mg "borne_by_members" s_borne_by_members ["orders", "row"] := has_of (c.d.def_ 18 (d := mkD "borne_by_members" s_borne_by_members) rfl) (He.glo_ok X Gn (c.d.fact 18 (f := .glo "borne_by_members") rfl)) fun _ _ _ _ _ _ us hl => match us, hl with | [_, _], _ => rfl
  have h_following : Has K mg "following" s_following ["orders", "table", "row"] := has_of (c.d.def_ 19 (d := mkD "following" s_following) rfl) (He.glo_ok X Gn (c.d.fact 19 (f := .glo "following") rfl)) fun _ _ _ _ _ _ us hl => match us, hl with | [_, _, _], _ => rfl
  have h_following_by_sums : Has K mg "following_by_sums" s_following_by_sums ["orders", "table", "row"] := has_of (c.d.def_ 20 (d := mkD "following_by_sums" s_following_by_sums) rfl) (He.glo_ok X Gn (c.d.fact 20 (f := .glo "following_by_sums") rfl)) fun _ _ _ _ _ _ us hl => match us, hl with | [_, _, _], _ => rfl
  have h_system_for : Has K mg "system_for" s_system_for ["orders", "first", "wishes", "total"] := has_of (c.d.def_ 21 (d := mkD "system_for" s_system_for) rfl) (He.glo_ok X Gn (c.d.fact 21 (f := .glo "system_for") rfl)) fun _ _ _ _ _ _ us hl => match us, hl with | [_, _, _, _], _ => rfl
  have h_check_wishes : Has K mg "check_wishes" s_check_wishes ["orders", "wishes"] := has_of (c.d.def_ 22 (d := mkD "check_wishes" s_check_wishes) rfl) (He.glo_ok X Gn (c.d.fact 22 (f := .glo "check_wishes") rfl)) fun _ _ _ _ _ _ us hl => match us, hl with | [_, _], _ => rfl
  have h_is_wish_of : Has K mg "is_wish_of" s_is_wish_of ["orders", "value"] := has_of (c.d.def_ 23 (d := mkD "is_wish_of" s_is_wish_of) rfl) (He.glo_ok X Gn (c.d.fact 23 (f := .glo "is_wish_of") rfl)) fun _ _ _ _ _ _ us hl => match us, hl with | [_, _], _ => rfl
  have h_are_wishes : Has K mg "are_wishes" s_are_wishes ["orders", "value"] := has_of (c.d.def_ 24 (d := mkD "are_wishes" s_are_wishes) rfl) (He.glo_ok X Gn (c.d.fact 24 (f := .glo "are_wishes") rfl)) fun _ _ _ _ _ _ us hl => match us, hl with | [_, _], _ => rfl
  have h_uneven_at : Has K mg "uneven_at" s_uneven_at ["orders", "wishes"] := has_of (c.d.def_ 25 (d := mkD "uneven_at" s_uneven_at) rfl) (He.glo_ok X Gn (c.d.fact 25 (f := .glo "uneven_at") rfl)) fun _ _ _ _ _ _ us hl => match us, hl with | [_, _], _ => rfl
  have h_wished_next : Has K mg "wished_next" s_wished_next ["orders", "table", "wish"] := has_of (c.d.def_ 26 (d := mkD "wished_next" s_wished_next) rfl) (He.glo_ok X Gn (c.d.fact 26 (f := .glo "wished_next") rfl)) fun _ _ _ _ _ _ us hl => match us, hl with | [_, _, _], _ => rfl
  have h_law_hash : Has K mg "_law_hash" s_law_hash ["seed", "index"] := has_of (c.d.def_ 27 (d := mkD "_law_hash" s_law_hash) rfl) (He.glo_ok X Gn (c.d.fact 27 (f := .glo "_law_hash") rfl)) fun _ _ _ _ _ _ us hl => match us, hl with | [_, _], _ => rfl
  have h_law_random : Has K mg "_law_random" s_law_random ["generator", "bound"] := has_of (c.d.def_ 28 (d := mkD "_law_random" s_law_random) rfl) (He.glo_ok X Gn (c.d.fact 28 (f := .glo "_law_random") rfl)) fun _ _ _ _ _ _ us hl => match us, hl with | [_, _], _ => rfl
  have h_law_cell : Has K mg "_law_cell" s_law_cell ["script", "index"] := has_of (c.d.def_ 29 (d := mkD "_law_cell" s_law_cell) rfl) (He.glo_ok X Gn (c.d.fact 29 (f := .glo "_law_cell") rfl)) fun _ _ _ _ _ _ us hl => match us, hl with | [_, _], _ => rfl
  have h_law_generator : Has K mg "_law_generator" s_law_generator ["script", "index"] := has_of (c.d.def_ 30 (d := mkD "_law_generator" s_law_generator) rfl) (He.glo_ok X Gn (c.d.fact 30 (f := .glo "_law_generator") rfl)) fun _ _ _ _ _ _ us hl => match us, hl with | [_, _], _ => rfl
  have h_law_add : Has K mg "_law_add" s_law_add ["orders_told", "one", "other"] := has_of (c.d.def_ 31 (d := mkD "_law_add" s_law_add) rfl) (He.glo_ok X Gn (c.d.fact 31 (f := .glo "_law_add") rfl)) fun _ _ _ _ _ _ us hl => match us, hl with | [_, _, _], _ => rfl
  have h_law_minus : Has K mg "_law_minus" s_law_minus ["orders_told", "one"] := has_of (c.d.def_ 32 (d := mkD "_law_minus" s_law_minus) rfl) (He.glo_ok X Gn (c.d.fact 32 (f := .glo "_law_minus") rfl)) fun _ _ _ _ _ _ us hl => match us, hl with | [_, _], _ => rfl
  have h_law_total : Has K mg "_law_total" s_law_total ["orders_told", "members"] := has_of (c.d.def_ 33 (d := mkD "_law_total" s_law_total) rfl) (He.glo_ok X Gn (c.d.fact 33 (f := .glo "_law_total") rfl)) fun _ _ _ _ _ _ us hl => match us, hl with | [_, _], _ => rfl
  have h_law_size : Has K mg "_law_size" s_law_size ["orders_told"] := has_of (c.d.def_ 34 (d := mkD "_law_size" s_law_size) rfl) (He.glo_ok X Gn (c.d.fact 34 (f := .glo "_law_size") rfl)) fun _ _ _ _ _ _ us hl => match us, hl with | [_], _ => rfl
  have h_law_orders : Has K mg "_law_orders" s_law_orders ["generator", "most"] := has_of (c.d.def_ 35 (d := mkD "_law_orders" s_law_orders) rfl) (He.glo_ok X Gn (c.d.fact 35 (f := .glo "_law_orders") rfl)) fun _ _ _ _ _ _ us hl => match us, hl with | [_, _], _ => rfl
  have h_law_shuffled : Has K mg "_law_shuffled" s_law_shuffled ["generator", "size"] := has_of (c.d.def_ 36 (d := mkD "_law_shuffled" s_law_shuffled) rfl) (He.glo_ok X Gn (c.d.fact 36 (f := .glo "_law_shuffled") rfl)) fun _ _ _ _ _ _ us hl => match us, hl with | [_, _], _ => rfl
  have h_law_even_row : Has K mg "_law_even_row" s_law_even_row ["generator", "orders_told"] := has_of (c.d.def_ 37 (d := mkD "_law_even_row" s_law_even_row) rfl) (He.glo_ok X Gn (c.d.fact 37 (f := .glo "_law_even_row") rfl)) fun _ _ _ _ _ _ us hl => match us, hl with | [_, _], _ => rfl
  have h_law_row : Has K mg "_law_row" s_law_row ["orders_told", "sort", "one", "other"] := has_of (c.d.def_ 38 (d := mkD "_law_row" s_law_row) rfl) (He.glo_ok X Gn (c.d.fact 38 (f := .glo "_law_row") rfl)) fun _ _ _ _ _ _ us hl => match us, hl with | [_, _, _, _], _ => rfl
  have h_law_kept : Has K mg "_law_kept" s_law_kept ["system_told", "place", "wish_told"] := has_of (c.d.def_ 39 (d := mkD "_law_kept" s_law_kept) rfl) (He.glo_ok X Gn (c.d.fact 39 (f := .glo "_law_kept") rfl)) fun _ _ _ _ _ _ us hl => match us, hl with | [_, _, _], _ => rfl
  have h_law_system_right : Has K mg "_law_system_right" s_law_system_right ["system_told", "places"] := has_of (c.d.def_ 40 (d := mkD "_law_system_right" s_law_system_right) rfl) (He.glo_ok X Gn (c.d.fact 40 (f := .glo "_law_system_right") rfl)) fun _ _ _ _ _ _ us hl => match us, hl with | [_, _], _ => rfl
  have h_law_marked : Has K mg "_law_marked" s_law_marked ["told"] := has_of (c.d.def_ 41 (d := mkD "_law_marked" s_law_marked) rfl) (He.glo_ok X Gn (c.d.fact 41 (f := .glo "_law_marked") rfl)) fun _ _ _ _ _ _ us hl => match us, hl with | [_], _ => rfl
  have h_law_refused : Has K mg "_law_refused" s_law_refused ["orders_told", "first_told", "wishes_told", "bad"] := has_of (c.d.def_ 42 (d := mkD "_law_refused" s_law_refused) rfl) (He.glo_ok X Gn (c.d.fact 42 (f := .glo "_law_refused") rfl)) fun _ _ _ _ _ _ us hl => match us, hl with | [_, _, _, _], _ => rfl
  have h_law_asked : Has K mg "_law_asked" s_law_asked ["generator", "orders_told", "many"] := has_of (c.d.def_ 43 (d := mkD "_law_asked" s_law_asked) rfl) (He.glo_ok X Gn (c.d.fact 43 (f := .glo "_law_asked") rfl)) fun _ _ _ _ _ _ us hl => match us, hl with | [_, _, _], _ => rfl
  have h_law : Has K mg "law" s_law ["script"] := has_of (c.d.def_ 44 (d := mkD "law" s_law) rfl) (He.glo_ok X Gn (c.d.fact 44 (f := .glo "law") rfl)) fun _ _ _ _ _ _ us hl => match us, hl with | [_], _ => rfl
  refine law_end (x := "law") (y := "script") (st := s_law) (c.d.def_ 44 (d := mkD "law" s_law) rfl) (He.glo_ok X Gn (c.d.fact 44 (f := .glo "law") rfl)) (fun _ _ _ _ _ _ us hl => match us, hl with | [_], _ => rfl) fun base hb hn => ?_
  have mo := Bool.and_eq_true_iff.mp c.more
  have g_KINDS : GTup mg K "KINDS" [.str "swap", .str "twin"] := gtup_of (x := "KINDS") (He.glo_ok X Gn (c.d.fact 62 (f := .glo "KINDS") rfl)) mo.1
  have T := errB_ok mo.2
  have hC := He.glo_ok X Gn (c.d.fact 63 (f := .glo "Uneven") rfl)
  obtain ⟨fdI, FI⟩ := c.d.def_ 45 (d := ⟨("Uneven", some "__init__"), "__init__", "Uneven.__init__", defArgs s_Uneven_ini, defBody s_Uneven_ini, defScope s_Uneven_ini, [.non], []⟩) rfl
  have Fi := iniD_ok (st := s_Uneven_ini) (P := P) (w := w) (mg := mg) (base := base) FI ⟨rfl, rfl, rfl, by decide +kernel, rfl, by decide +kernel, by decide +kernel⟩ (by decide +kernel) (by decide +kernel) rfl
  have bi := ini_binds (st := s_Uneven_ini) FI (fun _ _ _ _ _ _ _ us its hl hi => match us, its, hl, hi with | [_, _], [_], _, _ => ⟨_, rfl, rfl⟩)
  have c_is_whole := ok_is_whole (P := P) (w := w) (base := base) B h_is_whole
  have c_size_of := ok_size_of (P := P) (w := w) (base := base) B h_size_of
  have c_plus := ok_plus (P := P) (w := w) (base := base) B h_plus
  have c_minus := ok_minus (P := P) (w := w) (base := base) B h_minus
  have c_turned_round := ok_turned_round (P := P) (w := w) (base := base) B h_turned_round
  have c_law_hash := ok_law_hash (P := P) (w := w) (base := base) B h_law_hash
  have c_law_cell := ok_law_cell (P := P) (w := w) (base := base) B h_law_cell
  have c_law_add := ok_law_add (P := P) (w := w) (base := base) B h_law_add
  have c_law_minus := ok_law_minus (P := P) (w := w) (base := base) B h_law_minus
  have c_law_size := ok_law_size (P := P) (w := w) (base := base) B h_law_size
  have c_is_from := ok_is_from (P := P) (w := w) (base := base) B c_is_whole h_is_from
  have c_is_below := ok_is_below (P := P) (w := w) (base := base) B c_is_whole h_is_below
  have c_sum_up := ok_sum_up (P := P) (w := w) (base := base) B c_plus h_sum_up
  have c_minuses := ok_minuses (P := P) (w := w) (base := base) B c_minus h_minuses
  have c_law_random := ok_law_random (P := P) (w := w) (base := base) B c_law_hash h_law_random
  have c_law_generator := ok_law_generator (P := P) (w := w) (base := base) B c_law_cell h_law_generator
  have c_law_total := ok_law_total (P := P) (w := w) (base := base) B c_law_add h_law_total
  have c_law_row := ok_law_row (P := P) (w := w) (base := base) B c_law_add c_law_minus h_law_row
  have c_law_system_right := ok_law_system_right (P := P) (w := w) (base := base) B c_law_size h_law_system_right
  have c_are_below := ok_are_below (P := P) (w := w) (base := base) B c_is_below h_are_below
  have c_are_orders := ok_are_orders (P := P) (w := w) (base := base) B c_is_from h_are_orders
  have c_check_member := ok_check_member (P := P) (w := w) (base := base) B c_is_below c_size_of h_check_member
  have c_walk := ok_walk (P := P) (w := w) (base := base) B c_plus c_minus c_turned_round c_minuses h_walk
  have c_uneven_at := ok_uneven_at (P := P) (w := w) (base := base) B c_sum_up h_uneven_at
  have c_law_orders := ok_law_orders (P := P) (w := w) (base := base) B c_law_random c_law_size h_law_orders
  have c_law_shuffled := ok_law_shuffled (P := P) (w := w) (base := base) B c_law_random h_law_shuffled
  have c_law_even_row := ok_law_even_row (P := P) (w := w) (base := base) B c_law_minus c_law_total c_law_random c_law_size h_law_even_row
  have c_law_kept := ok_law_kept (P := P) (w := w) (base := base) B c_law_row h_law_kept
  have c_is_each_once := ok_is_each_once (P := P) (w := w) (base := base) B c_are_below h_is_each_once
  have c_check_orders := ok_check_orders (P := P) (w := w) (base := base) B c_are_orders h_check_orders
  have c_is_row_of := ok_is_row_of (P := P) (w := w) (base := base) B c_are_below h_is_row_of
  have c_walked_rounds := ok_walked_rounds (P := P) (w := w) (base := base) B c_minus c_walk h_walked_rounds
  have c_check_table := ok_check_table (P := P) (w := w) (base := base) B c_is_each_once c_size_of h_check_table
  have c_borne_by_members := ok_borne_by_members (P := P) (w := w) (base := base) B c_walked_rounds h_borne_by_members
  have c_is_wish_of := ok_is_wish_of (P := P) (w := w) (base := base) B c_is_row_of c_size_of g_KINDS h_is_wish_of
  have c0_law_marked := Cal.void (P := P) (w := w) (base := base) h_law_marked
  have c1_law_marked := ok_law_marked B (n1 := 0) (by decide) (fun n0 e => nomatch e) c0_law_marked h_law_marked
  have c2_law_marked := ok_law_marked B (n1 := 1) (by decide) (fun n0 e => by cases e; exact fun v d S H Q E h1 h2 => ⟨v, d, S, rfl, h1, h2⟩) c1_law_marked h_law_marked
  have c3_law_marked := ok_law_marked B (n1 := 2) (by decide) (fun n0 e => by cases e; exact fun v d S H Q E h1 h2 => ⟨v, d, S, rfl, h1, h2⟩) c2_law_marked h_law_marked
  have c4_law_marked := ok_law_marked B (n1 := 3) (by decide) (fun n0 e => by cases e; exact fun v d S H Q E h1 h2 => ⟨v, d, S, rfl, h1, h2⟩) c3_law_marked h_law_marked
  have c_law_marked := c4_law_marked.lift (show _ ≤ 5 by decide)
  have c_following := ok_following (P := P) (w := w) (base := base) B c_turned_round c_borne_by_members h_following
  have c_are_wishes := ok_are_wishes (P := P) (w := w) (base := base) B c_is_wish_of h_are_wishes
  have c_following_by_sums := ok_following_by_sums (P := P) (w := w) (base := base) B c_following c_minus h_following_by_sums
  have c_check_wishes := ok_check_wishes (P := P) (w := w) (base := base) B c_are_wishes h_check_wishes
  have c_wished_next := ok_wished_next (P := P) (w := w) (base := base) B c_following_by_sums c_following h_wished_next
  have c_system_for := ok_system_for (P := P) (w := w) (base := base) B c_wished_next c_uneven_at c_check_member c_check_wishes c_check_table c_check_orders h_system_for
  have cx_system_for := okE_system_for (P := P) (w := w) (base := base) B c_wished_next c_uneven_at c_check_member c_check_wishes c_check_table c_check_orders T hC Fi bi h_system_for
  have c_law_refused := ok_law_refused (P := P) (w := w) (base := base) B T hC cx_system_for h_law_refused
  have k_system_for_total_wishes_first_orders := kw_system_for_total_wishes_first_orders c_system_for h_system_for
  have c_law_asked := ok_law_asked (P := P) (w := w) (base := base) B c_law_refused c_law_add c_law_random c_law_marked c_law_kept c_law_system_right c_system_for c_law_even_row c_law_shuffled c_law_size k_system_for_total_wishes_first_orders h_law_asked
  exact ok_law (P := P) (w := w) (base := base) B c_law_asked c_law_generator c_law_random c_law_orders h_law
end K22
open PySem PySem.W PySem.Calls PyProof.Rows
theorem PySem.Challenge.cw_checkwright_k22_whole_systems_for_wishes_holds : PySem.Challenge.rw_checkwright_k22_whole_systems_for_wishes.Holds := by
  w_on; o_law
  refine HandSHeadRun.head_any (r := OpenLaw.row PySem.Challenge.rw_checkwright_k22_whole_systems_for_wishes) (q := view (OpenLaw.row PySem.Challenge.rw_checkwright_k22_whole_systems_for_wishes).prog [59]) (H := K22.hk) (ob := K22.ob) (M := 3800) (loose := K22.ls) (d := HandSHeadRun.topDef (OpenLaw.row PySem.Challenge.rw_checkwright_k22_whole_systems_for_wishes).prog 59) (kwd := []) K22.ob_eq
    (by kernel_rfl) (fun s => by kernel_rfl) K22.run (by kernel_rfl) (by kernel_rfl) (by kernel_rfl) (by rfl) (by first | assumption | decide +kernel) (by decide +kernel) ⟨rfl, rfl, rfl, rfl, rfl, by decide +kernel⟩ ?hw ?hc
  case hw => w_witness2
  case hc =>
    refine G.walk_gE (l := PySem.Challenge.rw_checkwright_k22_whole_systems_for_wishes) (n := 63) (k := 12) (x := "script") rfl (by decide) (by kernel_rfl) ⟨rfl, by decide, by decide⟩ ?F
    intro w mg fa h Y Gn hmg0
    obtain ⟨K, KX, c⟩ := Y
    have hmg : mg ("law" : PySem.Str) = some (.ref fa) := by
      have e : (HandSHeadRun.topDef (OpenLaw.row PySem.Challenge.rw_checkwright_k22_whole_systems_for_wishes).prog 59).name = ("law" : PySem.Str) := by kernel_rfl
      rw [← e]
      exact hmg0
    have e2 := hmg.symm.trans (He.glo_ok KX Gn (c.d.fact 44 (f := .glo "law") rfl))
    cases e2
    obtain ⟨fd, hb, hF⟩ := K22.facts (P := (PySem.Challenge.rw_checkwright_k22_whole_systems_for_wishes).prog) (w := w) KX Gn c
    exact ⟨K, fd, K22.sLaw K, KX, hb, fun H a ns hl _ hS => ⟨a, ns, rfl, hS, fun _ => rfl⟩, hF⟩
end
