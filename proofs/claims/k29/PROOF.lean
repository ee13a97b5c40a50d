import PyProof.Rows.All
import Wide.All
import OpenK.AllK
import Wide.FinOn
import HandS.Base
import HandS.Call
import HandS.List
import HandS.Comp
import HandS.Ends
import HandS.Exc
import HandS.ExcOwn
import HandS.Words
import HandS.WordsList
import HandS.WordsExc
import HandS.Iter
import HandS.Zip
import HandS.Wide
import HandS.WideBits
import HandS.Flow
import HandS.IsInst
import HandS.Rev
import HandS.Walk
import HandS.Style
import HandS.TupAny
import HandS.Conv
import PyProof.ReprBulk
import HandS.HeadEnd
import HandS.HeadHook2
import HandS.Dict
import HandS.ExcField
import HandS.ExcInit
import HandS.Deep
import HandS.SortInts
import HandS.TryOnly
import HandS.Remove
import HandS.SetFor
import HandS.Gcd
import PyProof.Rows.SortKeyStr
import KE.KDictList
import HandS.ListItems
import HandS.HeadHook3
import KE.KStateDown
import HandS.More
import HandS.Defaults
import HandS.Head0
import HandS.Head1
import HandS.Head2
import HandS.HeadHook1
import HandS.SortKw
import HandS.Strs
import PyProof.Rows.ReprOcc
import PySem.Challenge.RW_checkwright_k29_whole_pairs_that_pass
set_option Elab.async false
set_option linter.all false
section
set_option maxRecDepth 100000
set_option maxHeartbeats 2000000
namespace G
open PySem PySem.Spec PyProof.Rows L2
structure FnG (P : Program) (w : World) (K : PySem.W.Frag) (mg : Str → Option Value) (base : Heap)
    (CX : CXT) (k : Nat) (f : Addr) (fd : FuncData) (ps : List Str) (sp : Sp) : Prop where
  ar : ∀ vs H Q E, sp vs H Q E → vs.length = ps.length
  go : ∀ (A : Around) (outer : List Env) (s : Shared) (H : Hp) (args : Args) (us : List Value)
    (vs : List V) (Q : VK) (E : XK), A.guards = some [] → Room k A → Env0 P w K mg base A outer s H →
    BindsTo s fd args (ps.zip us) → Vals vs us → sp vs H Q E →
    codeAny (model P w) A (.call (.ref f) args) (CR CX outer P w H s Q E) s
section
variable {P : Program} {w : World} {K : PySem.W.Frag} {mg : Str → Option Value} {base : Heap} {CX : CXT}
abbrev bodyCx (CX : CXT) (P : Program) (w : World) (K : PySem.W.Frag) (mg : Str → Option Value) (base : Heap) (N : List Str)
    (qual : Str) (st : Stmt) (f : Addr) (cdv : Value) (A : Around) (outer : List Env) (s : Shared) (H : Hp) (E : XK) : Cx :=
  cxOf CX P w K mg base N qual (defScope st) f cdv A outer s H E
theorem fn_g {x qual : Str} {st : Stmt} {f : Addr} {fd : FuncData} {N ps : List Str} {k : Nat} {sp : Sp}
    (F : Fun K x qual st f fd) (S : FnScope N ps (defScope st)) (ar : ∀ vs H Q E, sp vs H Q E → vs.length = ps.length)
    (hb : ∀ (cdv : Value) (A : Around) (outer : List Env) (s : Shared) (H : Hp) (vs : List V) (Q : VK) (E : XK),
      A.guards = some [] → Room k (A.deeper (envOfC qual (defScope st) s.heap.objs.size f cdv)) → sp vs H Q E →
      ∃ t, PSs (bodyCx CX P w K mg base N qual st f cdv A outer s H E) (defBody st) t ∧
        t { nx := fun _ H' => Q .non H', rt := Q } (start N vs) H) : FnG P w K mg base CX (k + 1) f fd ps sp := by
  obtain ⟨oc, od, kV, doc, pm, an, cdv, ct, osl, rfl, lk, hcd⟩ := F.ex
  refine ⟨ar, fun A outer s H args us vs Q E hg hr e0 bt rv hsp => ?_⟩
  have up : ∀ b o, base.get? b = some o → s.heap.get? b = some o := fun b o e => (e0.bs b o e).1
  have inK := e0.mod.kin.keeps up
  have noL := e0.mod.nolimit.keeps up
  have slots : ∀ y ∈ ps.zip us, (defScope st).names.lookup y.1 = some .local ∨
      ((defScope st).names.lookup y.1 = some .cell ∧ ((cellsFrom (s.heap.objs.size + 1) (defScope st).names []).lookup y.1).isSome = true) := by
    intro ⟨n, v⟩ hy
    rcases S.par n (List.of_mem_zip hy).1 with q | q
    · exact .inl q
    · exact .inr ⟨q, PySem.W.cellsFrom_some _ _ _ (.inl q)⟩
  refine codeAny_call_function hr.depth (inK _ _ lk) rfl S.co S.gen rfl (PySem.W.codeRec_of inK hcd) (bt _ _ _ _ ?_)
  refine wpAny_newFunctionEnv_cells S.kind slots fun env he s1 hs1 => ?_
  subst he
  refine ⟨noL.keeps hs1.toInCall.keep, codeAny_func ?_⟩
  obtain ⟨t, ht, rd⟩ := hb cdv A outer s H vs Q E hg (hr.deeper _) hsp
  have J0 := inv_start (CX := CX) (E := E) S hr.hd e0 (ar _ _ _ _ hsp) rv hs1
  refine wpAny_mono (ht.run [] s1 (start N vs) H _ J0 rd) (fun fl s' hs => ?_) fun _ _ hs => hs
  cases fl with
  | next =>
    obtain ⟨_, H2, J, q⟩ := hs
    exact ⟨.non, H2, J.os, J.bare, J.base, J.hok, rfl, q⟩
  | ret u =>
    obtain ⟨v, _, H2, J, r2, q⟩ := hs
    exact ⟨v, H2, J.os, J.bare, J.base, J.hok, r2, q⟩
  | brk => exact (hs.elim fun _ z => z.elim fun _ y => y.2).elim
  | cont => exact (hs.elim fun _ z => z.elim fun _ y => y.2).elim
theorem fn_g0 {x qual : Str} {st : Stmt} {f : Addr} {fd : FuncData} {N ps : List Str} {k : Nat} {sp : Sp}
    (F : Fun K x qual st f fd) (S : FnScope N ps (defScope st)) (ar : ∀ vs H Q E, sp vs H Q E → vs.length = ps.length)
    (hb : ∀ (cdv : Value) (A : Around) (outer : List Env) (s : Shared) (H : Hp) (vs : List V) (Q : VK) (E : XK),
      A.guards = some [] → Room k (A.deeper (envOfC qual (defScope st) s.heap.objs.size f cdv)) → sp vs H Q E →
      ∃ t, PSs (bodyCx CX0 P w K mg base N qual st f cdv A outer s H E).nox (defBody st) t ∧
        t { nx := fun _ H' => Q .non H', rt := Q } (start N vs) H) : FnG P w K mg base CX0 (k + 1) f fd ps sp :=
  fn_g F S ar fun cdv A outer s H vs Q E hg hr h =>
    (hb cdv A outer s H vs Q E hg hr h).imp fun _ z => ⟨z.1.nox, z.2⟩
end
section
variable {X : Cx} {CX : CXT} {k : Nat} {f : Addr} {fd : FuncData} {ps ks : List Str} {sp : Sp} {dvs : List V} {ds : List Value}
  {E : XK} {x : Str} {p pos : Pos} {e : Expr} {es : List Expr} {kws : List Keyword} {t tk : TA}
def Bh (X : Cx) (pins : List (Addr × Obj)) (σ : L2.St) (Q : VK) : Result → Shared → Prop
  | .ok (.ret u), s' => EP X pins σ Q u s'
  | .ok _, _ => False
  | .error e, s' => X.xe e s'
theorem ended {pins : List (Addr × Obj)} {σ : L2.St} {H : Hp} {s s' : Shared} {Q : VK} (hx : Passes CX X E) (I : Inv X pins σ H s) :
    ∀ {r : Result}, CR CX X.stack X.prog X.w H s Q E r s' → Bh X pins σ Q r s'
  | .error _, hq => hx pins σ H s _ s' I hq
  | .ok (.ret _), hq => I.after hq
  | .ok .next, hq => hq
  | .ok .brk, hq => hq
  | .ok .cont, hq => hq
theorem enter {pins : List (Addr × Obj)} {σ : L2.St} {H : Hp} {s : Shared} {Q : VK} {args : Args} {us : List Value} {vs : List V}
    (hg : X.A.guards = some []) (F : FnG X.prog X.w X.K X.mg X.base CX k f fd ps sp) (hr : Room k X.A) (hx : Passes CX X E) (I : Inv X pins σ H s)
    (hb : BindsTo s fd args (ps.zip us)) (r : Vals vs us) (h : sp vs H Q E) :
    codeAny (model X.prog X.w) X.A (.call (.ref f) args) (Bh X pins σ Q) s :=
  codeAny_mono (F.go X.A X.stack s H args us vs Q E hg hr I.env0 hb r h) fun _ _ hq => ended hx I hq
theorem bh_out {pins : List (Addr × Obj)} {σ : L2.St} {Q : VK} {s' : Shared} : ∀ {r : Result}, Bh X pins σ Q r s' →
    (match r with | .ok (.ret v) => EP X pins σ Q v s' | .ok _ => False | .error e => X.xe e s')
  | .error _, h => h
  | .ok (.ret _), h => h
  | .ok .next, h => h
  | .ok .brk, h => h
  | .ok .cont, h => h
theorem run_g {pins : List (Addr × Obj)} {σ : L2.St} {H : Hp} {s : Shared} {Q : VK} {us : List Value} {vs : List V}
    (hg : X.A.guards = some []) (F : FnG X.prog X.w X.K X.mg X.base CX k f fd ps sp) (hr : Room k X.A) (hb : Binds X.K fd ps ds) (hd : Vals dvs ds)
    (hx : Passes CX X E) (I : Inv X pins σ H s) (r : Vals vs us) (h : sp (vs ++ dvs) H Q E) :
    wpAny (model X.prog X.w) X.A (call (.ref f) us) (EP X pins σ Q) X.xe s := by
  have r2 := r.append hd
  refine wpAny_call (codeAny_mono (enter hg F hr hx I (hb s us I.kIn (r2.length ▸ F.ar _ _ _ _ h)) r2 h) fun r s' hq => ?_)
  exact bh_out hq
theorem pg_call (hg : X.A.guards = some []) (F : FnG X.prog X.w X.K X.mg X.base CX k f fd ps sp) (hr : Room k X.A) (hgl : Gl X x) (hm : X.mg x = some (.ref f))
    (hk : PySem.W.keepIn X.K (.ref f) = true) (hb : Binds X.K fd ps ds) (hd : Vals dvs ds) (hx : Passes CX X E) (ha : PA X (e :: es) t)
    (hdb : (x == ("__debug__" : Str)) = false := by decide)
    (he : starEach (e :: es) X.env = (false, eval e X.env) :: starEach es X.env := by rfl)
    (hpl : (backTo pos (starEach es X.env)).any (·.1) = false := by rfl) : PE X (.Call (.Name x p) (e :: es) [] pos) (tCall sp dvs E t) := by
  refine ⟨fun pins s σ H Q I h => wpAny_Call_Name_kw (ld_glob I hgl hm ?_ hdb)⟩
  refine PySem.W.callWith_K (h₀ := X.base) I.ok.mod.kin hk (thn (ha.run pos pins s σ H _ I h) ?_) he hpl
  rintro us s1 ⟨vs, H1, I1, r, q⟩
  exact ⟨I1.kIn, run_g hg F hr hb hd hx I1 r q⟩
theorem pg_call0 (hg : X.A.guards = some []) (F : FnG X.prog X.w X.K X.mg X.base CX k f fd ps sp) (hr : Room k X.A) (hgl : Gl X x) (hm : X.mg x = some (.ref f))
    (hk : PySem.W.keepIn X.K (.ref f) = true) (hb : Binds X.K fd ps ds) (hd : Vals dvs ds) (hx : Passes CX X E)
    (hdb : (x == ("__debug__" : Str)) = false := by decide) : PE X (.Call (.Name x p) [] [] pos) (tCall sp dvs E tNil) :=
  ⟨fun pins s σ H Q I h => wpAny_Call_Name_kw (ld_glob I hgl hm (PySem.W.callWith_K0 I.kIn hk (run_g (us := []) hg F hr hb hd hx I .nil h)) hdb)⟩
theorem run_gk {g : List Value → List Value → List Value} {gV : List V → List V → List V} {pins : List (Addr × Obj)} {σ : L2.St} {H : Hp} {s : Shared} {Q : VK} {us ws : List Value} {vs zs : List V}
    (hg : X.A.guards = some []) (F : FnG X.prog X.w X.K X.mg X.base CX k f fd ps sp) (hr : Room k X.A) (hb : KBinds X.K fd ps ks g gV)
    (hx : Passes CX X E) (I : Inv X pins σ H s) (r : Vals vs us) (rz : Vals zs ws) (h : sp (gV vs zs) H Q E) :
    wpAny (model X.prog X.w) X.A (call (.ref f) us (ks.zip ws)) (EP X pins σ Q) X.xe s := by
  have r2 := hb.rel r rz
  refine wpAny_call (codeAny_mono (enter hg F hr hx I (hb.to s us ws I.kIn (r2.length ▸ F.ar _ _ _ _ h)) r2 h) fun r s' hq => ?_)
  exact bh_out hq
end
section
variable {X : Cx} {CX : CXT} {k : Nat} {f : Addr} {fd : FuncData} {ps ks : List Str} {sp : Sp} {E : XK} {x : Str} {p pos : Pos} {kws : List Keyword} {tk : TA}
  {g : List Value → List Value → List Value} {gV : List V → List V → List V}
theorem pg_callK0 (hg : X.A.guards = some []) (F : FnG X.prog X.w X.K X.mg X.base CX k f fd ps sp) (hr : Room k X.A) (hgl : Gl X x) (hm : X.mg x = some (.ref f))
    (hk : PySem.W.keepIn X.K (.ref f) = true) (hb : KBinds X.K fd ps ks g gV) (hx : Passes CX X E) (hkw : PK X kws tk)
    (hall : (backToKw pos (keywordEach kws X.env)).all (·.1.isSome) = true := by rfl)
    (hks : (backToKw pos (keywordEach kws X.env)).filterMap (·.1) = ks := by rfl)
    (hdb : (x == ("__debug__" : Str)) = false := by decide)
    (hpl : ((backTo pos (starEach [] X.env)).any (·.1) || (backToKw pos (keywordEach kws X.env)).any (·.1.isNone)) = false := by rfl) :
    PE X (.Call (.Name x p) [] kws pos) (tCallK sp gV E tNil tk) := by
  refine ⟨fun pins s σ H Q I h => wpAny_Call_Name_kw (ld_glob I hgl hm ?_ hdb)⟩
  refine PySem.W.callWith_KW0 (h₀ := X.base) I.ok.mod.kin hk hall (thn (hkw.run pos pins s σ H _ I h) ?_) hpl
  rintro ws s2 ⟨zs, H2, I2, rz, q⟩
  rw [hks]
  exact ⟨I2.kIn, run_gk (us := []) (vs := []) hg F hr hb hx I2 .nil rz q⟩
end
section
variable {X : Cx}
def rRepr (K : PySem.W.Frag) : List V → Hp → VK → Prop := fun xs H Q => ∃ v d, xs = [v] ∧ Dp K H v d ∧
  d.showable = true ∧ d.hasDict = false ∧ d.depth ≤ 100 ∧ d.shown.length ≤ sizeLine ∧ Q (.str d.shown) H
end
theorem ns_hid {h : Heap} {H : Hp} (none_of : ∀ b o es ep, h.get? b = some o → o.data = .dict es ep → H b = none) {b : Addr} {m : Str → Option Value}
    (n : h.Ns b m) : (hidT h H).Ns b m := by
  obtain ⟨o, es, ep, e, d, r⟩ := n
  exact ⟨o, es, ep, hidT_get e (none_of _ _ _ _ e d), d, r⟩
theorem law_at {P : Program} {w : World} {K : PySem.W.Frag} {mg mb : Str → Option Value} {CX : CXT} {k : Nat} {fa a : Addr} {fd : FuncData} {x : Str} {sp : Sp}
    {s : Shared} {vs : List Value} {H : Hp} (inK : K.In s.heap) (ng : s.heap.Ns mainGlobals mg) (nb : s.heap.Ns builtinsNs mb)
    (bb : ∀ x : Str, x ≠ "__name__" → mb x = bootBuiltins x) (lim : s.heap.NoLimit) (gens : s.gens = #[])
    (ha : s.heap.get? a = some { cls := .type "list", data := .seq vs.toArray }) (hr : Room k callerA)
    (F : ∀ base : Heap, K.In base → base.Ns mainGlobals mg → FnG P w K mg base CX k fa fd [x] sp)
    (bt : ∀ (s : Shared) (u : Value), BindsTo s fd ⟨[u], []⟩ [(x, u)]) (ok : HOk P w H s.heap) (one : ∀ b, H b ≠ none → b = a)
    (away : H a ≠ none → K.lookup a = none) (hO : Only H)
    (h : sp [.ref a] H (fun v _ => v = .bl true) fun _ _ _ => False) (noX : ∀ e s', CX [] H s (fun _ _ _ => False) e s' → False) :
    codeAny (model P w) callerA (.call (.ref fa) ⟨[.ref a], []⟩)
      (fun r s' => r = .ok (.ret (.bool true)) ∧ OldK s.heap s'.heap ∧ s'.os = s.os ∧ AllBare s'.gens) s := by
  have free : ∀ b o es ep, s.heap.get? b = some o → o.data = .dict es ep → H b = none := fun b o es ep e d => by
    cases q : H b with
    | none => rfl
    | some u =>
      obtain rfl := one b (by rw [q]; simp)
      rw [ha] at e
      cases e
      exact nomatch (show Data.seq vs.toArray _ = Data.dict es ep from d)
  have inB : K.In (hidT s.heap H) := fun b o e => by
    refine hidT_get (inK b o e) ?_
    cases q : H b with
    | none => rfl
    | some u =>
      obtain rfl := one b (by rw [q]; simp)
      rw [away (by rw [q]; simp)] at e
      cases e
  have md : Mod K mg (hidT s.heap H) := by
    obtain ⟨mc, l1, l2⟩ := lim
    exact ⟨inB, ns_hid free ng, ⟨mb, ns_hid free nb, bb⟩, mc, ns_hid free l1, l2⟩
  have e0 : Env0 P w K mg (hidT s.heap H) callerA [] s H :=
    ⟨rfl, md, fun _ _ e => of_hidT e, Nat.le_of_eq (hidT_size _ _), trivial, fun _ hb => (List.not_mem_nil hb).elim, ok, .of_eq gens⟩
  have run := (F _ inB (ns_hid free ng)).go callerA [] s H ⟨[.ref a], []⟩ [.ref a] [.ref a] _ _ rfl hr e0 (bt s (.ref a)) (.cons rfl .nil) h
  refine codeAny_mono run fun r s' hq => ?_
  match r, hq with
  | .error e, hq => exact (noX e s' hq).elim
  | .ok (.ret u), hq =>
    obtain ⟨v, H', os, bare, un, ok', rv, ev⟩ := hq
    subst ev
    obtain rfl : u = Value.bool true := rv
    refine ⟨rfl, .of_keep fun b o e => ?_, os, bare⟩
    cases q : H b with
    | none => exact un.keep b o e q List.not_mem_nil List.not_mem_nil
    | some u =>
      rcases hO b with z | ⟨ob, xs, z⟩
      · rw [q] at z
        cases z
      · have e1 := (ok b _ z).1
        have e2 := (ok' b _ (un.frzs b ob _ z)).1
        rw [e] at e1
        cases e1
        exact e2
def scriptAt (a : Addr) (o : Obj) (xs : List V) : Hp := fun b => if b = a then some (.frz o (.lst xs)) else none
theorem scriptAt_ne {a b : Addr} {o : Obj} {xs : List V} (h : b ≠ a) : scriptAt a o xs b = none := if_neg h
theorem scriptAt_at {a : Addr} {o : Obj} {xs : List V} : scriptAt a o xs a = some (.frz o (.lst xs)) := if_pos rfl
theorem law_g {P : Program} {w : World} {K : PySem.W.Frag} {mg mb : Str → Option Value} {CX : CXT} {k : Nat} {fa a : Addr} {fd : FuncData} {x : Str} {sp : Sp}
    {s : Shared} {vs : List Value} {ns : List Int} (inK : K.In s.heap) (ng : s.heap.Ns mainGlobals mg) (nb : s.heap.Ns builtinsNs mb)
    (bb : ∀ x : Str, x ≠ "__name__" → mb x = bootBuiltins x) (lim : s.heap.NoLimit) (gens : s.gens = #[])
    (ha : s.heap.get? a = some { cls := .type "list", data := .seq vs.toArray }) (hi : IntsAre vs ns) (hl : ns.length ≤ sizeLine) (hr : Room k callerA)
    (F : ∀ base : Heap, K.In base → base.Ns mainGlobals mg → FnG P w K mg base CX k fa fd [x] sp)
    (bt : ∀ (s : Shared) (u : Value), BindsTo s fd ⟨[u], []⟩ [(x, u)])
    (h : ∀ H : Hp, Only H → SqL K H a (ns.map V.int) → sp [.ref a] H (fun v _ => v = .bl true) fun _ _ _ => False)
    (noX : ∀ H e s', CX [] H s (fun _ _ _ => False) e s' → False) :
    codeAny (model P w) callerA (.call (.ref fa) ⟨[.ref a], []⟩)
      (fun r s' => r = .ok (.ret (.bool true)) ∧ OldK s.heap s'.heap ∧ s'.os = s.os ∧ AllBare s'.gens) s := by
  cases hk : K.lookup a with
  | none =>
    have only : Only (scriptAt a { cls := .type "list", data := .seq vs.toArray } (ns.map V.int)) := fun b => by
      by_cases e : b = a
      · subst e
        exact .inr ⟨_, _, scriptAt_at⟩
      · exact .inl (scriptAt_ne e)
    refine law_at inK ng nb bb lim gens ha hr F bt (fun b u z => ?_) (fun b z => ?_) (fun _ => hk) only (h _ only (.inl (.inr ⟨_, scriptAt_at⟩))) (noX _)
    · by_cases e : b = a
      · subst e
        rw [scriptAt_at] at z
        cases z
        exact ⟨ha, by rw [List.length_map]; exact hl, vs, _, vals_ints hi, ha⟩
      · rw [scriptAt_ne e] at z
        cases z
    · exact Decidable.byContradiction fun e => z (scriptAt_ne e)
  | some o =>
    have e := inK a o hk
    rw [ha] at e
    cases e
    have sz : vs.toArray.size ≤ sizeLine := by rw [List.size_toArray, hi.length]; exact hl
    exact law_at (H := fun _ => none) inK ng nb bb lim gens ha hr F bt (fun _ _ z => nomatch z) (fun _ z => (z rfl).elim) (fun z => (z rfl).elim)
      (fun _ => .inl rfl) (h _ (fun _ => .inl rfl) (.inr ⟨_, vs.toArray, _, hk, rfl, rfl, rfl, sz, vals_ints hi⟩)) (noX _)
end G
end
section
set_option maxRecDepth 100000
set_option maxHeartbeats 2000000
namespace G
open PySem PySem.Spec PyProof.Rows L2
mutual
inductive Da (K : PySem.W.Frag) (B : Hp) : V → PyData → Prop
  | non : Da K B .non .none
  | bl (b : Bool) : Da K B (.bl b) (.bool b)
  | int (i : Int) : Da K B (.int i) (.int i)
  | str (x : Str) : Da K B (.str x) (.str x)
  | lst {a : Addr} {xs : List V} {ds : List PyData} (h : SqL K B a xs) (hs : DaAll K B xs ds) : Da K B (.ref a) (.list ds)
  | tup {a : Addr} {xs : List V} {ds : List PyData} (h : SqT K B a xs) (hs : DaAll K B xs ds) : Da K B (.ref a) (.tuple ds)
  | emp {a : Addr} (h : B a = some (.dK [])) : Da K B (.ref a) (.dict [])
inductive DaAll (K : PySem.W.Frag) (B : Hp) : List V → List PyData → Prop
  | nil : DaAll K B [] []
  | cons {v : V} {vs : List V} {d : PyData} {ds : List PyData} (h : Da K B v d) (t : DaAll K B vs ds) : DaAll K B (v :: vs) (d :: ds)
end
section
variable {K : PySem.W.Frag} {B B' : Hp}
theorem same_t {H H' : Hp} {a : Addr} {xs : List V} (e : Same H H') (h : SqT K H a xs) : SqT K H' a xs := by
  rcases h with (h | ⟨o, h⟩) | h
  · exact .inl (.inl (e _ _ h))
  · exact .inl (.inr ⟨o, e _ _ h⟩)
  · exact .inr h
theorem same_l {H H' : Hp} {a : Addr} {xs : List V} (e : Same H H') (h : SqL K H a xs) : SqL K H' a xs := by
  rcases h with (h | ⟨o, h⟩) | h
  · exact .inl (.inl (e _ _ h))
  · exact .inl (.inr ⟨o, e _ _ h⟩)
  · exact .inr h
mutual
theorem Da.mono (e : Same B B') : ∀ (d : PyData) {v : V}, Da K B v d → Da K B' v d
  | .none, _, .non => .non
  | .bool _, _, .bl b => .bl b
  | .int _, _, .int i => .int i
  | .str _, _, .str x => .str x
  | .list ds, _, .lst h hs => .lst (same_l e h) (DaAll.mono e ds hs)
  | .tuple ds, _, .tup h hs => .tup (same_t e h) (DaAll.mono e ds hs)
  | .dict _, _, .emp h => .emp (e _ _ h)
theorem DaAll.mono (e : Same B B') : ∀ (ds : List PyData) {vs : List V}, DaAll K B vs ds → DaAll K B' vs ds
  | [], _, .nil => .nil
  | d :: ds, _, .cons h t => .cons (Da.mono e d h) (DaAll.mono e ds t)
end
mutual
theorem Da.dp : ∀ (d : PyData) {v : V}, d.hasDict = false → Da K B v d → Dp K B v d
  | .none, _, _, .non => .non
  | .bool _, _, _, .bl b => .bl b
  | .int _, _, _, .int i => .int i
  | .str _, _, _, .str x => .str x
  | .list ds, _, z, .lst h hs => .lst h (DaAll.dp ds (by rw [PyData.hasDict] at z; exact z) hs)
  | .tuple ds, _, z, .tup h hs => .tup h (DaAll.dp ds (by rw [PyData.hasDict] at z; exact z) hs)
  | .dict _, _, z, _ => by simp [PyData.hasDict] at z
theorem DaAll.dp : ∀ (ds : List PyData) {vs : List V}, PyData.hasDictAll ds = false → DaAll K B vs ds → DpAll K B vs ds
  | [], _, _, .nil => .nil
  | d :: ds, _, z, .cons h t => .cons (Da.dp d (by rw [PyData.hasDictAll, Bool.or_eq_false_iff] at z; exact z.1) h) (DaAll.dp ds (by rw [PyData.hasDictAll, Bool.or_eq_false_iff] at z; exact z.2) t)
end
theorem nd_shaped {d : PyData} (h : SeqAt.shaped d = true) : d.hasDict = false := PyData.hasDict_of_canLay d (by unfold SeqAt.shaped at h; exact (Bool.and_eq_true_iff.mp h).1)
theorem DaAll.len : ∀ {vs : List V} {ds : List PyData}, DaAll K B vs ds → vs.length = ds.length
  | _, _, .nil => rfl
  | _, _, .cons _ t => congrArg Nat.succ t.len
theorem DaAll.at : ∀ {vs : List V} {ds : List PyData} {i : Nat} {d : PyData}, DaAll K B vs ds → ds[i]? = some d → ∃ v, vs[i]? = some v ∧ Da K B v d
  | _, _, _, _, .nil, e => by simp at e
  | _, _, 0, _, .cons h _, e => by
    simp at e
    subst e
    exact ⟨_, rfl, h⟩
  | _, _, i + 1, _, .cons _ t, e => by
    obtain ⟨v, h1, h2⟩ := DaAll.at (i := i) t (by simpa using e)
    exact ⟨v, by simpa using h1, h2⟩
theorem DaAll.app : ∀ {vs ws : List V} {ds es : List PyData}, DaAll K B vs ds → DaAll K B ws es → DaAll K B (vs ++ ws) (ds ++ es)
  | _, _, _, _, .nil, h => h
  | _, _, _, _, .cons a t, h => .cons a (t.app h)
theorem DaAll.take : ∀ {vs : List V} {ds : List PyData} (n : Nat), DaAll K B vs ds → DaAll K B (vs.take n) (ds.take n)
  | _, _, 0, _ => .nil
  | _, _, _ + 1, .nil => .nil
  | _, _, n + 1, .cons a t => .cons a (t.take n)
theorem DaAll.drop : ∀ {vs : List V} {ds : List PyData} (n : Nat), DaAll K B vs ds → DaAll K B (vs.drop n) (ds.drop n)
  | _, _, 0, h => h
  | _, _, _ + 1, .nil => .nil
  | _, _, n + 1, .cons _ t => t.drop n
theorem DaAll.rev : ∀ {vs : List V} {ds : List PyData}, DaAll K B vs ds → DaAll K B vs.reverse ds.reverse
  | _, _, .nil => .nil
  | _, _, .cons a t => by
    rw [List.reverse_cons, List.reverse_cons]
    exact t.rev.app (.cons a .nil)
theorem daInts : ∀ {vs : List V} {ns : List Int}, DaAll K B vs (ns.map .int) → vs = ns.map .int
  | _, [], .nil => rfl
  | _, _ :: ns, .cons (.int _) t => by rw [daInts (ns := ns) t]; rfl
theorem daBools : ∀ {vs : List V} {bs : List Bool}, DaAll K B vs (bs.map .bool) → vs = bs.map .bl
  | _, [], .nil => rfl
  | _, _ :: bs, .cons (.bl _) t => by rw [daBools (bs := bs) t]; rfl
end
structure Gr (B H B' H' : Hp) : Prop where
  ex : Same H H'
  bb : Same B B'
  sub : Same B' H'
  new : ∀ a o, B' a = some o → B a = none → H a = none
section
variable {B H B1 H1 B2 H2 : Hp}
theorem Gr.refl (h : Same B H) : Gr B H B H := ⟨Same.refl _, Same.refl _, h, fun a o e n => by rw [n] at e; cases e⟩
theorem Gr.trans (g : Gr B H B1 H1) (k : Gr B1 H1 B2 H2) : Gr B H B2 H2 := ⟨g.ex.trans k.ex, g.bb.trans k.bb, k.sub, fun a o e n => by
  cases q : B1 a with
  | none => exact g.ex.free (k.new a o e q)
  | some u => exact g.new a u q n⟩
theorem same_new {p : Addr} {o : HO} (h : H p = none) : Same H (upd H p o) := fun b u q => by
  rw [upd_ne (ne_of_none q h)]
  exact q
theorem Gr.add (h : Same B H) {p : Addr} (hp : H p = none) (o : HO) : Gr B H (upd B p o) (upd H p o) :=
  ⟨same_new hp, same_new (h.free hp), fun a u e => by
    by_cases q : a = p
    · subst q
      rw [upd_same] at e ⊢
      exact e
    · rw [upd_ne q] at e ⊢
      exact h a u e, fun a u e n => by
    by_cases q : a = p
    · subst q
      exact hp
    · rw [upd_ne q, n] at e
      cases e⟩
theorem Gr.side (h : Same B H) {p : Addr} (hp : H p = none) (o : HO) : Gr B H B (upd H p o) :=
  ⟨same_new hp, Same.refl _, h.trans (same_new hp), fun a u e n => by rw [n] at e; cases e⟩
end
abbrev Rho := List (Option PyData)
structure EnvOk (K : PySem.W.Frag) (B : Hp) (σ : L2.St) (ρ : Rho) : Prop where
  len : σ.length = ρ.length
  look : ∀ (i : Nat) (d : PyData), ρ[i]? = some (some d) → ∃ v, σ[i]? = some (some v) ∧ Da K B v d
section
variable {K : PySem.W.Frag} {B B' : Hp} {σ : L2.St} {ρ : Rho}
theorem EnvOk.mono (e : Same B B') (h : EnvOk K B σ ρ) : EnvOk K B' σ ρ := ⟨h.len, fun i d q => by
  obtain ⟨v, h1, h2⟩ := h.look i d q
  exact ⟨v, h1, h2.mono e⟩⟩
theorem EnvOk.set (h : EnvOk K B σ ρ) {v : V} {d : PyData} (hv : Da K B v d) (i : Nat) : EnvOk K B (σ.set i (some v)) (ρ.set i (some d)) :=
  ⟨by rw [List.length_set, List.length_set]; exact h.len, fun j e q => by
    by_cases c : i = j
    · subst c
      have l : i < ρ.length := by
        have z := (List.getElem?_eq_some_iff.mp q).1
        rw [List.length_set] at z
        exact z
      rw [List.getElem?_set_self l] at q
      cases q
      exact ⟨v, by rw [List.getElem?_set_self (by rw [h.len]; exact l)], hv⟩
    · rw [List.getElem?_set_ne c] at q
      obtain ⟨w, h1, h2⟩ := h.look j e q
      exact ⟨w, by rw [List.getElem?_set_ne c]; exact h1, h2⟩⟩
theorem EnvOk.unset (h : EnvOk K B σ ρ) (i : Nat) : EnvOk K B (σ.set i none) (ρ.set i none) :=
  ⟨by rw [List.length_set, List.length_set]; exact h.len, fun j e q => by
    by_cases c : i = j
    · subst c
      have l : i < ρ.length := by
        have z := (List.getElem?_eq_some_iff.mp q).1
        rw [List.length_set] at z
        exact z
      rw [List.getElem?_set_self l] at q
      cases q
    · rw [List.getElem?_set_ne c] at q
      obtain ⟨w, h1, h2⟩ := h.look j e q
      exact ⟨w, by rw [List.getElem?_set_ne c]; exact h1, h2⟩⟩
end
def wipeR (ρ : Rho) : List Nat → Rho
  | [] => ρ
  | v :: vs => (wipeR ρ vs).set v none
theorem EnvOk.wiped {K : PySem.W.Frag} {B : Hp} {σ : L2.St} {ρ : Rho} (h : EnvOk K B σ ρ) : ∀ vs, EnvOk K B (wipe σ vs) (wipeR ρ vs)
  | [] => h
  | v :: vs => (h.wiped vs).unset v
def Ev (K : PySem.W.Frag) (te : TE) (ρ : Rho) (d : PyData) : Prop := ∀ σ B H, EnvOk K B σ ρ → Same B H → ∀ Q : VK, (∀ v B' H', Gr B H B' H' → Da K B' v d → Q v H') → te σ H Q
def Op2 (K : PySem.W.Frag) (r : R2) (x y z : PyData) : Prop := ∀ B H, Same B H → ∀ u v, Da K B u x → Da K B v y → ∀ Q : VK, (∀ w B' H', Gr B H B' H' → Da K B' w z → Q w H') → r u v H Q
def Fn (K : PySem.W.Frag) (r : List V → Hp → VK → Prop) (xs : List PyData) (z : PyData) : Prop := ∀ B H, Same B H → ∀ us, DaAll K B us xs → ∀ Q : VK, (∀ w B' H', Gr B H B' H' → Da K B' w z → Q w H') → r us H Q
section
variable {K : PySem.W.Frag} {ρ : Rho} {ta tb te tc : TE} {d x y z : PyData} {t u : TT} {r : R2}
theorem op_I0 {g : Int → Int → V} {i j : Int} (h : ∀ B, Da K B (g i j) z) : Op2 K (rI0 g) (.int i) (.int j) z := fun B H s u v hu hv Q q => by
  cases hu
  cases hv
  exact ⟨i, j, rfl, rfl, q _ B H (.refl s) (h B)⟩
theorem op_I {C : Int → Int → Prop} {g : Int → Int → V} {i j : Int} (hc : C i j) (h : ∀ B, Da K B (g i j) z) : Op2 K (rI C g) (.int i) (.int j) z := fun B H s u v hu hv Q q => by
  cases hu
  cases hv
  exact ⟨i, j, rfl, rfl, hc, q _ B H (.refl s) (h B)⟩
def rCatS (K : PySem.W.Frag) : R2 := fun x y H Q => ∃ l b xs zs, x = .ref l ∧ y = .ref b ∧ SqL K H l xs ∧ SqL K H b zs ∧ xs.length + zs.length ≤ sizeLine ∧ ∀ p, H p = none → Q (.ref p) (upd H p (.lst (xs ++ zs)))
theorem opp_cat {xs ys : List PyData} (hl : xs.length + ys.length ≤ sizeLine) : Op2 K (rCatS K) (.list xs) (.list ys) (.list (xs ++ ys)) := fun B H s u v hu hv Q q => by
  cases hu with
  | @lst a us _ h1 a1 =>
    cases hv with
    | @lst b vs _ h2 a2 =>
      refine ⟨_, _, _, _, rfl, rfl, same_l s h1, same_l s h2, by rw [a1.len, a2.len]; exact hl, fun p hp => ?_⟩
      have g := Gr.add s hp (.lst (us ++ vs))
      exact q _ _ _ g (.lst (.of upd_same) ((a1.app a2).mono g.bb))
theorem opp_eqD {x y : PyData} (hx : SeqAt.shaped x = true) (hy : SeqAt.shaped y = true) (hz : z = .bool (PyData.eqv x y)) : Op2 K (rEqD K) x y z := fun B H s u v hu hv Q q =>
  ⟨x, y, (hu.mono s).dp _ (nd_shaped hx), (hv.mono s).dp _ (nd_shaped hy), hx, hy, q _ B H (.refl s) (by rw [hz]; exact .bl _)⟩
theorem opp_neD {x y : PyData} (hx : SeqAt.shaped x = true) (hy : SeqAt.shaped y = true) (hz : z = .bool (!PyData.eqv x y)) : Op2 K (rNeD K) x y z := fun B H s u v hu hv Q q =>
  ⟨x, y, (hu.mono s).dp _ (nd_shaped hx), (hv.mono s).dp _ (nd_shaped hy), hx, hy, q _ B H (.refl s) (by rw [hz]; exact .bl _)⟩
theorem opp_eqS {a b : Str} (hz : z = .bool (decide (a = b))) : Op2 K rEq (.str a) (.str b) z := fun B H s u v hu hv Q q => by
  cases hu
  cases hv
  refine ⟨rfl, q _ B H (.refl s) ?_⟩
  rw [hz, show decide (V.str a = V.str b) = decide (a = b) from decide_eq_decide.mpr ⟨fun e => V.str.inj e, fun e => congrArg V.str e⟩]
  exact .bl _
theorem opp_neS {a b : Str} (hz : z = .bool (!decide (a = b))) : Op2 K rNe (.str a) (.str b) z := fun B H s u v hu hv Q q => by
  cases hu
  cases hv
  refine ⟨rfl, q _ B H (.refl s) ?_⟩
  rw [hz, show decide (V.str a = V.str b) = decide (a = b) from decide_eq_decide.mpr ⟨fun e => V.str.inj e, fun e => congrArg V.str e⟩]
  exact .bl _
theorem fn_repr (hs : d.showable = true) (hd : d.hasDict = false) (hp : d.depth ≤ 100) (hz : d.shown.length ≤ sizeLine) : Fn K (rRepr K) [d] (.str d.shown) := fun B H s us hu Q q => by
  cases hu with
  | cons h t =>
    cases t
    exact ⟨_, d, rfl, (h.mono s).dp _ hd, hs, hd, hp, hz, q _ B H (.refl s) (.str _)⟩
theorem fn_len {xs : List PyData} : Fn K (fun xs H Q => ∃ p ys, xs = [.ref p] ∧ (SqL K H p ys ∨ SqT K H p ys) ∧ Q (.int ys.length) H) [.list xs] (.int xs.length) := fun B H s us hu Q q => by
  cases hu with
  | cons h t =>
    cases t
    cases h with
    | lst h1 a1 => exact ⟨_, _, rfl, .inl (same_l s h1), q _ B H (.refl s) (by rw [a1.len]; exact .int _)⟩
end
end G
end
section
set_option maxRecDepth 100000
set_option maxHeartbeats 2000000
namespace G
open PySem PySem.Spec PyProof.Rows L2
def Do (K : PySem.W.Frag) (ts : TS) (ρ : Rho) (N : Rho → Prop) (R : PyData → Prop) : Prop := ∀ σ B H (D : Ends), EnvOk K B σ ρ → Same B H →
  (∀ σ' B' H' ρ', Gr B H B' H' → EnvOk K B' σ' ρ' → N ρ' → D.nx σ' H') → (∀ v B' H' d, Gr B H B' H' → Da K B' v d → R d → D.rt v H') → ts D σ H
section
variable {K : PySem.W.Frag} {ρ : Rho} {N M : Rho → Prop} {R : PyData → Prop} {te : TE} {t u : TS} {tt : TT} {d : PyData}
theorem Do.imp {N' : Rho → Prop} {R' : PyData → Prop} (h : Do K t ρ N R) (hn : ∀ ρ', N ρ' → N' ρ') (hr : ∀ d, R d → R' d) : Do K t ρ N' R' := fun σ B H D e s n r =>
  h σ B H D e s (fun σ' B' H' ρ' g e' m => n σ' B' H' ρ' g e' (hn _ m)) fun v B' H' d g hv m => r v B' H' d g hv (hr _ m)
def Goes (K : PySem.W.Frag) (J : It) (B : Hp) (es : List PyData) : Prop := Walk J es.length (fun H => Same B H) fun i H x H' => ∀ B0, Same B B0 → Same B0 H → ∃ B' e, Gr B0 H B' H' ∧ es[i]? = some e ∧ Da K B' x e
def Iter (K : PySem.W.Frag) (wi : TI) (ρ : Rho) (es : List PyData) : Prop := ∀ σ B H, EnvOk K B σ ρ → Same B H → ∀ R : It → Hp → Prop, (∀ J B1 H1, Gr B H B1 H1 → Goes K J B1 es → R J H1) → wi σ H R
theorem goes_at {J : It} {B : Hp} {xs : List V} {es : List PyData} {G : Hp → Prop} (w : Walk J xs.length G (YAt xs)) (hg : ∀ H, Same B H → G H) (a : DaAll K B xs es) : Goes K J B es := by
  have hl := a.len
  unfold Goes
  rw [← hl]
  refine w.mono hg fun i H x H' hi s y B0 s0 h0 => ?_
  obtain ⟨rfl, hx⟩ := y
  have he : es[i]? = some (es[i]'(by omega)) := List.getElem?_eq_getElem _
  obtain ⟨v, e1, e2⟩ := a.at he
  rw [hx] at e1
  cases e1
  exact ⟨B0, _, .refl h0, he, e2.mono s0⟩
def zipD (xs ys : List PyData) : List PyData := (xs.zip ys).map fun p => .tuple [p.1, p.2]
theorem zipD_len (xs ys : List PyData) : (zipD xs ys).length = min xs.length ys.length := by unfold zipD; simp
theorem goes_pair {J : It} {B : Hp} {xs ys : List V} {es fs : List PyData} {G : Hp → Prop} (w : Walk J (min xs.length ys.length) G (YPair (fun i => xs[i]?) fun i => ys[i]?)) (hg : ∀ H, Same B H → G H) (a : DaAll K B xs es) (b : DaAll K B ys fs) : Goes K J B (zipD es fs) := by
  have hl := a.len
  have hm := b.len
  unfold Goes
  rw [zipD_len, ← hl, ← hm]
  refine w.mono hg fun i H x H' hi s y B0 s0 h0 => ?_
  obtain ⟨T, p, q, rfl, hT, rfl, hp, hq⟩ := y
  have hx : i < es.length := by omega
  have hy : i < fs.length := by omega
  obtain ⟨v, e1, e2⟩ := a.at (List.getElem?_eq_getElem hx)
  obtain ⟨u, e3, e4⟩ := b.at (List.getElem?_eq_getElem hy)
  have hp' : xs[i]? = some p := hp
  have hq' : ys[i]? = some q := hq
  rw [e1] at hp'
  rw [e3] at hq'
  cases hp'
  cases hq'
  have g := Gr.add h0 hT (.tup [p, q])
  refine ⟨_, .tuple [es[i], fs[i]], g, ?_, .tup (.of upd_same) (.cons ((e2.mono s0).mono g.bb) (.cons ((e4.mono s0).mono g.bb) .nil))⟩
  unfold zipD
  rw [List.getElem?_map, (List.getElem?_zip_eq_some (z := (es[i], fs[i]))).mpr ⟨List.getElem?_eq_getElem hx, List.getElem?_eq_getElem hy⟩]
  rfl
def enumD (es : List PyData) : List PyData := es.zipIdx.map fun p => .tuple [.int p.2, p.1]
end
def sp (K : PySem.W.Frag) (P : List PyData → PyData → Prop) : Sp := fun vs H Q _ => ∃ B ds d, Same B H ∧ DaAll K B vs ds ∧ P ds d ∧ ∀ v B' H', Gr B H B' H' → Da K B' v d → Q v H'
end G
end
section
set_option maxRecDepth 100000
set_option maxHeartbeats 2000000
namespace G
open PySem PySem.Spec PyProof.Rows L2 HT
section
variable {prog : Program} {w : World} {A : Around} {E : Value → Shared → Prop} {s : Shared}
theorem back_parts {sl : Addr} {v : Value} {n : Nat} {Q : Int × Int × Nat → Shared → Prop} (hs : s.heap.IsSliceOf sl .none .none v) (pv : IsPart v (some (-1)))
    (h : Q ((n : Int) - 1, -1, n) s) : wpAny (model prog w) A (Builtin.Slice.sliceApplied (.ref sl) (pure (n : Int))) Q E s := by
  obtain ⟨os, hos, _, hds⟩ := id hs
  unfold Builtin.Slice.sliceApplied Builtin.Slice.sliceFields
  have e : Builtin.Slice.slicePlaces ((n : Int) - 1) (-1) (-1) = n := by
    unfold Builtin.Slice.slicePlaces
    rw [if_neg (by decide)]
    by_cases c : (n : Int) - 1 > -1
    · rw [if_pos c, show (- -1 : Int) = 1 by decide, Int.ediv_one]
      omega
    · rw [if_neg c]
      omega
  refine wpAny_bind (wpAny_bind (wpAny_field hos hds (x := .none) rfl (wpAny_bind (wpAny_field hos hds (x := .none) rfl (wpAny_bind (wpAny_field hos hds (x := v) rfl (wpAny_pure ?_)))))))
  refine wpAny_bind (slicePart_ pv ?_)
  show wpAny _ _ (if ((-1 : Int) == 0) = true then _ else _) _ _ s
  rw [if_neg (by decide)]
  refine wpAny_bind (slicePart_ .none (wpAny_bind (slicePart_ .none (wpAny_bind (wpAny_pure ?_)))))
  show wpAny _ _ (pure ((n : Int) - 1, (-1 : Int), Builtin.Slice.slicePlaces ((n : Int) - 1) (-1) (-1))) _ _ s
  rw [e]
  exact wpAny_pure h
theorem fm_map {α β : Type} {f : α → Option β} {g : α → β} : ∀ (l : List α), (∀ x ∈ l, f x = some (g x)) → l.filterMap f = l.map g
  | [], _ => rfl
  | x :: l, h => by
    rw [List.filterMap_cons, h x (List.mem_cons_self ..), List.map_cons, fm_map l fun y hy => h y (List.mem_cons_of_mem _ hy)]
theorem back_pick (xs : Array Value) : ((List.range xs.size).filterMap fun (k : Nat) => xs[((xs.size : Int) - 1 + (k : Int) * -1).toNat]?).toArray = xs.toList.reverse.toArray := by
  refine congrArg List.toArray ?_
  apply List.ext_getElem?
  intro i
  by_cases hi : i < xs.size
  · have e1 : xs.toList.reverse[i]? = some xs[xs.size - 1 - i] := by
      rw [List.getElem?_reverse (by simpa using hi)]
      simp only [Array.length_toList, Array.getElem?_toList]
      exact Array.getElem?_eq_getElem _
    rw [e1]
    have e2 : ∀ n, n ≤ xs.size → (List.range n).filterMap (fun (k : Nat) => xs[((xs.size : Int) - 1 + (k : Int) * -1).toNat]?) = (List.range n).map fun k => xs.getD (xs.size - 1 - k) default := by
      intro n hn
      refine fm_map _ fun k hk => ?_
      have hk' := List.mem_range.mp hk
      have e3 : ((xs.size : Int) - 1 + (k : Int) * -1).toNat = xs.size - 1 - k := by omega
      rw [e3]
      have h4 : xs.size - 1 - k < xs.size := by omega
      rw [Array.getElem?_eq_getElem h4]
      simp [Array.getD, h4]
    rw [e2 _ (Nat.le_refl _), List.getElem?_map, List.getElem?_range hi]
    have h4 : xs.size - 1 - i < xs.size := by omega
    simp [Array.getD, h4]
  · have e1 : xs.toList.reverse[i]? = none := List.getElem?_eq_none_iff.mpr (by simp; omega)
    rw [e1, List.getElem?_eq_none_iff]
    refine Nat.le_trans (List.length_filterMap_le _ _) ?_
    rw [List.length_range]
    omega
theorem item_back {t sl : Addr} {items : Array Value} {v : Value} {Q : Value → Shared → Prop} (ht : IsTup s.heap t items) (hs : s.heap.IsSliceOf sl .none .none v) (pv : IsPart v (some (-1)))
    (h : Q (.ref s.heap.objs.size) { s with heap := s.heap.push { cls := .type "tuple", data := .seq items.toList.reverse.toArray } })
    (hsz : items.size ≤ sizeLine) : wpAny (model prog w) A (getItem (.ref t) (.ref sl)) Q E s := by
  have ok : sizeOk (.seq items.toList.reverse.toArray) := by
    show items.toList.reverse.toArray.size ≤ sizeLine
    rw [List.size_toArray, List.length_reverse, Array.length_toList]
    exact hsz
  obtain ⟨os, hos, hcs, hds⟩ := id hs
  have isS : s.TypeIs (.ref sl) "slice" := ⟨os, hos, hcs⟩
  unfold getItem
  try with_reducible refine wpAny_holding ?_
  first | refine wpAny_bind (wpAny_pure ?_) | skip
  refine wpAny_bind (wpAny_sequenceKey ht.typeIs (by decide) ?_)
  refine wpAny_bind (wpAny_callSpecial?_slot (name := Str.ofString "__getitem__") ht.typeIs PyProof.Rows.slot_tuple_getitem
    (wpAny_call_entry PyProof.Rows.slot_tuple_getitem ht.typeIs entry_tuple_getitem ?_ (args_tuple_getitem _ _)))
  show wpAny _ _ (Builtin.Tuple.tupleItemsOf (.ref t) >>= _) _ _ s
  refine wpAny_bind (tupleItemsOf_ ht (wpAny_bind (wpAny_typeOf isS ?_)))
  rw [if_pos (by decide)]
  refine wpAny_bind (back_parts hs pv ?_)
  show wpAny _ _ (if ((items.size : Int) - 1 == 0 && (-1 : Int) == 1 && items.size == items.size) = true then _ else _) _ _ s
  rw [if_neg (by simp), back_pick]
  first
    | exact wpAny_bind (m := Builtin.Tuple.tupleExact _) (wpAny_newObj_type (wpAny_pure ⟨_, rfl, wpAny_pure h⟩) ok)
    | exact wpAny_bind (m := Builtin.Tuple.tupleExact _) (wpAny_newObj_type (wpAny_bind (wpAny_pure (wpAny_pure ⟨_, rfl, wpAny_pure h⟩))) ok)
end
def tRevT (K : PySem.W.Frag) (te : TE) : TE := fun σ H Q => te σ H fun x H1 => ∃ a xs, x = .ref a ∧ SqT K H1 a xs ∧ ∀ p, H1 p = none → Q (.ref p) (upd H1 p (.tup xs.reverse))
theorem pe_revT {X : Cx} {e : Expr} {te : TE} {k : Nat} {p1 p2 p3 pos : Pos} (he : PE X e te) :
    PE X (.Subscript e (.Slice none none (some (.UnaryOp .USub (.Constant (.int 1) k p1) p2)) p3) pos) (tRevT X.K te) := by
  refine ⟨fun pins s σ H Q I h => Subscript_ (thn (he.run pins s σ H _ I h) ?_)⟩
  rintro v s1 ⟨x, H1, I1, r1, a, xs, rfl, hx, q⟩
  cases r1
  have hst : PO X (some (.UnaryOp .USub (.Constant (.int 1) k p1) p2)) (tPart (tUn (rU fun i => .int (-i)) (tC (.int 1)))) := po_some (pe_un un_neg pe_int)
  refine wpAny_Slice (thn (po_none.run pins s1 σ H1 (fun o H2 => o = none ∧ H2 = H1) I1 ⟨rfl, rfl⟩) ?_)
  rintro vl s2 ⟨l, H2, I2, pl, rfl, rfl⟩
  refine thn (po_none.run pins s2 σ H2 (fun o H3 => o = none ∧ H3 = H2) I2 ⟨rfl, rfl⟩) ?_
  rintro vu s3 ⟨u, H3, I3, pu, rfl, rfl⟩
  refine thn (hst.run pins s3 σ H3 (fun o H4 => o = some (-1) ∧ H4 = H3) I3 ⟨1, rfl, -1, rfl, rfl, rfl⟩) ?_
  rintro vs s4 ⟨o, H4, I4, ps, rfl, rfl⟩
  cases pl
  cases pu
  have I5 : Inv X pins σ H4 { s4 with heap := s4.heap.push { cls := .type "slice", data := .fields #[.none, .none, vs] } } :=
    I4.kept (t' := s4.toks) fun b ob q => Heap.get?_push_of_some _ q
  obtain ⟨its, r, ht, hz⟩ := I5.tuple hx
  have hlen := r.length
  refine tail_any (ops := [.ref a, .ref s4.heap.objs.size]) ht.typeIs (PyProof.Rows.slot_tuple_getitem.lookup) ?_ (by with_unfolding_all rfl)
  refine item_back ht (Heap.IsSliceOf.new _ .none .none vs) ps ?_ (by rw [List.size_toArray, ← hlen]; exact hz)
  refine ⟨.ref _, _, I5.laid (t' := s4.toks) (o := .tup xs.reverse) (fun b ob q => Heap.get?_push_of_some _ q) (Nat.le_refl _) ?_, rfl, q _ (I5.hok.fresh (Nat.le_refl _))⟩
  exact ⟨by rw [List.length_reverse]; exact hz, _, r.reverse, IsTup.new _ _⟩
end G
end
section
set_option maxRecDepth 100000
set_option maxHeartbeats 2000000
namespace G
open PySem PySem.Spec PyProof.Rows L2
def orR (r r' : R2) : R2 := fun x y H Q => r x y H Q ∨ r' x y H Q
def orC (r r' : List V → Hp → VK → Prop) : List V → Hp → VK → Prop := fun xs H Q => r xs H Q ∨ r' xs H Q
def orI (w w' : TI) : TI := fun σ H R => w σ H R ∨ w' σ H R
section
variable {X : Cx}
theorem opr_or {f : Value → Value → Sem Value} {r r' : R2} (h : OpR X f r) (h' : OpR X f r') : OpR X f (orR r r') := OpR.or h h'
theorem ixr_or {r r' : R2} (h : IxR X r) (h' : IxR X r') : IxR X (orR r r') := IxR.or h h'
theorem callr_or {f : Value} {r r' : List V → Hp → VK → Prop} (h : CallR X f r) (h' : CallR X f r') : CallR X f (orC r r') := fun pins s σ H xs us Q I rv q => by
  rcases q with q | q
  · exact h pins s σ H xs us Q I rv q
  · exact h' pins s σ H xs us Q I rv q
theorem pi_or {tg e : Expr} {w w' : TI} (h : PI X tg e w) (h' : PI X tg e w') : PI X tg e (orI w w') := ⟨fun pins s σ H R I q => by
  rcases q with q | q
  · exact h.run pins s σ H R I q
  · exact h'.run pins s σ H R I q⟩
end
section
variable {K : PySem.W.Frag} {ρ : Rho} {x y z : PyData} {r r' : R2}
theorem opp_1 (h : Op2 K r x y z) : Op2 K (orR r r') x y z := fun B H s u v hu hv Q q => .inl (h B H s u v hu hv Q q)
theorem opp_2 (h : Op2 K r' x y z) : Op2 K (orR r r') x y z := fun B H s u v hu hv Q q => .inr (h B H s u v hu hv Q q)
theorem fn_1 {c c' : List V → Hp → VK → Prop} {ds : List PyData} (h : Fn K c ds z) : Fn K (orC c c') ds z := fun B H s us hu Q q => .inl (h B H s us hu Q q)
theorem fn_2 {c c' : List V → Hp → VK → Prop} {ds : List PyData} (h : Fn K c' ds z) : Fn K (orC c c') ds z := fun B H s us hu Q q => .inr (h B H s us hu Q q)
end
section
variable {X : Cx}
theorem op_catS : OpR X (binaryOp .Add) (rCatS X.K) := by
  intro pins s σ H x y v u Q I rx ry h
  obtain ⟨l, b, xs, zs, rfl, rfl, hH, hB, hz, q⟩ := h
  cases rx
  cases ry
  obtain ⟨its, r, ⟨⟨cls, dd, data, sl⟩, n, ho, hc, _, hd⟩, _⟩ := I.list hH
  obtain ⟨its2, r2, ⟨⟨cls2, dd2, data2, sl2⟩, n2, ho2, hc2, _, hd2⟩, _⟩ := I.list hB
  simp only at hc hd hc2 hd2
  subst hc hd hc2 hd2
  have e : its.toArray ++ its2.toArray = (its ++ its2).toArray := by simp
  have l1 := r.length
  have l2 := r2.length
  refine concat_meets ⟨_, ho, rfl⟩ ⟨_, ho2, rfl⟩ noFill_list_add seq_list_add PySem.F.slot_list_add PySem.F.entry_list_add (PySem.F.args_list_add_2 _ _) (list_addW l b its.toArray its2.toArray n n2 dd dd2 sl sl2 (by rw [List.size_toArray, List.size_toArray]; omega)) ⟨ho, ho2, ?_⟩
  rw [e]
  exact ⟨.ref _, _, I.lnew (t' := s.toks) (r.append r2) (by rw [List.length_append]; omega), rfl, q _ I.fresh⟩
abbrev rAddA (K : PySem.W.Frag) : R2 := orR (rI0 fun i j => .int (i + j)) (orR (rCatS K) (rCatA K))
theorem op_addA : OpR X (binaryOp .Add) (rAddA X.K) := opr_or op_add (opr_or op_catS op_catA)
abbrev rMulA : R2 := orR (rI CMulW fun i j => .int (i * j)) rRep
theorem op_mulA : OpR X (binaryOp .Mult) rMulA := opr_or op_mulW op_rep
abbrev rIxA (K : PySem.W.Frag) : R2 := orR (rIxL K) (rIxT K)
theorem ix_A : IxR X (rIxA X.K) := ixr_or ix_list ix_tup
end
def Kq (K : PySem.W.Frag) (f : Addr) (fd : FuncData) : Prop := PySem.W.keepIn K (.ref f) = true ∧ ∃ o, K.lookup f = some o ∧ o.data = .func fd
theorem kq_of {K : PySem.W.Frag} {x qual : Str} {st : Stmt} {f : Addr} {fd : FuncData} (F : Fun K x qual st f fd) : Kq K f fd := by
  obtain ⟨oc, od, kV, doc, pm, an, cdv, ct, osl, _, lk, _⟩ := F.ex
  exact ⟨F.kp, _, lk, rfl⟩
structure Cal (P : Program) (w : World) (K : PySem.W.Frag) (mg : Str → Option Value) (base : Heap) (k : Nat) (x : Str) (ps : List Str) (sp : Sp) : Prop where
  ex : ∃ (f : Addr) (fd : FuncData), mg x = some (.ref f) ∧ Kq K f fd ∧ L2.Binds K fd ps [] ∧ FnG P w K mg base CX0 k f fd ps sp
section
variable {X : Cx} {k j : Nat} {ps : List Str} {q : Sp} {x : Str} {p pos : Pos} {e : Expr} {es : List Expr} {t : TA}
theorem pg_cal (hg : X.A.guards = some []) (c : Cal X.prog X.w X.K X.mg X.base j x ps q) (hr : Room k X.A) (hgl : Gl X x) (ha : PA X (e :: es) t) (hj : j ≤ k := by decide)
    (hdb : (x == ("__debug__" : Str)) = false := by decide) (he : starEach (e :: es) X.env = (false, eval e X.env) :: starEach es X.env := by rfl)
    (hpl : (backTo pos (starEach es X.env)).any (·.1) = false := by rfl) : PE X (.Call (.Name x p) (e :: es) [] pos) (tCall q [] E0 t) := by
  obtain ⟨f, fd, hm, hk, hb, F⟩ := c.ex
  exact pg_call hg F (hr.mono hj) hgl hm hk.1 hb .nil pass0 ha hdb he hpl
structure CalK (P : Program) (w : World) (K : PySem.W.Frag) (mg : Str → Option Value) (base : Heap) (k : Nat) (x : Str) (ps ks : List Str) (gV : List V → List V → List V) (sp : Sp) : Prop where
  ex : ∃ (f : Addr) (fd : FuncData) (g : List Value → List Value → List Value), mg x = some (.ref f) ∧ PySem.W.keepIn K (.ref f) = true ∧ KBinds K fd ps ks g gV ∧ FnG P w K mg base CX0 k f fd ps sp
theorem pg_calK {ks : List Str} {gV : List V → List V → List V} {kws : List Keyword} {tk : TA} (hg : X.A.guards = some []) (c : CalK X.prog X.w X.K X.mg X.base j x ps ks gV q) (hr : Room k X.A) (hgl : Gl X x) (hkw : PK X kws tk) (hj : j ≤ k := by decide)
    (hall : (backToKw pos (keywordEach kws X.env)).all (·.1.isSome) = true := by rfl)
    (hks : (backToKw pos (keywordEach kws X.env)).filterMap (·.1) = ks := by rfl)
    (hdb : (x == ("__debug__" : Str)) = false := by decide)
    (hpl : ((backTo pos (starEach [] X.env)).any (·.1) || (backToKw pos (keywordEach kws X.env)).any (·.1.isNone)) = false := by rfl) :
    PE X (.Call (.Name x p) [] kws pos) (tCallK q gV E0 tNil tk) := by
  obtain ⟨f, fd, g, hm, hk, hb, F⟩ := c.ex
  exact pg_callK0 hg F (hr.mono hj) hgl hm hk hb pass0 hkw hall hks hdb hpl
end
end G
end
section
set_option maxRecDepth 100000
set_option maxHeartbeats 2000000
namespace G
open PySem PySem.Spec PyProof.Rows L2
structure Nx (i l : Addr) (xs : Array Value) (S : Heap → Nat → Prop) : Prop where
  stay : ∀ {h h' : Heap} {k : Nat}, S h k → (∀ o, h.get? i = some o → h'.get? i = some o) → (∀ o, h.get? l = some o → h'.get? l = some o) → S h' k
  some_ : ∀ {h : Heap} {k : Nat}, S h k → ∃ o, h.get? i = some o ∧ ∀ v, o.data ≠ .cell v
  item : ∀ {prog : Program} {w : World} {A : Around} {E : Value → Shared → Prop} {s : Shared} {k : Nat} {x : Value} {Q : Value → Shared → Prop}, S s.heap k → xs[k]? = some x →
    (∀ h', S h' (k + 1) → Heap.SameBut i s.heap h' → Q x { s with heap := h' }) → wpAny (model prog w) A (Builtin.SmallTypes.nextOf (.ref i)) Q E s
  done : ∀ {prog : Program} {w : World} {A : Around} {E : Value → Shared → Prop} {s : Shared} {k : Nat} {Q : Value → Shared → Prop}, A.handled = none → S s.heap k → xs[k]? = none →
    (∀ h' e, Heap.ExtBut i s.heap h' → (∃ o, h'.get? e = some o ∧ o.cls = .type "StopIteration") → E (.ref e) { s with heap := h' }) → wpAny (model prog w) A (Builtin.SmallTypes.nextOf (.ref i)) Q E s
theorem nx_list {i l : Addr} {xs : Array Value} (hil : i ≠ l) : Nx i l xs fun h k => h.IsListIter i l k ∧ h.IsList l xs where
  stay := fun h a b => ⟨h.1.at a, h.2.at b⟩
  some_ := fun ⟨⟨o, e, _, d⟩, _⟩ => ⟨o, e, fun v q => by rw [d] at q; cases q⟩
  item := fun h hx q => wpAny_nextOf_list_item h.1 h.2 hx fun h' a b => q h' ⟨a, h.2.at fun o e => b.extBut _ _ (Ne.symm hil) e⟩ b
  done := fun hh h hx q => wpAny_nextOf_list_end hh h.1 h.2 hx q
theorem nx_tup {i l : Addr} {xs : Array Value} (hil : i ≠ l) : Nx i l xs fun h k => h.IsTupleIter i l k ∧ h.IsTuple l xs where
  stay := fun h a b => ⟨h.1.at a, let ⟨o, e, r⟩ := h.2; ⟨o, b o e, r⟩⟩
  some_ := fun ⟨⟨o, e, _, d⟩, _⟩ => ⟨o, e, fun v q => by rw [d] at q; cases q⟩
  item := fun h hx q => RZ.nextOf_tuple_item h.1 h.2 hx fun h' a b => q h' ⟨a, let ⟨o, e, r⟩ := h.2; ⟨o, b.extBut _ _ (Ne.symm hil) e, r⟩⟩ b
  done := fun hh h hx q => RZ.nextOf_tuple_end hh h.1 h.2 hx q
section
variable {prog : Program} {w : World} {A : Around} {E : Value → Shared → Prop} {s : Shared} {z T1 T2 i j l m : Addr} {xs ys : Array Value} {S U : Heap → Nat → Prop} {k n : Nat} {a b : Value}
theorem zipM_item {x y : Value} {Q : Value → Shared → Prop} (X : Nx i l xs S) (Y : Nx j m ys U) (D : ZipApart z T1 T2 i j l m)
    (hz : IsZip s.heap z T1 T2 .none) (h1 : IsPair s.heap T1 (.ref i) (.ref j)) (h2 : IsPair s.heap T2 a b) (hS : S s.heap k) (hU : U s.heap n) (hx : xs[k]? = some x) (hy : ys[n]? = some y)
    (hQ : ∀ h', IsZip h' z T1 T2 (rawInt s.heap.objs.size) → IsPair h' T2 x y → S h' (k + 1) → U h' (n + 1) → IsPair h' s.heap.objs.size x y → h'.objs.size = s.heap.objs.size + 1 →
      (∀ c o, c ≠ z → c ≠ T2 → c ≠ i → c ≠ j → s.heap.get? c = some o → h'.get? c = some o) → Q (.ref s.heap.objs.size) { s with heap := h' }) :
    wpAny (model prog w) A (Builtin.«zip.__next__» ⟨[.ref z], []⟩) (fun fin s' => ∃ v, fin = .done (.ret v) ∧ Q v s') E s := by
  show wpAny _ _ (field (.ref z) 2 >>= _) _ _ _
  refine wpAny_bind (wpAny_field hz rfl (x := .bool false) rfl ?_); show wpAny _ _ (field (.ref z) 3 >>= _) _ _ _
  refine wpAny_bind (wpAny_field hz rfl (x := .ref T1) rfl (wpAny_bind (wpAny_seqItems h1 rfl ?_)))
  show wpAny _ _ (Builtin.SmallTypes.ownedTupleIsFree (.ref z) >>= _) _ _ _; refine wpAny_bind ?_
  unfold Builtin.SmallTypes.ownedTupleIsFree
  refine wpAny_bind (wpAny_field hz rfl (x := .none) rfl (wpAny_pure ?_)); simp only [if_true]
  refine wpAny_bind (wpAny_rule (wpAny_bind (wpAny_field hz rfl (x := .ref T2) rfl (wpAny_bind (wpAny_setField_rec hz (by simp) fun g1 z1 s1 => ?_)))))
  replace z1 : IsZip g1 z T1 T2 .ellipsis := z1
  refine wpAny_bind ?_; simp only [List.zipIdx_cons, List.zipIdx_nil, List.forIn_cons, List.forIn_nil]
  refine wpAny_bind (wpAny_bind (wpAny_onRaise ?_)); show wpAny _ _ (Builtin.SmallTypes.nextOf (.ref i) >>= _) _ _ _
  have e1 := s1.extBut
  refine wpAny_bind (X.item (X.stay hS (fun o => e1 _ o D.i1z) (fun o => e1 _ o D.l1z)) hx fun g2 S2 s2 => wpAny_pure ?_)
  have e2 := s2.extBut
  have p2 : IsPair g2 T2 a b := e2 _ _ D.TOi1 (e1 _ _ D.TOz h2)
  refine wpAny_bind (wpAny_seqItems p2 rfl (wpAny_bind (wpAny_updateSeq_pair p2 fun g3 p3 s3 => ?_)))
  replace p3 : IsPair g3 T2 x b := p3
  have e3 := s3.extBut
  refine wpAny_bind (wpAny_letGo (wpAny_pure (wpAny_bind (wpAny_bind (wpAny_onRaise ?_))))); show wpAny _ _ (Builtin.SmallTypes.nextOf (.ref j) >>= _) _ _ _
  have up3 : ∀ c o, c ≠ z → c ≠ i → c ≠ T2 → s.heap.get? c = some o → g3.get? c = some o := fun c o c1 c2 c3 e => e3 _ _ c3 (e2 _ _ c2 (e1 _ _ c1 e))
  refine wpAny_bind (Y.item (Y.stay hU (fun o => up3 _ o D.i2z D.i12.symm D.TOi2.symm) (fun o => up3 _ o D.l2z D.l2i1 D.l2TO)) hy fun g4 U4 s4 => wpAny_pure ?_)
  have e4 := s4.extBut
  have p4 : IsPair g4 T2 x b := e4 _ _ D.TOi2 p3
  refine wpAny_bind (wpAny_seqItems p4 rfl (wpAny_bind (wpAny_updateSeq_pair p4 fun g5 p5 s5 => ?_)))
  replace p5 : IsPair g5 T2 x y := p5
  have e5 := s5.extBut
  refine wpAny_bind (wpAny_letGo (wpAny_pure (wpAny_pure (wpAny_bind (wpAny_seqItems p5 rfl (wpAny_bind (wpAny_newTuple ?_)))))))
  have sz : g5.objs.size = s.heap.objs.size := by rw [s5.1, s4.1, s3.1, s2.1, s1.1]
  have z5 : IsZip g5 z T1 T2 .ellipsis := e5 _ _ D.TOz.symm (e4 _ _ D.i2z.symm (e3 _ _ D.TOz.symm (e2 _ _ D.i1z.symm z1)))
  have k5 : ∀ c o, c ≠ z → c ≠ T2 → c ≠ i → c ≠ j → s.heap.get? c = some o → g5.get? c = some o := fun c o c1 c2 c3 c4 e => e5 _ _ c2 (e4 _ _ c4 (up3 _ _ c1 c3 c2 e))
  have zl : z < g5.objs.size := Heap.lt_size z5
  show wpAny _ _ (Builtin.SmallTypes.ownedTupleHandOut (.ref z) (.ref g5.objs.size) >>= _) _ _ _; refine wpAny_bind ?_
  unfold Builtin.SmallTypes.ownedTupleHandOut
  refine wpAny_bind (wpAny_setField_rec (show IsZip (g5.push { cls := .type "tuple", data := .seq #[x, y] }) z T1 T2 .ellipsis from Heap.get?_push_of_some _ z5) (by simp) fun g7 z7 s7 => ?_)
  replace z7 : IsZip g7 z T1 T2 (rawInt g5.objs.size) := z7
  refine wpAny_setField_rec z7 (by simp) fun g8 z8 s8 => ?_
  replace z8 : IsZip g8 z T1 T2 (rawInt g5.objs.size) := z8
  have up8 : ∀ c o, c ≠ z → g5.get? c = some o → g8.get? c = some o := fun c o c1 e => s8.extBut _ _ c1 (s7.extBut _ _ c1 (Heap.get?_push_of_some _ e))
  have t8 : IsPair g8 g5.objs.size x y := s8.extBut _ _ (Nat.ne_of_gt zl) (s7.extBut _ _ (Nat.ne_of_gt zl) (Heap.get?_push_size _ rfl))
  have n8 : g8.objs.size = g5.objs.size + 1 := by rw [s8.1, s7.1, Heap.size_push]
  rw [sz] at z8 t8 n8
  refine wpAny_pure ⟨_, rfl, ?_⟩; show Q (.ref g5.objs.size) _
  rw [sz]
  refine hQ g8 z8 (up8 _ _ D.TOz p5) ?_ ?_ t8 n8 fun c o c1 c2 c3 c4 e => up8 c o c1 (k5 c o c1 c2 c3 c4 e)
  · exact X.stay S2 (fun o e => up8 _ o D.i1z (e5 _ _ D.TOi1.symm (e4 _ _ D.i12 (e3 _ _ D.TOi1.symm e)))) fun o e => up8 _ o D.l1z (e5 _ _ D.l1TO (e4 _ _ D.l1i2 (e3 _ _ D.l1TO e)))
  · exact Y.stay U4 (fun o e => up8 _ o D.i2z (e5 _ _ D.TOi2.symm e)) fun o e => up8 _ o D.l2z (e5 _ _ D.l2TO e)
theorem zipM_end {Q : Fin → Shared → Prop} (hh : A.handled = none) (X : Nx i l xs S) (Y : Nx j m ys U) (D : ZipApart z T1 T2 i j l m)
    (hz : IsZip s.heap z T1 T2 .none) (h1 : IsPair s.heap T1 (.ref i) (.ref j)) (h2 : IsPair s.heap T2 a b) (hS : S s.heap k) (hU : U s.heap n) (he : xs[k]? = none ∨ ys[n]? = none)
    (hE : ∀ h' e, (∀ c o, c ≠ z → c ≠ T2 → c ≠ i → c ≠ j → s.heap.get? c = some o → h'.get? c = some o) → (∃ o, h'.get? e = some o ∧ o.cls = .type "StopIteration") → E (.ref e) { s with heap := h' }) :
    wpAny (model prog w) A (Builtin.«zip.__next__» ⟨[.ref z], []⟩) Q E s := by
  show wpAny _ _ (field (.ref z) 2 >>= _) _ _ _
  refine wpAny_bind (wpAny_field hz rfl (x := .bool false) rfl ?_); show wpAny _ _ (field (.ref z) 3 >>= _) _ _ _
  refine wpAny_bind (wpAny_field hz rfl (x := .ref T1) rfl (wpAny_bind (wpAny_seqItems h1 rfl ?_)))
  show wpAny _ _ (Builtin.SmallTypes.ownedTupleIsFree (.ref z) >>= _) _ _ _; refine wpAny_bind ?_
  unfold Builtin.SmallTypes.ownedTupleIsFree
  refine wpAny_bind (wpAny_field hz rfl (x := .none) rfl (wpAny_pure ?_)); simp only [if_true]
  refine wpAny_bind (wpAny_rule (wpAny_bind (wpAny_field hz rfl (x := .ref T2) rfl (wpAny_bind (wpAny_setField_rec hz (by simp) fun g1 z1 s1 => ?_)))))
  replace z1 : IsZip g1 z T1 T2 .ellipsis := z1
  have e1 := s1.extBut
  refine wpAny_bind ?_; simp only [List.zipIdx_cons, List.zipIdx_nil, List.forIn_cons, List.forIn_nil]
  refine wpAny_bind (wpAny_bind (wpAny_onRaise ?_)); show wpAny _ _ (Builtin.SmallTypes.nextOf (.ref i) >>= _) _ _ _
  cases hx : xs[k]? with
  | none =>
    refine wpAny_bind (X.done hh (X.stay hS (fun o => e1 _ o D.i1z) (fun o => e1 _ o D.l1z)) hx fun g2 e e2 he2 => ?_)
    obtain ⟨oe, hoe, hce⟩ := he2
    have z2 : IsZip g2 z T1 T2 .ellipsis := e2 _ _ D.i1z.symm z1
    have ne : e ≠ z := fun q => by subst q; rw [z2] at hoe; cases hoe; simp at hce
    refine wpAny_setField_rec z2 (by simp) fun g3 _ s3 => hE g3 e (fun c o c1 _ c3 _ q => s3.extBut _ _ c1 (e2 _ _ c3 (e1 _ _ c1 q))) ⟨oe, s3.extBut _ _ ne hoe, hce⟩
  | some x =>
    have hy : ys[n]? = none := by
      rcases he with q | q
      · rw [hx] at q; cases q
      · exact q
    refine wpAny_bind (X.item (X.stay hS (fun o => e1 _ o D.i1z) (fun o => e1 _ o D.l1z)) hx fun g2 S2 s2 => wpAny_pure ?_)
    have e2 := s2.extBut
    have p2 : IsPair g2 T2 a b := e2 _ _ D.TOi1 (e1 _ _ D.TOz h2)
    refine wpAny_bind (wpAny_seqItems p2 rfl (wpAny_bind (wpAny_updateSeq_pair p2 fun g3 p3 s3 => ?_)))
    have e3 := s3.extBut
    refine wpAny_bind (wpAny_letGo (wpAny_pure (wpAny_bind (wpAny_bind (wpAny_onRaise ?_))))); show wpAny _ _ (Builtin.SmallTypes.nextOf (.ref j) >>= _) _ _ _
    have up3 : ∀ c o, c ≠ z → c ≠ i → c ≠ T2 → s.heap.get? c = some o → g3.get? c = some o := fun c o c1 c2 c3 e => e3 _ _ c3 (e2 _ _ c2 (e1 _ _ c1 e))
    refine wpAny_bind (Y.done hh (Y.stay hU (fun o => up3 _ o D.i2z D.i12.symm D.TOi2.symm) (fun o => up3 _ o D.l2z D.l2i1 D.l2TO)) hy fun g4 e e4 he4 => ?_)
    obtain ⟨oe, hoe, hce⟩ := he4
    have z4 : IsZip g4 z T1 T2 .ellipsis := e4 _ _ D.i2z.symm (e3 _ _ D.TOz.symm (e2 _ _ D.i1z.symm z1))
    have ne : e ≠ z := fun q => by subst q; rw [z4] at hoe; cases hoe; simp at hce
    refine wpAny_setField_rec z4 (by simp) fun g5 _ s5 => hE g5 e (fun c o c1 c2 c3 c4 q => s5.extBut _ _ c1 (e4 _ _ c4 (up3 _ _ c1 c3 c2 q))) ⟨oe, s5.extBut _ _ ne hoe, hce⟩
theorem nextM_item {x y : Value} {Q : Option Value → Shared → Prop} (X : Nx i l xs S) (Y : Nx j m ys U) (D : ZipApart z T1 T2 i j l m)
    (hz : IsZip s.heap z T1 T2 .none) (h1 : IsPair s.heap T1 (.ref i) (.ref j)) (h2 : IsPair s.heap T2 a b) (hS : S s.heap k) (hU : U s.heap n) (hx : xs[k]? = some x) (hy : ys[n]? = some y)
    (hQ : ∀ h', IsZip h' z T1 T2 (rawInt s.heap.objs.size) → IsPair h' T2 x y → S h' (k + 1) → U h' (n + 1) → IsPair h' s.heap.objs.size x y → h'.objs.size = s.heap.objs.size + 1 →
      (∀ c o, c ≠ z → c ≠ T2 → c ≠ i → c ≠ j → s.heap.get? c = some o → h'.get? c = some o) → Q (some (.ref s.heap.objs.size)) { s with heap := h' }) :
    wpAny (model prog w) A (pyNext (.ref z)) Q E s := by
  have isZ : s.TypeIs (.ref z) "zip" := ⟨_, hz, rfl⟩
  unfold pyNext
  refine wpAny_bind (wpAny_attempt (wpAny_callSpecial?_slot (name := Str.ofString "__next__") isZ F.slot_zip_next (wpAny_call_entry F.slot_zip_next isZ F.entry_zip_next ?_ (F.args_zip_next_1 _))))
  exact zipM_item X Y D hz h1 h2 hS hU hx hy fun h' b1 b2 b3 b4 b5 b6 b7 => wpAny_pure (hQ h' b1 b2 b3 b4 b5 b6 b7)
theorem nextM_end {Q : Option Value → Shared → Prop} (hh : A.handled = none) (X : Nx i l xs S) (Y : Nx j m ys U) (D : ZipApart z T1 T2 i j l m)
    (hz : IsZip s.heap z T1 T2 .none) (h1 : IsPair s.heap T1 (.ref i) (.ref j)) (h2 : IsPair s.heap T2 a b) (hS : S s.heap k) (hU : U s.heap n) (he : xs[k]? = none ∨ ys[n]? = none)
    (hQ : ∀ h', (∀ c o, c ≠ z → c ≠ T2 → c ≠ i → c ≠ j → s.heap.get? c = some o → h'.get? c = some o) → Q none { s with heap := h' }) : wpAny (model prog w) A (pyNext (.ref z)) Q E s := by
  have isZ : s.TypeIs (.ref z) "zip" := ⟨_, hz, rfl⟩
  unfold pyNext
  refine wpAny_bind (wpAny_attempt (wpAny_callSpecial?_slot (name := Str.ofString "__next__") isZ F.slot_zip_next (wpAny_call_entry F.slot_zip_next isZ F.entry_zip_next ?_ (F.args_zip_next_1 _))))
  refine zipM_end hh X Y D hz h1 h2 hS hU he fun h' e hk ⟨o, ho, hc⟩ => ?_
  exact wpAny_bind (wpAny_isInstance (T := "StopIteration") (b := true) ⟨o, ho, hc⟩ isSubtype_stop (wpAny_pure (hQ _ hk)))
end
abbrev mz1 (h : Heap) (l : Addr) : Heap := h.push { cls := .type "tuple_iterator", data := .fields #[.ref l, .int 0 0] }
abbrev mz2 (h : Heap) (l m : Addr) : Heap := (mz1 h l).push { cls := .type "list_iterator", data := .fields #[.ref m, .int 0 0] }
abbrev mz3 (h : Heap) (l m : Addr) : Heap := (mz2 h l m).push { cls := .type "tuple", data := .seq #[.ref h.objs.size, .ref (mz1 h l).objs.size] }
abbrev mz4 (h : Heap) (l m : Addr) : Heap := (mz3 h l m).push { cls := .type "tuple", data := .seq #[.none, .none] }
abbrev mz5 (h : Heap) (l m : Addr) : Heap := (mz4 h l m).push { cls := .type "zip", data := .fields #[.none, .bool false, .bool false, .ref (mz2 h l m).objs.size, .ref (mz3 h l m).objs.size] }
theorem meets_zipM (l m : Addr) (xs ys : Array Value) : Meets (Builtin.«zip.__new__» ⟨[.type "zip", .ref l, .ref m], []⟩)
    (fun _ R s => s.heap.IsTuple l xs ∧ s.heap.IsList m ys ∧ R (.ok (.ret (.ref (mz4 s.heap l m).objs.size))) { s with heap := mz5 s.heap l m }) :=
  .of_wp fun prog w A R s h => by
    obtain ⟨hp, g, d, tk, os⟩ := s
    obtain ⟨ht, hl, h⟩ := h
    have hsub := sub_zip
    have ht' : Heap.IsTuple (Shared.heap ⟨hp, g, d, tk, os⟩) l xs := ht
    have hl' : Heap.IsList (Shared.heap ⟨hp.push { cls := .type "tuple_iterator", data := .fields #[.ref l, .int 0 0] }, g, d, tk, os⟩) m ys := Heap.IsList.push hl _
    wp_walk using wpAny_pyIter_tuple ht', wpAny_pyIter_list hl'
    exact ⟨_, rfl, h⟩
theorem call_zipM {prog : Program} {w : World} {A : Around} {E : Value → Shared → Prop} {s : Shared} {l m : Addr} {xs ys : Array Value} {Q : Value → Shared → Prop} (ht : s.heap.IsTuple l xs) (hl : s.heap.IsList m ys)
    (h : ∀ h', IsZip h' (s.heap.objs.size + 4) (s.heap.objs.size + 2) (s.heap.objs.size + 3) .none → IsPair h' (s.heap.objs.size + 2) (.ref s.heap.objs.size) (.ref (s.heap.objs.size + 1)) →
      IsPair h' (s.heap.objs.size + 3) .none .none → h'.IsTupleIter s.heap.objs.size l 0 → h'.IsListIter (s.heap.objs.size + 1) m 0 → (∀ c o, s.heap.get? c = some o → h'.get? c = some o) → Q (.ref (s.heap.objs.size + 4)) { s with heap := h' }) :
    wpAny (model prog w) A (call (.type "zip") [.ref l, .ref m]) Q E s := by
  refine callType_new F.called_zip (by decide) (F.typeCall_zip_2 _ _) (F.newCall_zip_2 _ _) (fun obj => F.args_object_init_3 obj _ _) F.entry_zip_new (meets_zipM l m xs ys) ⟨ht, hl, ?_⟩
  have n1 : (mz1 s.heap l).objs.size = s.heap.objs.size + 1 := Heap.size_push ..
  have n2 : (mz2 s.heap l m).objs.size = s.heap.objs.size + 2 := by rw [Heap.size_push, n1]
  have n3 : (mz3 s.heap l m).objs.size = s.heap.objs.size + 3 := by rw [Heap.size_push, n2]
  have n4 : (mz4 s.heap l m).objs.size = s.heap.objs.size + 4 := by rw [Heap.size_push, n3]
  have f5 : (mz5 s.heap l m).get? (mz4 s.heap l m).objs.size = some _ := Heap.get?_push_size _ rfl
  have f4 : (mz5 s.heap l m).get? (mz3 s.heap l m).objs.size = some _ := Heap.get?_push_of_some _ (Heap.get?_push_size _ rfl)
  have f3 : (mz5 s.heap l m).get? (mz2 s.heap l m).objs.size = some _ := Heap.get?_push_of_some _ (Heap.get?_push_of_some _ (Heap.get?_push_size _ rfl))
  have f2 : (mz5 s.heap l m).get? (mz1 s.heap l).objs.size = some _ := Heap.get?_push_of_some _ (Heap.get?_push_of_some _ (Heap.get?_push_of_some _ (Heap.get?_push_size _ rfl)))
  have f1 : (mz5 s.heap l m).get? s.heap.objs.size = some _ := Heap.get?_push_of_some _ (Heap.get?_push_of_some _ (Heap.get?_push_of_some _ (Heap.get?_push_of_some _ (Heap.get?_push_size _ rfl))))
  show _ ∧ _
  rw [n2, n3, n4] at f5
  rw [n1, n2] at f3
  rw [n3] at f4
  rw [n1] at f2
  rw [n4]
  refine ⟨⟨_, f5, rfl⟩, h _ f5 f3 f4 ⟨_, f1, rfl, rfl⟩ ⟨_, f2, rfl, rfl⟩ fun c o q => ?_⟩
  exact Heap.get?_push_of_some _ (Heap.get?_push_of_some _ (Heap.get?_push_of_some _ (Heap.get?_push_of_some _ (Heap.get?_push_of_some _ q))))
def ItM (K : PySem.W.Frag) (a b : Addr) : It :=
  ⟨fun i H => ∃ (xs ys : List V) (x y : V), SqT K H a xs ∧ SqL K H b ys ∧ xs[i]? = some x ∧ ys[i]? = some y,
    fun i H v H' => ∃ T x y, v = .ref T ∧ H T = none ∧ H' = upd H T (.tup [x, y]) ∧ (∀ xs, SqT K H a xs → xs[i]? = some x) ∧ ∀ ys, SqL K H b ys → ys[i]? = some y,
    fun i H => ∃ xs ys : List V, SqT K H a xs ∧ SqL K H b ys ∧ (xs.length ≤ i ∨ ys.length ≤ i)⟩
theorem turnM {P : Program} {w : World} {K : PySem.W.Frag} {elts : List Expr} {kk : Nat} {tpos : Pos} {a b z T1 T2 i1 i2 : Addr} (D : ZipApart z T1 T2 i1 i2 a b) :
    Turn P w K (.Tuple elts kk tpos) (ItM K a b) [z, T1, T2, i1, i2] z (fun i h => IsZip h z T1 T2 .none ∧ IsPair h T1 (.ref i1) (.ref i2) ∧ (∃ x y, IsPair h T2 x y) ∧ h.IsTupleIter i1 a i ∧ h.IsListIter i2 b i) where
  mem := by simp
  obj := fun i h st c hc => by
    obtain ⟨hz, h1, ⟨x, y, h2⟩, ⟨o1, e1, _, d1⟩, o2, e2, _, d2⟩ := st
    have q : c = z ∨ c = T1 ∨ c = T2 ∨ c = i1 ∨ c = i2 := by simpa using hc
    rcases q with rfl | rfl | rfl | rfl | rfl
    · exact ⟨_, hz, fun v q => nomatch q⟩
    · exact ⟨_, h1, fun v q => nomatch q⟩
    · exact ⟨_, h2, fun v q => nomatch q⟩
    · exact ⟨o1, e1, fun v q => by rw [d1] at q; cases q⟩
    · exact ⟨o2, e2, fun v q => by rw [d2] at q; cases q⟩
  keep := fun i h h' ⟨hz, h1, ⟨x, y, h2⟩, t1, t2⟩ k =>
    ⟨k z (by simp) _ hz, k T1 (by simp) _ h1, ⟨x, y, k T2 (by simp) _ h2⟩, t1.at fun o q => k i1 (by simp) o q, t2.at fun o q => k i2 (by simp) o q⟩
  item := by
    intro X hP hw hK hc i pins s σ H E I hf st hg
    subst hP hw hK
    obtain ⟨hz, h1, ⟨x0, y0, h2⟩, t1, t2⟩ := st
    obtain ⟨xs, ys, x, y, hqx, hqy, hx, hy⟩ := hg
    obtain ⟨its, rv, p, _⟩ := I.tuple hqx
    obtain ⟨jts, rv2, p2, _⟩ := I.list hqy
    obtain ⟨u, hu, ru⟩ := rv.get hx
    obtain ⟨v, hv, rw⟩ := rv2.get hy
    have zl : z < s.heap.objs.size := Heap.lt_size hz
    refine nextM_item (nx_tup (Ne.symm D.l1i1)) (nx_list (Ne.symm D.l2i2)) D hz h1 h2 ⟨t1, p⟩ ⟨t2, p2.isList⟩ (x := u) (y := v) (by simpa using hu) (by simpa using hv) fun h' z' q2 S' U' hT hsz hk => ?_
    refine ⟨_, rfl, wpAny_letOwnedTupleGo_zip (s := { s with heap := h' }) z' fun g gz sb => ?_⟩
    have hT2 : g.get? s.heap.objs.size = some { cls := .type "tuple", data := .seq #[u, v] } := (sb.2 _ (Nat.ne_of_gt zl)).trans hT
    have away : ∀ {c : Addr}, c ∉ [z, T1, T2, i1, i2] → c ≠ z ∧ c ≠ T2 ∧ c ≠ i1 ∧ c ≠ i2 := fun {c} hb => by simp at hb; exact ⟨hb.1, hb.2.2.1, hb.2.2.2.1, hb.2.2.2.2⟩
    have J : Inv X pins σ (upd H s.heap.objs.size (.tup [x, y])) { s with heap := g } :=
      I.turnedNew (t' := s.toks) (ch := [z, T1, T2, i1, i2]) (fun c o hb q => let ⟨a1, a2, a3, a4⟩ := away hb; (sb.2 c a1).trans (hk c o a1 a2 a3 a4 q)) hf (Nat.le_refl _)
        ⟨by show 2 ≤ sizeLine; decide, [u, v], .cons ru (.cons rw .nil), ⟨_, hT2, rfl, _, rfl⟩⟩
    refine ⟨.ref s.heap.objs.size, _, J, rfl, ⟨_, x, y, rfl, I.hok.fresh (Nat.le_refl _), rfl, fun l hl => by rw [I.tuple_inj hl hqx]; exact hx, fun l hl => by rw [I.list_inj hl hqy]; exact hy⟩,
      ⟨gz, (sb.2 _ D.TIz).trans (hk _ _ D.TIz D.TITO D.TIi1 D.TIi2 h1), ⟨u, v, (sb.2 _ D.TOz).trans q2⟩, S'.1.at fun o q => (sb.2 _ D.i1z).trans q, U'.1.at fun o q => (sb.2 _ D.i2z).trans q⟩, fun c hcm => ?_⟩
    have lt : c < s.heap.objs.size := by
      have q : c = z ∨ c = T1 ∨ c = T2 ∨ c = i1 ∨ c = i2 := by simpa using hcm
      rcases q with rfl | rfl | rfl | rfl | rfl
      · exact zl
      · exact Heap.lt_size h1
      · exact Heap.lt_size h2
      · obtain ⟨_, e1, _⟩ := t1; exact Heap.lt_size e1
      · obtain ⟨_, e2, _⟩ := t2; exact Heap.lt_size e2
    rw [upd_ne (Nat.ne_of_lt lt)]
    exact (hf c hcm).1
  done := by
    intro X hP hw hK hc i pins s σ H E I hf st hg
    subst hP hw hK
    obtain ⟨hz, h1, ⟨x0, y0, h2⟩, t1, t2⟩ := st
    obtain ⟨xs, ys, hqx, hqy, hend⟩ := hg
    obtain ⟨its, rv, p, _⟩ := I.tuple hqx
    obtain ⟨jts, rv2, p2, _⟩ := I.list hqy
    have n1 := rv.length
    have n2 := rv2.length
    have he : its.toArray[i]? = none ∨ jts.toArray[i]? = none := hend.imp (fun q => by simp; omega) fun q => by simp; omega
    refine nextM_end (I.ok.hd hc) (nx_tup (Ne.symm D.l1i1)) (nx_list (Ne.symm D.l2i2)) D hz h1 h2 ⟨t1, p⟩ ⟨t2, p2.isList⟩ he fun h' hk => ?_
    exact ⟨rfl, I.turnedL (t' := s.toks) (ch := [z, T1, T2, i1, i2]) (fun c o hb q => by simp at hb; exact hk c o hb.1 hb.2.2.1 hb.2.2.2.1 hb.2.2.2.2 q) hf⟩
  self := fun A i s Q E st h => wpAny_pyIter_zip st.1 h
def iZipM (K : PySem.W.Frag) (ta : TA) : TI := fun σ H R => ta σ H fun vs H1 => ∃ a b xs ys, vs = [.ref a, .ref b] ∧ SqT K H1 a xs ∧ SqL K H1 b ys ∧ R (ItM K a b) H1
theorem pi_zipTL {X : Cx} {e e2 : Expr} {ta : TA} {p pos tpos : Pos} {elts : List Expr} {kk : Nat} (hg : Gl X "zip") (hm : X.mg "zip" = none) (ha : PA X [e, e2] ta)
    (hs : starEach [e, e2] X.env = (false, eval e X.env) :: starEach [e2] X.env := by rfl) (hpl : (backTo pos (starEach [e2] X.env)).any (·.1) = false := by rfl) :
    PI X (.Tuple elts kk tpos) (.Call (.Name "zip" p) [e, e2] [] pos) (iZipM X.K ta) := by
  refine ⟨fun pins s σ H R I h => Call_ (ld_blt I hg hm PyProof.Rows.boot_zip (PyProof.Rows.callWith_type1 (thn (ha.run pos pins s σ H _ I h) ?_) hs hpl))⟩
  rintro us s1 ⟨vs, H1, I1, r1, a, b, xs, ys, rfl, hqx, hqy, q⟩
  cases r1 with
  | cons r rr =>
    cases rr with
    | cons r' rr =>
      cases rr
      cases r
      cases r'
      obtain ⟨its, rv, p1, _⟩ := I1.tuple hqx
      obtain ⟨jts, rv2, p2, _⟩ := I1.list hqy
      obtain ⟨o1, ho1, _⟩ := id p1
      refine call_zipM p1 p2.isList fun h' hz hTI hTO h1 h2 hk => wpAny_pyIter_zip hz ?_
      have I2 : Inv X pins σ H1 { s1 with heap := h' } := I1.kept (t' := s1.toks) hk
      refine ⟨s1.heap.objs.size + 4, [s1.heap.objs.size + 4, s1.heap.objs.size + 2, s1.heap.objs.size + 3, s1.heap.objs.size, s1.heap.objs.size + 1], _, _, H1, rfl, I2,
        turnM (PySem.W.ktu_apart s1.heap.objs.size a b (Heap.lt_size ho1) p2.lt), ⟨hz, hTI, ⟨_, _, hTO⟩, h1, h2⟩, fun c hcm => ?_, q⟩
      have le : s1.heap.objs.size ≤ c := by
        have z : c = s1.heap.objs.size + 4 ∨ c = s1.heap.objs.size + 2 ∨ c = s1.heap.objs.size + 3 ∨ c = s1.heap.objs.size ∨ c = s1.heap.objs.size + 1 := by simpa using hcm
        rcases z with z | z | z | z | z <;> rw [z] <;> first | exact Nat.le_refl _ | exact Nat.le_add_right _ _
      exact I1.fpOk le (I1.hok.fresh le)
theorem walkM {K : PySem.W.Frag} {a b : Addr} {xs ys : List V} : Walk (ItM K a b) (min xs.length ys.length) (fun H => SqT K H a xs ∧ SqL K H b ys) (YPair (fun i => xs[i]?) fun i => ys[i]?) := by
  refine ⟨fun i _ hi q => ?_, fun _ q => ⟨xs, ys, q.1, q.2, by omega⟩, fun i H v H' _ q y => ?_⟩
  · have h1 : i < xs.length := by omega
    have h2 : i < ys.length := by omega
    exact ⟨xs, ys, xs[i], ys[i], q.1, q.2, by simp [h1], by simp [h2]⟩
  · obtain ⟨T, x, z, h1, h2, h3, h4, h5⟩ := y
    exact ⟨T, x, z, h1, h2, h3, h4 xs q.1, h5 ys q.2⟩
theorem walkT {K : PySem.W.Frag} {a b : Addr} {xs ys : List V} : Walk (RZ.ItzT K a b) (min xs.length ys.length) (fun H => SqT K H a xs ∧ SqT K H b ys) (YPair (fun i => xs[i]?) fun i => ys[i]?) := by
  refine ⟨fun i _ hi q => ?_, fun _ q => ⟨xs, ys, q.1, q.2, by omega⟩, fun i H v H' _ q y => ?_⟩
  · have h1 : i < xs.length := by omega
    have h2 : i < ys.length := by omega
    exact ⟨xs, ys, xs[i], ys[i], q.1, q.2, by simp [h1], by simp [h2]⟩
  · obtain ⟨T, x, z, h1, h2, h3, h4, h5⟩ := y
    exact ⟨T, x, z, h1, h2, h3, h4 xs q.1, h5 ys q.2⟩
end G
end
section
set_option maxRecDepth 100000
set_option maxHeartbeats 2000000
namespace G
open PySem PySem.Spec PyProof.Rows L2
def tyD : PyData → String
  | .none => "NoneType"
  | .bool _ => "bool"
  | .int _ => "int"
  | .str _ => "str"
  | .list _ => "list"
  | .tuple _ => "tuple"
  | .dict _ => "dict"
theorem tyx_of {K : PySem.W.Frag} {H : Hp} {v : V} {d : PyData} (h : Da K H v d) : TyX K H v (.type (tyD d)) := by
  cases h with
  | non => exact .base .non
  | bl b => exact .base (.bl b)
  | int i => exact .base (.int i)
  | str x => exact .base (.str x)
  | lst h _ =>
    rcases h with (h | ⟨o, h⟩) | ⟨o, its, n, h, c, _⟩
    · exact .base (.lst h)
    · exact .base (.frz h)
    · exact .kList h c
  | tup h _ =>
    rcases h with (h | ⟨o, h⟩) | ⟨o, its, n, h, c, _⟩
    · exact .base (.tup h)
    · exact .fTuple h
    · exact .kTuple h c
  | emp h => exact .base (.dK h)
section
variable {K : PySem.W.Frag} {ρ : Rho} {ta : TE} {d z : PyData}
theorem fn_lenT {xs : List PyData} : Fn K (fun xs H Q => ∃ p ys, xs = [.ref p] ∧ (SqL K H p ys ∨ SqT K H p ys) ∧ Q (.int ys.length) H) [.tuple xs] (.int xs.length) := fun B H s us hu Q q => by
  cases hu with
  | cons h t =>
    cases t
    cases h with
    | tup h1 a1 => exact ⟨_, _, rfl, .inr (same_t s h1), q _ B H (.refl s) (by rw [a1.len]; exact .int _)⟩
theorem fn_all {bs : List Bool} : Fn K (rAll K) [.list (bs.map .bool)] (.bool (bs.all id)) := fun B H s us hu Q q => by
  cases hu with
  | cons h t =>
    cases t
    cases h with
    | lst h a =>
      obtain rfl := daBools a
      exact ⟨_, bs, rfl, same_l s h, q _ B H (.refl s) (.bl _)⟩
abbrev rListOf (K : PySem.W.Frag) : List V → Hp → VK → Prop := fun xs H Q => ∃ p ys, xs = [.ref p] ∧ (SqL K H p ys ∨ SqT K H p ys) ∧ ∀ l, H l = none → Q (.ref l) (upd H l (.lst ys))
theorem callA_list {X : Cx} : CallR X (.type "list") (rListOf X.K) := call_list_of
theorem fn_listL {ds : List PyData} : Fn K (rListOf K) [.list ds] (.list ds) := fun B H s us hu Q q => by
  cases hu with
  | cons h t =>
    cases t
    cases h with
    | @lst a xs _ h hs => exact ⟨_, _, rfl, .inl (same_l s h), fun l hl => q _ _ _ (Gr.add s hl (.lst xs)) (.lst (.of upd_same) (hs.mono (Gr.add s hl (.lst xs)).bb))⟩
theorem fn_listT {ds : List PyData} : Fn K (rListOf K) [.tuple ds] (.list ds) := fun B H s us hu Q q => by
  cases hu with
  | cons h t =>
    cases t
    cases h with
    | @tup a xs _ h hs => exact ⟨_, _, rfl, .inr (same_t s h), fun l hl => q _ _ _ (Gr.add s hl (.lst xs)) (.lst (.of upd_same) (hs.mono (Gr.add s hl (.lst xs)).bb))⟩
def cutD (ds : List PyData) (lo hi : Option Int) : List PyData := (ds.drop (HT.sIx ds.length 0 lo)).take (HT.sIx ds.length ds.length hi - HT.sIx ds.length 0 lo)
theorem cut_all {B : Hp} {xs : List V} {ds : List PyData} (hs : DaAll K B xs ds) (lo hi : Option Int) : DaAll K B (cutV xs lo hi) (cutD ds lo hi) := by
  have e1 := hs.len
  unfold cutV cutD
  rw [e1]
  exact (hs.drop _).take _
theorem walk_revT {a : Addr} {xs : List V} : Walk (RT.ItvT K a xs.length) xs.length (fun H => SqT K H a xs) (fun i H x H' => H' = H ∧ xs[xs.length - 1 - i]? = some x) :=
  ⟨fun i _ hi q => ⟨hi, xs, xs[xs.length - 1 - i]'(by omega), q, by simp [show xs.length - 1 - i < xs.length by omega]⟩, fun _ _ => Nat.le_refl _, fun _ _ _ _ _ q y => ⟨y.1, y.2 xs q⟩⟩
theorem goes_rev {J : It} {B : Hp} {xs : List V} {es : List PyData} {G : Hp → Prop} (w : Walk J xs.length G (fun i H x H' => H' = H ∧ xs[xs.length - 1 - i]? = some x)) (hg : ∀ H, Same B H → G H) (a : DaAll K B xs es) : Goes K J B es.reverse := by
  have hl := a.len
  unfold Goes
  rw [List.length_reverse, ← hl]
  refine w.mono hg fun i H x H' hi s y B0 s0 h0 => ?_
  obtain ⟨rfl, hx⟩ := y
  have hi2 : es.length - 1 - i < es.length := by omega
  obtain ⟨v, e1, e2⟩ := a.at (List.getElem?_eq_getElem hi2)
  rw [hl, e1] at hx
  cases hx
  refine ⟨B0, _, .refl h0, ?_, e2.mono s0⟩
  rw [List.getElem?_reverse (by omega)]
  exact List.getElem?_eq_getElem hi2
end
section
variable {X : Cx}
theorem pi_zipM {e e2 : Expr} {ta : TA} {p pos tpos : Pos} {elts : List Expr} {kk : Nat} (hg : Gl X "zip") (hm : X.mg "zip" = none) (ha : PA X [e, e2] ta)
    (hs : starEach [e, e2] X.env = (false, eval e X.env) :: starEach [e2] X.env := by rfl) (hpl : (backTo pos (starEach [e2] X.env)).any (·.1) = false := by rfl) :
    PI X (.Tuple elts kk tpos) (.Call (.Name "zip" p) [e, e2] [] pos) (orI (RZ.iZipA X.K ta) (iZipM X.K ta)) := pi_or (RZ.pi_zipA hg hm ha hs hpl) (pi_zipTL hg hm ha hs hpl)
end
def CPowW (i j : Int) : Prop := 0 ≤ j ∧ (Builtin.Int.intBits i : Int) * j ≤ 2 ^ 27
theorem op_powW {X : Cx} : OpR X (binaryOp .Pow) (rI CPowW fun i j => .int (i ^ j.toNat)) := by
  intro pins s σ H x y v u Q I rx ry h
  obtain ⟨i, j, rfl, rfl, hc, q⟩ := h
  obtain ⟨t, rfl⟩ := (show ∃ t, v = Value.int i t from rx)
  obtain ⟨t', rfl⟩ := (show ∃ t, u = Value.int j t from ry)
  exact pow_int hc.1 hc.2 ⟨.int _, H, I.tok _, ⟨_, rfl⟩, q⟩
end G
namespace G
open PySem PySem.Spec PyProof.Rows L2
def isIntD : PyData → Bool
  | .bool _ => true
  | .int _ => true
  | _ => false
theorem kit_int : ∀ x : PyData, kitB (tyD x) "int" = some (isIntD x)
  | .none => (by decide +kernel : kitB "NoneType" "int" = some false)
  | .bool _ => (by decide +kernel : kitB "bool" "int" = some true)
  | .int _ => (by decide +kernel : kitB "int" "int" = some true)
  | .str _ => (by decide +kernel : kitB "str" "int" = some false)
  | .list _ => (by decide +kernel : kitB "list" "int" = some false)
  | .tuple _ => (by decide +kernel : kitB "tuple" "int" = some false)
  | .dict _ => (by decide +kernel : kitB "dict" "int" = some false)
def isBoolD : PyData → Bool
  | .bool _ => true
  | _ => false
theorem kit_bool : ∀ x : PyData, kitB (tyD x) "bool" = some (isBoolD x)
  | .none => (by decide +kernel : kitB "NoneType" "bool" = some false)
  | .bool _ => (by decide +kernel : kitB "bool" "bool" = some true)
  | .int _ => (by decide +kernel : kitB "int" "bool" = some false)
  | .str _ => (by decide +kernel : kitB "str" "bool" = some false)
  | .list _ => (by decide +kernel : kitB "list" "bool" = some false)
  | .tuple _ => (by decide +kernel : kitB "tuple" "bool" = some false)
  | .dict _ => (by decide +kernel : kitB "dict" "bool" = some false)
def isListD : PyData → Bool
  | .list _ => true
  | _ => false
theorem kit_list : ∀ x : PyData, kitB (tyD x) "list" = some (isListD x)
  | .none => (by decide +kernel : kitB "NoneType" "list" = some false)
  | .bool _ => (by decide +kernel : kitB "bool" "list" = some false)
  | .int _ => (by decide +kernel : kitB "int" "list" = some false)
  | .str _ => (by decide +kernel : kitB "str" "list" = some false)
  | .list _ => (by decide +kernel : kitB "list" "list" = some true)
  | .tuple _ => (by decide +kernel : kitB "tuple" "list" = some false)
  | .dict _ => (by decide +kernel : kitB "dict" "list" = some false)
def isTupD : PyData → Bool
  | .tuple _ => true
  | _ => false
theorem kit_tuple : ∀ x : PyData, kitB (tyD x) "tuple" = some (isTupD x)
  | .none => (by decide +kernel : kitB "NoneType" "tuple" = some false)
  | .bool _ => (by decide +kernel : kitB "bool" "tuple" = some false)
  | .int _ => (by decide +kernel : kitB "int" "tuple" = some false)
  | .str _ => (by decide +kernel : kitB "str" "tuple" = some false)
  | .list _ => (by decide +kernel : kitB "list" "tuple" = some false)
  | .tuple _ => (by decide +kernel : kitB "tuple" "tuple" = some true)
  | .dict _ => (by decide +kernel : kitB "dict" "tuple" = some false)
def isStrD : PyData → Bool
  | .str _ => true
  | _ => false
theorem kit_str : ∀ x : PyData, kitB (tyD x) "str" = some (isStrD x)
  | .none => (by decide +kernel : kitB "NoneType" "str" = some false)
  | .bool _ => (by decide +kernel : kitB "bool" "str" = some false)
  | .int _ => (by decide +kernel : kitB "int" "str" = some false)
  | .str _ => (by decide +kernel : kitB "str" "str" = some true)
  | .list _ => (by decide +kernel : kitB "list" "str" = some false)
  | .tuple _ => (by decide +kernel : kitB "tuple" "str" = some false)
  | .dict _ => (by decide +kernel : kitB "dict" "str" = some false)
end G
namespace G
open PySem PySem.Spec PyProof.Rows L2
def Has (K : PySem.W.Frag) (mg : Str → Option Value) (x : Str) (st : Stmt) (ps : List Str) : Prop :=
  ∃ (f : Addr) (fd : FuncData), Fun K x x st f fd ∧ mg x = some (.ref f) ∧ L2.Binds K fd ps []
theorem Cal.kw {P : Program} {w : World} {K : PySem.W.Frag} {mg : Str → Option Value} {base : Heap} {k : Nat} {x : Str} {st : Stmt} {ps ks : List Str} {q : Sp} {g : List Value → List Value → List Value} {gV : List V → List V → List V}
    (c : Cal P w K mg base k x ps q) (h : Has K mg x st ps)
    (hk : ∀ (kV doc pm : Value) (an : Option Addr) (cdv ct : Value) (us ws : List Value), (g us ws).length = ps.length → bindArgs (PySem.W.fnOf x x (defArgs st) (defBody st) (defScope st) .none kV doc pm an cdv ct) ⟨us, ks.zip ws⟩ = pure (ps.zip (g us ws)))
    (hr : ∀ {vs : List V} {us : List Value} {zs : List V} {ws : List Value}, Vals vs us → Vals zs ws → Vals (gV vs zs) (g us ws)) : CalK P w K mg base k x ps ks gV q := by
  obtain ⟨f, fd, hm, ⟨hkp, o, lo, od⟩, hb, F⟩ := c.ex
  obtain ⟨f2, fd2, F2, hm2, bd2⟩ := h
  rw [hm] at hm2
  cases hm2
  obtain ⟨oc, od2, kV, doc, pm, an, cdv, ct, osl, e, lk, hcd⟩ := F2.ex
  rw [lo] at lk
  cases lk
  cases od
  subst e
  exact ⟨f, _, g, hm, hkp, ⟨fun s us ws _ hl => .of_eq (hk kV doc pm an cdv ct us ws hl), hr⟩, F⟩
end G
namespace G
open PySem PySem.Spec PyProof.Rows L2
section
variable {X : Cx} (K : PySem.W.Frag)
theorem ixK (h : X.K = K := by rfl) : IxR X (rIxA K) := h ▸ ix_A
theorem addK (h : X.K = K := by rfl) : OpR X (binaryOp .Add) (rAddA K) := h ▸ op_addA
theorem eqK {k : Nat} (hr : Room k X.A) (h : X.K = K := by rfl) : OpR X (compareOp .Eq) (rEqD K) := h ▸ op_eqD hr.units
theorem neK {k : Nat} (hr : Room k X.A) (h : X.K = K := by rfl) : OpR X (compareOp .NotEq) (rNeD K) := h ▸ op_neD hr.units
theorem inK (h : X.K = K := by rfl) : OpR X (compareOp .In) (rIn K false) := h ▸ op_in_seq
theorem ninK (h : X.K = K := by rfl) : OpR X (compareOp .NotIn) (rIn K true) := h ▸ op_notIn_seq
theorem isiK (h : X.K = K := by rfl) : CallR X (.builtin "isinstance") (rIsi K) := h ▸ call_isi
abbrev rLenK (K : PySem.W.Frag) : List V → Hp → VK → Prop := fun xs H Q => ∃ p ys, xs = [.ref p] ∧ (SqL K H p ys ∨ SqT K H p ys) ∧ Q (.int ys.length) H
theorem lenK (h : X.K = K := by rfl) : CallR X (.builtin "len") (rLenK K) := h ▸ call_len_seq
theorem allK (hc : X.calm = true) (h : X.K = K := by rfl) : CallR X (.builtin "all") (rAll K) := h ▸ cr_all hc
theorem sumK (hc : X.calm = true) (h : X.K = K := by rfl) : CallR X (.builtin "sum") (rSum K) := h ▸ cr_sum hc
theorem listK (h : X.K = K := by rfl) : CallR X (.type "list") (rListOf K) := h ▸ callA_list
theorem pi_listK {tg e : Expr} {te : TE} (he : PE X e te) (h : X.K = K := by rfl) : PI X tg e (iList K te) := h ▸ pi_list he
theorem pi_tupK {tg e : Expr} {te : TE} (he : PE X e te) (h : X.K = K := by rfl) : PI X tg e (iTup K te) := h ▸ pi_tup he
theorem pi_zipK {e e2 : Expr} {ta : TA} {p pos tpos : Pos} {elts : List Expr} {kk : Nat} (hg : Gl X "zip") (hm : X.mg "zip" = none) (ha : PA X [e, e2] ta) (h : X.K = K := by rfl)
    (hs : starEach [e, e2] X.env = (false, eval e X.env) :: starEach [e2] X.env := by rfl) (hpl : (backTo pos (starEach [e2] X.env)).any (·.1) = false := by rfl) :
    PI X (.Tuple elts kk tpos) (.Call (.Name "zip" p) [e, e2] [] pos) (orI (RZ.iZipA K ta) (iZipM K ta)) := h ▸ pi_zipM hg hm ha hs hpl
theorem pi_revK {tg e : Expr} {te : TE} {p pos : Pos} (hg : Gl X "reversed") (hm : X.mg "reversed" = none) (he : PE X e te) (h : X.K = K := by rfl) (hs : starEach [e] X.env = (false, eval e X.env) :: starEach [] X.env := by rfl) :
    PI X tg (.Call (.Name "reversed" p) [e] [] pos) (RT.iRevA K te) := h ▸ RT.pi_revA hg hm he hs
end
end G
end
section
set_option maxRecDepth 100000
set_option maxHeartbeats 2000000
namespace G
open PySem PySem.Spec PyProof.Rows L2
def GenAt (H : Hp) (g : Addr) (c : Nat) : Prop := ∃ a b n : Int, H g = some (.lst [.int a, .int b, .int n]) ∧ 0 ≤ a ∧ a < 10 ^ 600 ∧ 0 ≤ b ∧ b < 2147483647 ∧ 0 ≤ n ∧ n ≤ c
theorem GenAt.le {H : Hp} {g : Addr} {c c' : Nat} (h : GenAt H g c) (l : c ≤ c') : GenAt H g c' := by
  obtain ⟨a, b, n, h1, h2, h3, h4, h5, h6, h7⟩ := h
  exact ⟨a, b, n, h1, h2, h3, h4, h5, h6, by omega⟩
theorem GenAt.ne {H : Hp} {g : Addr} {c : Nat} (h : GenAt H g c) : H g ≠ none := by
  obtain ⟨a, b, n, h1, _⟩ := h
  rw [h1]
  simp
structure Gg (g : Addr) (B H B' H' : Hp) : Prop where
  ex : ∀ a o, a ≠ g → H a = some o → H' a = some o
  bb : Same B B'
  sub : Same B' H'
  new : ∀ a o, B' a = some o → B a = none → H a = none
  off : B' g = none
section
variable {g : Addr} {B H B1 H1 B2 H2 : Hp} {c : Nat}
theorem Gg.refl (s : Same B H) (h : B g = none) : Gg g B H B H := ⟨fun _ _ _ e => e, Same.refl _, s, fun a o e n => (by rw [n] at e; cases e), h⟩
theorem Gg.of (k : Gr B H B1 H1) (h : B g = none) (n : H g ≠ none) : Gg g B H B1 H1 := by
  refine ⟨fun a o _ e => k.ex a o e, k.bb, k.sub, k.new, ?_⟩
  cases z : B1 g with
  | none => rfl
  | some o => exact absurd (k.new g o z h) n
theorem Gg.trans (k : Gg g B H B1 H1) (l : Gg g B1 H1 B2 H2) : Gg g B H B2 H2 := by
  refine ⟨fun a o n e => l.ex a o n (k.ex a o n e), k.bb.trans l.bb, l.sub, fun a o e n => ?_, l.off⟩
  cases q : B1 a with
  | none =>
    have z := l.new a o e q
    cases w : H a with
    | none => rfl
    | some u =>
      have ne : a ≠ g := fun x => by subst x; rw [l.off] at e; cases e
      rw [k.ex a u ne w] at z
      cases z
  | some u => exact k.new a u q n
end
structure EnvG (K : PySem.W.Frag) (B : Hp) (σ : L2.St) (ρ : Rho) (g : Addr) (i : Nat) : Prop where
  env : EnvOk K B σ ρ
  here : σ[i]? = some (some (.ref g))
  gone : B g = none
section
variable {K : PySem.W.Frag} {B B' : Hp} {σ : L2.St} {ρ : Rho} {g : Addr} {i : Nat}
theorem EnvG.to (h : EnvG K B σ ρ g i) {H H' : Hp} (k : Gg g B H B' H') : EnvG K B' σ ρ g i := ⟨h.env.mono k.bb, h.here, k.off⟩
theorem EnvG.set (h : EnvG K B σ ρ g i) {v : V} {d : PyData} (hv : Da K B v d) {j : Nat} (n : j ≠ i) : EnvG K B (σ.set j (some v)) (ρ.set j (some d)) g i :=
  ⟨h.env.set hv j, by rw [List.getElem?_set_ne n]; exact h.here, h.gone⟩
end
def Eg (K : PySem.W.Frag) (i : Nat) (te : TE) (ρ : Rho) (c : Nat) (P : PyData → Nat → Prop) : Prop := ∀ g σ B H, EnvG K B σ ρ g i → Same B H → GenAt H g c → ∀ Q : VK,
  (∀ v B' H' d c', Gg g B H B' H' → GenAt H' g c' → Da K B' v d → P d c' → Q v H') → te σ H Q
def El (K : PySem.W.Frag) (i : Nat) (ta : TA) (ρ : Rho) (c : Nat) (P : List PyData → Nat → Prop) : Prop := ∀ g σ B H, EnvG K B σ ρ g i → Same B H → GenAt H g c → ∀ Q : List V → Hp → Prop,
  (∀ vs B' H' ds c', Gg g B H B' H' → GenAt H' g c' → DaAll K B' vs ds → P ds c' → Q vs H') → ta σ H Q
section
variable {K : PySem.W.Frag} {i : Nat} {ρ : Rho} {c : Nat} {te ta tb : TE} {tr : TA} {d : PyData} {P : PyData → Nat → Prop}
theorem Eg.imp {P' : PyData → Nat → Prop} (h : Eg K i te ρ c P) (k : ∀ d c', P d c' → P' d c') : Eg K i te ρ c P' := fun g σ B H e s n Q q =>
  h g σ B H e s n Q fun v B' H' d c' gg n' hv p => q v B' H' d c' gg n' hv (k d c' p)
theorem wipe_at (σ : L2.St) {i : Nat} : ∀ {vs : List Nat}, i ∉ vs → (wipe σ vs)[i]? = σ[i]?
  | [], _ => rfl
  | v :: vs, h => by
    show ((wipe σ vs).set v none)[i]? = _
    rw [List.getElem?_set_ne (fun e => h (by rw [e]; exact List.mem_cons_self ..))]
    exact wipe_at σ fun q => h (List.mem_cons_of_mem _ q)
end
end G
end
section
set_option maxRecDepth 100000
set_option maxHeartbeats 2000000
namespace G
open PySem PySem.Spec PyProof.Rows L2
mutual
def pl : PyData → Bool
  | .none => true
  | .bool _ => true
  | .int i => decide (i.natAbs < 10 ^ 12)
  | .list xs => plAll xs
  | .tuple xs => plAll xs
  | .str x => PyData.canLay0 (.str x) && (PyData.leavesShort 13 (.str x) && PyData.showable (.str x))
  | .dict _ => false
def plAll : List PyData → Bool
  | [] => true
  | x :: xs => pl x && plAll xs
end
mutual
theorem pl_facts : ∀ d : PyData, pl d = true → d.canLay0 = true ∧ d.leavesShort 13 = true ∧ d.showable = true ∧ PyData.eqv d d = true
  | .none, _ => ⟨rfl, rfl, rfl, rfl⟩
  | .bool b, _ => ⟨rfl, rfl, rfl, by simp [PyData.eqv]⟩
  | .int i, h => by
    have h' : i.natAbs < 10 ^ 12 := by simpa [pl] using h
    refine ⟨rfl, ?_, ?_, by simp [PyData.eqv]⟩
    · rw [PyData.leavesShort]
      exact decide_eq_true (PyData.shown_int_le h')
    · rw [PyData.showable]
      refine decide_eq_true ?_
      by_cases z : i.natAbs = 0
      · rw [z]; decide
      · exact Nat.lt_of_lt_of_le ((Nat.log2_lt (k := 40) z).mpr (by omega)) (by decide)
  | .list xs, h => by
    obtain ⟨a, b, c, d⟩ := pl_factsAll xs (by simpa [pl] using h)
    exact ⟨by rw [PyData.canLay0]; exact a, by rw [PyData.leavesShort]; exact b, by rw [PyData.showable]; exact c, by rw [PyData.eqv]; exact d⟩
  | .tuple xs, h => by
    obtain ⟨a, b, c, d⟩ := pl_factsAll xs (by simpa [pl] using h)
    exact ⟨by rw [PyData.canLay0]; exact a, by rw [PyData.leavesShort]; exact b, by rw [PyData.showable]; exact c, by rw [PyData.eqv]; exact d⟩
  | .str x, h => by
    rw [pl, Bool.and_eq_true, Bool.and_eq_true] at h
    exact ⟨h.1, h.2.1, h.2.2, by simp [PyData.eqv]⟩
  | .dict _, h => by simp [pl] at h
theorem pl_factsAll : ∀ ds : List PyData, plAll ds = true → PyData.canLayAll0 ds = true ∧ PyData.leavesShortAll 13 ds = true ∧ PyData.showableAll ds = true ∧ PyData.eqvAll ds ds = true
  | [], _ => ⟨by simp [PyData.canLayAll0], by simp [PyData.leavesShortAll], by simp [PyData.showableAll], by simp [PyData.eqvAll]⟩
  | x :: xs, h => by
    have h' : pl x = true ∧ plAll xs = true := by simpa [plAll] using h
    obtain ⟨a1, b1, c1, d1⟩ := pl_facts x h'.1
    obtain ⟨a2, b2, c2, d2⟩ := pl_factsAll xs h'.2
    exact ⟨by rw [PyData.canLayAll0, a1, a2]; rfl, by rw [PyData.leavesShortAll, b1, b2]; rfl, by rw [PyData.showableAll, c1, c2]; rfl, by rw [PyData.eqvAll, d1, d2]; rfl⟩
end
theorem plAll_iff : ∀ {ds : List PyData}, (∀ d ∈ ds, pl d = true) → plAll ds = true
  | [], _ => by simp [plAll]
  | d :: ds, h => by
    rw [plAll, h d (List.mem_cons_self ..), plAll_iff fun x hx => h x (List.mem_cons_of_mem _ hx)]
    rfl
theorem pl_int {i : Int} (h : i.natAbs < 10 ^ 12) : pl (.int i) = true := by rw [pl]; exact decide_eq_true h
theorem pl_list {ds : List PyData} (h : ∀ d ∈ ds, pl d = true) : pl (.list ds) = true := by rw [pl]; exact plAll_iff h
theorem pl_tuple {ds : List PyData} (h : ∀ d ∈ ds, pl d = true) : pl (.tuple ds) = true := by rw [pl]; exact plAll_iff h
theorem pl_ints {ns : List Int} (h : ∀ n ∈ ns, n.natAbs < 10 ^ 12) : ∀ d ∈ ns.map PyData.int, pl d = true := fun d hd => by
  obtain ⟨n, hn, rfl⟩ := List.mem_map.mp hd
  exact pl_int (h n hn)
theorem depth_all {ds : List PyData} {k : Nat} (h : ∀ d ∈ ds, d.depth ≤ k) : PyData.depthAll ds ≤ k := by
  induction ds with
  | nil => rw [PyData.depthAll]; omega
  | cons d ds ih =>
    rw [PyData.depthAll]
    have a := h d (List.mem_cons_self ..)
    have b := ih fun x hx => h x (List.mem_cons_of_mem _ hx)
    omega
theorem depth_list {ds : List PyData} {k : Nat} (h : ∀ d ∈ ds, d.depth ≤ k) : (PyData.list ds).depth ≤ k + 1 := by
  rw [PyData.depth]
  have := depth_all h
  omega
theorem depth_tuple {ds : List PyData} {k : Nat} (h : ∀ d ∈ ds, d.depth ≤ k) : (PyData.tuple ds).depth ≤ k + 1 := by
  rw [PyData.depth]
  have := depth_all h
  omega
theorem depth_int (i : Int) : (PyData.int i).depth = 0 := by rw [PyData.depth]
theorem depth_ints (ns : List Int) : ∀ d ∈ ns.map PyData.int, d.depth ≤ 0 := fun d hd => by
  obtain ⟨n, _, rfl⟩ := List.mem_map.mp hd
  rw [depth_int]
  exact Nat.le_refl 0
theorem bulk_all {ds : List PyData} {k : Nat} (h : ∀ d ∈ ds, d.bulk ≤ k) : PyData.bulkAll ds ≤ ds.length * (k + 1) := by
  induction ds with
  | nil => rw [PyData.bulkAll]; omega
  | cons d ds ih =>
    rw [PyData.bulkAll]
    have a := h d (List.mem_cons_self ..)
    have b := ih fun x hx => h x (List.mem_cons_of_mem _ hx)
    rw [List.length_cons, Nat.add_mul]
    omega
theorem bulk_int (i : Int) : (PyData.int i).bulk = 0 := by rw [PyData.bulk] <;> simp
theorem bulk_ints (ns : List Int) : ∀ d ∈ ns.map PyData.int, d.bulk ≤ 0 := fun d hd => by
  obtain ⟨n, _, rfl⟩ := List.mem_map.mp hd
  rw [bulk_int]
  exact Nat.le_refl 0
theorem bulk_list {ds : List PyData} {k : Nat} (h : ∀ d ∈ ds, d.bulk ≤ k) : (PyData.list ds).bulk ≤ ds.length * (k + 1) := by
  rw [PyData.bulk]
  exact bulk_all h
theorem bulk_tuple {ds : List PyData} {k : Nat} (h : ∀ d ∈ ds, d.bulk ≤ k) : (PyData.tuple ds).bulk ≤ ds.length * (k + 1) := by
  rw [PyData.bulk]
  exact bulk_all h
structure Pl (d : PyData) : Prop where
  p : pl d = true
  dep : d.depth ≤ 64
  blk : d.bulk ≤ 1000000
theorem Pl.shaped {d : PyData} (h : Pl d) : SeqAt.shaped d = true := by
  unfold SeqAt.shaped
  rw [(pl_facts d h.p).1, decide_eq_true h.dep]
  rfl
theorem Pl.refl {d : PyData} (h : Pl d) : PyData.eqv d d = true := (pl_facts d h.p).2.2.2
theorem Pl.len {d : PyData} (h : Pl d) : d.shown.length ≤ sizeLine := by
  have q := PyData.shown_le_bulk 13 (by decide) d (pl_facts d h.p).2.1
  have := h.blk
  rw [sizeLine_eq]
  omega
theorem Pl.repr {K : PySem.W.Frag} {d : PyData} (h : Pl d) : Fn K (rRepr K) [d] (.str d.shown) :=
  fn_repr (pl_facts d h.p).2.2.1 (PyData.hasDict_of_canLay d (pl_facts d h.p).1) (by have := h.dep; omega) h.len
theorem Pl.int {i : Int} (h : i.natAbs < 10 ^ 12) : Pl (.int i) := ⟨pl_int h, by rw [depth_int]; omega, by rw [bulk_int]; omega⟩
theorem Pl.ints {ns : List Int} (h : ∀ n ∈ ns, n.natAbs < 10 ^ 12) (hl : ns.length ≤ 100000) : Pl (.list (ns.map .int)) :=
  ⟨pl_list (pl_ints h), by have := depth_list (depth_ints ns); omega, by have := bulk_list (bulk_ints ns); rw [List.length_map] at this; omega⟩
section
variable {X : Cx} (K : PySem.W.Frag)
abbrev rNeR (K : PySem.W.Frag) : R2 := orR (rNeD K) rNe
abbrev rEqR (K : PySem.W.Frag) : R2 := orR (rEqD K) rEq
theorem neRK {k : Nat} (hr : Room k X.A) (h : X.K = K := by rfl) : OpR X (compareOp .NotEq) (rNeR K) := opr_or (neK K hr h) op_ne
theorem eqRK {k : Nat} (hr : Room k X.A) (h : X.K = K := by rfl) : OpR X (compareOp .Eq) (rEqR K) := opr_or (eqK K hr h) op_eq
end
end G
end
section
set_option maxRecDepth 100000
set_option maxHeartbeats 2000000
namespace G
open PySem PySem.Spec PyProof.Rows L2
theorem walk_gE {l : PySem.W.OpenLaw} {n k : Nat} {q : Program} {loose : List Str} {XP : (Str → Option Value) → Heap → Prop} {YP : World → Heap → Prop} {d : DefRec} {x : Str}
    (hn : l.most = some n) (hn2 : n ≤ sizeLine) (hdf : d.params.defaults = []) (hr : Room k callerA)
    (F : ∀ (w : World) (mg : Str → Option Value) (fa : Addr) (h : Heap), YP w h → h.Ns mainGlobals mg → mg d.name = some (.ref fa) →
      ∃ (K : PySem.W.Frag) (fd : FuncData) (sp : Sp), K.In h ∧ (∀ (s : Shared) (u : Value), BindsTo s fd ⟨[u], []⟩ [(x, u)]) ∧
        (∀ (H : Hp) (a : Addr) (ns : List Int), ns.length ≤ n → Only H → SqL K H a (ns.map V.int) → sp [.ref a] H (fun v _ => v = .bl true) fun _ _ _ => False) ∧
        ∀ base : Heap, K.In base → base.Ns mainGlobals mg → FnG l.prog w K mg base CX0 k fa fd [x] sp) :
    PySem.W.WalkO q loose XP YP l.row.toRowW d [] (fun f vs => PySem.call f vs) := by
  refine Att.attach_call hn hdf fun w s0 s1 mg mb fa o pm cd doc a vs ns G Y ho hd hcd hmg hobj hints hlen hg => ?_
  obtain ⟨K, fd, sp, KX, hb, hsp, hF⟩ := F w mg fa _ Y G.T.g hmg
  exact law_g KX G.T.g G.T.b G.T.builtins G.T.nolimit hg hobj hints (Nat.le_trans hlen hn2) hr hF hb (fun H hO hS => hsp H a ns hlen hO hS) fun _ _ _ z => z
theorem fun_of {K : PySem.W.Frag} {x : Str} {st : Stmt} {f : Addr} {fd : FuncData} (F : FunD K x x (defArgs st) (defBody st) (defScope st) [] [] f fd) : Fun K x x st f fd := by
  obtain ⟨oc, od, dV, kV, doc, pm, an, cdv, ct, osl, e, lk, hcd, hD, _⟩ := F.ex
  rcases hD with ⟨_, rfl⟩ | ⟨z, _⟩
  · exact ⟨⟨oc, od, kV, doc, pm, an, cdv, ct, osl, e, lk, hcd⟩, F.kp⟩
  · exact absurd rfl z
theorem has_of {K : PySem.W.Frag} {mg : Str → Option Value} {x : Str} {st : Stmt} {ps : List Str} {f : Addr} (F : ∃ fd, FunD K x x (defArgs st) (defBody st) (defScope st) [] [] f fd) (hm : mg x = some (.ref f))
    (h : ∀ (kV doc pm : Value) (an : Option Addr) (cdv ct : Value) (us : List Value), us.length = ps.length → bindArgs (PySem.W.fnOf x x (defArgs st) (defBody st) (defScope st) .none kV doc pm an cdv ct) ⟨us, []⟩ = pure (ps.zip us)) : Has K mg x st ps := by
  obtain ⟨fd, F⟩ := F
  exact ⟨f, fd, fun_of F, hm, F.bindsN h⟩
theorem law_end {P : Program} {w : World} {K : PySem.W.Frag} {mg : Str → Option Value} {x y : Str} {st : Stmt} {f : Addr} {k : Nat} {q : Sp} (F : ∃ fd, FunD K x x (defArgs st) (defBody st) (defScope st) [] [] f fd) (hm : mg x = some (.ref f))
    (h : ∀ (kV doc pm : Value) (an : Option Addr) (cdv ct : Value) (us : List Value), us.length = [y].length → bindArgs (PySem.W.fnOf x x (defArgs st) (defBody st) (defScope st) .none kV doc pm an cdv ct) ⟨us, []⟩ = pure ([y].zip us))
    (c : ∀ base : Heap, K.In base → base.Ns mainGlobals mg → Cal P w K mg base k x [y] q) :
    ∃ fd : FuncData, (∀ (s : Shared) (v : Value), BindsTo s fd ⟨[v], []⟩ [(y, v)]) ∧ ∀ base : Heap, K.In base → base.Ns mainGlobals mg → FnG P w K mg base CX0 k f fd [y] q := by
  obtain ⟨fd, F⟩ := F
  refine ⟨fd, fun s v => F.bindsA (ps := [y]) h s [v] rfl, fun base hb hn => ?_⟩
  obtain ⟨f2, fd2, hm2, ⟨_, o, lo, od⟩, _, FG⟩ := (c base hb hn).ex
  rw [hm] at hm2
  cases hm2
  obtain ⟨oc, od2, dV, kV, doc, pm, an, cdv, ct, osl, e, lk, _⟩ := F.ex
  rw [lo] at lk
  cases lk
  cases od
  exact FG
end G
end
section
set_option maxRecDepth 100000
set_option maxHeartbeats 2000000
namespace G
open PySem PySem.Spec PyProof.Rows L2
end G
end
section
set_option maxRecDepth 100000
set_option maxHeartbeats 2000000
namespace He
open PySem PySem.Spec PyProof.Rows L2
def kOf (n : Nat) (g : Addr → Option Obj) : PySem.W.Frag := frG g (sysModules :: asD g n)
structure SaysM (fa : List Fa) (fn : List DefD) (ex : PySem.W.Frag → Bool) (K : PySem.W.Frag) : Prop where
  d : SaysD fa fn K
  more : ex K = true
abbrev AlM : Type := AlD × Bool
def obsM (n : Nat) (fa : List Fa) (fn : List DefD) (ex : PySem.W.Frag → Bool) (g : Addr → Option Obj) : AlM := (obsD fa fn (kOf n g), ex (kOf n g))
def valM (fn : List DefD) : AlM := (valD fn, true)
theorem saysM_of {n : Nat} {fa : List Fa} {fn : List DefD} {ex : PySem.W.Frag → Bool} {g : Addr → Option Obj} (e : obsM n fa fn ex g = valM fn) : SaysM fa fn ex (kOf n g) :=
  ⟨congrArg (fun z : AlM => z.1) e, congrArg (fun z : AlM => z.2) e⟩
def hookM (n : Nat) (fa : List Fa) (fn : List DefD) (ex : PySem.W.Frag → Bool) : PySem.W.Hook where
  α := AlM
  obs := fun s => obsM n fa fn ex s.heap.get?
  val := fun _ => valM fn
  says := fun _ h => ∃ K : PySem.W.Frag, K.In h ∧ SaysM fa fn ex K
  of := fun _ _ e => ⟨_, frG_in, saysM_of e⟩
  keeps := fun _ _ _ ⟨K, hK, c⟩ k => ⟨K, PySem.W.Frag.In.keeps hK k, c⟩
theorem obsM_eq {n : Nat} {fa : List Fa} {fn : List DefD} {ex : PySem.W.Frag → Bool} {g : Addr → Option Obj} {s : Shared} (h : ∀ a, g a = s.heap.get? a) : obsM n fa fn ex g = (hookM n fa fn ex).obs s := by
  have e : g = s.heap.get? := funext h
  rw [e] <;> rfl
end He
namespace G
open PySem PySem.Spec PyProof.Rows L2
structure GTup (mg : Str → Option Value) (K : PySem.W.Frag) (x : Str) (vs : List V) : Prop where
  ex : ∃ a, mg x = some (.ref a) ∧ ∀ H : Hp, SqT K H a vs
theorem gtup_of {mg : Str → Option Value} {K : PySem.W.Frag} {x : Str} {vs : List He.Dv} (hm : mg x = some (.ref (He.ga K x))) (h : He.tupB K x vs = true) : GTup mg K x (vs.map (He.Dv.v K)) := ⟨⟨_, hm, fun H => He.tupB_ok h H⟩⟩
def tGT (K : PySem.W.Frag) (vs : List V) : TE := fun _ H Q => ∀ a, (∀ H' : Hp, SqT K H' a vs) → Q (.ref a) H
theorem pe_gtup {X : Cx} {x : Str} {vs : List V} {pos : Pos} (hg : Gl X x) (g : GTup X.mg X.K x vs) (hdb : (x == ("__debug__" : Str)) = false := by decide) : PE X (.Name x pos) (tGT X.K vs) := by
  obtain ⟨a, hm, hs⟩ := g.ex
  exact ⟨fun pins s σ H Q I h => (pe_glob (v := .ref a) hg hm rfl hdb).run pins s σ H Q I (h a hs)⟩
end G
end
section
set_option maxRecDepth 100000
set_option maxHeartbeats 4000000
namespace G
open PySem PySem.Spec PyProof.Rows L2
def smB (K : PySem.W.Frag) : Bool := match K.lookup sysModules with
  | some ⟨_, _, .dict _ _, _⟩ => true
  | _ => false
theorem smB_ok {K : PySem.W.Frag} (h : smB K = true) : ∃ o es n, K.lookup sysModules = some o ∧ o.data = .dict es n := by
  unfold smB at h
  split at h
  · rename_i c d es n sl e
    exact ⟨_, es, n, e, rfl⟩
  · cases h
mutual
inductive Dq (K : PySem.W.Frag) (H : Hp) : V → PyData → Prop
  | non : Dq K H .non .none
  | bl (b : Bool) : Dq K H (.bl b) (.bool b)
  | int (i : Int) : Dq K H (.int i) (.int i)
  | str (x : Str) : Dq K H (.str x) (.str x)
  | emp {a : Addr} (h : H a = some (.dK [])) : Dq K H (.ref a) (.dict [])
  | lst {a : Addr} {xs : List V} {ds : List PyData} (h : SqL K H a xs) (hs : DqAll K H xs ds) : Dq K H (.ref a) (.list ds)
  | tup {a : Addr} {xs : List V} {ds : List PyData} (h : SqT K H a xs) (hs : DqAll K H xs ds) : Dq K H (.ref a) (.tuple ds)
inductive DqAll (K : PySem.W.Frag) (H : Hp) : List V → List PyData → Prop
  | nil : DqAll K H [] []
  | cons {v : V} {vs : List V} {d : PyData} {ds : List PyData} (h : Dq K H v d) (t : DqAll K H vs ds) : DqAll K H (v :: vs) (d :: ds)
end
section
variable {X : Cx} {pins : List (Addr × Obj)} {σ : L2.St} {H : Hp} {s : Shared}
mutual
theorem Dq.shows (I : L2.Inv X pins σ H s) (sm : smB X.K = true) : ∀ (d : PyData) (v : V) (u : Value), Dq X.K H v d → RelV v u → ∃ as, Reads s.heap u d as ∧ sysModules ∉ as
  | _, _, _, .non, r => by
    cases r
    exact ⟨_, .none, fun z => nomatch z⟩
  | _, _, _, .bl b, r => by
    cases r
    exact ⟨_, .bool b, fun z => nomatch z⟩
  | _, _, _, .int i, r => by
    obtain ⟨t, rfl⟩ := r
    exact ⟨_, .int i t, fun z => nomatch z⟩
  | _, _, _, .str x, r => by
    obtain ⟨t, rfl⟩ := r
    exact ⟨_, .str x t, fun z => nomatch z⟩
  | _, _, _, .emp (a := a) h, r => by
    cases r
    obtain ⟨_, ne, vs, kv, o, es, ep, ho, hx, hd, hk, hp, _⟩ : ObjOk X.prog X.w H s.heap a (.dK []) := I.hok a _ h
    cases kv
    have e0 : es.toList = [] := by
      cases c : es.toList with
      | nil => rfl
      | cons y ys => rw [c] at hp; cases hp
    have q1 : ReadsAll s.heap (es.toList.map (·.key)) (([] : List (PyData × PyData)).map (·.1)) [] := by rw [e0]; exact .nil
    have q2 : ReadsAll s.heap (es.toList.map (·.val)) (([] : List (PyData × PyData)).map (·.2)) [] := by rw [e0]; exact .nil
    refine ⟨a :: [] ++ [], .dict ho hx.1 hd q1 q2, fun z => ?_⟩
    have z1 : sysModules = a := by simpa using z
    rw [z1] at ne
    simp at ne
  | _, _, _, .lst (a := a) (ds := ds) hs ha, r => by
    cases r
    obtain ⟨its, rv, ⟨o, n, ho, hc, _, hd⟩, _⟩ := I.list hs
    obtain ⟨as, hr, na⟩ := DqAll.shows I sm ds _ its ha rv
    refine ⟨a :: as, .list ho hc hd hr, fun z => ?_⟩
    rcases List.mem_cons.mp z with z | z
    · obtain ⟨o2, es, k, l2, d2⟩ := smB_ok sm
      have q := I.kIn _ _ l2
      rw [z, ho] at q
      cases q
      rw [hd] at d2
      cases d2
    · exact na z
  | _, _, _, .tup (ds := ds) hs ha, r => by
    cases r
    obtain ⟨its, rv, ⟨o, ho, hc, n, hd⟩, _⟩ := I.tuple hs
    obtain ⟨as, hr, na⟩ := DqAll.shows I sm ds _ its ha rv
    exact ⟨as, .tuple ho hc hd hr, na⟩
theorem DqAll.shows (I : L2.Inv X pins σ H s) (sm : smB X.K = true) : ∀ (ds : List PyData) (vs : List V) (us : List Value), DqAll X.K H vs ds → Vals vs us → ∃ as, ReadsAll s.heap us ds as ∧ sysModules ∉ as
  | _, _, _, .nil, r => by
    cases r
    exact ⟨_, .nil, fun z => nomatch z⟩
  | _, _, _, .cons (d := d) (ds := ds) h1 h2, r => by
    cases r with
    | cons r1 r2 =>
      obtain ⟨as, q1, n1⟩ := Dq.shows I sm d _ _ h1 r1
      obtain ⟨bs, q2, n2⟩ := DqAll.shows I sm ds _ _ h2 r2
      exact ⟨as ++ bs, .cons q1 q2, fun z => (List.mem_append.mp z).elim n1 n2⟩
end
def rReprQ (K : PySem.W.Frag) : List V → Hp → VK → Prop := fun xs H Q => ∃ v d, xs = [v] ∧ Dq K H v d ∧ d.showable = true ∧ d.depth ≤ 100 ∧ d.shown.length ≤ sizeLine ∧ Q (.str d.shown) H
theorem call_reprQ {k : Nat} (sm : smB X.K = true) (hg : X.A.guards = some []) (hr : Room k X.A) : CallR X (.builtin "repr") (rReprQ X.K) := by
  intro pins s σ H xs us Q I r h
  obtain ⟨v, d, rfl, hd, hs, hp, hz, q⟩ := h
  obtain ⟨u, rfl, ru⟩ := vals1 r
  obtain ⟨as, rd, na⟩ := Dq.shows I sm d _ _ hd ru
  have room := hr.un
  have simple : ∀ (t : Tok), EP X pins σ Q (.str d.shown t) { s with toks := s.toks + 1 } := fun t => ⟨.str d.shown, H, I.tok _, ⟨t, rfl⟩, q⟩
  have deep : ∀ {a : Addr}, Reads s.heap (.ref a) d as → wpAny (model X.prog X.w) X.A (call (.builtin "repr") [.ref a]) (EP X pins σ Q) X.xe s := fun {a} rd =>
    repr_of_reads' rd hs (fun _ => na) hg (by omega) (fun _ _ e => e) (fun h' t tk hk => ⟨.str d.shown, H, I.kept hk, ⟨t, rfl⟩, q⟩) hz
  cases hd with
  | non =>
    obtain rfl : u = Value.none := ru
    exact PySem.P.repr_of_none (by simpa only [PyData.shown] using simple _)
  | bl b =>
    obtain rfl : u = Value.bool b := ru
    exact PySem.P.repr_of_bool (by simpa only [PyData.shown] using simple _)
  | int i =>
    obtain ⟨t, rfl⟩ := ru
    exact PySem.P.repr_of_int (by simpa [PyData.showable] using hs) (by simpa only [PyData.shown] using simple _)
  | str x =>
    obtain ⟨t, rfl⟩ := ru
    exact PySem.P.repr_of_str (by simpa only [PyData.shown] using simple _) (by simpa only [PyData.shown] using hz)
  | emp _ => obtain rfl := ru; exact deep rd
  | lst _ _ => obtain rfl := ru; exact deep rd
  | tup _ _ => obtain rfl := ru; exact deep rd
theorem reprQK {K : PySem.W.Frag} {k : Nat} (sm : smB K = true) (hg : X.A.guards = some []) (hr : Room k X.A) (h : X.K = K := by rfl) : CallR X (.builtin "repr") (rReprQ K) := by
  subst h
  exact call_reprQ sm hg hr
end
section
variable {K : PySem.W.Frag} {B H : Hp} {ρ : Rho}
mutual
theorem Da.dq : ∀ {v : V} {d : PyData}, Da K B v d → Dq K B v d
  | _, _, .non => .non
  | _, _, .bl b => .bl b
  | _, _, .int i => .int i
  | _, _, .str x => .str x
  | _, _, .lst h a => .lst h a.dq
  | _, _, .tup h a => .tup h a.dq
  | _, _, .emp h => .emp h
theorem DaAll.dq : ∀ {vs : List V} {ds : List PyData}, DaAll K B vs ds → DqAll K B vs ds
  | _, _, .nil => .nil
  | _, _, .cons h t => .cons h.dq t.dq
end
theorem fn_reprQ {d : PyData} (hs : d.showable = true) (hp : d.depth ≤ 100) (hz : d.shown.length ≤ sizeLine) : Fn K (rReprQ K) [d] (.str d.shown) := fun B H s us hu Q q => by
  cases hu with
  | cons h t =>
    cases t
    exact ⟨_, d, rfl, (h.mono s).dq, hs, hp, hz, q _ B H (.refl s) (.str _)⟩
end
end G
end
section
set_option maxRecDepth 100000
set_option maxHeartbeats 4000000
namespace G
open PySem PySem.Spec PyProof.Rows L2
def caO (cls : Value) (d : Option Addr) (a : Addr) : HO := .ext fun h => ∃ (o : Obj) (vs : Array Value), h.get? a = some o ∧ Zc cls d o ∧ o.data = .fields vs
end G
namespace G
open PySem PySem.Spec PyProof.Rows L2
end G
end
section
set_option maxRecDepth 100000
set_option maxHeartbeats 4000000
namespace G
open PySem PySem.Spec PyProof.Rows L2
structure ErrC (K : PySem.W.Frag) (C fI : Addr) : Prop where
  o : OexC K C
  x : XfC K C
  ini : PySem.W.findIn K (.ref C) "__init__" = some (some (.ref fI))
  val : PySem.W.findIn K (.ref C) "value" = some none
  fn : PySem.W.typeIn K (.ref fI) = some (.type "function")
  self : PySem.W.exmOne K (.ref C) (.ref C) = some true
end G
namespace G
open PySem PySem.Spec PyProof.Rows L2
end G
end
section
set_option maxRecDepth 100000
set_option maxHeartbeats 2000000
namespace N
open PySem PySem.Spec PyProof.Rows L2 G
inductive Vd where
  | d (x : PyData)
  | r (n : Nat)
inductive Ent where
  | lst (xs : List Vd)
  | frz (x : PyData)
  | nod (tup : Bool) (xs : List Vd)
  | jnk
  | err (x : PyData)
  | dct (kvs : List (Int × Int))
def nodO (tup : Bool) (vs : List V) : HO := if tup = true then .tup vs else .lst vs
def nodD (tup : Bool) (xs : List PyData) : PyData := if tup = true then .tuple xs else .list xs
abbrev Hd := List Ent
abbrev Rh := List (Option Vd)
inductive Oc (α : Type) where
  | ok (a : α) (h : Hd)
  | ex (c : Str) (x : PyData) (h : Hd)
  | no
def Oc.bind {α β : Type} (o : Oc α) (k : α → Hd → Oc β) : Oc β := match o with
  | .ok a h => k a h
  | .ex c x h => .ex c x h
  | .no => .no
@[simp] theorem Oc.bind_ok {α β : Type} (a : α) (h : Hd) (k : α → Hd → Oc β) : (Oc.ok a h).bind k = k a h := rfl
@[simp] theorem Oc.bind_ex {α β : Type} (c : Str) (x : PyData) (h : Hd) (k : α → Hd → Oc β) : (Oc.ex c x h : Oc α).bind k = .ex c x h := rfl
@[simp] theorem Oc.bind_no {α β : Type} (k : α → Hd → Oc β) : (Oc.no : Oc α).bind k = .no := rfl
inductive VR (K : PySem.W.Frag) (B : Hp) (m : List Addr) : Vd → V → Prop
  | d {x : PyData} {v : V} (h : Da K B v x) : VR K B m (.d x) v
  | r {n : Nat} {a : Addr} (h : m[n]? = some a) : VR K B m (.r n) (.ref a)
inductive VRs (K : PySem.W.Frag) (B : Hp) (m : List Addr) : List Vd → List V → Prop
  | nil : VRs K B m [] []
  | cons {x : Vd} {xs : List Vd} {v : V} {vs : List V} (h : VR K B m x v) (t : VRs K B m xs vs) : VRs K B m (x :: xs) (v :: vs)
def dctV (kvs : List (Int × Int)) : List (Key × V) := kvs.map fun p => (.inl p.1, V.int p.2)
def ErrAt (K : PySem.W.Frag) (B : Hp) (a : Addr) (x : PyData) : Prop := ∃ (C dd : Addr) (v : V), XfC K C ∧ PySem.W.findIn K (.ref C) "value" = some none ∧ B a = some (caO (.ref C) (some dd) a) ∧ B dd = some (.xd [("value", v)]) ∧ Da K B v x
theorem ErrAt.mono {K : PySem.W.Frag} {B B1 : Hp} {a : Addr} {x : PyData} (e : ErrAt K B a x) (bb : Same B B1) : ErrAt K B1 a x := by
  obtain ⟨C, dd, v, h1, h2, h3, h4, h5⟩ := e
  exact ⟨C, dd, v, h1, h2, bb _ _ h3, bb _ _ h4, h5.mono bb⟩
def EntR (K : PySem.W.Frag) (B H : Hp) (m : List Addr) (a : Addr) : Ent → Prop
  | .lst xs => B a = none ∧ ∃ vs, H a = some (.lst vs) ∧ VRs K B m xs vs
  | .frz x => Da K B (.ref a) x ∧ H a ≠ none
  | .nod tup xs => B a = none ∧ ∃ vs, H a = some (nodO tup vs) ∧ VRs K B m xs vs
  | .jnk => B a = none ∧ H a ≠ none
  | .err x => ErrAt K B a x ∧ H a ≠ none
  | .dct kvs => B a = none ∧ H a = some (.dK (dctV kvs))
structure WOk (K : PySem.W.Frag) (B H : Hp) (m : List Addr) (h : Hd) : Prop where
  sub : Same B H
  len : m.length = h.length
  nd : m.Nodup
  ent : ∀ (n : Nat) (a : Addr) (e : Ent), m[n]? = some a → h[n]? = some e → EntR K B H m a e
structure Gm (m : List Addr) (B H B' H' : Hp) (m' : List Addr) : Prop where
  bb : Same B B'
  ex : ∀ a o, a ∉ m → H a = some o → H' a = some o
  new : ∀ a o, B' a = some o → B a = none → H a = none ∨ a ∈ m
  kp : ∀ a, H a ≠ none → H' a ≠ none
  ext : ∃ l, m' = m ++ l ∧ ∀ a ∈ l, H a = none
section
variable {K : PySem.W.Frag} {B H B1 H1 B2 H2 : Hp} {m m1 m2 : List Addr} {h : Hd}
theorem pre_at {α : Type} {m l : List α} {n : Nat} {a : α} (e : m[n]? = some a) : (m ++ l)[n]? = some a := by
  rw [List.getElem?_append_left (List.getElem?_eq_some_iff.mp e).1]
  exact e
theorem VR.mono {x : Vd} {v : V} (r : VR K B m x v) (bb : Same B B1) (l : List Addr) : VR K B1 (m ++ l) x v := by
  cases r with
  | d h => exact .d (h.mono bb)
  | r h => exact .r (pre_at h)
theorem VRs.mono {xs : List Vd} {vs : List V} (r : VRs K B m xs vs) (bb : Same B B1) (l : List Addr) : VRs K B1 (m ++ l) xs vs := by
  induction r with
  | nil => exact .nil
  | cons h t ih => exact .cons (h.mono bb l) ih
theorem VR.gm {x : Vd} {v : V} (r : VR K B m x v) (g : Gm m B H B1 H1 m1) : VR K B1 m1 x v := by
  obtain ⟨l, rfl, _⟩ := g.ext
  exact r.mono g.bb l
theorem VRs.gm {xs : List Vd} {vs : List V} (r : VRs K B m xs vs) (g : Gm m B H B1 H1 m1) : VRs K B1 m1 xs vs := by
  obtain ⟨l, rfl, _⟩ := g.ext
  exact r.mono g.bb l
theorem VRs.len {xs : List Vd} {vs : List V} (r : VRs K B m xs vs) : vs.length = xs.length := by
  induction r with
  | nil => rfl
  | cons _ _ ih => exact congrArg Nat.succ ih
theorem VRs.at {xs : List Vd} {vs : List V} (r : VRs K B m xs vs) : ∀ {n : Nat} {x : Vd}, xs[n]? = some x → ∃ v, vs[n]? = some v ∧ VR K B m x v := by
  induction r with
  | nil => intro n x e; simp at e
  | cons h t ih =>
    intro n x e
    cases n with
    | zero => simp at e; subst e; exact ⟨_, rfl, h⟩
    | succ n => exact ih (by simpa using e)
theorem VRs.app {xs ys : List Vd} {vs ws : List V} (r : VRs K B m xs vs) (q : VRs K B m ys ws) : VRs K B m (xs ++ ys) (vs ++ ws) := by
  induction r with
  | nil => exact q
  | cons h t ih => exact .cons h ih
theorem VRs.set {xs : List Vd} {vs : List V} (r : VRs K B m xs vs) {x : Vd} {v : V} (q : VR K B m x v) : ∀ n, VRs K B m (xs.set n x) (vs.set n v) := by
  induction r with
  | nil => exact fun _ => .nil
  | cons h t ih =>
    intro n
    cases n with
    | zero => exact .cons q t
    | succ n => exact .cons h (ih n)
theorem VRs.take {xs : List Vd} {vs : List V} (r : VRs K B m xs vs) : ∀ n, VRs K B m (xs.take n) (vs.take n) := by
  induction r with
  | nil => intro n; simp; exact .nil
  | cons h t ih =>
    intro n
    cases n with
    | zero => exact .nil
    | succ n => exact .cons h (ih n)
theorem VRs.drop {xs : List Vd} {vs : List V} (r : VRs K B m xs vs) : ∀ n, VRs K B m (xs.drop n) (vs.drop n) := by
  induction r with
  | nil => intro n; simp; exact .nil
  | cons h t ih =>
    intro n
    cases n with
    | zero => exact .cons h t
    | succ n => exact ih n
theorem VRs.rev {xs : List Vd} {vs : List V} (r : VRs K B m xs vs) : VRs K B m xs.reverse vs.reverse := by
  induction r with
  | nil => exact .nil
  | cons h t ih => rw [List.reverse_cons, List.reverse_cons]; exact ih.app (.cons h .nil)
theorem VRs.all {ds : List PyData} {vs : List V} (r : DaAll K B vs ds) : VRs K B m (ds.map .d) vs := by
  induction ds generalizing vs with
  | nil => cases r; exact .nil
  | cons d ds ih => cases r with
    | cons h t => exact .cons (.d h) (ih t)
theorem VRs.data {ds : List PyData} {vs : List V} (r : VRs K B m (ds.map .d) vs) : DaAll K B vs ds := by
  induction ds generalizing vs with
  | nil => cases r; exact .nil
  | cons d ds ih => cases r with
    | cons h t => cases h with
      | d h => exact .cons h (ih t)
theorem WOk.at (w : WOk K B H m h) {n : Nat} {e : Ent} (q : h[n]? = some e) : ∃ a, m[n]? = some a ∧ EntR K B H m a e := by
  have l : n < m.length := by rw [w.len]; exact (List.getElem?_eq_some_iff.mp q).1
  exact ⟨_, List.getElem?_eq_getElem l, w.ent n _ e (List.getElem?_eq_getElem l) q⟩
theorem WOk.tracked (w : WOk K B H m h) {a : Addr} (q : a ∈ m) : H a ≠ none := by
  obtain ⟨n, hn, e⟩ := List.getElem_of_mem q
  have l : n < h.length := by rw [← w.len]; exact hn
  have z := w.ent n a h[n] (by rw [List.getElem?_eq_getElem hn, e]) (List.getElem?_eq_getElem l)
  match hh : h[n], z with
  | .lst xs, z => obtain ⟨_, vs, q, _⟩ := z; rw [q]; simp
  | .frz x, z => exact z.2
  | .nod _ xs, z => obtain ⟨_, vs, q, _⟩ := z; rw [q]; simp
  | .jnk, z => exact z.2
  | .err x, z => exact z.2
  | .dct _, z => rw [z.2]; simp
theorem Gm.refl (w : WOk K B H m h) : Gm m B H B H m :=
  ⟨Same.refl _, fun _ _ _ e => e, fun a o e n => (by rw [n] at e; cases e), fun _ e => e, [], by simp, by simp⟩
theorem Gm.trans (k : Gm m B H B1 H1 m1) (w : WOk K B H m h) (l : Gm m1 B1 H1 B2 H2 m2) : Gm m B H B2 H2 m2 := by
  obtain ⟨l1, rfl, f1⟩ := k.ext
  obtain ⟨l2, rfl, f2⟩ := l.ext
  have notin : ∀ {a o}, a ∉ m → H a = some o → a ∉ m ++ l1 := fun {a o} n e z => by
    rcases List.mem_append.mp z with z | z
    · exact n z
    · rw [f1 a z] at e; cases e
  refine ⟨k.bb.trans l.bb, fun a o n e => l.ex a o (notin n e) (k.ex a o n e), fun a o e n => ?_, fun a e => l.kp a (k.kp a e), l1 ++ l2, by rw [List.append_assoc], fun a z => ?_⟩
  · cases q : B1 a with
    | some u => exact k.new a u q n
    | none =>
      rcases l.new a o e q with z | z
      · cases c : H a with
        | none => exact .inl rfl
        | some u => exact absurd z (k.kp a (by rw [c]; simp))
      · rcases List.mem_append.mp z with z | z
        · exact .inr z
        · exact .inl (f1 a z)
  · rcases List.mem_append.mp z with z | z
    · exact f1 a z
    · have c := f2 a z
      cases d : H a with
      | none => rfl
      | some u => exact absurd c (k.kp a (by rw [d]; simp))
theorem Gm.of (w : WOk K B H m h) (k : Gr B H B1 H1) : Gm m B H B1 H1 m :=
  ⟨k.bb, fun a o _ e => k.ex a o e, fun a o e n => .inl (k.new a o e n), fun a e => (by
    cases c : H a with
    | none => exact absurd c e
    | some u => rw [k.ex a u c]; simp), [], by simp, by simp⟩
theorem WOk.gr (w : WOk K B H m h) (k : Gr B H B1 H1) : WOk K B1 H1 m h := by
  refine ⟨k.sub, w.len, w.nd, fun n a e p q => ?_⟩
  have z := w.ent n a e p q
  match e, z with
  | .lst xs, ⟨z1, vs, z2, z3⟩ =>
    refine ⟨?_, vs, k.ex _ _ z2, by simpa using z3.mono k.bb []⟩
    cases c : B1 a with
    | none => rfl
    | some o => exact absurd (k.new a o c z1) (by rw [z2]; simp)
  | .frz x, ⟨z1, z2⟩ =>
    refine ⟨z1.mono k.bb, ?_⟩
    cases c : H a with
    | none => exact absurd c z2
    | some u => rw [k.ex a u c]; simp
  | .err x, ⟨z1, z2⟩ =>
    refine ⟨z1.mono k.bb, ?_⟩
    cases c : H a with
    | none => exact absurd c z2
    | some u => rw [k.ex a u c]; simp
  | .dct _, ⟨z1, z2⟩ =>
    refine ⟨?_, k.ex _ _ z2⟩
    cases c : B1 a with
    | none => rfl
    | some o => exact absurd (k.new a o c z1) (by rw [z2]; simp)
  | .nod _ xs, ⟨z1, vs, z2, z3⟩ =>
    refine ⟨?_, vs, k.ex _ _ z2, by simpa using z3.mono k.bb []⟩
    cases c : B1 a with
    | none => rfl
    | some o => exact absurd (k.new a o c z1) (by rw [z2]; simp)
  | .jnk, ⟨z1, z2⟩ =>
    cases c : H a with
    | none => exact absurd c z2
    | some u =>
      refine ⟨?_, by rw [k.ex a u c]; simp⟩
      cases c2 : B1 a with
      | none => rfl
      | some o => exact absurd (k.new a o c2 z1) z2
theorem wok_nil (s : Same B H) : WOk K B H [] [] := ⟨s, rfl, .nil, fun n a e p _ => by simp at p⟩
end
structure EnvN (K : PySem.W.Frag) (B : Hp) (m : List Addr) (σ : L2.St) (ρ : Rh) : Prop where
  len : σ.length = ρ.length
  look : ∀ (i : Nat) (x : Vd), ρ[i]? = some (some x) → ∃ v, σ[i]? = some (some v) ∧ VR K B m x v
section
variable {K : PySem.W.Frag} {B H B1 H1 : Hp} {m m1 : List Addr} {σ : L2.St} {ρ : Rh}
theorem EnvN.gm (e : EnvN K B m σ ρ) (g : Gm m B H B1 H1 m1) : EnvN K B1 m1 σ ρ := ⟨e.len, fun i x q => by
  obtain ⟨v, h1, h2⟩ := e.look i x q
  exact ⟨v, h1, h2.gm g⟩⟩
theorem EnvN.put (e : EnvN K B m σ ρ) (i : Nat) {ov : Option V} {ox : Option Vd} (hv : ∀ x, ox = some x → ∃ v, ov = some v ∧ VR K B m x v) : EnvN K B m (σ.set i ov) (ρ.set i ox) :=
  ⟨by rw [List.length_set, List.length_set]; exact e.len, fun j x q => by
    by_cases c : i = j
    · subst c
      have l : i < ρ.length := by
        have z := (List.getElem?_eq_some_iff.mp q).1
        rw [List.length_set] at z
        exact z
      rw [List.getElem?_set_self l] at q
      obtain ⟨v, rfl, hr⟩ := hv x (Option.some.inj q)
      exact ⟨v, by rw [List.getElem?_set_self (by rw [e.len]; exact l)], hr⟩
    · rw [List.getElem?_set_ne c] at q
      obtain ⟨w, h1, h2⟩ := e.look j x q
      exact ⟨w, by rw [List.getElem?_set_ne c]; exact h1, h2⟩⟩
theorem EnvN.set (e : EnvN K B m σ ρ) {x : Vd} {v : V} (hv : VR K B m x v) (i : Nat) : EnvN K B m (σ.set i (some v)) (ρ.set i (some x)) :=
  e.put i fun y hy => by cases hy; exact ⟨v, rfl, hv⟩
theorem EnvN.unset (e : EnvN K B m σ ρ) (i : Nat) (ov : Option V) : EnvN K B m (σ.set i ov) (ρ.set i none) := e.put i fun y hy => nomatch hy
end
def wipeN (ρ : Rh) : List Nat → Rh
  | [] => ρ
  | v :: vs => (wipeN ρ vs).set v none
theorem EnvN.wiped {K : PySem.W.Frag} {B : Hp} {m : List Addr} {σ : L2.St} {ρ : Rh} (e : EnvN K B m σ ρ) : ∀ vs, EnvN K B m (wipe σ vs) (wipeN ρ vs)
  | [] => e
  | v :: vs => (e.wiped vs).unset v none
def startN (n : Nat) (xs : List Vd) : Rh := xs.map some ++ List.replicate (n - xs.length) none
theorem envn_start {K : PySem.W.Frag} {B : Hp} {m : List Addr} {N : List Str} {vs : List V} {xs : List Vd} (h : VRs K B m xs vs) : EnvN K B m (L2.start N vs) (startN N.length xs) := by
  have hl := h.len
  refine ⟨by unfold L2.start startN; simp [hl], fun i d q => ?_⟩
  unfold startN at q
  by_cases hi : i < xs.length
  · rw [List.getElem?_append_left (by simpa using hi), List.getElem?_map] at q
    cases e : xs[i]? with
    | none => rw [e] at q; cases q
    | some c =>
      rw [e] at q
      cases q
      obtain ⟨v, h1, h2⟩ := h.at e
      refine ⟨v, ?_, h2⟩
      unfold L2.start
      rw [List.getElem?_append_left (by simpa [hl] using hi), List.getElem?_map, h1]
      rfl
  · rw [List.getElem?_append_right (by simpa using hi), List.getElem?_replicate] at q
    split at q <;> cases q
end N
end
section
set_option maxRecDepth 100000
set_option maxHeartbeats 2000000
namespace N
open PySem PySem.Spec PyProof.Rows L2 G
def mapO {α β : Type} (f : α → Option β) : List α → Option (List β)
  | [] => some []
  | x :: xs => match f x with
    | none => none
    | some y => match mapO f xs with
      | none => none
      | some ys => some (y :: ys)
def mapH {α β : Type} (f : Hd → α → Option (β × Hd)) : Hd → List α → Option (List β × Hd)
  | h, [] => some ([], h)
  | h, x :: xs => match f h x with
    | none => none
    | some (y, h1) => match mapH f h1 xs with
      | none => none
      | some (ys, h2) => some (y :: ys, h2)
def pk : Nat → Hd → Vd → Option PyData
  | _, _, .d x => some x
  | 0, _, .r _ => none
  | k + 1, h, .r n => match h[n]? with
    | some (.frz x) => some x
    | some (.lst xs) => (mapO (pk k h) xs).map .list
    | some (.nod tup xs) => (mapO (pk k h) xs).map (nodD tup)
    | some .jnk => none
    | some (.err _) => none
    | some (.dct _) => none
    | none => none
def fz : Nat → Hd → Vd → Option (PyData × Hd)
  | _, h, .d x => some (x, h)
  | 0, _, .r _ => none
  | k + 1, h, .r n => match h[n]? with
    | some (.frz x) => some (x, h)
    | some (.lst xs) => match mapH (fz k) h xs with
      | none => none
      | some (ds, h1) => some (.list ds, h1.set n (.frz (.list ds)))
    | some (.nod tup xs) => match mapH (fz k) h xs with
      | none => none
      | some (ds, h1) => some (nodD tup ds, h1.set n (.frz (nodD tup ds)))
    | some .jnk => none
    | some (.err _) => none
    | some (.dct _) => none
    | none => none
def look (h : Hd) (x : Vd) : Option PyData := pk 4 h x
def lookL (h : Hd) (xs : List Vd) : Option (List PyData) := mapO (look h) xs
def frz (h : Hd) (x : Vd) : Option (PyData × Hd) := fz 4 h x
def frzL (h : Hd) (xs : List Vd) : Option (List PyData × Hd) := mapH frz h xs
def lnd (B H : Hp) (m : List Addr) : Hp := fun a => if a ∈ m then H a else B a
def atom : PyData → Bool
  | .none => true
  | .bool _ => true
  | .int _ => true
  | .str _ => true
  | _ => false
def datas : List Vd → Option (List PyData)
  | [] => some []
  | .d x :: xs => match datas xs with
    | none => none
    | some ys => some (x :: ys)
  | .r _ :: _ => none
section
variable {K : PySem.W.Frag} {B H B1 H1 : Hp} {m m1 : List Addr} {h : Hd}
theorem lnd_sub (s : Same B H) : Same (lnd B H m) H := fun a o e => by
  unfold lnd at e
  split at e
  · exact e
  · exact s a o e
theorem lnd_up (s : Same B H) : Same B (lnd B H m) := fun a o e => by
  unfold lnd
  split
  · exact s a o e
  · exact e
theorem atom_any {v : V} {x : PyData} (a : atom x = true) (q : Da K B v x) : Da K B1 v x := by
  cases q with
  | non => exact .non
  | bl b => exact .bl b
  | int i => exact .int i
  | str s => exact .str s
  | lst _ _ => simp [atom] at a
  | tup _ _ => simp [atom] at a
  | emp _ => simp [atom] at a
theorem nod_da {B : Hp} {a : Addr} {tup : Bool} {vs : List V} {ds : List PyData} (h : B a = some (nodO tup vs)) (d : DaAll K B vs ds) : Da K B (.ref a) (nodD tup ds) := by
  cases tup with
  | true => exact .tup (.of h) d
  | false => exact .lst (.of h) d
theorem pk_ok (w : WOk K B H m h) : ∀ (k : Nat) {x : Vd} {d : PyData} {v : V}, pk k h x = some d → VR K B m x v → Da K (lnd B H m) v d
  | k, .d y, d, v, e, .d q => by
    unfold pk at e
    cases e
    exact q.mono (lnd_up w.sub)
  | 0, .r n, d, _, e, .r q => by simp [pk] at e
  | k + 1, .r n, d, _, e, .r (a := a) q => by
    unfold pk at e
    cases c : h[n]? with
    | none => rw [c] at e; simp at e
    | some en =>
      rw [c] at e
      have z := w.ent n a en q c
      cases en with
      | frz y =>
        cases e
        exact z.1.mono (lnd_up w.sub)
      | lst xs =>
        obtain ⟨_, vs, hv, rs⟩ := z
        simp only [Option.map_eq_some_iff] at e
        obtain ⟨ds, e1, rfl⟩ := e
        refine .lst (xs := vs) (.of (by unfold lnd; rw [if_pos (List.mem_of_getElem? q)]; exact hv)) ?_
        clear c hv
        induction rs generalizing ds with
        | nil => unfold mapO at e1; cases e1; exact .nil
        | cons hx _ ih =>
          unfold mapO at e1
          split at e1
          · cases e1
          · rename_i y ey
            split at e1
            · cases e1
            · rename_i ys eys
              cases e1
              exact .cons (pk_ok w k ey hx) (ih _ eys)
      | nod tup xs =>
        obtain ⟨_, vs, hv, rs⟩ := z
        simp only [Option.map_eq_some_iff] at e
        obtain ⟨ds, e1, rfl⟩ := e
        have lh : lnd B H m a = some (nodO tup vs) := by unfold lnd; rw [if_pos (List.mem_of_getElem? q)]; exact hv
        refine nod_da lh ?_
        clear c hv lh
        induction rs generalizing ds with
        | nil => unfold mapO at e1; cases e1; exact .nil
        | cons hx _ ih =>
          unfold mapO at e1
          split at e1
          · cases e1
          · rename_i y ey
            split at e1
            · cases e1
            · rename_i ys eys
              cases e1
              exact .cons (pk_ok w k ey hx) (ih _ eys)
      | jnk => cases e
      | err _ => cases e
      | dct _ => cases e
theorem lookL_ok (w : WOk K B H m h) {xs : List Vd} {ds : List PyData} {vs : List V} (e : lookL h xs = some ds) (r : VRs K B m xs vs) : DaAll K (lnd B H m) vs ds := by
  unfold lookL at e
  induction r generalizing ds with
  | nil => unfold mapO at e; cases e; exact .nil
  | cons hx _ ih =>
    unfold mapO at e
    split at e
    · cases e
    · rename_i y ey
      split at e
      · cases e
      · rename_i ys eys
        cases e
        exact .cons (pk_ok w 4 ey hx) (ih eys)
theorem datas_ok : ∀ {xs : List Vd} {ds : List PyData}, datas xs = some ds → xs = ds.map .d
  | [], _, e => by unfold datas at e; cases e; rfl
  | .d x :: xs, ds, e => by
    unfold datas at e
    split at e
    · cases e
    · rename_i ys q
      cases e
      rw [datas_ok q]
      rfl
  | .r _ :: _, _, e => by unfold datas at e; cases e
theorem frz_one (w : WOk K B H m h) {n : Nat} {a : Addr} {xs : List Vd} {vs : List V} {ds : List PyData} (q : m[n]? = some a) (hv : H a = some (.lst vs)) (hd : DaAll K B vs ds) :
    ∃ B1, Gm m B H B1 H m ∧ WOk K B1 H m (h.set n (.frz (.list ds))) ∧ Da K B1 (.ref a) (.list ds) := by
  have bb : Same B (upd B a (.lst vs)) := fun b o e => by
    by_cases c : b = a
    · subst c
      rw [upd_same]
      have := w.sub _ _ e
      rw [hv] at this
      exact this
    · rw [upd_ne c]
      exact e
  have da : Da K (upd B a (.lst vs)) (.ref a) (.list ds) := .lst (.of upd_same) (hd.mono bb)
  refine ⟨upd B a (.lst vs), ⟨bb, fun _ _ _ e => e, fun b o e e0 => ?_, fun _ e => e, [], by simp, by simp⟩, ⟨fun b o e => ?_, by rw [List.length_set]; exact w.len, w.nd, fun j b en p e => ?_⟩, da⟩
  · by_cases c : b = a
    · subst c; exact .inr (List.mem_of_getElem? q)
    · rw [upd_ne c, e0] at e; cases e
  · by_cases c : b = a
    · subst c; rw [upd_same] at e; rw [← e]; exact hv
    · rw [upd_ne c] at e; exact w.sub b o e
  · by_cases c : n = j
    · subst c
      have l : n < h.length := by
        have z := (List.getElem?_eq_some_iff.mp e).1
        rw [List.length_set] at z
        exact z
      rw [List.getElem?_set_self l] at e
      cases e
      rw [q] at p
      cases p
      exact ⟨da, by rw [hv]; simp⟩
    · rw [List.getElem?_set_ne c] at e
      have z := w.ent j b en p e
      have ne : b ≠ a := fun x => by
        subst x
        obtain ⟨h1, e1⟩ := List.getElem?_eq_some_iff.mp p
        obtain ⟨h2, e2⟩ := List.getElem?_eq_some_iff.mp q
        exact c ((List.getElem_inj w.nd).mp (e2.trans e1.symm))
      match en, z with
      | .lst ys, ⟨z1, us, z2, z3⟩ => exact ⟨by rw [upd_ne ne]; exact z1, us, z2, by simpa using z3.mono bb []⟩
      | .frz y, ⟨z1, z2⟩ => exact ⟨z1.mono bb, z2⟩
      | .nod _ ys, ⟨z1, us, z2, z3⟩ => exact ⟨by rw [upd_ne ne]; exact z1, us, z2, by simpa using z3.mono bb []⟩
      | .jnk, ⟨z1, z2⟩ => exact ⟨by rw [upd_ne ne]; exact z1, z2⟩
      | .err y, ⟨z1, z2⟩ => exact ⟨z1.mono bb, z2⟩
      | .dct _, ⟨z1, z2⟩ => exact ⟨by rw [upd_ne ne]; exact z1, z2⟩
theorem frz_nod (tup : Bool) (w : WOk K B H m h) {n : Nat} {a : Addr} {vs : List V} {ds : List PyData} (q : m[n]? = some a) (hv : H a = some (nodO tup vs)) (hd : DaAll K B vs ds) :
    ∃ B1, Gm m B H B1 H m ∧ WOk K B1 H m (h.set n (.frz (nodD tup ds))) ∧ Da K B1 (.ref a) (nodD tup ds) := by
  have bb : Same B (upd B a (nodO tup vs)) := fun b o e => by
    by_cases c : b = a
    · subst c
      rw [upd_same]
      have := w.sub _ _ e
      rw [hv] at this
      exact this
    · rw [upd_ne c]
      exact e
  have da : Da K (upd B a (nodO tup vs)) (.ref a) (nodD tup ds) := nod_da upd_same (hd.mono bb)
  refine ⟨upd B a (nodO tup vs), ⟨bb, fun _ _ _ e => e, fun b o e e0 => ?_, fun _ e => e, [], by simp, by simp⟩, ⟨fun b o e => ?_, by rw [List.length_set]; exact w.len, w.nd, fun j b en p e => ?_⟩, da⟩
  · by_cases c : b = a
    · subst c; exact .inr (List.mem_of_getElem? q)
    · rw [upd_ne c, e0] at e; cases e
  · by_cases c : b = a
    · subst c; rw [upd_same] at e; rw [← e]; exact hv
    · rw [upd_ne c] at e; exact w.sub b o e
  · by_cases c : n = j
    · subst c
      have l : n < h.length := by
        have z := (List.getElem?_eq_some_iff.mp e).1
        rw [List.length_set] at z
        exact z
      rw [List.getElem?_set_self l] at e
      cases e
      rw [q] at p
      cases p
      exact ⟨da, by rw [hv]; simp⟩
    · rw [List.getElem?_set_ne c] at e
      have z := w.ent j b en p e
      have ne : b ≠ a := fun x => by
        subst x
        obtain ⟨h1, e1⟩ := List.getElem?_eq_some_iff.mp p
        obtain ⟨h2, e2⟩ := List.getElem?_eq_some_iff.mp q
        exact c ((List.getElem_inj w.nd).mp (e2.trans e1.symm))
      match en, z with
      | .lst ys, ⟨z1, us, z2, z3⟩ => exact ⟨by rw [upd_ne ne]; exact z1, us, z2, by simpa using z3.mono bb []⟩
      | .frz y, ⟨z1, z2⟩ => exact ⟨z1.mono bb, z2⟩
      | .nod _ ys, ⟨z1, us, z2, z3⟩ => exact ⟨by rw [upd_ne ne]; exact z1, us, z2, by simpa using z3.mono bb []⟩
      | .jnk, ⟨z1, z2⟩ => exact ⟨by rw [upd_ne ne]; exact z1, z2⟩
      | .err y, ⟨z1, z2⟩ => exact ⟨z1.mono bb, z2⟩
      | .dct _, ⟨z1, z2⟩ => exact ⟨by rw [upd_ne ne]; exact z1, z2⟩
theorem mapH_ok {f : Hd → Vd → Option (PyData × Hd)} (ok : ∀ {B : Hp} {h : Hd} {x : Vd} {d : PyData} {h1 : Hd} {v : V}, WOk K B H m h → f h x = some (d, h1) → VR K B m x v → ∃ B1, Gm m B H B1 H m ∧ WOk K B1 H m h1 ∧ Da K B1 v d) :
    ∀ {xs : List Vd} {vs : List V} {B : Hp} {h : Hd} {ds : List PyData} {h1 : Hd}, WOk K B H m h → mapH f h xs = some (ds, h1) → VRs K B m xs vs → ∃ B1, Gm m B H B1 H m ∧ WOk K B1 H m h1 ∧ DaAll K B1 vs ds
  | [], _, B, h, ds, h1, w, e, .nil => by
    unfold mapH at e
    cases e
    exact ⟨B, .refl w, w, .nil⟩
  | x :: xs, _, B, h, ds, h1, w, e, .cons hx t => by
    unfold mapH at e
    split at e
    · cases e
    · rename_i y h2 ey
      split at e
      · cases e
      · rename_i ys h3 eys
        cases e
        obtain ⟨B1, g1, w1, d1⟩ := ok w ey hx
        obtain ⟨B2, g2, w2, d2⟩ := mapH_ok ok w1 eys (t.gm g1)
        exact ⟨B2, g1.trans w g2, w2, .cons (d1.mono g2.bb) d2⟩
theorem fz_ok : ∀ (k : Nat) {B : Hp} {h : Hd} {x : Vd} {d : PyData} {h1 : Hd} {v : V}, WOk K B H m h → fz k h x = some (d, h1) → VR K B m x v → ∃ B1, Gm m B H B1 H m ∧ WOk K B1 H m h1 ∧ Da K B1 v d
  | k, B, h, .d y, d, h1, v, w, e, .d q => by
    unfold fz at e
    cases e
    exact ⟨B, .refl w, w, q⟩
  | 0, B, h, .r n, d, h1, _, w, e, .r q => by simp [fz] at e
  | k + 1, B, h, .r n, d, h1, _, w, e, .r (a := a) q => by
    unfold fz at e
    cases c : h[n]? with
    | none => rw [c] at e; cases e
    | some en =>
      rw [c] at e
      have z := w.ent n a en q c
      cases en with
      | frz y =>
        cases e
        exact ⟨B, .refl w, w, z.1⟩
      | lst xs =>
        obtain ⟨_, vs, hv, rs⟩ := z
        dsimp only at e
        split at e
        · cases e
        · rename_i ds h2 e2
          cases e
          obtain ⟨B1, g1, w1, d1⟩ := mapH_ok (fun {B h x d h1 v} => fz_ok k) w e2 rs
          obtain ⟨B2, g2, w2, d2⟩ := frz_one (xs := xs) w1 q hv d1
          exact ⟨B2, g1.trans w g2, w2, d2⟩
      | nod tup xs =>
        obtain ⟨_, vs, hv, rs⟩ := z
        dsimp only at e
        split at e
        · cases e
        · rename_i ds h2 e2
          cases e
          obtain ⟨B1, g1, w1, d1⟩ := mapH_ok (fun {B h x d h1 v} => fz_ok k) w e2 rs
          obtain ⟨B2, g2, w2, d2⟩ := frz_nod tup w1 q hv d1
          exact ⟨B2, g1.trans w g2, w2, d2⟩
      | jnk => cases e
      | err _ => cases e
      | dct _ => cases e
theorem frz_ok {x : Vd} {d : PyData} {h1 : Hd} {v : V} (w : WOk K B H m h) (e : frz h x = some (d, h1)) (r : VR K B m x v) : ∃ B1, Gm m B H B1 H m ∧ WOk K B1 H m h1 ∧ Da K B1 v d := fz_ok 4 w e r
theorem frzL_ok {xs : List Vd} {ds : List PyData} {h1 : Hd} {vs : List V} (w : WOk K B H m h) (e : frzL h xs = some (ds, h1)) (r : VRs K B m xs vs) : ∃ B1, Gm m B H B1 H m ∧ WOk K B1 H m h1 ∧ DaAll K B1 vs ds :=
  mapH_ok (fun {B h x d h1 v} => fz_ok 4) w e r
end
end N
end
section
set_option maxRecDepth 100000
set_option maxHeartbeats 2000000
namespace N
open PySem PySem.Spec PyProof.Rows L2 G
structure Ctx where
  K : PySem.W.Frag
  CL : Str → Addr
abbrev Md := Option WX
def rV (C : Ctx) : Hp → List Addr → Vd → V → Prop := fun B m x v => VR C.K B m x v
def rL (C : Ctx) : Hp → List Addr → List Vd → List V → Prop := fun B m x v => VRs C.K B m x v
def rB : Hp → List Addr → Bool → Bool → Prop := fun _ _ x v => x = v
def Po {α β : Type} (C : Ctx) (md : Md) (σ : L2.St) (rel : Hp → List Addr → α → β → Prop) (m : List Addr) (B H : Hp) (oc : Oc α) (Q : β → Hp → Prop) : Prop :=
  match oc with
  | .ok x h' => ∀ v B' H' m', Gm m B H B' H' m' → WOk C.K B' H' m' h' → rel B' m' x v → Q v H'
  | .ex c x h' => ∃ W, md = some W ∧ ∀ dd v B' H' m', Gm m B H B' H' m' → WOk C.K B' H' m' h' → B' dd = none → H dd = none → dd ∉ m' → H' dd = some (.xd [("value", v)]) → Da C.K B' v x → W (.ref (C.CL c)) (some dd) σ H'
  | .no => False
section
variable {α β γ δ : Type} {C : Ctx} {md : Md} {σ : L2.St} {B H B1 H1 : Hp} {m m1 : List Addr} {h : Hd}
theorem Po.shift {rel : Hp → List Addr → α → β → Prop} {oc : Oc α} {Q : β → Hp → Prop} (g : Gm m B H B1 H1 m1) (w : WOk C.K B H m h) (q : Po C md σ rel m B H oc Q) : Po C md σ rel m1 B1 H1 oc Q := by
  cases oc with
  | ok x h' => exact fun v B' H' m' g2 w2 r => q v B' H' m' (g.trans w g2) w2 r
  | ex c x h' =>
    obtain ⟨W, e, k⟩ := q
    refine ⟨W, e, fun dd v B' H' m' g2 w2 b0 h0 n hx d => k dd v B' H' m' (g.trans w g2) w2 b0 ?_ n hx d⟩
    cases c : H dd with
    | none => rfl
    | some o => exact absurd h0 (g.kp dd (by rw [c]; simp))
  | no => exact q
theorem Po.chain {ra : Hp → List Addr → α → β → Prop} {rc : Hp → List Addr → γ → δ → Prop} {a : Oc α} {k : α → Hd → Oc γ} {Q : δ → Hp → Prop} {Q' : β → Hp → Prop} (w : WOk C.K B H m h) (q : Po C md σ rc m B H (a.bind k) Q)
    (f : ∀ x h1 v B1 H1 m1, a = .ok x h1 → Gm m B H B1 H1 m1 → WOk C.K B1 H1 m1 h1 → ra B1 m1 x v → Po C md σ rc m1 B1 H1 (k x h1) Q → Q' v H1) : Po C md σ ra m B H a Q' := by
  cases a with
  | ok x h1 => exact fun v B1 H1 m1 g w1 r => f x h1 v B1 H1 m1 rfl g w1 r (Po.shift g w q)
  | ex c x h1 => exact q
  | no => exact q
end
structure SE where
  ev : Rh → Hd → Oc Vd
  t : Ctx → Md → TE
  ok : ∀ (C : Ctx) (md : Md) (ρ : Rh) (h : Hd) (σ : L2.St) (B H : Hp) (m : List Addr) (Q : VK), EnvN C.K B m σ ρ → WOk C.K B H m h → Po C md σ (rV C) m B H (ev ρ h) Q → t C md σ H Q
structure SL where
  ev : Rh → Hd → Oc (List Vd)
  t : Ctx → Md → TA
  ok : ∀ (C : Ctx) (md : Md) (ρ : Rh) (h : Hd) (σ : L2.St) (B H : Hp) (m : List Addr) (Q : List V → Hp → Prop), EnvN C.K B m σ ρ → WOk C.K B H m h → Po C md σ (rL C) m B H (ev ρ h) Q → t C md σ H Q
structure SB where
  ev : Rh → Hd → Oc Bool
  t : Ctx → Md → TT
  ok : ∀ (C : Ctx) (md : Md) (ρ : Rh) (h : Hd) (σ : L2.St) (B H : Hp) (m : List Addr) (Q : Bool → Hp → Prop), EnvN C.K B m σ ρ → WOk C.K B H m h → Po C md σ rB m B H (ev ρ h) Q → t C md σ H Q
def fnV (f : List PyData → Option PyData) (rs : List Vd) (h : Hd) : Oc Vd :=
  match datas rs with
  | some xs => match f xs with
    | some z => .ok (.d z) h
    | none => .no
  | none => match lookL h rs with
    | none => .no
    | some xs => match f xs with
      | none => .no
      | some z => if atom z = true then .ok (.d z) h else match frzL h rs with
        | none => .no
        | some (ys, h1) => match f ys with
          | none => .no
          | some z1 => .ok (.d z1) h1
section
variable {C : Ctx} {md : Md} {σ : L2.St} {B H : Hp} {m : List Addr} {h : Hd}
theorem Po.ret {v : V} {x : Vd} {Q : VK} {B1 H1 : Hp} {m1 : List Addr} (q : Po C md σ (rV C) m B H (.ok x h) Q) (g : Gm m B H B1 H1 m1) (w : WOk C.K B1 H1 m1 h) (r : VR C.K B1 m1 x v) : Q v H1 := q v B1 H1 m1 g w r
theorem fnV_ok {f : List PyData → Option PyData} {r : List V → Hp → VK → Prop} (hf : ∀ xs z, f xs = some z → Fn C.K r xs z) {rs : List Vd} {vs : List V} {Q : VK} (w : WOk C.K B H m h) (rr : VRs C.K B m rs vs)
    (q : Po C md σ (rV C) m B H (fnV f rs h) Q) : r vs H Q := by
  unfold fnV at q
  split at q
  · rename_i xs e
    split at q
    · rename_i z ez
      rw [datas_ok e] at rr
      exact hf xs z ez B H w.sub vs rr.data Q fun u B' H' g d => q u B' H' m (.of w g) (w.gr g) (.d d)
    · exact q.elim
  · split at q
    · exact q.elim
    · rename_i xs e
      split at q
      · exact q.elim
      · rename_i z ez
        split at q
        · rename_i at_
          have da := lookL_ok w e rr
          refine hf xs z ez _ H (lnd_sub w.sub) vs da Q fun u B' H' g d => ?_
          have g2 : Gr B H B H' := ⟨g.ex, Same.refl _, w.sub.trans g.ex, fun a o p n => by rw [n] at p; cases p⟩
          exact q u B H' m (.of w g2) (w.gr g2) (.d (atom_any at_ d))
        · split at q
          · exact q.elim
          · rename_i ys h1 ef
            split at q
            · exact q.elim
            · rename_i z1 e1
              obtain ⟨B1, g1, w1, d1⟩ := frzL_ok w ef rr
              exact hf ys z1 e1 B1 H w1.sub vs d1 Q fun u B' H' g d => q u B' H' m (g1.trans w (.of w1 g)) (w1.gr g) (.d d)
end
structure O2 where
  f : PyData → PyData → Option PyData
  r : PySem.W.Frag → R2
  ok : ∀ K x y z, f x y = some z → Op2 K (r K) x y z
def f2 (f : PyData → PyData → Option PyData) : List PyData → Option PyData
  | [x, y] => f x y
  | _ => none
def r2L (r : R2) : List V → Hp → VK → Prop := fun us H Q => ∃ u v, us = [u, v] ∧ r u v H Q
theorem O2.fn (o : O2) (K : PySem.W.Frag) : ∀ xs z, f2 o.f xs = some z → Fn K (r2L (o.r K)) xs z := fun xs z e => by
  match xs, e with
  | [x, y], e =>
    intro B H s us hu Q q
    cases hu with
    | cons h1 t =>
      cases t with
      | cons h2 t =>
        cases t
        exact ⟨_, _, rfl, o.ok K x y z e B H s _ _ h1 h2 Q q⟩
structure O1 where
  f : PyData → Option PyData
  r : PySem.W.Frag → V → Hp → VK → Prop
  ok : ∀ K x z, f x = some z → Fn K (fun us H Q => ∃ u, us = [u] ∧ r K u H Q) [x] z
structure ON where
  f : List PyData → Option PyData
  r : PySem.W.Frag → List V → Hp → VK → Prop
  ok : ∀ K xs z, f xs = some z → Fn K (r K) xs z
namespace SE
def var (i : Nat) : SE where
  ev := fun ρ h => match ρ[i]? with
    | some (some x) => .ok x h
    | _ => .no
  t := fun _ _ => tVar i
  ok := fun C md ρ h σ B H m Q e w q => by
    split at q
    · rename_i x ex
      obtain ⟨v, h1, h2⟩ := e.look i x ex
      exact ⟨v, h1, q v B H m (.refl w) w h2⟩
    · exact q.elim
def const (d : PyData) (v : V) (ok : ∀ K B, Da K B v d) : SE where
  ev := fun _ h => .ok (.d d) h
  t := fun _ _ => tC v
  ok := fun C md ρ h σ B H m Q e w q => q v B H m (.refl w) w (.d (ok _ _))
abbrev int (i : Int) : SE := const (.int i) (.int i) fun _ _ => .int i
abbrev bl (b : Bool) : SE := const (.bool b) (.bl b) fun _ _ => .bl b
abbrev non : SE := const .none .non fun _ _ => .non
abbrev str (x : Str) : SE := const (.str x) (.str x) fun _ _ => .str x
def op (o : O2) (a b : SE) : SE where
  ev := fun ρ h => (a.ev ρ h).bind fun x h1 => (b.ev ρ h1).bind fun y h2 => fnV (f2 o.f) [x, y] h2
  t := fun C md => tOp (o.r C.K) (a.t C md) (b.t C md)
  ok := fun C md ρ h σ B H m Q e w q => by
    refine a.ok C md ρ h σ B H m _ e w (Po.chain w q fun x h1 u B1 H1 m1 ea g1 w1 r1 q1 => ?_)
    refine b.ok C md ρ h1 σ B1 H1 m1 _ (e.gm g1) w1 (Po.chain w1 q1 fun y h2 v B2 H2 m2 eb g2 w2 r2 q2 => ?_)
    obtain ⟨u', v', e', z⟩ := fnV_ok (o.fn C.K) w2 (.cons (VR.gm r1 g2) (.cons r2 .nil)) q2
    cases e'
    exact z
def un (o : O1) (a : SE) : SE where
  ev := fun ρ h => (a.ev ρ h).bind fun x h1 => fnV (fun xs => match xs with | [x] => o.f x | _ => none) [x] h1
  t := fun C md => tUn (o.r C.K) (a.t C md)
  ok := fun C md ρ h σ B H m Q e w q => by
    refine a.ok C md ρ h σ B H m _ e w (Po.chain w q fun x h1 u B1 H1 m1 ea g1 w1 r1 q1 => ?_)
    obtain ⟨u', e', z⟩ := fnV_ok (r := fun us H Q => ∃ u, us = [u] ∧ o.r C.K u H Q) (fun xs z ez => by
      match xs, ez with
      | [x], ez => exact o.ok C.K x z ez) w1 (.cons r1 .nil) q1
    cases e'
    exact z
def chain (o o' : O2) (a b c : SE) : SE where
  ev := fun ρ h => (a.ev ρ h).bind fun x h1 => (b.ev ρ h1).bind fun y h2 => (fnV (f2 o.f) [x, y] h2).bind fun k h3 => match k with
    | .d (.bool true) => (c.ev ρ h3).bind fun z h4 => fnV (f2 o'.f) [y, z] h4
    | .d (.bool false) => .ok (.d (.bool false)) h3
    | _ => .no
  t := fun C md => tChain (o.r C.K) (o'.r C.K) (a.t C md) (b.t C md) (c.t C md)
  ok := fun C md ρ h σ B H m Q e w q => by
    refine a.ok C md ρ h σ B H m _ e w (Po.chain w q fun x h1 u B1 H1 m1 ea g1 w1 r1 q1 => ?_)
    refine b.ok C md ρ h1 σ B1 H1 m1 _ (e.gm g1) w1 (Po.chain w1 q1 fun y h2 v B2 H2 m2 eb g2 w2 r2 q2 => ?_)
    have z := fnV_ok (md := md) (σ := σ) (r := r2L (o.r C.K)) (o.fn C.K) (Q := fun z H3 => ∃ k, z = .bl k ∧ (if k = true then c.t C md σ H3 fun w' H4 => o'.r C.K v w' H4 Q else Q (.bl false) H3)) w2 (.cons (VR.gm r1 g2) (.cons r2 .nil))
      (Po.chain w2 q2 fun k h3 kv B3 H3 m3 ek g3 w3 r3 q3 => by
        match k, r3, q3 with
        | .d (.bool true), .d (.bl _), q3 =>
          refine ⟨true, rfl, iteT (c.ok C md ρ h3 σ B3 H3 m3 _ (((e.gm g1).gm g2).gm g3) w3 (Po.chain w3 q3 fun z h4 zv B4 H4 m4 ez g4 w4 r4 q4 => ?_))⟩
          obtain ⟨u', v', e', z⟩ := fnV_ok (o'.fn C.K) w4 (.cons (VR.gm (VR.gm r2 g3) g4) (.cons r4 .nil)) q4
          cases e'
          exact z
        | .d (.bool false), .d (.bl _), q3 => exact ⟨false, rfl, iteF (q3 _ B3 H3 m3 (.refl w3) w3 (.d (.bl _)))⟩)
    obtain ⟨u', v', e', z⟩ := z
    cases e'
    exact z
def cb (o : ON) (a : SL) : SE where
  ev := fun ρ h => (a.ev ρ h).bind fun xs h1 => fnV o.f xs h1
  t := fun C md => tCB (o.r C.K) (a.t C md)
  ok := fun C md ρ h σ B H m Q e w q =>
    a.ok C md ρ h σ B H m _ e w (Po.chain w q fun xs h1 us B1 H1 m1 ea g1 w1 r1 q1 => fnV_ok (o.ok C.K) w1 r1 q1)
def andV (a b : SE) : SE where
  ev := fun ρ h => (a.ev ρ h).bind fun x h1 => match x with
    | .d (.bool true) => b.ev ρ h1
    | .d (.bool false) => .ok (.d (.bool false)) h1
    | _ => .no
  t := fun C md => tAndV (a.t C md) (b.t C md)
  ok := fun C md ρ h σ B H m Q e w q => by
    refine a.ok C md ρ h σ B H m _ e w (Po.chain w q fun x h1 u B1 H1 m1 ea g1 w1 r1 q1 => ?_)
    match x, r1, q1 with
    | .d (.bool true), .d (.bl _), q1 => exact ⟨true, rfl, iteT (b.ok C md ρ h1 σ B1 H1 m1 Q (e.gm g1) w1 q1)⟩
    | .d (.bool false), .d (.bl _), q1 => exact ⟨false, rfl, iteF (q1 _ B1 H1 m1 (.refl w1) w1 (.d (.bl _)))⟩
def orV (a b : SE) : SE where
  ev := fun ρ h => (a.ev ρ h).bind fun x h1 => match x with
    | .d (.bool false) => b.ev ρ h1
    | .d (.bool true) => .ok (.d (.bool true)) h1
    | _ => .no
  t := fun C md => tOrV (a.t C md) (b.t C md)
  ok := fun C md ρ h σ B H m Q e w q => by
    refine a.ok C md ρ h σ B H m _ e w (Po.chain w q fun x h1 u B1 H1 m1 ea g1 w1 r1 q1 => ?_)
    match x, r1, q1 with
    | .d (.bool false), .d (.bl _), q1 => exact ⟨false, rfl, iteF (b.ok C md ρ h1 σ B1 H1 m1 Q (e.gm g1) w1 q1)⟩
    | .d (.bool true), .d (.bl _), q1 => exact ⟨true, rfl, iteT (q1 _ B1 H1 m1 (.refl w1) w1 (.d (.bl _)))⟩
def notV (a : SE) : SE where
  ev := fun ρ h => (a.ev ρ h).bind fun x h1 => match x with
    | .d (.bool c) => .ok (.d (.bool (!c))) h1
    | _ => .no
  t := fun C md => tNotV (a.t C md)
  ok := fun C md ρ h σ B H m Q e w q => by
    refine a.ok C md ρ h σ B H m _ e w (Po.chain w q fun x h1 u B1 H1 m1 ea g1 w1 r1 q1 => ?_)
    match x, r1, q1 with
    | .d (.bool c), .d (.bl _), q1 => exact ⟨c, rfl, q1 _ B1 H1 m1 (.refl w1) w1 (.d (.bl _))⟩
def ifx (c : SB) (a b : SE) : SE where
  ev := fun ρ h => (c.ev ρ h).bind fun x h1 => match x with
    | true => a.ev ρ h1
    | false => b.ev ρ h1
  t := fun C md => tIf (c.t C md) (a.t C md) (b.t C md)
  ok := fun C md ρ h σ B H m Q e w q => by
    refine c.ok C md ρ h σ B H m _ e w (Po.chain w q fun x h1 u B1 H1 m1 ea g1 w1 r1 q1 => ?_)
    cases r1
    cases x with
    | true => exact iteT (a.ok C md ρ h1 σ B1 H1 m1 Q (e.gm g1) w1 q1)
    | false => exact iteF (b.ok C md ρ h1 σ B1 H1 m1 Q (e.gm g1) w1 q1)
def tup (a : SL) : SE where
  ev := fun ρ h => (a.ev ρ h).bind fun xs h1 => match frzL h1 xs with
    | none => .no
    | some (ds, h2) => if ds.length ≤ 1000000 then .ok (.d (.tuple ds)) h2 else .no
  t := fun C md => tTup (a.t C md)
  ok := fun C md ρ h σ B H m Q e w q => by
    refine a.ok C md ρ h σ B H m _ e w (Po.chain w q fun xs h1 us B1 H1 m1 ea g1 w1 r1 q1 => ?_)
    split at q1
    · exact q1.elim
    · rename_i ds h2 ef
      split at q1
      · rename_i hl
        obtain ⟨B2, g2, w2, d2⟩ := frzL_ok w1 ef r1
        refine ⟨by rw [d2.len, sizeLine_eq]; omega, fun p hp => ?_⟩
        have k := Gr.add w2.sub hp (.tup us)
        exact q1 _ _ _ _ (g2.trans w1 (.of w2 k)) (w2.gr k) (.d (.tup (.of upd_same) (d2.mono k.bb)))
      · exact q1.elim
def lst (a : SL) : SE where
  ev := fun ρ h => (a.ev ρ h).bind fun xs h1 => match frzL h1 xs with
    | none => .no
    | some (ds, h2) => if ds.length ≤ 1000000 then .ok (.d (.list ds)) h2 else .no
  t := fun C md => tLst (a.t C md)
  ok := fun C md ρ h σ B H m Q e w q => by
    refine a.ok C md ρ h σ B H m _ e w (Po.chain w q fun xs h1 us B1 H1 m1 ea g1 w1 r1 q1 => ?_)
    split at q1
    · exact q1.elim
    · rename_i ds h2 ef
      split at q1
      · rename_i hl
        obtain ⟨B2, g2, w2, d2⟩ := frzL_ok w1 ef r1
        refine ⟨by rw [d2.len, sizeLine_eq]; omega, fun p hp => ?_⟩
        have k := Gr.add w2.sub hp (.lst us)
        exact q1 _ _ _ _ (g2.trans w1 (.of w2 k)) (w2.gr k) (.d (.lst (.of upd_same) (d2.mono k.bb)))
      · exact q1.elim
end SE
namespace SL
def nil : SL where
  ev := fun _ h => .ok [] h
  t := fun _ _ => tNil
  ok := fun C md ρ h σ B H m Q e w q => q [] B H m (.refl w) w .nil
def cons (a : SE) (r : SL) : SL where
  ev := fun ρ h => (a.ev ρ h).bind fun x h1 => (r.ev ρ h1).bind fun xs h2 => .ok (x :: xs) h2
  t := fun C md => tCons (a.t C md) (r.t C md)
  ok := fun C md ρ h σ B H m Q e w q => by
    refine a.ok C md ρ h σ B H m _ e w (Po.chain w q fun x h1 u B1 H1 m1 ea g1 w1 r1 q1 => ?_)
    refine r.ok C md ρ h1 σ B1 H1 m1 _ (e.gm g1) w1 (Po.chain w1 q1 fun xs h2 us B2 H2 m2 eb g2 w2 r2 q2 => ?_)
    exact q2 _ B2 H2 m2 (.refl w2) w2 (.cons (VR.gm r1 g2) r2)
end SL
namespace SB
def test (a : SE) : SB where
  ev := fun ρ h => (a.ev ρ h).bind fun x h1 => match x with
    | .d (.bool c) => .ok c h1
    | _ => .no
  t := fun C md => tTest (a.t C md)
  ok := fun C md ρ h σ B H m Q e w q => by
    refine a.ok C md ρ h σ B H m _ e w (Po.chain w q fun x h1 u B1 H1 m1 ea g1 w1 r1 q1 => ?_)
    match x, r1, q1 with
    | .d (.bool c), .d (.bl _), q1 => exact ⟨c, rfl, q1 _ B1 H1 m1 (.refl w1) w1 rfl⟩
def val (a : SE) : SB where
  ev := fun ρ h => (a.ev ρ h).bind fun x h1 => match x with
    | .d (.bool c) => .ok c h1
    | _ => .no
  t := fun C md => tB (a.t C md)
  ok := fun C md ρ h σ B H m Q e w q => by
    refine a.ok C md ρ h σ B H m _ e w (Po.chain w q fun x h1 u B1 H1 m1 ea g1 w1 r1 q1 => ?_)
    match x, r1, q1 with
    | .d (.bool c), .d (.bl _), q1 => exact ⟨c, rfl, q1 _ B1 H1 m1 (.refl w1) w1 rfl⟩
def and (a b : SB) : SB where
  ev := fun ρ h => (a.ev ρ h).bind fun x h1 => match x with
    | true => b.ev ρ h1
    | false => .ok false h1
  t := fun C md => tAnd (a.t C md) (b.t C md)
  ok := fun C md ρ h σ B H m Q e w q => by
    refine a.ok C md ρ h σ B H m _ e w (Po.chain w q fun x h1 u B1 H1 m1 ea g1 w1 r1 q1 => ?_)
    cases r1
    cases x with
    | true => exact iteT (b.ok C md ρ h1 σ B1 H1 m1 Q (e.gm g1) w1 q1)
    | false => exact iteF (q1 _ B1 H1 m1 (.refl w1) w1 rfl)
def or (a b : SB) : SB where
  ev := fun ρ h => (a.ev ρ h).bind fun x h1 => match x with
    | true => .ok true h1
    | false => b.ev ρ h1
  t := fun C md => tOr (a.t C md) (b.t C md)
  ok := fun C md ρ h σ B H m Q e w q => by
    refine a.ok C md ρ h σ B H m _ e w (Po.chain w q fun x h1 u B1 H1 m1 ea g1 w1 r1 q1 => ?_)
    cases r1
    cases x with
    | true => exact iteT (q1 _ B1 H1 m1 (.refl w1) w1 rfl)
    | false => exact iteF (b.ok C md ρ h1 σ B1 H1 m1 Q (e.gm g1) w1 q1)
def not (a : SB) : SB where
  ev := fun ρ h => (a.ev ρ h).bind fun x h1 => .ok (!x) h1
  t := fun C md => tNot (a.t C md)
  ok := fun C md ρ h σ B H m Q e w q => by
    refine a.ok C md ρ h σ B H m _ e w (Po.chain w q fun x h1 u B1 H1 m1 ea g1 w1 r1 q1 => ?_)
    cases r1
    exact q1 _ B1 H1 m1 (.refl w1) w1 rfl
end SB
end N
end
section
set_option maxRecDepth 100000
set_option maxHeartbeats 2000000
namespace N
open PySem PySem.Spec PyProof.Rows L2 G
def sm (i : Int) : Bool := decide (i.natAbs < 2 ^ 4000)
theorem sm_lt {i : Int} (h : sm i = true) : i.natAbs < 2 ^ 4000 := of_decide_eq_true h
theorem sm_of {i : Int} {n : Nat} (h : i.natAbs < 2 ^ n) (hn : n ≤ 4000) : sm i = true := decide_eq_true (Nat.lt_of_lt_of_le h (Nat.pow_le_pow_right (by decide) hn))
theorem sm_60 {i : Int} (h1 : -1152921504606846976 < i) (h2 : i < 1152921504606846976) : sm i = true := sm_of (n := 60) (by omega) (by decide)
def addD : PyData → PyData → Option PyData
  | .int a, .int b => some (.int (a + b))
  | .list xs, .list ys => if xs.length + ys.length ≤ 1000000 then some (.list (xs ++ ys)) else none
  | .tuple xs, .tuple ys => if xs.length + ys.length ≤ 1000000 then some (.tuple (xs ++ ys)) else none
  | _, _ => none
def subD : PyData → PyData → Option PyData
  | .int a, .int b => some (.int (a - b))
  | _, _ => none
def mulD : PyData → PyData → Option PyData
  | .int a, .int b => if (sm a && sm b) = true then some (.int (a * b)) else none
  | _, _ => none
def modD : PyData → PyData → Option PyData
  | .int a, .int b => if 0 < b then some (.int (a % b)) else none
  | _, _ => none
def fdivD : PyData → PyData → Option PyData
  | .int a, .int b => if (decide (0 < b) && sm b) = true then some (.int (a / b)) else none
  | _, _ => none
def powD : PyData → PyData → Option PyData
  | .int a, .int b => if (sm a && (decide (0 ≤ b) && decide (b ≤ 1000))) = true then some (.int (a ^ b.toNat)) else none
  | _, _ => none
def cmpD (p : Int → Int → Bool) : PyData → PyData → Option PyData
  | .int a, .int b => some (.bool (p a b))
  | _, _ => none
def eqD (neg : Bool) : PyData → PyData → Option PyData
  | .str a, .str b => some (.bool (if neg then !decide (a = b) else decide (a = b)))
  | x, y => if (SeqAt.shaped x && SeqAt.shaped y) = true then some (.bool (if neg then !PyData.eqv x y else PyData.eqv x y)) else none
def atoms : List PyData → Bool
  | [] => true
  | x :: xs => atom x && atoms xs
def inD (neg : Bool) : PyData → PyData → Option PyData
  | x, .list ys => if (atom x && atoms ys) = true then some (.bool (if neg then !ys.any (fun z => PyData.eqv z x) else ys.any fun z => PyData.eqv z x)) else if (SeqAt.shaped x && SeqAt.shaped (.list ys)) = true then some (.bool (if neg then !ys.any (fun z => PyData.eqv z x) else ys.any fun z => PyData.eqv z x)) else none
  | x, .tuple ys => if (atom x && atoms ys) = true then some (.bool (if neg then !ys.any (fun z => PyData.eqv z x) else ys.any fun z => PyData.eqv z x)) else if (SeqAt.shaped x && SeqAt.shaped (.tuple ys)) = true then some (.bool (if neg then !ys.any (fun z => PyData.eqv z x) else ys.any fun z => PyData.eqv z x)) else none
  | _, _ => none
def isND (neg : Bool) : PyData → PyData → Option PyData
  | .none, .none => some (.bool (!neg))
  | _, .none => some (.bool neg)
  | _, _ => none
def isBD (neg : Bool) : PyData → PyData → Option PyData
  | .bool a, .bool b => some (.bool (if neg then !decide (a = b) else decide (a = b)))
  | _, _ => none
def atD {α : Type} (xs : List α) (i : Int) : Option α := if 0 ≤ i then xs[i.toNat]? else if 0 ≤ i + xs.length then xs[(i + xs.length).toNat]? else none
def ixD : PyData → PyData → Option PyData
  | .list xs, .int i => atD xs i
  | .tuple xs, .int i => atD xs i
  | _, _ => none
section
variable {K : PySem.W.Frag} {x y z : PyData}
set_option exponentiation.threshold 5000
theorem opp_catT {xs ys : List PyData} (hl : xs.length + ys.length ≤ sizeLine) : Op2 K (rCatA K) (.tuple xs) (.tuple ys) (.tuple (xs ++ ys)) := fun B H s u v hu hv Q q => by
  cases hu with
  | @tup a us _ h1 a1 =>
    cases hv with
    | @tup b vs _ h2 a2 =>
      refine ⟨_, _, _, _, rfl, rfl, same_t s h1, same_t s h2, by rw [a1.len, a2.len]; exact hl, fun e => ?_, fun _ e => ?_, fun _ _ p hp => ?_⟩
      · subst e
        cases a1
        exact q _ B H (.refl s) (.tup h2 a2)
      · subst e
        cases a2
        rw [List.append_nil] at q
        exact q _ B H (.refl s) (.tup h1 a1)
      · have g := Gr.add s hp (.tup (us ++ vs))
        exact q _ _ _ g (.tup (.of upd_same) ((a1.app a2).mono g.bb))
theorem add_ok (e : addD x y = some z) : Op2 K (rAddA K) x y z := by
  unfold addD at e
  split at e
  · cases e; exact opp_1 (op_I0 fun _ => .int _)
  · split at e
    · rename_i hl
      cases e
      exact opp_2 (opp_1 (opp_cat (by rw [sizeLine_eq]; omega)))
    · cases e
  · split at e
    · rename_i hl
      cases e
      exact opp_2 (opp_2 (opp_catT (by rw [sizeLine_eq]; omega)))
    · cases e
  · cases e
theorem sub_ok (e : subD x y = some z) : Op2 K (rI0 fun i j => .int (i - j)) x y z := by
  unfold subD at e
  split at e
  · cases e; exact op_I0 fun _ => .int _
  · cases e
theorem daAll_rep {B : Hp} {vs : List V} {xs : List PyData} (h : DaAll K B vs xs) : ∀ n, DaAll K B (List.replicate n vs).flatten (List.replicate n xs).flatten
  | 0 => .nil
  | n + 1 => by rw [List.replicate_succ, List.replicate_succ, List.flatten_cons, List.flatten_cons]; exact h.app (daAll_rep h n)
theorem mul_ok (e : mulD x y = some z) : Op2 K rMulA x y z := by
  unfold mulD at e
  split at e
  · rename_i a b
    split at e
    · rename_i hs
      rw [Bool.and_eq_true] at hs
      cases e
      exact opp_1 (op_I (wide_mul (sm_lt hs.1) (sm_lt hs.2) (by decide) (by decide) (by decide)) fun _ => .int _)
    · cases e
  · cases e
theorem mod_ok (e : modD x y = some z) : Op2 K (rI (fun _ j => j ≠ 0) fun i j => .int (i.fmod j)) x y z := by
  unfold modD at e
  split at e
  · rename_i a b
    split at e
    · rename_i hs
      cases e
      refine op_I (by omega) fun _ => ?_
      rw [Int.fmod_eq_emod_of_nonneg _ (by omega)]
      exact .int _
    · cases e
  · cases e
theorem fdiv_ok (e : fdivD x y = some z) : Op2 K (rI CDivW fun i j => .int (i / j)) x y z := by
  unfold fdivD at e
  split at e
  · rename_i a b
    split at e
    · rename_i hs
      rw [Bool.and_eq_true] at hs
      cases e
      exact op_I (wide_div (of_decide_eq_true hs.1) (sm_lt hs.2) (by decide) (by decide)) fun _ => .int _
    · cases e
  · cases e
theorem pow_ok (e : powD x y = some z) : Op2 K (rI CPowW fun i j => .int (i ^ j.toNat)) x y z := by
  unfold powD at e
  split at e
  · rename_i a b
    split at e
    · rename_i hs
      rw [Bool.and_eq_true, Bool.and_eq_true] at hs
      obtain ⟨h1, h2, h3⟩ := hs
      cases e
      refine op_I ⟨of_decide_eq_true h2, ?_⟩ fun _ => .int _
      have h2' := of_decide_eq_true h2
      have h3' := of_decide_eq_true h3
      have hb : Builtin.Int.intBits a ≤ 4001 := by
        unfold Builtin.Int.intBits
        by_cases z : a.natAbs = 0
        · simp [z]
          split <;> omega
        · have := (Nat.log2_lt (k := 4000) z).mpr (sm_lt h1)
          first
            | omega
            | (split <;> omega)
      have : (Builtin.Int.intBits a : Int) * b ≤ 4001 * 1000 := Int.le_trans (Int.mul_le_mul_of_nonneg_right (by omega : (Builtin.Int.intBits a : Int) ≤ 4001) h2') (by omega)
      omega
    · cases e
  · cases e
theorem cmp_ok {p : Int → Int → Bool} (e : cmpD p x y = some z) : Op2 K (rI0 fun i j => .bl (p i j)) x y z := by
  unfold cmpD at e
  split at e
  · cases e; exact op_I0 fun _ => .bl _
  · cases e
theorem eq_ok (e : eqD false x y = some z) : Op2 K (rEqR K) x y z := by
  unfold eqD at e
  split at e
  · cases e; exact opp_2 (opp_eqS rfl)
  · split at e
    · rename_i hs
      rw [Bool.and_eq_true] at hs
      cases e
      exact opp_1 (opp_eqD hs.1 hs.2 rfl)
    · cases e
theorem ne_ok (e : eqD true x y = some z) : Op2 K (rNeR K) x y z := by
  unfold eqD at e
  split at e
  · cases e; exact opp_2 (opp_neS rfl)
  · split at e
    · rename_i hs
      rw [Bool.and_eq_true] at hs
      cases e
      exact opp_1 (opp_neD hs.1 hs.2 rfl)
    · cases e
theorem atom_flat {B : Hp} {v : V} (a : atom x = true) (q : Da K B v x) : flatV v = true := by
  cases q <;> first | rfl | simp [atom] at a
theorem atoms_flat {B : Hp} {vs : List V} {xs : List PyData} (a : atoms xs = true) (q : DaAll K B vs xs) : vs.all flatV = true := by
  induction xs generalizing vs with
  | nil => cases q; rfl
  | cons x xs ih =>
    cases q with
    | cons h t =>
      unfold atoms at a
      rw [Bool.and_eq_true] at a
      rw [List.all_cons, atom_flat a.1 h, ih a.2 t]
      rfl
theorem atom_eq {B : Hp} {u v : V} (a : atom x = true) (b : atom y = true) (hu : Da K B u x) (hv : Da K B v y) : eqV u v = PyData.eqv x y := by
  cases hu <;> cases hv <;> first | rfl | simp [atom] at a | simp [atom] at b | (unfold eqV PyData.eqv; rfl)
theorem atoms_in {B : Hp} {u : V} {vs : List V} {ys : List PyData} (a : atom x = true) (b : atoms ys = true) (hu : Da K B u x) (hv : DaAll K B vs ys) : inV u vs = ys.any fun z => PyData.eqv z x := by
  unfold inV
  induction ys generalizing vs with
  | nil => cases hv; rfl
  | cons y ys ih =>
    cases hv with
    | cons h t =>
      unfold atoms at b
      rw [Bool.and_eq_true] at b
      rw [List.any_cons, List.any_cons, atom_eq b.1 a h hu, ih b.2 t]
def rInP (K : PySem.W.Frag) (neg : Bool) : R2 := fun x y H Q => ∃ d ds c, (c = .list ds ∨ c = .tuple ds) ∧ Dp K H x d ∧ Dp K H y c ∧ SeqAt.shaped d = true ∧ SeqAt.shaped c = true ∧ Q (.bl (if neg then !ds.any (fun z => PyData.eqv z d) else ds.any fun z => PyData.eqv z d)) H
theorem op_ninP {X : Cx} (hu : X.A.units + 65 < cLine) : OpR X (compareOp .NotIn) (rInP X.K true) := by
  intro pins s σ H x y v u Q I rx ry h
  obtain ⟨d, ds, c, hc, hd, he, sd, se, q⟩ := h
  obtain ⟨as, r1⟩ := Dp.reads I d x v hd rx
  obtain ⟨bs, r2⟩ := Dp.reads I c y u he ry
  rcases hc with rfl | rfl
  · exact SeqAt.notIn_list_reads r2 r1 (SeqAt.canLay_of_shaped se) (SeqAt.canLay_of_shaped sd) (room_in_shaped sd hu) ⟨.bl _, H, I, rfl, q⟩
  · exact SeqAt.notIn_tuple_reads r2 r1 (SeqAt.canLay_of_shaped se) (SeqAt.canLay_of_shaped sd) (room_in_shaped sd hu) ⟨.bl _, H, I, rfl, q⟩
abbrev rInE (K : PySem.W.Frag) (neg : Bool) : R2 := orR (rInP K neg) (rIn K neg)
theorem ninEK {X : Cx} (K : PySem.W.Frag) {k : Nat} (hr : Room k X.A) (h : X.K = K := by rfl) : OpR X (compareOp .NotIn) (rInE K true) := opr_or (h ▸ op_ninP (by have := hr.un; omega)) (ninK K h)
theorem inP_ok {neg : Bool} {c : PyData} {ds : List PyData} (hc : c = .list ds ∨ c = .tuple ds) (hx : SeqAt.shaped x = true) (hy : SeqAt.shaped c = true) (hz : z = .bool (if neg then !ds.any (fun z => PyData.eqv z x) else ds.any fun z => PyData.eqv z x)) : Op2 K (rInP K neg) x c z := fun B H s u v hu hv Q q =>
  ⟨x, ds, c, hc, (hu.mono s).dp _ (nd_shaped hx), (hv.mono s).dp _ (nd_shaped hy), hx, hy, q _ B H (.refl s) (by rw [hz]; exact .bl _)⟩
theorem in_ok {neg : Bool} (e : inD neg x y = some z) : Op2 K (rInE K neg) x y z := by
  unfold inD at e
  split at e
  · rename_i ys
    split at e
    · rename_i hs
      rw [Bool.and_eq_true] at hs
      cases e
      refine opp_2 ?_
      intro B H s u v hu hv Q q
      cases hv with
      | lst h1 a1 => exact ⟨_, _, rfl, .inl (same_l s h1), atom_flat hs.1 hu, atoms_flat hs.2 a1, q _ B H (.refl s) (by rw [atoms_in hs.1 hs.2 hu a1]; exact .bl _)⟩
    · split at e
      · rename_i hs
        rw [Bool.and_eq_true] at hs
        cases e
        exact opp_1 (inP_ok (.inl rfl) hs.1 hs.2 rfl)
      · cases e
  · rename_i ys
    split at e
    · rename_i hs
      rw [Bool.and_eq_true] at hs
      cases e
      refine opp_2 ?_
      intro B H s u v hu hv Q q
      cases hv with
      | tup h1 a1 => exact ⟨_, _, rfl, .inr (same_t s h1), atom_flat hs.1 hu, atoms_flat hs.2 a1, q _ B H (.refl s) (by rw [atoms_in hs.1 hs.2 hu a1]; exact .bl _)⟩
    · split at e
      · rename_i hs
        rw [Bool.and_eq_true] at hs
        cases e
        exact opp_1 (inP_ok (.inr rfl) hs.1 hs.2 rfl)
      · cases e
  · cases e
theorem isN_ok (e : isND false x y = some z) : Op2 K (fun x y H Q => y = .non ∧ Q (.bl (decide (x = .non))) H) x y z := by
  intro B H s u v hu hv Q q
  unfold isND at e
  split at e
  · cases e
    cases hu
    cases hv
    exact ⟨rfl, q _ B H (.refl s) (.bl _)⟩
  · rename_i n
    cases e
    cases hv
    refine ⟨rfl, q _ B H (.refl s) ?_⟩
    have : decide (u = .non) = false := decide_eq_false fun c => by
      subst c
      cases hu
      exact n rfl
    rw [this]
    exact .bl _
  · cases e
theorem notN_ok (e : isND true x y = some z) : Op2 K (fun x y H Q => y = .non ∧ Q (.bl (!decide (x = .non))) H) x y z := by
  intro B H s u v hu hv Q q
  unfold isND at e
  split at e
  · cases e
    cases hu
    cases hv
    exact ⟨rfl, q _ B H (.refl s) (.bl _)⟩
  · rename_i n
    cases e
    cases hv
    refine ⟨rfl, q _ B H (.refl s) ?_⟩
    have : decide (u = .non) = false := decide_eq_false fun c => by
      subst c
      cases hu
      exact n rfl
    rw [this]
    exact .bl _
  · cases e
theorem isB_ok (e : isBD false x y = some z) : Op2 K rIsB x y z := by
  intro B H s u v hu hv Q q
  unfold isBD at e
  split at e
  · cases e
    cases hu
    cases hv
    exact ⟨_, _, rfl, rfl, q _ B H (.refl s) (.bl _)⟩
  · cases e
theorem notB_ok (e : isBD true x y = some z) : Op2 K rNotB x y z := by
  intro B H s u v hu hv Q q
  unfold isBD at e
  split at e
  · cases e
    cases hu
    cases hv
    exact ⟨_, _, rfl, rfl, q _ B H (.refl s) (.bl _)⟩
  · cases e
theorem at_I {xs : List PyData} {vs : List V} {B : Hp} {i : Int} {d : PyData} (e : atD xs i = some d) (h : DaAll K B vs xs) : ∃ v, atI vs i = some v ∧ Da K B v d := by
  have hl := h.len
  unfold atD at e
  split at e
  · rename_i h0
    obtain ⟨v, e1, e2⟩ := h.at e
    refine ⟨v, ?_, e2⟩
    have := atI_nat e1
    rw [Int.toNat_of_nonneg h0] at this
    exact this
  · rename_i h0
    split at e
    · rename_i h1
      obtain ⟨v, e1, e2⟩ := h.at e
      refine ⟨v, ?_, e2⟩
      have lt := (List.getElem?_eq_some_iff.mp e1).1
      unfold atI ixN
      rw [hl]
      first
        | (rw [if_neg (by omega), if_pos (by omega)]; exact e1)
        | (simp only [show ¬ (0 ≤ i) from h0, show 0 ≤ i + (xs.length : Int) from h1, if_true, if_false, Option.bind_some]; exact e1)
        | (rw [if_pos (by omega)]; exact e1)
    · cases e
theorem ix_ok (e : ixD x y = some z) : Op2 K (rIxA K) x y z := by
  unfold ixD at e
  split at e
  · refine opp_1 fun B H s u v hu hv Q q => ?_
    cases hv
    cases hu with
    | lst h1 a1 =>
      obtain ⟨w, e1, e2⟩ := at_I e a1
      exact ⟨_, _, _, w, rfl, rfl, same_l s h1, e1, q _ B H (.refl s) e2⟩
  · refine opp_2 fun B H s u v hu hv Q q => ?_
    cases hv
    cases hu with
    | tup h1 a1 =>
      obtain ⟨w, e1, e2⟩ := at_I e a1
      exact ⟨_, _, _, w, rfl, rfl, same_t s h1, e1, q _ B H (.refl s) e2⟩
  · cases e
end
def shlD : PyData → PyData → Option PyData
  | .int a, .int b => if (decide (a.natAbs < 2 ^ 64) && (decide (0 ≤ b) && decide (b ≤ 1000))) = true then some (.int (a * 2 ^ b.toNat)) else none
  | _, _ => none
theorem shl_ok {K : PySem.W.Frag} {x y z : PyData} (e : shlD x y = some z) : Op2 K (rI CPow fun i j => .int (i * 2 ^ j.toNat)) x y z := by
  unfold shlD at e
  split at e
  · rename_i a b
    split at e
    · rename_i hs
      simp only [Bool.and_eq_true, decide_eq_true_eq] at hs
      cases e
      exact op_I ⟨hs.2.1, by omega, hs.1⟩ fun _ => .int _
    · cases e
  · cases e
def oShl : O2 := ⟨shlD, fun _ => rI CPow fun i j => .int (i * 2 ^ j.toNat), fun _ _ _ _ => shl_ok⟩
def oAdd : O2 := ⟨addD, fun K => rAddA K, fun _ _ _ _ => add_ok⟩
def oSub : O2 := ⟨subD, fun _ => rI0 fun i j => .int (i - j), fun _ _ _ _ => sub_ok⟩
def oMul : O2 := ⟨mulD, fun _ => rMulA, fun _ _ _ _ => mul_ok⟩
def oMod : O2 := ⟨modD, fun _ => rI (fun _ j => j ≠ 0) fun i j => .int (i.fmod j), fun _ _ _ _ => mod_ok⟩
def oFdiv : O2 := ⟨fdivD, fun _ => rI CDivW fun i j => .int (i / j), fun _ _ _ _ => fdiv_ok⟩
def oPow : O2 := ⟨powD, fun _ => rI CPowW fun i j => .int (i ^ j.toNat), fun _ _ _ _ => pow_ok⟩
def oLt : O2 := ⟨cmpD fun i j => decide (i < j), fun _ => rI0 fun i j => .bl (decide (i < j)), fun _ _ _ _ => cmp_ok⟩
def oLe : O2 := ⟨cmpD fun i j => decide (i ≤ j), fun _ => rI0 fun i j => .bl (decide (i ≤ j)), fun _ _ _ _ => cmp_ok⟩
def oGt : O2 := ⟨cmpD fun i j => decide (j < i), fun _ => rI0 fun i j => .bl (decide (j < i)), fun _ _ _ _ => cmp_ok⟩
def oGe : O2 := ⟨cmpD fun i j => decide (j ≤ i), fun _ => rI0 fun i j => .bl (decide (j ≤ i)), fun _ _ _ _ => cmp_ok⟩
def oEq : O2 := ⟨eqD false, fun K => rEqR K, fun _ _ _ _ => eq_ok⟩
def oNe : O2 := ⟨eqD true, fun K => rNeR K, fun _ _ _ _ => ne_ok⟩
def oIn : O2 := ⟨inD false, fun K => rInE K false, fun _ _ _ _ => in_ok⟩
def oNin : O2 := ⟨inD true, fun K => rInE K true, fun _ _ _ _ => in_ok⟩
def oIsN : O2 := ⟨isND false, fun _ => fun x y H Q => y = .non ∧ Q (.bl (decide (x = .non))) H, fun _ _ _ _ => isN_ok⟩
def oNotN : O2 := ⟨isND true, fun _ => fun x y H Q => y = .non ∧ Q (.bl (!decide (x = .non))) H, fun _ _ _ _ => notN_ok⟩
def oIsB : O2 := ⟨isBD false, fun _ => rIsB, fun _ _ _ _ => isB_ok⟩
def oNotB : O2 := ⟨isBD true, fun _ => rNotB, fun _ _ _ _ => notB_ok⟩
end N
end
section
set_option maxRecDepth 100000
set_option maxHeartbeats 2000000
namespace N
open PySem PySem.Spec PyProof.Rows L2 G
def intsOf : List PyData → Option (List Int)
  | [] => some []
  | .int i :: xs => match intsOf xs with
    | none => none
    | some ns => some (i :: ns)
  | _ => none
def boolsOf : List PyData → Option (List Bool)
  | [] => some []
  | .bool i :: xs => match boolsOf xs with
    | none => none
    | some ns => some (i :: ns)
  | _ => none
theorem intsOf_ok : ∀ {xs : List PyData} {ns : List Int}, intsOf xs = some ns → xs = ns.map .int
  | [], _, e => by unfold intsOf at e; cases e; rfl
  | .int i :: xs, ns, e => by
    unfold intsOf at e
    split at e
    · cases e
    · rename_i ms q
      cases e
      rw [intsOf_ok q]
      rfl
  | .none :: _, _, e => by simp [intsOf] at e
  | .bool _ :: _, _, e => by simp [intsOf] at e
  | .str _ :: _, _, e => by simp [intsOf] at e
  | .list _ :: _, _, e => by simp [intsOf] at e
  | .tuple _ :: _, _, e => by simp [intsOf] at e
  | .dict _ :: _, _, e => by simp [intsOf] at e
theorem boolsOf_ok : ∀ {xs : List PyData} {ns : List Bool}, boolsOf xs = some ns → xs = ns.map .bool
  | [], _, e => by unfold boolsOf at e; cases e; rfl
  | .bool i :: xs, ns, e => by
    unfold boolsOf at e
    split at e
    · cases e
    · rename_i ms q
      cases e
      rw [boolsOf_ok q]
      rfl
  | .none :: _, _, e => by simp [boolsOf] at e
  | .int _ :: _, _, e => by simp [boolsOf] at e
  | .str _ :: _, _, e => by simp [boolsOf] at e
  | .list _ :: _, _, e => by simp [boolsOf] at e
  | .tuple _ :: _, _, e => by simp [boolsOf] at e
  | .dict _ :: _, _, e => by simp [boolsOf] at e
theorem intsOf_map (ns : List Int) : intsOf (ns.map .int) = some ns := by
  induction ns with
  | nil => rfl
  | cons n ns ih => rw [List.map_cons, intsOf, ih]
theorem boolsOf_map (ns : List Bool) : boolsOf (ns.map .bool) = some ns := by
  induction ns with
  | nil => rfl
  | cons n ns ih => rw [List.map_cons, boolsOf, ih]
def lenD : List PyData → Option PyData
  | [.list xs] => some (.int xs.length)
  | [.tuple xs] => some (.int xs.length)
  | [.str x] => if x.length ≤ 1000000 then some (.int x.length) else none
  | _ => none
def allD : List PyData → Option PyData
  | [.list xs] => (boolsOf xs).map fun bs => .bool (bs.all id)
  | _ => none
def anyD : List PyData → Option PyData
  | [.list xs] => (boolsOf xs).map fun bs => .bool (bs.any id)
  | _ => none
def sumD : List PyData → Option PyData
  | [.list xs] => (intsOf xs).map fun ns => .int ns.sum
  | _ => none
def maxI : Int → List Int → Int
  | m, [] => m
  | m, n :: ns => maxI (if m < n then n else m) ns
def minI : Int → List Int → Int
  | m, [] => m
  | m, n :: ns => minI (if n < m then n else m) ns
def maxD : List PyData → Option PyData
  | [.int i, .int j] => some (.int (if j > i then j else i))
  | [.list xs] => match intsOf xs with
    | some (n :: ns) => some (.int (maxI n ns))
    | _ => none
  | _ => none
def minD : List PyData → Option PyData
  | [.int i, .int j] => some (.int (if j < i then j else i))
  | [.list xs] => match intsOf xs with
    | some (n :: ns) => some (.int (minI n ns))
    | _ => none
  | _ => none
def intD : List PyData → Option PyData
  | [.int i] => some (.int i)
  | [.bool b] => some (.int (if b then 1 else 0))
  | _ => none
def listD : List PyData → Option PyData
  | [.list xs] => some (.list xs)
  | [.tuple xs] => some (.list xs)
  | _ => none
def tupleD : List PyData → Option PyData
  | [.list xs] => some (.tuple xs)
  | [.tuple xs] => some (.tuple xs)
  | _ => none
def okR (d : PyData) : Bool := d.showable && (decide (d.depth ≤ 100) && decide (d.shown.length ≤ 16000000))
def reprD : List PyData → Option PyData
  | [d] => if okR d = true then some (.str d.shown) else none
  | _ => none
def insI (x : Int) : List Int → List Int
  | [] => [x]
  | y :: ys => if x ≤ y then x :: y :: ys else y :: insI x ys
def sortI : List Int → List Int
  | [] => []
  | x :: xs => insI x (sortI xs)
def sortD : List PyData → Option PyData
  | [.list xs] => (intsOf xs).map fun ns => .list ((sortI ns).map .int)
  | _ => none
theorem insI_perm (x : Int) : ∀ xs, (insI x xs).Perm (x :: xs)
  | [] => .refl _
  | y :: ys => by
    unfold insI
    split
    · exact .refl _
    · exact ((insI_perm x ys).cons y).trans (.swap x y ys)
theorem sortI_perm : ∀ xs, (sortI xs).Perm xs
  | [] => .refl _
  | x :: xs => (insI_perm x _).trans ((sortI_perm xs).cons x)
theorem insI_sorted (x : Int) : ∀ xs : List Int, xs.Pairwise (· ≤ ·) → (insI x xs).Pairwise (· ≤ ·)
  | [], _ => by simp [insI]
  | y :: ys, h => by
    unfold insI
    obtain ⟨h1, h2⟩ := List.pairwise_cons.mp h
    split
    · rename_i c
      refine List.pairwise_cons.mpr ⟨fun z hz => ?_, h⟩
      rcases List.mem_cons.mp hz with rfl | hz
      · exact c
      · exact Int.le_trans c (h1 z hz)
    · rename_i c
      refine List.pairwise_cons.mpr ⟨fun z hz => ?_, insI_sorted x ys h2⟩
      rcases List.mem_cons.mp ((insI_perm x ys).mem_iff.mp hz) with rfl | hz
      · omega
      · exact h1 z hz
theorem sortI_sorted : ∀ xs : List Int, (sortI xs).Pairwise (· ≤ ·)
  | [] => .nil
  | x :: xs => insI_sorted x _ (sortI_sorted xs)
theorem sortI_of {a b : List Int} (p : a.Perm b) (h : a.Pairwise (· ≤ ·)) : a = sortI b :=
  (p.trans (sortI_perm b).symm).eq_of_pairwise (fun x y _ _ h1 h2 => Int.le_antisymm h1 h2) h (sortI_sorted b)
theorem maxI_ge : ∀ (ns : List Int) (m : Int), m ≤ maxI m ns ∧ (∀ y ∈ ns, y ≤ maxI m ns) ∧ (maxI m ns = m ∨ maxI m ns ∈ ns)
  | [], m => ⟨Int.le_refl _, by simp, .inl rfl⟩
  | n :: ns, m => by
    obtain ⟨h1, h2, h3⟩ := maxI_ge ns (if m < n then n else m)
    unfold maxI
    by_cases c : m < n
    · rw [if_pos c] at h1 h2 h3 ⊢
      refine ⟨by omega, fun y hy => ?_, ?_⟩
      · rcases List.mem_cons.mp hy with rfl | hy
        · exact h1
        · exact h2 y hy
      · rcases h3 with h3 | h3
        · exact .inr (by rw [h3]; exact List.mem_cons_self ..)
        · exact .inr (List.mem_cons_of_mem _ h3)
    · rw [if_neg c] at h1 h2 h3 ⊢
      refine ⟨h1, fun y hy => ?_, ?_⟩
      · rcases List.mem_cons.mp hy with rfl | hy
        · omega
        · exact h2 y hy
      · rcases h3 with h3 | h3
        · exact .inl h3
        · exact .inr (List.mem_cons_of_mem _ h3)
theorem minI_le : ∀ (ns : List Int) (m : Int), minI m ns ≤ m ∧ (∀ y ∈ ns, minI m ns ≤ y) ∧ (minI m ns = m ∨ minI m ns ∈ ns)
  | [], m => ⟨Int.le_refl _, by simp, .inl rfl⟩
  | n :: ns, m => by
    obtain ⟨h1, h2, h3⟩ := minI_le ns (if n < m then n else m)
    unfold minI
    by_cases c : n < m
    · rw [if_pos c] at h1 h2 h3 ⊢
      refine ⟨by omega, fun y hy => ?_, ?_⟩
      · rcases List.mem_cons.mp hy with rfl | hy
        · exact h1
        · exact h2 y hy
      · rcases h3 with h3 | h3
        · exact .inr (by rw [h3]; exact List.mem_cons_self ..)
        · exact .inr (List.mem_cons_of_mem _ h3)
    · rw [if_neg c] at h1 h2 h3 ⊢
      refine ⟨h1, fun y hy => ?_, ?_⟩
      · rcases List.mem_cons.mp hy with rfl | hy
        · omega
        · exact h2 y hy
      · rcases h3 with h3 | h3
        · exact .inl h3
        · exact .inr (List.mem_cons_of_mem _ h3)
abbrev rStrLen : List V → Hp → VK → Prop := fun xs H Q => ∃ z, xs = [.str z] ∧ z.length ≤ sizeLine ∧ Q (.int z.length) H
abbrev rLenA (K : PySem.W.Frag) : List V → Hp → VK → Prop := orC (rLenK K) rStrLen
abbrev rMax2 : List V → Hp → VK → Prop := fun xs H Q => ∃ i j, xs = [.int i, .int j] ∧ Q (.int (if j > i then j else i)) H
abbrev rMin2 : List V → Hp → VK → Prop := fun xs H Q => ∃ i j, xs = [.int i, .int j] ∧ Q (.int (if j < i then j else i)) H
abbrev rMaxA (K : PySem.W.Frag) : List V → Hp → VK → Prop := orC rMax2 (rMax K)
abbrev rMinA (K : PySem.W.Frag) : List V → Hp → VK → Prop := orC rMin2 (rMin K)
abbrev rInt1 : List V → Hp → VK → Prop := fun xs H Q => (∃ i, xs = [.int i] ∧ Q (.int i) H) ∨ ∃ k, xs = [.bl k] ∧ Q (.int (if k then 1 else 0)) H
abbrev rTupOf (K : PySem.W.Frag) : List V → Hp → VK → Prop := fun xs H Q => ∃ p ys, xs = [.ref p] ∧ ((SqL K H p ys ∧ ∀ l, H l = none → Q (.ref l) (upd H l (.tup ys))) ∨ (SqT K H p ys ∧ Q (.ref p) H))
section
variable {X : Cx} (K : PySem.W.Frag)
theorem lenA (h : X.K = K := by rfl) : CallR X (.builtin "len") (rLenA K) := callr_or (lenK K h) call_len_str
theorem maxA (hc : X.calm = true) (h : X.K = K := by rfl) : CallR X (.builtin "max") (rMaxA K) := callr_or (call_max2 hc) (h ▸ cr_max hc)
end
section
variable {K : PySem.W.Frag} {xs : List PyData} {z : PyData}
theorem da1 {B : Hp} {us : List V} {x : PyData} (h : DaAll K B us [x]) : ∃ u, us = [u] ∧ Da K B u x := by
  cases h with
  | cons h t => cases t; exact ⟨_, rfl, h⟩
theorem da2 {B : Hp} {us : List V} {x y : PyData} (h : DaAll K B us [x, y]) : ∃ u v, us = [u, v] ∧ Da K B u x ∧ Da K B v y := by
  cases h with
  | cons h t => cases t with
    | cons h2 t => cases t; exact ⟨_, _, rfl, h, h2⟩
theorem len_ok (e : lenD xs = some z) : Fn K (rLenA K) xs z := by
  unfold lenD at e
  split at e
  · cases e; exact fn_1 fn_len
  · cases e; exact fn_1 fn_lenT
  · split at e
    · rename_i hl
      cases e
      refine fn_2 fun B H s us hu Q q => ?_
      obtain ⟨u, rfl, h⟩ := da1 hu
      cases h
      exact ⟨_, rfl, by rw [sizeLine_eq]; omega, q _ B H (.refl s) (.int _)⟩
    · cases e
  · cases e
theorem all_ok (e : allD xs = some z) : Fn K (rAll K) xs z := by
  unfold allD at e
  split at e
  · simp only [Option.map_eq_some_iff] at e
    obtain ⟨bs, e1, rfl⟩ := e
    rw [boolsOf_ok e1]
    exact fn_all
  · cases e
theorem any_ok (e : anyD xs = some z) : Fn K (rAny K) xs z := by
  unfold anyD at e
  split at e
  · simp only [Option.map_eq_some_iff] at e
    obtain ⟨bs, e1, rfl⟩ := e
    rw [boolsOf_ok e1]
    intro B H s us hu Q q
    obtain ⟨u, rfl, h⟩ := da1 hu
    cases h with
    | lst h a =>
      obtain rfl := daBools a
      exact ⟨_, bs, rfl, same_l s h, q _ B H (.refl s) (.bl _)⟩
  · cases e
theorem sum_ok (e : sumD xs = some z) : Fn K (rSum K) xs z := by
  unfold sumD at e
  split at e
  · simp only [Option.map_eq_some_iff] at e
    obtain ⟨ns, e1, rfl⟩ := e
    rw [intsOf_ok e1]
    intro B H s us hu Q q
    obtain ⟨u, rfl, h⟩ := da1 hu
    cases h with
    | lst h a =>
      obtain rfl := daInts a
      exact ⟨_, ns, rfl, same_l s h, q _ B H (.refl s) (.int _)⟩
  · cases e
theorem max_ok (e : maxD xs = some z) : Fn K (rMaxA K) xs z := by
  unfold maxD at e
  split at e
  · cases e
    refine fn_1 fun B H s us hu Q q => ?_
    obtain ⟨u, v, rfl, h, h2⟩ := da2 hu
    cases h
    cases h2
    exact ⟨_, _, rfl, q _ B H (.refl s) (.int _)⟩
  · split at e
    · rename_i n ns e1
      cases e
      rw [intsOf_ok e1]
      refine fn_2 fun B H s us hu Q q => ?_
      obtain ⟨u, rfl, h⟩ := da1 hu
      cases h with
      | lst h a =>
        obtain rfl := daInts a
        refine ⟨_, n :: ns, rfl, same_l s h, by simp, fun m hm hy => ?_⟩
        obtain ⟨h1, h2, h3⟩ := maxI_ge ns n
        have e2 : m = maxI n ns := by
          have a1 : maxI n ns ≤ m := hy _ (by rcases h3 with h3 | h3 <;> simp [h3])
          have a2 : m ≤ maxI n ns := by
            rcases List.mem_cons.mp hm with rfl | hm
            · exact h1
            · exact h2 m hm
          omega
        rw [e2]
        exact q _ B H (.refl s) (.int _)
    · cases e
  · cases e
theorem min_ok (e : minD xs = some z) : Fn K (rMinA K) xs z := by
  unfold minD at e
  split at e
  · cases e
    refine fn_1 fun B H s us hu Q q => ?_
    obtain ⟨u, v, rfl, h, h2⟩ := da2 hu
    cases h
    cases h2
    exact ⟨_, _, rfl, q _ B H (.refl s) (.int _)⟩
  · split at e
    · rename_i n ns e1
      cases e
      rw [intsOf_ok e1]
      refine fn_2 fun B H s us hu Q q => ?_
      obtain ⟨u, rfl, h⟩ := da1 hu
      cases h with
      | lst h a =>
        obtain rfl := daInts a
        refine ⟨_, n :: ns, rfl, same_l s h, by simp, fun m hm hy => ?_⟩
        obtain ⟨h1, h2, h3⟩ := minI_le ns n
        have e2 : m = minI n ns := by
          have a1 : m ≤ minI n ns := hy _ (by rcases h3 with h3 | h3 <;> simp [h3])
          have a2 : minI n ns ≤ m := by
            rcases List.mem_cons.mp hm with rfl | hm
            · exact h1
            · exact h2 m hm
          omega
        rw [e2]
        exact q _ B H (.refl s) (.int _)
    · cases e
  · cases e
theorem int_ok (e : intD xs = some z) : Fn K rInt1 xs z := by
  intro B H s us hu Q q
  unfold intD at e
  split at e
  · cases e
    obtain ⟨u, rfl, h⟩ := da1 hu
    cases h
    exact .inl ⟨_, rfl, q _ B H (.refl s) (.int _)⟩
  · cases e
    obtain ⟨u, rfl, h⟩ := da1 hu
    cases h
    exact .inr ⟨_, rfl, q _ B H (.refl s) (.int _)⟩
  · cases e
theorem list_ok (e : listD xs = some z) : Fn K (rListOf K) xs z := by
  unfold listD at e
  split at e
  · cases e; exact fn_listL
  · cases e; exact fn_listT
  · cases e
theorem tuple_ok (e : tupleD xs = some z) : Fn K (rTupOf K) xs z := by
  intro B H s us hu Q q
  unfold tupleD at e
  split at e
  · cases e
    obtain ⟨u, rfl, h⟩ := da1 hu
    cases h with
    | @lst a ys _ h a1 =>
      refine ⟨_, ys, rfl, .inl ⟨same_l s h, fun l hl => ?_⟩⟩
      have g := Gr.add s hl (.tup ys)
      exact q _ _ _ g (.tup (.of upd_same) (a1.mono g.bb))
  · cases e
    obtain ⟨u, rfl, h⟩ := da1 hu
    cases h with
    | @tup a ys _ h a1 => exact ⟨_, ys, rfl, .inr ⟨same_t s h, q _ B H (.refl s) (.tup h a1)⟩⟩
  · cases e
theorem repr_ok (e : reprD xs = some z) : Fn K (rReprQ K) xs z := by
  unfold reprD at e
  split at e
  · split at e
    · rename_i h
      unfold okR at h
      rw [Bool.and_eq_true, Bool.and_eq_true] at h
      cases e
      exact fn_reprQ h.1 (of_decide_eq_true h.2.1) (by have := of_decide_eq_true h.2.2; rw [sizeLine_eq]; omega)
    · cases e
  · cases e
end
def bLen : ON := ⟨lenD, rLenA, fun _ _ _ => len_ok⟩
def bAll : ON := ⟨allD, rAll, fun _ _ _ => all_ok⟩
def bAny : ON := ⟨anyD, rAny, fun _ _ _ => any_ok⟩
def bSum : ON := ⟨sumD, rSum, fun _ _ _ => sum_ok⟩
def bMax : ON := ⟨maxD, rMaxA, fun _ _ _ => max_ok⟩
def bMin : ON := ⟨minD, rMinA, fun _ _ _ => min_ok⟩
def bInt : ON := ⟨intD, fun _ => rInt1, fun _ _ _ => int_ok⟩
def bList : ON := ⟨listD, rListOf, fun _ _ _ => list_ok⟩
def bTuple : ON := ⟨tupleD, rTupOf, fun _ _ _ => tuple_ok⟩
def bRepr : ON := ⟨reprD, rReprQ, fun _ _ _ => repr_ok⟩
def negD : PyData → Option PyData
  | .int i => some (.int (-i))
  | _ => none
def oNeg : O1 := ⟨negD, fun _ => rU fun i => .int (-i), fun K x z e => by
  intro B H s us hu Q q
  unfold negD at e
  split at e
  · cases e
    obtain ⟨u, rfl, h⟩ := da1 hu
    cases h
    exact ⟨_, rfl, _, rfl, q _ B H (.refl s) (.int _)⟩
  · cases e⟩
inductive Ty where
  | int | bool | str | list | tuple | dict
def Ty.name : Ty → String
  | .int => "int"
  | .bool => "bool"
  | .str => "str"
  | .list => "list"
  | .tuple => "tuple"
  | .dict => "dict"
def isT : Ty → PyData → Bool
  | .int, .int _ => true
  | .int, .bool _ => true
  | .bool, .bool _ => true
  | .str, .str _ => true
  | .list, .list _ => true
  | .tuple, .tuple _ => true
  | .dict, .dict _ => true
  | _, _ => false
def isDictD : PyData → Bool
  | .dict _ => true
  | _ => false
theorem kit_dict : ∀ x : PyData, kitB (tyD x) "dict" = some (isDictD x)
  | .none => (by decide +kernel : kitB "NoneType" "dict" = some false)
  | .bool _ => (by decide +kernel : kitB "bool" "dict" = some false)
  | .int _ => (by decide +kernel : kitB "int" "dict" = some false)
  | .str _ => (by decide +kernel : kitB "str" "dict" = some false)
  | .list _ => (by decide +kernel : kitB "list" "dict" = some false)
  | .tuple _ => (by decide +kernel : kitB "tuple" "dict" = some false)
  | .dict _ => (by decide +kernel : kitB "dict" "dict" = some true)
theorem kit_isT (T : Ty) (x : PyData) : kitB (tyD x) T.name = some (isT T x) := by
  cases T with
  | int => rw [show Ty.int.name = "int" from rfl, kit_int]; cases x <;> rfl
  | bool => rw [show Ty.bool.name = "bool" from rfl, kit_bool]; cases x <;> rfl
  | str => rw [show Ty.str.name = "str" from rfl, kit_str]; cases x <;> rfl
  | list => rw [show Ty.list.name = "list" from rfl, kit_list]; cases x <;> rfl
  | tuple => rw [show Ty.tuple.name = "tuple" from rfl, kit_tuple]; cases x <;> rfl
  | dict => rw [show Ty.dict.name = "dict" from rfl, kit_dict]; cases x <;> rfl
def isiD (T : Ty) : List PyData → Option PyData
  | [x] => some (.bool (isT T x))
  | _ => none
def bIsi (T : Ty) : ON := ⟨isiD T, fun K us H Q => rIsi K (us ++ [.ty T.name]) H Q, fun K xs z e => by
  intro B H s us hu Q q
  unfold isiD at e
  split at e
  · rename_i x
    cases e
    obtain ⟨u, rfl, h⟩ := da1 hu
    exact ⟨u, .ty T.name, _, _, isT T x, rfl, .ty T.name, tyx_of (h.mono s), kit_ty (kit_isT T x), q _ B H (.refl s) (.bl _)⟩
  · cases e⟩
namespace SE
def isi (T : Ty) (a : SE) : SE where
  ev := fun ρ h => (a.ev ρ h).bind fun x h1 => fnV (isiD T) [x] h1
  t := fun C md => tCB (rIsi C.K) (tCons (a.t C md) (tCons (tC (.ty T.name)) tNil))
  ok := fun C md ρ h σ B H m Q e w q =>
    a.ok C md ρ h σ B H m _ e w (Po.chain w q fun x h1 u B1 H1 m1 ea g1 w1 r1 q1 => fnV_ok ((bIsi T).ok C.K) w1 (.cons r1 .nil) q1)
def ixV (h : Hd) : Vd → Vd → Oc Vd
  | .r n, y => match h[n]? with
    | some (.lst xs) => match y with
      | .d (.int i) => match atD xs i with
        | some x => .ok x h
        | none => .no
      | _ => .no
    | some (.frz x) => fnV (f2 ixD) [.d x, y] h
    | some (.nod _ xs) => match y with
      | .d (.int i) => match atD xs i with
        | some x => .ok x h
        | none => .no
      | _ => .no
    | some .jnk => .no
    | some (.err _) => .no
    | some (.dct _) => .no
    | none => .no
  | x, y => fnV (f2 ixD) [x, y] h
theorem at_V {K : PySem.W.Frag} {B : Hp} {m : List Addr} {xs : List Vd} {vs : List V} {i : Int} {x : Vd} (e : atD xs i = some x) (h : VRs K B m xs vs) : ∃ v, atI vs i = some v ∧ VR K B m x v := by
  have hl := h.len
  unfold atD at e
  split at e
  · rename_i h0
    obtain ⟨v, e1, e2⟩ := h.at e
    refine ⟨v, ?_, e2⟩
    have := atI_nat e1
    rw [Int.toNat_of_nonneg h0] at this
    exact this
  · rename_i h0
    split at e
    · rename_i h1
      obtain ⟨v, e1, e2⟩ := h.at e
      refine ⟨v, ?_, e2⟩
      have lt := (List.getElem?_eq_some_iff.mp e1).1
      unfold atI ixN
      rw [hl]
      first
        | (rw [if_neg (by omega), if_pos (by omega)]; exact e1)
        | (rw [if_pos (by omega)]; exact e1)
    · cases e
def ix (a b : SE) : SE where
  ev := fun ρ h => (a.ev ρ h).bind fun x h1 => (b.ev ρ h1).bind fun y h2 => ixV h2 x y
  t := fun C md => tOp (rIxA C.K) (a.t C md) (b.t C md)
  ok := fun C md ρ h σ B H m Q e w q => by
    refine a.ok C md ρ h σ B H m _ e w (Po.chain w q fun x h1 u B1 H1 m1 ea g1 w1 r1 q1 => ?_)
    refine b.ok C md ρ h1 σ B1 H1 m1 _ (e.gm g1) w1 (Po.chain w1 q1 fun y h2 v B2 H2 m2 eb g2 w2 r2 q2 => ?_)
    have r1' := VR.gm r1 g2
    have plain : ∀ x, VR C.K B2 m2 x u → Po C md σ (rV C) m2 B2 H2 (fnV (f2 ixD) [x, y] h2) Q → rIxA C.K u v H2 Q := fun x rx q => by
      obtain ⟨u', v', e', z⟩ := fnV_ok (r := r2L (rIxA C.K)) (fun xs z e => (O2.mk ixD rIxA fun _ _ _ _ => ix_ok).fn C.K xs z e) w2 (.cons rx (.cons r2 .nil)) q
      cases e'
      exact z
    match x, r1', q2 with
    | .d d, r1', q2 => exact plain _ r1' q2
    | .r n, .r (a := a) p, q2 =>
      unfold ixV at q2
      dsimp only at q2
      split at q2
      · rename_i xs en
        obtain ⟨_, vs, hv, rs⟩ := w2.ent n a _ p en
        split at q2
        · split at q2
          · rename_i z ez
            cases r2 with
            | d hi =>
              cases hi
              obtain ⟨zv, e1, e2⟩ := at_V ez rs
              exact .inl ⟨a, vs, _, zv, rfl, rfl, .of hv, e1, q2 zv B2 H2 m2 (.refl w2) w2 e2⟩
          · exact q2.elim
        · exact q2.elim
      · rename_i d en
        exact plain _ (.d (w2.ent n a _ p en).1) q2
      · rename_i tup xs en
        obtain ⟨_, vs, hv, rs⟩ := w2.ent n a _ p en
        split at q2
        · split at q2
          · rename_i z ez
            cases r2 with
            | d hi =>
              cases hi
              obtain ⟨zv, e1, e2⟩ := at_V ez rs
              cases tup with
              | true => exact .inr ⟨a, vs, _, zv, rfl, rfl, .of hv, e1, q2 zv B2 H2 m2 (.refl w2) w2 e2⟩
              | false => exact .inl ⟨a, vs, _, zv, rfl, rfl, .of hv, e1, q2 zv B2 H2 m2 (.refl w2) w2 e2⟩
          · exact q2.elim
        · exact q2.elim
      · exact q2.elim
      · exact q2.elim
      · exact q2.elim
      · exact q2.elim
end SE
structure SO where
  ev : Rh → Hd → Oc (Option Int)
  t : Ctx → Md → TO
  ok : ∀ (C : Ctx) (md : Md) (ρ : Rh) (h : Hd) (σ : L2.St) (B H : Hp) (m : List Addr) (Q : Option Int → Hp → Prop), EnvN C.K B m σ ρ → WOk C.K B H m h → Po C md σ (fun _ _ x v => x = v) m B H (ev ρ h) Q → t C md σ H Q
def SO.none : SO where
  ev := fun _ h => .ok Option.none h
  t := fun _ _ => tNoPart
  ok := fun C md ρ h σ B H m Q e w q => q _ B H m (.refl w) w rfl
def SO.some (a : SE) : SO where
  ev := fun ρ h => (a.ev ρ h).bind fun x h1 => match x with
    | .d (.int i) => .ok (Option.some i) h1
    | _ => .no
  t := fun C md => tPart (a.t C md)
  ok := fun C md ρ h σ B H m Q e w q => by
    refine a.ok C md ρ h σ B H m _ e w (Po.chain w q fun x h1 u B1 H1 m1 ea g1 w1 r1 q1 => ?_)
    match x, r1, q1 with
    | .d (.int i), .d (.int _), q1 => exact ⟨i, rfl, q1 _ B1 H1 m1 (.refl w1) w1 rfl⟩
def rSlB (K : PySem.W.Frag) : V → Option Int → Option Int → Hp → VK → Prop := fun x lo hi H Q => rSlL K x lo hi H Q ∨ rSlA K x lo hi H Q
theorem slB {X : Cx} (K : PySem.W.Frag) (h : X.K = K := by rfl) : SlR X (rSlB K) := by
  subst h
  exact SlR.or sl_list sl_tupA
def itemsD (h : Hd) : Vd → Option (List PyData)
  | .d (.list ds) => some ds
  | .d _ => Option.none
  | .r n => match h[n]? with
    | some (.lst xs) => datas xs
    | some (.frz (.list ds)) => some ds
    | _ => Option.none
theorem itemsD_ok {C : Ctx} {B H : Hp} {m : List Addr} {h : Hd} (w : WOk C.K B H m h) {x : Vd} {v : V} {ds : List PyData} (e : itemsD h x = some ds) (r : VR C.K B m x v) : ∃ a vs, v = .ref a ∧ SqL C.K H a vs ∧ DaAll C.K B vs ds := by
  unfold itemsD at e
  match x, r, e with
  | .d (.list xs), .d (.lst h1 a1), e =>
    cases e
    exact ⟨_, _, rfl, same_l w.sub h1, a1⟩
  | .r n, .r (a := a) p, e =>
    dsimp only at e
    split at e
    · rename_i xs en
      obtain ⟨_, vs, hv, rs⟩ := w.ent n a _ p en
      rw [datas_ok e] at rs
      exact ⟨a, vs, rfl, .of hv, rs.data⟩
    · rename_i en
      cases e
      obtain ⟨da, _⟩ := w.ent n a _ p en
      cases da with
      | lst h1 a1 => exact ⟨a, _, rfl, same_l w.sub h1, a1⟩
    · cases e
namespace SE
def sl (a : SE) (lo hi : SO) : SE where
  ev := fun ρ h => (a.ev ρ h).bind fun x h1 => (lo.ev ρ h1).bind fun l h2 => (hi.ev ρ h2).bind fun u h3 => match x with
    | .d (.tuple ds) => .ok (.d (.tuple (G.cutD ds l u))) h3
    | x => match itemsD h3 x with
      | some ds => .ok (.d (.list (G.cutD ds l u))) h3
      | Option.none => .no
  t := fun C md => tSl (rSlB C.K) (a.t C md) (lo.t C md) (hi.t C md)
  ok := fun C md ρ h σ B H m Q e w q => by
    refine a.ok C md ρ h σ B H m _ e w (Po.chain w q fun x h1 v B1 H1 m1 ea g1 w1 r1 q1 => ?_)
    refine lo.ok C md ρ h1 σ B1 H1 m1 _ (e.gm g1) w1 (Po.chain w1 q1 fun l h2 l' B2 H2 m2 el g2 w2 r2 q2 => ?_)
    cases r2
    refine hi.ok C md ρ h2 σ B2 H2 m2 _ ((e.gm g1).gm g2) w2 (Po.chain w2 q2 fun u h3 u' B3 H3 m3 eu g3 w3 r3 q3 => ?_)
    cases r3
    have r1' := VR.gm (VR.gm r1 g2) g3
    split at q3
    · rename_i ds
      refine .inr ?_
      cases r1' with
      | d r1' =>
        cases r1' with
        | @tup a vs _ h a1 =>
          refine ⟨a, vs, rfl, same_t w3.sub h, fun hw => ?_, fun hw p hp => ?_⟩
          · have e2 : G.cutD ds l u = ds := by
              have hl := a1.len
              unfold G.cutD
              rw [← hl, hw.1, hw.2, List.drop_zero, Nat.sub_zero, hl, List.take_length]
            rw [e2] at q3
            exact q3 _ B3 H3 m3 (.refl w3) w3 (.d (.tup h a1))
          · have k := Gr.add w3.sub hp (.tup (cutV vs l u))
            exact q3 _ _ _ _ (.of w3 k) (w3.gr k) (.d (.tup (.of upd_same) ((cut_all a1 l u).mono k.bb)))
    · split at q3
      · rename_i ds ei
        obtain ⟨a, vs, rfl, hv, a1⟩ := itemsD_ok w3 ei r1'
        refine .inl ⟨a, vs, rfl, hv, fun p hp => ?_⟩
        have k := Gr.add w3.sub hp (.lst (cutV vs l u))
        exact q3 _ _ _ _ (.of w3 k) (w3.gr k) (.d (.lst (.of upd_same) ((cut_all a1 l u).mono k.bb)))
      · exact q3.elim
def tRevX (K : PySem.W.Frag) (te : TE) : TE := fun σ H Q => tRevL K te σ H Q ∨ tRevT K te σ H Q
def rev (a : SE) : SE where
  ev := fun ρ h => (a.ev ρ h).bind fun x h1 => match x with
    | .d (.tuple ds) => .ok (.d (.tuple ds.reverse)) h1
    | x => match itemsD h1 x with
      | some ds => .ok (.d (.list ds.reverse)) h1
      | Option.none => .no
  t := fun C md => tRevX C.K (a.t C md)
  ok := fun C md ρ h σ B H m Q e w q => by
    cases c : a.ev ρ h with
    | ex c' x h1 =>
      rw [c] at q
      refine .inl (a.ok C md ρ h σ B H m _ e w ?_)
      rw [c]
      exact q
    | no =>
      rw [c] at q
      exact q.elim
    | ok x h1 =>
      rw [c] at q
      dsimp only [Oc.bind] at q
      split at q
      · rename_i ds
        refine .inr (a.ok C md ρ h σ B H m _ e w ?_)
        rw [c]
        intro v B1 H1 m1 g1 w1 r1
        cases r1 with
        | d r1 =>
          cases r1 with
          | @tup b vs _ h2 a1 =>
            refine ⟨b, vs, rfl, same_t w1.sub h2, fun p hp => ?_⟩
            have k := Gr.add w1.sub hp (.tup vs.reverse)
            exact q _ _ _ _ (g1.trans w (.of w1 k)) (w1.gr k) (.d (.tup (.of upd_same) (a1.rev.mono k.bb)))
      · split at q
        · rename_i ds ei
          refine .inl (a.ok C md ρ h σ B H m _ e w ?_)
          rw [c]
          intro v B1 H1 m1 g1 w1 r1
          obtain ⟨b, vs, rfl, hv, a1⟩ := itemsD_ok w1 ei r1
          refine ⟨b, vs, rfl, hv, fun p hp => ?_⟩
          have k := Gr.add w1.sub hp (.lst vs.reverse)
          exact q _ _ _ _ (g1.trans w (.of w1 k)) (w1.gr k) (.d (.lst (.of upd_same) (a1.rev.mono k.bb)))
        · exact q.elim
theorem revX {X : Cx} {K : PySem.W.Frag} {e : Expr} {te : TE} {k : Nat} {p1 p2 p3 pos : Pos} (he : PE X e te) (h : X.K = K := by rfl) : PE X (.Subscript e (.Slice none none (some (.UnaryOp .USub (.Constant (.int 1) k p1) p2)) p3) pos) (tRevX K te) := by
  subst h
  refine ⟨fun pins s σ H Q I hw => ?_⟩
  rcases hw with hw | hw
  · exact (pe_revL he).run pins s σ H Q I hw
  · exact (pe_revT he).run pins s σ H Q I hw
theorem gm_new {K : PySem.W.Frag} {B H : Hp} {m : List Addr} {h : Hd} (w : WOk K B H m h) {p : Addr} (hp : H p = none) {vs : List V} {xs : List Vd} (r : VRs K B m xs vs) :
    Gm m B H B (upd H p (.lst vs)) (m ++ [p]) ∧ WOk K B (upd H p (.lst vs)) (m ++ [p]) (h ++ [.lst xs]) := by
  have k := Gr.side w.sub hp (.lst vs)
  have w1 := w.gr k
  have np : p ∉ m := fun z => w.tracked z hp
  refine ⟨⟨Same.refl _, fun a o _ e => k.ex a o e, fun a o e n => (by rw [n] at e; cases e), fun a e => ?_, [p], rfl, by simpa using hp⟩, ⟨k.sub, by simp [w.len], ?_, fun n a e p1 q1 => ?_⟩⟩
  · by_cases c : a = p
    · subst c; exact absurd hp e
    · rw [upd_ne c]; exact e
  · rw [List.nodup_append]
    refine ⟨w.nd, by simp, fun a ha b hb e => ?_⟩
    have : b = p := by simpa using hb
    subst this
    exact np (e ▸ ha)
  · by_cases c : n < m.length
    · rw [List.getElem?_append_left c] at p1
      rw [List.getElem?_append_left (by rw [← w.len]; exact c)] at q1
      have z := w1.ent n a e p1 q1
      match e, z with
      | .lst ys, ⟨z1, us, z2, z3⟩ => exact ⟨z1, us, z2, z3.mono (Same.refl _) [p]⟩
      | .frz y, z => exact z
      | .nod _ ys, ⟨z1, us, z2, z3⟩ => exact ⟨z1, us, z2, z3.mono (Same.refl _) [p]⟩
      | .jnk, z => exact z
      | .err y, z => exact z
      | .dct _, ⟨z1, z2⟩ => exact ⟨z1, z2⟩
    · have hl := w.len
      have l1 : n < (m ++ [p]).length := (List.getElem?_eq_some_iff.mp p1).1
      rw [List.length_append] at l1
      have en : n = m.length := by
        have : n < m.length + 1 := l1
        omega
      subst en
      rw [List.getElem?_append_right (Nat.le_refl _), Nat.sub_self] at p1
      rw [List.getElem?_append_right (by omega), hl, Nat.sub_self] at q1
      cases p1
      cases q1
      exact ⟨w.sub.free hp, vs, upd_same, r.mono (Same.refl _) [p]⟩
def lstM (a : SL) : SE where
  ev := fun ρ h => (a.ev ρ h).bind fun xs h1 => if xs.length ≤ 1000000 then .ok (.r h1.length) (h1 ++ [.lst xs]) else .no
  t := fun C md => tLst (a.t C md)
  ok := fun C md ρ h σ B H m Q e w q => by
    refine a.ok C md ρ h σ B H m _ e w (Po.chain w q fun xs h1 us B1 H1 m1 ea g1 w1 r1 q1 => ?_)
    split at q1
    · rename_i hl
      refine ⟨by rw [r1.len, sizeLine_eq]; omega, fun p hp => ?_⟩
      obtain ⟨k, w2⟩ := gm_new w1 hp r1
      exact q1 _ _ _ _ k w2 (.r (by rw [← w1.len, List.getElem?_append_right (Nat.le_refl _), Nat.sub_self]; rfl))
    · exact q1.elim
def itemsV (h : Hd) : Vd → Option (List Vd)
  | .d (.list ds) => some (ds.map .d)
  | .d (.tuple ds) => some (ds.map .d)
  | .d _ => Option.none
  | .r n => match h[n]? with
    | some (.lst xs) => some xs
    | some (.frz (.list ds)) => some (ds.map .d)
    | _ => Option.none
theorem itemsV_ok {C : Ctx} {B H : Hp} {m : List Addr} {h : Hd} (w : WOk C.K B H m h) {x : Vd} {v : V} {xs : List Vd} (e : itemsV h x = some xs) (r : VR C.K B m x v) :
    ∃ a vs, v = .ref a ∧ (SqL C.K H a vs ∨ SqT C.K H a vs) ∧ VRs C.K B m xs vs := by
  unfold itemsV at e
  match x, r, e with
  | .d (.list xs), .d (.lst h1 a1), e =>
    cases e
    exact ⟨_, _, rfl, .inl (same_l w.sub h1), VRs.all a1⟩
  | .d (.tuple xs), .d (.tup h1 a1), e =>
    cases e
    exact ⟨_, _, rfl, .inr (same_t w.sub h1), VRs.all a1⟩
  | .r n, .r (a := a) p, e =>
    dsimp only at e
    split at e
    · rename_i xs en
      cases e
      obtain ⟨_, vs, hv, rs⟩ := w.ent n a _ p en
      exact ⟨a, vs, rfl, .inl (.of hv), rs⟩
    · rename_i en
      cases e
      obtain ⟨da, _⟩ := w.ent n a _ p en
      cases da with
      | lst h1 a1 => exact ⟨a, _, rfl, .inl (same_l w.sub h1), VRs.all a1⟩
    · cases e
theorem one_last {α : Type} (m : List α) (p : α) : (m ++ [p])[m.length]? = some p := by rw [List.getElem?_append_right (Nat.le_refl _), Nat.sub_self]; rfl
def listM (a : SE) : SE where
  ev := fun ρ h => (a.ev ρ h).bind fun x h1 => match itemsV h1 x with
    | some xs => .ok (.r h1.length) (h1 ++ [.lst xs])
    | Option.none => .no
  t := fun C md => tCB (rListOf C.K) (tCons (a.t C md) tNil)
  ok := fun C md ρ h σ B H m Q e w q => by
    refine a.ok C md ρ h σ B H m _ e w (Po.chain w q fun x h1 v B1 H1 m1 ea g1 w1 r1 q1 => ?_)
    split at q1
    · rename_i xs ei
      obtain ⟨b, vs, rfl, hv, rs⟩ := itemsV_ok w1 ei r1
      refine ⟨b, vs, rfl, hv, fun l hl => ?_⟩
      obtain ⟨k, w2⟩ := gm_new w1 hl rs
      exact q1 _ _ _ _ k w2 (.r (by rw [← w1.len]; exact one_last _ _))
    · exact q1.elim
def cutX (xs : List Vd) (lo hi : Option Int) : List Vd := (xs.drop (HT.sIx xs.length 0 lo)).take (HT.sIx xs.length xs.length hi - HT.sIx xs.length 0 lo)
theorem cutX_ok {K : PySem.W.Frag} {B : Hp} {m : List Addr} {xs : List Vd} {vs : List V} (r : VRs K B m xs vs) (lo hi : Option Int) : VRs K B m (cutX xs lo hi) (cutV vs lo hi) := by
  have e1 := r.len
  unfold cutX cutV
  rw [e1]
  exact (r.drop _).take _
def itemsL (h : Hd) : Vd → Option (List Vd)
  | .d (.list ds) => some (ds.map .d)
  | .d _ => Option.none
  | .r n => match h[n]? with
    | some (.lst xs) => some xs
    | some (.frz (.list ds)) => some (ds.map .d)
    | _ => Option.none
theorem itemsL_ok {C : Ctx} {B H : Hp} {m : List Addr} {h : Hd} (w : WOk C.K B H m h) {x : Vd} {v : V} {xs : List Vd} (e : itemsL h x = some xs) (r : VR C.K B m x v) :
    ∃ a vs, v = .ref a ∧ SqL C.K H a vs ∧ VRs C.K B m xs vs := by
  unfold itemsL at e
  match x, r, e with
  | .d (.list xs), .d (.lst h1 a1), e =>
    cases e
    exact ⟨_, _, rfl, same_l w.sub h1, VRs.all a1⟩
  | .r n, .r (a := a) p, e =>
    dsimp only at e
    split at e
    · rename_i xs en
      cases e
      obtain ⟨_, vs, hv, rs⟩ := w.ent n a _ p en
      exact ⟨a, vs, rfl, .of hv, rs⟩
    · rename_i en
      cases e
      obtain ⟨da, _⟩ := w.ent n a _ p en
      cases da with
      | lst h1 a1 => exact ⟨a, _, rfl, same_l w.sub h1, VRs.all a1⟩
    · cases e
def slM (a : SE) (lo hi : SO) : SE where
  ev := fun ρ h => (a.ev ρ h).bind fun x h1 => (lo.ev ρ h1).bind fun l h2 => (hi.ev ρ h2).bind fun u h3 => match itemsL h3 x with
    | some xs => .ok (.r h3.length) (h3 ++ [.lst (cutX xs l u)])
    | Option.none => .no
  t := fun C md => tSl (rSlB C.K) (a.t C md) (lo.t C md) (hi.t C md)
  ok := fun C md ρ h σ B H m Q e w q => by
    refine a.ok C md ρ h σ B H m _ e w (Po.chain w q fun x h1 v B1 H1 m1 ea g1 w1 r1 q1 => ?_)
    refine lo.ok C md ρ h1 σ B1 H1 m1 _ (e.gm g1) w1 (Po.chain w1 q1 fun l h2 l' B2 H2 m2 el g2 w2 r2 q2 => ?_)
    cases r2
    refine hi.ok C md ρ h2 σ B2 H2 m2 _ ((e.gm g1).gm g2) w2 (Po.chain w2 q2 fun u h3 u' B3 H3 m3 eu g3 w3 r3 q3 => ?_)
    cases r3
    split at q3
    · rename_i xs ei
      obtain ⟨a, vs, rfl, hv, rs⟩ := itemsL_ok w3 ei (VR.gm (VR.gm r1 g2) g3)
      refine .inl ⟨a, vs, rfl, hv, fun p hp => ?_⟩
      obtain ⟨k, w4⟩ := gm_new w3 hp (cutX_ok rs l u)
      exact q3 _ _ _ _ k w4 (.r (by rw [← w3.len]; exact one_last _ _))
    · exact q3.elim
def addM (a b : SE) : SE where
  ev := fun ρ h => (a.ev ρ h).bind fun x h1 => (b.ev ρ h1).bind fun y h2 => match itemsL h2 x, itemsL h2 y with
    | some xs, some ys => if xs.length + ys.length ≤ 1000000 then .ok (.r h2.length) (h2 ++ [.lst (xs ++ ys)]) else .no
    | _, _ => .no
  t := fun C md => tOp (rAddA C.K) (a.t C md) (b.t C md)
  ok := fun C md ρ h σ B H m Q e w q => by
    refine a.ok C md ρ h σ B H m _ e w (Po.chain w q fun x h1 u B1 H1 m1 ea g1 w1 r1 q1 => ?_)
    refine b.ok C md ρ h1 σ B1 H1 m1 _ (e.gm g1) w1 (Po.chain w1 q1 fun y h2 v B2 H2 m2 eb g2 w2 r2 q2 => ?_)
    split at q2
    · rename_i xs ys ex ey
      split at q2
      · rename_i hl
        obtain ⟨a1, vs, rfl, hv, rs⟩ := itemsL_ok w2 ex (VR.gm r1 g2)
        obtain ⟨a2, us, rfl, hu, rt⟩ := itemsL_ok w2 ey r2
        refine .inr (.inl ⟨a1, a2, vs, us, rfl, rfl, hv, hu, by rw [rs.len, rt.len, sizeLine_eq]; omega, fun p hp => ?_⟩)
        obtain ⟨k, w4⟩ := gm_new w2 hp (rs.app rt)
        exact q2 _ _ _ _ k w4 (.r (by rw [← w2.len]; exact one_last _ _))
      · exact q2.elim
    · exact q2.elim
def revM (a : SE) : SE where
  ev := fun ρ h => (a.ev ρ h).bind fun x h1 => match itemsL h1 x with
    | some xs => .ok (.r h1.length) (h1 ++ [.lst xs.reverse])
    | Option.none => .no
  t := fun C md => tRevX C.K (a.t C md)
  ok := fun C md ρ h σ B H m Q e w q => by
    refine .inl (a.ok C md ρ h σ B H m _ e w (Po.chain w q fun x h1 v B1 H1 m1 ea g1 w1 r1 q1 => ?_))
    split at q1
    · rename_i xs ei
      obtain ⟨a1, vs, rfl, hv, rs⟩ := itemsL_ok w1 ei r1
      refine ⟨a1, vs, rfl, hv, fun p hp => ?_⟩
      obtain ⟨k, w4⟩ := gm_new w1 hp rs.rev
      exact q1 _ _ _ _ k w4 (.r (by rw [← w1.len]; exact one_last _ _))
    · exact q1.elim
def frz (a : SE) : SE where
  ev := fun ρ h => (a.ev ρ h).bind fun x h1 => match N.frz h1 x with
    | some (d, h2) => .ok (.d d) h2
    | Option.none => .no
  t := a.t
  ok := fun C md ρ h σ B H m Q e w q => by
    refine a.ok C md ρ h σ B H m _ e w (Po.chain w q fun x h1 v B1 H1 m1 ea g1 w1 r1 q1 => ?_)
    split at q1
    · rename_i d h2 ef
      obtain ⟨B2, g2, w2, d2⟩ := frz_ok w1 ef r1
      exact q1 v B2 H1 m1 g2 w2 (.d d2)
    · exact q1.elim
end SE
end N
end
section
set_option maxRecDepth 100000
set_option maxHeartbeats 2000000
namespace N
open PySem PySem.Spec PyProof.Rows L2 G
def rI (C : Ctx) : Hp → List Addr → List PyData → It → Prop := fun B _ es J => Goes C.K J B es
structure SI where
  ev : Rh → Hd → Oc (List PyData)
  t : Ctx → Md → TI
  ok : ∀ (C : Ctx) (md : Md) (ρ : Rh) (h : Hd) (σ : L2.St) (B H : Hp) (m : List Addr) (R : It → Hp → Prop), EnvN C.K B m σ ρ → WOk C.K B H m h → Po C md σ (rI C) m B H (ev ρ h) R → t C md σ H R
def seqD : PyData → Option (List PyData)
  | .list ds => some ds
  | .tuple ds => some ds
  | _ => none
namespace SI
def seq (a : SE) : SI where
  ev := fun ρ h => (a.ev ρ h).bind fun x h1 => match frz h1 x with
    | some (d, h2) => match seqD d with
      | some ds => .ok ds h2
      | none => .no
    | none => .no
  t := fun C md => orI (iList C.K (a.t C md)) (iTup C.K (a.t C md))
  ok := fun C md ρ h σ B H m R e w q => by
    cases c : a.ev ρ h with
    | no => rw [c] at q; exact q.elim
    | ex c' x h1 =>
      rw [c] at q
      refine .inl (a.ok C md ρ h σ B H m _ e w ?_)
      rw [c]
      exact q
    | ok x h1 =>
      rw [c] at q
      dsimp only [Oc.bind] at q
      split at q
      · rename_i d h2 ef
        split at q
        · rename_i ds es
          match d, es, ef with
          | .list xs, es, ef =>
            cases es
            refine .inl (a.ok C md ρ h σ B H m _ e w ?_)
            rw [c]
            intro v B1 H1 m1 g1 w1 r1
            obtain ⟨B2, g2, w2, d2⟩ := frz_ok w1 ef r1
            cases d2 with
            | lst p a1 => exact ⟨_, rfl, ⟨_, same_l w2.sub p⟩, q _ B2 H1 m1 (g1.trans w g2) w2 (goes_at walk_list (fun H' s' => same_l s' p) a1)⟩
          | .tuple xs, es, ef =>
            cases es
            refine .inr (a.ok C md ρ h σ B H m _ e w ?_)
            rw [c]
            intro v B1 H1 m1 g1 w1 r1
            obtain ⟨B2, g2, w2, d2⟩ := frz_ok w1 ef r1
            cases d2 with
            | tup p a1 => exact ⟨_, rfl, ⟨_, same_t w2.sub p⟩, q _ B2 H1 m1 (g1.trans w g2) w2 (goes_at walk_tup (fun H' s' => same_t s' p) a1)⟩
          | .none, es, _ => cases es
          | .bool _, es, _ => cases es
          | .int _, es, _ => cases es
          | .str _, es, _ => cases es
          | .dict _, es, _ => cases es
        · exact q.elim
      · exact q.elim
def dis (a : SE) : SI where
  ev := fun ρ h => (a.ev ρ h).bind fun x h1 => match x with
    | .d (.list ds) => .ok ds h1
    | _ => .no
  t := fun C md => iList C.K (a.t C md)
  ok := fun C md ρ h σ B H m R e w q => by
    refine a.ok C md ρ h σ B H m _ e w (Po.chain w q fun x h1 v B1 H1 m1 ea g1 w1 r1 q1 => ?_)
    match x, r1, q1 with
    | .d (.list ds), .d (.lst p a1), q1 => exact ⟨_, rfl, ⟨_, same_l w1.sub p⟩, q1 _ B1 H1 m1 (.refl w1) w1 (goes_at walk_list (fun H' s' => same_l s' p) a1)⟩
def rng (lo n : Int) : List PyData := (List.range (n - lo).toNat).map fun (i : Nat) => .int (lo + (i : Int))
theorem rng_goes {K : PySem.W.Frag} {B : Hp} {lo hi : Int} {n : Nat} (hn : (hi - lo).toNat = n) : Goes K (Itr lo n) B (rng lo hi) := by
  subst hn
  unfold Goes rng
  rw [List.length_map, List.length_range]
  refine walk_range.mono (fun _ _ => trivial) fun i H x H' hi s y B0 s0 h0 => ?_
  obtain ⟨rfl, rfl⟩ := y
  exact ⟨B0, .int (lo + (i : Int)), .refl h0, by simp [hi], .int _⟩
def big62 (i : Int) : Bool := decide (-(2 ^ 62) ≤ i) && decide (i < 2 ^ 62)
def rng1 (a : SL) : SI where
  ev := fun ρ h => (a.ev ρ h).bind fun xs h1 => match xs with
    | [.d (.int n)] => if big62 n = true then .ok (rng 0 n) h1 else .no
    | _ => .no
  t := fun C md => iRng1 (a.t C md)
  ok := fun C md ρ h σ B H m R e w q => by
    refine a.ok C md ρ h σ B H m _ e w (Po.chain w q fun xs h1 vs B1 H1 m1 ea g1 w1 r1 q1 => ?_)
    split at q1
    · rename_i n
      split at q1
      · rename_i hb
        unfold big62 at hb
        rw [Bool.and_eq_true] at hb
        cases r1 with
        | cons r1 t =>
          cases t
          cases r1 with
          | d r1 =>
            cases r1
            exact ⟨n, rfl, of_decide_eq_true hb.1, of_decide_eq_true hb.2, q1 _ B1 H1 m1 (.refl w1) w1 (rng_goes (by rw [Int.sub_zero]))⟩
      · exact q1.elim
    · exact q1.elim
def rng2 (a : SL) : SI where
  ev := fun ρ h => (a.ev ρ h).bind fun xs h1 => match xs with
    | [.d (.int l), .d (.int n)] => if (big62 l && big62 n) = true then .ok (rng l n) h1 else .no
    | _ => .no
  t := fun C md => iRng2 (a.t C md)
  ok := fun C md ρ h σ B H m R e w q => by
    refine a.ok C md ρ h σ B H m _ e w (Po.chain w q fun xs h1 vs B1 H1 m1 ea g1 w1 r1 q1 => ?_)
    split at q1
    · rename_i l n
      split at q1
      · rename_i hb
        unfold big62 at hb
        rw [Bool.and_eq_true, Bool.and_eq_true, Bool.and_eq_true] at hb
        obtain ⟨⟨a1, a2⟩, a3, a4⟩ := hb
        cases r1 with
        | cons r1 t =>
          cases t with
          | cons r2 t =>
            cases t
            cases r1 with
            | d r1 =>
              cases r2 with
              | d r2 =>
                cases r1
                cases r2
                exact ⟨l, n, rfl, ⟨of_decide_eq_true a1, of_decide_eq_true a2, of_decide_eq_true a3, of_decide_eq_true a4⟩, q1 _ B1 H1 m1 (.refl w1) w1 (rng_goes rfl)⟩
      · exact q1.elim
    · exact q1.elim
def zipE : List PyData → Option (List PyData)
  | [.list xs, .list ys] => some (zipD xs ys)
  | [.tuple xs, .list ys] => some (zipD xs ys)
  | [.tuple xs, .tuple ys] => some (zipD xs ys)
  | _ => none
def zip (a : SL) : SI where
  ev := fun ρ h => (a.ev ρ h).bind fun xs h1 => match frzL h1 xs with
    | some (ds, h2) => match zipE ds with
      | some es => .ok es h2
      | none => .no
    | none => .no
  t := fun C md => orI (RZ.iZipA C.K (a.t C md)) (iZipM C.K (a.t C md))
  ok := fun C md ρ h σ B H m R e w q => by
    cases c : a.ev ρ h with
    | no => rw [c] at q; exact q.elim
    | ex c' x h1 =>
      rw [c] at q
      refine .inl (a.ok C md ρ h σ B H m _ e w ?_)
      rw [c]
      exact q
    | ok xs h1 =>
      rw [c] at q
      dsimp only [Oc.bind] at q
      split at q
      · rename_i ds h2 ef
        split at q
        · rename_i es ez
          have go : ∀ (r : List V → Hp → (It → Hp → Prop) → Prop), (∀ u v x y es' fs', ds = [x, y] → seqD x = some es' → seqD y = some fs' → es = zipD es' fs' → ∀ B2 H2, Same B2 H2 → Da C.K B2 u x → Da C.K B2 v y → ∀ R : It → Hp → Prop, (∀ J, Goes C.K J B2 es → R J H2) → r [u, v] H2 R) →
              (∃ x y es' fs', ds = [x, y] ∧ seqD x = some es' ∧ seqD y = some fs' ∧ es = zipD es' fs') → a.t C md σ H (fun vs H1 => r vs H1 R) := fun r hr ⟨x, y, es', fs', hds, h1', h2', h3'⟩ => by
            refine a.ok C md ρ h σ B H m _ e w ?_
            rw [c]
            intro vs B1 H1 m1 g1 w1 r1
            obtain ⟨B2, g2, w2, d2⟩ := frzL_ok w1 ef r1
            rw [hds] at d2
            obtain ⟨u, v, rfl, du, dv⟩ := da2 d2
            exact hr u v x y es' fs' hds h1' h2' h3' B2 H1 w2.sub du dv R fun J gj => q J B2 H1 m1 (g1.trans w g2) w2 gj
          unfold zipE at ez
          split at ez
          · cases ez
            refine .inl (go (fun vs H1 R => ∃ a b xs ys, vs = [.ref a, .ref b] ∧ ((SqL C.K H1 a xs ∧ SqL C.K H1 b ys ∧ R (Itz C.K a b) H1) ∨ (SqT C.K H1 a xs ∧ SqT C.K H1 b ys ∧ R (RZ.ItzT C.K a b) H1))) ?_ ⟨_, _, _, _, rfl, rfl, rfl, rfl⟩)
            intro u v x y es' fs' hds h1' h2' h3' B2 H2 s du dv R qq
            cases hds
            cases h1'
            cases h2'
            cases du with
            | lst p1 a1 =>
              cases dv with
              | lst p2 a2 => exact ⟨_, _, _, _, rfl, .inl ⟨same_l s p1, same_l s p2, qq _ (goes_pair (walk_zip rfl) (fun H' s' => ⟨same_l s' p1, same_l s' p2⟩) a1 a2)⟩⟩
          · cases ez
            refine .inr (go (fun vs H1 R => ∃ a b xs ys, vs = [.ref a, .ref b] ∧ SqT C.K H1 a xs ∧ SqL C.K H1 b ys ∧ R (ItM C.K a b) H1) ?_ ⟨_, _, _, _, rfl, rfl, rfl, rfl⟩)
            intro u v x y es' fs' hds h1' h2' h3' B2 H2 s du dv R qq
            cases hds
            cases h1'
            cases h2'
            cases du with
            | tup p1 a1 =>
              cases dv with
              | lst p2 a2 => exact ⟨_, _, _, _, rfl, same_t s p1, same_l s p2, qq _ (goes_pair walkM (fun H' s' => ⟨same_t s' p1, same_l s' p2⟩) a1 a2)⟩
          · cases ez
            refine .inl (go (fun vs H1 R => ∃ a b xs ys, vs = [.ref a, .ref b] ∧ ((SqL C.K H1 a xs ∧ SqL C.K H1 b ys ∧ R (Itz C.K a b) H1) ∨ (SqT C.K H1 a xs ∧ SqT C.K H1 b ys ∧ R (RZ.ItzT C.K a b) H1))) ?_ ⟨_, _, _, _, rfl, rfl, rfl, rfl⟩)
            intro u v x y es' fs' hds h1' h2' h3' B2 H2 s du dv R qq
            cases hds
            cases h1'
            cases h2'
            cases du with
            | tup p1 a1 =>
              cases dv with
              | tup p2 a2 => exact ⟨_, _, _, _, rfl, .inr ⟨same_t s p1, same_t s p2, qq _ (goes_pair walkT (fun H' s' => ⟨same_t s' p1, same_t s' p2⟩) a1 a2)⟩⟩
          · cases ez
        · exact q.elim
      · exact q.elim
theorem goes_enum {K : PySem.W.Frag} {B : Hp} {a : Addr} {xs : List V} {es : List PyData} (p1 : SqL K B a xs) (a1 : DaAll K B xs es) : Goes K (Ite K a) B (enumD es) := by
  have hl := a1.len
  unfold Goes
  rw [show (enumD es).length = es.length by unfold enumD; simp, ← hl]
  refine walk_enum.mono (fun H' s' => same_l s' p1) fun i H x H' hi s y B0 s0 h0 => ?_
  obtain ⟨T, p, q, rfl, hT, rfl, hp, hq⟩ := y
  have hx : i < es.length := by omega
  obtain ⟨v, e1, e2⟩ := a1.at (List.getElem?_eq_getElem hx)
  cases hp
  have hq' := (show _ = some q from hq)
  simp only at hq'
  rw [e1] at hq'
  cases hq'
  have g := Gr.add h0 hT (.tup [.int (i : Nat), q])
  refine ⟨_, .tuple [.int i, es[i]], g, ?_, .tup (.of upd_same) (.cons (.int _) (.cons ((e2.mono s0).mono g.bb) .nil))⟩
  unfold enumD
  simp [hx]
def enum (a : SL) : SI where
  ev := fun ρ h => (a.ev ρ h).bind fun xs h1 => match frzL h1 xs with
    | some ([.list ds], h2) => .ok (enumD ds) h2
    | _ => .no
  t := fun C md => iEnum C.K (a.t C md)
  ok := fun C md ρ h σ B H m R e w q => by
    refine a.ok C md ρ h σ B H m _ e w (Po.chain w q fun xs h1 vs B1 H1 m1 ea g1 w1 r1 q1 => ?_)
    split at q1
    · rename_i ds h2 ef
      obtain ⟨B2, g2, w2, d2⟩ := frzL_ok w1 ef r1
      obtain ⟨u, rfl, du⟩ := da1 d2
      cases du with
      | lst p a1 => exact ⟨_, _, rfl, same_l w2.sub p, q1 _ B2 H1 m1 g2 w2 (goes_enum p a1)⟩
    · exact q1.elim
def revd (a : SE) : SI where
  ev := fun ρ h => (a.ev ρ h).bind fun x h1 => match frz h1 x with
    | some (d, h2) => match seqD d with
      | some ds => .ok ds.reverse h2
      | none => .no
    | none => .no
  t := fun C md => RT.iRevA C.K (a.t C md)
  ok := fun C md ρ h σ B H m R e w q => by
    refine a.ok C md ρ h σ B H m _ e w (Po.chain w q fun x h1 v B1 H1 m1 ea g1 w1 r1 q1 => ?_)
    split at q1
    · rename_i d h2 ef
      split at q1
      · rename_i ds es
        obtain ⟨B2, g2, w2, d2⟩ := frz_ok w1 ef r1
        match d, es, d2 with
        | .list xs, es, .lst p a1 =>
          cases es
          exact ⟨_, _, rfl, .inl ⟨same_l w2.sub p, q1 _ B2 H1 m1 g2 w2 (goes_rev walk_rev (fun H' s' => same_l s' p) a1)⟩⟩
        | .tuple xs, es, .tup p a1 =>
          cases es
          exact ⟨_, _, rfl, .inr ⟨same_t w2.sub p, q1 _ B2 H1 m1 g2 w2 (goes_rev walk_revT (fun H' s' => same_t s' p) a1)⟩⟩
        | .none, es, _ => cases es
        | .bool _, es, _ => cases es
        | .int _, es, _ => cases es
        | .str _, es, _ => cases es
        | .dict _, es, _ => cases es
      · exact q1.elim
    · exact q1.elim
end SI
def Ag (vs : List Nat) (σ σ' : L2.St) : Prop := σ'.length = σ.length ∧ ∀ j, j ∉ vs → σ'[j]? = σ[j]?
theorem Ag.refl (vs : List Nat) (σ : L2.St) : Ag vs σ σ := ⟨rfl, fun _ _ => rfl⟩
theorem Ag.trans {vs ws : List Nat} {σ σ1 σ2 : L2.St} (a : Ag vs σ σ1) (b : Ag ws σ1 σ2) : Ag (vs ++ ws) σ σ2 :=
  ⟨b.1.trans a.1, fun j hj => (b.2 j fun z => hj (List.mem_append_right _ z)).trans (a.2 j fun z => hj (List.mem_append_left _ z))⟩
theorem wipe_len (σ : L2.St) : ∀ vs, (wipe σ vs).length = σ.length
  | [] => rfl
  | v :: vs => by
    show ((wipe σ vs).set v none).length = _
    rw [List.length_set, wipe_len σ vs]
theorem wipe_in (σ : L2.St) {j : Nat} : ∀ {vs : List Nat}, j ∈ vs → (wipe σ vs)[j]? = if j < σ.length then some none else none
  | v :: vs, h => by
    show ((wipe σ vs).set v none)[j]? = _
    by_cases c : v = j
    · subst c
      by_cases l : v < σ.length
      · rw [if_pos l, List.getElem?_set_self (by rw [wipe_len]; exact l)]
      · rw [if_neg l, List.getElem?_eq_none (by rw [List.length_set, wipe_len]; omega)]
    · rw [List.getElem?_set_ne c]
      exact wipe_in σ ((List.mem_cons.mp h).resolve_left fun z => c z.symm)
theorem Ag.wipe {vs : List Nat} {σ σ' : L2.St} (a : Ag vs (L2.wipe σ vs) σ') : L2.wipe σ' vs = L2.wipe σ vs := by
  have la : σ'.length = σ.length := a.1.trans (wipe_len σ vs)
  refine List.ext_getElem? fun j => ?_
  by_cases c : j ∈ vs
  · rw [wipe_in σ' c, wipe_in σ c, la]
  · rw [G.wipe_at σ' c, a.2 j c]
structure ST where
  vs : List Nat
  put : Vd → Rh → Option Rh
  t : Ctx → TG
  ok : ∀ (C : Ctx) (x : Vd) (v : V) (σ : L2.St) (ρ ρ1 : Rh) (B H : Hp) (m : List Addr), VR C.K B m x v → EnvN C.K B m σ ρ → Same B H → put x ρ = some ρ1 → ∀ Q : L2.St → Hp → Prop, (∀ σ', EnvN C.K B m σ' ρ1 → Ag vs σ σ' → Q σ' H) → t C v σ H Q
structure STs where
  n : Nat
  vs : List Nat
  put : List PyData → Rh → Option Rh
  t : Ctx → TGs
  ok : ∀ (C : Ctx) (xs : List PyData) (vs' : List V) (σ : L2.St) (ρ ρ1 : Rh) (B H : Hp) (m : List Addr), DaAll C.K B vs' xs → EnvN C.K B m σ ρ → Same B H → put xs ρ = some ρ1 → ∀ Q : L2.St → Hp → Prop, (∀ σ', EnvN C.K B m σ' ρ1 → Ag vs σ σ' → Q σ' H) → t C vs' σ H Q
  len : ∀ xs ρ ρ1, put xs ρ = some ρ1 → xs.length = n
namespace ST
def name (i : Nat) : ST where
  vs := [i]
  put := fun x ρ => some (ρ.set i (some x))
  t := fun _ => gName i
  ok := fun C x v σ ρ ρ1 B H m r e s p Q q => by
    cases p
    exact q _ (e.set r i) ⟨List.length_set .., fun j hj => List.getElem?_set_ne fun z => hj (by simp [z])⟩
def tup (ts : STs) : ST where
  vs := ts.vs
  put := fun x ρ => match x with
    | .d (.tuple ds) => ts.put ds ρ
    | _ => none
  t := fun C => gTup C.K ts.n (ts.t C)
  ok := fun C x v σ ρ ρ1 B H m r e s p Q q => by
    split at p
    · rename_i ds
      cases r with
      | d r =>
        cases r with
        | tup h a => exact ⟨_, _, rfl, same_t s h, by rw [a.len]; exact ts.len _ _ _ p, ts.ok C ds _ σ ρ ρ1 B H m a e s p Q q⟩
    · cases p
end ST
namespace STs
def nil : STs where
  n := 0
  vs := []
  put := fun xs ρ => match xs with
    | [] => some ρ
    | _ => none
  t := fun _ => gNil
  ok := fun C xs vs' σ ρ ρ1 B H m r e s p Q q => by
    split at p
    · cases p
      cases r
      exact ⟨rfl, q σ e (.refl _ _)⟩
    · cases p
  len := fun xs ρ ρ1 p => by
    split at p
    · rfl
    · cases p
def cons (a : ST) (r : STs) : STs where
  n := r.n + 1
  vs := a.vs ++ r.vs
  put := fun xs ρ => match xs with
    | x :: xs => match a.put (.d x) ρ with
      | some ρ1 => r.put xs ρ1
      | none => none
    | [] => none
  t := fun C => gCons (a.t C) (r.t C)
  ok := fun C xs vs' σ ρ ρ1 B H m rr e s p Q q => by
    split at p
    · rename_i x xs
      split at p
      · rename_i ρ2 e2
        cases rr with
        | cons h t => exact ⟨_, _, rfl, a.ok C (.d x) _ σ ρ ρ2 B H m (.d h) e s e2 _ fun σ1 e1 g1 => r.ok C xs _ σ1 ρ2 ρ1 B H m t e1 s p Q fun σ2 e3 g2 => q σ2 e3 (g1.trans g2)⟩
      · cases p
    · cases p
  len := fun xs ρ ρ1 p => by
    split at p
    · rename_i x xs
      split at p
      · rw [List.length_cons, r.len _ _ _ p]
      · cases p
    · cases p
end STs
def lcR (put : Vd → Rh → Option Rh) (f : Rh → Hd → Oc Bool) (g : Rh → Hd → Oc Vd) (ρ : Rh) : List PyData → List Vd → Hd → Oc (List Vd)
  | [], out, h => .ok out h
  | x :: xs, out, h => match put (.d x) ρ with
    | none => .no
    | some ρ1 => match f ρ1 h with
      | .ok true h1 => match g ρ1 h1 with
        | .ok y h2 => lcR put f g ρ xs (out ++ [y]) h2
        | _ => .no
      | .ok false h1 => lcR put f g ρ xs out h1
      | _ => .no
theorem wok_upd {K : PySem.W.Frag} {B H : Hp} {m : List Addr} {h : Hd} (w : WOk K B H m h) {D : Addr} (nm : D ∉ m) (nB : B D = none) (o : HO) : WOk K B (upd H D o) m h := by
  refine ⟨fun a u e => by rw [upd_ne (ne_of_none e nB)]; exact w.sub a u e, w.len, w.nd, fun n a e p q => ?_⟩
  have ne : a ≠ D := fun z => nm (z ▸ List.mem_of_getElem? p)
  have z := w.ent n a e p q
  match e, z with
  | .lst ys, ⟨z1, us, z2, z3⟩ => exact ⟨z1, us, by rw [upd_ne ne]; exact z2, z3⟩
  | .frz y, ⟨z1, z2⟩ => exact ⟨z1, by rw [upd_ne ne]; exact z2⟩
  | .nod _ ys, ⟨z1, us, z2, z3⟩ => exact ⟨z1, us, by rw [upd_ne ne]; exact z2, z3⟩
  | .jnk, ⟨z1, z2⟩ => exact ⟨z1, by rw [upd_ne ne]; exact z2⟩
  | .err y, ⟨z1, z2⟩ => exact ⟨z1, by rw [upd_ne ne]; exact z2⟩
  | .dct _, ⟨z1, z2⟩ => exact ⟨z1, by rw [upd_ne ne]; exact z2⟩
theorem gm_upd {B H B1 H1 : Hp} {m m1 : List Addr} (g : Gm m B H B1 H1 m1) {D : Addr} (hD : H D = none) (o : HO) : Gm m B H B1 (upd H1 D o) m1 :=
  ⟨g.bb, fun a u n e => by rw [upd_ne (ne_of_none e hD)]; exact g.ex a u n e, g.new, fun a e => by
    by_cases c : a = D
    · subst c; rw [upd_same]; simp
    · rw [upd_ne c]; exact g.kp a e, g.ext⟩
theorem gm_out {B H B1 H1 : Hp} {m m1 : List Addr} (g : Gm m B H B1 H1 m1) {D : Addr} (nm : D ∉ m) (nH : H D ≠ none) : D ∉ m1 := by
  obtain ⟨l, rfl, f⟩ := g.ext
  intro z
  rcases List.mem_append.mp z with z | z
  · exact nm z
  · exact nH (f D z)
theorem gm_B {B H B1 H1 : Hp} {m m1 : List Addr} (g : Gm m B H B1 H1 m1) {D : Addr} (nm : D ∉ m) (nH : H D ≠ none) (nB : B D = none) : B1 D = none := by
  cases c : B1 D with
  | none => rfl
  | some o =>
    rcases g.new D o c nB with z | z
    · exact absurd z nH
    · exact absurd z nm
theorem gm_let {K : PySem.W.Frag} {B H B1 H1 : Hp} {m m1 : List Addr} {h : Hd} {D : Addr} {xs : List V} {ds : List PyData} (g : Gm m B H B1 H1 m1) (w : WOk K B1 H1 m1 h) (h0 : H D = none) (nB : B1 D = none) (nm : D ∉ m1) (hD : H1 D = some (.lst xs)) (da : DaAll K B1 xs ds) :
    Gm m B H (upd B1 D (.lst xs)) H1 m1 ∧ WOk K (upd B1 D (.lst xs)) H1 m1 h ∧ Da K (upd B1 D (.lst xs)) (.ref D) (.list ds) := by
  have bb : Same B1 (upd B1 D (.lst xs)) := same_new nB
  refine ⟨⟨g.bb.trans bb, g.ex, fun a o e n => ?_, g.kp, g.ext⟩, ⟨fun a o e => ?_, w.len, w.nd, fun n a e p q => ?_⟩, .lst (.of upd_same) (da.mono bb)⟩
  · by_cases c : a = D
    · subst c; exact .inl h0
    · rw [upd_ne c] at e; exact g.new a o e n
  · by_cases c : a = D
    · subst c; rw [upd_same] at e; rw [hD]; exact e
    · rw [upd_ne c] at e; exact w.sub a o e
  · have ne : a ≠ D := fun z => nm (z ▸ List.mem_of_getElem? p)
    have z := w.ent n a e p q
    match e, z with
    | .lst ys, ⟨z1, us, z2, z3⟩ => exact ⟨by rw [upd_ne ne]; exact z1, us, z2, by simpa using z3.mono bb []⟩
    | .frz y, ⟨z1, z2⟩ => exact ⟨z1.mono bb, z2⟩
    | .nod _ ys, ⟨z1, us, z2, z3⟩ => exact ⟨by rw [upd_ne ne]; exact z1, us, z2, by simpa using z3.mono bb []⟩
    | .jnk, ⟨z1, z2⟩ => exact ⟨by rw [upd_ne ne]; exact z1, z2⟩
    | .err y, ⟨z1, z2⟩ => exact ⟨z1.mono bb, z2⟩
    | .dct _, ⟨z1, z2⟩ => exact ⟨by rw [upd_ne ne]; exact z1, z2⟩
theorem gm_own {K : PySem.W.Frag} {B H B1 H1 : Hp} {m m1 : List Addr} {h : Hd} {D : Addr} {vs : List V} {xs : List Vd} (g : Gm m B H B1 H1 m1) (w : WOk K B1 H1 m1 h) (h0 : H D = none) (nB : B1 D = none) (nm : D ∉ m1) (hD : H1 D = some (.lst vs)) (r : VRs K B1 m1 xs vs) :
    Gm m B H B1 H1 (m1 ++ [D]) ∧ WOk K B1 H1 (m1 ++ [D]) (h ++ [.lst xs]) := by
  refine ⟨⟨g.bb, g.ex, g.new, g.kp, ?_⟩, ⟨w.sub, by simp [w.len], ?_, fun n a e p1 q1 => ?_⟩⟩
  · obtain ⟨l, rfl, f⟩ := g.ext
    refine ⟨l ++ [D], by rw [List.append_assoc], fun a z => ?_⟩
    rcases List.mem_append.mp z with z | z
    · exact f a z
    · have : a = D := by simpa using z
      subst this
      exact h0
  · rw [List.nodup_append]
    refine ⟨w.nd, by simp, fun a ha b hb e => ?_⟩
    have : b = D := by simpa using hb
    subst this
    exact nm (e ▸ ha)
  · by_cases c : n < m1.length
    · rw [List.getElem?_append_left c] at p1
      rw [List.getElem?_append_left (by rw [← w.len]; exact c)] at q1
      have z := w.ent n a e p1 q1
      match e, z with
      | .lst ys, ⟨z1, us, z2, z3⟩ => exact ⟨z1, us, z2, z3.mono (Same.refl _) [D]⟩
      | .frz y, z => exact z
      | .nod _ ys, ⟨z1, us, z2, z3⟩ => exact ⟨z1, us, z2, z3.mono (Same.refl _) [D]⟩
      | .jnk, z => exact z
      | .err y, z => exact z
      | .dct _, ⟨z1, z2⟩ => exact ⟨z1, z2⟩
    · have hl := w.len
      have l1 : n < (m1 ++ [D]).length := (List.getElem?_eq_some_iff.mp p1).1
      rw [List.length_append] at l1
      have en : n = m1.length := by
        have : n < m1.length + 1 := l1
        omega
      subst en
      rw [List.getElem?_append_right (Nat.le_refl _), Nat.sub_self] at p1
      rw [List.getElem?_append_right (by omega), hl, Nat.sub_self] at q1
      cases p1
      cases q1
      exact ⟨nB, vs, hD, r.mono (Same.refl _) [D]⟩
def SB.yes : SB where
  ev := fun _ h => .ok true h
  t := fun _ _ => tYes
  ok := fun C md ρ h σ B H m Q e w q => q true B H m (.refl w) w rfl
theorem lc_go (it : SI) (tg : ST) (c : SB) (g : SE) {C : Ctx} {md : Md} {ρ : Rh} {h : Hd} {σ : L2.St} {B H : Hp} {m : List Addr} {Q : VK} {es : List PyData} {h1 : Hd} {out : List Vd} {h2 : Hd}
    (e : EnvN C.K B m σ ρ) (w : WOk C.K B H m h) (ei : it.ev ρ h = .ok es h1) (hz : es.length ≤ 1000000) (el : lcR tg.put c.ev g.ev (wipeN ρ tg.vs) es [] h1 = .ok out h2)
    (q : ∀ D B2 H2 m2 xs, Gm m B H B2 H2 m2 → WOk C.K B2 H2 m2 h2 → H D = none → B2 D = none → D ∉ m2 → H2 D = some (.lst xs) → VRs C.K B2 m2 out xs → Q (.ref D) H2) :
    tLc (it.t C md) (tg.t C) (c.t C none) (g.t C none) tg.vs σ H Q := by
  refine it.ok C md ρ h σ B H m _ e w ?_
  rw [ei]
  intro J B1 H1 m1 g1 w1 gj D hD
  have hD0 : H D = none := by
    cases x : H D with
    | none => rfl
    | some u => exact absurd hD (g1.kp D (by rw [x]; simp))
  refine lc_it gj (fun i H' => ∃ B' m' h' ys xs, Gm m1 B1 H1 B' H' m' ∧ WOk C.K B' H' m' h' ∧ B' D = none ∧ D ∉ m' ∧ H' D = some (.lst xs) ∧ VRs C.K B' m' ys xs ∧ ys.length ≤ i ∧ lcR tg.put c.ev g.ev (wipeN ρ tg.vs) (es.drop i) ys h' = .ok out h2) ?_ (fun i H' _ ⟨B', m', h', ys, xs, g2, w2, _⟩ => g2.bb.trans w2.sub) ?_ ?_
  · have nm : D ∉ m1 := fun z => w1.tracked z hD
    have k := Gr.side w1.sub hD (.lst [])
    exact ⟨B1, m1, h1, [], [], .of w1 k, w1.gr k, w1.sub.free hD, nm, upd_same, .nil, Nat.le_refl _, el⟩
  · rintro i x H' H2' hi ⟨B', m', h', ys, xs, g2, w2, nB, nm, hH, rs, hl, el'⟩ y
    obtain ⟨B2, x', g3, hx', dx⟩ := y B' g2.bb w2.sub
    have ed : es.drop i = x' :: es.drop (i + 1) := by
      have li := (List.getElem?_eq_some_iff.mp hx')
      obtain ⟨l1, l2⟩ := li
      rw [List.drop_eq_getElem_cons l1, l2]
    rw [ed] at el'
    unfold lcR at el'
    have G3 : Gm m' B' H' B2 H2' m' := .of w2 g3
    have w3 := w2.gr g3
    have hHn : H' D ≠ none := by rw [hH]; simp
    have nB2 := gm_B G3 nm hHn nB
    have hH2 : H2' D = some (.lst xs) := g3.ex _ _ hH
    have hn2 : H2' D ≠ none := by rw [hH2]; simp
    split at el'
    · cases el'
    · rename_i ρ1 ep
      have e1 : EnvN C.K B2 m' (L2.wipe σ tg.vs) (wipeN ρ tg.vs) := (((e.gm g1).gm g2).gm G3).wiped tg.vs
      refine tg.ok C (.d x') x _ _ ρ1 B2 H2' m' (.d dx) e1 w3.sub ep _ fun σ2 e2 ag => ⟨ag.wipe, ?_⟩
      split at el'
      · rename_i ha ef
        refine c.ok C none ρ1 h' σ2 B2 H2' m' _ e2 w3 ?_
        rw [ef]
        intro b B3 H3 m3 g4 w4 rb
        obtain rfl : true = b := rb
        refine iteT ?_
        split at el'
        · rename_i z hb eg
          refine g.ok C none ρ1 ha σ2 B3 H3 m3 _ (e2.gm g4) w4 ?_
          rw [eg]
          intro v B4 H4 m4 g5 w5 rv
          have nm3 := gm_out g4 nm hn2
          have nB3 := gm_B g4 nm hn2 nB2
          have hH3 : H3 D = some (.lst xs) := g4.ex _ _ nm hH2
          have hn3 : H3 D ≠ none := by rw [hH3]; simp
          have nm4 := gm_out g5 nm3 hn3
          have nB4 := gm_B g5 nm3 hn3 nB3
          have hH4 : H4 D = some (.lst xs) := g5.ex _ _ nm3 hH3
          have lx := rs.len
          refine ⟨xs, hH4, by rw [sizeLine_eq]; omega, B4, m4, hb, ys ++ [z], xs ++ [v], gm_upd ((g2.trans w1 (G3.trans w2 (g4.trans w3 g5)))) hD _, wok_upd w5 nm4 nB4 _, nB4, nm4, upd_same, (((rs.gm G3).gm g4).gm g5).app (.cons rv .nil), by rw [List.length_append]; exact Nat.succ_le_succ hl, el'⟩
        · cases el'
      · rename_i ha ef
        refine c.ok C none ρ1 h' σ2 B2 H2' m' _ e2 w3 ?_
        rw [ef]
        intro b B3 H3 m3 g4 w4 rb
        obtain rfl : false = b := rb
        refine iteF ?_
        exact ⟨B3, m3, ha, ys, xs, g2.trans w1 (G3.trans w2 g4), w4, gm_B g4 nm hn2 nB2, gm_out g4 nm hn2, g4.ex _ _ nm hH2, (rs.gm G3).gm g4, Nat.le_succ_of_le hl, el'⟩
      · cases el'
  · rintro H' ⟨B', m', h', ys, xs, g2, w2, nB, nm, hH, rs, _, el'⟩
    rw [List.drop_length] at el'
    unfold lcR at el'
    cases el'
    exact q D B' H' m' xs (g1.trans w g2) w2 hD0 nB nm hH rs
namespace SE
def lc (it : SI) (tg : ST) (c : SB) (g : SE) : SE where
  ev := fun ρ h => (it.ev ρ h).bind fun es h1 => if es.length ≤ 1000000 then match lcR tg.put c.ev g.ev (wipeN ρ tg.vs) es [] h1 with
      | .ok out h2 => match frzL h2 out with
        | some (ds, h3) => .ok (.d (.list ds)) h3
        | none => .no
      | _ => .no
    else .no
  t := fun C md => tLc (it.t C md) (tg.t C) (c.t C none) (g.t C none) tg.vs
  ok := fun C md ρ h σ B H m Q e w q => by
    cases ei : it.ev ρ h with
    | no => rw [ei] at q; exact q.elim
    | ex c' x h1 =>
      rw [ei] at q
      refine it.ok C md ρ h σ B H m _ e w ?_
      rw [ei]
      exact q
    | ok es h1 =>
      rw [ei] at q
      dsimp only [Oc.bind] at q
      split at q
      · rename_i hz
        split at q
        · rename_i out h2 el
          split at q
          · rename_i ds h3 ef
            refine lc_go it tg c g e w ei hz el fun D B2 H2 m2 xs g2 w2 h0 nB nm hD rs => ?_
            obtain ⟨B3, g3, w3, d3⟩ := frzL_ok w2 ef rs
            have hn : H2 D ≠ none := by rw [hD]; simp
            obtain ⟨k, w4, d4⟩ := gm_let (g2.trans w g3) w3 h0 (gm_B g3 nm hn nB) nm hD d3
            exact q _ _ _ _ k w4 (.d d4)
          · exact q.elim
        · exact q.elim
      · exact q.elim
def lcM (it : SI) (tg : ST) (c : SB) (g : SE) : SE where
  ev := fun ρ h => (it.ev ρ h).bind fun es h1 => if es.length ≤ 1000000 then match lcR tg.put c.ev g.ev (wipeN ρ tg.vs) es [] h1 with
      | .ok out h2 => .ok (.r h2.length) (h2 ++ [.lst out])
      | _ => .no
    else .no
  t := fun C md => tLc (it.t C md) (tg.t C) (c.t C none) (g.t C none) tg.vs
  ok := fun C md ρ h σ B H m Q e w q => by
    cases ei : it.ev ρ h with
    | no => rw [ei] at q; exact q.elim
    | ex c' x h1 =>
      rw [ei] at q
      refine it.ok C md ρ h σ B H m _ e w ?_
      rw [ei]
      exact q
    | ok es h1 =>
      rw [ei] at q
      dsimp only [Oc.bind] at q
      split at q
      · rename_i hz
        split at q
        · rename_i out h2 el
          refine lc_go it tg c g e w ei hz el fun D B2 H2 m2 xs g2 w2 h0 nB nm hD rs => ?_
          obtain ⟨k, w4⟩ := gm_own g2 w2 h0 nB nm hD rs
          exact q _ _ _ _ k w4 (.r (by rw [← w2.len]; exact one_last _ _))
        · exact q.elim
      · exact q.elim
end SE
end N
end
section
set_option maxRecDepth 100000
set_option maxHeartbeats 2000000
namespace N
open PySem PySem.Spec PyProof.Rows L2 G
inductive OcS where
  | nx (ρ : Rh) (h : Hd)
  | rt (x : Vd) (h : Hd)
  | bk (ρ : Rh) (h : Hd)
  | ct (ρ : Rh) (h : Hd)
  | ex (c : Str) (x : PyData) (ρ : Rh) (h : Hd)
  | no
def OcS.seq (o : OcS) (k : Rh → Hd → OcS) : OcS := match o with
  | .nx ρ h => k ρ h
  | .rt x h => .rt x h
  | .bk ρ h => .bk ρ h
  | .ct ρ h => .ct ρ h
  | .ex c x ρ h => .ex c x ρ h
  | .no => .no
@[simp] theorem OcS.seq_nx (ρ : Rh) (h : Hd) (k : Rh → Hd → OcS) : (OcS.nx ρ h).seq k = k ρ h := rfl
@[simp] theorem OcS.seq_rt (x : Vd) (h : Hd) (k : Rh → Hd → OcS) : (OcS.rt x h).seq k = .rt x h := rfl
@[simp] theorem OcS.seq_bk (ρ : Rh) (h : Hd) (k : Rh → Hd → OcS) : (OcS.bk ρ h).seq k = .bk ρ h := rfl
@[simp] theorem OcS.seq_ct (ρ : Rh) (h : Hd) (k : Rh → Hd → OcS) : (OcS.ct ρ h).seq k = .ct ρ h := rfl
@[simp] theorem OcS.seq_ex (c : Str) (x : PyData) (ρ : Rh) (h : Hd) (k : Rh → Hd → OcS) : (OcS.ex c x ρ h).seq k = .ex c x ρ h := rfl
@[simp] theorem OcS.seq_no (k : Rh → Hd → OcS) : OcS.no.seq k = .no := rfl
def Oc.thn {α : Type} (o : Oc α) (ρ : Rh) (k : α → Hd → OcS) : OcS := match o with
  | .ok a h => k a h
  | .ex c x h => .ex c x ρ h
  | .no => .no
@[simp] theorem Oc.thn_ok {α : Type} (a : α) (h : Hd) (ρ : Rh) (k : α → Hd → OcS) : (Oc.ok a h).thn ρ k = k a h := rfl
@[simp] theorem Oc.thn_ex {α : Type} (c : Str) (x : PyData) (h : Hd) (ρ : Rh) (k : α → Hd → OcS) : (Oc.ex c x h : Oc α).thn ρ k = .ex c x ρ h := rfl
@[simp] theorem Oc.thn_no {α : Type} (ρ : Rh) (k : α → Hd → OcS) : (Oc.no : Oc α).thn ρ k = .no := rfl
def Nxt (C : Ctx) (m : List Addr) (B H : Hp) (ρ : Rh) (h : Hd) (F : L2.St → Hp → Prop) : Prop := ∀ σ' B' H' m', Gm m B H B' H' m' → WOk C.K B' H' m' h → EnvN C.K B' m' σ' ρ → F σ' H'
def PoS (C : Ctx) (md : Md) (m : List Addr) (B H : Hp) (oc : OcS) (D : Ends) : Prop :=
  match oc with
  | .nx ρ h => Nxt C m B H ρ h D.nx
  | .rt x h => ∀ v B' H' m', Gm m B H B' H' m' → WOk C.K B' H' m' h → VR C.K B' m' x v → D.rt v H'
  | .bk ρ h => Nxt C m B H ρ h D.bk
  | .ct ρ h => Nxt C m B H ρ h D.ct
  | .ex c x ρ h => ∃ W, md = some W ∧ ∀ σ' dd v B' H' m', Gm m B H B' H' m' → WOk C.K B' H' m' h → EnvN C.K B' m' σ' ρ → B' dd = none → H dd = none → dd ∉ m' → H' dd = some (.xd [("value", v)]) → Da C.K B' v x → W (.ref (C.CL c)) (some dd) σ' H'
  | .no => False
section
variable {α β : Type} {C : Ctx} {md : Md} {σ : L2.St} {B H B1 H1 : Hp} {m m1 : List Addr} {h : Hd} {D : Ends} {ρ : Rh}
theorem Nxt.shift {F : L2.St → Hp → Prop} {h' : Hd} (g : Gm m B H B1 H1 m1) (w : WOk C.K B H m h) (q : Nxt C m B H ρ h' F) : Nxt C m1 B1 H1 ρ h' F := fun σ' B' H' m' g2 w2 e => q σ' B' H' m' (g.trans w g2) w2 e
theorem PoS.shift {oc : OcS} (g : Gm m B H B1 H1 m1) (w : WOk C.K B H m h) (q : PoS C md m B H oc D) : PoS C md m1 B1 H1 oc D := by
  cases oc with
  | nx ρ h' => exact Nxt.shift g w q
  | bk ρ h' => exact Nxt.shift g w q
  | ct ρ h' => exact Nxt.shift g w q
  | rt x h' => exact fun v B' H' m' g2 w2 r => q v B' H' m' (g.trans w g2) w2 r
  | ex c x ρ h' =>
    obtain ⟨W, e, k⟩ := q
    refine ⟨W, e, fun σ' dd v B' H' m' g2 w2 e2 b0 h0 n hx d => k σ' dd v B' H' m' (g.trans w g2) w2 e2 b0 ?_ n hx d⟩
    cases c : H dd with
    | none => rfl
    | some o => exact absurd h0 (g.kp dd (by rw [c]; simp))
  | no => exact q
theorem PoS.chain {ra : Hp → List Addr → α → β → Prop} {a : Oc α} {k : α → Hd → OcS} {Q' : β → Hp → Prop} (w : WOk C.K B H m h) (e : EnvN C.K B m σ ρ) (q : PoS C md m B H (a.thn ρ k) D)
    (f : ∀ x h1 v B1 H1 m1, a = .ok x h1 → Gm m B H B1 H1 m1 → WOk C.K B1 H1 m1 h1 → ra B1 m1 x v → PoS C md m1 B1 H1 (k x h1) D → Q' v H1) : Po C md σ ra m B H a Q' := by
  cases a with
  | ok x h1 => exact fun v B1 H1 m1 g w1 r => f x h1 v B1 H1 m1 rfl g w1 r (PoS.shift g w q)
  | ex c x h1 =>
    obtain ⟨W, e1, k⟩ := q
    exact ⟨W, e1, fun dd v B' H' m' g2 w2 b0 h0 n hx d => k σ dd v B' H' m' g2 w2 (e.gm g2) b0 h0 n hx d⟩
  | no => exact q
theorem PoS.nxt {h' : Hd} (q : PoS C md m B H (.nx ρ h') D) (w : WOk C.K B H m h') (e : EnvN C.K B m σ ρ) : D.nx σ H := q σ B H m (.refl w) w e
end
structure SS where
  run : Rh → Hd → OcS
  t : Ctx → Md → TS
  ok : ∀ (C : Ctx) (md : Md) (ρ : Rh) (h : Hd) (σ : L2.St) (B H : Hp) (m : List Addr) (D : Ends), EnvN C.K B m σ ρ → WOk C.K B H m h → PoS C md m B H (run ρ h) D → t C md D σ H
namespace SS
def nil : SS where
  run := fun ρ h => .nx ρ h
  t := fun _ _ => tNext
  ok := fun C md ρ h σ B H m D e w q => q.nxt w e
def never : SS where
  run := fun _ _ => .no
  t := fun _ _ => tNever
  ok := fun C md ρ h σ B H m D e w q => q
def brk : SS where
  run := fun ρ h => .bk ρ h
  t := fun _ _ => tBreak
  ok := fun C md ρ h σ B H m D e w q => q σ B H m (.refl w) w e
def cont : SS where
  run := fun ρ h => .ct ρ h
  t := fun _ _ => tCont
  ok := fun C md ρ h σ B H m D e w q => q σ B H m (.refl w) w e
def seq (a b : SS) : SS where
  run := fun ρ h => (a.run ρ h).seq b.run
  t := fun C md => tSeq (a.t C md) (b.t C md)
  ok := fun C md ρ h σ B H m D e w q => by
    refine a.ok C md ρ h σ B H m _ e w ?_
    cases c : a.run ρ h with
    | nx ρ1 h1 =>
      rw [c] at q
      exact fun σ1 B1 H1 m1 g1 w1 e1 => b.ok C md ρ1 h1 σ1 B1 H1 m1 D e1 w1 (PoS.shift g1 w q)
    | rt x h1 => rw [c] at q; exact q
    | bk ρ1 h1 => rw [c] at q; exact q
    | ct ρ1 h1 => rw [c] at q; exact q
    | ex c' x ρ1 h1 => rw [c] at q; exact q
    | no => rw [c] at q; exact q
def ret (a : SE) : SS where
  run := fun ρ h => (a.ev ρ h).thn ρ fun x h1 => .rt x h1
  t := fun C md => tRet (a.t C md)
  ok := fun C md ρ h σ B H m D e w q => a.ok C md ρ h σ B H m _ e w (PoS.chain w e q fun x h1 v B1 H1 m1 ea g1 w1 r1 q1 => q1 v B1 H1 m1 (.refl w1) w1 r1)
def retN : SS where
  run := fun ρ h => .rt (.d .none) h
  t := fun _ _ => tRetN
  ok := fun C md ρ h σ B H m D e w q => q _ B H m (.refl w) w (.d .non)
def drop (a : SE) : SS where
  run := fun ρ h => (a.ev ρ h).thn ρ fun _ h1 => .nx ρ h1
  t := fun C md => tDrop (a.t C md)
  ok := fun C md ρ h σ B H m D e w q => a.ok C md ρ h σ B H m _ e w (PoS.chain w e q fun x h1 v B1 H1 m1 ea g1 w1 r1 q1 => q1.nxt w1 (e.gm g1))
def ite (c : SB) (a b : SS) : SS where
  run := fun ρ h => (c.ev ρ h).thn ρ fun x h1 => match x with
    | true => a.run ρ h1
    | false => b.run ρ h1
  t := fun C md => tIfS (c.t C md) (a.t C md) (b.t C md)
  ok := fun C md ρ h σ B H m D e w q => by
    refine c.ok C md ρ h σ B H m _ e w (PoS.chain w e q fun x h1 u B1 H1 m1 ea g1 w1 r1 q1 => ?_)
    obtain rfl : x = u := r1
    cases x with
    | true => exact iteT (a.ok C md ρ h1 σ B1 H1 m1 D (e.gm g1) w1 q1)
    | false => exact iteF (b.ok C md ρ h1 σ B1 H1 m1 D (e.gm g1) w1 q1)
def asg (a : SE) (g : ST) : SS where
  run := fun ρ h => (a.ev ρ h).thn ρ fun x h1 => match g.put x ρ with
    | some ρ1 => .nx ρ1 h1
    | none => .no
  t := fun C md => tAsg (a.t C md) (g.t C)
  ok := fun C md ρ h σ B H m D e w q => by
    refine a.ok C md ρ h σ B H m _ e w (PoS.chain w e q fun x h1 u B1 H1 m1 ea g1 w1 r1 q1 => ?_)
    split at q1
    · rename_i ρ1 ep
      exact g.ok C x u σ ρ ρ1 B1 H1 m1 r1 (e.gm g1) w1.sub ep _ fun σ1 e1 _ => q1.nxt w1 e1
    · exact q1.elim
def set (i : Nat) (a : SE) : SS where
  run := fun ρ h => (a.ev ρ h).thn ρ fun x h1 => .nx (ρ.set i (some x)) h1
  t := fun C md => tAsg (a.t C md) (gName i)
  ok := fun C md ρ h σ B H m D e w q => a.ok C md ρ h σ B H m _ e w (PoS.chain w e q fun x h1 u B1 H1 m1 ea g1 w1 r1 q1 => q1.nxt w1 ((e.gm g1).set r1 i))
def par (i j : Nat) (a : SL) : SS where
  run := fun ρ h => (a.ev ρ h).thn ρ fun xs h1 => match xs with
    | [x, y] => .nx ((ρ.set i (some x)).set j (some y)) h1
    | _ => .no
  t := fun C md => tPar i j (a.t C md)
  ok := fun C md ρ h σ B H m D e w q => by
    refine a.ok C md ρ h σ B H m _ e w (PoS.chain w e q fun xs h1 u B1 H1 m1 ea g1 w1 r1 q1 => ?_)
    split at q1
    · cases r1 with
      | cons r1 t =>
        cases t with
        | cons r2 t =>
          cases t
          exact ⟨_, _, rfl, q1.nxt w1 (((e.gm g1).set r1 i).set r2 j)⟩
    · exact q1.elim
def par3 (i j l : Nat) (a : SL) : SS where
  run := fun ρ h => (a.ev ρ h).thn ρ fun xs h1 => match xs with
    | [x, y, z] => .nx (((ρ.set i (some x)).set j (some y)).set l (some z)) h1
    | _ => .no
  t := fun C md => tPar3 i j l (a.t C md)
  ok := fun C md ρ h σ B H m D e w q => by
    refine a.ok C md ρ h σ B H m _ e w (PoS.chain w e q fun xs h1 u B1 H1 m1 ea g1 w1 r1 q1 => ?_)
    split at q1
    · cases r1 with
      | cons r1 t =>
        cases t with
        | cons r2 t =>
          cases t with
          | cons r3 t =>
            cases t
            exact ⟨_, _, _, rfl, q1.nxt w1 ((((e.gm g1).set r1 i).set r2 j).set r3 l)⟩
    · exact q1.elim
def forR (put : Vd → Rh → Option Rh) (body : Rh → Hd → OcS) : List PyData → Rh → Hd → OcS
  | [], ρ, h => .nx ρ h
  | x :: xs, ρ, h => match put (.d x) ρ with
    | none => .no
    | some ρ1 => match body ρ1 h with
      | .nx ρ2 h2 => forR put body xs ρ2 h2
      | .ct ρ2 h2 => forR put body xs ρ2 h2
      | .bk ρ2 h2 => .nx ρ2 h2
      | .rt v h2 => .rt v h2
      | .ex c v ρ2 h2 => .ex c v ρ2 h2
      | .no => .no
def forS (it : SI) (tg : ST) (body : SS) : SS where
  run := fun ρ h => (it.ev ρ h).thn ρ fun es h1 => forR tg.put body.run es ρ h1
  t := fun C md => tFor (it.t C md) (tg.t C) (body.t C md)
  ok := fun C md ρ h σ B H m D e w q => by
    refine it.ok C md ρ h σ B H m _ e w (PoS.chain w e q fun es h1 J B1 H1 m1 ea g1 w1 gj q1 => ?_)
    refine for_it gj (fun i σ' H' => ∃ B' m' ρ' h', Gm m1 B1 H1 B' H' m' ∧ WOk C.K B' H' m' h' ∧ EnvN C.K B' m' σ' ρ' ∧ PoS C md m' B' H' (forR tg.put body.run (es.drop i) ρ' h') D) ?_ (fun i σ' H' _ ⟨B', m', ρ', h', g2, w2, _⟩ => g2.bb.trans w2.sub) ?_ ?_
    · exact ⟨B1, m1, ρ, h1, .refl w1, w1, e.gm g1, q1⟩
    · rintro i x σ' H' H2' hi ⟨B', m', ρ', h', g2, w2, e2, q2⟩ y
      obtain ⟨B2, x', g3, hx', dx⟩ := y B' g2.bb w2.sub
      have ed : es.drop i = x' :: es.drop (i + 1) := by
        obtain ⟨l1, l2⟩ := List.getElem?_eq_some_iff.mp hx'
        rw [List.drop_eq_getElem_cons l1, l2]
      rw [ed] at q2
      unfold forR at q2
      have G3 : Gm m' B' H' B2 H2' m' := .of w2 g3
      have w3 := w2.gr g3
      split at q2
      · exact q2.elim
      · rename_i ρ1 ep
        refine tg.ok C (.d x') x σ' ρ' ρ1 B2 H2' m' (.d dx) (e2.gm G3) w3.sub ep _ fun σ2 e3 _ => ?_
        refine body.ok C md ρ1 h' σ2 B2 H2' m' _ e3 w3 ?_
        have q3 := PoS.shift G3 w2 q2
        split at q3
        · rename_i ρ2 h2 eb
          rw [eb]
          exact fun σ4 B4 H4 m4 g4 w4 e4 => ⟨B4, m4, ρ2, h2, g2.trans w1 (G3.trans w2 g4), w4, e4, PoS.shift g4 w3 q3⟩
        · rename_i ρ2 h2 eb
          rw [eb]
          exact fun σ4 B4 H4 m4 g4 w4 e4 => ⟨B4, m4, ρ2, h2, g2.trans w1 (G3.trans w2 g4), w4, e4, PoS.shift g4 w3 q3⟩
        · rename_i ρ2 h2 eb
          rw [eb]
          exact q3
        · rename_i v h2 eb
          rw [eb]
          exact q3
        · rename_i c v ρ2 h2 eb
          rw [eb]
          exact q3
        · exact q3.elim
    · rintro σ' H' ⟨B', m', ρ', h', g2, w2, e2, q2⟩
      rw [List.drop_length] at q2
      exact q2.nxt w2 e2
def whR (c : Rh → Hd → Oc Bool) (body : Rh → Hd → OcS) : Nat → Rh → Hd → OcS
  | 0, _, _ => .no
  | n + 1, ρ, h => (c ρ h).thn ρ fun b h1 => match b with
    | false => .nx ρ h1
    | true => match body ρ h1 with
      | .nx ρ2 h2 => whR c body n ρ2 h2
      | .ct ρ2 h2 => whR c body n ρ2 h2
      | .bk ρ2 h2 => .nx ρ2 h2
      | .rt v h2 => .rt v h2
      | .ex c' v ρ2 h2 => .ex c' v ρ2 h2
      | .no => .no
def fuel : Nat := 1000000
def whS (c : SB) (body : SS) : SS where
  run := fun ρ h => whR c.ev body.run fuel ρ h
  t := fun C md => tWhile (c.t C md) (body.t C md)
  ok := fun C md ρ h σ B H m D e w q => by
    refine ⟨fun n σ' H' => ∃ B' m' ρ' h', Gm m B H B' H' m' ∧ WOk C.K B' H' m' h' ∧ EnvN C.K B' m' σ' ρ' ∧ PoS C md m' B' H' (whR c.ev body.run n ρ' h') D, ⟨fuel, B, m, ρ, h, .refl w, w, e, q⟩, ?_⟩
    rintro n σ' H' ⟨B', m', ρ', h', g2, w2, e2, q2⟩
    cases n with
    | zero => exact q2.elim
    | succ n =>
      unfold whR at q2
      refine c.ok C md ρ' h' σ' B' H' m' _ e2 w2 (PoS.chain w2 e2 q2 fun b h1 u B1 H1 m1 ea g1 w1 r1 q3 => ?_)
      obtain rfl : b = u := r1
      cases b with
      | false => exact iteF (q3.nxt w1 (e2.gm g1))
      | true =>
        refine iteT ⟨fun σ' H' => ∃ B' m' ρ' h', Gm m B H B' H' m' ∧ WOk C.K B' H' m' h' ∧ EnvN C.K B' m' σ' ρ' ∧ PoS C md m' B' H' (whR c.ev body.run n ρ' h') D, fun σ' H' z => ⟨n, Nat.lt_succ_self n, z⟩, ?_⟩
        refine body.ok C md ρ' h1 σ' B1 H1 m1 _ (e2.gm g1) w1 ?_
        dsimp only at q3
        split at q3
        · rename_i ρ2 h2 eb
          rw [eb]
          exact fun σ4 B4 H4 m4 g4 w4 e4 => ⟨B4, m4, ρ2, h2, g2.trans w (g1.trans w2 g4), w4, e4, PoS.shift g4 w1 q3⟩
        · rename_i ρ2 h2 eb
          rw [eb]
          exact fun σ4 B4 H4 m4 g4 w4 e4 => ⟨B4, m4, ρ2, h2, g2.trans w (g1.trans w2 g4), w4, e4, PoS.shift g4 w1 q3⟩
        · rename_i ρ2 h2 eb
          rw [eb]
          exact q3
        · rename_i v h2 eb
          rw [eb]
          exact q3
        · rename_i c v ρ2 h2 eb
          rw [eb]
          exact q3
        · exact q3.elim
end SS
end N
end
section
set_option maxRecDepth 100000
set_option maxHeartbeats 2000000
namespace N
open PySem PySem.Spec PyProof.Rows L2 G
section
variable {K : PySem.W.Frag} {B H : Hp} {m : List Addr} {h : Hd}
theorem own_at (w : WOk K B H m h) {n : Nat} {a : Addr} {xs : List Vd} (p : m[n]? = some a) (e : h[n]? = some (.lst xs)) : B a = none ∧ ∃ vs, H a = some (.lst vs) ∧ VRs K B m xs vs := w.ent n a _ p e
theorem wok_put (w : WOk K B H m h) {n : Nat} {a : Addr} {ys : List Vd} {us : List V} (p : m[n]? = some a) (nB : B a = none) (r : VRs K B m ys us) :
    Gm m B H B (upd H a (.lst us)) m ∧ WOk K B (upd H a (.lst us)) m (h.set n (.lst ys)) := by
  refine ⟨⟨Same.refl _, fun b o n e => ?_, fun b o e n => (by rw [n] at e; cases e), fun b e => ?_, [], by simp, by simp⟩, ⟨fun b o e => ?_, by rw [List.length_set]; exact w.len, w.nd, fun j b en pj e => ?_⟩⟩
  · rw [upd_ne (fun z => n (by rw [z]; exact List.mem_of_getElem? p))]; exact e
  · by_cases c : b = a
    · subst c; rw [upd_same]; simp
    · rw [upd_ne c]; exact e
  · rw [upd_ne (ne_of_none e nB)]; exact w.sub b o e
  · by_cases c : n = j
    · subst c
      have l : n < h.length := by
        have z := (List.getElem?_eq_some_iff.mp e).1
        rw [List.length_set] at z
        exact z
      rw [List.getElem?_set_self l] at e
      cases e
      rw [p] at pj
      cases pj
      exact ⟨nB, us, upd_same, r⟩
    · rw [List.getElem?_set_ne c] at e
      have z := w.ent j b en pj e
      have ne : b ≠ a := fun x => by
        subst x
        obtain ⟨h1, e1⟩ := List.getElem?_eq_some_iff.mp pj
        obtain ⟨h2, e2⟩ := List.getElem?_eq_some_iff.mp p
        exact c ((List.getElem_inj w.nd).mp (e2.trans e1.symm))
      match en, z with
      | .lst zs, ⟨z1, vs, z2, z3⟩ => exact ⟨z1, vs, by rw [upd_ne ne]; exact z2, z3⟩
      | .frz y, ⟨z1, z2⟩ => exact ⟨z1, by rw [upd_ne ne]; exact z2⟩
      | .nod _ zs, ⟨z1, vs, z2, z3⟩ => exact ⟨z1, vs, by rw [upd_ne ne]; exact z2, z3⟩
      | .jnk, ⟨z1, z2⟩ => exact ⟨z1, by rw [upd_ne ne]; exact z2⟩
      | .err y, ⟨z1, z2⟩ => exact ⟨z1, by rw [upd_ne ne]; exact z2⟩
      | .dct _, ⟨z1, z2⟩ => exact ⟨z1, by rw [upd_ne ne]; exact z2⟩
end
theorem gm_at {B H B1 H1 : Hp} {m m1 : List Addr} (g : Gm m B H B1 H1 m1) {n : Nat} {a : Addr} (p : m[n]? = some a) : m1[n]? = some a := by
  obtain ⟨l, rfl, _⟩ := g.ext
  exact pre_at p
def ownL (h : Hd) : Vd → Option (Nat × List Vd)
  | .r n => match h[n]? with
    | some (.lst xs) => some (n, xs)
    | _ => none
  | .d _ => none
theorem ownL_ok {h : Hd} {x : Vd} {n : Nat} {xs : List Vd} (e : ownL h x = some (n, xs)) : x = .r n ∧ h[n]? = some (.lst xs) := by
  unfold ownL at e
  split at e
  · split at e
    · rename_i en
      cases e
      exact ⟨rfl, en⟩
    · cases e
  · cases e
namespace SE
def app (o a : SE) : SE where
  ev := fun ρ h => (o.ev ρ h).bind fun x h1 => match ownL h1 x with
    | some _ => (a.ev ρ h1).bind fun y h2 => match ownL h2 x with
      | some (n, xs) => if xs.length < 1000000 then .ok (.d .none) (h2.set n (.lst (xs ++ [y]))) else .no
      | none => .no
    | none => .no
  t := fun C md => tBM C.K "list" rAppend (o.t C md) (tCons (a.t C md) tNil)
  ok := fun C md ρ h σ B H m Q e w q => by
    refine o.ok C md ρ h σ B H m _ e w (Po.chain w q fun x h1 u B1 H1 m1 ea g1 w1 r1 q1 => ?_)
    split at q1
    · rename_i nx0 e0
      obtain ⟨rfl, e0'⟩ := ownL_ok e0
      cases r1 with
      | r p1 =>
        obtain ⟨_, vs0, hv0, _⟩ := own_at w1 p1 e0'
        refine ⟨.inl ⟨rfl, _, .of hv0⟩, ?_⟩
        refine a.ok C md ρ h1 σ B1 H1 m1 _ (e.gm g1) w1 (Po.chain w1 q1 fun y h2 v B2 H2 m2 eb g2 w2 r2 q2 => ?_)
        split at q2
        · rename_i n xs e2
          obtain ⟨en, e2'⟩ := ownL_ok e2
          cases en
          split at q2
          · rename_i hl
            have p2 := gm_at g2 p1
            obtain ⟨nB, vs, hv, rs⟩ := own_at w2 p2 e2'
            refine ⟨_, vs, v, rfl, rfl, hv, by rw [rs.len, sizeLine_eq]; omega, ?_⟩
            obtain ⟨k, w3⟩ := wok_put w2 p2 nB (rs.app (.cons r2 .nil))
            exact q2 _ _ _ _ k w3 (.d .non)
          · exact q2.elim
        · exact q2.elim
    · exact q1.elim
def popAt (o a : SE) : SE where
  ev := fun ρ h => (o.ev ρ h).bind fun x h1 => match ownL h1 x with
    | some _ => (a.ev ρ h1).bind fun y h2 => match ownL h2 x, y with
      | some (n, xs), .d (.int i) => if 0 ≤ i ∧ i < xs.length ∧ xs.length ≤ 1000000 then match xs[i.toNat]? with
          | some z => .ok z (h2.set n (.lst (xs.eraseIdx i.toNat)))
          | none => .no
        else .no
      | _, _ => .no
    | none => .no
  t := fun C md => tBM C.K "list" rPopAt (o.t C md) (tCons (a.t C md) tNil)
  ok := fun C md ρ h σ B H m Q e w q => by
    refine o.ok C md ρ h σ B H m _ e w (Po.chain w q fun x h1 u B1 H1 m1 ea g1 w1 r1 q1 => ?_)
    split at q1
    · rename_i nx0 e0
      obtain ⟨rfl, e0'⟩ := ownL_ok e0
      cases r1 with
      | r p1 =>
        obtain ⟨_, vs0, hv0, _⟩ := own_at w1 p1 e0'
        refine ⟨.inl ⟨rfl, _, .of hv0⟩, ?_⟩
        refine a.ok C md ρ h1 σ B1 H1 m1 _ (e.gm g1) w1 (Po.chain w1 q1 fun y h2 v B2 H2 m2 eb g2 w2 r2 q2 => ?_)
        split at q2
        · rename_i n xs i e2
          obtain ⟨en, e2'⟩ := ownL_ok e2
          cases en
          split at q2
          · rename_i hl
            split at q2
            · rename_i z ez
              have p2 := gm_at g2 p1
              obtain ⟨nB, vs, hv, rs⟩ := own_at w2 p2 e2'
              obtain ⟨zv, e1, rz⟩ := rs.at ez
              cases r2 with
              | d r2 =>
                cases r2
                refine ⟨_, vs, i, i.toNat, zv, rfl, rfl, hv, by omega, by omega, seqIndex_of hl.1 (by rw [rs.len]; omega), e1, ?_⟩
                have er : VRs C.K B2 m2 (xs.eraseIdx i.toNat) (vs.eraseIdx i.toNat) := by
                  rw [List.eraseIdx_eq_take_drop_succ, List.eraseIdx_eq_take_drop_succ]
                  exact (rs.take _).app (rs.drop _)
                obtain ⟨k, w3⟩ := wok_put w2 p2 nB er
                exact q2 _ _ _ _ k w3 rz
            · exact q2.elim
          · exact q2.elim
        · exact q2.elim
    · exact q1.elim
end SE
structure SG where
  run : Vd → Rh → Hd → OcS
  t : Ctx → Md → TG
  ok : ∀ (C : Ctx) (md : Md) (ρ : Rh) (h : Hd) (σ : L2.St) (B H : Hp) (m : List Addr) (x : Vd) (v : V) (D : Ends), EnvN C.K B m σ ρ → WOk C.K B H m h → VR C.K B m x v → PoS C md m B H (run x ρ h) D → t C md v σ H D.nx
structure SGs where
  n : Nat
  run : List PyData → Rh → Hd → OcS
  t : Ctx → Md → TGs
  ok : ∀ (C : Ctx) (md : Md) (ρ : Rh) (h : Hd) (σ : L2.St) (B H : Hp) (m : List Addr) (xs : List PyData) (vs : List V) (D : Ends), EnvN C.K B m σ ρ → WOk C.K B H m h → DaAll C.K B vs xs → PoS C md m B H (run xs ρ h) D → xs.length = n → t C md vs σ H D.nx
def OcS.only (o : OcS) : OcS := match o with
  | .nx ρ h => .nx ρ h
  | .ex c x ρ h => .ex c x ρ h
  | _ => .no
namespace SG
def name (i : Nat) : SG where
  run := fun x ρ h => .nx (ρ.set i (some x)) h
  t := fun _ _ => gName i
  ok := fun C md ρ h σ B H m x v D e w r q => q.nxt w (e.set r i)
def sub (o i : SE) : SG where
  run := fun x ρ h => (o.ev ρ h).thn ρ fun y h1 => (i.ev ρ h1).thn ρ fun k h2 => match ownL h2 y, k with
    | some (n, xs), .d (.int j) => match L2.ixN xs.length j with
      | some l => .nx ρ (h2.set n (.lst (xs.set l x)))
      | none => .no
    | _, _ => .no
  t := fun C md => gSub (o.t C md) (i.t C md) rSetL
  ok := fun C md ρ h σ B H m x v D e w r q => by
    refine o.ok C md ρ h σ B H m _ e w (PoS.chain w e q fun y h1 u B1 H1 m1 ea g1 w1 r1 q1 => ?_)
    refine i.ok C md ρ h1 σ B1 H1 m1 _ (e.gm g1) w1 (PoS.chain w1 (e.gm g1) q1 fun k h2 u2 B2 H2 m2 eb g2 w2 r2 q2 => ?_)
    split at q2
    · rename_i n xs j e2
      obtain ⟨rfl, e2'⟩ := ownL_ok e2
      split at q2
      · rename_i l el
        cases VR.gm r1 g2 with
        | r p2 =>
          obtain ⟨nB, vs, hv, rs⟩ := own_at w2 p2 e2'
          cases r2 with
          | d r2 =>
            cases r2
            obtain ⟨k3, w3⟩ := wok_put w2 p2 nB (rs.set ((r.gm g1).gm g2) l)
            exact ⟨_, vs, j, l, rfl, rfl, hv, by rw [rs.len]; exact el, (PoS.shift k3 w2 q2).nxt w3 (((e.gm g1).gm g2).gm k3)⟩
      · exact q2.elim
    · exact q2.elim
def tup (ts : SGs) : SG where
  run := fun x ρ h => match x with
    | .d (.tuple ds) => if ds.length = ts.n then ts.run ds ρ h else .no
    | _ => .no
  t := fun C md => gTup C.K ts.n (ts.t C md)
  ok := fun C md ρ h σ B H m x v D e w r q => by
    split at q
    · rename_i ds
      split at q
      · rename_i hl
        cases r with
        | d r =>
          cases r with
          | tup h1 a => exact ⟨_, _, rfl, same_t w.sub h1, by rw [a.len]; exact hl, ts.ok C md ρ h σ B H m ds _ D e w a q hl⟩
      · exact q.elim
    · exact q.elim
end SG
namespace SGs
def nil : SGs where
  n := 0
  run := fun _ ρ h => .nx ρ h
  t := fun _ _ => gNil
  ok := fun C md ρ h σ B H m xs vs D e w r q hl => by
    cases r with
    | nil => exact ⟨rfl, q.nxt w e⟩
    | cons _ _ => simp at hl
def cons (a : SG) (r : SGs) : SGs where
  n := r.n + 1
  run := fun xs ρ h => match xs with
    | x :: xs => match (a.run (.d x) ρ h) with
      | .nx ρ1 h1 => r.run xs ρ1 h1
      | .ex c y ρ1 h1 => .ex c y ρ1 h1
      | _ => .no
    | [] => .no
  t := fun C md => gCons (a.t C md) (r.t C md)
  ok := fun C md ρ h σ B H m xs vs D e w rr q hl => by
    cases rr with
    | nil => exact q.elim
    | cons hx t =>
      dsimp only at q
      refine ⟨_, _, rfl, ?_⟩
      refine a.ok C md ρ h σ B H m _ _ { nx := fun σ' H' => r.t C md _ σ' H' D.nx, rt := D.rt } e w (.d hx) ?_
      split at q
      · rename_i ρ1 h1 ea
        rw [ea]
        exact fun σ1 B1 H1 m1 g1 w1 e1 => r.ok C md ρ1 h1 σ1 B1 H1 m1 _ _ D e1 w1 (DaAll.mono g1.bb _ t) (PoS.shift g1 w q) (Nat.succ.inj hl)
      · rename_i c y ρ1 h1 ea
        rw [ea]
        exact q
      · exact q.elim
end SGs
namespace SS
def asgG (a : SE) (g : SG) : SS where
  run := fun ρ h => (a.ev ρ h).thn ρ fun x h1 => (g.run x ρ h1).only
  t := fun C md => tAsg (a.t C md) (g.t C md)
  ok := fun C md ρ h σ B H m D e w q => by
    refine a.ok C md ρ h σ B H m _ e w (PoS.chain w e q fun x h1 u B1 H1 m1 ea g1 w1 r1 q1 => ?_)
    refine g.ok C md ρ h1 σ B1 H1 m1 x u D (e.gm g1) w1 r1 ?_
    cases c : g.run x ρ h1 with
    | nx ρ2 h2 => rw [c] at q1; exact q1
    | ex c' y ρ2 h2 => rw [c] at q1; exact q1
    | rt _ _ => rw [c] at q1; exact q1.elim
    | bk _ _ => rw [c] at q1; exact q1.elim
    | ct _ _ => rw [c] at q1; exact q1.elim
    | no => rw [c] at q1; exact q1.elim
end SS
structure CalX (P : Program) (w : World) (K : PySem.W.Frag) (mg : Str → Option Value) (base : Heap) (k : Nat) (x : Str) (ps : List Str) (q : Sp) : Prop where
  ex : ∃ (f : Addr) (fd : FuncData), mg x = some (.ref f) ∧ Kq K f fd ∧ L2.Binds K fd ps [] ∧ FnG P w K mg base (L2.CX P w) k f fd ps q
abbrev FSem := List Vd → Hd → Oc Vd
def runDef (body : SS) (n np : Nat) : FSem := fun args h => if args.length = np then match body.run (startN n args) h with
    | .rt x h1 => .ok x h1
    | .nx _ h1 => .ok (.d .none) h1
    | .ex c x _ h1 => .ex c x h1
    | _ => .no
  else .no
def spN (C : Ctx) (r : Bool) (F : FSem) : Sp := fun vs H Q E => ∃ B m h args, WOk C.K B H m h ∧ VRs C.K B m args vs ∧ Po C (if r then some fun cls d _ H' => E cls d H' else none) [] (rV C) m B H (F args h) Q
def WE0 (E : XK) : WX := fun cls d _ H' => E cls d H'
section
variable {P : Program} {w : World} {C : Ctx} {mg : Str → Option Value} {base : Heap}
theorem spN_len {r : Bool} {body : SS} {n np : Nat} {vs : List V} {H : Hp} {Q : VK} {E : XK} (h : spN C r (runDef body n np) vs H Q E) : vs.length = np := by
  obtain ⟨B, m, h, args, w, rs, q⟩ := h
  rw [rs.len]
  unfold runDef at q
  by_cases c : args.length = np
  · exact c
  · rw [if_neg c] at q
    exact q.elim
theorem body_go {md : Md} {body : SS} {N : List Str} {np : Nat} {vs : List V} {H : Hp} {Q : VK} {E : XK} {r : Bool} (hmd : md = if r then some (WE0 E) else none) (h : spN C r (runDef body N.length np) vs H Q E) :
    body.t C md { nx := fun _ H' => Q .non H', rt := Q } (L2.start N vs) H := by
  obtain ⟨B, m, h, args, w, rs, q⟩ := h
  refine body.ok C md _ h _ B H m _ (envn_start rs) w ?_
  unfold runDef at q
  by_cases c0 : args.length = np
  · rw [if_pos c0] at q
    cases c : body.run (startN N.length args) h with
    | rt x h1 => rw [c] at q; exact q
    | nx ρ1 h1 => rw [c] at q; exact fun σ' B' H' m' g w' e => q .non B' H' m' g w' (.d .non)
    | ex c' x ρ1 h1 =>
      rw [c] at q
      obtain ⟨W, e, k⟩ := q
      cases r with
      | false => cases e
      | true =>
        cases e
        rw [hmd]
        exact ⟨WE0 E, rfl, fun σ' dd v B' H' m' g w' e' b0 h0 n hx d => k dd v B' H' m' g w' b0 h0 n hx d⟩
    | bk _ _ => rw [c] at q; exact q.elim
    | ct _ _ => rw [c] at q; exact q.elim
    | no => rw [c] at q; exact q.elim
  · rw [if_neg c0] at q
    exact q.elim
theorem has_n {x : Str} {st : Stmt} {N ps : List Str} {k : Nat} {body : SS} (h : Has C.K mg x st ps) (S : FnScope N ps (defScope st))
    (hb : ∀ (f : Addr) (cdv : Value) (A : Around) (outer : List Env) (s : Shared) (H : Hp) (E : XK), A.guards = some [] → Room k (A.deeper (envOfC x (defScope st) s.heap.objs.size f cdv)) →
      PSs (bodyCx CX0 P w C.K mg base N x st f cdv A outer s H E).nox (defBody st) (body.t C none)) : Cal P w C.K mg base (k + 1) x ps (spN C false (runDef body N.length ps.length)) := by
  obtain ⟨f, fd, F, hm, bd⟩ := h
  exact ⟨f, fd, hm, kq_of F, bd, fn_g0 F S (fun vs H Q E h => spN_len h) fun cdv A outer s H vs Q E hg hr h => ⟨_, hb f cdv A outer s H E hg hr, body_go (md := none) rfl h⟩⟩
end
def FD (F : FSem) : List PyData → Option PyData := fun ds => match F (ds.map .d) [] with
  | .ok r h1 => match frz h1 r with
    | some (z, _) => some z
    | none => none
  | _ => none
theorem gr_of {K : PySem.W.Frag} {B H B1 H1 B2 : Hp} {m1 : List Addr} {h1 : Hd} (g : Gm [] B H B1 H1 m1) (w1 : WOk K B1 H1 m1 h1) (g2 : Gm m1 B1 H1 B2 H1 m1) (w2 : Same B2 H1) : Gr B H B2 H1 := by
  refine ⟨fun a o e => g.ex a o (by simp) e, g.bb.trans g2.bb, w2, fun a o e n => ?_⟩
  cases c : B1 a with
  | some u =>
    rcases g.new a u c n with z | z
    · exact z
    · cases z
  | none =>
    rcases g2.new a o e c with z | z
    · rw [w2 a o e] at z; cases z
    · obtain ⟨l, e1, f⟩ := g.ext
      rw [List.nil_append] at e1
      subst e1
      exact f a z
theorem fd_fn {C : Ctx} {F : FSem} {xs : List PyData} {z : PyData} (e : FD F xs = some z) : Fn C.K (fun vs H Q => spN C false F vs H Q E0) xs z := by
  intro B H s us hu Q q
  refine ⟨B, [], [], xs.map .d, wok_nil s, VRs.all hu, ?_⟩
  unfold FD at e
  split at e
  · rename_i r h1 er
    rw [er]
    split at e
    · rename_i d h2 ef
      cases e
      intro v B1 H1 m1 g1 w1 r1
      obtain ⟨B2, g2, w2, d2⟩ := frz_ok w1 ef r1
      exact q v B2 H1 (gr_of g1 w1 g2 w2.sub) d2
    · cases e
  · cases e
def permL {α : Type} (is : List Nat) (xs : List α) : List α := is.filterMap fun i => xs[i]?
def kwgI {α : Type} (is : List Nat) : List α → List α → List α
  | [], zs => if zs.length = is.length then permL is zs else []
  | _ :: _, _ => []
theorem kwgI_nil {α : Type} (is : List Nat) (zs : List α) : kwgI is [] zs = if zs.length = is.length then permL is zs else [] := rfl
theorem kwgI_len {α : Type} {is : List Nat} {us zs : List α} {n : Nat} (h : (kwgI is us zs).length = n + 1) : us = [] ∧ zs.length = is.length := by
  cases us with
  | cons u us => cases h
  | nil =>
    rw [kwgI_nil] at h
    by_cases c : zs.length = is.length
    · exact ⟨rfl, c⟩
    · rw [if_neg c] at h; cases h
theorem permL_rel {K : PySem.W.Frag} {B : Hp} {m : List Addr} {xs : List Vd} {vs : List V} (r : VRs K B m xs vs) : ∀ is : List Nat, VRs K B m (permL is xs) (permL is vs)
  | [] => .nil
  | i :: is => by
    unfold permL
    rw [List.filterMap_cons, List.filterMap_cons]
    cases c : xs[i]? with
    | some x =>
      obtain ⟨v, e1, e2⟩ := r.at c
      rw [e1]
      exact .cons e2 (permL_rel r is)
    | none =>
      have : vs[i]? = none := List.getElem?_eq_none_iff.mpr (by rw [r.len]; exact List.getElem?_eq_none_iff.mp c)
      rw [this]
      exact permL_rel r is
namespace SE
def call (F : FSem) (a : SL) : SE where
  ev := fun ρ h => (a.ev ρ h).bind fun xs h1 => fnV (FD F) xs h1
  t := fun C md => tCall (spN C false F) [] E0 (a.t C md)
  ok := fun C md ρ h σ B H m Q e w q =>
    a.ok C md ρ h σ B H m _ e w (Po.chain w q fun xs h1 us B1 H1 m1 ea g1 w1 r1 q1 => by
      rw [List.append_nil]
      exact fnV_ok (r := fun vs H Q => spN C false F vs H Q E0) (fun xs z ez => fd_fn ez) w1 r1 q1)
def callK (F : FSem) (is : List Nat) (a : SL) : SE where
  ev := fun ρ h => (a.ev ρ h).bind fun xs h1 => if xs.length = is.length then fnV (FD F) (permL is xs) h1 else .no
  t := fun C md => tCallK (spN C false F) (kwgI is) E0 tNil (a.t C md)
  ok := fun C md ρ h σ B H m Q e w q =>
    a.ok C md ρ h σ B H m _ e w (Po.chain w q fun xs h1 us B1 H1 m1 ea g1 w1 r1 q1 => by
      split at q1
      · rename_i hl
        show spN C false F (kwgI is [] us) H1 Q E0
        rw [kwgI_nil, if_pos (by rw [r1.len]; exact hl)]
        exact fnV_ok (r := fun vs H Q => spN C false F vs H Q E0) (fun xs z ez => fd_fn ez) w1 (permL_rel r1 is) q1
      · exact q1.elim)
end SE
end N
end
section
set_option maxRecDepth 100000
set_option maxHeartbeats 2000000
namespace N
open PySem PySem.Spec PyProof.Rows L2 G
def FM (F : FSem) : List PyData → Option (List PyData) := fun ds => match F (ds.map .d) [] with
  | .ok (.r k) h1 => match h1[k]? with
    | some (.lst ys) => datas ys
    | _ => none
  | _ => none
def FG (F : FSem) (es ds : List PyData) : Option (PyData × List PyData) := match F (.r 0 :: ds.map .d) [.lst (es.map .d)] with
  | .ok r h1 => match frz h1 r with
    | some (z, h2) => match h2[(0 : Nat)]? with
      | some (.lst ys) => match datas ys with
        | some es' => some (z, es')
        | none => none
      | _ => none
    | none => none
  | _ => none
def FGM (F : FSem) (es ds : List PyData) : Option (List PyData × List PyData) := match F (.r 0 :: ds.map .d) [.lst (es.map .d)] with
  | .ok (.r k) h1 => match h1[(0 : Nat)]?, h1[k]? with
    | some (.lst ys), some (.lst zs) => match datas ys, datas zs with
      | some es', some out => if k = 0 then none else some (out, es')
      | _, _ => none
    | _, _ => none
  | _ => none
theorem vrs_any {K : PySem.W.Frag} {B : Hp} {m m' : List Addr} {xs : List Vd} {vs : List V} {ds : List PyData} (e : datas xs = some ds) (r : VRs K B m xs vs) : VRs K B m' xs vs := by
  rw [datas_ok e] at r ⊢
  exact VRs.all r.data
theorem datas_map (ds : List PyData) : datas (ds.map .d) = some ds := by
  induction ds with
  | nil => rfl
  | cons d ds ih => rw [List.map_cons, datas, ih]
theorem wok_one {K : PySem.W.Frag} {B H : Hp} {m : List Addr} {h : Hd} (w : WOk K B H m h) {n : Nat} {a : Addr} {ys : List Vd} {es : List PyData} (p : m[n]? = some a) (e : h[n]? = some (.lst ys)) (ed : datas ys = some es) : WOk K B H [a] [.lst (es.map .d)] := by
  obtain ⟨nB, vs, hv, rs⟩ := own_at w p e
  refine ⟨w.sub, rfl, by simp, fun j b en pj q => ?_⟩
  cases j with
  | zero =>
    cases pj
    cases q
    refine ⟨nB, vs, hv, ?_⟩
    rw [datas_ok ed] at rs
    exact VRs.all rs.data
  | succ j => cases q
theorem after_one {K : PySem.W.Frag} {B H B2 H2 : Hp} {m m2 : List Addr} {h h2 : Hd} (w : WOk K B H m h) {n : Nat} {a : Addr} {ys : List Vd} {es' : List PyData} (p : m[n]? = some a) (g : Gm [a] B H B2 H2 m2) (w2 : WOk K B2 H2 m2 h2) (e2 : h2[0]? = some (.lst ys)) (ed : datas ys = some es') :
    Gm m B H B2 H2 m ∧ WOk K B2 H2 m (h.set n (.lst (es'.map .d))) := by
  have am : a ∈ m := List.mem_of_getElem? p
  have p2 : m2[0]? = some a := gm_at g rfl
  obtain ⟨nB, vs, hv, rs⟩ := own_at w2 p2 e2
  have G : Gm m B H B2 H2 m := ⟨g.bb, fun b o nb e => g.ex b o (fun z => nb (by rw [List.mem_singleton.mp z]; exact am)) e, fun b o e n => (g.new b o e n).imp id fun z => by rw [List.mem_singleton.mp z]; exact am, g.kp, [], by simp, by simp⟩
  refine ⟨G, ⟨w2.sub, by rw [List.length_set]; exact w.len, w.nd, fun j b en pj q => ?_⟩⟩
  by_cases c : n = j
  · subst c
    have l : n < h.length := by
      have z := (List.getElem?_eq_some_iff.mp q).1
      rw [List.length_set] at z
      exact z
    rw [List.getElem?_set_self l] at q
    cases q
    rw [p] at pj
    cases pj
    refine ⟨nB, vs, hv, ?_⟩
    rw [datas_ok ed] at rs
    exact VRs.all rs.data
  · rw [List.getElem?_set_ne c] at q
    have z := w.ent j b en pj q
    have ne : b ≠ a := fun x => by
      subst x
      obtain ⟨h1, e1⟩ := List.getElem?_eq_some_iff.mp pj
      obtain ⟨h2, e2⟩ := List.getElem?_eq_some_iff.mp p
      exact c ((List.getElem_inj w.nd).mp (e2.trans e1.symm))
    have nb : b ∉ [a] := fun z => ne (List.mem_singleton.mp z)
    match en, z with
    | .lst zs, ⟨z1, us, z2, z3⟩ => exact ⟨gm_B g nb (by rw [z2]; simp) z1, us, g.ex _ _ nb z2, z3.gm G⟩
    | .frz y, ⟨z1, z2⟩ => exact ⟨z1.mono g.bb, g.kp _ z2⟩
    | .nod _ zs, ⟨z1, us, z2, z3⟩ => exact ⟨gm_B g nb (by rw [z2]; simp) z1, us, g.ex _ _ nb z2, z3.gm G⟩
    | .jnk, ⟨z1, z2⟩ => exact ⟨gm_B g nb z2 z1, g.kp _ z2⟩
    | .err y, ⟨z1, z2⟩ => exact ⟨z1.mono g.bb, g.kp _ z2⟩
    | .dct _, ⟨z1, z2⟩ => exact ⟨gm_B g nb (by rw [z2]; simp) z1, g.ex _ _ nb z2⟩
namespace SE
def callM (F : FSem) (a : SL) : SE where
  ev := fun ρ h => (a.ev ρ h).bind fun xs h1 => match frzL h1 xs with
    | some (ds, h2) => match FM F ds with
      | some zs => .ok (.r h2.length) (h2 ++ [.lst (zs.map .d)])
      | none => .no
    | none => .no
  t := fun C md => tCall (spN C false F) [] E0 (a.t C md)
  ok := fun C md ρ h σ B H m Q e w q =>
    a.ok C md ρ h σ B H m _ e w (Po.chain w q fun xs h1 us B1 H1 m1 ea g1 w1 r1 q1 => by
      rw [List.append_nil]
      split at q1
      · rename_i ds h2 ef
        split at q1
        · rename_i zs ez
          obtain ⟨B2, g2, w2, d2⟩ := frzL_ok w1 ef r1
          refine ⟨B2, [], [], ds.map .d, wok_nil w2.sub, VRs.all d2, ?_⟩
          unfold FM at ez
          split at ez
          · rename_i k h3 er
            rw [er]
            split at ez
            · rename_i ys ey
              intro v B3 H3 m3 g3 w3 r3
              cases r3 with
              | @r _ p pk =>
                obtain ⟨nB, vs, hv, rs⟩ := own_at w3 pk ey
                have fresh : H1 p = none := by
                  obtain ⟨l, e1, f⟩ := g3.ext
                  rw [List.nil_append] at e1
                  subst e1
                  exact f p (List.mem_of_getElem? pk)
                have k3 : Gr B2 H1 B3 H3 := gr_of g3 w3 (Gm.refl w3) w3.sub
                have nm : p ∉ m1 := fun z => w2.tracked z fresh
                obtain ⟨k4, w4⟩ := gm_own (.of w2 k3) (w2.gr k3) fresh nB nm hv (vrs_any ez rs)
                rw [datas_ok ez] at w4
                exact q1 _ _ _ _ (g2.trans w1 k4) w4 (.r (by rw [← w2.len]; exact one_last _ _))
            · cases ez
          · cases ez
        · exact q1.elim
      · exact q1.elim)
def callG (F : FSem) (a : SL) : SE where
  ev := fun ρ h => (a.ev ρ h).bind fun xs h1 => match xs with
    | .r n :: rest => match frzL h1 rest with
      | some (ds, h2) => match h2[n]? with
        | some (.lst ys) => match datas ys with
          | some es => match FG F es ds with
            | some (z, es') => .ok (.d z) (h2.set n (.lst (es'.map .d)))
            | none => .no
          | none => .no
        | _ => .no
      | none => .no
    | _ => .no
  t := fun C md => tCall (spN C false F) [] E0 (a.t C md)
  ok := fun C md ρ h σ B H m Q e w q =>
    a.ok C md ρ h σ B H m _ e w (Po.chain w q fun xs h1 us B1 H1 m1 ea g1 w1 r1 q1 => by
      rw [List.append_nil]
      split at q1
      · rename_i n rest
        split at q1
        · rename_i ds h2 ef
          split at q1
          · rename_i ys ey
            split at q1
            · rename_i es ed
              split at q1
              · rename_i z es' ez
                cases r1 with
                | cons ra rt =>
                  cases ra with
                  | @r _ a p =>
                    obtain ⟨B2, g2, w2, d2⟩ := frzL_ok w1 ef rt
                    refine ⟨B2, [a], [.lst (es.map .d)], .r 0 :: ds.map .d, wok_one w2 p ey ed, .cons (.r rfl) (VRs.all d2), ?_⟩
                    unfold FG at ez
                    split at ez
                    · rename_i r h3 er
                      rw [er]
                      split at ez
                      · rename_i z' h4 e4
                        split at ez
                        · rename_i ys' ey'
                          split at ez
                          · rename_i es'' ed'
                            cases ez
                            intro v B3 H3 m3 g3 w3 r3
                            obtain ⟨B4, g4, w4, d4⟩ := frz_ok w3 e4 r3
                            obtain ⟨k5, w5⟩ := after_one w2 p (g3.trans (wok_one w2 p ey ed) g4) w4 ey' ed'
                            exact q1 _ _ _ _ (g2.trans w1 k5) w5 (.d d4)
                          · cases ez
                        · cases ez
                      · cases ez
                    · cases ez
              · exact q1.elim
            · exact q1.elim
          · exact q1.elim
        · exact q1.elim
      · exact q1.elim)
def callGM (F : FSem) (a : SL) : SE where
  ev := fun ρ h => (a.ev ρ h).bind fun xs h1 => match xs with
    | .r n :: rest => match frzL h1 rest with
      | some (ds, h2) => match h2[n]? with
        | some (.lst ys) => match datas ys with
          | some es => match FGM F es ds with
            | some (out, es') => .ok (.r h2.length) (h2.set n (.lst (es'.map .d)) ++ [.lst (out.map .d)])
            | none => .no
          | none => .no
        | _ => .no
      | none => .no
    | _ => .no
  t := fun C md => tCall (spN C false F) [] E0 (a.t C md)
  ok := fun C md ρ h σ B H m Q e w q =>
    a.ok C md ρ h σ B H m _ e w (Po.chain w q fun xs h1 us B1 H1 m1 ea g1 w1 r1 q1 => by
      rw [List.append_nil]
      split at q1
      · rename_i n rest
        split at q1
        · rename_i ds h2 ef
          split at q1
          · rename_i ys ey
            split at q1
            · rename_i es ed
              split at q1
              · rename_i out es' ez
                cases r1 with
                | cons ra rt =>
                  cases ra with
                  | @r _ a p =>
                    obtain ⟨B2, g2, w2, d2⟩ := frzL_ok w1 ef rt
                    refine ⟨B2, [a], [.lst (es.map .d)], .r 0 :: ds.map .d, wok_one w2 p ey ed, .cons (.r rfl) (VRs.all d2), ?_⟩
                    unfold FGM at ez
                    split at ez
                    · rename_i k h3 er
                      rw [er]
                      split at ez
                      · rename_i ys' zs' ey' ez'
                        split at ez
                        · rename_i es'' out' ed' eo
                          split at ez
                          · cases ez
                          · rename_i k0
                            cases ez
                            intro v B3 H3 m3 g3 w3 r3
                            cases r3 with
                            | @r _ p3 pk =>
                              obtain ⟨k5, w5⟩ := after_one w2 p g3 w3 ey' ed'
                              obtain ⟨nB, vs, hv, rs⟩ := own_at w3 pk ez'
                              have fresh : H1 p3 = none := by
                                obtain ⟨l, e1, f⟩ := g3.ext
                                subst e1
                                cases k with
                                | zero => exact absurd rfl k0
                                | succ k => exact f p3 (List.mem_of_getElem? (by simpa using pk))
                              have nm : p3 ∉ m1 := fun z => w2.tracked z fresh
                              obtain ⟨k6, w6⟩ := gm_own k5 w5 fresh nB nm hv (vrs_any eo rs)
                              rw [datas_ok eo] at w6
                              exact q1 _ _ _ _ (g2.trans w1 k6) w6 (.r (by rw [← w2.len]; exact one_last _ _))
                        · cases ez
                      · cases ez
                    · cases ez
              · exact q1.elim
            · exact q1.elim
          · exact q1.elim
        · exact q1.elim
      · exact q1.elim)
end SE
end N
end
section
set_option maxRecDepth 100000
set_option maxHeartbeats 4000000
namespace G
open PySem PySem.Spec PyProof.Rows L2
def disL (ns : List Int) : List Int := PyProof.Rows.firstMet (fun i => ns.getD i 0) ns.length
theorem dis_len (ns : List Int) : (disL ns).length ≤ ns.length := PyProof.Rows.firstMet_length_le _ _
theorem dis_take {ns : List Int} : ∀ i, i ≤ ns.length → (PyProof.Rows.firstMet (fun i => ns.getD i 0) i).length = i → (ns.take i).Nodup
  | 0, _, _ => by simp
  | i + 1, hi, h => by
    have lt : i < ns.length := hi
    have up := PyProof.Rows.firstMet_length_le (fun i => ns.getD i 0) i
    rw [PyProof.Rows.firstMet_succ] at h
    unfold step_dedup at h
    have g : ns.getD i 0 = ns[i] := by rw [List.getD_eq_getElem?_getD, List.getElem?_eq_getElem lt]; rfl
    have tk : ns.take (i + 1) = ns.take i ++ [ns[i]] := by rw [List.take_add_one, List.getElem?_eq_getElem lt]; rfl
    have mp : (List.range i).map (fun j => ns.getD j 0) = ns.take i := by
      refine List.ext_getElem? fun j => ?_
      by_cases hj : j < i
      · rw [List.getElem?_map, List.getElem?_range hj, List.getElem?_take_of_lt hj, List.getElem?_eq_getElem (by omega)]
        show some (ns.getD j 0) = _
        rw [List.getD_eq_getElem?_getD, List.getElem?_eq_getElem (by omega)]
        rfl
      · rw [List.getElem?_eq_none (by rw [List.length_map, List.length_range]; omega), List.getElem?_eq_none (by rw [List.length_take]; omega)]
    have any := PyProof.Rows.firstMet_any (fun i => ns.getD i 0) i (ns.getD i 0)
    rw [mp] at any
    split at h
    · omega
    · rename_i no
      rw [List.length_append] at h
      have one : [ns.getD i 0].length = 1 := rfl
      rw [one] at h
      have ih := dis_take i (by omega) (Nat.succ.inj h)
      rw [tk]
      refine List.nodup_append.mpr ⟨ih, by simp, fun a ha b hb e => ?_⟩
      have eb : b = ns[i] := by simpa using hb
      have no2 : (ns.take i).any (fun x => x == ns.getD i 0) = false := by
        rw [← any]
        rw [Bool.eq_false_iff]
        intro z
        obtain ⟨y, hy, ey⟩ := List.any_eq_true.mp z
        have ey2 : y = ns.getD i 0 := eq_of_beq ey
        subst ey2
        exact no (by simpa using hy)
      have q := List.any_eq_false.mp no2 a ha
      rw [g, e, eb] at q
      simp at q
theorem dis_iff (ns : List Int) : (disL ns).length = ns.length ↔ ns.Nodup := by
  constructor
  · intro h
    have q := dis_take ns.length (Nat.le_refl _) h
    rw [List.take_length] at q
    exact q
  · intro h
    unfold disL
    rw [RZ.firstMet_nodup h ns.length (Nat.le_refl _), List.take_length]
def tLenSetA (K : PySem.W.Frag) (ta : TE) : TE := fun σ H Q => ta σ H fun x H1 => ∃ (p : Addr) (ns : List Int), x = .ref p ∧ SqL K H1 p (ns.map V.int) ∧ ns.length ≤ 4000 ∧ Q (.int ((disL ns).length : Nat)) H1
theorem pe_lenSetA {X : Cx} {a : Expr} {ta : TE} {p p2 q pos : Pos} (hg : Gl X "len") (hm : X.mg "len" = none) (hg2 : Gl X "set") (hm2 : X.mg "set" = none) (ha : PE X a ta) (calm : X.calm = true := by rfl)
    (one : starEach [a] X.env = (false, eval a X.env) :: starEach [] X.env := by rfl) : PE X (.Call (.Name "len" p) [.Call (.Name "set" p2) [a] [] q] [] pos) (tLenSetA X.K ta) :=
  ⟨fun pins s σ H Q I h => by
    refine Call_ (ld_blt I hg hm boot_len (callWith_builtin1 (args_cons ?_ rfl) rfl rfl))
    refine Call_ (ld_blt I hg2 hm2 boot_set (callWith_type1 (args_cons (thn (ha.run pins s σ H _ I h) fun v s1 ⟨x, H1, J, rx, w⟩ => args_nil ?_) one) one rfl))
    obtain ⟨p, ns, rfl, hq, small, w⟩ := w
    obtain rfl : v = Value.ref p := rx
    obtain ⟨its, rv, plain, _⟩ := J.list hq
    have n : its.toArray.size = ns.length := by rw [List.size_toArray, ← rv.length, List.length_map]
    refine call_set_list (J.ok.hd calm) plain.isList (by simpa using RZ.intsAre_vals rv) (by rw [n]; unfold scanBound; omega) fun h2 tk set keep => args_nil ?_
    have le := dis_len ns
    rw [n] at set
    obtain ⟨o, es, ep, t, ho, ex, hd, _, _, _, fit, size⟩ := set
    have size2 : es.size = (disL ns).length := size
    have J2 : L2.Inv X pins σ H1 { s1 with heap := h2, toks := tk } := J.kept fun b u e => keep b u (Heap.lt_size e) e
    exact call_len_set ho ex hd fit (by rw [size2]; omega) ⟨.int (disL ns).length, H1, J2.tok _, ⟨_, by rw [size2]⟩, w⟩⟩
end G
end
section
set_option maxRecDepth 100000
set_option maxHeartbeats 2000000
namespace N
open PySem PySem.Spec PyProof.Rows L2 G
def bitsOf (i : Int) : Int := (Builtin.Int.intBits i : Nat)
namespace SE
def bits (a : SE) : SE where
  ev := fun ρ h => (a.ev ρ h).bind fun x h1 => match x with
    | .d (.int i) => .ok (.d (.int (bitsOf i))) h1
    | _ => .no
  t := fun C md => tBits (a.t C md)
  ok := fun C md ρ h σ B H m Q e w q => by
    refine a.ok C md ρ h σ B H m _ e w (Po.chain w q fun x h1 u B1 H1 m1 ea g1 w1 r1 q1 => ?_)
    match x, r1, q1 with
    | .d (.int i), .d (.int _), q1 => exact ⟨i, rfl, q1 _ B1 H1 m1 (.refl w1) w1 (.d (.int _))⟩
def rgOk (a b : Int) : Bool := decide (-16777216 ≤ a) && (decide (a ≤ 16777216) && (decide (-16777216 ≤ b) && (decide (b ≤ 16777216) && decide ((b - a).toNat ≤ 1000000))))
theorem rgOk_ok {a b : Int} (h : rgOk a b = true) : RgOk a b := by
  unfold rgOk at h
  simp only [Bool.and_eq_true, decide_eq_true_eq] at h
  refine ⟨by omega, by omega, by omega, by omega, by omega⟩
theorem rgV_da {K : PySem.W.Frag} {B : Hp} (a b : Int) : DaAll K B (rgV a b) (SI.rng a b) := by
  unfold rgV SI.rng
  induction (List.range (b - a).toNat) with
  | nil => exact .nil
  | cons i is ih => exact .cons (.int _) ih
def listRg1 (n : SE) : SE where
  ev := fun ρ h => (n.ev ρ h).bind fun x h1 => match x with
    | .d (.int i) => if rgOk 0 i = true then .ok (.d (.list (SI.rng 0 i))) h1 else .no
    | _ => .no
  t := fun C md => tLstRg (tRg1 (n.t C md))
  ok := fun C md ρ h σ B H m Q e w q => by
    refine n.ok C md ρ h σ B H m _ e w (Po.chain w q fun x h1 u B1 H1 m1 ea g1 w1 r1 q1 => ?_)
    match x, r1, q1 with
    | .d (.int i), .d (.int _), q1 =>
      dsimp only at q1
      split at q1
      · rename_i hr
        refine ⟨i, rfl, rgOk_ok hr, fun p hp => ?_⟩
        have k := Gr.add w1.sub hp (.lst (rgV 0 i))
        exact q1 _ _ _ _ (.of w1 k) (w1.gr k) (.d (.lst (.of upd_same) (rgV_da 0 i)))
      · exact q1.elim
def listRg2 (l n : SE) : SE where
  ev := fun ρ h => (l.ev ρ h).bind fun x h1 => (n.ev ρ h1).bind fun y h2 => match x, y with
    | .d (.int j), .d (.int i) => if rgOk j i = true then .ok (.d (.list (SI.rng j i))) h2 else .no
    | _, _ => .no
  t := fun C md => tLstRg (tRg2 (l.t C md) (n.t C md))
  ok := fun C md ρ h σ B H m Q e w q => by
    refine l.ok C md ρ h σ B H m _ e w (Po.chain w q fun x h1 u B1 H1 m1 ea g1 w1 r1 q1 => ?_)
    refine n.ok C md ρ h1 σ B1 H1 m1 _ (e.gm g1) w1 (Po.chain w1 q1 fun y h2 v B2 H2 m2 eb g2 w2 r2 q2 => ?_)
    match x, r1, y, r2, q2 with
    | .d (.int j), .d (.int _), .d (.int i), .d (.int _), q2 =>
      dsimp only at q2
      split at q2
      · rename_i hr
        refine ⟨j, i, rfl, rfl, rgOk_ok hr, fun p hp => ?_⟩
        have k := Gr.add w2.sub hp (.lst (rgV j i))
        exact q2 _ _ _ _ (.of w2 k) (w2.gr k) (.d (.lst (.of upd_same) (rgV_da j i)))
      · exact q2.elim
def listRg1M (n : SE) : SE where
  ev := fun ρ h => (n.ev ρ h).bind fun x h1 => match x with
    | .d (.int i) => if rgOk 0 i = true then .ok (.r h1.length) (h1 ++ [.lst ((SI.rng 0 i).map .d)]) else .no
    | _ => .no
  t := fun C md => tLstRg (tRg1 (n.t C md))
  ok := fun C md ρ h σ B H m Q e w q => by
    refine n.ok C md ρ h σ B H m _ e w (Po.chain w q fun x h1 u B1 H1 m1 ea g1 w1 r1 q1 => ?_)
    match x, r1, q1 with
    | .d (.int i), .d (.int _), q1 =>
      dsimp only at q1
      split at q1
      · rename_i hr
        refine ⟨i, rfl, rgOk_ok hr, fun p hp => ?_⟩
        obtain ⟨k, w2⟩ := gm_new w1 hp (VRs.all (m := m1) (rgV_da (K := C.K) (B := B1) 0 i))
        exact q1 _ _ _ _ k w2 (.r (by rw [← w1.len]; exact one_last _ _))
      · exact q1.elim
def repOk (n : Nat) (k : Int) : Bool := decide (k ≤ 1000000) && (decide (-1000000 ≤ k) && decide (n * k.toNat ≤ 1000000))
def rep (a : SL) (b : SE) : SE where
  ev := fun ρ h => (a.ev ρ h).bind fun xs h1 => match frzL h1 xs with
    | some (ds, h2) => if ds.length ≤ 1000000 then (b.ev ρ h2).bind fun y h3 => match y with
        | .d (.int k) => if repOk ds.length k = true then .ok (.d (.list (List.replicate k.toNat ds).flatten)) h3 else .no
        | _ => .no
      else .no
    | none => .no
  t := fun C md => tOp rMulA (tLst (a.t C md)) (b.t C md)
  ok := fun C md ρ h σ B H m Q e w q => by
    refine a.ok C md ρ h σ B H m _ e w (Po.chain w q fun xs h1 us B1 H1 m1 ea g1 w1 r1 q1 => ?_)
    split at q1
    · rename_i ds h2 ef
      obtain ⟨B2, g2, w2, d2⟩ := frzL_ok w1 ef r1
      split at q1
      · rename_i hl
        refine ⟨by rw [d2.len, sizeLine_eq]; omega, fun p hp => ?_⟩
        have k := Gr.add w2.sub hp (.lst us)
        have g3 : Gm m B H (upd B2 p (.lst us)) (upd H1 p (.lst us)) m1 := g1.trans w (g2.trans w1 (.of w2 k))
        have w3 := w2.gr k
        refine b.ok C md ρ h2 σ _ _ m1 _ (e.gm g3) w3 (Po.chain w3 (Po.shift (g2.trans w1 (.of w2 k)) w1 q1) fun y h3 v B4 H4 m4 eb g4 w4 r4 q4 => ?_)
        match y, r4, q4 with
        | .d (.int n), .d (.int _), q4 =>
          dsimp only at q4
          split at q4
          · rename_i hr
            unfold repOk at hr
            simp only [Bool.and_eq_true, decide_eq_true_eq] at hr
            have d4 : DaAll C.K B4 us ds := (d2.mono k.bb).mono g4.bb
            refine .inr ⟨p, n, us, rfl, rfl, w4.sub _ _ (g4.bb _ _ upd_same), by omega, by omega, by rw [d4.len, sizeLine_eq]; omega, fun l hl2 => ?_⟩
            have k5 := Gr.add w4.sub hl2 (.lst (List.replicate n.toNat us).flatten)
            exact q4 _ _ _ _ (.of w4 k5) (w4.gr k5) (.d (.lst (.of upd_same) ((daAll_rep d4 _).mono k5.bb)))
          · exact q4.elim
      · exact q1.elim
    · exact q1.elim
def repM (a : SL) (b : SE) : SE where
  ev := fun ρ h => (a.ev ρ h).bind fun xs h1 => match frzL h1 xs with
    | some (ds, h2) => if ds.length ≤ 1000000 then (b.ev ρ h2).bind fun y h3 => match y with
        | .d (.int k) => if repOk ds.length k = true then .ok (.r h3.length) (h3 ++ [.lst ((List.replicate k.toNat ds).flatten.map .d)]) else .no
        | _ => .no
      else .no
    | none => .no
  t := fun C md => tOp rMulA (tLst (a.t C md)) (b.t C md)
  ok := fun C md ρ h σ B H m Q e w q => by
    refine a.ok C md ρ h σ B H m _ e w (Po.chain w q fun xs h1 us B1 H1 m1 ea g1 w1 r1 q1 => ?_)
    split at q1
    · rename_i ds h2 ef
      obtain ⟨B2, g2, w2, d2⟩ := frzL_ok w1 ef r1
      split at q1
      · rename_i hl
        refine ⟨by rw [d2.len, sizeLine_eq]; omega, fun p hp => ?_⟩
        have k := Gr.add w2.sub hp (.lst us)
        have g3 : Gm m B H (upd B2 p (.lst us)) (upd H1 p (.lst us)) m1 := g1.trans w (g2.trans w1 (.of w2 k))
        have w3 := w2.gr k
        refine b.ok C md ρ h2 σ _ _ m1 _ (e.gm g3) w3 (Po.chain w3 (Po.shift (g2.trans w1 (.of w2 k)) w1 q1) fun y h3 v B4 H4 m4 eb g4 w4 r4 q4 => ?_)
        match y, r4, q4 with
        | .d (.int n), .d (.int _), q4 =>
          dsimp only at q4
          split at q4
          · rename_i hr
            unfold repOk at hr
            simp only [Bool.and_eq_true, decide_eq_true_eq] at hr
            have d4 : DaAll C.K B4 us ds := (d2.mono k.bb).mono g4.bb
            refine .inr ⟨p, n, us, rfl, rfl, w4.sub _ _ (g4.bb _ _ upd_same), by omega, by omega, by rw [d4.len, sizeLine_eq]; omega, fun l hl2 => ?_⟩
            obtain ⟨k5, w5⟩ := gm_new w4 hl2 (VRs.all (m := m4) (daAll_rep d4 n.toNat))
            exact q4 _ _ _ _ k5 w5 (.r (by rw [← w4.len]; exact one_last _ _))
          · exact q4.elim
      · exact q1.elim
    · exact q1.elim
def litV : PyData → Option V
  | .str x => some (.str x)
  | .int i => some (.int i)
  | .bool b => some (.bl b)
  | _ => none
theorem lit_da {K : PySem.W.Frag} {B : Hp} : ∀ {ds : List PyData} {vs : List V}, mapO litV ds = some vs → DaAll K B vs ds
  | [], _, e => by unfold mapO at e; cases e; exact .nil
  | d :: ds, vs, e => by
    unfold mapO at e
    split at e
    · cases e
    · rename_i v ev
      split at e
      · cases e
      · rename_i ws ews
        cases e
        refine .cons ?_ (lit_da ews)
        unfold litV at ev
        split at ev
        · cases ev; exact .str _
        · cases ev; exact .int _
        · cases ev; exact .bl _
        · cases ev
def gtup (ds : List PyData) (vs : List V) (hv : mapO litV ds = some vs) : SE where
  ev := fun _ h => .ok (.d (.tuple ds)) h
  t := fun C _ => tGT C.K vs
  ok := fun C md ρ h σ B H m Q e w q a ha => q _ B H m (.refl w) w (.d (.tup (ha B) (lit_da hv)))
def dnew : SE where
  ev := fun _ h => .ok (.d (.dict [])) h
  t := fun _ _ => tDNewK
  ok := fun C md ρ h σ B H m Q e w q p hp => by
    have k := Gr.add w.sub hp (.dK [])
    exact q _ _ _ _ (.of w k) (w.gr k) (.d (.emp upd_same))
end SE
theorem daIn {K : PySem.W.Frag} {B : Hp} : ∀ ns : List Int, DaAll K B (ns.map V.int) (ns.map .int)
  | [] => .nil
  | n :: ns => .cons (.int n) (daIn ns)
theorem sort_ints_ok {K : PySem.W.Frag} {xs : List PyData} {z : PyData} (e : sortD xs = some z) : Fn K (rSortedI K) xs z := by
  unfold sortD at e
  split at e
  · simp only [Option.map_eq_some_iff] at e
    obtain ⟨ns, e1, rfl⟩ := e
    rw [intsOf_ok e1]
    intro B H s us hu Q q
    obtain ⟨u, rfl, h⟩ := da1 hu
    cases h with
    | lst h a =>
      obtain rfl := daInts a
      refine ⟨_, ns, rfl, same_l s h, fun ms p pm pw hp => ?_⟩
      rw [sortI_of pm pw]
      have k := Gr.add s hp (.lst ((sortI ns).map V.int))
      exact q _ _ _ k (.lst (.of upd_same) (daIn _))
  · cases e
def bSorted : ON := ⟨sortD, rSortedI, fun _ _ _ => sort_ints_ok⟩
theorem sortX {X : Cx} (K : PySem.W.Frag) {k : Nat} (hr : Room k X.A) (h : X.K = K := by rfl) : CallR X (.builtin "sorted") (rSortedI K) := h ▸ cr_sortedI
def lenSetD : PyData → Option PyData
  | .list xs => match intsOf xs with
    | some ns => if ns.length ≤ 4000 then some (.int ((disL ns).length : Nat)) else none
    | none => none
  | _ => none
def rLenSet (K : PySem.W.Frag) : V → Hp → VK → Prop := fun x H Q => ∃ (p : Addr) (ns : List Int), x = .ref p ∧ SqL K H p (ns.map V.int) ∧ ns.length ≤ 4000 ∧ Q (.int ((disL ns).length : Nat)) H
theorem lenSet_ok (K : PySem.W.Frag) (x z : PyData) (e : lenSetD x = some z) : Fn K (fun us H Q => ∃ u, us = [u] ∧ rLenSet K u H Q) [x] z := by
  unfold lenSetD at e
  split at e
  · split at e
    · rename_i ns e1
      split at e
      · rename_i hl
        cases e
        rw [intsOf_ok e1]
        intro B H s us hu Q q
        obtain ⟨u, rfl, h⟩ := da1 hu
        cases h with
        | lst h a =>
          obtain rfl := daInts a
          exact ⟨_, rfl, _, ns, rfl, same_l s h, hl, q _ B H (.refl s) (.int _)⟩
      · cases e
    · cases e
  · cases e
def oLenSet : O1 := ⟨lenSetD, rLenSet, lenSet_ok⟩
def SE.lenSet (a : SE) : SE := SE.un oLenSet a
theorem lenSetX {X : Cx} (K : PySem.W.Frag) {a : Expr} {ta : TE} {p p2 q pos : Pos} (hg : Gl X "len") (hm : X.mg "len" = none) (hg2 : Gl X "set") (hm2 : X.mg "set" = none) (ha : PE X a ta) (h : X.K = K := by rfl) (calm : X.calm = true := by rfl)
    (one : starEach [a] X.env = (false, eval a X.env) :: starEach [] X.env := by rfl) : PE X (.Call (.Name "len" p) [.Call (.Name "set" p2) [a] [] q] [] pos) (tUn (rLenSet K) ta) := by
  subst h
  exact pe_lenSetA hg hm hg2 hm2 ha calm one
def idxD : List PyData → PyData → Option Nat
  | [], _ => none
  | y :: ys, x => if PyData.eqv y x = true then some 0 else (idxD ys x).map (· + 1)
theorem idxD_ok : ∀ {ys : List PyData} {x : PyData} {j : Nat}, idxD ys x = some j → (∃ z, ys[j]? = some z ∧ PyData.eqv z x = true) ∧ ∀ (m : Nat) (z : PyData), m < j → ys[m]? = some z → PyData.eqv z x = false
  | [], _, _, e => by cases e
  | y :: ys, x, j, e => by
    unfold idxD at e
    split at e
    · rename_i h
      cases e
      exact ⟨⟨y, rfl, h⟩, fun m z hm => absurd hm (by omega)⟩
    · rename_i h
      simp only [Option.map_eq_some_iff] at e
      obtain ⟨i, ei, rfl⟩ := e
      obtain ⟨⟨z, h1, h2⟩, h3⟩ := idxD_ok ei
      refine ⟨⟨z, h1, h2⟩, fun m w hm hw => ?_⟩
      cases m with
      | zero =>
        cases hw
        simpa using h
      | succ m => exact h3 m w (by omega) hw
def indexD : PyData → PyData → Option PyData
  | .list ys, x => if (SeqAt.shaped (.list ys) && SeqAt.shaped x) = true then (idxD ys x).map fun j => .int (j : Nat) else none
  | _, _ => none
def rIx (K : PySem.W.Frag) : R2 := fun u v H Q => rIndexD K u [v] H Q
theorem index_ok {K : PySem.W.Frag} {x y z : PyData} (e : indexD x y = some z) : Op2 K (rIx K) x y z := by
  unfold indexD at e
  split at e
  · split at e
    · rename_i hs
      simp only [Bool.and_eq_true] at hs
      simp only [Option.map_eq_some_iff] at e
      obtain ⟨j, ej, rfl⟩ := e
      obtain ⟨⟨w, h1, h2⟩, h3⟩ := idxD_ok ej
      intro B H s u v hu hv Q q
      have d1 := (hu.mono s).dp _ (nd_shaped hs.1)
      have d2 := (hv.mono s).dp _ (nd_shaped hs.2)
      cases hu with
      | lst h a => exact ⟨_, v, y, _, j, w, rfl, rfl, d1, d2, hs.1, hs.2, h1, h2, h3, q _ B H (.refl s) (.int _)⟩
    · cases e
  · cases e
def oIndex : O2 := ⟨indexD, rIx, fun _ _ _ _ => index_ok⟩
def isL (h : Hd) : Vd → Bool
  | .d (.list _) => true
  | .r n => match h[n]? with
    | some (.lst _) => true
    | _ => false
  | _ => false
theorem isL_ty {K : PySem.W.Frag} {B H : Hp} {m : List Addr} {h : Hd} {x : Vd} {v : V} (e : isL h x = true) (w : WOk K B H m h) (r : VR K B m x v) : tyV K "list" v H := by
  cases r with
  | d dv =>
    cases dv with
    | lst hq a => exact .inl ⟨rfl, _, same_l w.sub hq⟩
    | _ => simp [isL] at e
  | @r n a p =>
    change (match h[n]? with | some (Ent.lst _) => true | _ => false) = true at e
    cases c : h[n]? with
    | none => rw [c] at e; cases e
    | some o =>
      rw [c] at e
      cases o with
      | lst xs =>
        obtain ⟨_, vs, hv, _⟩ := own_at w p c
        exact .inl ⟨rfl, _, .of hv⟩
      | frz d => cases e
      | nod _ _ => cases e
      | jnk => cases e
      | err _ => cases e
      | dct _ => cases e
def SE.index (o a : SE) : SE where
  ev := fun ρ h => (o.ev ρ h).bind fun x h1 => if isL h1 x = true then (a.ev ρ h1).bind fun y h2 => fnV (f2 indexD) [x, y] h2 else .no
  t := fun C md => tBM C.K "list" (rIndexD C.K) (o.t C md) (tCons (a.t C md) tNil)
  ok := fun C md ρ h σ B H m Q e w q => by
    refine o.ok C md ρ h σ B H m _ e w (Po.chain w q fun x h1 u B1 H1 m1 ea g1 w1 r1 q1 => ?_)
    split at q1
    · rename_i hl
      refine ⟨isL_ty hl w1 r1, ?_⟩
      refine a.ok C md ρ h1 σ B1 H1 m1 _ (e.gm g1) w1 (Po.chain w1 q1 fun y h2 v B2 H2 m2 eb g2 w2 r2 q2 => ?_)
      obtain ⟨u', v', e', z⟩ := fnV_ok (oIndex.fn C.K) w2 (.cons (r1.gm g2) (.cons r2 .nil)) q2
      cases e'
      exact z
    · exact q1.elim
theorem bmK {X : Cx} (K : PySem.W.Frag) {o e : Expr} {es : List Expr} {to : TE} {t : TA} {name : Str} {apos cpos : Pos} {T id : String} {r : V → List V → Hp → VK → Prop} (pa : PlainAttrs T) (slot : Slot T name id) (hty : typeOf (.builtin id) = pure (.type "method_descriptor")) (hm : MtR X id r) (ho : PE X o to) (ha : PA X (e :: es) t) (h : X.K = K := by rfl)
    (hbase : attributeBase o name X.env (eval o X.env) = eval o X.env := by rfl)
    (hfew : ((backTo cpos (starEach (e :: es) X.env)).all (fun x => !x.1) && (backToKw cpos (keywordEach [] X.env)).all (fun x => x.1.isSome)
      && decide ((e :: es).length + ([] : List Keyword).length + (if ([] : List Keyword).isEmpty then 0 else 1) < 30)) = true := by rfl)
    (hline : (apos.endLine == cpos.line) = true := by rfl) (hs : starEach (e :: es) X.env = (false, eval e X.env) :: starEach es X.env := by rfl) (hplain : (backTo cpos (starEach es X.env)).any (·.1) = false := by rfl) :
    PE X (.Call (.Attribute o name apos) (e :: es) [] cpos) (tBM K T r to t) := h ▸ pe_bm pa slot hty hm ho ha hbase hfew hline hs hplain
end N
end
section
set_option maxRecDepth 100000
set_option maxHeartbeats 2000000
namespace N
open PySem PySem.Spec PyProof.Rows L2 G
theorem permL_vals {vs : List V} {us : List Value} (r : Vals vs us) : ∀ is : List Nat, Vals (permL is vs) (permL is us)
  | [] => .nil
  | i :: is => by
    unfold permL
    rw [List.filterMap_cons, List.filterMap_cons]
    cases c : vs[i]? with
    | some x =>
      obtain ⟨v, e1, e2⟩ := r.get c
      rw [e1]
      exact .cons e2 (permL_vals r is)
    | none =>
      rw [r.none_of c]
      exact permL_vals r is
theorem kwgI_rel (is : List Nat) {vs : List V} {us : List Value} {zs : List V} {ws : List Value} (r : Vals vs us) (q : Vals zs ws) : Vals (kwgI is vs zs) (kwgI is us ws) := by
  cases r with
  | nil =>
    rw [kwgI_nil, kwgI_nil, q.length]
    split
    · exact permL_vals q is
    · exact .nil
  | cons _ _ => exact .nil
theorem law_sp {C : Ctx} {F : FSem} {H : Hp} {a : Addr} {ns : List Int} (hS : SqL C.K H a (ns.map V.int)) (good : FD F [.list (ns.map .int)] = some (.bool true)) : spN C false F [.ref a] H (fun v _ => v = .bl true) fun _ _ _ => False :=
  fd_fn good H H (Same.refl _) [.ref a] (.cons (.lst hS (daIn ns)) .nil) _ fun v B' H' g d => by cases d; rfl
theorem has_m {P : Program} {w : World} {C : Ctx} {mg : Str → Option Value} {base : Heap} {x : Str} {st : Stmt} {N ps : List Str} {k : Nat} {body : SS} (h : Has C.K mg x st ps) (S : FnScope N ps (defScope st))
    (hb : ∀ (f : Addr) (cdv : Value) (A : Around) (outer : List Env) (s : Shared) (H : Hp) (E : XK), A.guards = some [] → Room k (A.deeper (envOfC x (defScope st) s.heap.objs.size f cdv)) →
      ∃ t, PSs (bodyCx CX0 P w C.K mg base N x st f cdv A outer s H E).nox (defBody st) t ∧ t = body.t C none) : Cal P w C.K mg base (k + 1) x ps (spN C false (runDef body N.length ps.length)) :=
  has_n h S fun f cdv A outer s H E hg hr => by
    obtain ⟨t, ht, e⟩ := hb f cdv A outer s H E hg hr
    rw [← e]
    exact ht
end N
end
section
set_option maxRecDepth 100000
set_option maxHeartbeats 2000000
namespace G
open PySem PySem.Spec PyProof.Rows L2
def tRevTo (K : PySem.W.Frag) (te : TE) (to : TO) : TE := fun σ H Q => te σ H fun x H1 => to σ H1 fun o H2 => ∃ a xs, ∃ i : Nat, x = .ref a ∧ o = some (i : Int) ∧ SqL K H2 a xs ∧ i < xs.length ∧ ∀ p, H2 p = none → Q (.ref p) (upd H2 p (.lst (xs.drop (i + 1)).reverse))
end G
namespace N
open PySem PySem.Spec PyProof.Rows L2 G
namespace SE
def revTo (a : SE) (hi : SO) : SE where
  ev := fun ρ h => (a.ev ρ h).bind fun x h1 => (hi.ev ρ h1).bind fun u h2 => match u with
    | some i => if 0 ≤ i then (match itemsD h2 x with
      | some ds => if i.toNat < ds.length then .ok (.d (.list (ds.drop (i.toNat + 1)).reverse)) h2 else .no
      | Option.none => .no) else .no
    | Option.none => .no
  t := fun C md => tRevTo C.K (a.t C md) (hi.t C md)
  ok := fun C md ρ h σ B H m Q e w q => by
    refine a.ok C md ρ h σ B H m _ e w (Po.chain w q fun x h1 v B1 H1 m1 ea g1 w1 r1 q1 => ?_)
    refine hi.ok C md ρ h1 σ B1 H1 m1 _ (e.gm g1) w1 (Po.chain w1 q1 fun u h2 u' B2 H2 m2 el g2 w2 r2 q2 => ?_)
    cases r2
    have r1' := VR.gm r1 g2
    split at q2
    · rename_i i
      split at q2
      · rename_i h0
        split at q2
        · rename_i ds ei
          split at q2
          · rename_i hl
            obtain ⟨a, vs, rfl, hv, a1⟩ := itemsD_ok w2 ei r1'
            refine ⟨a, vs, i.toNat, rfl, by rw [Int.toNat_of_nonneg h0], hv, by rw [a1.len]; exact hl, fun p hp => ?_⟩
            have k := Gr.add w2.sub hp (.lst (vs.drop (i.toNat + 1)).reverse)
            exact q2 _ _ _ _ (.of w2 k) (w2.gr k) (.d (.lst (.of upd_same) ((DaAll.drop _ a1).rev.mono k.bb)))
          · exact q2.elim
        · exact q2.elim
      · exact q2.elim
    · exact q2.elim
end SE
namespace SG
def lst (ts : SGs) : SG where
  run := fun x ρ h => match x with
    | .d (.list ds) => if ds.length = ts.n then ts.run ds ρ h else .no
    | _ => .no
  t := fun C md => gLst C.K ts.n (ts.t C md)
  ok := fun C md ρ h σ B H m x v D e w r q => by
    split at q
    · rename_i ds
      split at q
      · rename_i hl
        cases r with
        | d r =>
          cases r with
          | lst h1 a => exact ⟨_, _, rfl, same_l w.sub h1, by rw [a.len]; exact hl, ts.ok C md ρ h σ B H m ds _ D e w a q hl⟩
      · exact q.elim
    · exact q.elim
end SG
namespace SE
def repO (a b : SE) : SE where
  ev := fun ρ h => (a.ev ρ h).bind fun x h1 => (b.ev ρ h1).bind fun y h2 => match ownL h2 x, y with
    | some (_, xs), .d (.int k) => match datas xs with
      | some ds => if (decide (ds.length ≤ 1000000) && repOk ds.length k) = true then .ok (.d (.list (List.replicate k.toNat ds).flatten)) h2 else .no
      | Option.none => .no
    | _, _ => .no
  t := fun C md => tOp rMulA (a.t C md) (b.t C md)
  ok := fun C md ρ h σ B H m Q e w q => by
    refine a.ok C md ρ h σ B H m _ e w (Po.chain w q fun x h1 u B1 H1 m1 ea g1 w1 r1 q1 => ?_)
    refine b.ok C md ρ h1 σ B1 H1 m1 _ (e.gm g1) w1 (Po.chain w1 q1 fun y h2 v B2 H2 m2 eb g2 w2 r2 q2 => ?_)
    split at q2
    · rename_i n xs k eo
      obtain ⟨rfl, eo'⟩ := ownL_ok eo
      split at q2
      · rename_i ds ed
        split at q2
        · rename_i hr
          cases r1 with
          | r p1 =>
            cases r2 with
            | d r2 =>
              cases r2
              have p2 := gm_at g2 p1
              obtain ⟨nB, vs, hv, rs⟩ := own_at w2 p2 eo'
              rw [datas_ok ed] at rs
              have da := rs.data
              unfold repOk at hr
              simp only [Bool.and_eq_true, decide_eq_true_eq] at hr
              refine .inr ⟨_, k, vs, rfl, rfl, hv, by omega, by omega, by rw [da.len, sizeLine_eq]; omega, fun l hl2 => ?_⟩
              have k5 := Gr.add w2.sub hl2 (.lst (List.replicate k.toNat vs).flatten)
              exact q2 _ _ _ _ (.of w2 k5) (w2.gr k5) (.d (.lst (.of upd_same) ((daAll_rep da _).mono k5.bb)))
        · exact q2.elim
      · exact q2.elim
    · exact q2.elim
end SE
namespace SE
def extend (o a : SE) : SE where
  ev := fun ρ h => (o.ev ρ h).bind fun x h1 => match ownL h1 x with
    | some _ => (a.ev ρ h1).bind fun y h2 => match ownL h2 x, ownL h2 y with
      | some (n, xs), some (_, zs) => if xs.length + zs.length ≤ 1000000 then .ok (.d .none) (h2.set n (.lst (xs ++ zs))) else .no
      | _, _ => .no
    | none => .no
  t := fun C md => tBM C.K "list" rExtend (o.t C md) (tCons (a.t C md) tNil)
  ok := fun C md ρ h σ B H m Q e w q => by
    refine o.ok C md ρ h σ B H m _ e w (Po.chain w q fun x h1 u B1 H1 m1 ea g1 w1 r1 q1 => ?_)
    split at q1
    · rename_i nx0 e0
      obtain ⟨rfl, e0'⟩ := ownL_ok e0
      cases r1 with
      | r p1 =>
        obtain ⟨_, vs0, hv0, _⟩ := own_at w1 p1 e0'
        refine ⟨.inl ⟨rfl, _, .of hv0⟩, ?_⟩
        refine a.ok C md ρ h1 σ B1 H1 m1 _ (e.gm g1) w1 (Po.chain w1 q1 fun y h2 v B2 H2 m2 eb g2 w2 r2 q2 => ?_)
        split at q2
        · rename_i n xs k zs e2 e3
          obtain ⟨en, e2'⟩ := ownL_ok e2
          obtain ⟨em, e3'⟩ := ownL_ok e3
          cases en
          subst em
          split at q2
          · rename_i hl
            cases r2 with
            | r pk =>
              have p2 := gm_at g2 p1
              obtain ⟨nB, vs, hv, rs⟩ := own_at w2 p2 e2'
              obtain ⟨nB3, vs3, hv3, rs3⟩ := own_at w2 pk e3'
              refine ⟨_, _, vs, vs3, rfl, rfl, hv, hv3, by rw [rs.len, rs3.len, sizeLine_eq]; omega, ?_⟩
              obtain ⟨k, w3⟩ := wok_put w2 p2 nB (rs.app rs3)
              exact q2 _ _ _ _ k w3 (.d .non)
          · exact q2.elim
        · exact q2.elim
    · exact q1.elim
end SE
theorem pg_cal0 {X : Cx} {j k : Nat} {x : Str} {ps : List Str} {q : Sp} {p pos : Pos} (hg : X.A.guards = some []) (c : Cal X.prog X.w X.K X.mg X.base j x ps q) (hr : Room k X.A) (hgl : Gl X x) (hj : j ≤ k := by decide)
    (hdb : (x == ("__debug__" : Str)) = false := by decide) : PE X (.Call (.Name x p) [] [] pos) (tCall q [] E0 tNil) := by
  obtain ⟨f, fd, hm, hk, hb, F⟩ := c.ex
  exact pg_call0 hg F (hr.mono hj) hgl hm hk.1 hb .nil pass0 hdb
end N
end
section
set_option maxRecDepth 100000
set_option maxHeartbeats 4000000
namespace N
open PySem PySem.Spec PyProof.Rows L2 G
theorem w_it {J : It} {n : Nat} {G : Hp → Prop} {Y : Nat → Hp → V → Hp → Prop} (w : Walk J n G Y) {Step : V → Hp → (Hp → Prop) → Prop} {H0 : Hp} {Qd : Hp → Prop} (Pv : Nat → Hp → Prop) (h0 : Pv 0 H0) (hG : ∀ i H, i ≤ n → Pv i H → G H)
    (hs : ∀ i x H H', i < n → Pv i H → Y i H x H' → Step x H' (Pv (i + 1))) (hd : ∀ H, Pv n H → Qd H) :
    ∃ W : Nat → Nat → Hp → Prop, (∃ m, W 0 m H0) ∧ ∀ i m H, W i m H →
      (J.stop i H ∧ Qd H) ∨ (J.go i H ∧ ∃ Nx : Hp → Prop, (∀ H', Nx H' → ∃ m', m' < m ∧ W (i + 1) m' H') ∧ ∀ x H', J.yld i H x H' → Step x H' Nx) := by
  refine ⟨fun i m H => m = n - i ∧ i ≤ n ∧ Pv i H, ⟨n, by simp, Nat.zero_le _, h0⟩, ?_⟩
  rintro i m H ⟨rfl, hi, p⟩
  have q := hG i H hi p
  by_cases hlt : i < n
  · exact .inr ⟨w.goes i H hlt q, Pv (i + 1), fun H' p' => ⟨n - (i + 1), by omega, rfl, hlt, p'⟩, fun x H' y => hs i x H H' hlt p (w.yields i H x H' hlt q y)⟩
  · have e : i = n := by omega
    subst e
    exact .inl ⟨w.stops H q, hd H p⟩
def lcR2 (put : Vd → Rh → Option Rh) (c : Rh → Hd → Oc Bool) (it1 : Rh → Hd → Oc (List PyData)) (put1 : Vd → Rh → Option Rh) (vs1 : List Nat) (c1 : Rh → Hd → Oc Bool) (g : Rh → Hd → Oc Vd) (ρ : Rh) : List PyData → List Vd → Hd → Oc (List Vd)
  | [], out, h => .ok out h
  | x :: xs, out, h => match put (.d x) ρ with
    | none => .no
    | some ρ1 => match c ρ1 h with
      | .ok true h1 => match it1 ρ1 h1 with
        | .ok es1 h2 => if es1.length ≤ 1000000 then (match lcR put1 c1 g (wipeN ρ1 vs1) es1 out h2 with
            | .ok out1 h3 => if out1.length ≤ 1000000 then lcR2 put c it1 put1 vs1 c1 g ρ xs out1 h3 else .no
            | _ => .no) else .no
        | _ => .no
      | .ok false h1 => lcR2 put c it1 put1 vs1 c1 g ρ xs out h1
      | _ => .no
theorem lc2_go (it : SI) (tg : ST) (c : SB) (it1 : SI) (tg1 : ST) (c1 : SB) (g : SE) {C : Ctx} {md : Md} {ρ : Rh} {h : Hd} {σ : L2.St} {B H : Hp} {m : List Addr} {Q : VK} {es : List PyData} {h1 : Hd} {out : List Vd} {h2 : Hd}
    (vs : List Nat) (hv : ∀ ρ' : Rh, True)
    (e : EnvN C.K B m σ ρ) (w : WOk C.K B H m h) (ei : it.ev ρ h = .ok es h1) (hz : es.length ≤ 1000000) (el : lcR2 tg.put c.ev it1.ev tg1.put tg1.vs c1.ev g.ev (wipeN ρ vs) es [] h1 = .ok out h2)
    (agv : ∀ σ σ' : L2.St, Ag tg.vs σ σ' → Ag vs σ σ')
    (q : ∀ D B2 H2 m2 xs, Gm m B H B2 H2 m2 → WOk C.K B2 H2 m2 h2 → H D = none → B2 D = none → D ∉ m2 → H2 D = some (.lst xs) → VRs C.K B2 m2 out xs → Q (.ref D) H2) :
    tLc2 (it.t C md) (tg.t C) (c.t C none) (it1.t C none) (tg1.t C) (c1.t C none) (g.t C none) vs tg1.vs σ H Q := by
  refine it.ok C md ρ h σ B H m _ e w ?_
  rw [ei]
  intro J B1 H1 m1 g1 w1 gj D hD
  have hD0 : H D = none := by
    cases x : H D with
    | none => rfl
    | some u => exact absurd hD (g1.kp D (by rw [x]; simp))
  refine w_it gj (fun i H' => ∃ B' m' h' ys xs, Gm m1 B1 H1 B' H' m' ∧ WOk C.K B' H' m' h' ∧ B' D = none ∧ D ∉ m' ∧ H' D = some (.lst xs) ∧ VRs C.K B' m' ys xs ∧ ys.length ≤ 1000000 ∧ lcR2 tg.put c.ev it1.ev tg1.put tg1.vs c1.ev g.ev (wipeN ρ vs) (es.drop i) ys h' = .ok out h2) ?_ (fun i H' _ ⟨B', m', h', ys, xs, g2, w2, _⟩ => g2.bb.trans w2.sub) ?_ ?_
  · have nm : D ∉ m1 := fun z => w1.tracked z hD
    have k := Gr.side w1.sub hD (.lst [])
    exact ⟨B1, m1, h1, [], [], .of w1 k, w1.gr k, w1.sub.free hD, nm, upd_same, .nil, Nat.zero_le _, el⟩
  · rintro i x H' H2' hi ⟨B', m', h', ys, xs, g2, w2, nB, nm, hH, rs, hl, el'⟩ y
    obtain ⟨B2, x', g3, hx', dx⟩ := y B' g2.bb w2.sub
    have ed : es.drop i = x' :: es.drop (i + 1) := by
      have li := (List.getElem?_eq_some_iff.mp hx')
      obtain ⟨l1, l2⟩ := li
      rw [List.drop_eq_getElem_cons l1, l2]
    rw [ed] at el'
    unfold lcR2 at el'
    have G3 : Gm m' B' H' B2 H2' m' := .of w2 g3
    have w3 := w2.gr g3
    have hHn : H' D ≠ none := by rw [hH]; simp
    have nB2 := gm_B G3 nm hHn nB
    have hH2 : H2' D = some (.lst xs) := g3.ex _ _ hH
    have hn2 : H2' D ≠ none := by rw [hH2]; simp
    split at el'
    · cases el'
    · rename_i ρ1 ep
      have e1 : EnvN C.K B2 m' (L2.wipe σ vs) (wipeN ρ vs) := (((e.gm g1).gm g2).gm G3).wiped vs
      refine tg.ok C (.d x') x _ _ ρ1 B2 H2' m' (.d dx) e1 w3.sub ep _ fun σ2 e2 ag => ⟨(agv _ _ ag).wipe, ?_⟩
      split at el'
      · rename_i ha ef
        refine c.ok C none ρ1 h' σ2 B2 H2' m' _ e2 w3 ?_
        rw [ef]
        intro b B3 H3 m3 g4 w4 rb
        obtain rfl : true = b := rb
        refine iteT ?_
        have nm3 := gm_out g4 nm hn2
        have nB3 := gm_B g4 nm hn2 nB2
        have hH3 : H3 D = some (.lst xs) := g4.ex _ _ nm hH2
        have hn3 : H3 D ≠ none := by rw [hH3]; simp
        split at el'
        · rename_i es1 hb ei1
          split at el'
          · rename_i hz1
            split at el'
            · rename_i out1 h3 er
              split at el'
              · rename_i ho
                refine it1.ok C none ρ1 ha σ2 B3 H3 m3 _ (e2.gm g4) w4 ?_
                rw [ei1]
                intro J1 B4 H4 m4 g5 w5 gj1
                have nm4 := gm_out g5 nm3 hn3
                have nB4 := gm_B g5 nm3 hn3 nB3
                have hH4 : H4 D = some (.lst xs) := g5.ex _ _ nm3 hH3
                have rs4 := ((rs.gm G3).gm g4).gm g5
                refine w_it gj1 (fun j H5 => ∃ B5 m5 h5 ys5 xs5, (Gm m1 B1 H1 B5 H5 m5 ∧ EnvN C.K B5 m5 σ2 ρ1 ∧ Same B4 B5) ∧ WOk C.K B5 H5 m5 h5 ∧ B5 D = none ∧ D ∉ m5 ∧ H5 D = some (.lst xs5) ∧ VRs C.K B5 m5 ys5 xs5 ∧ ys5.length ≤ 1000000 + j ∧ lcR tg1.put c1.ev g.ev (wipeN ρ1 tg1.vs) (es1.drop j) ys5 h5 = .ok out1 h3) ?_ (fun i H' _ ⟨B', m', h', ys, xs, g2, w2, _⟩ => g2.2.2.trans w2.sub) ?_ ?_
                · exact ⟨B4, m4, hb, ys, xs, ⟨g2.trans w1 (G3.trans w2 (g4.trans w3 g5)), (e2.gm g4).gm g5, .refl _⟩, w5, nB4, nm4, hH4, rs4, hl, er⟩
                · rintro j y5 H5 H6 hj ⟨B5, m5, h5, ys5, xs5, ⟨k2, en, sb⟩, u2, nB5, nm5, hH5, rs5, hl5, el5⟩ yy
                  obtain ⟨B6, y', k3, hy', dy⟩ := yy B5 sb u2.sub
                  have ed5 : es1.drop j = y' :: es1.drop (j + 1) := by
                    have li := (List.getElem?_eq_some_iff.mp hy')
                    obtain ⟨l1, l2⟩ := li
                    rw [List.drop_eq_getElem_cons l1, l2]
                  rw [ed5] at el5
                  unfold lcR at el5
                  have K3 : Gm m5 B5 H5 B6 H6 m5 := .of u2 k3
                  have u3 := u2.gr k3
                  have hHn5 : H5 D ≠ none := by rw [hH5]; simp
                  have nB6 := gm_B K3 nm5 hHn5 nB5
                  have hH6 : H6 D = some (.lst xs5) := k3.ex _ _ hH5
                  have hn6 : H6 D ≠ none := by rw [hH6]; simp
                  split at el5
                  · cases el5
                  · rename_i ρ5 ep5
                    have f1 : EnvN C.K B6 m5 (L2.wipe σ2 tg1.vs) (wipeN ρ1 tg1.vs) := (en.gm K3).wiped tg1.vs
                    refine tg1.ok C (.d y') y5 _ _ ρ5 B6 H6 m5 (.d dy) f1 u3.sub ep5 _ fun σ5 f2 ag5 => ⟨ag5.wipe, ?_⟩
                    split at el5
                    · rename_i hc5 ef5
                      refine c1.ok C none ρ5 h5 σ5 B6 H6 m5 _ f2 u3 ?_
                      rw [ef5]
                      intro b5 B7 H7 m7 k4 u4 rb5
                      obtain rfl : true = b5 := rb5
                      refine iteT ?_
                      split at el5
                      · rename_i z hd5 eg
                        refine g.ok C none ρ5 hc5 σ5 B7 H7 m7 _ (f2.gm k4) u4 ?_
                        rw [eg]
                        intro v B8 H8 m8 k5 u5 rv
                        have nm7 := gm_out k4 nm5 hn6
                        have nB7 := gm_B k4 nm5 hn6 nB6
                        have hH7 : H7 D = some (.lst xs5) := k4.ex _ _ nm5 hH6
                        have hn7 : H7 D ≠ none := by rw [hH7]; simp
                        have nm8 := gm_out k5 nm7 hn7
                        have nB8 := gm_B k5 nm7 hn7 nB7
                        have hH8 : H8 D = some (.lst xs5) := k5.ex _ _ nm7 hH7
                        have lx := rs5.len
                        have lj : j < 1000000 := by
                          have := (List.getElem?_eq_some_iff.mp hy').1
                          omega
                        have KK := K3.trans u2 (k4.trans u3 k5)
                        exact ⟨xs5, hH8, by rw [sizeLine_eq]; omega, B8, m8, hd5, ys5 ++ [z], xs5 ++ [v], ⟨gm_upd (k2.trans w1 KK) hD _, ((en.gm K3).gm k4).gm k5, sb.trans KK.bb⟩, wok_upd u5 nm8 nB8 _, nB8, nm8, upd_same, (((rs5.gm K3).gm k4).gm k5).app (.cons rv .nil), by rw [List.length_append]; simp; omega, el5⟩
                      · cases el5
                    · rename_i hc5 ef5
                      refine c1.ok C none ρ5 h5 σ5 B6 H6 m5 _ f2 u3 ?_
                      rw [ef5]
                      intro b5 B7 H7 m7 k4 u4 rb5
                      obtain rfl : false = b5 := rb5
                      refine iteF ?_
                      exact ⟨B7, m7, hc5, ys5, xs5, ⟨k2.trans w1 (K3.trans u2 k4), (en.gm K3).gm k4, sb.trans (K3.trans u2 k4).bb⟩, u4, gm_B k4 nm5 hn6 nB6, gm_out k4 nm5 hn6, k4.ex _ _ nm5 hH6, (rs5.gm K3).gm k4, by omega, el5⟩
                    · cases el5
                · rintro H5 ⟨B5, m5, h5, ys5, xs5, ⟨k2, _, _⟩, u2, nB5, nm5, hH5, rs5, _, el5⟩
                  rw [List.drop_length] at el5
                  unfold lcR at el5
                  cases el5
                  exact ⟨B5, m5, h3, out1, xs5, k2, u2, nB5, nm5, hH5, rs5, ho, el'⟩
              · cases el'
            · cases el'
          · cases el'
        · cases el'
      · rename_i ha ef
        refine c.ok C none ρ1 h' σ2 B2 H2' m' _ e2 w3 ?_
        rw [ef]
        intro b B3 H3 m3 g4 w4 rb
        obtain rfl : false = b := rb
        refine iteF ?_
        exact ⟨B3, m3, ha, ys, xs, g2.trans w1 (G3.trans w2 g4), w4, gm_B g4 nm hn2 nB2, gm_out g4 nm hn2, g4.ex _ _ nm hH2, (rs.gm G3).gm g4, hl, el'⟩
      · cases el'
  · rintro H' ⟨B', m', h', ys, xs, g2, w2, nB, nm, hH, rs, _, el'⟩
    rw [List.drop_length] at el'
    unfold lcR2 at el'
    cases el'
    exact q D B' H' m' xs (g1.trans w g2) w2 hD0 nB nm hH rs
theorem ag_mono {vs ws : List Nat} (h : ∀ i ∈ vs, i ∈ ws) {σ σ' : L2.St} (a : Ag vs σ σ') : Ag ws σ σ' := ⟨a.1, fun i hi => a.2 i fun z => hi (h i z)⟩
namespace SE
def lc2 (vs : List Nat) (it : SI) (tg : ST) (c : SB) (it1 : SI) (tg1 : ST) (c1 : SB) (g : SE) (hs : ∀ i ∈ tg.vs, i ∈ vs) : SE where
  ev := fun ρ h => (it.ev ρ h).bind fun es h1 => if es.length ≤ 1000000 then match lcR2 tg.put c.ev it1.ev tg1.put tg1.vs c1.ev g.ev (wipeN ρ vs) es [] h1 with
      | .ok out h2 => match frzL h2 out with
        | some (ds, h3) => .ok (.d (.list ds)) h3
        | none => .no
      | _ => .no
    else .no
  t := fun C md => tLc2 (it.t C md) (tg.t C) (c.t C none) (it1.t C none) (tg1.t C) (c1.t C none) (g.t C none) vs tg1.vs
  ok := fun C md ρ h σ B H m Q e w q => by
    cases ei : it.ev ρ h with
    | no => rw [ei] at q; exact q.elim
    | ex c' x h1 =>
      rw [ei] at q
      refine it.ok C md ρ h σ B H m _ e w ?_
      rw [ei]
      exact q
    | ok es h1 =>
      rw [ei] at q
      dsimp only [Oc.bind] at q
      split at q
      · rename_i hz
        split at q
        · rename_i out h2 el
          split at q
          · rename_i ds h3 ef
            refine lc2_go it tg c it1 tg1 c1 g vs (fun _ => trivial) e w ei hz el (fun _ _ a => ag_mono hs a) fun D B2 H2 m2 xs g2 w2 h0 nB nm hD rs => ?_
            obtain ⟨B3, g3, w3, d3⟩ := frzL_ok w2 ef rs
            have hn : H2 D ≠ none := by rw [hD]; simp
            obtain ⟨k, w4, d4⟩ := gm_let (g2.trans w g3) w3 h0 (gm_B g3 nm hn nB) nm hD d3
            exact q _ _ _ _ k w4 (.d d4)
          · exact q.elim
        · exact q.elim
      · exact q.elim
def lc2M (vs : List Nat) (it : SI) (tg : ST) (c : SB) (it1 : SI) (tg1 : ST) (c1 : SB) (g : SE) (hs : ∀ i ∈ tg.vs, i ∈ vs) : SE where
  ev := fun ρ h => (it.ev ρ h).bind fun es h1 => if es.length ≤ 1000000 then match lcR2 tg.put c.ev it1.ev tg1.put tg1.vs c1.ev g.ev (wipeN ρ vs) es [] h1 with
      | .ok out h2 => .ok (.r h2.length) (h2 ++ [.lst out])
      | _ => .no
    else .no
  t := fun C md => tLc2 (it.t C md) (tg.t C) (c.t C none) (it1.t C none) (tg1.t C) (c1.t C none) (g.t C none) vs tg1.vs
  ok := fun C md ρ h σ B H m Q e w q => by
    cases ei : it.ev ρ h with
    | no => rw [ei] at q; exact q.elim
    | ex c' x h1 =>
      rw [ei] at q
      refine it.ok C md ρ h σ B H m _ e w ?_
      rw [ei]
      exact q
    | ok es h1 =>
      rw [ei] at q
      dsimp only [Oc.bind] at q
      split at q
      · rename_i hz
        split at q
        · rename_i out h2 el
          refine lc2_go it tg c it1 tg1 c1 g vs (fun _ => trivial) e w ei hz el (fun _ _ a => ag_mono hs a) fun D B2 H2 m2 xs g2 w2 h0 nB nm hD rs => ?_
          obtain ⟨k, w4⟩ := gm_own g2 w2 h0 nB nm hD rs
          exact q _ _ _ _ k w4 (.r (by rw [← w2.len]; exact one_last _ _))
        · exact q.elim
      · exact q.elim
end SE
end N
end
section
set_option maxRecDepth 100000
set_option maxHeartbeats 2000000
namespace N
open PySem PySem.Spec PyProof.Rows L2 G
namespace SE
def sortedM (a : SE) : SE where
  ev := fun ρ h => (a.ev ρ h).bind fun x h1 => match itemsD h1 x with
    | some ds => match intsOf ds with
      | some ns => .ok (.r h1.length) (h1 ++ [.lst (((sortI ns).map .int).map .d)])
      | Option.none => .no
    | Option.none => .no
  t := fun C md => tCB (rSortedI C.K) (tCons (a.t C md) tNil)
  ok := fun C md ρ h σ B H m Q e w q => by
    refine a.ok C md ρ h σ B H m _ e w (Po.chain w q fun x h1 v B1 H1 m1 ea g1 w1 r1 q1 => ?_)
    split at q1
    · rename_i ds ei
      split at q1
      · rename_i ns en
        obtain ⟨b, vs, rfl, hv, da⟩ := itemsD_ok w1 ei r1
        rw [intsOf_ok en] at da
        obtain rfl := daInts da
        refine ⟨_, ns, rfl, hv, fun ms p pm pw hp => ?_⟩
        rw [sortI_of pm pw]
        obtain ⟨k, w2⟩ := gm_new w1 hp (VRs.all (m := m1) (daIn (K := C.K) (B := B1) (sortI ns)))
        exact q1 _ _ _ _ k w2 (.r (by rw [← w1.len]; exact one_last _ _))
      · exact q1.elim
    · exact q1.elim
end SE
end N
end
section
set_option maxRecDepth 100000
set_option maxHeartbeats 2000000
namespace N
open PySem PySem.Spec PyProof.Rows L2 G
def intsV : List Vd → Option (List Int)
  | [] => some []
  | .d (.int i) :: xs => (intsV xs).map (i :: ·)
  | _ => none
theorem intsV_eq : ∀ {xs : List Vd} {ns : List Int}, intsV xs = some ns → xs = (ns.map PyData.int).map .d
  | [], ns, e => by cases e; rfl
  | x :: xs, ns, e => by
    cases x with
    | d x =>
      cases x with
      | int i =>
        unfold intsV at e
        cases q : intsV xs with
        | none => rw [q] at e; cases e
        | some ms =>
          rw [q] at e
          cases e
          rw [intsV_eq q]
          rfl
      | _ => cases e
    | _ => cases e
def findI (k : Int) : List Int → Option Nat
  | [] => none
  | n :: ns => if n = k then some 0 else (findI k ns).map (· + 1)
theorem findI_eq {k : Int} : ∀ {ns : List Int} {j : Nat}, findI k ns = some j → ns[j]? = some k ∧ ∀ m, m < j → ns[m]? ≠ some k
  | [], j, e => by cases e
  | n :: ns, j, e => by
    unfold findI at e
    by_cases c : n = k
    · rw [if_pos c] at e
      cases e
      exact ⟨by rw [c]; rfl, fun m h => absurd h (Nat.not_lt_zero m)⟩
    · rw [if_neg c] at e
      cases q : findI k ns with
      | none => rw [q] at e; cases e
      | some i =>
        rw [q] at e
        cases e
        obtain ⟨h1, h2⟩ := findI_eq q
        refine ⟨h1, fun m hm => ?_⟩
        cases m with
        | zero => exact fun z => c (Option.some.inj z)
        | succ m => exact h2 m (by have hm2 : m + 1 < i + 1 := hm; omega)
namespace SE
def removeI (o a : SE) : SE where
  ev := fun ρ h => (o.ev ρ h).bind fun x h1 => match ownL h1 x with
    | some _ => (a.ev ρ h1).bind fun y h2 => match ownL h2 x, y with
      | some (n, xs), .d (.int i) => match intsV xs with
        | some ns => match findI i ns with
          | some j => .ok (.d .none) (h2.set n (.lst (xs.eraseIdx j)))
          | none => .no
        | none => .no
      | _, _ => .no
    | none => .no
  t := fun C md => tBM C.K "list" rRemI (o.t C md) (tCons (a.t C md) tNil)
  ok := fun C md ρ h σ B H m Q e w q => by
    refine o.ok C md ρ h σ B H m _ e w (Po.chain w q fun x h1 u B1 H1 m1 ea g1 w1 r1 q1 => ?_)
    split at q1
    · rename_i nx0 e0
      obtain ⟨rfl, e0'⟩ := ownL_ok e0
      cases r1 with
      | r p1 =>
        obtain ⟨_, vs0, hv0, _⟩ := own_at w1 p1 e0'
        refine ⟨.inl ⟨rfl, _, .of hv0⟩, ?_⟩
        refine a.ok C md ρ h1 σ B1 H1 m1 _ (e.gm g1) w1 (Po.chain w1 q1 fun y h2 v B2 H2 m2 eb g2 w2 r2 q2 => ?_)
        split at q2
        · rename_i n xs i e2
          obtain ⟨en, e2'⟩ := ownL_ok e2
          cases en
          split at q2
          · rename_i ns ens
            split at q2
            · rename_i j ej
              have p2 := gm_at g2 p1
              obtain ⟨nB, vs, hv, rs⟩ := own_at w2 p2 e2'
              have rs' := rs
              rw [intsV_eq ens] at rs'
              obtain rfl := daInts rs'.data
              obtain ⟨h1, h2'⟩ := findI_eq ej
              cases r2 with
              | d r2 =>
                cases r2
                refine ⟨_, ns, i, j, rfl, rfl, hv, h1, h2', ?_⟩
                have er : VRs C.K B2 m2 (xs.eraseIdx j) ((ns.eraseIdx j).map V.int) := by
                  have z : ((ns.map V.int).eraseIdx j) = (ns.eraseIdx j).map V.int := by
                    rw [List.eraseIdx_eq_take_drop_succ, List.eraseIdx_eq_take_drop_succ, List.map_append, List.map_take, List.map_drop]
                  rw [← z, List.eraseIdx_eq_take_drop_succ, List.eraseIdx_eq_take_drop_succ]
                  exact (rs.take _).app (rs.drop _)
                obtain ⟨k, w3⟩ := wok_put w2 p2 nB er
                exact q2 _ _ _ _ k w3 (.d .non)
            · exact q2.elim
          · exact q2.elim
        · exact q2.elim
    · exact q1.elim
@[simp] theorem removeI_ev (o a : SE) {ρ : Rh} {h : Hd} : (removeI o a).ev ρ h = (o.ev ρ h).bind fun x h1 => match ownL h1 x with
    | some _ => (a.ev ρ h1).bind fun y h2 => match ownL h2 x, y with
      | some (n, xs), .d (.int i) => match intsV xs with
        | some ns => match findI i ns with
          | some j => .ok (.d .none) (h2.set n (.lst (xs.eraseIdx j)))
          | none => .no
        | none => .no
      | _, _ => .no
    | none => .no := (rfl)
end SE
def countD : PyData → PyData → Option PyData
  | .list xs, .int k => match intsOf xs with
    | some ns => some (.int (ns.count k : Nat))
    | none => none
  | _, _ => none
theorem count_ok {K : PySem.W.Frag} {x y z : PyData} (e : countD x y = some z) : Op2 K (fun u v H Q => rCntI K u [v] H Q) x y z := by
  unfold countD at e
  split at e
  · split at e
    · rename_i ns en
      cases e
      rw [intsOf_ok en]
      intro B H s u v hu hv Q q
      cases hu with
      | lst h a =>
        obtain rfl := daInts a
        cases hv
        exact ⟨_, ns, _, rfl, rfl, same_l s h, q _ B H (.refl s) (.int _)⟩
    · cases e
  · cases e
def oCount : O2 := ⟨countD, fun K u v H Q => rCntI K u [v] H Q, fun _ _ _ _ => count_ok⟩
def SE.count (o a : SE) : SE where
  ev := fun ρ h => (o.ev ρ h).bind fun x h1 => if isL h1 x = true then (a.ev ρ h1).bind fun y h2 => fnV (f2 countD) [x, y] h2 else .no
  t := fun C md => tBM C.K "list" (rCntI C.K) (o.t C md) (tCons (a.t C md) tNil)
  ok := fun C md ρ h σ B H m Q e w q => by
    refine o.ok C md ρ h σ B H m _ e w (Po.chain w q fun x h1 u B1 H1 m1 ea g1 w1 r1 q1 => ?_)
    split at q1
    · rename_i hl
      refine ⟨isL_ty hl w1 r1, ?_⟩
      refine a.ok C md ρ h1 σ B1 H1 m1 _ (e.gm g1) w1 (Po.chain w1 q1 fun y h2 v B2 H2 m2 eb g2 w2 r2 q2 => ?_)
      obtain ⟨u', v', e', z⟩ := fnV_ok (oCount.fn C.K) w2 (.cons (r1.gm g2) (.cons r2 .nil)) q2
      cases e'
      exact z
    · exact q1.elim
theorem SE_count_ev (o a : SE) {ρ : Rh} {h : Hd} : (SE.count o a).ev ρ h = (o.ev ρ h).bind fun x h1 => if isL h1 x = true then (a.ev ρ h1).bind fun y h2 => fnV (f2 countD) [x, y] h2 else .no := (rfl)
theorem countX {X : Cx} (K : PySem.W.Frag) (h : X.K = K := by rfl) : MtR X "list.count" (rCntI K) := h ▸ mt_lcount
end N
end
section
set_option maxRecDepth 100000
set_option maxHeartbeats 2000000
namespace N
open PySem PySem.Spec PyProof.Rows L2 G
namespace SE
end SE
end N
end
section
set_option maxRecDepth 100000
set_option maxHeartbeats 2000000
namespace N
open PySem PySem.Spec PyProof.Rows L2 G
namespace SE
@[simp] theorem var_ev (i : Nat) {ρ} {h} : (SE.var i).ev ρ h = (match ρ[i]? with
    | some (some x) => .ok x h
    | _ => .no) := (rfl)
@[simp] theorem op_ev (o : O2) (a b : SE) {ρ} {h} : (SE.op o a b).ev ρ h = ((a.ev ρ h).bind fun x h1 => (b.ev ρ h1).bind fun y h2 => fnV (f2 o.f) [x, y] h2) := (rfl)
@[simp] theorem un_ev (o : O1) (a : SE) {ρ} {h} : (SE.un o a).ev ρ h = ((a.ev ρ h).bind fun x h1 => fnV (fun xs => match xs with | [x] => o.f x | _ => none) [x] h1) := (rfl)
@[simp] theorem chain_ev (o o' : O2) (a b c : SE) {ρ} {h} : (SE.chain o o' a b c).ev ρ h = ((a.ev ρ h).bind fun x h1 => (b.ev ρ h1).bind fun y h2 => (fnV (f2 o.f) [x, y] h2).bind fun k h3 => match k with
    | .d (.bool true) => (c.ev ρ h3).bind fun z h4 => fnV (f2 o'.f) [y, z] h4
    | .d (.bool false) => .ok (.d (.bool false)) h3
    | _ => .no) := (rfl)
@[simp] theorem cb_ev (o : ON) (a : SL) {ρ} {h} : (SE.cb o a).ev ρ h = ((a.ev ρ h).bind fun xs h1 => fnV o.f xs h1) := (rfl)
@[simp] theorem andV_ev (a b : SE) {ρ} {h} : (SE.andV a b).ev ρ h = ((a.ev ρ h).bind fun x h1 => match x with
    | .d (.bool true) => b.ev ρ h1
    | .d (.bool false) => .ok (.d (.bool false)) h1
    | _ => .no) := (rfl)
@[simp] theorem orV_ev (a b : SE) {ρ} {h} : (SE.orV a b).ev ρ h = ((a.ev ρ h).bind fun x h1 => match x with
    | .d (.bool false) => b.ev ρ h1
    | .d (.bool true) => .ok (.d (.bool true)) h1
    | _ => .no) := (rfl)
@[simp] theorem notV_ev (a : SE) {ρ} {h} : (SE.notV a).ev ρ h = ((a.ev ρ h).bind fun x h1 => match x with
    | .d (.bool c) => .ok (.d (.bool (!c))) h1
    | _ => .no) := (rfl)
@[simp] theorem ifx_ev (c : SB) (a b : SE) {ρ} {h} : (SE.ifx c a b).ev ρ h = ((c.ev ρ h).bind fun x h1 => match x with
    | true => a.ev ρ h1
    | false => b.ev ρ h1) := (rfl)
@[simp] theorem tup_ev (a : SL) {ρ} {h} : (SE.tup a).ev ρ h = ((a.ev ρ h).bind fun xs h1 => match frzL h1 xs with
    | none => .no
    | some (ds, h2) => if ds.length ≤ 1000000 then .ok (.d (.tuple ds)) h2 else .no) := (rfl)
@[simp] theorem lst_ev (a : SL) {ρ} {h} : (SE.lst a).ev ρ h = ((a.ev ρ h).bind fun xs h1 => match frzL h1 xs with
    | none => .no
    | some (ds, h2) => if ds.length ≤ 1000000 then .ok (.d (.list ds)) h2 else .no) := (rfl)
end SE
namespace SL
@[simp] theorem nil_ev {z0} {h} : (SL.nil ).ev z0 h = (.ok [] h) := (rfl)
@[simp] theorem cons_ev (a : SE) (r : SL) {ρ} {h} : (SL.cons a r).ev ρ h = ((a.ev ρ h).bind fun x h1 => (r.ev ρ h1).bind fun xs h2 => .ok (x :: xs) h2) := (rfl)
end SL
namespace SB
@[simp] theorem test_ev (a : SE) {ρ} {h} : (SB.test a).ev ρ h = ((a.ev ρ h).bind fun x h1 => match x with
    | .d (.bool c) => .ok c h1
    | _ => .no) := (rfl)
@[simp] theorem val_ev (a : SE) {ρ} {h} : (SB.val a).ev ρ h = ((a.ev ρ h).bind fun x h1 => match x with
    | .d (.bool c) => .ok c h1
    | _ => .no) := (rfl)
@[simp] theorem and_ev (a b : SB) {ρ} {h} : (SB.and a b).ev ρ h = ((a.ev ρ h).bind fun x h1 => match x with
    | true => b.ev ρ h1
    | false => .ok false h1) := (rfl)
@[simp] theorem or_ev (a b : SB) {ρ} {h} : (SB.or a b).ev ρ h = ((a.ev ρ h).bind fun x h1 => match x with
    | true => .ok true h1
    | false => b.ev ρ h1) := (rfl)
@[simp] theorem not_ev (a : SB) {ρ} {h} : (SB.not a).ev ρ h = ((a.ev ρ h).bind fun x h1 => .ok (!x) h1) := (rfl)
end SB
namespace SE
@[simp] theorem isi_ev (T : Ty) (a : SE) {ρ} {h} : (SE.isi T a).ev ρ h = ((a.ev ρ h).bind fun x h1 => fnV (isiD T) [x] h1) := (rfl)
@[simp] theorem ix_ev (a b : SE) {ρ} {h} : (SE.ix a b).ev ρ h = ((a.ev ρ h).bind fun x h1 => (b.ev ρ h1).bind fun y h2 => ixV h2 x y) := (rfl)
end SE
@[simp] theorem SO_none_ev {z0} {h} : (SO.none ).ev z0 h = (.ok Option.none h) := (rfl)
@[simp] theorem SO_some_ev (a : SE) {ρ} {h} : (SO.some a).ev ρ h = ((a.ev ρ h).bind fun x h1 => match x with
    | .d (.int i) => .ok (Option.some i) h1
    | _ => .no) := (rfl)
namespace SE
@[simp] theorem sl_ev (a : SE) (lo hi : SO) {ρ} {h} : (SE.sl a lo hi).ev ρ h = ((a.ev ρ h).bind fun x h1 => (lo.ev ρ h1).bind fun l h2 => (hi.ev ρ h2).bind fun u h3 => match x with
    | .d (.tuple ds) => .ok (.d (.tuple (G.cutD ds l u))) h3
    | x => match itemsD h3 x with
      | some ds => .ok (.d (.list (G.cutD ds l u))) h3
      | Option.none => .no) := (rfl)
@[simp] theorem rev_ev (a : SE) {ρ} {h} : (SE.rev a).ev ρ h = ((a.ev ρ h).bind fun x h1 => match x with
    | .d (.tuple ds) => .ok (.d (.tuple ds.reverse)) h1
    | x => match itemsD h1 x with
      | some ds => .ok (.d (.list ds.reverse)) h1
      | Option.none => .no) := (rfl)
@[simp] theorem lstM_ev (a : SL) {ρ} {h} : (SE.lstM a).ev ρ h = ((a.ev ρ h).bind fun xs h1 => if xs.length ≤ 1000000 then .ok (.r h1.length) (h1 ++ [.lst xs]) else .no) := (rfl)
@[simp] theorem listM_ev (a : SE) {ρ} {h} : (SE.listM a).ev ρ h = ((a.ev ρ h).bind fun x h1 => match itemsV h1 x with
    | some xs => .ok (.r h1.length) (h1 ++ [.lst xs])
    | Option.none => .no) := (rfl)
@[simp] theorem slM_ev (a : SE) (lo hi : SO) {ρ} {h} : (SE.slM a lo hi).ev ρ h = ((a.ev ρ h).bind fun x h1 => (lo.ev ρ h1).bind fun l h2 => (hi.ev ρ h2).bind fun u h3 => match itemsL h3 x with
    | some xs => .ok (.r h3.length) (h3 ++ [.lst (cutX xs l u)])
    | Option.none => .no) := (rfl)
@[simp] theorem addM_ev (a b : SE) {ρ} {h} : (SE.addM a b).ev ρ h = ((a.ev ρ h).bind fun x h1 => (b.ev ρ h1).bind fun y h2 => match itemsL h2 x, itemsL h2 y with
    | some xs, some ys => if xs.length + ys.length ≤ 1000000 then .ok (.r h2.length) (h2 ++ [.lst (xs ++ ys)]) else .no
    | _, _ => .no) := (rfl)
@[simp] theorem revM_ev (a : SE) {ρ} {h} : (SE.revM a).ev ρ h = ((a.ev ρ h).bind fun x h1 => match itemsL h1 x with
    | some xs => .ok (.r h1.length) (h1 ++ [.lst xs.reverse])
    | Option.none => .no) := (rfl)
@[simp] theorem frz_ev (a : SE) {ρ} {h} : (SE.frz a).ev ρ h = ((a.ev ρ h).bind fun x h1 => match N.frz h1 x with
    | some (d, h2) => .ok (.d d) h2
    | Option.none => .no) := (rfl)
end SE
namespace SI
@[simp] theorem seq_ev (a : SE) {ρ} {h} : (SI.seq a).ev ρ h = ((a.ev ρ h).bind fun x h1 => match frz h1 x with
    | some (d, h2) => match seqD d with
      | some ds => .ok ds h2
      | none => .no
    | none => .no) := (rfl)
@[simp] theorem dis_ev (a : SE) {ρ} {h} : (SI.dis a).ev ρ h = ((a.ev ρ h).bind fun x h1 => match x with
    | .d (.list ds) => .ok ds h1
    | _ => .no) := (rfl)
theorem rng1_ev (a : SL) {ρ} {h} : (SI.rng1 a).ev ρ h = ((a.ev ρ h).bind fun xs h1 => match xs with
    | [.d (.int n)] => if big62 n = true then .ok (rng 0 n) h1 else .no
    | _ => .no) := (rfl)
theorem rng2_ev (a : SL) {ρ} {h} : (SI.rng2 a).ev ρ h = ((a.ev ρ h).bind fun xs h1 => match xs with
    | [.d (.int l), .d (.int n)] => if (big62 l && big62 n) = true then .ok (rng l n) h1 else .no
    | _ => .no) := (rfl)
@[simp] theorem zip_ev (a : SL) {ρ} {h} : (SI.zip a).ev ρ h = ((a.ev ρ h).bind fun xs h1 => match frzL h1 xs with
    | some (ds, h2) => match zipE ds with
      | some es => .ok es h2
      | none => .no
    | none => .no) := (rfl)
@[simp] theorem enum_ev (a : SL) {ρ} {h} : (SI.enum a).ev ρ h = ((a.ev ρ h).bind fun xs h1 => match frzL h1 xs with
    | some ([.list ds], h2) => .ok (enumD ds) h2
    | _ => .no) := (rfl)
@[simp] theorem revd_ev (a : SE) {ρ} {h} : (SI.revd a).ev ρ h = ((a.ev ρ h).bind fun x h1 => match frz h1 x with
    | some (d, h2) => match seqD d with
      | some ds => .ok ds.reverse h2
      | none => .no
    | none => .no) := (rfl)
end SI
namespace ST
@[simp] theorem name_put (i : Nat) {x} {ρ} : (ST.name i).put x ρ = (some (ρ.set i (some x))) := (rfl)
@[simp] theorem tup_put (ts : STs) {x} {ρ} : (ST.tup ts).put x ρ = (match x with
    | .d (.tuple ds) => ts.put ds ρ
    | _ => none) := (rfl)
end ST
namespace STs
@[simp] theorem nil_put {xs} {ρ} : (STs.nil ).put xs ρ = (match xs with
    | [] => some ρ
    | _ => none) := (rfl)
@[simp] theorem cons_put (a : ST) (r : STs) {xs} {ρ} : (STs.cons a r).put xs ρ = (match xs with
    | x :: xs => match a.put (.d x) ρ with
      | some ρ1 => r.put xs ρ1
      | none => none
    | [] => none) := (rfl)
end STs
@[simp] theorem SB_yes_ev {z0} {h} : (SB.yes ).ev z0 h = (.ok true h) := (rfl)
namespace SE
theorem lc_ev (it : SI) (tg : ST) (c : SB) (g : SE) {ρ} {h} : (SE.lc it tg c g).ev ρ h = ((it.ev ρ h).bind fun es h1 => if es.length ≤ 1000000 then match lcR tg.put c.ev g.ev (wipeN ρ tg.vs) es [] h1 with
      | .ok out h2 => match frzL h2 out with
        | some (ds, h3) => .ok (.d (.list ds)) h3
        | none => .no
      | _ => .no
    else .no) := (rfl)
theorem lcM_ev (it : SI) (tg : ST) (c : SB) (g : SE) {ρ} {h} : (SE.lcM it tg c g).ev ρ h = ((it.ev ρ h).bind fun es h1 => if es.length ≤ 1000000 then match lcR tg.put c.ev g.ev (wipeN ρ tg.vs) es [] h1 with
      | .ok out h2 => .ok (.r h2.length) (h2 ++ [.lst out])
      | _ => .no
    else .no) := (rfl)
end SE
namespace SS
@[simp] theorem nil_run {ρ} {h} : (SS.nil ).run ρ h = (.nx ρ h) := (rfl)
@[simp] theorem never_run {z0} {z1} : (SS.never ).run z0 z1 = (.no) := (rfl)
@[simp] theorem brk_run {ρ} {h} : (SS.brk ).run ρ h = (.bk ρ h) := (rfl)
@[simp] theorem cont_run {ρ} {h} : (SS.cont ).run ρ h = (.ct ρ h) := (rfl)
@[simp] theorem seq_run (a b : SS) {ρ} {h} : (SS.seq a b).run ρ h = ((a.run ρ h).seq b.run) := (rfl)
@[simp] theorem ret_run (a : SE) {ρ} {h} : (SS.ret a).run ρ h = ((a.ev ρ h).thn ρ fun x h1 => .rt x h1) := (rfl)
@[simp] theorem retN_run {ρ} {h} : (SS.retN ).run ρ h = (.rt (.d .none) h) := (rfl)
@[simp] theorem drop_run (a : SE) {ρ} {h} : (SS.drop a).run ρ h = ((a.ev ρ h).thn ρ fun _ h1 => .nx ρ h1) := (rfl)
@[simp] theorem ite_run (c : SB) (a b : SS) {ρ} {h} : (SS.ite c a b).run ρ h = ((c.ev ρ h).thn ρ fun x h1 => match x with
    | true => a.run ρ h1
    | false => b.run ρ h1) := (rfl)
@[simp] theorem asg_run (a : SE) (g : ST) {ρ} {h} : (SS.asg a g).run ρ h = ((a.ev ρ h).thn ρ fun x h1 => match g.put x ρ with
    | some ρ1 => .nx ρ1 h1
    | none => .no) := (rfl)
@[simp] theorem set_run (i : Nat) (a : SE) {ρ} {h} : (SS.set i a).run ρ h = ((a.ev ρ h).thn ρ fun x h1 => .nx (ρ.set i (some x)) h1) := (rfl)
@[simp] theorem par_run (i j : Nat) (a : SL) {ρ} {h} : (SS.par i j a).run ρ h = ((a.ev ρ h).thn ρ fun xs h1 => match xs with
    | [x, y] => .nx ((ρ.set i (some x)).set j (some y)) h1
    | _ => .no) := (rfl)
@[simp] theorem par3_run (i j l : Nat) (a : SL) {ρ} {h} : (SS.par3 i j l a).run ρ h = ((a.ev ρ h).thn ρ fun xs h1 => match xs with
    | [x, y, z] => .nx (((ρ.set i (some x)).set j (some y)).set l (some z)) h1
    | _ => .no) := (rfl)
@[simp] theorem forS_run (it : SI) (tg : ST) (body : SS) {ρ} {h} : (SS.forS it tg body).run ρ h = ((it.ev ρ h).thn ρ fun es h1 => forR tg.put body.run es ρ h1) := (rfl)
@[simp] theorem whS_run (c : SB) (body : SS) {ρ} {h} : (SS.whS c body).run ρ h = (whR c.ev body.run fuel ρ h) := (rfl)
end SS
namespace SE
@[simp] theorem app_ev (o a : SE) {ρ} {h} : (SE.app o a).ev ρ h = ((o.ev ρ h).bind fun x h1 => match ownL h1 x with
    | some _ => (a.ev ρ h1).bind fun y h2 => match ownL h2 x with
      | some (n, xs) => if xs.length < 1000000 then .ok (.d .none) (h2.set n (.lst (xs ++ [y]))) else .no
      | none => .no
    | none => .no) := (rfl)
@[simp] theorem popAt_ev (o a : SE) {ρ} {h} : (SE.popAt o a).ev ρ h = ((o.ev ρ h).bind fun x h1 => match ownL h1 x with
    | some _ => (a.ev ρ h1).bind fun y h2 => match ownL h2 x, y with
      | some (n, xs), .d (.int i) => if 0 ≤ i ∧ i < xs.length ∧ xs.length ≤ 1000000 then match xs[i.toNat]? with
          | some z => .ok z (h2.set n (.lst (xs.eraseIdx i.toNat)))
          | none => .no
        else .no
      | _, _ => .no
    | none => .no) := (rfl)
end SE
namespace SG
@[simp] theorem name_run (i : Nat) {x} {ρ} {h} : (SG.name i).run x ρ h = (.nx (ρ.set i (some x)) h) := (rfl)
@[simp] theorem sub_run (o i : SE) {x} {ρ} {h} : (SG.sub o i).run x ρ h = ((o.ev ρ h).thn ρ fun y h1 => (i.ev ρ h1).thn ρ fun k h2 => match ownL h2 y, k with
    | some (n, xs), .d (.int j) => match L2.ixN xs.length j with
      | some l => .nx ρ (h2.set n (.lst (xs.set l x)))
      | none => .no
    | _, _ => .no) := (rfl)
@[simp] theorem tup_run (ts : SGs) {x} {ρ} {h} : (SG.tup ts).run x ρ h = (match x with
    | .d (.tuple ds) => if ds.length = ts.n then ts.run ds ρ h else .no
    | _ => .no) := (rfl)
end SG
namespace SGs
@[simp] theorem nil_run {z0} {ρ} {h} : (SGs.nil ).run z0 ρ h = (.nx ρ h) := (rfl)
@[simp] theorem cons_run (a : SG) (r : SGs) {xs} {ρ} {h} : (SGs.cons a r).run xs ρ h = (match xs with
    | x :: xs => match (a.run (.d x) ρ h) with
      | .nx ρ1 h1 => r.run xs ρ1 h1
      | .ex c y ρ1 h1 => .ex c y ρ1 h1
      | _ => .no
    | [] => .no) := (rfl)
end SGs
namespace SS
@[simp] theorem asgG_run (a : SE) (g : SG) {ρ} {h} : (SS.asgG a g).run ρ h = ((a.ev ρ h).thn ρ fun x h1 => (g.run x ρ h1).only) := (rfl)
end SS
namespace SE
@[simp] theorem call_ev (F : FSem) (a : SL) {ρ} {h} : (SE.call F a).ev ρ h = ((a.ev ρ h).bind fun xs h1 => fnV (FD F) xs h1) := (rfl)
@[simp] theorem callK_ev (F : FSem) (is : List Nat) (a : SL) {ρ} {h} : (SE.callK F is a).ev ρ h = ((a.ev ρ h).bind fun xs h1 => if xs.length = is.length then fnV (FD F) (permL is xs) h1 else .no) := (rfl)
@[simp] theorem callM_ev (F : FSem) (a : SL) {ρ} {h} : (SE.callM F a).ev ρ h = ((a.ev ρ h).bind fun xs h1 => match frzL h1 xs with
    | some (ds, h2) => match FM F ds with
      | some zs => .ok (.r h2.length) (h2 ++ [.lst (zs.map .d)])
      | none => .no
    | none => .no) := (rfl)
@[simp] theorem callG_ev (F : FSem) (a : SL) {ρ} {h} : (SE.callG F a).ev ρ h = ((a.ev ρ h).bind fun xs h1 => match xs with
    | .r n :: rest => match frzL h1 rest with
      | some (ds, h2) => match h2[n]? with
        | some (.lst ys) => match datas ys with
          | some es => match FG F es ds with
            | some (z, es') => .ok (.d z) (h2.set n (.lst (es'.map .d)))
            | none => .no
          | none => .no
        | _ => .no
      | none => .no
    | _ => .no) := (rfl)
@[simp] theorem callGM_ev (F : FSem) (a : SL) {ρ} {h} : (SE.callGM F a).ev ρ h = ((a.ev ρ h).bind fun xs h1 => match xs with
    | .r n :: rest => match frzL h1 rest with
      | some (ds, h2) => match h2[n]? with
        | some (.lst ys) => match datas ys with
          | some es => match FGM F es ds with
            | some (out, es') => .ok (.r h2.length) (h2.set n (.lst (es'.map .d)) ++ [.lst (out.map .d)])
            | none => .no
          | none => .no
        | _ => .no
      | none => .no
    | _ => .no) := (rfl)
@[simp] theorem bits_ev (a : SE) {ρ} {h} : (SE.bits a).ev ρ h = ((a.ev ρ h).bind fun x h1 => match x with
    | .d (.int i) => .ok (.d (.int (bitsOf i))) h1
    | _ => .no) := (rfl)
theorem listRg1_ev (n : SE) {ρ} {h} : (SE.listRg1 n).ev ρ h = ((n.ev ρ h).bind fun x h1 => match x with
    | .d (.int i) => if rgOk 0 i = true then .ok (.d (.list (SI.rng 0 i))) h1 else .no
    | _ => .no) := (rfl)
theorem listRg2_ev (l n : SE) {ρ} {h} : (SE.listRg2 l n).ev ρ h = ((l.ev ρ h).bind fun x h1 => (n.ev ρ h1).bind fun y h2 => match x, y with
    | .d (.int j), .d (.int i) => if rgOk j i = true then .ok (.d (.list (SI.rng j i))) h2 else .no
    | _, _ => .no) := (rfl)
theorem listRg1M_ev (n : SE) {ρ} {h} : (SE.listRg1M n).ev ρ h = ((n.ev ρ h).bind fun x h1 => match x with
    | .d (.int i) => if rgOk 0 i = true then .ok (.r h1.length) (h1 ++ [.lst ((SI.rng 0 i).map .d)]) else .no
    | _ => .no) := (rfl)
@[simp] theorem rep_ev (a : SL) (b : SE) {ρ} {h} : (SE.rep a b).ev ρ h = ((a.ev ρ h).bind fun xs h1 => match frzL h1 xs with
    | some (ds, h2) => if ds.length ≤ 1000000 then (b.ev ρ h2).bind fun y h3 => match y with
        | .d (.int k) => if repOk ds.length k = true then .ok (.d (.list (List.replicate k.toNat ds).flatten)) h3 else .no
        | _ => .no
      else .no
    | none => .no) := (rfl)
@[simp] theorem repM_ev (a : SL) (b : SE) {ρ} {h} : (SE.repM a b).ev ρ h = ((a.ev ρ h).bind fun xs h1 => match frzL h1 xs with
    | some (ds, h2) => if ds.length ≤ 1000000 then (b.ev ρ h2).bind fun y h3 => match y with
        | .d (.int k) => if repOk ds.length k = true then .ok (.r h3.length) (h3 ++ [.lst ((List.replicate k.toNat ds).flatten.map .d)]) else .no
        | _ => .no
      else .no
    | none => .no) := (rfl)
@[simp] theorem dnew_ev {z0} {h} : (SE.dnew ).ev z0 h = (.ok (.d (.dict [])) h) := (rfl)
end SE
@[simp] theorem SE_index_ev (o a : SE) {ρ} {h} : (SE.index o a).ev ρ h = ((o.ev ρ h).bind fun x h1 => if isL h1 x = true then (a.ev ρ h1).bind fun y h2 => fnV (f2 indexD) [x, y] h2 else .no) := (rfl)
namespace SE
@[simp] theorem revTo_ev (a : SE) (hi : SO) {ρ} {h} : (SE.revTo a hi).ev ρ h = ((a.ev ρ h).bind fun x h1 => (hi.ev ρ h1).bind fun u h2 => match u with
    | some i => if 0 ≤ i then (match itemsD h2 x with
      | some ds => if i.toNat < ds.length then .ok (.d (.list (ds.drop (i.toNat + 1)).reverse)) h2 else .no
      | Option.none => .no) else .no
    | Option.none => .no) := (rfl)
end SE
namespace SG
@[simp] theorem lst_run (ts : SGs) {x} {ρ} {h} : (SG.lst ts).run x ρ h = (match x with
    | .d (.list ds) => if ds.length = ts.n then ts.run ds ρ h else .no
    | _ => .no) := (rfl)
end SG
namespace SE
@[simp] theorem repO_ev (a b : SE) {ρ} {h} : (SE.repO a b).ev ρ h = ((a.ev ρ h).bind fun x h1 => (b.ev ρ h1).bind fun y h2 => match ownL h2 x, y with
    | some (_, xs), .d (.int k) => match datas xs with
      | some ds => if (decide (ds.length ≤ 1000000) && repOk ds.length k) = true then .ok (.d (.list (List.replicate k.toNat ds).flatten)) h2 else .no
      | Option.none => .no
    | _, _ => .no) := (rfl)
@[simp] theorem extend_ev (o a : SE) {ρ} {h} : (SE.extend o a).ev ρ h = ((o.ev ρ h).bind fun x h1 => match ownL h1 x with
    | some _ => (a.ev ρ h1).bind fun y h2 => match ownL h2 x, ownL h2 y with
      | some (n, xs), some (_, zs) => if xs.length + zs.length ≤ 1000000 then .ok (.d .none) (h2.set n (.lst (xs ++ zs))) else .no
      | _, _ => .no
    | none => .no) := (rfl)
theorem lc2M_ev (vs : List Nat) (it : SI) (tg : ST) (c : SB) (it1 : SI) (tg1 : ST) (c1 : SB) (g : SE) (hs : ∀ i ∈ tg.vs, i ∈ vs) {ρ} {h} : (SE.lc2M vs it tg c it1 tg1 c1 g hs).ev ρ h = ((it.ev ρ h).bind fun es h1 => if es.length ≤ 1000000 then match lcR2 tg.put c.ev it1.ev tg1.put tg1.vs c1.ev g.ev (wipeN ρ vs) es [] h1 with
      | .ok out h2 => .ok (.r h2.length) (h2 ++ [.lst out])
      | _ => .no
    else .no) := (rfl)
@[simp] theorem sortedM_ev (a : SE) {ρ} {h} : (SE.sortedM a).ev ρ h = ((a.ev ρ h).bind fun x h1 => match itemsD h1 x with
    | some ds => match intsOf ds with
      | some ns => .ok (.r h1.length) (h1 ++ [.lst (((sortI ns).map .int).map .d)])
      | Option.none => .no
    | Option.none => .no) := (rfl)
end SE
end N
namespace N
open PySem PySem.Spec PyProof.Rows L2 G
section
variable {ρ : Rh} {h : Hd}
@[simp] theorem SE.int_ev (i : Int) : (SE.int i).ev ρ h = .ok (.d (.int i)) h := (rfl)
@[simp] theorem SE.bl_ev (b : Bool) : (SE.bl b).ev ρ h = .ok (.d (.bool b)) h := (rfl)
@[simp] theorem SE.non_ev : SE.non.ev ρ h = .ok (.d .none) h := (rfl)
@[simp] theorem SE.str_ev (x : Str) : (SE.str x).ev ρ h = .ok (.d (.str x)) h := (rfl)
@[simp] theorem fnV0 (f : List PyData → Option PyData) : fnV f [] h = (match f [] with | some z => .ok (.d z) h | none => .no) := (rfl)
@[simp] theorem fnV1 (f : List PyData → Option PyData) (x : PyData) : fnV f [.d x] h = (match f [x] with | some z => .ok (.d z) h | none => .no) := (rfl)
@[simp] theorem fnV2 (f : List PyData → Option PyData) (x y : PyData) : fnV f [.d x, .d y] h = (match f [x, y] with | some z => .ok (.d z) h | none => .no) := (rfl)
@[simp] theorem fnV3 (f : List PyData → Option PyData) (x y z : PyData) : fnV f [.d x, .d y, .d z] h = (match f [x, y, z] with | some z => .ok (.d z) h | none => .no) := (rfl)
@[simp] theorem fnV4 (f : List PyData → Option PyData) (x y z u : PyData) : fnV f [.d x, .d y, .d z, .d u] h = (match f [x, y, z, u] with | some z => .ok (.d z) h | none => .no) := (rfl)
@[simp] theorem fnV5 (f : List PyData → Option PyData) (x y z u v : PyData) : fnV f [.d x, .d y, .d z, .d u, .d v] h = (match f [x, y, z, u, v] with | some z => .ok (.d z) h | none => .no) := (rfl)
@[simp] theorem fnV6 (f : List PyData → Option PyData) (x y z u v w : PyData) : fnV f [.d x, .d y, .d z, .d u, .d v, .d w] h = (match f [x, y, z, u, v, w] with | some z => .ok (.d z) h | none => .no) := (rfl)
@[simp] theorem f2_2 (f : PyData → PyData → Option PyData) (x y : PyData) : f2 f [x, y] = f x y := (rfl)
@[simp] theorem datas_nil : datas [] = some [] := (rfl)
@[simp] theorem datas_cons (x : PyData) (xs : List Vd) : datas (.d x :: xs) = (match datas xs with | none => none | some ys => some (x :: ys)) := (rfl)
@[simp] theorem datas_mp (xs : List PyData) : datas (xs.map .d) = some xs := datas_map xs
@[simp] theorem frzL0 : frzL h [] = some ([], h) := (rfl)
@[simp] theorem frzL1 (x : PyData) : frzL h [.d x] = some ([x], h) := (rfl)
@[simp] theorem frzL2 (x y : PyData) : frzL h [.d x, .d y] = some ([x, y], h) := (rfl)
@[simp] theorem frzL3 (x y z : PyData) : frzL h [.d x, .d y, .d z] = some ([x, y, z], h) := (rfl)
@[simp] theorem frzL4 (x y z u : PyData) : frzL h [.d x, .d y, .d z, .d u] = some ([x, y, z, u], h) := (rfl)
@[simp] theorem frz_d (x : PyData) : frz h (.d x) = some (x, h) := (rfl)
@[simp] theorem look_d (x : PyData) : look h (.d x) = some x := (rfl)
@[simp] theorem ixV_d (x y : PyData) : SE.ixV h (.d x) (.d y) = (match ixD x y with | some z => .ok (.d z) h | none => .no) := (rfl)
@[simp] theorem ixV_r (n : Nat) (i : Int) : SE.ixV h (.r n) (.d (.int i)) = (match h[n]? with
  | some (.lst xs) => (match atD xs i with | some x => .ok x h | none => .no)
  | some (.frz x) => fnV (f2 ixD) [.d x, .d (.int i)] h
  | some (.nod _ xs) => (match atD xs i with | some x => .ok x h | none => .no)
  | some .jnk => .no
  | some (.err _) => .no
  | some (.dct _) => .no
  | none => .no) := (rfl)
end
@[simp] theorem oAdd_f : oAdd.f = addD := (rfl)
@[simp] theorem oSub_f : oSub.f = subD := (rfl)
@[simp] theorem oMul_f : oMul.f = mulD := (rfl)
@[simp] theorem oMod_f : oMod.f = modD := (rfl)
@[simp] theorem oFdiv_f : oFdiv.f = fdivD := (rfl)
@[simp] theorem oPow_f : oPow.f = powD := (rfl)
@[simp] theorem oShl_f : oShl.f = shlD := (rfl)
@[simp] theorem oLt_f : oLt.f = cmpD fun i j => decide (i < j) := (rfl)
@[simp] theorem oLe_f : oLe.f = cmpD fun i j => decide (i ≤ j) := (rfl)
@[simp] theorem oGt_f : oGt.f = cmpD fun i j => decide (j < i) := (rfl)
@[simp] theorem oGe_f : oGe.f = cmpD fun i j => decide (j ≤ i) := (rfl)
@[simp] theorem oEq_f : oEq.f = eqD false := (rfl)
@[simp] theorem oNe_f : oNe.f = eqD true := (rfl)
@[simp] theorem oIn_f : oIn.f = inD false := (rfl)
@[simp] theorem oNin_f : oNin.f = inD true := (rfl)
@[simp] theorem oIsN_f : oIsN.f = isND false := (rfl)
@[simp] theorem oNotN_f : oNotN.f = isND true := (rfl)
@[simp] theorem oIsB_f : oIsB.f = isBD false := (rfl)
@[simp] theorem oNotB_f : oNotB.f = isBD true := (rfl)
@[simp] theorem bLen_f : bLen.f = lenD := (rfl)
@[simp] theorem bAll_f : bAll.f = allD := (rfl)
@[simp] theorem bAny_f : bAny.f = anyD := (rfl)
@[simp] theorem bSum_f : bSum.f = sumD := (rfl)
@[simp] theorem bMax_f : bMax.f = maxD := (rfl)
@[simp] theorem bMin_f : bMin.f = minD := (rfl)
@[simp] theorem bInt_f : bInt.f = intD := (rfl)
@[simp] theorem bList_f : bList.f = listD := (rfl)
@[simp] theorem bTuple_f : bTuple.f = tupleD := (rfl)
@[simp] theorem bRepr_f : bRepr.f = reprD := (rfl)
@[simp] theorem bSorted_f : bSorted.f = sortD := (rfl)
@[simp] theorem oNeg_f : oNeg.f = negD := (rfl)
section
variable {a b : Int}
@[simp] theorem addD_i : addD (.int a) (.int b) = some (.int (a + b)) := (rfl)
@[simp] theorem subD_i : subD (.int a) (.int b) = some (.int (a - b)) := (rfl)
@[simp] theorem mulD_i : mulD (.int a) (.int b) = if (sm a && sm b) = true then some (.int (a * b)) else none := (rfl)
@[simp] theorem modD_i : modD (.int a) (.int b) = if 0 < b then some (.int (a % b)) else none := (rfl)
@[simp] theorem fdivD_i : fdivD (.int a) (.int b) = if (decide (0 < b) && sm b) = true then some (.int (a / b)) else none := (rfl)
@[simp] theorem cmpD_i (p : Int → Int → Bool) : cmpD p (.int a) (.int b) = some (.bool (p a b)) := (rfl)
@[simp] theorem negD_i : negD (.int a) = some (.int (-a)) := (rfl)
@[simp] theorem intD_i : intD [.int a] = some (.int a) := (rfl)
@[simp] theorem intD_b (c : Bool) : intD [.bool c] = some (.int (if c then 1 else 0)) := (rfl)
@[simp] theorem maxD_i : maxD [.int a, .int b] = some (.int (if b > a then b else a)) := (rfl)
@[simp] theorem minD_i : minD [.int a, .int b] = some (.int (if b < a then b else a)) := (rfl)
theorem eqD_i (neg : Bool) : eqD neg (.int a) (.int b) = some (.bool (if neg then !decide (a = b) else decide (a = b))) := by
  unfold eqD
  have s1 : ∀ i : Int, SeqAt.shaped (.int i) = true := fun _ => rfl
  simp only [s1, Bool.and_self, if_true]
  have e : PyData.eqv (.int a) (.int b) = decide (a = b) := by
    first | rfl | (unfold PyData.eqv; simp [beq_eq_decide])
  rw [e]
@[simp] theorem eqD_if : eqD false (.int a) (.int b) = some (.bool (decide (a = b))) := by rw [eqD_i]; rfl
@[simp] theorem eqD_it : eqD true (.int a) (.int b) = some (.bool (!decide (a = b))) := by rw [eqD_i]; rfl
@[simp] theorem ixD_l (xs : List PyData) (i : Int) : ixD (.list xs) (.int i) = atD xs i := (rfl)
@[simp] theorem ixD_t (xs : List PyData) (i : Int) : ixD (.tuple xs) (.int i) = atD xs i := (rfl)
end
@[simp] theorem atD0 {α : Type} (x : α) (xs : List α) : atD (x :: xs) 0 = some x := (rfl)
@[simp] theorem atD1 {α : Type} (x y : α) (xs : List α) : atD (x :: y :: xs) 1 = some y := (rfl)
@[simp] theorem atD2 {α : Type} (x y z : α) (xs : List α) : atD (x :: y :: z :: xs) 2 = some z := (rfl)
@[simp] theorem runDef_eq (body : SS) (n np : Nat) (args : List Vd) (h : Hd) : runDef body n np args h = if args.length = np then (match body.run (startN n args) h with
    | .rt x h1 => .ok x h1
    | .nx _ h1 => .ok (.d .none) h1
    | .ex c x _ h1 => .ex c x h1
    | _ => .no) else .no := (rfl)
@[simp] theorem wipe_nil (ρ : Rh) : wipeN ρ [] = ρ := (rfl)
@[simp] theorem wipe_cons (ρ : Rh) (i : Nat) (is : List Nat) : wipeN ρ (i :: is) = (wipeN ρ is).set i none := (rfl)
@[simp] theorem ST_name_vs (i : Nat) : (ST.name i).vs = [i] := (rfl)
@[simp] theorem ST_tup_vs (ts : STs) : (ST.tup ts).vs = ts.vs := (rfl)
@[simp] theorem STs_nil_vs : STs.nil.vs = [] := (rfl)
@[simp] theorem STs_cons_vs (a : ST) (r : STs) : (STs.cons a r).vs = a.vs ++ r.vs := (rfl)
@[simp] theorem SGs_n0 : SGs.nil.n = 0 := (rfl)
@[simp] theorem SGs_n1 (a : SG) (r : SGs) : (SGs.cons a r).n = r.n + 1 := (rfl)
@[simp] theorem STs_n0 : STs.nil.n = 0 := (rfl)
@[simp] theorem STs_n1 (a : ST) (r : STs) : (STs.cons a r).n = r.n + 1 := (rfl)
@[simp] theorem isBD_b (neg a b : Bool) : isBD neg (.bool a) (.bool b) = some (.bool (if neg then !decide (a = b) else decide (a = b))) := (rfl)
@[simp] theorem ixN30 : ixN 3 0 = some 0 := (rfl)
@[simp] theorem ixN31 : ixN 3 1 = some 1 := (rfl)
@[simp] theorem ixN32 : ixN 3 2 = some 2 := (rfl)
@[simp] theorem OcS.only_nx (ρ : Rh) (h : Hd) : (OcS.nx ρ h).only = .nx ρ h := (rfl)
section
variable {a b : SS} {ρ ρ1 : Rh} {h h1 : Hd} {o : OcS} {x : Vd}
theorem ite_t {c : SB} (e : c.ev ρ h = .ok true h1) (e2 : a.run ρ h1 = o) : (SS.ite c a b).run ρ h = o := by rw [SS.ite_run, e, Oc.thn_ok]; exact e2
theorem ite_f {c : SB} (e : c.ev ρ h = .ok false h1) (e2 : b.run ρ h1 = o) : (SS.ite c a b).run ρ h = o := by rw [SS.ite_run, e, Oc.thn_ok]; exact e2
end
end N
end
section
set_option maxRecDepth 100000
set_option maxHeartbeats 2000000
namespace G
open PySem PySem.Spec PyProof.Rows L2
mutual
inductive MkOk (K : PySem.W.Frag) (H : Hp) : Nat → V → PyData → List Addr → Prop where
  | int {n : Nat} (i : Int) : MkOk K H n (.int i) (.int i) []
  | non {n : Nat} : MkOk K H n .non .none []
  | lst {n : Nat} {a : Addr} {xs : List V} {ds : List PyData} {S : List Addr} : H a = some (.lst xs) → xs.length ≤ 1000000 → MkAll K H n xs ds S → a ∉ S → MkOk K H (n + 1) (.ref a) (.list ds) (a :: S)
  | tup {n : Nat} {a : Addr} {xs : List V} {ds : List PyData} {S : List Addr} : SqT K H a xs → xs.length ≤ 1000000 → MkAll K H n xs ds S → MkOk K H (n + 1) (.ref a) (.tuple ds) S
inductive MkAll (K : PySem.W.Frag) (H : Hp) : Nat → List V → List PyData → List Addr → Prop where
  | nil {n : Nat} : MkAll K H n [] [] []
  | cons {n : Nat} {v : V} {d : PyData} {vs : List V} {ds : List PyData} {S T : List Addr} : MkOk K H n v d S → MkAll K H n vs ds T → (∀ x ∈ S, x ∉ T) → MkAll K H n (v :: vs) (d :: ds) (S ++ T)
end
structure Keeps (S : List Addr) (H H' : Hp) : Prop where
  ex : ∀ b o, b ∉ S → H b = some o → H' b = some o
  kp : ∀ b, H b ≠ none → H' b ≠ none
theorem Keeps.refl {S : List Addr} {H : Hp} : Keeps S H H := ⟨fun _ _ _ e => e, fun _ e => e⟩
theorem same_kp {H H' : Hp} (h : Same H H') : ∀ b, H b ≠ none → H' b ≠ none := fun b e => by
  cases c : H b with
  | none => exact absurd c e
  | some o => rw [h b o c]; simp
theorem Keeps.trans {S T : List Addr} {H H1 H2 : Hp} (h : Keeps S H H1) (k : Keeps T H1 H2) : Keeps (S ++ T) H H2 := ⟨fun b o nb e => k.ex b o (fun z => nb (List.mem_append_right _ z)) (h.ex b o (fun z => nb (List.mem_append_left _ z)) e), fun b e => k.kp b (h.kp b e)⟩
theorem Keeps.of {S : List Addr} {H H' : Hp} (h : Same H H') : Keeps S H H' := ⟨fun b o _ e => h b o e, same_kp h⟩
theorem Keeps.sub {S T : List Addr} {H H' : Hp} (h : Keeps S H H') (s : ∀ x ∈ S, x ∈ T) : Keeps T H H' := ⟨fun b o nb e => h.ex b o (fun z => nb (s b z)) e, h.kp⟩
section
variable {K : PySem.W.Frag} {H H' : Hp}
def Lists (H : Hp) (T : List Addr) : Prop := ∀ x ∈ T, ∃ xs, H x = some (.lst xs)
theorem sqt_keep {a : Addr} {xs : List V} {T : List Addr} (k : Keeps T H H') (l : Lists H T) (h : SqT K H a xs) : SqT K H' a xs := by
  rcases h with (h | ⟨o, h⟩) | h
  · exact .inl (.inl (k.ex _ _ (fun z => by obtain ⟨ys, q⟩ := l _ z; rw [h] at q; cases q) h))
  · exact .inl (.inr ⟨o, k.ex _ _ (fun z => by obtain ⟨ys, q⟩ := l _ z; rw [h] at q; cases q) h⟩)
  · exact .inr h
mutual
theorem MkOk.lists : ∀ {n : Nat} {v : V} {d : PyData} {S : List Addr}, MkOk K H n v d S → Lists H S
  | _, _, _, _, .int i => fun x hx => by simp at hx
  | _, _, _, _, .non => fun x hx => by simp at hx
  | _, _, _, _, .lst h _ m _ => fun x hx => by
    rcases List.mem_cons.mp hx with rfl | hx
    · exact ⟨_, h⟩
    · exact m.lists x hx
  | _, _, _, _, .tup _ _ m => m.lists
theorem MkAll.lists : ∀ {n : Nat} {vs : List V} {ds : List PyData} {S : List Addr}, MkAll K H n vs ds S → Lists H S
  | _, _, _, _, .nil => fun x hx => by simp at hx
  | _, _, _, _, .cons m ms _ => fun x hx => by
    rcases List.mem_append.mp hx with hx | hx
    · exact m.lists x hx
    · exact ms.lists x hx
end
mutual
theorem MkOk.keep {T : List Addr} (k : Keeps T H H') (l : Lists H T) : ∀ {n : Nat} {v : V} {d : PyData} {S : List Addr}, MkOk K H n v d S → (∀ x ∈ S, x ∉ T) → MkOk K H' n v d S
  | _, _, _, _, .int i, _ => .int i
  | _, _, _, _, .non, _ => .non
  | _, _, _, _, .lst h z m na, s => .lst (k.ex _ _ (s _ (List.mem_cons_self ..)) h) z (m.keep k l fun x hx => s x (List.mem_cons_of_mem _ hx)) na
  | _, _, _, _, .tup h z m, s => .tup (sqt_keep k l h) z (m.keep k l s)
theorem MkAll.keep {T : List Addr} (k : Keeps T H H') (l : Lists H T) : ∀ {n : Nat} {vs : List V} {ds : List PyData} {S : List Addr}, MkAll K H n vs ds S → (∀ x ∈ S, x ∉ T) → MkAll K H' n vs ds S
  | _, _, _, _, .nil, _ => .nil
  | _, _, _, _, .cons m ms dj, s => .cons (m.keep k l fun x hx => s x (List.mem_append_left _ hx)) (ms.keep k l fun x hx => s x (List.mem_append_right _ hx)) dj
end
mutual
theorem MkOk.da : ∀ {n : Nat} {v : V} {d : PyData} {S : List Addr}, MkOk K H n v d S → Da K H v d
  | _, _, _, _, .int i => .int i
  | _, _, _, _, .non => .non
  | _, _, _, _, .lst h _ m _ => .lst (.of h) m.da
  | _, _, _, _, .tup h _ m => .tup h m.da
theorem MkAll.da : ∀ {n : Nat} {vs : List V} {ds : List PyData} {S : List Addr}, MkAll K H n vs ds S → DaAll K H vs ds
  | _, _, _, _, .nil => .nil
  | _, _, _, _, .cons m ms _ => .cons m.da ms.da
end
mutual
theorem MkOk.pl : ∀ {n : Nat} {v : V} {d : PyData} {S : List Addr}, MkOk K H n v d S → d.canLay0 = true ∧ d.depth ≤ n ∧ (∀ c : Str, PyData.eqv d (.str c) = false)
  | _, _, _, _, .int i => ⟨rfl, by rw [depth_int]; omega, fun c => by simp [PyData.eqv]⟩
  | _, _, _, _, .non => ⟨rfl, by rw [PyData.depth] <;> simp, fun c => by simp [PyData.eqv]⟩
  | _, _, _, _, .lst _ _ m _ => by
    obtain ⟨a, b⟩ := m.pl
    exact ⟨by rw [PyData.canLay0]; exact a, by rw [PyData.depth]; omega, fun c => by simp [PyData.eqv]⟩
  | _, _, _, _, .tup _ _ m => by
    obtain ⟨a, b⟩ := m.pl
    exact ⟨by rw [PyData.canLay0]; exact a, by rw [PyData.depth]; omega, fun c => by simp [PyData.eqv]⟩
theorem MkAll.pl : ∀ {n : Nat} {vs : List V} {ds : List PyData} {S : List Addr}, MkAll K H n vs ds S → PyData.canLayAll0 ds = true ∧ PyData.depthAll ds ≤ n
  | _, _, _, _, .nil => ⟨by simp [PyData.canLayAll0], by simp [PyData.depthAll]⟩
  | _, _, _, _, .cons m ms _ => by
    obtain ⟨a1, b1, _⟩ := m.pl
    obtain ⟨a2, b2⟩ := ms.pl
    exact ⟨by rw [PyData.canLayAll0, a1, a2]; rfl, by rw [PyData.depthAll]; omega⟩
end
theorem MkAll.len : ∀ {n : Nat} {vs : List V} {ds : List PyData} {S : List Addr}, MkAll K H n vs ds S → vs.length = ds.length
  | _, _, _, _, .nil => rfl
  | _, _, _, _, .cons _ ms _ => by rw [List.length_cons, List.length_cons, ms.len]
theorem MkAll.mem : ∀ {n : Nat} {vs : List V} {ds : List PyData} {S : List Addr}, MkAll K H n vs ds S → ∀ d ∈ ds, ∃ v T, MkOk K H n v d T
  | _, _, _, _, .nil, d, hd => by simp at hd
  | _, _, _, _, .cons m ms _, d, hd => by
    rcases List.mem_cons.mp hd with rfl | hd
    · exact ⟨_, _, m⟩
    · exact ms.mem d hd
end
end G
end
section
set_option maxRecDepth 100000
set_option maxHeartbeats 2000000
namespace G
open PySem PySem.Spec PyProof.Rows L2
end G
end
section
set_option maxRecDepth 100000
set_option maxHeartbeats 2000000
namespace N
open PySem PySem.Spec PyProof.Rows L2 G
namespace SE
end SE
namespace SE
end SE
def shV (k : Nat) : Vd → Vd
  | .d x => .d x
  | .r n => .r (n + k)
def shE (k : Nat) : Ent → Ent
  | .lst xs => .lst (xs.map (shV k))
  | .frz x => .frz x
  | .nod t xs => .nod t (xs.map (shV k))
  | .jnk => .jnk
  | .err x => .err x
  | .dct k => .dct k
namespace SE
end SE
namespace SE
end SE
end N
end
section
set_option maxRecDepth 100000
set_option maxHeartbeats 2000000
namespace N
open PySem PySem.Spec PyProof.Rows L2 G
mutual
def leafB : Nat → PyData → Bool
  | _, .int _ => true
  | _, .none => true
  | k + 1, .tuple xs => decide (xs.length ≤ 1000000) && leafBs k xs
  | _, _ => false
def leafBs : Nat → List PyData → Bool
  | _, [] => true
  | k, x :: xs => leafB k x && leafBs k xs
end
def treeI : Nat → Hd → Vd → Option (List Nat)
  | k, _, .d x => if leafB k x = true then some [] else none
  | 0, _, .r _ => none
  | k + 1, h, .r n => match h[n]? with
    | some (.nod _ xs) => if xs.length ≤ 1000000 then (mapO (treeI k h) xs).map fun Is => n :: Is.flatten else none
    | _ => none
theorem mapO_cons {α β : Type} {f : α → Option β} {x : α} {xs : List α} {ys : List β} (e : mapO f (x :: xs) = some ys) : ∃ z zs, f x = some z ∧ mapO f xs = some zs ∧ ys = z :: zs := by
  unfold mapO at e
  split at e
  · cases e
  · rename_i z ez
    split at e
    · cases e
    · rename_i zs ezs
      cases e
      exact ⟨z, zs, ez, ezs, rfl⟩
mutual
theorem leaf_mk {K : PySem.W.Frag} {B H : Hp} (s : Same B H) : ∀ (k : Nat) (x : PyData) {v : V}, leafB k x = true → Da K B v x → MkOk K H k v x []
  | _, .int i, _, _, .int _ => .int i
  | _, .none, _, _, .non => .non
  | k + 1, .tuple xs, _, e, .tup (xs := vs) h d => by
    rw [leafB, Bool.and_eq_true] at e
    have l := d.len
    exact .tup (same_t s h) (by have := of_decide_eq_true e.1; omega) (leaf_mks s k xs e.2 d)
  | 0, .tuple _, _, e, _ => by simp [leafB] at e
  | k, .bool _, _, e, _ => by cases k <;> simp [leafB] at e
  | k, .str _, _, e, _ => by cases k <;> simp [leafB] at e
  | k, .list _, _, e, _ => by cases k <;> simp [leafB] at e
  | k, .dict _, _, e, _ => by cases k <;> simp [leafB] at e
theorem leaf_mks {K : PySem.W.Frag} {B H : Hp} (s : Same B H) : ∀ (k : Nat) (xs : List PyData) {vs : List V}, leafBs k xs = true → DaAll K B vs xs → MkAll K H k vs xs []
  | _, [], _, _, .nil => .nil
  | k, x :: xs, _, e, .cons d t => by
    rw [leafBs, Bool.and_eq_true] at e
    exact .cons (S := []) (T := []) (leaf_mk s k x e.1 d) (leaf_mks s k xs e.2 t) fun z hz => by simp at hz
end
section
variable {K : PySem.W.Frag} {B H : Hp} {m : List Addr} {h : Hd}
theorem mapO_flat {α : Type} {f : α → Option (List Nat)} {P : Nat → Prop} (ih : ∀ x I, f x = some I → ∀ i ∈ I, P i) : ∀ {xs : List α} {Is : List (List Nat)}, mapO f xs = some Is → ∀ i ∈ Is.flatten, P i
  | [], Is, e, i, hi => by cases e; simp at hi
  | x :: xs, Is, e, i, hi => by
    obtain ⟨I, Js, e1, e2, rfl⟩ := mapO_cons e
    rw [List.flatten_cons] at hi
    rcases List.mem_append.mp hi with hi | hi
    · exact ih x I e1 i hi
    · exact mapO_flat ih e2 i hi
theorem treeI_nod : ∀ (k : Nat) {x : Vd} {I : List Nat}, treeI k h x = some I → ∀ i ∈ I, ∃ t xs, h[i]? = some (.nod t xs)
  | k, .d x, I, e, i, hi => by
    unfold treeI at e
    split at e
    · cases e; simp at hi
    · cases e
  | 0, .r n, I, e, i, hi => by simp [treeI] at e
  | k + 1, .r n, I, e, i, hi => by
    unfold treeI at e
    split at e
    · rename_i t xs en
      split at e
      · simp only [Option.map_eq_some_iff] at e
        obtain ⟨Is, e1, rfl⟩ := e
        rcases List.mem_cons.mp hi with rfl | hi
        · exact ⟨t, xs, en⟩
        · exact mapO_flat (fun x I e => treeI_nod k e) e1 i hi
      · cases e
    · cases e
end
end N
end
section
set_option maxRecDepth 100000
set_option maxHeartbeats 2000000
namespace N
open PySem PySem.Spec PyProof.Rows L2 G
end N
end
section
set_option maxRecDepth 100000
set_option maxHeartbeats 2000000
namespace J
open PySem PySem.Spec PyProof.Rows L2 G N
abbrev D := PyData
def bd {α β : Type} (o : Option α) (k : α → Option β) : Option β := match o with
  | none => none
  | some a => k a
@[simp] theorem bd_some {α β : Type} (a : α) (k : α → Option β) : bd (some a) k = k a := rfl
@[simp] theorem bd_none {α β : Type} (k : α → Option β) : bd (none : Option α) k = none := rfl
theorem bd_eq {α β : Type} {o : Option α} {k : α → Option β} {r : β} (h : bd o k = some r) : ∃ a, o = some a ∧ k a = some r := by
  cases o with
  | none => cases h
  | some a => exact ⟨a, rfl, h⟩
inductive Sl where
  | no
  | d (x : D)
  | f (x : D)
  | o (xs : List D)
  | t (k : Nat) (x : D)
  | e (x : D)
abbrev Ev := List Sl
structure TreeV (k : Nat) (h : Hd) (v : Vd) (x : D) (I : List Nat) : Prop where
  pk : N.pk k h v = some x
  ix : N.treeI k h v = some I
  nd : I.Nodup
theorem mapO_frame {α β : Type} {F F' : α → Option (List Nat)} {G G' : α → Option β} {P : Nat → Prop} (ih : ∀ x I, F x = some I → (∀ i ∈ I, P i) → F' x = some I ∧ G' x = G x) :
    ∀ {xs : List α} {Is : List (List Nat)}, N.mapO F xs = some Is → (∀ i ∈ Is.flatten, P i) → N.mapO F' xs = some Is ∧ N.mapO G' xs = N.mapO G xs
  | [], Is, e, _ => by cases e; exact ⟨rfl, rfl⟩
  | x :: xs, Is, e, p => by
    obtain ⟨I, Js, e1, e2, rfl⟩ := N.mapO_cons e
    rw [List.flatten_cons] at p
    obtain ⟨a1, a2⟩ := ih x I e1 fun i hi => p i (List.mem_append_left _ hi)
    obtain ⟨b1, b2⟩ := mapO_frame ih e2 fun i hi => p i (List.mem_append_right _ hi)
    unfold N.mapO
    rw [a1, a2, b1, b2]
    exact ⟨rfl, rfl⟩
theorem tree_frame {h h' : Hd} : ∀ (k : Nat) {v : Vd} {I : List Nat}, N.treeI k h v = some I → (∀ i ∈ I, h'[i]? = h[i]?) → N.treeI k h' v = some I ∧ N.pk k h' v = N.pk k h v
  | k, .d x, I, e, _ => by
    refine ⟨?_, ?_⟩
    · unfold N.treeI at e ⊢; exact e
    · unfold N.pk; rfl
  | 0, .r n, I, e, _ => by simp [N.treeI] at e
  | k + 1, .r n, I, e, p => by
    unfold N.treeI at e
    split at e
    · rename_i t xs en
      split at e
      · rename_i hl
        simp only [Option.map_eq_some_iff] at e
        obtain ⟨Is, e1, rfl⟩ := e
        have en' : h'[n]? = some (.nod t xs) := by rw [p n (List.mem_cons_self ..)]; exact en
        obtain ⟨a1, a2⟩ := mapO_frame (F' := N.treeI k h') (G := N.pk k h) (G' := N.pk k h') (P := fun i => h'[i]? = h[i]?) (fun x I e q => tree_frame k e q) e1 fun i hi => p i (List.mem_cons_of_mem _ hi)
        refine ⟨?_, ?_⟩
        · unfold N.treeI
          rw [en']
          dsimp only
          rw [if_pos hl, a1]
          rfl
        · unfold N.pk
          rw [en', en]
          dsimp only
          rw [a2]
      · cases e
    · cases e
theorem TreeV.frame {k : Nat} {h h' : Hd} {v : Vd} {x : D} {I : List Nat} (t : TreeV k h v x I) (p : ∀ i ∈ I, h'[i]? = h[i]?) : TreeV k h' v x I := by
  obtain ⟨a, b⟩ := tree_frame k t.ix p
  exact ⟨by rw [b]; exact t.pk, a, t.nd⟩
theorem TreeV.nod {k : Nat} {h : Hd} {v : Vd} {x : D} {I : List Nat} (t : TreeV k h v x I) : ∀ i ∈ I, ∃ t xs, h[i]? = some (.nod t xs) := N.treeI_nod k t.ix
theorem TreeV.set {k : Nat} {h : Hd} {v : Vd} {x : D} {I : List Nat} (t : TreeV k h v x I) {n : Nat} (en : Ent) (q : ∀ t xs, h[n]? ≠ some (.nod t xs)) : TreeV k (h.set n en) v x I := t.frame fun i hi => by
  obtain ⟨t, xs, e⟩ := t.nod i hi
  rw [List.getElem?_set_ne fun z => q t xs (by rw [z]; exact e)]
theorem TreeV.app {k : Nat} {h : Hd} {v : Vd} {x : D} {I : List Nat} (t : TreeV k h v x I) (l : Hd) : TreeV k (h ++ l) v x I := t.frame fun i hi => by
  obtain ⟨t, xs, e⟩ := t.nod i hi
  rw [List.getElem?_append_left (List.getElem?_eq_some_iff.mp e).1]
def DV (h : Hd) (v : Vd) (x : D) : Prop := v = .d x ∨ ∃ n, v = .r n ∧ h[n]? = some (.frz x)
def SlOk (ρ : Rh) (h : Hd) (f : Nat → Nat) (i : Nat) : Sl → Prop
  | .no => True
  | .d x => ρ[i]? = some (some (.d x))
  | .f x => ∃ v, ρ[i]? = some (some v) ∧ DV h v x
  | .o xs => ρ[i]? = some (some (.r (f i))) ∧ h[f i]? = some (.lst (xs.map .d))
  | .t k x => ∃ v I, ρ[i]? = some (some v) ∧ TreeV k h v x I
  | .e x => ∃ n, ρ[i]? = some (some (.r n)) ∧ h[n]? = some (.err x)
def DJ (ρ : Rh) (h : Hd) (env : Ev) : Prop := ∀ (i j ki kj : Nat) (x y : D) (v w : Vd) (I J : List Nat), env[i]? = some (.t ki x) → env[j]? = some (.t kj y) → i ≠ j → ρ[i]? = some (some v) → ρ[j]? = some (some w) → TreeV ki h v x I → TreeV kj h w y J → ∀ n ∈ I, n ∉ J
theorem TreeV.det {k : Nat} {h : Hd} {v : Vd} {x y : D} {I J : List Nat} (a : TreeV k h v x I) (b : TreeV k h v y J) : I = J := by
  have := a.ix
  rw [b.ix] at this
  cases this
  rfl
structure Rep (ρ : Rh) (h : Hd) (f : Nat → Nat) (env : Ev) : Prop where
  len : ρ.length = env.length
  sl : ∀ (i : Nat) (s : Sl), env[i]? = some s → SlOk ρ h f i s
  inj : ∀ (i j : Nat) (xs ys : List D), env[i]? = some (.o xs) → env[j]? = some (.o ys) → f i = f j → i = j
  dj : DJ ρ h env
def Out (env : Ev) (f : Nat → Nat) (n : Nat) : Prop := ∀ (i : Nat) (xs : List D), env[i]? = some (.o xs) → f i ≠ n
structure Af (ρ : Rh) (h : Hd) (f : Nat → Nat) (env : Ev) (h' : Hd) (env' : Ev) : Prop where
  rep : Rep ρ h' f env'
  len : h.length ≤ h'.length
  kp : ∀ (n : Nat) (e : Ent), h[n]? = some e → Out env f n → h'[n]? = some e
  sub : ∀ (i : Nat) (xs : List D), env'[i]? = some (.o xs) → ∃ ys, env[i]? = some (.o ys)
section
variable {ρ : Rh} {h h1 h2 : Hd} {f : Nat → Nat} {env env1 env2 : Ev}
theorem Rep.dj_mono {ρ' : Rh} {h' : Hd} {env' : Ev} (r : Rep ρ h f env) (s : ∀ (i k : Nat) (x : D), env'[i]? = some (.t k x) → env[i]? = some (.t k x) ∧ ρ'[i]? = ρ[i]?) (fr : ∀ (k : Nat) (v : Vd) (x : D) (I : List Nat), TreeV k h v x I → TreeV k h' v x I) : DJ ρ' h' env' := fun i j ki kj x y v w I J e1 e2 ne p q t u => by
  obtain ⟨a1, b1⟩ := s i ki x e1
  obtain ⟨a2, b2⟩ := s j kj y e2
  obtain ⟨v0, I0, p0, t0⟩ := r.sl i _ a1
  obtain ⟨w0, J0, q0, u0⟩ := r.sl j _ a2
  rw [b1, p0] at p
  cases p
  rw [b2, q0] at q
  cases q
  rw [t.det (fr _ _ _ _ t0), u.det (fr _ _ _ _ u0)]
  exact r.dj i j ki kj x y _ _ I0 J0 a1 a2 ne p0 q0 t0 u0
theorem nt_d (y : D) : ∀ (k : Nat) (x : D), Sl.d y ≠ .t k x := fun _ _ z => nomatch z
theorem nt_f (y : D) : ∀ (k : Nat) (x : D), Sl.f y ≠ .t k x := fun _ _ z => nomatch z
theorem nt_o (y : List D) : ∀ (k : Nat) (x : D), Sl.o y ≠ .t k x := fun _ _ z => nomatch z
theorem nt_no : ∀ (k : Nat) (x : D), Sl.no ≠ .t k x := fun _ _ z => nomatch z
theorem set_t {env : Ev} {i j k : Nat} {x : D} {s : Sl} (ns : ∀ k x, s ≠ .t k x) (e : (env.set i s)[j]? = some (.t k x)) : env[j]? = some (.t k x) ∧ i ≠ j := by
  by_cases c : i = j
  · subst c
    have l : i < env.length := by
      have := (List.getElem?_eq_some_iff.mp e).1
      rwa [List.length_set] at this
    rw [List.getElem?_set_self l] at e
    exact absurd (Option.some.inj e) (ns k x)
  · rw [List.getElem?_set_ne c] at e
    exact ⟨e, c⟩
theorem Af.refl (r : Rep ρ h f env) : Af ρ h f env h env := ⟨r, Nat.le_refl _, fun _ _ e _ => e, fun _ xs e => ⟨xs, e⟩⟩
theorem Af.trans (a : Af ρ h f env h1 env1) (b : Af ρ h1 f env1 h2 env2) : Af ρ h f env h2 env2 :=
  ⟨b.rep, Nat.le_trans a.len b.len, fun n e p o => b.kp n e (a.kp n e p o) fun i xs q => by
    obtain ⟨ys, q2⟩ := a.sub i xs q
    exact o i ys q2, fun i xs q => by
    obtain ⟨ys, q2⟩ := b.sub i xs q
    exact a.sub i ys q2⟩
theorem Rep.out_frz (r : Rep ρ h f env) {n : Nat} {x : D} (e : h[n]? = some (.frz x)) : Out env f n := fun i xs q z => by
  have := (r.sl i _ q).2
  rw [z, e] at this
  cases this
theorem Rep.out_err (r : Rep ρ h f env) {n : Nat} {x : D} (e : h[n]? = some (.err x)) : Out env f n := fun i xs q z => by
  have := (r.sl i _ q).2
  rw [z, e] at this
  cases this
theorem Rep.out_nod (r : Rep ρ h f env) {n : Nat} {t : Bool} {ys : List Vd} (e : h[n]? = some (.nod t ys)) : Out env f n := fun i xs q z => by
  have := (r.sl i _ q).2
  rw [z, e] at this
  cases this
theorem TreeV.af {k : Nat} {v : Vd} {x : D} {I : List Nat} (t : TreeV k h v x I) (r : Rep ρ h f env) (a : Af ρ h f env h1 env1) : TreeV k h1 v x I := t.frame fun i hi => by
  obtain ⟨b, ys, q⟩ := t.nod i hi
  rw [a.kp i _ q (r.out_nod q), q]
theorem DV.af {v : Vd} {x : D} (d : DV h v x) (r : Rep ρ h f env) (a : Af ρ h f env h1 env1) : DV h1 v x := by
  rcases d with d | ⟨n, e, q⟩
  · exact .inl d
  · exact .inr ⟨n, e, a.kp n _ q (r.out_frz q)⟩
theorem Out.af {n : Nat} (o : Out env f n) (a : Af ρ h f env h1 env1) : Out env1 f n := fun i xs q => by
  obtain ⟨ys, q2⟩ := a.sub i xs q
  exact o i ys q2
theorem DV.frz {v : Vd} {x : D} (d : DV h v x) : N.frz h v = some (x, h) := by
  rcases d with rfl | ⟨n, rfl, q⟩
  · rfl
  · unfold N.frz N.fz; rw [q]
theorem DV.look {v : Vd} {x : D} (d : DV h v x) : N.look h v = some x := by
  rcases d with rfl | ⟨n, rfl, q⟩
  · rfl
  · unfold N.look N.pk; rw [q]
theorem datas_d : ∀ xs : List D, N.datas (xs.map .d) = some xs
  | [] => rfl
  | x :: xs => by rw [List.map_cons, N.datas, datas_d xs]
theorem fnV_d {g : List D → Option D} {xs : List D} {z : D} (e : g xs = some z) : fnV g (xs.map .d) h = .ok (.d z) h := by
  unfold fnV
  rw [datas_d]
  dsimp only
  rw [e]
theorem mapO_d (k : Nat) (h : Hd) : ∀ xs : List D, mapO (N.pk k h) (xs.map .d) = some xs
  | [] => rfl
  | x :: xs => by
    have e : N.pk k h (.d x) = some x := by cases k <;> rfl
    rw [List.map_cons, mapO, e]
    dsimp only
    rw [mapO_d k h xs]
theorem mapH_d (k : Nat) (h : Hd) : ∀ xs : List D, mapH (N.fz k) h (xs.map .d) = some (xs, h)
  | [] => rfl
  | x :: xs => by
    have e : N.fz k h (.d x) = some (x, h) := by cases k <;> rfl
    rw [List.map_cons, mapH, e]
    dsimp only
    rw [mapH_d k h xs]
theorem frzL_d (h : Hd) (xs : List D) : N.frzL h (xs.map .d) = some (xs, h) := mapH_d 4 h xs
theorem frz_own {n : Nat} {xs : List D} (e : h[n]? = some (.lst (xs.map .d))) : N.frz h (.r n) = some (.list xs, h.set n (.frz (.list xs))) := by
  unfold N.frz N.fz
  rw [e]
  dsimp only
  rw [mapH_d]
theorem pk_own {n : Nat} {xs : List D} (e : h[n]? = some (.lst (xs.map .d))) (k : Nat) : N.pk (k + 1) h (.r n) = some (.list xs) := by
  unfold N.pk
  rw [e]
  dsimp only
  rw [mapO_d]
  rfl
inductive Tt where
  | d (x : D)
  | b (i : Nat)
def TV (ρ : Rh) (v : Vd) : Tt → Prop
  | .d x => v = .d x
  | .b i => ρ[i]? = some (some v)
def tv (env : Ev) : Tt → Option D
  | .d x => some x
  | .b i => match env[i]? with
    | some (.o xs) => some (.list xs)
    | some (.f x) => some x
    | some (.d x) => some x
    | _ => none
def TVs (ρ : Rh) : List Vd → List Tt → Prop
  | [], [] => True
  | v :: vs, x :: xs => TV ρ v x ∧ TVs ρ vs xs
  | _, _ => False
theorem TV.look {v : Vd} {x : Tt} {y : D} (r : Rep ρ h f env) (d : TV ρ v x) (e : tv env x = some y) : N.look h v = some y := by
  cases x with
  | d x => cases e; rw [show v = .d y from d]; rfl
  | b i =>
    unfold tv at e
    dsimp only at e
    split at e
    · rename_i xs q
      cases e
      obtain ⟨h1, h2⟩ := r.sl i _ q
      rw [show ρ[i]? = some (some v) from d] at h1
      cases h1
      exact pk_own h2 3
    · rename_i x q
      cases e
      obtain ⟨w, h1, h2⟩ := r.sl i _ q
      rw [show ρ[i]? = some (some v) from d] at h1
      cases h1
      exact h2.look
    · rename_i x q
      cases e
      have h1 : ρ[i]? = some (some (.d y)) := r.sl i _ q
      rw [show ρ[i]? = some (some v) from d] at h1
      cases h1
      rfl
    · cases e
theorem TVs.look (r : Rep ρ h f env) : ∀ {vs : List Vd} {xs : List Tt} {ys : List D}, TVs ρ vs xs → mapO (tv env) xs = some ys → lookL h vs = some ys
  | [], [], _, _, e => by cases e; rfl
  | v :: vs, x :: xs, ys, ⟨d, t⟩, e => by
    unfold mapO at e
    split at e
    · cases e
    · rename_i y ey
      split at e
      · cases e
      · rename_i zs ez
        cases e
        have e1 := d.look r ey
        have e2 := t.look r ez
        unfold lookL mapO
        rw [e1]
        dsimp only
        unfold lookL at e2
        rw [e2]
theorem datas_look : ∀ {vs : List Vd} {xs ys : List D}, N.datas vs = some ys → lookL h vs = some xs → ys = xs
  | [], xs, ys, e, q => by cases e; cases q; rfl
  | .d y :: vs, xs, ys, e, q => by
    unfold N.datas at e
    split at e
    · cases e
    · rename_i zs ez
      cases e
      unfold lookL mapO at q
      have e0 : N.look h (.d y) = some y := rfl
      rw [e0] at q
      dsimp only at q
      split at q
      · cases q
      · rename_i ws ew
        cases q
        rw [datas_look ez ew]
  | .r _ :: vs, _, _, e, _ => by cases e
theorem fnV_a {g : List D → Option D} {vs : List Vd} {xs : List D} {z : D} (l : lookL h vs = some xs) (e : g xs = some z) (at_ : atom z = true) : fnV g vs h = .ok (.d z) h := by
  unfold fnV
  split
  · rename_i ys ey
    rw [datas_look ey l, e]
  · rw [l]
    dsimp only
    rw [e]
    dsimp only
    rw [if_pos at_]
theorem Rep.put (r : Rep ρ h f env) (i : Nat) {s : Sl} {v : Vd} (ok : SlOk (ρ.set i (some v)) h f i s) (ns : ∀ xs, s ≠ .o xs) (dj : DJ (ρ.set i (some v)) h (env.set i s)) : Rep (ρ.set i (some v)) h f (env.set i s) := by
  refine ⟨by rw [List.length_set, List.length_set]; exact r.len, fun j t e => ?_, fun j k xs ys e1 e2 => ?_, dj⟩
  · by_cases c : i = j
    · subst c
      have l : i < env.length := by
        have := (List.getElem?_eq_some_iff.mp e).1
        rwa [List.length_set] at this
      rw [List.getElem?_set_self l] at e
      cases e
      exact ok
    · rw [List.getElem?_set_ne c] at e
      have z := r.sl j t e
      have e0 : (ρ.set i (some v))[j]? = ρ[j]? := List.getElem?_set_ne c
      cases t with
      | no => trivial
      | d x => show (ρ.set i (some v))[j]? = _; rw [e0]; exact z
      | f x => obtain ⟨w, h1, h2⟩ := z; exact ⟨w, by rw [e0]; exact h1, h2⟩
      | e x => obtain ⟨n, h1, h2⟩ := z; exact ⟨n, by rw [e0]; exact h1, h2⟩
      | o xs => exact ⟨by rw [e0]; exact z.1, z.2⟩
      | t k x => obtain ⟨w, I, h1, h2⟩ := z; exact ⟨w, I, by rw [e0]; exact h1, h2⟩
  · have get : ∀ {j : Nat} {xs : List D}, (env.set i s)[j]? = some (.o xs) → env[j]? = some (.o xs) := fun {j xs} e => by
      by_cases c : i = j
      · subst c
        have l : i < env.length := by
          have := (List.getElem?_eq_some_iff.mp e).1
          rwa [List.length_set] at this
        rw [List.getElem?_set_self l] at e
        exact absurd (Option.some.inj e) (ns xs)
      · rwa [List.getElem?_set_ne c] at e
    exact r.inj j k xs ys (get e1) (get e2)
theorem Rep.put_d (r : Rep ρ h f env) {i : Nat} (l : i < env.length) (x : D) : Rep (ρ.set i (some (.d x))) h f (env.set i (.d x)) :=
  r.put i (by show (ρ.set i (some (.d x)))[i]? = _; rw [List.getElem?_set_self (by rw [r.len]; exact l)]) (fun _ z => nomatch z) (r.dj_mono (fun j k x e => by
    obtain ⟨a, c⟩ := set_t (nt_d _) e
    exact ⟨a, List.getElem?_set_ne c⟩) fun _ _ _ _ t => t)
theorem Rep.own (r : Rep ρ h f env) {i : Nat} {xs : List D} (e : env[i]? = some (.o xs)) (ys : List D) : Af ρ h f env (h.set (f i) (.lst (ys.map .d))) (env.set i (.o ys)) := by
  obtain ⟨q1, q2⟩ := r.sl i _ e
  have l := (List.getElem?_eq_some_iff.mp e).1
  have lh := (List.getElem?_eq_some_iff.mp q2).1
  have get : ∀ {j : Nat} {zs : List D}, (env.set i (.o ys))[j]? = some (.o zs) → ∃ ws, env[j]? = some (.o ws) := fun {j zs} e2 => by
    by_cases c : i = j
    · subst c; exact ⟨xs, e⟩
    · rw [List.getElem?_set_ne c] at e2; exact ⟨zs, e2⟩
  refine ⟨⟨by rw [List.length_set]; exact r.len, fun j t e2 => ?_, fun j k xs' ys' e1 e2 => ?_, r.dj_mono (fun j k x e => ⟨(set_t (nt_o _) e).1, rfl⟩) fun _ _ _ _ t => t.set _ fun t ys q => (by rw [q] at q2; cases q2)⟩, by rw [List.length_set]; exact Nat.le_refl _, fun n en p o => ?_, fun j zs e2 => get e2⟩
  · by_cases c : i = j
    · subst c
      rw [List.getElem?_set_self l] at e2
      cases e2
      exact ⟨q1, List.getElem?_set_self lh⟩
    · rw [List.getElem?_set_ne c] at e2
      have z := r.sl j t e2
      cases t with
      | no => trivial
      | d x => exact z
      | e x => obtain ⟨n, h1, h3⟩ := z; exact ⟨n, h1, by rw [List.getElem?_set_ne (fun z => by rw [z, h3] at q2; cases q2)]; exact h3⟩
      | f x =>
        obtain ⟨w, h1, h2⟩ := z
        refine ⟨w, h1, ?_⟩
        rcases h2 with h2 | ⟨n, h2, h3⟩
        · exact .inl h2
        · refine .inr ⟨n, h2, ?_⟩
          rw [List.getElem?_set_ne (fun z => by rw [z, h3] at q2; cases q2)]
          exact h3
      | o zs => exact ⟨z.1, by rw [List.getElem?_set_ne (fun y => c (r.inj i j xs zs e e2 y))]; exact z.2⟩
      | t k x => obtain ⟨w, I, h1, h2⟩ := z; exact ⟨w, I, h1, h2.set _ fun t ys q => by rw [q] at q2; cases q2⟩
  · obtain ⟨w1, g1⟩ := get e1
    obtain ⟨w2, g2⟩ := get e2
    exact r.inj j k w1 w2 g1 g2
  · rw [List.getElem?_set_ne (o i xs e)]
    exact p
theorem Rep.freeze (r : Rep ρ h f env) {i : Nat} {xs : List D} (e : env[i]? = some (.o xs)) : Af ρ h f env (h.set (f i) (.frz (.list xs))) (env.set i (.f (.list xs))) := by
  obtain ⟨q1, q2⟩ := r.sl i _ e
  have l := (List.getElem?_eq_some_iff.mp e).1
  have lh := (List.getElem?_eq_some_iff.mp q2).1
  have get : ∀ {j : Nat} {zs : List D}, (env.set i (.f (.list xs)))[j]? = some (.o zs) → env[j]? = some (.o zs) ∧ i ≠ j := fun {j zs} e2 => by
    by_cases c : i = j
    · subst c
      rw [List.getElem?_set_self l] at e2
      cases e2
    · rw [List.getElem?_set_ne c] at e2; exact ⟨e2, c⟩
  refine ⟨⟨by rw [List.length_set]; exact r.len, fun j t e2 => ?_, fun j k xs' ys' e1 e2 => ?_, r.dj_mono (fun j k x e => ⟨(set_t (nt_f _) e).1, rfl⟩) fun _ _ _ _ t => t.set _ fun t ys q => (by rw [q] at q2; cases q2)⟩, by rw [List.length_set]; exact Nat.le_refl _, fun n en p o => ?_, fun j zs e2 => ⟨zs, (get e2).1⟩⟩
  · by_cases c : i = j
    · subst c
      rw [List.getElem?_set_self l] at e2
      cases e2
      exact ⟨_, q1, .inr ⟨_, rfl, List.getElem?_set_self lh⟩⟩
    · rw [List.getElem?_set_ne c] at e2
      have z := r.sl j t e2
      cases t with
      | no => trivial
      | d x => exact z
      | e x => obtain ⟨n, h1, h3⟩ := z; exact ⟨n, h1, by rw [List.getElem?_set_ne (fun z => by rw [z, h3] at q2; cases q2)]; exact h3⟩
      | f x =>
        obtain ⟨w, h1, h2⟩ := z
        refine ⟨w, h1, ?_⟩
        rcases h2 with h2 | ⟨n, h2, h3⟩
        · exact .inl h2
        · refine .inr ⟨n, h2, ?_⟩
          rw [List.getElem?_set_ne (fun z => by rw [z, h3] at q2; cases q2)]
          exact h3
      | o zs => exact ⟨z.1, by rw [List.getElem?_set_ne (fun y => c (r.inj i j xs zs e e2 y))]; exact z.2⟩
      | t k x => obtain ⟨w, I, h1, h2⟩ := z; exact ⟨w, I, h1, h2.set _ fun t ys q => by rw [q] at q2; cases q2⟩
  · exact r.inj j k xs' ys' (get e1).1 (get e2).1
  · rw [List.getElem?_set_ne (o i xs e)]
    exact p
theorem Rep.new (r : Rep ρ h f env) (l : Hd) : Af ρ h f env (h ++ l) env := by
  have kp : ∀ (n : Nat) (e : Ent), h[n]? = some e → (h ++ l)[n]? = some e := fun n e q => by
    rw [List.getElem?_append_left (List.getElem?_eq_some_iff.mp q).1]
    exact q
  refine ⟨⟨r.len, fun j t e2 => ?_, r.inj, r.dj_mono (fun j k x e => ⟨e, rfl⟩) fun _ _ _ _ t => t.app l⟩, by rw [List.length_append]; omega, fun n en p _ => kp n en p, fun j zs e2 => ⟨zs, e2⟩⟩
  have z := r.sl j t e2
  cases t with
  | no => trivial
  | d x => exact z
  | f x =>
    obtain ⟨w, h1, h2⟩ := z
    refine ⟨w, h1, ?_⟩
    rcases h2 with h2 | ⟨n, h2, h3⟩
    · exact .inl h2
    · exact .inr ⟨n, h2, kp n _ h3⟩
  | e x => obtain ⟨n, h1, h3⟩ := z; exact ⟨n, h1, kp n _ h3⟩
  | o zs => exact ⟨z.1, kp _ _ z.2⟩
  | t k x => obtain ⟨w, I, h1, h2⟩ := z; exact ⟨w, I, h1, h2.app l⟩
def upf (f : Nat → Nat) (i n : Nat) : Nat → Nat := fun j => if j = i then n else f j
theorem upf_same (f : Nat → Nat) (i n : Nat) : upf f i n i = n := if_pos rfl
theorem upf_ne {f : Nat → Nat} {i n j : Nat} (c : ¬ i = j) : upf f i n j = f j := if_neg fun z => c z.symm
theorem Rep.give (r : Rep ρ h f env) {i n : Nat} {xs : List D} (e : h[n]? = some (.lst (xs.map .d))) (o : Out env f n) : Rep (ρ.set i (some (.r n))) h (upf f i n) (env.set i (.o xs)) := by
  refine ⟨by rw [List.length_set, List.length_set]; exact r.len, fun j t e2 => ?_, fun j k xs' ys' e1 e2 q => ?_, r.dj_mono (fun j k x e => (by
    obtain ⟨a, c⟩ := set_t (nt_o _) e
    exact ⟨a, List.getElem?_set_ne c⟩)) fun _ _ _ _ t => t⟩
  · by_cases c : i = j
    · subst c
      have l : i < env.length := by
        have := (List.getElem?_eq_some_iff.mp e2).1
        rwa [List.length_set] at this
      rw [List.getElem?_set_self l] at e2
      cases e2
      refine ⟨?_, ?_⟩
      · rw [List.getElem?_set_self (by rw [r.len]; exact l), upf_same]
      · rw [upf_same]; exact e
    · rw [List.getElem?_set_ne c] at e2
      have z := r.sl j t e2
      have e0 : (ρ.set i (some (.r n)))[j]? = ρ[j]? := List.getElem?_set_ne c
      cases t with
      | no => trivial
      | d x => show (ρ.set i (some (.r n)))[j]? = _; rw [e0]; exact z
      | f x => obtain ⟨w, h1, h2⟩ := z; exact ⟨w, by rw [e0]; exact h1, h2⟩
      | e x => obtain ⟨n, h1, h2⟩ := z; exact ⟨n, by rw [e0]; exact h1, h2⟩
      | o xs =>
        refine ⟨by rw [e0, upf_ne c]; exact z.1, by rw [upf_ne c]; exact z.2⟩
      | t k x => obtain ⟨w, I, h1, h2⟩ := z; exact ⟨w, I, by rw [e0]; exact h1, h2⟩
  · by_cases c1 : i = j
    · by_cases c2 : i = k
      · omega
      · rw [List.getElem?_set_ne c2] at e2
        subst c1
        rw [upf_same, upf_ne c2] at q
        exact absurd q.symm (o k ys' e2)
    · rw [List.getElem?_set_ne c1] at e1
      by_cases c2 : i = k
      · subst c2
        rw [upf_same, upf_ne c1] at q
        exact absurd q (o j xs' e1)
      · rw [List.getElem?_set_ne c2] at e2
        rw [upf_ne c1, upf_ne c2] at q
        exact r.inj j k xs' ys' e1 e2 q
inductive Wk : Ev → Ev → Prop
  | nil : Wk [] []
  | kp {s : Sl} {a b : Ev} (t : Wk a b) : Wk (s :: a) (s :: b)
  | no {s : Sl} {a b : Ev} (t : Wk a b) : Wk (s :: a) (.no :: b)
  | f {x : D} {a b : Ev} (t : Wk a b) : Wk (.d x :: a) (.f x :: b)
theorem Wk.at {a b : Ev} (w : Wk a b) : ∀ {i : Nat} {s : Sl}, b[i]? = some s → s = .no ∨ a[i]? = some s ∨ ∃ x, s = .f x ∧ a[i]? = some (.d x) := by
  induction w with
  | nil => intro i s e; simp at e
  | kp t ih =>
    intro i s e
    cases i with
    | zero => cases e; exact .inr (.inl rfl)
    | succ i => exact ih (by simpa using e)
  | no t ih =>
    intro i s e
    cases i with
    | zero => cases e; exact .inl rfl
    | succ i => exact ih (by simpa using e)
  | f t ih =>
    intro i s e
    cases i with
    | zero => cases e; exact .inr (.inr ⟨_, rfl, rfl⟩)
    | succ i => exact ih (by simpa using e)
theorem Wk.len {a b : Ev} (w : Wk a b) : a.length = b.length := by
  induction w with
  | nil => rfl
  | kp _ ih => simp [ih]
  | no _ ih => simp [ih]
  | f _ ih => simp [ih]
theorem Wk.own {a b : Ev} (w : Wk a b) {i : Nat} {xs : List D} (e : b[i]? = some (.o xs)) : a[i]? = some (.o xs) := by
  rcases w.at e with z | z | ⟨x, z, _⟩
  · cases z
  · exact z
  · cases z
theorem Rep.wk (r : Rep ρ h f env) (w : Wk env env1) : Rep ρ h f env1 := by
  refine ⟨by rw [r.len, w.len], fun i s e => ?_, fun i j xs ys e1 e2 => r.inj i j xs ys (w.own e1) (w.own e2), r.dj_mono (fun i k x e => ⟨(by
    rcases w.at e with z | z | ⟨y, z, _⟩
    · cases z
    · exact z
    · cases z), rfl⟩) fun _ _ _ _ t => t⟩
  rcases w.at e with rfl | z | ⟨x, rfl, z⟩
  · trivial
  · exact r.sl i s z
  · exact ⟨_, r.sl i _ z, .inl rfl⟩
theorem Wk.refl : ∀ e : Ev, Wk e e
  | [] => .nil
  | _ :: t => .kp (Wk.refl t)
end
abbrev Cd (α : Type) := (R : Type) → (α → Option R) → Option R
def CE {α : Type} (env : Ev) (e : SE) (c : Cd α) (V : α → D) (E : α → Ev) : Prop :=
  ∀ (ρ : Rh) (h : Hd) (f : Nat → Nat), Rep ρ h f env → ∀ (R : Type) (k : α → Option R) (r : R), c R k = some r → ∃ a h', k a = some r ∧ e.ev ρ h = .ok (.d (V a)) h' ∧ Af ρ h f env h' (E a)
def CA {α : Type} (env : Ev) (e : SE) (c : Cd α) (V : α → Tt) (E : α → Ev) : Prop :=
  ∀ (ρ : Rh) (h : Hd) (f : Nat → Nat), Rep ρ h f env → ∀ (R : Type) (k : α → Option R) (r : R), c R k = some r → ∃ a h' v, k a = some r ∧ e.ev ρ h = .ok v h' ∧ TV ρ v (V a) ∧ Af ρ h f env h' (E a)
def CO {α : Type} (env : Ev) (e : SE) (c : Cd α) (V : α → List D) (E : α → Ev) : Prop :=
  ∀ (ρ : Rh) (h : Hd) (f : Nat → Nat), Rep ρ h f env → ∀ (R : Type) (k : α → Option R) (r : R), c R k = some r → ∃ a h' n, k a = some r ∧ e.ev ρ h = .ok (.r n) h' ∧ h'[n]? = some (.lst ((V a).map .d)) ∧ h.length ≤ n ∧ Af ρ h f env h' (E a)
def CL {α : Type} (env : Ev) (e : SL) (c : Cd α) (V : α → List D) (E : α → Ev) : Prop :=
  ∀ (ρ : Rh) (h : Hd) (f : Nat → Nat), Rep ρ h f env → ∀ (R : Type) (k : α → Option R) (r : R), c R k = some r → ∃ a h', k a = some r ∧ e.ev ρ h = .ok ((V a).map .d) h' ∧ Af ρ h f env h' (E a)
def CLA {α : Type} (env : Ev) (e : SL) (c : Cd α) (V : α → List Tt) (E : α → Ev) : Prop :=
  ∀ (ρ : Rh) (h : Hd) (f : Nat → Nat), Rep ρ h f env → ∀ (R : Type) (k : α → Option R) (r : R), c R k = some r → ∃ a h' vs, k a = some r ∧ e.ev ρ h = .ok vs h' ∧ TVs ρ vs (V a) ∧ Af ρ h f env h' (E a)
def CB {α : Type} (env : Ev) (e : SB) (c : Cd α) (V : α → Bool) (E : α → Ev) : Prop :=
  ∀ (ρ : Rh) (h : Hd) (f : Nat → Nat), Rep ρ h f env → ∀ (R : Type) (k : α → Option R) (r : R), c R k = some r → ∃ a h', k a = some r ∧ e.ev ρ h = .ok (V a) h' ∧ Af ρ h f env h' (E a)
def CI {α : Type} (env : Ev) (e : SI) (c : Cd α) (V : α → List D) (E : α → Ev) : Prop :=
  ∀ (ρ : Rh) (h : Hd) (f : Nat → Nat), Rep ρ h f env → ∀ (R : Type) (k : α → Option R) (r : R), c R k = some r → ∃ a h', k a = some r ∧ e.ev ρ h = .ok (V a) h' ∧ Af ρ h f env h' (E a)
def CSO {α : Type} (env : Ev) (e : SO) (c : Cd α) (V : α → Option Int) (E : α → Ev) : Prop :=
  ∀ (ρ : Rh) (h : Hd) (f : Nat → Nat), Rep ρ h f env → ∀ (R : Type) (k : α → Option R) (r : R), c R k = some r → ∃ a h', k a = some r ∧ e.ev ρ h = .ok (V a) h' ∧ Af ρ h f env h' (E a)
end J
end
section
set_option maxRecDepth 100000
set_option maxHeartbeats 2000000
namespace J
open PySem PySem.Spec PyProof.Rows L2 G N
def boolD : D → Option Bool
  | .bool b => some b
  | _ => none
theorem boolD_eq {x : D} {b : Bool} (h : boolD x = some b) : x = .bool b := by
  cases x <;> first | (cases h; rfl) | cases h
@[simp] theorem boolD_b (b : Bool) : boolD (.bool b) = some b := rfl
def intO : D → Option Int
  | .int i => some i
  | _ => none
theorem intO_eq {x : D} {b : Int} (h : intO x = some b) : x = .int b := by
  cases x <;> first | (cases h; rfl) | cases h
@[simp] theorem intO_i (b : Int) : intO (.int b) = some b := rfl
section
variable {α β γ : Type} {env : Ev}
theorem ce_var {x : D} (i : Nat) (e : env[i]? = some (.d x)) : CE env (SE.var i) (fun _ k => k ()) (fun _ => x) (fun _ => env) := fun ρ h f r R k z hz => by
  have h1 : ρ[i]? = some (some (.d x)) := r.sl i _ e
  refine ⟨(), h, hz, ?_, .refl r⟩
  rw [SE.var_ev, h1]
theorem ce_const (d : D) (v : V) (ok : ∀ K B, Da K B v d) : CE env (SE.const d v ok) (fun _ k => k ()) (fun _ => d) (fun _ => env) := fun ρ h f r R k z hz => ⟨(), h, hz, rfl, .refl r⟩
theorem ce_int (i : Int) : CE env (SE.int i) (fun _ k => k ()) (fun _ => .int i) (fun _ => env) := ce_const _ _ _
theorem ce_bl (b : Bool) : CE env (SE.bl b) (fun _ k => k ()) (fun _ => .bool b) (fun _ => env) := ce_const _ _ _
theorem ce_str (x : Str) : CE env (SE.str x) (fun _ k => k ()) (fun _ => .str x) (fun _ => env) := ce_const _ _ _
theorem ce_gtup (ds : List D) (vs : List V) (hv : mapO SE.litV ds = some vs) : CE env (SE.gtup ds vs hv) (fun _ k => k ()) (fun _ => .tuple ds) (fun _ => env) := fun ρ h f r R k z hz => ⟨(), h, hz, rfl, .refl r⟩
theorem ce_frz {xs : List D} (i : Nat) (e : env[i]? = some (.o xs)) : CE env (SE.frz (SE.var i)) (fun _ k => k ()) (fun _ => .list xs) (fun _ => env.set i (.f (.list xs))) := fun ρ h f r R k z hz => by
  obtain ⟨q1, q2⟩ := r.sl i _ e
  refine ⟨(), _, hz, ?_, r.freeze e⟩
  rw [SE.frz_ev, SE.var_ev, q1]
  dsimp only
  rw [Oc.bind_ok, frz_own q2]
theorem ce_frzf {x : D} (i : Nat) (e : env[i]? = some (.f x)) : CE env (SE.frz (SE.var i)) (fun _ k => k ()) (fun _ => x) (fun _ => env) := fun ρ h f r R k z hz => by
  obtain ⟨v, h1, h2⟩ := r.sl i _ e
  refine ⟨(), h, hz, ?_, .refl r⟩
  rw [SE.frz_ev, SE.var_ev, h1]
  dsimp only
  rw [Oc.bind_ok, h2.frz]
section
variable {a b : SE} {ca : Cd α} {cb : α → Cd β} {Va : α → D} {Ea : α → Ev} {Vb : α → β → D} {Eb : α → β → Ev}
theorem ce_op (o : O2) (ha : CE env a ca Va Ea) (hb : ∀ x, CE (Ea x) b (cb x) (Vb x) (Eb x)) :
    CE env (SE.op o a b) (fun R k => ca R fun x => cb x R fun y => bd (o.f (Va x) (Vb x y)) fun z => k (x, y, z)) (fun p => p.2.2) (fun p => Eb p.1 p.2.1) := fun ρ h f r R k z hz => by
  obtain ⟨x, h1, k1, e1, a1⟩ := ha ρ h f r R _ z hz
  obtain ⟨y, h2, k2, e2, a2⟩ := hb x ρ h1 f a1.rep R _ z k1
  obtain ⟨w, e3, k3⟩ := bd_eq k2
  refine ⟨(x, y, w), h2, k3, ?_, a1.trans a2⟩
  rw [SE.op_ev, e1, Oc.bind_ok, e2, Oc.bind_ok]
  exact fnV_d (xs := [Va x, Vb x y]) e3
theorem ce_un (o : O1) (ha : CE env a ca Va Ea) : CE env (SE.un o a) (fun R k => ca R fun x => bd (o.f (Va x)) fun z => k (x, z)) (fun p => p.2) (fun p => Ea p.1) := fun ρ h f r R k z hz => by
  obtain ⟨x, h1, k1, e1, a1⟩ := ha ρ h f r R _ z hz
  obtain ⟨w, e3, k3⟩ := bd_eq k1
  refine ⟨(x, w), h1, k3, ?_, a1⟩
  rw [SE.un_ev, e1, Oc.bind_ok]
  exact fnV_d (xs := [Va x]) e3
theorem ce_isi (T : Ty) (ha : CE env a ca Va Ea) : CE env (SE.isi T a) ca (fun x => .bool (isT T (Va x))) Ea := fun ρ h f r R k z hz => by
  obtain ⟨x, h1, k1, e1, a1⟩ := ha ρ h f r R _ z hz
  refine ⟨x, h1, k1, ?_, a1⟩
  rw [SE.isi_ev, e1, Oc.bind_ok]
  exact fnV_d (xs := [Va x]) rfl
theorem ce_ix (ha : CE env a ca Va Ea) (hb : ∀ x, CE (Ea x) b (cb x) (Vb x) (Eb x)) :
    CE env (SE.ix a b) (fun R k => ca R fun x => cb x R fun y => bd (ixD (Va x) (Vb x y)) fun z => k (x, y, z)) (fun p => p.2.2) (fun p => Eb p.1 p.2.1) := fun ρ h f r R k z hz => by
  obtain ⟨x, h1, k1, e1, a1⟩ := ha ρ h f r R _ z hz
  obtain ⟨y, h2, k2, e2, a2⟩ := hb x ρ h1 f a1.rep R _ z k1
  obtain ⟨w, e3, k3⟩ := bd_eq k2
  refine ⟨(x, y, w), h2, k3, ?_, a1.trans a2⟩
  rw [SE.ix_ev, e1, Oc.bind_ok, e2, Oc.bind_ok]
  show SE.ixV h2 (.d (Va x)) (.d (Vb x y)) = _
  unfold SE.ixV
  exact fnV_d (g := f2 ixD) (xs := [Va x, Vb x y]) e3
theorem ce_bits (ha : CE env a ca Va Ea) : CE env (SE.bits a) (fun R k => ca R fun x => bd (intO (Va x)) fun i => k (x, i)) (fun p => .int (bitsOf p.2)) (fun p => Ea p.1) := fun ρ h f r R k z hz => by
  obtain ⟨x, h1, k1, e1, a1⟩ := ha ρ h f r R _ z hz
  obtain ⟨w, e3, k3⟩ := bd_eq k1
  refine ⟨(x, w), h1, k3, ?_, a1⟩
  rw [SE.bits_ev, e1, Oc.bind_ok, intO_eq e3]
theorem ce_notV (ha : CE env a ca Va Ea) : CE env (SE.notV a) (fun R k => ca R fun x => bd (boolD (Va x)) fun t => k (x, t)) (fun p => .bool (!p.2)) (fun p => Ea p.1) := fun ρ h f r R k z hz => by
  obtain ⟨x, h1, k1, e1, a1⟩ := ha ρ h f r R _ z hz
  obtain ⟨w, e3, k3⟩ := bd_eq k1
  refine ⟨(x, w), h1, k3, ?_, a1⟩
  rw [SE.notV_ev, e1, Oc.bind_ok, boolD_eq e3]
theorem ce_andV (ha : CE env a ca Va Ea) (hb : ∀ x, CE (Ea x) b (cb x) (Vb x) fun _ => Ea x) :
    CE env (SE.andV a b) (fun R k => ca R fun x => bd (boolD (Va x)) fun t => bd (if t = true then cb x D fun y => some (Vb x y) else some (.bool false)) fun z => k (x, z)) (fun p => p.2) (fun p => Ea p.1) := fun ρ h f r R k z hz => by
  obtain ⟨x, h1, k1, e1, a1⟩ := ha ρ h f r R _ z hz
  obtain ⟨t, e2, k2⟩ := bd_eq k1
  obtain ⟨w, e3, k3⟩ := bd_eq k2
  have e1' := e1
  rw [boolD_eq e2] at e1'
  cases t with
  | true =>
    rw [if_pos rfl] at e3
    obtain ⟨y, h2, k4, e4, a4⟩ := hb x ρ h1 f a1.rep D _ w e3
    cases k4
    refine ⟨(x, _), h2, k3, ?_, a1.trans a4⟩
    rw [SE.andV_ev, e1', Oc.bind_ok]
    exact e4
  | false =>
    rw [if_neg (by decide)] at e3
    cases e3
    refine ⟨(x, _), h1, k3, ?_, a1⟩
    rw [SE.andV_ev, e1', Oc.bind_ok]
theorem ce_chain {c : SE} {cc : α → β → Cd γ} {Vc : α → β → γ → D} (o o' : O2) (ha : CE env a ca Va Ea) (hb : ∀ x, CE (Ea x) b (cb x) (Vb x) (Eb x)) (hc : ∀ x y, CE (Eb x y) c (cc x y) (Vc x y) fun _ => Eb x y) :
    CE env (SE.chain o o' a b c) (fun R k => ca R fun x => cb x R fun y => bd (o.f (Va x) (Vb x y)) fun t => bd (boolD t) fun t => bd (if t = true then cc x y D fun z => o'.f (Vb x y) (Vc x y z) else some (.bool false)) fun z => k (x, y, z)) (fun p => p.2.2) (fun p => Eb p.1 p.2.1) := fun ρ h f r R k z hz => by
  obtain ⟨x, h1, k1, e1, a1⟩ := ha ρ h f r R _ z hz
  obtain ⟨y, h2, k2, e2, a2⟩ := hb x ρ h1 f a1.rep R _ z k1
  obtain ⟨w, e3, k3⟩ := bd_eq k2
  obtain ⟨t, e4, k4⟩ := bd_eq k3
  obtain ⟨u, e5, k5⟩ := bd_eq k4
  have q : fnV (f2 o.f) [.d (Va x), .d (Vb x y)] h2 = .ok (.d w) h2 := fnV_d (g := f2 o.f) (xs := [Va x, Vb x y]) e3
  rw [boolD_eq e4] at q
  cases t with
  | true =>
    rw [if_pos rfl] at e5
    obtain ⟨y3, h3, k6, e6, a6⟩ := hc x y ρ h2 f a2.rep D _ u e5
    refine ⟨(x, y, u), h3, k5, ?_, (a1.trans a2).trans a6⟩
    rw [SE.chain_ev, e1, Oc.bind_ok, e2, Oc.bind_ok, q, Oc.bind_ok]
    dsimp only
    rw [e6, Oc.bind_ok]
    exact fnV_d (g := f2 o'.f) (xs := [Vb x y, Vc x y y3]) k6
  | false =>
    rw [if_neg (by decide)] at e5
    cases e5
    refine ⟨(x, y, _), h2, k5, ?_, a1.trans a2⟩
    rw [SE.chain_ev, e1, Oc.bind_ok, e2, Oc.bind_ok, q, Oc.bind_ok]
end
theorem cl_nil : CL env SL.nil (fun _ k => k ()) (fun _ => []) (fun _ => env) := fun ρ h f r R k z hz => ⟨(), h, hz, rfl, .refl r⟩
theorem cl_cons {a : SE} {l : SL} {ca : Cd α} {cb : α → Cd β} {Va : α → D} {Ea : α → Ev} {Vb : α → β → List D} {Eb : α → β → Ev} (ha : CE env a ca Va Ea) (hb : ∀ x, CL (Ea x) l (cb x) (Vb x) (Eb x)) :
    CL env (SL.cons a l) (fun R k => ca R fun x => cb x R fun y => k (x, y)) (fun p => Va p.1 :: Vb p.1 p.2) (fun p => Eb p.1 p.2) := fun ρ h f r R k z hz => by
  obtain ⟨x, h1, k1, e1, a1⟩ := ha ρ h f r R _ z hz
  obtain ⟨y, h2, k2, e2, a2⟩ := hb x ρ h1 f a1.rep R _ z k1
  refine ⟨(x, y), h2, k2, ?_, a1.trans a2⟩
  rw [SL.cons_ev, e1, Oc.bind_ok, e2, Oc.bind_ok]
  rfl
theorem ca_b {xs : List D} (i : Nat) (e : env[i]? = some (.o xs)) : CA env (SE.var i) (fun _ k => k ()) (fun _ => .b i) (fun _ => env) := fun ρ h f r R k z hz => by
  obtain ⟨q1, q2⟩ := r.sl i _ e
  refine ⟨(), h, _, hz, ?_, q1, .refl r⟩
  rw [SE.var_ev, q1]
theorem cla_nil : CLA env SL.nil (fun _ k => k ()) (fun _ => []) (fun _ => env) := fun ρ h f r R k z hz => ⟨(), h, [], hz, rfl, trivial, .refl r⟩
theorem cla_cons {a : SE} {l : SL} {ca : Cd α} {cb : α → Cd β} {Va : α → Tt} {Ea : α → Ev} {Vb : α → β → List Tt} {Eb : α → β → Ev} (ha : CA env a ca Va Ea) (hb : ∀ x, CLA (Ea x) l (cb x) (Vb x) (Eb x)) :
    CLA env (SL.cons a l) (fun R k => ca R fun x => cb x R fun y => k (x, y)) (fun p => Va p.1 :: Vb p.1 p.2) (fun p => Eb p.1 p.2) := fun ρ h f r R k z hz => by
  obtain ⟨x, h1, v, k1, e1, d1, a1⟩ := ha ρ h f r R _ z hz
  obtain ⟨y, h2, vs, k2, e2, d2, a2⟩ := hb x ρ h1 f a1.rep R _ z k1
  refine ⟨(x, y), h2, v :: vs, k2, ?_, ⟨d1, d2⟩, a1.trans a2⟩
  rw [SL.cons_ev, e1, Oc.bind_ok, e2, Oc.bind_ok]
section
variable {l : SL} {c : Cd α} {V : α → List D} {E : α → Ev}
theorem ce_cb (o : ON) (hl : CL env l c V E) : CE env (SE.cb o l) (fun R k => c R fun a => bd (o.f (V a)) fun z => k (a, z)) (fun p => p.2) (fun p => E p.1) := fun ρ h f r R k z hz => by
  obtain ⟨x, h1, k1, e1, a1⟩ := hl ρ h f r R _ z hz
  obtain ⟨w, e3, k3⟩ := bd_eq k1
  refine ⟨(x, w), h1, k3, ?_, a1⟩
  rw [SE.cb_ev, e1, Oc.bind_ok]
  exact fnV_d e3
theorem ce_call {F : FSem} (M : List D → Option D) (hM : ∀ xs z, M xs = some z → FD F xs = some z) (hl : CL env l c V E) : CE env (SE.call F l) (fun R k => c R fun a => bd (M (V a)) fun z => k (a, z)) (fun p => p.2) (fun p => E p.1) := fun ρ h f r R k z hz => by
  obtain ⟨x, h1, k1, e1, a1⟩ := hl ρ h f r R _ z hz
  obtain ⟨w, e3, k3⟩ := bd_eq k1
  refine ⟨(x, w), h1, k3, ?_, a1⟩
  rw [SE.call_ev, e1, Oc.bind_ok]
  exact fnV_d (hM _ _ e3)
theorem permL_map (is : List Nat) (xs : List D) : permL is (xs.map Vd.d) = (permL is xs).map .d := by
  unfold permL
  rw [List.map_filterMap]
  congr 1
  funext i
  rw [List.getElem?_map]
theorem ce_callK {F : FSem} (M : List D → Option D) (is : List Nat) (hM : ∀ xs z, M xs = some z → FD F xs = some z) (hl : CL env l c V E) (len : ∀ a, (V a).length = is.length) : CE env (SE.callK F is l) (fun R k => c R fun a => bd (M (permL is (V a))) fun z => k (a, z)) (fun p => p.2) (fun p => E p.1) := fun ρ h f r R k z hz => by
  obtain ⟨x, h1, k1, e1, a1⟩ := hl ρ h f r R _ z hz
  obtain ⟨w, e3, k3⟩ := bd_eq k1
  refine ⟨(x, w), h1, k3, ?_, a1⟩
  rw [SE.callK_ev, e1, Oc.bind_ok, if_pos (by rw [List.length_map]; exact len x), permL_map]
  exact fnV_d (hM _ _ e3)
theorem ce_tup (hl : CL env l c V E) (len : ∀ a, (V a).length ≤ 1000000) : CE env (SE.tup l) c (fun a => .tuple (V a)) E := fun ρ h f r R k z hz => by
  obtain ⟨x, h1, k1, e1, a1⟩ := hl ρ h f r R _ z hz
  refine ⟨x, h1, k1, ?_, a1⟩
  rw [SE.tup_ev, e1, Oc.bind_ok, frzL_d]
  dsimp only
  rw [if_pos (len x)]
theorem ce_lst (hl : CL env l c V E) (len : ∀ a, (V a).length ≤ 1000000) : CE env (SE.lst l) c (fun a => .list (V a)) E := fun ρ h f r R k z hz => by
  obtain ⟨x, h1, k1, e1, a1⟩ := hl ρ h f r R _ z hz
  refine ⟨x, h1, k1, ?_, a1⟩
  rw [SE.lst_ev, e1, Oc.bind_ok, frzL_d]
  dsimp only
  rw [if_pos (len x)]
end
def atmO (o : Option D) : Option D := match o with
  | some z => if atom z = true then some z else none
  | none => none
theorem atmO_eq {o : Option D} {z : D} (h : atmO o = some z) : o = some z ∧ atom z = true := by
  unfold atmO at h
  split at h
  · split at h
    · rename_i q; cases h; exact ⟨rfl, q⟩
    · cases h
  · cases h
section
variable {l : SL} {c : Cd α} {V : α → List Tt} {E : α → Ev} {X : α → List D}
theorem ce_cbA (o : ON) (hl : CLA env l c V E) (hx : ∀ a, mapO (tv (E a)) (V a) = some (X a)) : CE env (SE.cb o l) (fun R k => c R fun a => bd (atmO (o.f (X a))) fun z => k (a, z)) (fun p => p.2) (fun p => E p.1) := fun ρ h f r R k z hz => by
  obtain ⟨x, h1, vs, k1, e1, d1, a1⟩ := hl ρ h f r R _ z hz
  obtain ⟨w, e3, k3⟩ := bd_eq k1
  obtain ⟨e4, at_⟩ := atmO_eq e3
  refine ⟨(x, w), h1, k3, ?_, a1⟩
  rw [SE.cb_ev, e1, Oc.bind_ok]
  exact fnV_a (d1.look a1.rep (hx x)) e4 at_
end
theorem atD_map_d (xs : List D) (i : Int) : atD (xs.map Vd.d) i = (atD xs i).map .d := by
  unfold atD
  rw [List.length_map]
  split
  · rw [List.getElem?_map]
  · split
    · rw [List.getElem?_map]
    · rfl
theorem ixD_int {x y z : D} (h : ixD x y = some z) : ∃ i, y = .int i := by
  unfold ixD at h
  split at h
  · exact ⟨_, rfl⟩
  · exact ⟨_, rfl⟩
  · cases h
theorem ce_ixo {b : SE} {cb : Cd β} {Vb : β → D} {Eb : β → Ev} {X : β → List D} {zs : List D} (i : Nat) (e : env[i]? = some (.o zs)) (hb : CE env b cb Vb Eb) (hx : ∀ y, (Eb y)[i]? = some (.o (X y))) :
    CE env (SE.ix (SE.var i) b) (fun R k => cb R fun y => bd (ixD (.list (X y)) (Vb y)) fun z => k (y, z)) (fun p => p.2) (fun p => Eb p.1) := fun ρ h f r R k z hz => by
  obtain ⟨y, h2, k2, e2, a2⟩ := hb ρ h f r R _ z hz
  obtain ⟨w, e3, k3⟩ := bd_eq k2
  refine ⟨(y, w), h2, k3, ?_, a2⟩
  obtain ⟨q1, q2⟩ := a2.rep.sl i _ (hx y)
  obtain ⟨j, ej⟩ := ixD_int e3
  rw [SE.ix_ev, SE.var_ev, q1]
  dsimp only
  rw [Oc.bind_ok, e2, Oc.bind_ok, ej]
  unfold SE.ixV
  dsimp only
  rw [q2]
  dsimp only
  rw [ej] at e3
  have e4 : atD (X y) j = some w := e3
  rw [atD_map_d, e4]
  rfl
theorem cso_none : CSO env SO.none (fun _ k => k ()) (fun _ => none) (fun _ => env) := fun ρ h f r R k z hz => ⟨(), h, hz, rfl, .refl r⟩
theorem cso_some {a : SE} {ca : Cd α} {Va : α → D} {Ea : α → Ev} (ha : CE env a ca Va Ea) : CSO env (SO.some a) (fun R k => ca R fun x => bd (intO (Va x)) fun i => k (x, i)) (fun p => some p.2) (fun p => Ea p.1) := fun ρ h f r R k z hz => by
  obtain ⟨x, h1, k1, e1, a1⟩ := ha ρ h f r R _ z hz
  obtain ⟨w, e3, k3⟩ := bd_eq k1
  refine ⟨(x, w), h1, k3, ?_, a1⟩
  show (a.ev ρ h).bind _ = _
  rw [e1, Oc.bind_ok, intO_eq e3]
def slD (x : D) (l u : Option Int) : Option D := match x with
  | .tuple ds => some (.tuple (G.cutD ds l u))
  | .list ds => some (.list (G.cutD ds l u))
  | _ => none
def revD : D → Option D
  | .tuple ds => some (.tuple ds.reverse)
  | .list ds => some (.list ds.reverse)
  | _ => none
section
variable {a : SE} {lo hi : SO} {ca : Cd α} {cl : α → Cd β} {cu : α → β → Cd γ} {Va : α → D} {Ea : α → Ev} {Vl : α → β → Option Int} {El : α → β → Ev} {Vu : α → β → γ → Option Int} {Eu : α → β → γ → Ev}
theorem ce_sl (ha : CE env a ca Va Ea) (hl : ∀ x, CSO (Ea x) lo (cl x) (Vl x) (El x)) (hu : ∀ x y, CSO (El x y) hi (cu x y) (Vu x y) (Eu x y)) :
    CE env (SE.sl a lo hi) (fun R k => ca R fun x => cl x R fun y => cu x y R fun z => bd (slD (Va x) (Vl x y) (Vu x y z)) fun w => k (x, y, z, w)) (fun p => p.2.2.2) (fun p => Eu p.1 p.2.1 p.2.2.1) := fun ρ h f r R k z hz => by
  obtain ⟨x, h1, k1, e1, a1⟩ := ha ρ h f r R _ z hz
  obtain ⟨y, h2, k2, e2, a2⟩ := hl x ρ h1 f a1.rep R _ z k1
  obtain ⟨y3, h3, k3, e3, a3⟩ := hu x y ρ h2 f a2.rep R _ z k2
  obtain ⟨w, e4, k4⟩ := bd_eq k3
  refine ⟨(x, y, y3, w), h3, k4, ?_, (a1.trans a2).trans a3⟩
  rw [SE.sl_ev, e1, Oc.bind_ok, e2, Oc.bind_ok, e3, Oc.bind_ok]
  unfold slD at e4
  split at e4
  · rename_i ds eq
    rw [eq]
    cases e4
    rfl
  · rename_i ds eq
    rw [eq]
    cases e4
    rfl
  · cases e4
end
section
variable {a b : SE} {ca : Cd α} {cb : α → Cd β} {Va : α → D} {Ea : α → Ev} {Vb : α → β → D} {Eb : α → β → Ev}
theorem ce_rev (ha : CE env a ca Va Ea) : CE env (SE.rev a) (fun R k => ca R fun x => bd (revD (Va x)) fun w => k (x, w)) (fun p => p.2) (fun p => Ea p.1) := fun ρ h f r R k z hz => by
  obtain ⟨x, h1, k1, e1, a1⟩ := ha ρ h f r R _ z hz
  obtain ⟨w, e4, k4⟩ := bd_eq k1
  refine ⟨(x, w), h1, k4, ?_, a1⟩
  rw [SE.rev_ev, e1, Oc.bind_ok]
  unfold revD at e4
  split at e4
  · rename_i ds eq
    rw [eq]
    cases e4
    rfl
  · rename_i ds eq
    rw [eq]
    cases e4
    rfl
  · cases e4
def rgD1 : D → Option D
  | .int i => if SE.rgOk 0 i = true then some (.list (SI.rng 0 i)) else none
  | _ => none
def rgD2 : D → D → Option D
  | .int j, .int i => if SE.rgOk j i = true then some (.list (SI.rng j i)) else none
  | _, _ => none
theorem ce_listRg1 (ha : CE env a ca Va Ea) : CE env (SE.listRg1 a) (fun R k => ca R fun x => bd (rgD1 (Va x)) fun w => k (x, w)) (fun p => p.2) (fun p => Ea p.1) := fun ρ h f r R k z hz => by
  obtain ⟨x, h1, k1, e1, a1⟩ := ha ρ h f r R _ z hz
  obtain ⟨w, e4, k4⟩ := bd_eq k1
  refine ⟨(x, w), h1, k4, ?_, a1⟩
  rw [SE.listRg1_ev, e1, Oc.bind_ok]
  unfold rgD1 at e4
  split at e4
  · rename_i i eq
    rw [eq]
    dsimp only
    split at e4
    · rename_i hr
      rw [if_pos hr]
      cases e4
      rfl
    · cases e4
  · cases e4
theorem ce_listRg2 (ha : CE env a ca Va Ea) (hb : ∀ x, CE (Ea x) b (cb x) (Vb x) (Eb x)) : CE env (SE.listRg2 a b) (fun R k => ca R fun x => cb x R fun y => bd (rgD2 (Va x) (Vb x y)) fun w => k (x, y, w)) (fun p => p.2.2) (fun p => Eb p.1 p.2.1) := fun ρ h f r R k z hz => by
  obtain ⟨x, h1, k1, e1, a1⟩ := ha ρ h f r R _ z hz
  obtain ⟨y, h2, k2, e2, a2⟩ := hb x ρ h1 f a1.rep R _ z k1
  obtain ⟨w, e4, k4⟩ := bd_eq k2
  refine ⟨(x, y, w), h2, k4, ?_, a1.trans a2⟩
  rw [SE.listRg2_ev, e1, Oc.bind_ok, e2, Oc.bind_ok]
  unfold rgD2 at e4
  split at e4
  · rename_i j i eq eq2
    rw [eq, eq2]
    dsimp only
    split at e4
    · rename_i hr
      rw [if_pos hr]
      cases e4
      rfl
    · cases e4
  · cases e4
theorem ce_lenSet (ha : CE env a ca Va Ea) : CE env (SE.lenSet a) (fun R k => ca R fun x => bd (lenSetD (Va x)) fun z => k (x, z)) (fun p => p.2) (fun p => Ea p.1) := ce_un oLenSet ha
end
section
variable {a : SE} {ca : Cd α} {Va : α → D} {Ea : α → Ev}
theorem cb_test (ha : CE env a ca Va Ea) : CB env (SB.test a) (fun R k => ca R fun x => bd (boolD (Va x)) fun t => k (x, t)) (fun p => p.2) (fun p => Ea p.1) := fun ρ h f r R k z hz => by
  obtain ⟨x, h1, k1, e1, a1⟩ := ha ρ h f r R _ z hz
  obtain ⟨w, e3, k3⟩ := bd_eq k1
  refine ⟨(x, w), h1, k3, ?_, a1⟩
  rw [SB.test_ev, e1, Oc.bind_ok, boolD_eq e3]
theorem cb_val (ha : CE env a ca Va Ea) : CB env (SB.val a) (fun R k => ca R fun x => bd (boolD (Va x)) fun t => k (x, t)) (fun p => p.2) (fun p => Ea p.1) := fun ρ h f r R k z hz => by
  obtain ⟨x, h1, k1, e1, a1⟩ := ha ρ h f r R _ z hz
  obtain ⟨w, e3, k3⟩ := bd_eq k1
  refine ⟨(x, w), h1, k3, ?_, a1⟩
  rw [SB.val_ev, e1, Oc.bind_ok, boolD_eq e3]
end
section
variable {a b : SB} {ca : Cd α} {cb : α → Cd β} {Va : α → Bool} {Ea : α → Ev} {Vb : α → β → Bool}
theorem cb_or (ha : CB env a ca Va Ea) (hb : ∀ x, CB (Ea x) b (cb x) (Vb x) fun _ => Ea x) :
    CB env (SB.or a b) (fun R k => ca R fun x => bd (if Va x = true then some true else cb x Bool fun y => some (Vb x y)) fun t => k (x, t)) (fun p => p.2) (fun p => Ea p.1) := fun ρ h f r R k z hz => by
  obtain ⟨x, h1, k1, e1, a1⟩ := ha ρ h f r R _ z hz
  obtain ⟨w, e3, k3⟩ := bd_eq k1
  cases c : Va x with
  | false =>
    rw [c] at e1 e3
    rw [if_neg (by decide)] at e3
    obtain ⟨y, h2, k4, e4, a4⟩ := hb x ρ h1 f a1.rep Bool _ w e3
    cases k4
    refine ⟨(x, _), h2, k3, ?_, a1.trans a4⟩
    rw [SB.or_ev, e1, Oc.bind_ok]
    exact e4
  | true =>
    rw [c] at e1 e3
    rw [if_pos rfl] at e3
    cases e3
    refine ⟨(x, _), h1, k3, ?_, a1⟩
    rw [SB.or_ev, e1, Oc.bind_ok]
theorem cb_not (ha : CB env a ca Va Ea) : CB env (SB.not a) ca (fun x => !Va x) Ea := fun ρ h f r R k z hz => by
  obtain ⟨x, h1, k1, e1, a1⟩ := ha ρ h f r R _ z hz
  refine ⟨x, h1, k1, ?_, a1⟩
  rw [SB.not_ev, e1, Oc.bind_ok]
theorem cb_yes : CB env SB.yes (fun _ k => k ()) (fun _ => true) (fun _ => env) := fun ρ h f r R k z hz => ⟨(), h, hz, rfl, .refl r⟩
theorem ce_ifx {x y : SE} {cx : α → Cd β} {cy : α → Cd γ} {Vx : α → β → D} {Vy : α → γ → D} (ha : CB env a ca Va Ea) (hx : ∀ p, CE (Ea p) x (cx p) (Vx p) fun _ => Ea p) (hy : ∀ p, CE (Ea p) y (cy p) (Vy p) fun _ => Ea p) :
    CE env (SE.ifx a x y) (fun R k => ca R fun p => bd (if Va p = true then cx p D fun q => some (Vx p q) else cy p D fun q => some (Vy p q)) fun z => k (p, z)) (fun p => p.2) (fun p => Ea p.1) := fun ρ h f r R k z hz => by
  obtain ⟨p, h1, k1, e1, a1⟩ := ha ρ h f r R _ z hz
  obtain ⟨w, e3, k3⟩ := bd_eq k1
  cases c : Va p with
  | false =>
    rw [c] at e1 e3
    rw [if_neg (by decide)] at e3
    obtain ⟨y, h2, k4, e4, a4⟩ := hy p ρ h1 f a1.rep D _ w e3
    cases k4
    refine ⟨(p, _), h2, k3, ?_, a1.trans a4⟩
    rw [SE.ifx_ev, e1, Oc.bind_ok]
    exact e4
  | true =>
    rw [c] at e1 e3
    rw [if_pos rfl] at e3
    obtain ⟨y, h2, k4, e4, a4⟩ := hx p ρ h1 f a1.rep D _ w e3
    cases k4
    refine ⟨(p, _), h2, k3, ?_, a1.trans a4⟩
    rw [SE.ifx_ev, e1, Oc.bind_ok]
    exact e4
end
end
end J
end
section
set_option maxRecDepth 100000
set_option maxHeartbeats 2000000
namespace J
open PySem PySem.Spec PyProof.Rows L2 G N
def CT {α : Type} (env : Ev) (tg : ST) (c : D → Cd α) (E : α → Ev) : Prop :=
  ∀ (ρ : Rh) (h : Hd) (f : Nat → Nat), Rep ρ h f env → ∀ (x : D) (R : Type) (k : α → Option R) (r : R), c x R k = some r → ∃ a ρ', k a = some r ∧ tg.put (.d x) ρ = some ρ' ∧ Rep ρ' h f (E a) ∧ ∀ (i : Nat) (zs : List D), (E a)[i]? = some (.o zs) → env[i]? = some (.o zs)
theorem own_set_d {env : Ev} {i j : Nat} {x : D} {zs : List D} (e : (env.set i (.d x))[j]? = some (.o zs)) : env[j]? = some (.o zs) := by
  by_cases c : i = j
  · subst c
    have l : i < env.length := by
      have := (List.getElem?_eq_some_iff.mp e).1
      rwa [List.length_set] at this
    rw [List.getElem?_set_self l] at e
    cases e
  · rwa [List.getElem?_set_ne c] at e
theorem own_set_no {env : Ev} {i j : Nat} {zs : List D} (e : (env.set i .no)[j]? = some (.o zs)) : env[j]? = some (.o zs) := by
  by_cases c : i = j
  · subst c
    have l : i < env.length := by
      have := (List.getElem?_eq_some_iff.mp e).1
      rwa [List.length_set] at this
    rw [List.getElem?_set_self l] at e
    cases e
  · rwa [List.getElem?_set_ne c] at e
section
variable {env : Ev}
theorem ct_name (i : Nat) (l : i < env.length) : CT env (ST.name i) (fun x _ k => k x) (fun x => env.set i (.d x)) := fun ρ h f r x R k z hz => ⟨x, _, hz, rfl, r.put_d l x, fun j zs e => own_set_d e⟩
def un2 : D → Option (D × D)
  | .tuple [a, b] => some (a, b)
  | _ => none
def un3 : D → Option (D × D × D)
  | .tuple [a, b, c] => some (a, b, c)
  | _ => none
def un4 : D → Option (D × D × D × D)
  | .tuple [a, b, c, d] => some (a, b, c, d)
  | _ => none
def un5 : D → Option (D × D × D × D × D)
  | .tuple [a, b, c, d, e] => some (a, b, c, d, e)
  | _ => none
def ul2 : D → Option (D × D)
  | .list [a, b] => some (a, b)
  | _ => none
def ul3 : D → Option (D × D × D)
  | .list [a, b, c] => some (a, b, c)
  | _ => none
def ul4 : D → Option (D × D × D × D)
  | .list [a, b, c, d] => some (a, b, c, d)
  | _ => none
@[simp] theorem un2_t (a b : D) : un2 (.tuple [a, b]) = some (a, b) := rfl
@[simp] theorem un3_t (a b c : D) : un3 (.tuple [a, b, c]) = some (a, b, c) := rfl
@[simp] theorem un4_t (a b c d : D) : un4 (.tuple [a, b, c, d]) = some (a, b, c, d) := rfl
@[simp] theorem un5_t (a b c d e : D) : un5 (.tuple [a, b, c, d, e]) = some (a, b, c, d, e) := rfl
@[simp] theorem ul2_t (a b : D) : ul2 (.list [a, b]) = some (a, b) := rfl
@[simp] theorem ul3_t (a b c : D) : ul3 (.list [a, b, c]) = some (a, b, c) := rfl
@[simp] theorem ul4_t (a b c d : D) : ul4 (.list [a, b, c, d]) = some (a, b, c, d) := rfl
theorem un2_eq {x : D} {p : D × D} (h : un2 x = some p) : x = .tuple [p.1, p.2] := by
  unfold un2 at h; split at h
  · cases h; rfl
  · cases h
theorem ct_tup2 (i j : Nat) (l1 : i < env.length) (l2 : j < env.length) : CT env (ST.tup (STs.cons (ST.name i) (STs.cons (ST.name j) STs.nil))) (fun x R k => bd (un2 x) k) (fun p => (env.set i (.d p.1)).set j (.d p.2)) := fun ρ h f r x R k z hz => by
  obtain ⟨p, e, k1⟩ := bd_eq hz
  rw [un2_eq e]
  exact ⟨p, _, k1, rfl, (r.put_d l1 p.1).put_d (by rw [List.length_set]; exact l2) p.2, fun i zs e => own_set_d (own_set_d e)⟩
end
section
variable {α β : Type} {env : Ev} {a : SE} {ca : Cd α} {Va : α → D} {Ea : α → Ev}
theorem ci_seq (ha : CE env a ca Va Ea) : CI env (SI.seq a) (fun R k => ca R fun x => bd (seqD (Va x)) fun es => k (x, es)) (fun p => p.2) (fun p => Ea p.1) := fun ρ h f r R k z hz => by
  obtain ⟨x, h1, k1, e1, a1⟩ := ha ρ h f r R _ z hz
  obtain ⟨w, e3, k3⟩ := bd_eq k1
  refine ⟨(x, w), h1, k3, ?_, a1⟩
  rw [SI.seq_ev, e1, Oc.bind_ok, show N.frz h1 (.d (Va x)) = some (Va x, h1) from rfl]
  dsimp only
  rw [e3]
theorem ci_seqf {x : D} (i : Nat) (e : env[i]? = some (.f x)) : CI env (SI.seq (SE.var i)) (fun R k => bd (seqD x) k) (fun p => p) (fun _ => env) := fun ρ h f r R k z hz => by
  obtain ⟨v, q1, q2⟩ := r.sl i _ e
  obtain ⟨w, e3, k3⟩ := bd_eq hz
  refine ⟨w, h, k3, ?_, .refl r⟩
  rw [SI.seq_ev, SE.var_ev, q1]
  dsimp only
  rw [Oc.bind_ok, q2.frz]
  dsimp only
  rw [e3]
def disD : D → Option (List D)
  | .list ds => some ds
  | _ => none
@[simp] theorem disD_l (ds : List D) : disD (.list ds) = some ds := rfl
theorem ci_revd (ha : CE env a ca Va Ea) : CI env (SI.revd a) (fun R k => ca R fun x => bd (seqD (Va x)) fun es => k (x, es)) (fun p => p.2.reverse) (fun p => Ea p.1) := fun ρ h f r R k z hz => by
  obtain ⟨x, h1, k1, e1, a1⟩ := ha ρ h f r R _ z hz
  obtain ⟨w, e3, k3⟩ := bd_eq k1
  refine ⟨(x, w), h1, k3, ?_, a1⟩
  rw [SI.revd_ev, e1, Oc.bind_ok, show N.frz h1 (.d (Va x)) = some (Va x, h1) from rfl]
  dsimp only
  rw [e3]
variable {l : SL} {c : Cd α} {V : α → List D} {E : α → Ev}
def rgI1 : List D → Option (List D)
  | [.int n] => if SI.big62 n = true then some (SI.rng 0 n) else none
  | _ => none
def rgI2 : List D → Option (List D)
  | [.int l, .int n] => if (SI.big62 l && SI.big62 n) = true then some (SI.rng l n) else none
  | _ => none
theorem ci_rng1 (hl : CL env l c V E) : CI env (SI.rng1 l) (fun R k => c R fun x => bd (rgI1 (V x)) fun es => k (x, es)) (fun p => p.2) (fun p => E p.1) := fun ρ h f r R k z hz => by
  obtain ⟨x, h1, k1, e1, a1⟩ := hl ρ h f r R _ z hz
  obtain ⟨w, e3, k3⟩ := bd_eq k1
  refine ⟨(x, w), h1, k3, ?_, a1⟩
  rw [SI.rng1_ev, e1, Oc.bind_ok]
  unfold rgI1 at e3
  split at e3
  · rename_i n q
    rw [q]
    dsimp only [List.map]
    split at e3
    · rename_i b
      rw [if_pos b]
      cases e3
      rfl
    · cases e3
  · cases e3
theorem ci_rng2 (hl : CL env l c V E) : CI env (SI.rng2 l) (fun R k => c R fun x => bd (rgI2 (V x)) fun es => k (x, es)) (fun p => p.2) (fun p => E p.1) := fun ρ h f r R k z hz => by
  obtain ⟨x, h1, k1, e1, a1⟩ := hl ρ h f r R _ z hz
  obtain ⟨w, e3, k3⟩ := bd_eq k1
  refine ⟨(x, w), h1, k3, ?_, a1⟩
  rw [SI.rng2_ev, e1, Oc.bind_ok]
  unfold rgI2 at e3
  split at e3
  · rename_i n m q
    rw [q]
    dsimp only [List.map]
    split at e3
    · rename_i b
      rw [if_pos b]
      cases e3
      rfl
    · cases e3
  · cases e3
theorem ci_zip (hl : CL env l c V E) : CI env (SI.zip l) (fun R k => c R fun x => bd (SI.zipE (V x)) fun es => k (x, es)) (fun p => p.2) (fun p => E p.1) := fun ρ h f r R k z hz => by
  obtain ⟨x, h1, k1, e1, a1⟩ := hl ρ h f r R _ z hz
  obtain ⟨w, e3, k3⟩ := bd_eq k1
  refine ⟨(x, w), h1, k3, ?_, a1⟩
  rw [SI.zip_ev, e1, Oc.bind_ok, frzL_d]
  dsimp only
  rw [e3]
def enI : List D → Option (List D)
  | [.list ds] => some (enumD ds)
  | _ => none
@[simp] theorem enI_l (ds : List D) : enI [.list ds] = some (enumD ds) := rfl
end
def wipeE (env : Ev) : List Nat → Ev
  | [] => env
  | v :: vs => (wipeE env vs).set v .no
theorem Rep.wipe {ρ : Rh} {h : Hd} {f : Nat → Nat} {env : Ev} (r : Rep ρ h f env) : ∀ vs, Rep (wipeN ρ vs) h f (wipeE env vs)
  | [] => r
  | v :: vs => by
    have q := r.wipe vs
    show Rep ((wipeN ρ vs).set v none) h f ((wipeE env vs).set v .no)
    refine ⟨by rw [List.length_set, List.length_set]; exact q.len, fun j t e => ?_, fun j k xs ys e1 e2 => q.inj j k xs ys (own_set_no e1) (own_set_no e2), q.dj_mono (fun j k x e => (by
      obtain ⟨a, c⟩ := set_t nt_no e
      exact ⟨a, List.getElem?_set_ne c⟩)) fun _ _ _ _ t => t⟩
    by_cases c : v = j
    · subst c
      have l : v < (wipeE env vs).length := by
        have := (List.getElem?_eq_some_iff.mp e).1
        rwa [List.length_set] at this
      rw [List.getElem?_set_self l] at e
      cases e
      trivial
    · rw [List.getElem?_set_ne c] at e
      have z := q.sl j t e
      have e0 : ((wipeN ρ vs).set v none)[j]? = (wipeN ρ vs)[j]? := List.getElem?_set_ne c
      cases t with
      | no => trivial
      | d x => show ((wipeN ρ vs).set v none)[j]? = _; rw [e0]; exact z
      | f x => obtain ⟨w, h1, h2⟩ := z; exact ⟨w, by rw [e0]; exact h1, h2⟩
      | e x => obtain ⟨n, h1, h2⟩ := z; exact ⟨n, by rw [e0]; exact h1, h2⟩
      | o xs => exact ⟨by rw [e0]; exact z.1, z.2⟩
      | t k x => obtain ⟨w, I, h1, h2⟩ := z; exact ⟨w, I, by rw [e0]; exact h1, h2⟩
theorem wipe_own {env : Ev} {i : Nat} {zs : List D} : ∀ {vs : List Nat}, (wipeE env vs)[i]? = some (.o zs) → env[i]? = some (.o zs)
  | [], e => e
  | v :: vs, e => wipe_own (vs := vs) (own_set_no e)
theorem Af.back {ρ ρ1 : Rh} {h h' : Hd} {f : Nat → Nat} {env e1 e2 : Ev} (r : Rep ρ h f env) (s1 : ∀ (i : Nat) (zs : List D), e1[i]? = some (.o zs) → env[i]? = some (.o zs)) (s2 : ∀ (i : Nat) (zs : List D), e1[i]? = some (.o zs) → e2[i]? = some (.o zs)) (a : Af ρ1 h f e1 h' e2) : Af ρ h f env h' env := by
  refine ⟨⟨r.len, fun j t e => ?_, r.inj, r.dj_mono (fun i k x e => ⟨e, rfl⟩) fun k v x I t => t.frame fun i hi => (by
    obtain ⟨b, ys, q⟩ := t.nod i hi
    rw [a.kp i _ q fun k zs q' => r.out_nod q k zs (s1 k zs q'), q])⟩, a.len, fun n e p o => a.kp n e p fun i zs q => o i zs (s1 i zs q), fun i zs e => ⟨zs, e⟩⟩
  have z := r.sl j t e
  cases t with
  | no => trivial
  | d x => exact z
  | f x =>
    obtain ⟨w, h1, h2⟩ := z
    refine ⟨w, h1, ?_⟩
    rcases h2 with h2 | ⟨n, h2, h3⟩
    · exact .inl h2
    · refine .inr ⟨n, h2, a.kp n _ h3 fun i zs q => ?_⟩
      exact r.out_frz h3 i zs (s1 i zs q)
  | e x => obtain ⟨n, h1, h3⟩ := z; exact ⟨n, h1, a.kp n _ h3 fun i zs q => r.out_err h3 i zs (s1 i zs q)⟩
  | t k x =>
    obtain ⟨w, I, h1, h2⟩ := z
    refine ⟨w, I, h1, h2.frame fun i hi => ?_⟩
    obtain ⟨b, ys, q⟩ := h2.nod i hi
    rw [a.kp i _ q fun k zs q' => r.out_nod q k zs (s1 k zs q'), q]
  | o xs =>
    refine ⟨z.1, ?_⟩
    by_cases c : ∃ zs, e1[j]? = some (.o zs)
    · obtain ⟨zs, c⟩ := c
      have := s1 j zs c
      rw [e] at this
      cases this
      exact (a.rep.sl j _ (s2 j _ c)).2
    · refine a.kp _ _ z.2 fun i zs q y => ?_
      have := r.inj i j zs xs (s1 i zs q) e y
      subst this
      exact c ⟨zs, q⟩
def lcF (st : D → Option (Option D)) : List D → Option (List D)
  | [] => some []
  | x :: xs => bd (st x) fun o => bd (lcF st xs) fun ys => some (o.toList ++ ys)
section
variable {α β γ δ : Type} {env : Ev} {tg : ST} {g : SE} {vs : List Nat} {ct : D → Cd α} {Et : α → Ev} {f : Nat → Nat} {ρ : Rh}
theorem lc_goF {c : SB} {cc : α → Cd β} {Vc : α → β → Bool} {cg : α → Cd γ} {Vg : α → γ → D}
    (ht : CT (wipeE env vs) tg ct Et) (hc : ∀ a, CB (Et a) c (cc a) (Vc a) fun _ => Et a) (hg : ∀ a, CE (Et a) g (cg a) (Vg a) fun _ => Et a) :
    ∀ (xs : List D) (ys : List D) (out : List Vd) (h : Hd), Rep ρ h f env → lcF (fun x => ct x (Option D) fun a => cc a (Option D) fun b => if Vc a b = true then cg a (Option D) fun y => some (some (Vg a y)) else some none) xs = some ys →
      ∃ h', lcR tg.put c.ev g.ev (wipeN ρ vs) xs out h = .ok (out ++ ys.map .d) h' ∧ Af ρ h f env h' env
  | [], ys, out, h, r, e => by cases e; exact ⟨h, by unfold lcR; simp, .refl r⟩
  | x :: xs, ys, out, h, r, e => by
    unfold lcF at e
    obtain ⟨o, e1, e⟩ := bd_eq e
    obtain ⟨ws, e4, e⟩ := bd_eq e
    cases e
    obtain ⟨a, ρ1, k1, p1, r1, s1⟩ := ht _ h f (r.wipe vs) x _ _ o e1
    obtain ⟨b, h1, k2, e2, a2⟩ := hc a ρ1 h f r1 _ _ o k1
    have sub : ∀ (i : Nat) (zs : List D), (Et a)[i]? = some (.o zs) → env[i]? = some (.o zs) := fun i zs q => wipe_own (s1 i zs q)
    have A2 := Af.back r sub (fun i zs q => q) a2
    unfold lcR
    rw [p1]
    dsimp only
    rw [e2]
    cases cv : Vc a b with
    | false =>
      rw [cv, if_neg (by decide)] at k2
      cases k2
      obtain ⟨h', z, A⟩ := lc_goF ht hc hg xs ws out h1 A2.rep e4
      exact ⟨h', z, A2.trans A⟩
    | true =>
      rw [cv, if_pos rfl] at k2
      obtain ⟨y, h2, k3, e3, a3⟩ := hg a ρ1 h1 f a2.rep _ _ o k2
      cases k3
      have A3 := Af.back A2.rep sub (fun i zs q => q) a3
      dsimp only
      rw [e3]
      dsimp only
      obtain ⟨h', z, A⟩ := lc_goF ht hc hg xs ws (out ++ [.d (Vg a y)]) h2 A3.rep e4
      refine ⟨h', ?_, (A2.trans A3).trans A⟩
      rw [z, List.append_assoc]
      rfl
theorem lc_goY {cg : α → Cd γ} {Vg : α → γ → D} (ht : CT (wipeE env vs) tg ct Et) (hg : ∀ a, CE (Et a) g (cg a) (Vg a) fun _ => Et a) :
    ∀ (xs : List D) (ys : List D) (out : List Vd) (h : Hd), Rep ρ h f env → mapO (fun x => ct x D fun a => cg a D fun y => some (Vg a y)) xs = some ys →
      ∃ h', lcR tg.put SB.yes.ev g.ev (wipeN ρ vs) xs out h = .ok (out ++ ys.map .d) h' ∧ Af ρ h f env h' env
  | [], ys, out, h, r, e => by cases e; exact ⟨h, by unfold lcR; simp, .refl r⟩
  | x :: xs, ys, out, h, r, e => by
    unfold mapO at e
    split at e
    · cases e
    · rename_i y e1
      split at e
      · cases e
      · rename_i ws e4
        cases e
        obtain ⟨a, ρ1, k1, p1, r1, s1⟩ := ht _ h f (r.wipe vs) x _ _ y e1
        obtain ⟨b, h1, k2, e2, a2⟩ := hg a ρ1 h f r1 _ _ y k1
        cases k2
        have sub : ∀ (i : Nat) (zs : List D), (Et a)[i]? = some (.o zs) → env[i]? = some (.o zs) := fun i zs q => wipe_own (s1 i zs q)
        have A2 := Af.back r sub (fun i zs q => q) a2
        obtain ⟨h', z, A⟩ := lc_goY ht hg xs ws (out ++ [.d (Vg a b)]) h1 A2.rep e4
        refine ⟨h', ?_, A2.trans A⟩
        unfold lcR
        rw [p1]
        dsimp only
        rw [show SB.yes.ev ρ1 h = .ok true h from rfl]
        dsimp only
        rw [e2]
        dsimp only
        rw [z, List.append_assoc]
        rfl
end
section
variable {α β γ : Type} {env : Ev} {it : SI} {tg : ST} {g : SE} {ci : Cd α} {Vi : α → List D} {Ei : α → Ev}
theorem ce_lc {δ : Type} {c : SB} {ct : α → D → Cd β} {Et : α → β → Ev} {cc : α → β → Cd γ} {Vc : α → β → γ → Bool} {cg : α → β → Cd δ} {Vg : α → β → δ → D} (hi : CI env it ci Vi Ei)
    (ht : ∀ p, CT (wipeE (Ei p) tg.vs) tg (ct p) (Et p)) (hc : ∀ p a, CB (Et p a) c (cc p a) (Vc p a) fun _ => Et p a) (hg : ∀ p a, CE (Et p a) g (cg p a) (Vg p a) fun _ => Et p a) :
    CE env (SE.lc it tg c g) (fun R k => ci R fun p => bd (if (Vi p).length ≤ 1000000 then lcF (fun x => ct p x (Option D) fun a => cc p a (Option D) fun b => if Vc p a b = true then cg p a (Option D) fun y => some (some (Vg p a y)) else some none) (Vi p) else none) fun ys => k (p, ys)) (fun q => .list q.2) (fun q => Ei q.1) := fun ρ h f r R k z hz => by
  obtain ⟨p, h1, k1, e1, a1⟩ := hi ρ h f r R _ z hz
  obtain ⟨ys, e2, k2⟩ := bd_eq k1
  by_cases l : (Vi p).length ≤ 1000000
  · rw [if_pos l] at e2
    obtain ⟨h', e3, a3⟩ := lc_goF (ht p) (hc p) (hg p) (Vi p) ys [] h1 a1.rep e2
    refine ⟨(p, ys), h', k2, ?_, a1.trans a3⟩
    rw [SE.lc_ev, e1, Oc.bind_ok, if_pos l, e3]
    dsimp only
    rw [List.nil_append, frzL_d]
  · rw [if_neg l] at e2
    cases e2
theorem ce_lcY {ct : α → D → Cd β} {Et : α → β → Ev} {cg : α → β → Cd γ} {Vg : α → β → γ → D} (hi : CI env it ci Vi Ei)
    (ht : ∀ p, CT (wipeE (Ei p) tg.vs) tg (ct p) (Et p)) (hg : ∀ p a, CE (Et p a) g (cg p a) (Vg p a) fun _ => Et p a) :
    CE env (SE.lc it tg SB.yes g) (fun R k => ci R fun p => bd (if (Vi p).length ≤ 1000000 then mapO (fun x => ct p x D fun a => cg p a D fun y => some (Vg p a y)) (Vi p) else none) fun ys => k (p, ys)) (fun q => .list q.2) (fun q => Ei q.1) := fun ρ h f r R k z hz => by
  obtain ⟨p, h1, k1, e1, a1⟩ := hi ρ h f r R _ z hz
  obtain ⟨ys, e2, k2⟩ := bd_eq k1
  by_cases l : (Vi p).length ≤ 1000000
  · rw [if_pos l] at e2
    obtain ⟨h', e3, a3⟩ := lc_goY (ht p) (hg p) (Vi p) ys [] h1 a1.rep e2
    refine ⟨(p, ys), h', k2, ?_, a1.trans a3⟩
    rw [SE.lc_ev, e1, Oc.bind_ok, if_pos l, e3]
    dsimp only
    rw [List.nil_append, frzL_d]
  · rw [if_neg l] at e2
    cases e2
theorem new_at {h : Hd} {e : Ent} : (h ++ [e])[h.length]? = some e := by rw [List.getElem?_append_right (Nat.le_refl _), Nat.sub_self]; rfl
theorem co_lcY {ct : α → D → Cd β} {Et : α → β → Ev} {cg : α → β → Cd γ} {Vg : α → β → γ → D} (hi : CI env it ci Vi Ei)
    (ht : ∀ p, CT (wipeE (Ei p) tg.vs) tg (ct p) (Et p)) (hg : ∀ p a, CE (Et p a) g (cg p a) (Vg p a) fun _ => Et p a) :
    CO env (SE.lcM it tg SB.yes g) (fun R k => ci R fun p => bd (if (Vi p).length ≤ 1000000 then mapO (fun x => ct p x D fun a => cg p a D fun y => some (Vg p a y)) (Vi p) else none) fun ys => k (p, ys)) (fun q => q.2) (fun q => Ei q.1) := fun ρ h f r R k z hz => by
  obtain ⟨p, h1, k1, e1, a1⟩ := hi ρ h f r R _ z hz
  obtain ⟨ys, e2, k2⟩ := bd_eq k1
  by_cases l : (Vi p).length ≤ 1000000
  · rw [if_pos l] at e2
    obtain ⟨h', e3, a3⟩ := lc_goY (ht p) (hg p) (Vi p) ys [] h1 a1.rep e2
    refine ⟨(p, ys), h' ++ [.lst (ys.map .d)], h'.length, k2, ?_, new_at, (a1.trans a3).len, (a1.trans a3).trans (a3.rep.new _)⟩
    rw [SE.lcM_ev, e1, Oc.bind_ok, if_pos l, e3]
    dsimp only
    rw [List.nil_append]
  · rw [if_neg l] at e2
    cases e2
end
section
variable {α β γ : Type} {env : Ev} {l : SL} {c : Cd α} {V : α → List D} {E : α → Ev} {a b : SE} {ca : Cd α} {cb : α → Cd β} {Va : α → D} {Ea : α → Ev} {Vb : α → β → D} {Eb : α → β → Ev}
theorem co_lst (hl : CL env l c V E) (len : ∀ a, (V a).length ≤ 1000000) : CO env (SE.lstM l) c V E := fun ρ h f r R k z hz => by
  obtain ⟨x, h1, k1, e1, a1⟩ := hl ρ h f r R _ z hz
  refine ⟨x, h1 ++ [.lst ((V x).map .d)], h1.length, k1, ?_, new_at, a1.len, a1.trans (a1.rep.new _)⟩
  rw [SE.lstM_ev, e1, Oc.bind_ok, if_pos (by rw [List.length_map]; exact len x)]
theorem co_listRg1 (ha : CE env a ca Va Ea) : CO env (SE.listRg1M a) (fun R k => ca R fun x => bd (rgD1 (Va x)) fun w => bd (disD w) fun w => k (x, w)) (fun p => p.2) (fun p => Ea p.1) := fun ρ h f r R k z hz => by
  obtain ⟨x, h1, k1, e1, a1⟩ := ha ρ h f r R _ z hz
  obtain ⟨w, e4, k4⟩ := bd_eq k1
  obtain ⟨w2, e5, k5⟩ := bd_eq k4
  refine ⟨(x, w2), h1 ++ [.lst (w2.map .d)], h1.length, k5, ?_, new_at, a1.len, a1.trans (a1.rep.new _)⟩
  rw [SE.listRg1M_ev, e1, Oc.bind_ok]
  unfold rgD1 at e4
  split at e4
  · rename_i i eq
    rw [eq]
    dsimp only
    split at e4
    · rename_i hr
      rw [if_pos hr]
      cases e4
      cases e5
      rfl
    · cases e4
  · cases e4
theorem itemsL_d {x : D} {xs : List D} {h : Hd} (e : disD x = some xs) : SE.itemsL h (.d x) = some (xs.map .d) := by
  cases x with
  | list ds => cases e; rfl
  | _ => cases e
theorem co_add (ha : CE env a ca Va Ea) (hb : ∀ x, CE (Ea x) b (cb x) (Vb x) (Eb x)) :
    CO env (SE.addM a b) (fun R k => ca R fun x => cb x R fun y => bd (oAdd.f (Va x) (Vb x y)) fun w => bd (disD w) fun w => k (x, y, w)) (fun p => p.2.2) (fun p => Eb p.1 p.2.1) := fun ρ h f r R k z hz => by
  obtain ⟨x, h1, k1, e1, a1⟩ := ha ρ h f r R _ z hz
  obtain ⟨y, h2, k2, e2, a2⟩ := hb x ρ h1 f a1.rep R _ z k1
  obtain ⟨w, e4, k4⟩ := bd_eq k2
  obtain ⟨w2, e5, k5⟩ := bd_eq k4
  have A := a1.trans a2
  refine ⟨(x, y, w2), h2 ++ [.lst (w2.map .d)], h2.length, k5, ?_, new_at, A.len, A.trans (A.rep.new _)⟩
  rw [SE.addM_ev, e1, Oc.bind_ok, e2, Oc.bind_ok]
  have e4' : addD (Va x) (Vb x y) = some w := e4
  unfold addD at e4'
  split at e4'
  · cases e4'; cases e5
  · rename_i xs ys p1 p2
    rw [p1, p2]
    split at e4'
    · rename_i q
      cases e4'
      cases e5
      dsimp only [SE.itemsL]
      rw [if_pos (by rw [List.length_map, List.length_map]; exact q), List.map_append]
    · cases e4'
  · split at e4'
    · cases e4'; cases e5
    · cases e4'
  · cases e4'
theorem co_rev (ha : CE env a ca Va Ea) : CO env (SE.revM a) (fun R k => ca R fun x => bd (disD (Va x)) fun w => k (x, w)) (fun p => p.2.reverse) (fun p => Ea p.1) := fun ρ h f r R k z hz => by
  obtain ⟨x, h1, k1, e1, a1⟩ := ha ρ h f r R _ z hz
  obtain ⟨w, e3, k3⟩ := bd_eq k1
  refine ⟨(x, w), h1 ++ [.lst (w.reverse.map .d)], h1.length, k3, ?_, new_at, a1.len, a1.trans (a1.rep.new _)⟩
  rw [SE.revM_ev, e1, Oc.bind_ok, itemsL_d e3]
  dsimp only
  rw [List.map_reverse]
theorem co_callM {F : FSem} (M : List D → Option (List D)) (hM : ∀ xs z, M xs = some z → FM F xs = some z) (hl : CL env l c V E) : CO env (SE.callM F l) (fun R k => c R fun a => bd (M (V a)) fun z => k (a, z)) (fun p => p.2) (fun p => E p.1) := fun ρ h f r R k z hz => by
  obtain ⟨x, h1, k1, e1, a1⟩ := hl ρ h f r R _ z hz
  obtain ⟨w, e3, k3⟩ := bd_eq k1
  refine ⟨(x, w), h1 ++ [.lst (w.map .d)], h1.length, k3, ?_, new_at, a1.len, a1.trans (a1.rep.new _)⟩
  rw [SE.callM_ev, e1, Oc.bind_ok, frzL_d]
  dsimp only
  rw [hM _ _ e3]
theorem ce_callG {F : FSem} {g0 : List D} {X : α → List D} (M : List D → List D → Option (D × List D)) (hM : ∀ g xs p, M g xs = some p → FG F g xs = some p) (j : Nat) (ej : env[j]? = some (.o g0)) (hl : CL env l c V E) (hx : ∀ a, (E a)[j]? = some (.o (X a))) :
    CE env (SE.callG F (SL.cons (SE.var j) l)) (fun R k => c R fun a => bd (M (X a) (V a)) fun p => k (a, p)) (fun q => q.2.1) (fun q => (E q.1).set j (.o q.2.2)) := fun ρ h f r R k z hz => by
  obtain ⟨x, h1, k1, e1, a1⟩ := hl ρ h f r R _ z hz
  obtain ⟨p, e3, k3⟩ := bd_eq k1
  obtain ⟨q0, _⟩ := r.sl j _ ej
  obtain ⟨q1, q2⟩ := a1.rep.sl j _ (hx x)
  refine ⟨(x, p), _, k3, ?_, a1.trans (a1.rep.own (hx x) p.2)⟩
  rw [SE.callG_ev, SL.cons_ev, SE.var_ev, q0]
  dsimp only
  rw [Oc.bind_ok, e1, Oc.bind_ok, Oc.bind_ok]
  dsimp only
  rw [frzL_d]
  dsimp only
  rw [q2]
  dsimp only
  rw [datas_d]
  dsimp only
  rw [hM _ _ _ e3]
theorem Af.temp {ρ : Rh} {h h2 : Hd} {f : Nat → Nat} {env env2 : Ev} {n : Nat} {zs : List Vd} (a : Af ρ h f env h2 env2) (l : h.length ≤ n) (o : Out env2 f n) (hn : h2[n]? = some (.lst zs)) (ys : List Vd) : Af ρ h f env (h2.set n (.lst ys)) env2 := by
  refine ⟨⟨a.rep.len, fun j t e => ?_, a.rep.inj, a.rep.dj_mono (fun i k x e => ⟨e, rfl⟩) fun _ _ _ _ t => t.set _ fun t ys q => (by rw [q] at hn; cases hn)⟩, by rw [List.length_set]; exact a.len, fun m e p q => ?_, a.sub⟩
  · have z := a.rep.sl j t e
    cases t with
    | no => trivial
    | d x => exact z
    | f x =>
      obtain ⟨w, h1, h3⟩ := z
      refine ⟨w, h1, ?_⟩
      rcases h3 with h3 | ⟨m, h3, h4⟩
      · exact .inl h3
      · refine .inr ⟨m, h3, ?_⟩
        rw [List.getElem?_set_ne (fun y => by rw [y, h4] at hn; cases hn)]
        exact h4
    | e x => obtain ⟨m, h1, h4⟩ := z; exact ⟨m, h1, by rw [List.getElem?_set_ne (fun y => by rw [y, h4] at hn; cases hn)]; exact h4⟩
    | o xs => exact ⟨z.1, by rw [List.getElem?_set_ne (fun y => o j xs e y.symm)]; exact z.2⟩
    | t k x => obtain ⟨w, I, h1, h2⟩ := z; exact ⟨w, I, h1, h2.set _ fun t ys q => by rw [q] at hn; cases hn⟩
  · have lm := (List.getElem?_eq_some_iff.mp p).1
    rw [List.getElem?_set_ne (by omega)]
    exact a.kp m e p q
theorem ce_callGt {F : FSem} {o : SE} {co : Cd α} {Vo : α → List D} {Eo : α → Ev} {cl : α → Cd β} {Vl : α → β → List D} {El : α → β → Ev} (M : List D → List D → Option (D × List D)) (hM : ∀ g xs p, M g xs = some p → FG F g xs = some p) (ho : CO env o co Vo Eo) (hl : ∀ x, CL (Eo x) l (cl x) (Vl x) (El x)) :
    CE env (SE.callG F (SL.cons o l)) (fun R k => co R fun x => cl x R fun y => bd (M (Vo x) (Vl x y)) fun p => k (x, y, p)) (fun q => q.2.2.1) (fun q => El q.1 q.2.1) := fun ρ h f r R k z hz => by
  obtain ⟨x, h1, n, k1, e1, en, ln, a1⟩ := ho ρ h f r R _ z hz
  obtain ⟨y, h2, k2, e2, a2⟩ := hl x ρ h1 f a1.rep R _ z k1
  obtain ⟨p, e3, k3⟩ := bd_eq k2
  have o1 : Out (Eo x) f n := fun i xs q => by
    obtain ⟨ys, q2⟩ := a1.sub i xs q
    have := (List.getElem?_eq_some_iff.mp (r.sl i _ q2).2).1
    omega
  have q2 := a2.kp n _ en o1
  refine ⟨(x, y, p), _, k3, ?_, (a1.trans a2).temp ln (o1.af a2) q2 (p.2.map .d)⟩
  rw [SE.callG_ev, SL.cons_ev, e1, Oc.bind_ok, e2, Oc.bind_ok, Oc.bind_ok]
  dsimp only
  rw [frzL_d]
  dsimp only
  rw [q2]
  dsimp only
  rw [datas_d]
  dsimp only
  rw [hM _ _ _ e3]
def appD (xs : List D) (y : D) : Option (List D) := if xs.length < 1000000 then some (xs ++ [y]) else none
theorem ce_app {g0 : List D} {X : α → List D} (j : Nat) (ej : env[j]? = some (.o g0)) (ha : CE env a ca Va Ea) (hx : ∀ p, (Ea p)[j]? = some (.o (X p))) :
    CE env (SE.app (SE.var j) a) (fun R k => ca R fun x => bd (appD (X x) (Va x)) fun ys => k (x, ys)) (fun _ => .none) (fun q => (Ea q.1).set j (.o q.2)) := fun ρ h f r R k z hz => by
  obtain ⟨x, h1, k1, e1, a1⟩ := ha ρ h f r R _ z hz
  obtain ⟨p, e3, k3⟩ := bd_eq k1
  obtain ⟨q0, q00⟩ := r.sl j _ ej
  obtain ⟨q1, q2⟩ := a1.rep.sl j _ (hx x)
  refine ⟨(x, p), _, k3, ?_, a1.trans (a1.rep.own (hx x) p)⟩
  unfold appD at e3
  split at e3
  · rename_i l
    cases e3
    rw [SE.app_ev, SE.var_ev, q0]
    dsimp only
    rw [Oc.bind_ok]
    have o1 : ownL h (.r (f j)) = some (f j, g0.map .d) := by unfold ownL; dsimp only; rw [q00]
    have o2 : ownL h1 (.r (f j)) = some (f j, (X x).map .d) := by unfold ownL; dsimp only; rw [q2]
    rw [o1]
    dsimp only
    rw [e1, Oc.bind_ok, o2]
    dsimp only
    rw [if_pos (by rw [List.length_map]; exact l), List.map_append]
    rfl
  · cases e3
theorem eraseIdx_map {α β : Type} (g : α → β) : ∀ (xs : List α) (i : Nat), (xs.map g).eraseIdx i = (xs.eraseIdx i).map g
  | [], _ => rfl
  | _ :: _, 0 => rfl
  | x :: xs, i + 1 => by
    show g x :: (xs.map g).eraseIdx i = g x :: (xs.eraseIdx i).map g
    rw [eraseIdx_map g xs i]
def popD (xs : List D) : D → Option (D × List D)
  | .int i => if 0 ≤ i ∧ i < xs.length ∧ xs.length ≤ 1000000 then match xs[i.toNat]? with
      | some z => some (z, xs.eraseIdx i.toNat)
      | none => none
    else none
  | _ => none
theorem ce_popAt {g0 : List D} {X : α → List D} (j : Nat) (ej : env[j]? = some (.o g0)) (ha : CE env a ca Va Ea) (hx : ∀ p, (Ea p)[j]? = some (.o (X p))) :
    CE env (SE.popAt (SE.var j) a) (fun R k => ca R fun x => bd (popD (X x) (Va x)) fun p => k (x, p)) (fun q => q.2.1) (fun q => (Ea q.1).set j (.o q.2.2)) := fun ρ h f r R k z hz => by
  obtain ⟨x, h1, k1, e1, a1⟩ := ha ρ h f r R _ z hz
  obtain ⟨p, e3, k3⟩ := bd_eq k1
  obtain ⟨q0, q00⟩ := r.sl j _ ej
  obtain ⟨q1, q2⟩ := a1.rep.sl j _ (hx x)
  refine ⟨(x, p), _, k3, ?_, a1.trans (a1.rep.own (hx x) p.2)⟩
  unfold popD at e3
  split at e3
  · rename_i i ei
    split at e3
    · rename_i l
      split at e3
      · rename_i w ew
        cases e3
        rw [SE.popAt_ev, SE.var_ev, q0]
        dsimp only
        rw [Oc.bind_ok]
        have o1 : ownL h (.r (f j)) = some (f j, g0.map .d) := by unfold ownL; dsimp only; rw [q00]
        have o2 : ownL h1 (.r (f j)) = some (f j, (X x).map .d) := by unfold ownL; dsimp only; rw [q2]
        rw [o1]
        dsimp only
        rw [e1, Oc.bind_ok, o2, ei]
        dsimp only
        rw [if_pos (by rw [List.length_map]; exact l), List.getElem?_map, ew]
        dsimp only [Option.map]
        rw [eraseIdx_map]
      · cases e3
    · cases e3
  · cases e3
end
end J
end
section
set_option maxRecDepth 100000
set_option maxHeartbeats 2000000
namespace J
open PySem PySem.Spec PyProof.Rows L2 G N
inductive Pt where
  | d (x : D)
  | o (xs : List D)
def Pt.sl : Pt → Sl
  | .d x => .d x
  | .o xs => .o xs
def PV (h h' : Hd) (v : Vd) : Pt → Prop
  | .d x => v = .d x
  | .o xs => ∃ n, v = .r n ∧ h'[n]? = some (.lst (xs.map .d)) ∧ h.length ≤ n
def CX {α : Type} (env : Ev) (e : SE) (c : Cd α) (V : α → Pt) (E : α → Ev) : Prop :=
  ∀ (ρ : Rh) (h : Hd) (f : Nat → Nat), Rep ρ h f env → ∀ (R : Type) (k : α → Option R) (r : R), c R k = some r → ∃ a h' v, k a = some r ∧ e.ev ρ h = .ok v h' ∧ PV h h' v (V a) ∧ Af ρ h f env h' (E a)
section
variable {α β γ : Type} {env : Ev} {e : SE} {c : Cd α} {E : α → Ev}
theorem cx_d {V : α → D} (h : CE env e c V E) : CX env e c (fun a => .d (V a)) E := fun ρ h0 f r R k z hz => by
  obtain ⟨x, h1, k1, e1, a1⟩ := h ρ h0 f r R _ z hz
  exact ⟨x, h1, _, k1, e1, rfl, a1⟩
theorem cx_o {V : α → List D} (h : CO env e c V E) : CX env e c (fun a => .o (V a)) E := fun ρ h0 f r R k z hz => by
  obtain ⟨x, h1, n, k1, e1, en, l, a1⟩ := h ρ h0 f r R _ z hz
  exact ⟨x, h1, _, k1, e1, ⟨n, rfl, en, l⟩, a1⟩
end
def JN {α : Type} (env : Ev) (s : SS) (c : Cd α) (E : α → Ev) : Prop :=
  ∀ (ρ : Rh) (h : Hd) (f : Nat → Nat), Rep ρ h f env → ∀ (R : Type) (k : α → Option R) (r : R), c R k = some r → ∃ a ρ' h' f', k a = some r ∧ s.run ρ h = .nx ρ' h' ∧ Rep ρ' h' f' (E a) ∧ f' 0 = f 0
inductive Ct (α β τ : Type) where
  | nx (a : α)
  | bk (b : β)
  | ct (b : β)
  | rt (z : τ)
abbrev Pr (τ : Type) := Hd → Nat → Vd → τ → Prop
def JC {α β τ : Type} (P : Pr τ) (env : Ev) (s : SS) (r : Option (Ct α β τ)) (E : α → Ev) (EB : β → Ev) : Prop :=
  ∀ (ρ : Rh) (h : Hd) (f : Nat → Nat), Rep ρ h f env → ∀ o, r = some o → match o with
    | .nx a => ∃ ρ' h' f', s.run ρ h = .nx ρ' h' ∧ Rep ρ' h' f' (E a) ∧ f' 0 = f 0
    | .bk b => ∃ ρ' h' f', s.run ρ h = .bk ρ' h' ∧ Rep ρ' h' f' (EB b) ∧ f' 0 = f 0
    | .ct b => ∃ ρ' h' f', s.run ρ h = .ct ρ' h' ∧ Rep ρ' h' f' (EB b) ∧ f' 0 = f 0
    | .rt z => ∃ v h', s.run ρ h = .rt v h' ∧ P h' (f 0) v z
def JT {τ : Type} (P : Pr τ) (env : Ev) (s : SS) (r : Option τ) : Prop :=
  ∀ (ρ : Rh) (h : Hd) (f : Nat → Nat), Rep ρ h f env → ∀ z, r = some z → ∃ v h', s.run ρ h = .rt v h' ∧ P h' (f 0) v z
def resOf : OcS → Option (Vd × Hd)
  | .rt v h => some (v, h)
  | .nx _ h => some (.d .none, h)
  | _ => none
def JR {τ : Type} (P : Pr τ) (env : Ev) (s : SS) (r : Option τ) : Prop :=
  ∀ (ρ : Rh) (h : Hd) (f : Nat → Nat), Rep ρ h f env → ∀ z, r = some z → ∃ v h', resOf (s.run ρ h) = some (v, h') ∧ P h' (f 0) v z
section
variable {α β γ δ τ : Type} {P : Pr τ} {env : Ev} {s t : SS} {c : Cd α} {E : α → Ev}
theorem jn_nil : JN env SS.nil (fun _ k => k ()) (fun _ => env) := fun ρ h f r R k z hz => ⟨(), ρ, h, f, hz, rfl, r, rfl⟩
theorem jn_seq {cb : α → Cd β} {Eb : α → β → Ev} (ha : JN env s c E) (hb : ∀ a, JN (E a) t (cb a) (Eb a)) : JN env (SS.seq s t) (fun R k => c R fun a => cb a R fun b => k (a, b)) (fun p => Eb p.1 p.2) := fun ρ h f r R k z hz => by
  obtain ⟨a, ρ1, h1, f1, k1, e1, r1, z1⟩ := ha ρ h f r R _ z hz
  obtain ⟨b, ρ2, h2, f2, k2, e2, r2, z2⟩ := hb a ρ1 h1 f1 r1 R _ z k1
  exact ⟨(a, b), ρ2, h2, f2, k2, by rw [SS.seq_run, e1, OcS.seq_nx, e2], r2, z2.trans z1⟩
theorem jt_seq {rb : α → Option τ} (ha : JN env s c E) (hb : ∀ a, JT P (E a) t (rb a)) : JT P env (SS.seq s t) (c τ rb) := fun ρ h f r z hz => by
  obtain ⟨a, ρ1, h1, f1, k1, e1, r1, z1⟩ := ha ρ h f r τ _ z hz
  obtain ⟨v, h2, e2, p⟩ := hb a ρ1 h1 f1 r1 z k1
  exact ⟨v, h2, by rw [SS.seq_run, e1, OcS.seq_nx, e2], z1 ▸ p⟩
theorem jr_seq {rb : α → Option τ} (ha : JN env s c E) (hb : ∀ a, JR P (E a) t (rb a)) : JR P env (SS.seq s t) (c τ rb) := fun ρ h f r z hz => by
  obtain ⟨a, ρ1, h1, f1, k1, e1, r1, z1⟩ := ha ρ h f r τ _ z hz
  obtain ⟨v, h2, e2, p⟩ := hb a ρ1 h1 f1 r1 z k1
  exact ⟨v, h2, by rw [SS.seq_run, e1, OcS.seq_nx, e2], z1 ▸ p⟩
theorem jr_of {r : Option τ} (h : JT P env s r) : JR P env s r := fun ρ h0 f q z hz => by
  obtain ⟨v, h1, e, p⟩ := h ρ h0 f q z hz
  exact ⟨v, h1, by rw [e]; rfl, p⟩
def ctr (o : Ct α Empty τ) (k : α → Option τ) : Option τ := match o with
  | .nx a => k a
  | .rt z => some z
  | .bk b => b.elim
  | .ct b => b.elim
@[simp] theorem ctr_nx (a : α) (k : α → Option τ) : ctr (.nx a) k = k a := rfl
@[simp] theorem ctr_rt (z : τ) (k : α → Option τ) : ctr (.rt z : Ct α Empty τ) k = some z := rfl
theorem jr_seqC {ra : Option (Ct α Empty τ)} {EB : Empty → Ev} {rb : α → Option τ} (ha : JC P env s ra E EB) (hb : ∀ a, JR P (E a) t (rb a)) : JR P env (SS.seq s t) (bd ra fun o => ctr o rb) := fun ρ h f r z hz => by
  obtain ⟨o, e0, k0⟩ := bd_eq hz
  have q := ha ρ h f r o e0
  cases o with
  | nx a =>
    obtain ⟨ρ1, h1, f1, e1, r1, z1⟩ := q
    obtain ⟨v, h2, e2, p⟩ := hb a ρ1 h1 f1 r1 z k0
    exact ⟨v, h2, by rw [SS.seq_run, e1, OcS.seq_nx, e2], z1 ▸ p⟩
  | rt w =>
    cases k0
    obtain ⟨v, h2, e2, p⟩ := q
    exact ⟨v, h2, by rw [SS.seq_run, e2, OcS.seq_rt]; rfl, p⟩
  | bk b => exact b.elim
  | ct b => exact b.elim
def ctc (o : Ct α γ τ) (k : α → Option (Ct β γ τ)) : Option (Ct β γ τ) := match o with
  | .nx a => k a
  | .rt z => some (.rt z)
  | .bk b => some (.bk b)
  | .ct b => some (.ct b)
@[simp] theorem ctc_nx (a : α) (k : α → Option (Ct β γ τ)) : ctc (.nx a) k = k a := rfl
@[simp] theorem ctc_rt (z : τ) (k : α → Option (Ct β γ τ)) : ctc (.rt z : Ct α γ τ) k = some (.rt z) := rfl
@[simp] theorem ctc_bk (z : γ) (k : α → Option (Ct β γ τ)) : ctc (.bk z : Ct α γ τ) k = some (.bk z) := rfl
@[simp] theorem ctc_ct (z : γ) (k : α → Option (Ct β γ τ)) : ctc (.ct z : Ct α γ τ) k = some (.ct z) := rfl
theorem jc_nx {E' : β → Ev} {EB : γ → Ev} (h : JN env s c E) (g : α → β) (w : ∀ a, Wk (E a) (E' (g a))) : JC P env s (c _ fun a => some (.nx (g a))) E' EB := fun ρ h0 f r o ho => by
  obtain ⟨a, ρ', h', f', k1, e1, r1, z1⟩ := h ρ h0 f r _ _ o ho
  cases k1
  exact ⟨ρ', h', f', e1, r1.wk (w a), z1⟩
theorem jc_rt {Eb : β → Ev} {EB : γ → Ev} {r : Option τ} (h : JT P env s r) : JC P env s (bd r fun z => some (.rt z)) Eb EB := fun ρ h0 f q o ho => by
  obtain ⟨z, e0, k0⟩ := bd_eq ho
  cases k0
  exact h ρ h0 f q z e0
def CBX {α : Type} (env : Ev) (e : SB) (c : Cd α) (V : α → Bool) (E : α → Ev) : Prop :=
  ∀ (ρ : Rh) (h : Hd) (f : Nat → Nat), Rep ρ h f env → ∀ (R : Type) (k : α → Option R) (r : R), c R k = some r → ∃ a h', k a = some r ∧ e.ev ρ h = .ok (V a) h' ∧ Rep ρ h' f (E a)
theorem cbx {α : Type} {env : Ev} {e : SB} {c : Cd α} {V : α → Bool} {E : α → Ev} (h : CB env e c V E) : CBX env e c V E := fun ρ h0 f r R k z hz => by
  obtain ⟨a, h1, k1, e1, a1⟩ := h ρ h0 f r R k z hz
  exact ⟨a, h1, k1, e1, a1.rep⟩
variable {cd : SB} {cc : Cd α} {Vc : α → Bool} {Ec : α → Ev}
theorem jn_ite {a b : SS} {ca : α → Cd β} {Ea : α → β → Ev} {cb : α → Cd γ} {Eb : α → γ → Ev} {E' : δ → Ev} (hc : CBX env cd cc Vc Ec) (ha : ∀ x, JN (Ec x) a (ca x) (Ea x)) (hb : ∀ x, JN (Ec x) b (cb x) (Eb x)) (ga : α → β → δ) (gb : α → γ → δ) (wa : ∀ x y, Wk (Ea x y) (E' (ga x y))) (wb : ∀ x y, Wk (Eb x y) (E' (gb x y))) :
    JN env (SS.ite cd a b) (fun R k => cc R fun x => bd (if Vc x = true then ca x δ fun y => some (ga x y) else cb x δ fun y => some (gb x y)) k) E' := fun ρ h f r R k z hz => by
  obtain ⟨x, h1, k1, e1, a1⟩ := hc ρ h f r R _ z hz
  obtain ⟨w, e2, k2⟩ := bd_eq k1
  cases cv : Vc x with
  | true =>
    rw [cv, if_pos rfl] at e2
    obtain ⟨y, ρ2, h2, f2, k3, e3, r3, z3⟩ := ha x ρ h1 f a1 _ _ w e2
    cases k3
    exact ⟨_, ρ2, h2, f2, k2, by rw [SS.ite_run, e1, Oc.thn_ok, cv]; exact e3, r3.wk (wa x y), z3⟩
  | false =>
    rw [cv, if_neg (by decide)] at e2
    obtain ⟨y, ρ2, h2, f2, k3, e3, r3, z3⟩ := hb x ρ h1 f a1 _ _ w e2
    cases k3
    exact ⟨_, ρ2, h2, f2, k2, by rw [SS.ite_run, e1, Oc.thn_ok, cv]; exact e3, r3.wk (wb x y), z3⟩
theorem jc_ite {a b : SS} {ra rb : α → Option (Ct β γ τ)} {Eb : β → Ev} {EB : γ → Ev} (hc : CBX env cd cc Vc Ec) (ha : ∀ x, JC P (Ec x) a (ra x) Eb EB) (hb : ∀ x, JC P (Ec x) b (rb x) Eb EB) : JC P env (SS.ite cd a b) (cc _ fun x => if Vc x = true then ra x else rb x) Eb EB := fun ρ h f r o ho => by
  obtain ⟨x, h1, k1, e1, a1⟩ := hc ρ h f r _ _ o ho
  have e : (SS.ite cd a b).run ρ h = if Vc x = true then a.run ρ h1 else b.run ρ h1 := by
    rw [SS.ite_run, e1, Oc.thn_ok]
    cases Vc x <;> rfl
  rw [e]
  cases cv : Vc x with
  | true =>
    rw [cv, if_pos rfl] at k1
    rw [if_pos rfl]
    exact ha x ρ h1 f a1 o k1
  | false =>
    rw [cv, if_neg (by decide)] at k1
    rw [if_neg (by decide)]
    exact hb x ρ h1 f a1 o k1
theorem jr_if {a : SS} {ra rb : α → Option τ} (hc : CBX env cd cc Vc Ec) (ha : ∀ x, JT P (Ec x) a (ra x)) (hb : ∀ x, JR P (Ec x) t (rb x)) : JR P env (SS.seq (SS.ite cd a SS.nil) t) (cc _ fun x => if Vc x = true then ra x else rb x) := fun ρ h f r o ho => by
  obtain ⟨x, h1, k1, e1, a1⟩ := hc ρ h f r _ _ o ho
  cases cv : Vc x with
  | true =>
    rw [cv, if_pos rfl] at k1
    obtain ⟨v, h2, e2, p⟩ := ha x ρ h1 f a1 o k1
    exact ⟨v, h2, by rw [SS.seq_run, SS.ite_run, e1, Oc.thn_ok, cv]; show resOf ((a.run ρ h1).seq _) = _; rw [e2]; rfl, p⟩
  | false =>
    rw [cv, if_neg (by decide)] at k1
    obtain ⟨v, h2, e2, p⟩ := hb x ρ h1 f a1 o k1
    exact ⟨v, h2, by rw [SS.seq_run, SS.ite_run, e1, Oc.thn_ok, cv]; exact e2, p⟩
theorem jn_never {a : SS} (hc : CBX env cd cc Vc Ec) : JN env (SS.ite cd a SS.nil) (fun R k => cc R fun x => if Vc x = true then none else k x) Ec := fun ρ h f r R k z hz => by
  obtain ⟨x, h1, k1, e1, a1⟩ := hc ρ h f r _ _ z hz
  cases cv : Vc x with
  | true => rw [cv, if_pos rfl] at k1; cases k1
  | false =>
    rw [cv, if_neg (by decide)] at k1
    exact ⟨x, ρ, h1, f, k1, by rw [SS.ite_run, e1, Oc.thn_ok, cv]; rfl, a1, rfl⟩
end
section
variable {α β γ δ : Type} {env : Ev} {e : SE} {c : Cd α} {E : α → Ev}
theorem jn_drop {V : α → D} (h : CE env e c V E) : JN env (SS.drop e) c E := fun ρ h0 f r R k z hz => by
  obtain ⟨a, h1, k1, e1, a1⟩ := h ρ h0 f r R _ z hz
  exact ⟨a, ρ, h1, f, k1, by rw [SS.drop_run, e1, Oc.thn_ok], a1.rep, rfl⟩
theorem jn_set {V : α → D} (i : Nat) (h : CE env e c V E) (l : ∀ a, i < (E a).length) : JN env (SS.set i e) c (fun a => (E a).set i (.d (V a))) := fun ρ h0 f r R k z hz => by
  obtain ⟨a, h1, k1, e1, a1⟩ := h ρ h0 f r R _ z hz
  exact ⟨a, _, h1, f, k1, by rw [SS.set_run, e1, Oc.thn_ok], a1.rep.put_d (l a) _, rfl⟩
theorem jn_seto {V : α → List D} (i : Nat) (i0 : i ≠ 0) (h : CO env e c V E) : JN env (SS.set i e) c (fun a => (E a).set i (.o (V a))) := fun ρ h0 f r R k z hz => by
  obtain ⟨a, h1, n, k1, e1, en, l, a1⟩ := h ρ h0 f r R _ z hz
  have o1 : Out (E a) f n := fun j xs q => by
    obtain ⟨ys, q2⟩ := a1.sub j xs q
    have := (List.getElem?_eq_some_iff.mp (r.sl j _ q2).2).1
    omega
  exact ⟨a, _, h1, _, k1, by rw [SS.set_run, e1, Oc.thn_ok], a1.rep.give en o1, upf_ne i0⟩
def CG {α : Type} (env : Ev) (g : SG) (c : D → Cd α) (E : α → Ev) : Prop :=
  ∀ (ρ : Rh) (h : Hd) (f : Nat → Nat), Rep ρ h f env → ∀ (x : D) (R : Type) (k : α → Option R) (r : R), c x R k = some r → ∃ a ρ' h', k a = some r ∧ g.run (.d x) ρ h = .nx ρ' h' ∧ Rep ρ' h' f (E a)
theorem cg_name (i : Nat) (l : i < env.length) : CG env (SG.name i) (fun x _ k => k x) (fun x => env.set i (.d x)) := fun ρ h f r x R k z hz => ⟨x, _, h, hz, rfl, r.put_d l x⟩
def setD (xs : List D) (v : D) : D → Option (List D)
  | .int j => match L2.ixN xs.length j with
    | some l => some (xs.set l v)
    | none => none
  | _ => none
theorem setD_eq {xs ys : List D} {v i : D} (h : setD xs v i = some ys) : ∃ j l, i = .int j ∧ L2.ixN xs.length j = some l ∧ ys = xs.set l v := by
  cases i with
  | int j =>
    unfold setD at h
    dsimp only at h
    cases q : L2.ixN xs.length j with
    | none => rw [q] at h; cases h
    | some l => rw [q] at h; cases h; exact ⟨j, l, rfl, q, rfl⟩
  | _ => cases h
theorem cg_sub {b : SE} {cb : Cd β} {Vb : β → D} {Eb : β → Ev} {g0 : List D} {X : β → List D} (j : Nat) (ej : env[j]? = some (.o g0)) (hb : CE env b cb Vb Eb) (hx : ∀ p, (Eb p)[j]? = some (.o (X p))) :
    CG env (SG.sub (SE.var j) b) (fun x R k => cb R fun y => bd (setD (X y) x (Vb y)) fun ys => k (y, ys)) (fun p => (Eb p.1).set j (.o p.2)) := fun ρ h f r x R k z hz => by
  obtain ⟨y, h1, k1, e1, a1⟩ := hb ρ h f r R _ z hz
  obtain ⟨ys, e3, k3⟩ := bd_eq k1
  obtain ⟨q0, q00⟩ := r.sl j _ ej
  obtain ⟨q1, q2⟩ := a1.rep.sl j _ (hx y)
  refine ⟨(y, ys), ρ, _, k3, ?_, (a1.rep.own (hx y) ys).rep⟩
  show ((SE.var j).ev ρ h).thn ρ _ = _
  rw [SE.var_ev, q0]
  dsimp only
  rw [Oc.thn_ok, e1, Oc.thn_ok]
  have o2 : ownL h1 (.r (f j)) = some (f j, (X y).map .d) := by unfold ownL; dsimp only; rw [q2]
  rw [o2]
  obtain ⟨i, l, ei, el, rfl⟩ := setD_eq e3
  rw [ei]
  dsimp only
  rw [List.length_map, el]
  dsimp only
  rw [List.map_set]
theorem tup_run (ts : SGs) (ds : List D) (ρ : Rh) (h : Hd) (l : ds.length = ts.n) : (SG.tup ts).run (.d (.tuple ds)) ρ h = ts.run ds ρ h := by
  show (if ds.length = ts.n then ts.run ds ρ h else .no) = _
  rw [if_pos l]
theorem lst_run (ts : SGs) (ds : List D) (ρ : Rh) (h : Hd) (l : ds.length = ts.n) : (SG.lst ts).run (.d (.list ds)) ρ h = ts.run ds ρ h := by
  show (if ds.length = ts.n then ts.run ds ρ h else .no) = _
  rw [if_pos l]
theorem cons_run (g : SG) (ts : SGs) (x : D) (xs : List D) {ρ ρ1 : Rh} {h h1 : Hd} (e : g.run (.d x) ρ h = .nx ρ1 h1) : (SGs.cons g ts).run (x :: xs) ρ h = ts.run xs ρ1 h1 := by
  show (match g.run (.d x) ρ h with
    | .nx ρ1 h1 => ts.run xs ρ1 h1
    | .ex c y ρ1 h1 => .ex c y ρ1 h1
    | _ => .no) = _
  rw [e]
theorem cg_tup2 {g1 g2 : SG} {c1 : D → Cd α} {E1 : α → Ev} {c2 : α → D → Cd β} {E2 : α → β → Ev} (h1 : CG env g1 c1 E1) (h2 : ∀ a, CG (E1 a) g2 (c2 a) (E2 a)) : CG env (SG.tup (SGs.cons g1 (SGs.cons g2 SGs.nil))) (fun x R k => bd (un2 x) fun p => c1 p.1 R fun a => c2 a p.2 R fun b => k (a, b)) (fun q => E2 q.1 q.2) := fun ρ h f r x R k z hz => by
  obtain ⟨p, e0, k0⟩ := bd_eq hz
  obtain ⟨a, ρ1, t1, k1, e1, r1⟩ := h1 ρ h f r p.1 R _ z k0
  obtain ⟨b, ρ2, t2, k2, e2, r2⟩ := h2 a ρ1 t1 f r1 p.2 R _ z k1
  refine ⟨(a, b), ρ2, t2, k2, ?_, r2⟩
  rw [un2_eq e0]
  rw [tup_run _ _ _ _ rfl, cons_run _ _ _ _ e1, cons_run _ _ _ _ e2]
  rfl
theorem jn_asg {V : α → D} {g : SG} {cg : α → D → Cd β} {Eg : α → β → Ev} (h : CE env e c V E) (hg : ∀ a, CG (E a) g (cg a) (Eg a)) : JN env (SS.asgG e g) (fun R k => c R fun a => cg a (V a) R fun b => k (a, b)) (fun q => Eg q.1 q.2) := fun ρ h0 f r R k z hz => by
  obtain ⟨a, h1, k1, e1, a1⟩ := h ρ h0 f r R _ z hz
  obtain ⟨b, ρ2, h2, k2, e2, r2⟩ := hg a ρ h1 f a1.rep (V a) R _ z k1
  exact ⟨(a, b), ρ2, h2, f, k2, by rw [SS.asgG_run, e1, Oc.thn_ok, e2]; rfl, r2, rfl⟩
theorem Rep.pt {ρ : Rh} {h h0 : Hd} {f : Nat → Nat} {env : Ev} (r : Rep ρ h f env) {i : Nat} (i0 : i ≠ 0) (l : i < env.length) {v : Vd} {p : Pt} (q : PV h0 h v p) (o : ∀ n, h0.length ≤ n → Out env f n) : ∃ f', Rep (ρ.set i (some v)) h f' (env.set i p.sl) ∧ f' 0 = f 0 ∧ ∀ j, f' j = f j ∨ (j = i ∧ v = .r (f' j) ∧ h0.length ≤ f' j) := by
  cases p with
  | d x =>
    cases q
    exact ⟨f, r.put_d l x, rfl, fun _ => .inl rfl⟩
  | o xs =>
    obtain ⟨n, rfl, en, ln⟩ := q
    refine ⟨upf f i n, r.give en (o n ln), upf_ne i0, fun j => ?_⟩
    by_cases c : i = j
    · subst c
      rw [upf_same]
      exact .inr ⟨rfl, rfl, ln⟩
    · exact .inl (upf_ne c)
theorem jn_par {a b : SE} {ca : Cd α} {Va : α → Pt} {Ea : α → Ev} {cb : α → Cd β} {Vb : α → β → Pt} {Eb : α → β → Ev} (i j : Nat) (i0 : i ≠ 0) (j0 : j ≠ 0) (ha : CX env a ca Va Ea) (hb : ∀ x, CX (Ea x) b (cb x) (Vb x) (Eb x)) (l1 : ∀ x y, i < (Eb x y).length) (l2 : ∀ x y, j < (Eb x y).length) :
    JN env (SS.par i j (SL.cons a (SL.cons b SL.nil))) (fun R k => ca R fun x => cb x R fun y => k (x, y)) (fun p => ((Eb p.1 p.2).set i (Va p.1).sl).set j (Vb p.1 p.2).sl) := fun ρ h f r R k z hz => by
  obtain ⟨x, h1, v, k1, e1, p1, a1⟩ := ha ρ h f r R _ z hz
  obtain ⟨y, h2, w, k2, e2, p2, a2⟩ := hb x ρ h1 f a1.rep R _ z k1
  have out1 : ∀ n, h.length ≤ n → Out (Ea x) f n := fun n ln m xs q => by
    obtain ⟨ys, q2⟩ := a1.sub m xs q
    have := (List.getElem?_eq_some_iff.mp (r.sl m _ q2).2).1
    omega
  have p1' : PV h h2 v (Va x) := by
    cases c : Va x with
    | d x => rw [c] at p1; exact p1
    | o xs =>
      rw [c] at p1
      obtain ⟨n, en, q, ln⟩ := p1
      exact ⟨n, en, a2.kp n _ q (out1 n ln), ln⟩
  obtain ⟨f1, r1, z1, d1⟩ := Rep.pt a2.rep i0 (l1 x y) p1' fun n ln => (out1 n ln).af a2
  obtain ⟨f2, r2, z2, d2⟩ := Rep.pt r1 j0 (by rw [List.length_set]; exact l2 x y) p2 fun n ln m xs q y2 => by
    rcases d1 m with dm | ⟨rfl, dm, lm⟩
    · -- an old one
      by_cases c : i = m
      · subst c
        rw [List.getElem?_set_self (l1 x y)] at q
        have q3 := Option.some.inj q
        cases c2 : Va x with
        | d x => rw [c2] at q3; cases q3
        | o ys =>
          rw [c2] at p1
          obtain ⟨n1, en, q4, ln1⟩ := p1
          have s2 : SlOk (ρ.set i (some v)) h2 f1 i (Va x).sl := r1.sl i _ (by rw [List.getElem?_set_self (l1 x y)])
          rw [c2] at s2
          have t1 := s2.1
          rw [List.getElem?_set_self (by rw [a2.rep.len]; exact l1 x y), en] at t1
          have t2 : n1 = f1 i := by injection t1 with t1; injection t1 with t1; injection t1
          have := (List.getElem?_eq_some_iff.mp q4).1
          omega
      · rw [List.getElem?_set_ne c] at q
        obtain ⟨ys, q5⟩ := a2.sub m xs q
        have := (List.getElem?_eq_some_iff.mp (a1.rep.sl m _ q5).2).1
        omega
    · cases c2 : Va x with
      | d x =>
        rw [c2] at p1
        rw [show v = .d x from p1] at dm
        cases dm
      | o ys =>
        rw [c2] at p1
        obtain ⟨n1, en, q4, ln1⟩ := p1
        rw [en] at dm
        injection dm with dm
        have := (List.getElem?_eq_some_iff.mp q4).1
        omega
  refine ⟨(x, y), _, h2, f2, k2, ?_, r2, z2.trans z1⟩
  rw [SS.par_run, SL.cons_ev, e1, Oc.bind_ok, SL.cons_ev, e2, Oc.bind_ok, SL.nil_ev, Oc.bind_ok, Oc.bind_ok, Oc.thn_ok]
theorem jn_par3 {a b d : SE} {ca : Cd α} {Va : α → D} {Ea : α → Ev} {cb : α → Cd β} {Vb : α → β → D} {Eb : α → β → Ev} {cd : α → β → Cd γ} {Vd' : α → β → γ → D} {Ed : α → β → γ → Ev} (i j l : Nat) (ha : CE env a ca Va Ea) (hb : ∀ x, CE (Ea x) b (cb x) (Vb x) (Eb x)) (hd : ∀ x y, CE (Eb x y) d (cd x y) (Vd' x y) (Ed x y)) (l1 : ∀ x y z, i < (Ed x y z).length) (l2 : ∀ x y z, j < (Ed x y z).length) (l3 : ∀ x y z, l < (Ed x y z).length) :
    JN env (SS.par3 i j l (SL.cons a (SL.cons b (SL.cons d SL.nil)))) (fun R k => ca R fun x => cb x R fun y => cd x y R fun z => k (x, y, z)) (fun p => (((Ed p.1 p.2.1 p.2.2).set i (.d (Va p.1))).set j (.d (Vb p.1 p.2.1))).set l (.d (Vd' p.1 p.2.1 p.2.2))) := fun ρ h f r R k z hz => by
  obtain ⟨x, h1, k1, e1, a1⟩ := ha ρ h f r R _ z hz
  obtain ⟨y, h2, k2, e2, a2⟩ := hb x ρ h1 f a1.rep R _ z k1
  obtain ⟨w, h3, k3, e3, a3⟩ := hd x y ρ h2 f a2.rep R _ z k2
  refine ⟨(x, y, w), _, h3, f, k3, ?_, ((a3.rep.put_d (l1 x y w) _).put_d (by rw [List.length_set]; exact l2 x y w) _).put_d (by rw [List.length_set, List.length_set]; exact l3 x y w) _, rfl⟩
  rw [SS.par3_run, SL.cons_ev, e1, Oc.bind_ok, SL.cons_ev, e2, Oc.bind_ok, SL.cons_ev, e3, Oc.bind_ok, SL.nil_ev, Oc.bind_ok, Oc.bind_ok, Oc.bind_ok, Oc.thn_ok]
end
def foldD {σ : Type} (st : D → σ → Option σ) : List D → σ → Option σ
  | [], s => some s
  | x :: xs, s => bd (st x s) fun s => foldD st xs s
def forC {σ β τ : Type} (st : D → σ → Option (Ct σ σ τ)) : List D → σ → Option (Ct σ β τ)
  | [], s => some (.nx s)
  | x :: xs, s => bd (st x s) fun o => match o with
    | .nx s => forC st xs s
    | .ct s => forC st xs s
    | .bk s => some (.nx s)
    | .rt z => some (.rt z)
section
variable {α β γ δ σ τ : Type} {P : Pr τ} {env : Ev} {it : SI} {tg : ST} {body : SS} {ci : Cd α} {Vi : α → List D} {Ei : α → Ev}
theorem for_goN {E : σ → Ev} {ct : σ → D → Cd β} {Et : σ → β → Ev} {cb : σ → β → Cd γ} {Eb : σ → β → γ → Ev} (g : σ → β → γ → σ) (ht : ∀ s, CT (E s) tg (ct s) (Et s)) (hb : ∀ s a, JN (Et s a) body (cb s a) (Eb s a)) (w : ∀ s a b, Wk (Eb s a b) (E (g s a b))) :
    ∀ (xs : List D) (s s' : σ) (ρ : Rh) (h : Hd) (f : Nat → Nat), Rep ρ h f (E s) → foldD (fun x s => ct s x σ fun a => cb s a σ fun b => some (g s a b)) xs s = some s' → ∃ ρ' h' f', SS.forR tg.put body.run xs ρ h = .nx ρ' h' ∧ Rep ρ' h' f' (E s') ∧ f' 0 = f 0
  | [], s, s', ρ, h, f, r, e => by cases e; exact ⟨ρ, h, f, rfl, r, rfl⟩
  | x :: xs, s, s', ρ, h, f, r, e => by
    unfold foldD at e
    obtain ⟨s1, e1, e⟩ := bd_eq e
    obtain ⟨a, ρ1, k1, p1, r1, _⟩ := ht s ρ h f r x _ _ s1 e1
    obtain ⟨b, ρ2, h2, f2, k2, e2, r2, z2⟩ := hb s a ρ1 h f r1 _ _ s1 k1
    cases k2
    obtain ⟨ρ3, h3, f3, e3, r3, z3⟩ := for_goN g ht hb w xs _ s' ρ2 h2 f2 (r2.wk (w s a b)) e
    refine ⟨ρ3, h3, f3, ?_, r3, z3.trans z2⟩
    rw [SS.forR, p1]
    dsimp only
    rw [e2]
    exact e3
theorem jn_for {E : σ → Ev} {ct : σ → D → Cd β} {Et : σ → β → Ev} {cb : σ → β → Cd γ} {Eb : σ → β → γ → Ev} (hi : CI env it ci Vi Ei) (s0 : α → σ) (w0 : ∀ a, Wk (Ei a) (E (s0 a))) (ht : ∀ s, CT (E s) tg (ct s) (Et s)) (hb : ∀ s a, JN (Et s a) body (cb s a) (Eb s a)) (g : σ → β → γ → σ) (w : ∀ s a b, Wk (Eb s a b) (E (g s a b))) :
    JN env (SS.forS it tg body) (fun R k => ci R fun a => bd (foldD (fun x s => ct s x σ fun a => cb s a σ fun b => some (g s a b)) (Vi a) (s0 a)) k) E := fun ρ h f r R k z hz => by
  obtain ⟨a, h1, k1, e1, a1⟩ := hi ρ h f r R _ z hz
  obtain ⟨s', e2, k2⟩ := bd_eq k1
  obtain ⟨ρ3, h3, f3, e3, r3, z3⟩ := for_goN g ht hb w (Vi a) (s0 a) s' ρ h1 f (a1.rep.wk (w0 a)) e2
  exact ⟨s', ρ3, h3, f3, k2, by rw [SS.forS_run, e1, Oc.thn_ok]; exact e3, r3, z3⟩
def FoR {σ δ τ : Type} (P : Pr τ) (E : σ → Ev) (p : Nat) (oc : OcS) : Ct σ δ τ → Prop
  | .nx s' => ∃ ρ' h' f', oc = .nx ρ' h' ∧ Rep ρ' h' f' (E s') ∧ f' 0 = p
  | .rt z => ∃ v h', oc = .rt v h' ∧ P h' p v z
  | _ => False
def nxt (oc : OcS) (k : Rh → Hd → OcS) : OcS := match oc with
  | .nx ρ2 h2 => k ρ2 h2
  | .ct ρ2 h2 => k ρ2 h2
  | .bk ρ2 h2 => .nx ρ2 h2
  | .rt v h2 => .rt v h2
  | .ex c v ρ2 h2 => .ex c v ρ2 h2
  | .no => .no
theorem forR_nxt {put : Vd → Rh → Option Rh} {b : Rh → Hd → OcS} {x : D} {xs : List D} {ρ ρ1 : Rh} {h : Hd} (e : put (.d x) ρ = some ρ1) : SS.forR put b (x :: xs) ρ h = nxt (b ρ1 h) (SS.forR put b xs) := by
  rw [SS.forR, e]
  dsimp only
  cases b ρ1 h <;> rfl
theorem for_goC {E : σ → Ev} {ct : σ → D → Cd β} {Et : σ → β → Ev} {rb : σ → β → Option (Ct σ σ τ)} (ht : ∀ s, CT (E s) tg (ct s) (Et s)) (hb : ∀ s a, JC P (Et s a) body (rb s a) E E) :
    ∀ (xs : List D) (s : σ) (o : Ct σ δ τ) (ρ : Rh) (h : Hd) (f : Nat → Nat), Rep ρ h f (E s) → forC (fun x s => ct s x (Ct σ σ τ) fun a => rb s a) xs s = some o → FoR P E (f 0) (SS.forR tg.put body.run xs ρ h) o
  | [], s, o, ρ, h, f, r, e => by cases e; exact ⟨ρ, h, f, rfl, r, rfl⟩
  | x :: xs, s, o, ρ, h, f, r, e => by
    unfold forC at e
    obtain ⟨o1, e1, e⟩ := bd_eq e
    obtain ⟨a, ρ1, k1, p1, r1, _⟩ := ht s ρ h f r x _ _ o1 e1
    have q := hb s a ρ1 h f r1 o1 k1
    rw [forR_nxt p1]
    cases o1 with
    | nx s1 =>
      obtain ⟨ρ2, h2, f2, e2, r2, z2⟩ := q
      rw [e2, ← z2]
      exact for_goC ht hb xs s1 o ρ2 h2 f2 r2 e
    | ct s1 =>
      obtain ⟨ρ2, h2, f2, e2, r2, z2⟩ := q
      rw [e2, ← z2]
      exact for_goC ht hb xs s1 o ρ2 h2 f2 r2 e
    | bk s1 =>
      cases e
      obtain ⟨ρ2, h2, f2, e2, r2, z2⟩ := q
      exact ⟨ρ2, h2, f2, by rw [e2]; rfl, r2, z2⟩
    | rt z =>
      cases e
      obtain ⟨v, h2, e2, p⟩ := q
      exact ⟨v, h2, by rw [e2]; rfl, p⟩
theorem jc_for {E : σ → Ev} {EB : δ → Ev} {ct : σ → D → Cd β} {Et : σ → β → Ev} {rb : σ → β → Option (Ct σ σ τ)} (hi : CI env it ci Vi Ei) (s0 : α → σ) (w0 : ∀ a, Wk (Ei a) (E (s0 a))) (ht : ∀ s, CT (E s) tg (ct s) (Et s)) (hb : ∀ s a, JC P (Et s a) body (rb s a) E E) :
    JC P env (SS.forS it tg body) (ci _ fun a => forC (fun x s => ct s x (Ct σ σ τ) fun a => rb s a) (Vi a) (s0 a)) E EB := fun ρ h f r o ho => by
  obtain ⟨a, h1, k1, e1, a1⟩ := hi ρ h f r _ _ o ho
  have q := for_goC (δ := δ) ht hb (Vi a) (s0 a) o ρ h1 f (a1.rep.wk (w0 a)) k1
  have e : (SS.forS it tg body).run ρ h = SS.forR tg.put body.run (Vi a) ρ h1 := by rw [SS.forS_run, e1, Oc.thn_ok]
  rw [e]
  cases o with
  | nx s' => exact q
  | rt z => exact q
  | bk _ => exact q.elim
  | ct _ => exact q.elim
end
def Pd : Pr D := fun h _ v z => ∃ h2, N.frz h v = some (z, h2)
def Pm : Pr (List D) := fun h _ v zs => ∃ n, v = .r n ∧ h[n]? = some (.lst (zs.map .d))
def Pg : Pr (D × List D) := fun h p v z => ∃ h2, N.frz h v = some (z.1, h2) ∧ h2[p]? = some (.lst (z.2.map .d))
section
variable {α β : Type} {env : Ev} {e : SE} {c : Cd α} {E : α → Ev}
theorem jt_ret {V : α → D} (h : CE env e c V E) : JT Pd env (SS.ret e) (c D fun a => some (V a)) := fun ρ h0 f r z hz => by
  obtain ⟨a, h1, k1, e1, a1⟩ := h ρ h0 f r D _ z hz
  cases k1
  exact ⟨_, h1, by rw [SS.ret_run, e1, Oc.thn_ok], h1, rfl⟩
theorem jt_retO {V : α → List D} (h : CO env e c V E) : JT Pd env (SS.ret e) (c D fun a => some (.list (V a))) := fun ρ h0 f r z hz => by
  obtain ⟨a, h1, n, k1, e1, en, l, a1⟩ := h ρ h0 f r D _ z hz
  cases k1
  exact ⟨_, h1, by rw [SS.ret_run, e1, Oc.thn_ok], _, frz_own en⟩
theorem jt_retMO {V : α → List D} (h : CO env e c V E) : JT Pm env (SS.ret e) (c _ fun a => some (V a)) := fun ρ h0 f r z hz => by
  obtain ⟨a, h1, n, k1, e1, en, l, a1⟩ := h ρ h0 f r _ _ z hz
  cases k1
  exact ⟨_, h1, by rw [SS.ret_run, e1, Oc.thn_ok], n, rfl, en⟩
theorem jt_retG {V : α → D} {X : α → List D} (h : CE env e c V E) (hx : ∀ a, (E a)[0]? = some (.o (X a))) : JT Pg env (SS.ret e) (c _ fun a => some (V a, X a)) := fun ρ h0 f r z hz => by
  obtain ⟨a, h1, k1, e1, a1⟩ := h ρ h0 f r _ _ z hz
  cases k1
  exact ⟨_, h1, by rw [SS.ret_run, e1, Oc.thn_ok], h1, rfl, (a1.rep.sl 0 _ (hx a)).2⟩
variable {s : SS}
theorem jr_end (h : JN env s c E) : JR Pd env s (c D fun _ => some .none) := fun ρ h0 f r z hz => by
  obtain ⟨a, ρ1, h1, f1, k1, e1, r1, z1⟩ := h ρ h0 f r D _ z hz
  cases k1
  exact ⟨_, h1, by rw [e1]; rfl, h1, rfl⟩
end
def startE (n : Nat) (xs : List Sl) : Ev := xs ++ List.replicate (n - xs.length) .no
theorem startE_nt {n : Nat} {xs : List D} {i k : Nat} {x : D} (e : (startE n (xs.map .d))[i]? = some (.t k x)) : False := by
  unfold startE at e
  by_cases c : i < xs.length
  · rw [List.getElem?_append_left (by simpa using c), List.getElem?_map, List.getElem?_eq_getElem c] at e
    cases e
  · rw [List.getElem?_append_right (by simpa using c), List.getElem?_replicate] at e
    split at e <;> cases e
theorem startE_ntG {n : Nat} {g xs : List D} {i k : Nat} {x : D} (e : (startE n (.o g :: xs.map .d))[i]? = some (.t k x)) : False := by
  unfold startE at e
  cases i with
  | zero => cases e
  | succ i =>
    by_cases c : i < xs.length
    · rw [List.getElem?_append_left (by simpa using c), List.getElem?_cons_succ, List.getElem?_map, List.getElem?_eq_getElem c] at e
      cases e
    · rw [List.getElem?_append_right (by simpa using c), List.getElem?_replicate] at e
      split at e <;> cases e
theorem rep_start {n : Nat} {xs : List D} (hn : xs.length ≤ n) : Rep (startN n (xs.map .d)) [] (fun _ => 0) (startE n (xs.map .d)) := by
  refine ⟨by simp [startN, startE], fun i s e => ?_, fun i j ys zs e1 => ?_, fun i j ki kj x y v w I J e1 => (startE_nt e1).elim⟩
  · unfold startE at e
    by_cases c : i < xs.length
    · rw [List.getElem?_append_left (by simpa using c), List.getElem?_map, List.getElem?_eq_getElem c] at e
      cases e
      show (startN n (xs.map .d))[i]? = _
      unfold startN
      rw [List.getElem?_append_left (by simpa using c), List.getElem?_map, List.getElem?_map, List.getElem?_eq_getElem c]
      rfl
    · rw [List.getElem?_append_right (by simpa using c), List.getElem?_replicate] at e
      split at e
      · cases e; trivial
      · cases e
  · unfold startE at e1
    by_cases c : i < xs.length
    · rw [List.getElem?_append_left (by simpa using c), List.getElem?_map, List.getElem?_eq_getElem c] at e1
      cases e1
    · rw [List.getElem?_append_right (by simpa using c), List.getElem?_replicate] at e1
      split at e1 <;> cases e1
theorem startE_o {n : Nat} {g xs : List D} {i : Nat} {ys : List D} (e : (startE n (.o g :: xs.map .d))[i]? = some (.o ys)) : i = 0 ∧ ys = g := by
  unfold startE at e
  cases i with
  | zero => cases e; exact ⟨rfl, rfl⟩
  | succ i =>
    by_cases c : i < xs.length
    · rw [List.getElem?_append_left (by simpa using c), List.getElem?_cons_succ, List.getElem?_map, List.getElem?_eq_getElem c] at e
      cases e
    · rw [List.getElem?_append_right (by simpa using c), List.getElem?_replicate] at e
      split at e <;> cases e
theorem rep_startG {n : Nat} {g xs : List D} (hn : xs.length + 1 ≤ n) : Rep (startN n (.r 0 :: xs.map .d)) [.lst (g.map .d)] (fun _ => 0) (startE n (.o g :: xs.map .d)) := by
  refine ⟨by simp [startN, startE], fun i s e => ?_, fun i j ys zs e1 e2 _ => ?_, fun i j ki kj x y v w I J e1 => (startE_ntG e1).elim⟩
  · cases i with
    | zero => cases e; exact ⟨rfl, rfl⟩
    | succ i =>
      unfold startE at e
      by_cases c : i < xs.length
      · rw [List.getElem?_append_left (by simpa using c), List.getElem?_cons_succ, List.getElem?_map, List.getElem?_eq_getElem c] at e
        cases e
        show (startN n (.r 0 :: xs.map .d))[i + 1]? = _
        unfold startN
        rw [List.getElem?_append_left (by simpa using c), List.getElem?_map, List.getElem?_cons_succ, List.getElem?_map, List.getElem?_eq_getElem c]
        rfl
      · rw [List.getElem?_append_right (by simpa using c), List.getElem?_replicate] at e
        split at e
        · cases e; trivial
        · cases e
  · rw [(startE_o e1).1, (startE_o e2).1]
theorem run_res {body : SS} {n np : Nat} {args : List Vd} {h h' : Hd} {v : Vd} (hl : args.length = np) (e : resOf (body.run (startN n args) h) = some (v, h')) : runDef body n np args h = .ok v h' := by
  unfold runDef
  rw [if_pos hl]
  unfold resOf at e
  split at e
  · rename_i q; rw [q]; cases e; rfl
  · rename_i q; rw [q]; cases e; rfl
  · cases e
section
variable {body : SS} {n np : Nat} {xs g : List D}
theorem fd_ofJ {r : Option D} {z : D} (hl : xs.length = np) (hn : xs.length ≤ n) (j : JR Pd (startE n (xs.map .d)) body r) (e : r = some z) : FD (runDef body n np) xs = some z := by
  obtain ⟨v, h', e1, h2, p⟩ := j _ [] _ (rep_start hn) z e
  unfold FD
  rw [run_res (by rw [List.length_map]; exact hl) e1]
  dsimp only
  rw [p]
theorem fm_ofJ {r : Option (List D)} {z : List D} (hl : xs.length = np) (hn : xs.length ≤ n) (j : JR Pm (startE n (xs.map .d)) body r) (e : r = some z) : FM (runDef body n np) xs = some z := by
  obtain ⟨v, h', e1, m, rfl, p⟩ := j _ [] _ (rep_start hn) z e
  unfold FM
  rw [run_res (by rw [List.length_map]; exact hl) e1]
  dsimp only
  rw [p]
  exact datas_d z
theorem fg_ofJ {r : Option (D × List D)} {z : D × List D} (hl : xs.length + 1 = np) (hn : xs.length + 1 ≤ n) (j : JR Pg (startE n (.o g :: xs.map .d)) body r) (e : r = some z) : FG (runDef body n np) g xs = some z := by
  obtain ⟨v, h', e1, h2, p, q⟩ := j _ _ _ (rep_startG hn) z e
  unfold FG
  rw [run_res (by simpa using hl) e1]
  dsimp only
  rw [p]
  dsimp only
  rw [q]
  dsimp only
  rw [datas_d]
end
end J
end
section
set_option maxRecDepth 100000
set_option maxHeartbeats 2000000
namespace J
open PySem PySem.Spec PyProof.Rows L2 G N
section
variable {ρ : Rh} {h h' : Hd} {f : Nat → Nat} {env e1 e2 : Ev}
theorem Af.wk (a : Af ρ h f env h' e1) (w : Wk e1 e2) : Af ρ h f env h' e2 := ⟨a.rep.wk w, a.len, a.kp, fun i xs e => a.sub i xs (w.own e)⟩
end
section
variable {α β γ δ : Type} {env : Ev}
section
variable {a : SB} {x y : SE} {ca : Cd α} {Va : α → Bool} {Ea : α → Ev} {cx : α → Cd β} {cy : α → Cd γ} {E' : δ → Ev} {g0 : α → β → δ} {g1 : α → γ → δ}
theorem ce_ifxJ {Vx : α → β → D} {Vy : α → γ → D} {Ex : α → β → Ev} {Ey : α → γ → Ev} (ha : CB env a ca Va Ea) (hx : ∀ p, CE (Ea p) x (cx p) (Vx p) (Ex p)) (hy : ∀ p, CE (Ea p) y (cy p) (Vy p) (Ey p)) (w0 : ∀ p q, Wk (Ex p q) (E' (g0 p q))) (w1 : ∀ p q, Wk (Ey p q) (E' (g1 p q))) :
    CE env (SE.ifx a x y) (fun R k => ca R fun p => bd (if Va p = true then cx p (D × δ) fun q => some (Vx p q, g0 p q) else cy p (D × δ) fun q => some (Vy p q, g1 p q)) fun z => k (p, z)) (fun p => p.2.1) (fun p => E' p.2.2) := fun ρ h f r R k z hz => by
  obtain ⟨p, h1, k1, e1, a1⟩ := ha ρ h f r R _ z hz
  obtain ⟨w, e3, k3⟩ := bd_eq k1
  cases c : Va p with
  | false =>
    rw [c] at e1 e3
    rw [if_neg (by decide)] at e3
    obtain ⟨q, h2, k4, e4, a4⟩ := hy p ρ h1 f a1.rep _ _ w e3
    cases k4
    refine ⟨(p, _), h2, k3, ?_, (a1.trans a4).wk (w1 p q)⟩
    rw [SE.ifx_ev, e1, Oc.bind_ok]
    exact e4
  | true =>
    rw [c] at e1 e3
    rw [if_pos rfl] at e3
    obtain ⟨q, h2, k4, e4, a4⟩ := hx p ρ h1 f a1.rep _ _ w e3
    cases k4
    refine ⟨(p, _), h2, k3, ?_, (a1.trans a4).wk (w0 p q)⟩
    rw [SE.ifx_ev, e1, Oc.bind_ok]
    exact e4
end
def lc2D (st : D → Option (List D)) : List D → List D → Option (List D)
  | [], out => some out
  | x :: xs, out => bd (st x) fun ys => if (out ++ ys).length ≤ 1000000 then lc2D st xs (out ++ ys) else none
section
variable {ε ζ η : Type} {it1 : SI} {tg tg1 : ST} {c c1 : SB} {g : SE} {vs : List Nat} {f : Nat → Nat} {ρ : Rh} {ct : D → Cd α} {Et : α → Ev} {cc : α → Cd β} {Vc : α → β → Bool} {ci1 : α → Cd γ} {Vi1 : α → γ → List D} {ct1 : α → D → Cd δ} {Et1 : α → δ → Ev} {cc1 : α → δ → Cd ε} {Vc1 : α → δ → ε → Bool} {cg : α → δ → Cd ζ} {Vg : α → δ → ζ → D}
theorem lc2_goJ (ht : CT (wipeE env vs) tg ct Et) (hc : ∀ a, CB (Et a) c (cc a) (Vc a) fun _ => Et a) (hi1 : ∀ a, CI (Et a) it1 (ci1 a) (Vi1 a) fun _ => Et a)
    (ht1 : ∀ a, CT (wipeE (Et a) tg1.vs) tg1 (ct1 a) (Et1 a)) (hc1 : ∀ a b, CB (Et1 a b) c1 (cc1 a b) (Vc1 a b) fun _ => Et1 a b) (hg : ∀ a b, CE (Et1 a b) g (cg a b) (Vg a b) fun _ => Et1 a b) :
    ∀ (xs : List D) (zs ys : List D) (h : Hd), Rep ρ h f env → lc2D (fun x => ct x (List D) fun a => cc a (List D) fun b => if Vc a b = true then ci1 a (List D) fun p => if (Vi1 a p).length ≤ 1000000 then lcF (fun x => ct1 a x (Option D) fun d => cc1 a d (Option D) fun e => if Vc1 a d e = true then cg a d (Option D) fun y => some (some (Vg a d y)) else some none) (Vi1 a p) else none else some []) xs zs = some ys →
      ∃ h', lcR2 tg.put c.ev it1.ev tg1.put tg1.vs c1.ev g.ev (wipeN ρ vs) xs (zs.map .d) h = .ok (ys.map .d) h' ∧ Af ρ h f env h' env
  | [], zs, ys, h, r, e => by cases e; exact ⟨h, by unfold lcR2; rfl, .refl r⟩
  | x :: xs, zs, ys, h, r, e => by
    unfold lc2D at e
    obtain ⟨ws, e1, e⟩ := bd_eq e
    split at e
    · rename_i len
      obtain ⟨a, ρ1, k1, p1, r1, s1⟩ := ht _ h f (r.wipe vs) x _ _ ws e1
      obtain ⟨b, h1, k2, e2, a2⟩ := hc a ρ1 h f r1 _ _ ws k1
      have sub : ∀ (i : Nat) (zs : List D), (Et a)[i]? = some (.o zs) → env[i]? = some (.o zs) := fun i zs q => wipe_own (s1 i zs q)
      have A2 := Af.back r sub (fun i zs q => q) a2
      unfold lcR2
      rw [p1]
      dsimp only
      rw [e2]
      cases cv : Vc a b with
      | false =>
        rw [cv, if_neg (by decide)] at k2
        cases k2
        rw [List.append_nil] at e
        obtain ⟨h', z, A⟩ := lc2_goJ ht hc hi1 ht1 hc1 hg xs zs ys h1 A2.rep e
        exact ⟨h', z, A2.trans A⟩
      | true =>
        rw [cv, if_pos rfl] at k2
        obtain ⟨p, h2, k3, e3, a3⟩ := hi1 a ρ1 h1 f a2.rep _ _ ws k2
        split at k3
        · rename_i l3
          obtain ⟨h3, e4, a4⟩ := lc_goF (ρ := ρ1) (ht1 a) (hc1 a) (hg a) (Vi1 a p) ws (zs.map .d) h2 a3.rep k3
          have A3 := Af.back A2.rep sub (fun i zs q => q) (a3.trans a4)
          dsimp only
          rw [e3]
          dsimp only
          rw [if_pos l3, e4]
          dsimp only
          rw [if_pos (by rw [← List.map_append, List.length_map]; exact len), ← List.map_append]
          obtain ⟨h', z, A⟩ := lc2_goJ ht hc hi1 ht1 hc1 hg xs (zs ++ ws) ys h3 A3.rep e
          exact ⟨h', z, (A2.trans A3).trans A⟩
        · cases k3
    · cases e
theorem co_lc2 {θ : Type} {it : SI} {ci : Cd θ} {Vi : θ → List D} {Ei : Ev} (hs : ∀ i ∈ tg.vs, i ∈ vs) (hi : CI env it ci Vi fun _ => Ei) (ht : CT (wipeE Ei vs) tg ct Et) (hc : ∀ a, CB (Et a) c (cc a) (Vc a) fun _ => Et a) (hi1 : ∀ a, CI (Et a) it1 (ci1 a) (Vi1 a) fun _ => Et a)
    (ht1 : ∀ a, CT (wipeE (Et a) tg1.vs) tg1 (ct1 a) (Et1 a)) (hc1 : ∀ a b, CB (Et1 a b) c1 (cc1 a b) (Vc1 a b) fun _ => Et1 a b) (hg : ∀ a b, CE (Et1 a b) g (cg a b) (Vg a b) fun _ => Et1 a b) :
    CO env (SE.lc2M vs it tg c it1 tg1 c1 g hs) (fun R k => ci R fun p => bd (if (Vi p).length ≤ 1000000 then lc2D (fun x => ct x (List D) fun a => cc a (List D) fun b => if Vc a b = true then ci1 a (List D) fun p => if (Vi1 a p).length ≤ 1000000 then lcF (fun x => ct1 a x (Option D) fun d => cc1 a d (Option D) fun e => if Vc1 a d e = true then cg a d (Option D) fun y => some (some (Vg a d y)) else some none) (Vi1 a p) else none else some []) (Vi p) [] else none) fun ys => k (p, ys)) (fun q => q.2) (fun _ => Ei) := fun ρ h f r R k z hz => by
  obtain ⟨p, h1, k1, e1, a1⟩ := hi ρ h f r R _ z hz
  obtain ⟨ys, e2, k2⟩ := bd_eq k1
  by_cases l : (Vi p).length ≤ 1000000
  · rw [if_pos l] at e2
    obtain ⟨h', e3, a3⟩ := lc2_goJ ht hc hi1 ht1 hc1 hg (Vi p) [] ys h1 a1.rep e2
    refine ⟨(p, ys), h' ++ [.lst (ys.map .d)], h'.length, k2, ?_, new_at, (a1.trans a3).len, (a1.trans a3).trans (a3.rep.new _)⟩
    rw [SE.lc2M_ev, e1, Oc.bind_ok, if_pos l, show ([] : List Vd) = ([] : List D).map .d from rfl, e3]
  · rw [if_neg l] at e2
    cases e2
end
end
end J
end
section
set_option maxRecDepth 100000
set_option maxHeartbeats 2000000
namespace J
open PySem PySem.Spec PyProof.Rows L2 G N
section
variable {α β : Type} {env : Ev} {a b : SE} {ca : Cd α} {Va : α → D} {Ea : α → Ev} {cb : α → Cd β} {Vb : α → β → D} {Eb : α → β → Ev}
theorem ce_count (ha : CE env a ca Va Ea) (hb : ∀ x, CE (Ea x) b (cb x) (Vb x) (Eb x)) :
    CE env (SE.count a b) (fun R k => ca R fun x => cb x R fun y => bd (countD (Va x) (Vb x y)) fun z => k (x, y, z)) (fun p => p.2.2) (fun p => Eb p.1 p.2.1) := fun ρ h f r R k z hz => by
  obtain ⟨x, h1, k1, e1, a1⟩ := ha ρ h f r R _ z hz
  obtain ⟨y, h2, k2, e2, a2⟩ := hb x ρ h1 f a1.rep R _ z k1
  obtain ⟨w, e3, k3⟩ := bd_eq k2
  refine ⟨(x, y, w), h2, k3, ?_, a1.trans a2⟩
  have il : isL h1 (.d (Va x)) = true := by
    cases q : Va x with
    | list ys => rfl
    | _ => rw [q] at e3; cases e3
  rw [SE_count_ev, e1, Oc.bind_ok, if_pos il, e2, Oc.bind_ok]
  exact fnV_d (g := f2 countD) (xs := [Va x, Vb x y]) e3
end
end J
end
section
set_option maxRecDepth 100000
set_option maxHeartbeats 2000000
namespace J
open PySem PySem.Spec PyProof.Rows L2 G N
theorem Af.tempE {ρ : Rh} {h h2 : Hd} {f : Nat → Nat} {env env2 : Ev} {n : Nat} {zs : List Vd} (a : Af ρ h f env h2 env2) (l : h.length ≤ n) (o : Out env2 f n) (hn : h2[n]? = some (.lst zs)) (en : Ent) : Af ρ h f env (h2.set n en) env2 := by
  refine ⟨⟨a.rep.len, fun j t e => ?_, a.rep.inj, a.rep.dj_mono (fun i k x e => ⟨e, rfl⟩) fun _ _ _ _ t => t.set _ fun t ys q => (by rw [q] at hn; cases hn)⟩, by rw [List.length_set]; exact a.len, fun m e p q => ?_, a.sub⟩
  · have z := a.rep.sl j t e
    cases t with
    | no => trivial
    | d x => exact z
    | f x =>
      obtain ⟨w, h1, h3⟩ := z
      refine ⟨w, h1, ?_⟩
      rcases h3 with h3 | ⟨m, h3, h4⟩
      · exact .inl h3
      · refine .inr ⟨m, h3, ?_⟩
        rw [List.getElem?_set_ne (fun y => by rw [y, h4] at hn; cases hn)]
        exact h4
    | e x => obtain ⟨m, h1, h4⟩ := z; exact ⟨m, h1, by rw [List.getElem?_set_ne (fun y => by rw [y, h4] at hn; cases hn)]; exact h4⟩
    | o xs => exact ⟨z.1, by rw [List.getElem?_set_ne (fun y => o j xs e y.symm)]; exact z.2⟩
    | t k x => obtain ⟨w, I, h1, h2⟩ := z; exact ⟨w, I, h1, h2.set _ fun t ys q => by rw [q] at hn; cases hn⟩
  · have lm := (List.getElem?_eq_some_iff.mp p).1
    rw [List.getElem?_set_ne (by omega)]
    exact a.kp m e p q
def atmsO (o : Option (List D)) : Option (List D) := match o with
  | some zs => if atoms zs = true then some zs else none
  | none => none
theorem atoms_ints : ∀ xs : List Int, atoms (xs.map PyData.int) = true
  | [] => rfl
  | x :: xs => by rw [List.map_cons, atoms, atoms_ints xs]; rfl
@[simp] theorem atmsO_i (xs : List Int) : atmsO (some (xs.map .int)) = some (xs.map .int) := by
  unfold atmsO
  dsimp only
  rw [if_pos (atoms_ints xs)]
end J
end
section
set_option maxRecDepth 100000
set_option maxHeartbeats 2000000
namespace J
open PySem PySem.Spec PyProof.Rows L2 G N
structure TreesV (k : Nat) (h : Hd) (vs : List Vd) (xs : List D) (Is : List (List Nat)) : Prop where
  pk : N.mapO (N.pk k h) vs = some xs
  ix : N.mapO (N.treeI k h) vs = some Is
  nd : Is.flatten.Nodup
theorem mapO_some {α β : Type} {f : α → Option β} {x : α} {xs : List α} {y : β} {ys : List β} (h : f x = some y) (t : N.mapO f xs = some ys) : N.mapO f (x :: xs) = some (y :: ys) := by
  unfold N.mapO
  rw [h]
  dsimp only
  rw [t]
theorem mapO_len {α β : Type} {f : α → Option β} : ∀ {xs : List α} {us : List β}, N.mapO f xs = some us → us.length = xs.length
  | [], _, e => by cases e; rfl
  | x :: xs, _, e => by
    obtain ⟨z, zs, e1, e2, rfl⟩ := N.mapO_cons e
    rw [List.length_cons, List.length_cons, mapO_len e2]
theorem TreesV.nod {k : Nat} {h : Hd} {vs : List Vd} {xs : List D} {Is : List (List Nat)} (t : TreesV k h vs xs Is) : ∀ i ∈ Is.flatten, ∃ b ys, h[i]? = some (.nod b ys) :=
  N.mapO_flat (fun x I e => N.treeI_nod k e) t.ix
theorem TreesV.frame {k : Nat} {h h' : Hd} {vs : List Vd} {xs : List D} {Is : List (List Nat)} (t : TreesV k h vs xs Is) (p : ∀ i ∈ Is.flatten, h'[i]? = h[i]?) : TreesV k h' vs xs Is := by
  obtain ⟨a, b⟩ := mapO_frame (F' := N.treeI k h') (G := N.pk k h) (G' := N.pk k h') (P := fun i => h'[i]? = h[i]?) (fun x I e q => tree_frame k e q) t.ix p
  exact ⟨by rw [b]; exact t.pk, a, t.nd⟩
theorem TreesV.app {k : Nat} {h : Hd} {vs : List Vd} {xs : List D} {Is : List (List Nat)} (t : TreesV k h vs xs Is) (l : Hd) : TreesV k (h ++ l) vs xs Is := t.frame fun i hi => by
  obtain ⟨b, ys, e⟩ := t.nod i hi
  rw [List.getElem?_append_left (List.getElem?_eq_some_iff.mp e).1]
theorem TreesV.af {ρ : Rh} {h h1 : Hd} {f : Nat → Nat} {env env1 : Ev} {k : Nat} {vs : List Vd} {xs : List D} {Is : List (List Nat)} (t : TreesV k h vs xs Is) (r : Rep ρ h f env) (a : Af ρ h f env h1 env1) : TreesV k h1 vs xs Is := t.frame fun i hi => by
  obtain ⟨b, ys, q⟩ := t.nod i hi
  rw [a.kp i _ q (r.out_nod q), q]
theorem TreesV.lt {k : Nat} {h : Hd} {vs : List Vd} {xs : List D} {Is : List (List Nat)} (t : TreesV k h vs xs Is) : ∀ i ∈ Is.flatten, i < h.length := fun i hi => by
  obtain ⟨b, ys, e⟩ := t.nod i hi
  exact (List.getElem?_eq_some_iff.mp e).1
theorem TreeV.lt {k : Nat} {h : Hd} {v : Vd} {x : D} {I : List Nat} (t : TreeV k h v x I) : ∀ i ∈ I, i < h.length := fun i hi => by
  obtain ⟨b, ys, e⟩ := t.nod i hi
  exact (List.getElem?_eq_some_iff.mp e).1
theorem TreesV.nil {k : Nat} {h : Hd} : TreesV k h [] [] [] := ⟨rfl, rfl, by simp⟩
theorem TreesV.cons {k : Nat} {h : Hd} {v : Vd} {x : D} {I : List Nat} {vs : List Vd} {xs : List D} {Is : List (List Nat)} (t : TreeV k h v x I) (ts : TreesV k h vs xs Is) (dj : ∀ i ∈ I, i ∉ Is.flatten) : TreesV k h (v :: vs) (x :: xs) (I :: Is) :=
  ⟨mapO_some t.pk ts.pk, mapO_some t.ix ts.ix, by rw [List.flatten_cons, List.nodup_append]; exact ⟨t.nd, ts.nd, fun a ha b hb e => dj a ha (e ▸ hb)⟩⟩
def TrE : Ev → Ev → Prop
  | [], _ => True
  | .t k x :: e, s :: e' => s = .t k x ∧ TrE e e'
  | _ :: e, _ :: e' => TrE e e'
  | _ :: _, [] => False
theorem TrE.at : ∀ {e e' : Ev}, TrE e e' → ∀ {i k : Nat} {x : D}, e[i]? = some (.t k x) → e'[i]? = some (.t k x)
  | [], _, _, i, k, x, q => by simp at q
  | .t m y :: e, s :: e', t, 0, k, x, q => by cases q; rw [t.1]; rfl
  | .t m y :: e, s :: e', t, i + 1, k, x, q => TrE.at t.2 (i := i) q
  | .no :: e, s :: e', t, 0, k, x, q => by cases q
  | .no :: e, s :: e', t, i + 1, k, x, q => TrE.at (e := e) (e' := e') t (i := i) q
  | .d _ :: e, s :: e', t, 0, k, x, q => by cases q
  | .d _ :: e, s :: e', t, i + 1, k, x, q => TrE.at (e := e) (e' := e') t (i := i) q
  | .f _ :: e, s :: e', t, 0, k, x, q => by cases q
  | .e _ :: e, s :: e', t, 0, k, x, q => by cases q
  | .f _ :: e, s :: e', t, i + 1, k, x, q => TrE.at (e := e) (e' := e') t (i := i) q
  | .e _ :: e, s :: e', t, i + 1, k, x, q => TrE.at (e := e) (e' := e') t (i := i) q
  | .o _ :: e, s :: e', t, 0, k, x, q => by cases q
  | .o _ :: e, s :: e', t, i + 1, k, x, q => TrE.at (e := e) (e' := e') t (i := i) q
  | .t _ _ :: e, [], t, _, _, _, _ => by cases t
  | .no :: e, [], t, _, _, _, _ => by cases t
  | .d _ :: e, [], t, _, _, _, _ => by cases t
  | .f _ :: e, [], t, _, _, _, _ => by cases t
  | .e _ :: e, [], t, _, _, _, _ => by cases t
  | .o _ :: e, [], t, _, _, _, _ => by cases t
def CR {α : Type} (k : Nat) (env : Ev) (e : SE) (c : Cd α) (V : α → D) (E : α → Ev) : Prop :=
  ∀ (ρ : Rh) (h : Hd) (f : Nat → Nat), Rep ρ h f env → ∀ (R : Type) (kk : α → Option R) (r : R), c R kk = some r → ∃ a h' v I, kk a = some r ∧ e.ev ρ h = .ok v h' ∧ TreeV k h' v (V a) I ∧ (∀ i ∈ I, h.length ≤ i) ∧ Af ρ h f env h' (E a)
section
variable {α β γ δ : Type} {k o : Nat} {env : Ev}
theorem TreeV.list {h : Hd} {v : Vd} {xs : List D} {I : List Nat} (t : TreeV (k + 1) h v (.list xs) I) : ∃ n vs Is, v = .r n ∧ h[n]? = some (.nod false vs) ∧ I = n :: Is.flatten ∧ TreesV k h vs xs Is ∧ vs.length ≤ 1000000 ∧ n ∉ Is.flatten := by
  obtain ⟨p, i, nd⟩ := t
  cases v with
  | d x =>
    unfold N.pk at p
    cases p
    unfold N.treeI at i
    split at i
    · rename_i lf; simp [N.leafB] at lf
    · cases i
  | r n =>
    unfold N.treeI at i
    split at i
    · rename_i b vs en
      split at i
      · rename_i hl
        simp only [Option.map_eq_some_iff] at i
        obtain ⟨Is, e1, rfl⟩ := i
        unfold N.pk at p
        rw [en] at p
        dsimp only at p
        simp only [Option.map_eq_some_iff] at p
        obtain ⟨ys, e2, e3⟩ := p
        have nd' := List.nodup_cons.mp nd
        cases b with
        | true => cases e3
        | false =>
          cases e3
          exact ⟨n, vs, Is, rfl, en, rfl, ⟨e2, e1, nd'.2⟩, hl, nd'.1⟩
      · cases i
    · cases i
end
end J
end
section
set_option maxRecDepth 100000
set_option maxHeartbeats 2000000
namespace J
open PySem PySem.Spec PyProof.Rows L2 G N
theorem sh_at {h h2 : Hd} {n : Nat} {e : Ent} (q : h2[n]? = some e) : (h ++ h2.map (shE h.length))[n + h.length]? = some (shE h.length e) := by
  rw [List.getElem?_append_right (by omega), Nat.add_sub_cancel, List.getElem?_map, q]
  rfl
theorem mapO_sh {α β : Type} {F F' : Vd → Option β} {s : Vd → Vd} {t : β → β} (ih : ∀ x y, F x = some y → F' (s x) = some (t y)) : ∀ {xs : List Vd} {ys : List β}, N.mapO F xs = some ys → N.mapO F' (xs.map s) = some (ys.map t)
  | [], _, e => by cases e; rfl
  | x :: xs, _, e => by
    obtain ⟨z, zs, e1, e2, rfl⟩ := N.mapO_cons e
    rw [List.map_cons]
    exact mapO_some (ih x z e1) (mapO_sh (α := α) ih e2)
theorem pk_sh {h h2 : Hd} : ∀ (k : Nat) {v : Vd} {x : D} {I : List Nat}, N.treeI k h2 v = some I → N.pk k h2 v = some x → N.pk k (h ++ h2.map (shE h.length)) (shV h.length v) = some x
  | k, .d y, x, _, _, e => by unfold N.pk at e; cases e; unfold shV N.pk; rfl
  | 0, .r n, x, _, i, e => by simp [N.pk] at e
  | k + 1, .r n, x, _, i, e => by
    unfold N.treeI at i
    split at i
    · rename_i b vs en
      split at i
      · simp only [Option.map_eq_some_iff] at i
        obtain ⟨Is, i1, _⟩ := i
        unfold N.pk at e
        rw [en] at e
        dsimp only at e
        simp only [Option.map_eq_some_iff] at e
        obtain ⟨ys, e1, rfl⟩ := e
        unfold shV N.pk
        rw [sh_at en]
        dsimp only [shE]
        have go : ∀ (vs : List Vd) (Is : List (List Nat)) (ys : List D), N.mapO (N.treeI k h2) vs = some Is → N.mapO (N.pk k h2) vs = some ys → N.mapO (N.pk k (h ++ h2.map (shE h.length))) (vs.map (shV h.length)) = some ys := by
          intro vs
          induction vs with
          | nil => intro Is ys _ q; cases q; rfl
          | cons v vs ihv =>
            intro Is ys p q
            obtain ⟨_, _, p1, p2, _⟩ := N.mapO_cons p
            obtain ⟨_, _, q1, q2, rfl⟩ := N.mapO_cons q
            exact mapO_some (pk_sh k p1 q1) (ihv _ _ p2 q2)
        rw [go vs Is ys i1 e1]
        rfl
      · cases i
    · cases i
theorem ix_sh {h h2 : Hd} : ∀ (k : Nat) {v : Vd} {I : List Nat}, N.treeI k h2 v = some I → N.treeI k (h ++ h2.map (shE h.length)) (shV h.length v) = some (I.map (· + h.length))
  | k, .d y, I, e => by
    unfold N.treeI at e
    split at e
    · rename_i lf
      cases e
      unfold shV N.treeI
      rw [if_pos lf]
      rfl
    · cases e
  | 0, .r n, I, e => by simp [N.treeI] at e
  | k + 1, .r n, I, e => by
    unfold N.treeI at e
    split at e
    · rename_i b vs en
      split at e
      · rename_i hl
        simp only [Option.map_eq_some_iff] at e
        obtain ⟨Is, e1, rfl⟩ := e
        unfold shV N.treeI
        rw [sh_at en]
        dsimp only [shE]
        rw [if_pos (by rw [List.length_map]; exact hl), mapO_sh (α := Nat) (F := N.treeI k h2) (s := shV h.length) (t := fun I => I.map (· + h.length)) (fun x y q => ix_sh k q) e1]
        show some _ = some _
        rw [List.map_cons, List.map_flatten]
      · cases e
    · cases e
theorem TreeV.sh {k : Nat} {h h2 : Hd} {v : Vd} {x : D} {I : List Nat} (t : TreeV k h2 v x I) : TreeV k (h ++ h2.map (shE h.length)) (shV h.length v) x (I.map (· + h.length)) :=
  ⟨pk_sh k t.ix t.pk, ix_sh k t.ix, by
    rw [List.nodup_iff_pairwise_ne, List.pairwise_map]
    exact (List.nodup_iff_pairwise_ne.mp t.nd).imp fun n e => n (by omega)⟩
end J
end
section
set_option maxRecDepth 100000
set_option maxHeartbeats 2000000
namespace J
open PySem PySem.Spec PyProof.Rows L2 G N
end J
end
section
set_option maxRecDepth 100000
set_option maxHeartbeats 2000000
namespace N
open PySem PySem.Spec PyProof.Rows L2 G
namespace SS
end SS
end N
end
section
set_option maxRecDepth 100000
set_option maxHeartbeats 2000000
namespace J
open PySem PySem.Spec PyProof.Rows L2 G N
end J
end
section
set_option maxRecDepth 100000
set_option maxHeartbeats 2000000
namespace N
open PySem PySem.Spec PyProof.Rows L2 G
namespace SS
end SS
end N
end
section
set_option maxRecDepth 100000
set_option maxHeartbeats 2000000
namespace J
open PySem PySem.Spec PyProof.Rows L2 G N
def posD (n : Nat) : D → Option Nat
  | .int z => if 0 ≤ z then (if z.toNat < n then some z.toNat else none) else if 0 ≤ z + n then some (z + n).toNat else none
  | _ => none
def wkP (h : Hd) : Vd → List D → Option Vd
  | v, [] => some v
  | .r n, i :: p => match h[n]? with
    | some (.nod _ vs) => match posD vs.length i with
      | some l => match vs[l]? with
        | some w => wkP h w p
        | none => none
      | none => none
    | _ => none
  | .d _, _ :: _ => none
theorem TreesV.len {k : Nat} {h : Hd} {vs : List Vd} {xs : List D} {Is : List (List Nat)} (t : TreesV k h vs xs Is) : vs.length = xs.length := (mapO_len t.pk).symm
section
variable {α β γ : Type} {env : Ev}
def PO (j : Nat) (o : SE) (p : List D) : Prop := ∀ (ρ : Rh) (h : Hd) (v w : Vd), ρ[j]? = some (some v) → wkP h v p = some w → o.ev ρ h = .ok w h
end
end J
end
section
set_option maxRecDepth 100000
set_option maxHeartbeats 2000000
namespace SrtS
open PySem PyProof.Rows Srt
open SrtO hiding Str
section
variable {prog : Program} {w : World} {A : Around} {E : Value → Shared → Prop} {s : Shared}
def leS (x y : Str) : Prop := ¬ y.cps.toList < x.cps.toList
end
end SrtS
namespace L2
open PySem PySem.Spec PyProof.Rows
def rSortedT (K : PySem.W.Frag) : List V → Hp → VK → Prop := fun vs H Q => ∃ (a : Addr) (xs : List Str), vs = [V.ref a] ∧ SqL K H a (xs.map V.str) ∧
  ∀ (ys : List Str) (p : Addr), ys.Perm xs → ys.Pairwise SrtS.leS → H p = none → Q (.ref p) (upd H p (.lst (ys.map V.str)))
end L2
namespace N
open PySem PySem.Spec PyProof.Rows L2 G
def insS (x : Str) : List Str → List Str
  | [] => [x]
  | y :: ys => if y.cps.toList < x.cps.toList then y :: insS x ys else x :: y :: ys
def sortS : List Str → List Str
  | [] => []
  | x :: xs => insS x (sortS xs)
theorem insS_perm (x : Str) : ∀ xs, (insS x xs).Perm (x :: xs)
  | [] => .refl _
  | y :: ys => by
    unfold insS
    split
    · exact ((insS_perm x ys).cons y).trans (.swap ..)
    · exact .refl _
theorem sortS_perm : ∀ xs, (sortS xs).Perm xs
  | [] => .refl _
  | x :: xs => (insS_perm x _).trans ((sortS_perm xs).cons x)
theorem leS_trans {x y z : Str} (h : SrtS.leS x y) (k : SrtS.leS y z) : SrtS.leS x z := fun c => h (List.lt_of_le_of_lt (List.not_lt.mp k) c)
theorem insS_sorted (x : Str) : ∀ xs : List Str, xs.Pairwise SrtS.leS → (insS x xs).Pairwise SrtS.leS
  | [], _ => List.pairwise_singleton _ _
  | y :: ys, h => by
    obtain ⟨h1, h2⟩ := List.pairwise_cons.mp h
    unfold insS
    split
    · rename_i c
      refine List.pairwise_cons.mpr ⟨fun z hz => ?_, insS_sorted x ys h2⟩
      rcases List.mem_cons.mp ((insS_perm x ys).mem_iff.mp hz) with rfl | hz
      · exact fun d => List.lt_irrefl _ (List.lt_trans c d)
      · exact h1 z hz
    · rename_i c
      refine List.pairwise_cons.mpr ⟨fun z hz => ?_, h⟩
      rcases List.mem_cons.mp hz with rfl | hz
      · exact c
      · exact leS_trans c (h1 z hz)
theorem sortS_sorted : ∀ xs : List Str, (sortS xs).Pairwise SrtS.leS
  | [] => .nil
  | x :: xs => insS_sorted x _ (sortS_sorted xs)
theorem leS_anti {x y : Str} (h : SrtS.leS x y) (k : SrtS.leS y x) : x = y := by
  have e : x.cps.toList = y.cps.toList := List.le_antisymm (List.not_lt.mp h) (List.not_lt.mp k)
  cases x
  cases y
  congr 1
  exact Array.toList_inj.mp e
theorem sortS_of {a b : List Str} (p : a.Perm b) (h : a.Pairwise SrtS.leS) : a = sortS b :=
  (p.trans (sortS_perm b).symm).eq_of_pairwise (fun x y _ _ h1 h2 => leS_anti h1 h2) h (sortS_sorted b)
def strsOf : List PyData → Option (List Str)
  | [] => some []
  | .str i :: xs => match strsOf xs with
    | none => none
    | some ns => some (i :: ns)
  | _ => none
theorem strsOf_ok : ∀ {xs : List PyData} {ns : List Str}, strsOf xs = some ns → xs = ns.map .str
  | [], _, e => by unfold strsOf at e; cases e; rfl
  | .str i :: xs, ns, e => by
    unfold strsOf at e
    split at e
    · cases e
    · rename_i ms q
      cases e
      rw [strsOf_ok q]
      rfl
  | .none :: _, _, e => by cases e
  | .bool _ :: _, _, e => by cases e
  | .int _ :: _, _, e => by cases e
  | .list _ :: _, _, e => by cases e
  | .tuple _ :: _, _, e => by cases e
  | .dict _ :: _, _, e => by cases e
def sortSD : List PyData → Option PyData
  | [.list xs] => (strsOf xs).map fun ns => .list ((sortS ns).map .str)
  | _ => none
theorem daInS {K : PySem.W.Frag} {B : Hp} : ∀ ns : List Str, DaAll K B (ns.map V.str) (ns.map .str)
  | [] => .nil
  | n :: ns => .cons (.str n) (daInS ns)
theorem daStrs {K : PySem.W.Frag} {B : Hp} : ∀ {vs : List V} {ns : List Str}, DaAll K B vs (ns.map .str) → vs = ns.map V.str
  | _, [], h => by cases h; rfl
  | _, n :: ns, h => by
    cases h with
    | cons p q =>
      cases p
      rw [daStrs q]
      rfl
theorem sort_strs_ok {K : PySem.W.Frag} {xs : List PyData} {z : PyData} (e : sortSD xs = some z) : Fn K (rSortedT K) xs z := by
  unfold sortSD at e
  split at e
  · simp only [Option.map_eq_some_iff] at e
    obtain ⟨ns, e1, rfl⟩ := e
    rw [strsOf_ok e1]
    intro B H s us hu Q q
    obtain ⟨u, rfl, h⟩ := da1 hu
    cases h with
    | lst h a =>
      obtain rfl := daStrs a
      refine ⟨_, ns, rfl, same_l s h, fun ms p pm pw hp => ?_⟩
      rw [sortS_of pm pw]
      have k := Gr.add s hp (.lst ((sortS ns).map V.str))
      exact q _ _ _ k (.lst (.of upd_same) (daInS _))
  · cases e
def bSortedS : ON := ⟨sortSD, rSortedT, fun _ _ _ => sort_strs_ok⟩
@[simp] theorem bSortedS_f : bSortedS.f = sortSD := (rfl)
end N
end
section
set_option maxRecDepth 100000
set_option maxHeartbeats 2000000
namespace Lv
open PySem PySem.Spec PyProof.Rows L2
theorem kv_vals : ∀ {kvs : List (Key × V)} {vs : List (Key × Value)}, KV kvs vs → Vals (kvs.map Prod.snd) (vs.map Prod.snd)
  | _, _, .nil => .nil
  | _, _, .cons h t => .cons h.2 (kv_vals t)
def tListVals (te : TE) : TE := fun σ H Q => te σ H fun x H1 => ∃ (d : Addr) (kvs : List (Key × V)), x = .ref d ∧ H1 d = some (.dK kvs) ∧ ∀ p, H1 p = none → Q (.ref p) (upd H1 p (.lst (kvs.map Prod.snd)))
section
variable {X : Cx} {e : Expr} {te : TE} {p apos cpos pos : Pos}
theorem pe_listVals (hc : X.calm = true) (he : PE X e te) (hg : Gl X "list") (hm : X.mg "list" = none) (hv : bootBuiltins "list" = some (.type "list")) (hbase : attributeBase e "values" X.env (eval e X.env) = eval e X.env := by rfl) (hline : (apos.endLine == cpos.line) = true := by rfl)
    (hs : starEach [.Call (.Attribute e "values" apos) [] [] cpos] X.env = (false, eval (.Call (.Attribute e "values" apos) [] [] cpos) X.env) :: starEach [] X.env := by rfl) :
    PE X (.Call (.Name "list" p) [.Call (.Attribute e "values" apos) [] [] cpos] [] pos) (tListVals te) := by
  refine ⟨fun pins s σ H Q I hq => ?_⟩
  refine wpAny_Call_Name_kw (ld_blt I hg hm hv ?_)
  refine PyProof.Rows.callWith_type1 ?_ hs rfl
  rw [hs]
  show wpAny _ _ (spliced ((false, eval (.Call (.Attribute e "values" apos) [] [] cpos) X.env) :: backTo pos (starEach [] X.env))) _ _ s
  refine Calls.spliced_cons ?_
  refine wpAny_Call_method (T := "dict") (id := "dict.values") hbase rfl hline F.plainAttrs_dict F.slot_dict_values F.type_dict_values (thn (he.run pins s σ H _ I hq) fun u s1 ⟨x, H1, I1, rx, d, kvs, ex, hd, q⟩ => ?_)
  subst ex
  obtain rfl : u = Value.ref d := rx
  obtain ⟨hz, hs0, vs, kv, hdo⟩ := I1.hok d _ hd
  obtain ⟨ep, hat⟩ := hdo.dictAt
  have lk : kvs.length = vs.length := Paired.length kv
  have I2 : Inv X pins σ H1 { s1 with heap := s1.heap.push { cls := .type "dict_values", data := .fields #[.ref d] } } := I1.kept (t' := s1.toks) fun b ob q => Heap.get?_push_of_some _ q
  refine ⟨hdo.typeIs, hdo.mapOf.noDict, ?_⟩
  show wpAny _ _ (callWith cpos (.builtin "dict.values") [.ref d] [] []) _ X.xe s1
  refine method_meetsIn F.slot_dict_values F.entry_dict_values rfl (PySem.evalArgs_none ⟨rfl, hdo.typeIs, F.args_dict_values_1 _, _, meets_dict_values (mixKind X.prog X.w) d hs0, ⟨vs, hdo⟩, ?_⟩)
  refine Calls.spliced_nil ?_
  refine PySem.W.kdl_call (PySem.W.kdl_values (knd := mixKind X.prog X.w) (kvs := vs) (ep := ep)) (I1.ok.hd hc) ⟨⟨_, Heap.get?_push_size _ rfl, rfl, rfl⟩, hat.push _⟩ (by omega) fun h' tk acc c hk hS hacc => ?_
  have ea := PySem.W.kdl_vals_eq acc.toList (by rw [Array.length_toList]; exact hacc.1) fun j v e => hacc.2 j v (by rw [← Array.getElem?_toList]; exact e)
  refine ⟨.ref _, _, I2.laid (o := .lst (kvs.map Prod.snd)) (t' := tk) hk (Nat.le_refl _) ⟨by rw [List.length_map]; exact hz, acc.toList, c, by rw [ea]; exact kv_vals kv, by rw [Array.toArray_toList]; exact hS⟩, rfl, q _ (I2.hok.fresh (Nat.le_refl _))⟩
end
end Lv
end
section
set_option maxRecDepth 100000
set_option maxHeartbeats 2000000
namespace N
open PySem PySem.Spec PyProof.Rows L2 G
def valI (kvs : List (Int × Int)) (k : Int) : Option Int := (kvs.find? fun p => decide (p.1 = k)).map (·.2)
def putI (kvs : List (Int × Int)) (k c : Int) : List (Int × Int) :=
  if (kvs.any fun p => decide (p.1 = k)) = true then kvs.map (fun p => if p.1 = k then (p.1, c) else p) else kvs ++ [(k, c)]
def cntS (kvs : List (Int × Int)) (n : Int) : List (Int × Int) := putI kvs n ((valI kvs n).getD 0 + 1)
def cnt (ns : List Int) : List (Int × Int) := ns.foldl cntS []
theorem inl_dec (i k : Int) : decide ((Sum.inl i : Key) = Sum.inl k) = decide (i = k) := by
  by_cases c : i = k
  · subst c; simp
  · rw [decide_eq_false c]; exact decide_eq_false fun z => c (Sum.inl.inj z)
theorem valV_dct (kvs : List (Int × Int)) (k : Int) : valV (dctV kvs) (.inl k : Key) = (valI kvs k).map V.int := by
  unfold valV valI dctV
  induction kvs with
  | nil => rfl
  | cons p r ih =>
    rw [List.map_cons, List.find?_cons, List.find?_cons]
    dsimp only
    rw [inl_dec]
    cases decide (p.1 = k) with
    | true => rfl
    | false => exact ih
theorem putK_dct (kvs : List (Int × Int)) (k c : Int) : putK (dctV kvs) (.inl k : Key) (.int c) = dctV (putI kvs k c) := by
  have ha : ∀ ks : List (Int × Int), ((dctV ks).any fun kv => decide (kv.1 = (.inl k : Key))) = (ks.any fun p => decide (p.1 = k)) := fun ks => by
    unfold dctV
    induction ks with
    | nil => rfl
    | cons p r ih => rw [List.map_cons, List.any_cons, List.any_cons, ih]; dsimp only; rw [inl_dec]
  unfold putK putI
  rw [ha]
  split
  · unfold dctV
    rw [List.map_map, List.map_map]
    refine List.map_congr_left fun p _ => ?_
    dsimp only [Function.comp]
    by_cases e : p.1 = k
    · rw [if_pos e, if_pos (by rw [e])]
    · rw [if_neg e, if_neg fun z => e (Sum.inl.inj z)]
  · unfold dctV; rw [List.map_append]; rfl
theorem putI_len (kvs : List (Int × Int)) (k c : Int) : (putI kvs k c).length ≤ kvs.length + 1 := by
  unfold putI
  split
  · rw [List.length_map]; omega
  · rw [List.length_append]; exact Nat.le_refl _
theorem cntF_len : ∀ (ns : List Int) (kvs : List (Int × Int)), (ns.foldl cntS kvs).length ≤ kvs.length + ns.length
  | [], kvs => Nat.le_refl _
  | n :: ns, kvs => by
    have a := cntF_len ns (cntS kvs n)
    have b := putI_len kvs n ((valI kvs n).getD 0 + 1)
    rw [List.foldl_cons, List.length_cons]
    unfold cntS at a ⊢
    omega
theorem cnt_len (ns : List Int) : (cnt ns).length ≤ ns.length := by
  have z := cntF_len ns []
  unfold cnt
  rw [List.length_nil] at z
  omega
section
variable {K : PySem.W.Frag} {B H B1 H1 : Hp} {m m1 : List Addr} {h : Hd}
theorem gm_dct (kvs : List (Int × Int)) (w : WOk K B H m h) {p : Addr} (hp : H p = none) :
    Gm m B H B (upd H p (.dK (dctV kvs))) (m ++ [p]) ∧ WOk K B (upd H p (.dK (dctV kvs))) (m ++ [p]) (h ++ [.dct kvs]) := by
  have k := Gr.side w.sub hp (.dK (dctV kvs))
  have w1 := w.gr k
  have np : p ∉ m := fun z => w.tracked z hp
  have hb : B p = none := by
    cases c : B p with
    | none => rfl
    | some o => have := w.sub p o c; rw [hp] at this; cases this
  refine ⟨⟨Same.refl _, fun a o _ e => k.ex a o e, fun a o e n => (by rw [n] at e; cases e), fun a e => ?_, [p], rfl, by simpa using hp⟩, ⟨k.sub, by simp [w.len], ?_, fun n a e p1 q1 => ?_⟩⟩
  · by_cases c : a = p
    · subst c; exact absurd hp e
    · rw [upd_ne c]; exact e
  · rw [List.nodup_append]
    refine ⟨w.nd, by simp, fun a ha b hb e => ?_⟩
    have : b = p := by simpa using hb
    subst this
    exact np (e ▸ ha)
  · by_cases c : n < m.length
    · rw [List.getElem?_append_left c] at p1
      rw [List.getElem?_append_left (by rw [← w.len]; exact c)] at q1
      have z := w1.ent n a e p1 q1
      match e, z with
      | .lst ys, ⟨z1, us, z2, z3⟩ => exact ⟨z1, us, z2, z3.mono (Same.refl _) [p]⟩
      | .frz y, z => exact z
      | .nod _ ys, ⟨z1, us, z2, z3⟩ => exact ⟨z1, us, z2, z3.mono (Same.refl _) [p]⟩
      | .jnk, z => exact z
      | .err y, z => exact z
      | .dct _, ⟨z1, z2⟩ => exact ⟨z1, z2⟩
    · have hl := w.len
      have l1 : n < (m ++ [p]).length := (List.getElem?_eq_some_iff.mp p1).1
      rw [List.length_append] at l1
      have en : n = m.length := by
        have : n < m.length + 1 := l1
        omega
      subst en
      rw [List.getElem?_append_right (Nat.le_refl _), Nat.sub_self] at p1
      rw [List.getElem?_append_right (by omega), hl, Nat.sub_self] at q1
      cases p1
      cases q1
      exact ⟨hb, upd_same⟩
theorem wok_dct (w : WOk K B H m h) {n : Nat} {a : Addr} {kvs : List (Int × Int)} (p : m[n]? = some a) (nB : B a = none) :
    Gm m B H B (upd H a (.dK (dctV kvs))) m ∧ WOk K B (upd H a (.dK (dctV kvs))) m (h.set n (.dct kvs)) := by
  refine ⟨⟨Same.refl _, fun b o n e => ?_, fun b o e n => (by rw [n] at e; cases e), fun b e => ?_, [], by simp, by simp⟩, ⟨fun b o e => ?_, by rw [List.length_set]; exact w.len, w.nd, fun j b en pj e => ?_⟩⟩
  · rw [upd_ne (fun z => n (by rw [z]; exact List.mem_of_getElem? p))]; exact e
  · by_cases c : b = a
    · subst c; rw [upd_same]; simp
    · rw [upd_ne c]; exact e
  · rw [upd_ne (ne_of_none e nB)]; exact w.sub b o e
  · by_cases c : n = j
    · subst c
      have l : n < h.length := by
        have z := (List.getElem?_eq_some_iff.mp e).1
        rw [List.length_set] at z
        exact z
      rw [List.getElem?_set_self l] at e
      cases e
      rw [p] at pj
      cases pj
      exact ⟨nB, upd_same⟩
    · rw [List.getElem?_set_ne c] at e
      have z := w.ent j b en pj e
      have ne : b ≠ a := fun x => by
        subst x
        obtain ⟨h1, e1⟩ := List.getElem?_eq_some_iff.mp pj
        obtain ⟨h2, e2⟩ := List.getElem?_eq_some_iff.mp p
        exact c ((List.getElem_inj w.nd).mp (e2.trans e1.symm))
      match en, z with
      | .lst zs, ⟨z1, vs, z2, z3⟩ => exact ⟨z1, vs, by rw [upd_ne ne]; exact z2, z3⟩
      | .frz y, ⟨z1, z2⟩ => exact ⟨z1, by rw [upd_ne ne]; exact z2⟩
      | .nod _ zs, ⟨z1, vs, z2, z3⟩ => exact ⟨z1, vs, by rw [upd_ne ne]; exact z2, z3⟩
      | .jnk, ⟨z1, z2⟩ => exact ⟨z1, by rw [upd_ne ne]; exact z2⟩
      | .err y, ⟨z1, z2⟩ => exact ⟨z1, by rw [upd_ne ne]; exact z2⟩
      | .dct _, ⟨z1, z2⟩ => exact ⟨z1, by rw [upd_ne ne]; exact z2⟩
theorem wok_keep {B2 H2 : Hp} {m2 : List Addr} {h2 : Hd} (w : WOk K B H m h) (g : Gm [] B H B2 H2 m2) (w2 : WOk K B2 H2 m2 h2) : Gm m B H B2 H2 m ∧ WOk K B2 H2 m h := by
  have G0 : Gm m B H B2 H2 m := ⟨g.bb, fun a o _ e => g.ex a o (by simp) e, fun a o e n => (g.new a o e n).imp id (fun z => (by cases z)), g.kp, [], by simp, by simp⟩
  refine ⟨G0, ⟨w2.sub, w.len, w.nd, fun n a e p q => ?_⟩⟩
  have z := w.ent n a e p q
  have kx : ∀ o, H a = some o → H2 a = some o := fun o e => g.ex a o (by simp) e
  have nb : B a = none → H a ≠ none → B2 a = none := fun e1 e2 => by
    cases c2 : B2 a with
    | none => rfl
    | some o =>
      rcases g.new a o c2 e1 with z | z
      · exact absurd z e2
      · cases z
  have mo : ∀ {xs : List Vd} {vs : List V}, VRs K B m xs vs → VRs K B2 m xs vs := fun r => by
    have := r.mono g.bb []
    rw [List.append_nil] at this
    exact this
  match e, z with
  | .lst ys, ⟨z1, us, z2, z3⟩ => exact ⟨nb z1 (by rw [z2]; simp), us, kx _ z2, mo z3⟩
  | .frz y, ⟨z1, z2⟩ => exact ⟨z1.mono g.bb, g.kp _ z2⟩
  | .nod _ ys, ⟨z1, us, z2, z3⟩ => exact ⟨nb z1 (by rw [z2]; simp), us, kx _ z2, mo z3⟩
  | .jnk, ⟨z1, z2⟩ => exact ⟨nb z1 z2, g.kp _ z2⟩
  | .err y, ⟨z1, z2⟩ => exact ⟨z1.mono g.bb, g.kp _ z2⟩
  | .dct _, ⟨z1, z2⟩ => exact ⟨nb z1 (by rw [z2]; simp), kx _ z2⟩
end
def intsD : List PyData → Option (List Int)
  | [] => some []
  | .int n :: ds => match intsD ds with
    | some ns => some (n :: ns)
    | none => none
  | _ => none
theorem intsD_eq : ∀ {ds : List PyData} {ns : List Int}, intsD ds = some ns → ds = ns.map .int
  | [], _, e => by cases e; rfl
  | d :: ds, ns, e => by
    unfold intsD at e
    split at e
    · cases ‹_ :: _ = []›
    · rename_i n ds' z
      cases z
      split at e
      · rename_i ns' e'
        cases e
        rw [intsD_eq e']
        rfl
      · cases e
    · cases e
def isNewD (h : Hd) (n : Nat) : Bool := match h[n]? with
  | some (.dct []) => true
  | _ => false
theorem isNewD_eq {h : Hd} {n : Nat} (e : isNewD h n = true) : h[n]? = some (.dct []) := by
  unfold isNewD at e
  split at e
  · assumption
  · cases e
namespace SS
def times (it : SI) (i j : Nat) : SS where
  run := fun ρ h => if i ≠ j ∧ i < ρ.length ∧ j < ρ.length then (it.ev (ρ.set i (some (.r h.length))) (h ++ [.dct []])).thn (ρ.set i (some (.r h.length))) fun es h1 => match intsD es with
      | some ns => if ns.length ≤ 1000000 ∧ isNewD h1 h.length = true then .rt (.r h.length) (h1.set h.length (.dct (cnt ns))) else .no
      | none => .no
    else .no
  t := fun C md => tSeq (tAsg tDNewK (gName i)) (tSeq (tFor (it.t C md) (gName j) (sDPut (tVar i) (tVar j) (tOp (rAddA C.K) (tDGet2 (tVar i) (tVar j) (tC (.int 0))) (tC (.int 1))))) (tRet (tVar i)))
  ok := fun C md ρ h σ B H m D e w q => by
    by_cases c : i ≠ j ∧ i < ρ.length ∧ j < ρ.length
    · rw [if_pos c] at q
      obtain ⟨ij, il, jl0⟩ := c
      intro p hp
      have hl := w.len
      obtain ⟨g0, w0⟩ := gm_dct [] w hp
      have e0 : EnvN C.K B (m ++ [p]) (σ.set i (some (.ref p))) (ρ.set i (some (.r h.length))) := (e.gm g0).set (.r (by rw [List.getElem?_append_right (by omega), hl, Nat.sub_self]; rfl)) i
      have q0 := PoS.shift g0 w q
      refine it.ok C md _ _ _ B _ _ _ e0 w0 (PoS.chain w0 e0 q0 fun es h1 J B1 H1 m1 ea g1 w1 gj q1 => ?_)
      split at q1
      · rename_i ns ei
        split at q1
        · rename_i cc
          obtain ⟨lz, nw⟩ := cc
          have nw := isNewD_eq nw
          have es_ := intsD_eq ei
          have pm : (m ++ [p])[h.length]? = some p := by rw [List.getElem?_append_right (by omega), hl, Nat.sub_self]; rfl
          have sl : σ.length = ρ.length := e.len
          refine for_it gj (fun k σ' H' => ∃ B' m', Gm m1 B1 H1 B' H' m' ∧ WOk C.K B' H' m' (h1.set h.length (.dct (cnt (ns.take k)))) ∧ σ'[i]? = some (some (.ref p)) ∧ m'[h.length]? = some p ∧ σ'.length = σ.length) ?_ (fun k σ' H' _ ⟨B', m', g2, w2, _⟩ => g2.bb.trans w2.sub) ?_ ?_
          · refine ⟨B1, m1, .refl w1, ?_, ?_, gm_at g1 pm, by rw [List.length_set]⟩
            · have : h1.set h.length (.dct (cnt (ns.take 0))) = h1 := by
                obtain ⟨l1, l2⟩ := List.getElem?_eq_some_iff.mp nw
                show h1.set h.length (.dct []) = h1
                rw [← l2]
                exact List.set_getElem_self l1
              rw [this]
              exact w1
            · rw [List.getElem?_set_self (by rw [sl]; exact il)]
          · rintro k x σ' H' H2' hk ⟨B', m', g2, w2, s2, p2, l2⟩ y
            obtain ⟨B2, x', g3, hx', dx⟩ := y B' g2.bb w2.sub
            have G3 : Gm m' B' H' B2 H2' m' := .of w2 g3
            have w3 := w2.gr g3
            rw [es_, List.getElem?_map] at hx'
            cases cn : ns[k]? with
            | none => rw [cn] at hx'; cases hx'
            | some n =>
              rw [cn] at hx'
              cases hx'
              cases dx with
              | int _ =>
              have kl : k < ns.length := (List.getElem?_eq_some_iff.mp cn).1
              have lh : h.length < h1.length := (List.getElem?_eq_some_iff.mp nw).1
              have z := w3.ent h.length p (.dct (cnt (ns.take k))) p2 (by rw [List.getElem?_set_self lh])
              obtain ⟨nB, zz⟩ := z
              have s3 : (σ'.set j (some (.int n)))[i]? = some (some (.ref p)) := by rw [List.getElem?_set_ne (fun z => ij z.symm)]; exact s2
              show sDPut (tVar i) (tVar j) (tOp (rAddA C.K) (tDGet2 (tVar i) (tVar j) (tC (.int 0))) (tC (.int 1))) _ (σ'.set j (some (.int n))) H2'
              have jl : j < σ'.length := by rw [l2, sl]; exact jl0
              · have s4 : (σ'.set j (some (.int n)))[j]? = some (some (.int n)) := by rw [List.getElem?_set_self jl]
                have tk : ns.take (k + 1) = ns.take k ++ [n] := by rw [List.take_add_one, cn]; rfl
                have lc : (cnt (ns.take k)).length < sizeLine := by
                  have a := cnt_len (ns.take k)
                  have b : (ns.take k).length ≤ ns.length := by rw [List.length_take]; omega
                  unfold sizeLine
                  omega
                have lc2 : (dctV (cnt (ns.take k))).length < sizeLine := by unfold dctV; rw [List.length_map]; exact lc
                refine ⟨.ref p, s3, p, rfl, .inl ⟨_, .inl zz⟩, .int n, s4, _, DGet.k (k := .inl n) zz, .inl ⟨(valI (cnt (ns.take k)) n).getD 0, 1, ?_, rfl, .ref p, s3, .int n, s4, p, _, rfl, DPut.k (k := .inl n) zz lc2, ?_⟩⟩
                · rw [valV_dct]
                  cases valI (cnt (ns.take k)) n with
                  | none => rfl
                  | some v => rfl
                · rw [putK_dct]
                  obtain ⟨k4, w4⟩ := wok_dct (kvs := cnt (ns.take (k + 1))) w3 p2 nB
                  rw [List.set_set] at w4
                  have ce : cnt (ns.take (k + 1)) = putI (cnt (ns.take k)) n ((valI (cnt (ns.take k)) n).getD 0 + 1) := by
                    rw [tk]
                    unfold cnt
                    rw [List.foldl_append]
                    rfl
                  rw [ce] at k4 w4
                  rw [← ce] at w4
                  exact ⟨B2, m', g2.trans w1 (G3.trans w2 k4), by rw [ce] at w4 ⊢; exact w4, s3, p2, by rw [List.length_set]; exact l2⟩
          · rintro σ' H' ⟨B', m', g2, w2, s2, p2, l2⟩
            refine ⟨.ref p, s2, q1 _ B' H' m' ?_ ?_ (.r p2)⟩
            · exact g2
            · have : ns.take es.length = ns := by rw [es_, List.length_map, List.take_length]
              rw [this] at w2
              exact w2
        · exact q1.elim
      · exact q1.elim
    · rw [if_neg c] at q
      exact q.elim
def fzT (i : Nat) (s : SS) : SS where
  run := fun ρ h => match ρ[i]? with
    | some (some v) => match frz h v with
      | some (_, h1) => s.run ρ h1
      | none => .no
    | _ => .no
  t := fun C md => s.t C md
  ok := fun C md ρ h σ B H m D e w q => by
    split at q
    · rename_i v ev
      split at q
      · rename_i d h1 ef
        obtain ⟨u, _, r⟩ := e.look i v ev
        obtain ⟨B2, g2, w2, _⟩ := frz_ok w ef r
        exact s.ok C md ρ h1 σ B2 H m D (e.gm g2) w2 (PoS.shift g2 w q)
      · exact q.elim
    · exact q.elim
end SS
namespace SE
def listVals (F : FSem) (a : SL) : SE where
  ev := fun ρ h => (a.ev ρ h).bind fun xs h1 => match frzL h1 xs with
    | some (ds, h2) => match F (ds.map .d) [] with
      | .ok (.r n) h3 => match h3[n]? with
        | some (.dct kvs) => .ok (.r h2.length) (h2 ++ [.lst (kvs.map fun p => .d (.int p.2))])
        | _ => .no
      | _ => .no
    | none => .no
  t := fun C md => Lv.tListVals (tCall (spN C false F) [] E0 (a.t C md))
  ok := fun C md ρ h σ B H m Q e w q =>
    a.ok C md ρ h σ B H m _ e w (Po.chain w q fun xs h1 us B1 H1 m1 ea g1 w1 r1 q1 => by
      rw [List.append_nil]
      split at q1
      · rename_i ds h2 ef
        split at q1
        · rename_i n h3 er
          split at q1
          · rename_i kvs en
            obtain ⟨B2, g2, w2, d2⟩ := frzL_ok w1 ef r1
            refine ⟨B2, [], [], ds.map .d, wok_nil w2.sub, VRs.all d2, ?_⟩
            rw [er]
            intro v B3 H3 m3 g3 w3 r3
            cases r3 with
            | r p3 =>
            rename_i ad
            obtain ⟨z1, z2⟩ := w3.ent n ad _ p3 en
            obtain ⟨k4, w4⟩ := wok_keep w2 g3 w3
            refine ⟨ad, _, rfl, z2, fun p hp => ?_⟩
            have rr : VRs C.K B3 m1 (kvs.map fun p => .d (.int p.2)) ((dctV kvs).map Prod.snd) := by
              unfold dctV
              rw [List.map_map]
              clear z2 z1 en q1
              induction kvs with
              | nil => exact .nil
              | cons p r ih => exact .cons (.d (.int _)) ih
            obtain ⟨k5, w5⟩ := gm_new w4 hp rr
            exact q1 _ _ _ _ ((g2.trans w1 k4).trans w1 k5) w5 (.r (by rw [List.getElem?_append_right (by have := w2.len; omega), w2.len, Nat.sub_self]; rfl))
          · exact q1.elim
        · exact q1.elim
      · exact q1.elim)
end SE
end N
end
section
set_option maxRecDepth 100000
set_option maxHeartbeats 2000000
namespace J
open PySem PySem.Spec PyProof.Rows L2 G N
def Pdc : Pr (List (Int × Int)) := fun h _ v kvs => ∃ n, v = .r n ∧ h[n]? = some (.dct kvs)
def FDC (F : FSem) (xs : List D) (kvs : List (Int × Int)) : Prop := ∃ n h, F (xs.map .d) [] = .ok (.r n) h ∧ h[n]? = some (.dct kvs)
theorem fdc_ofJ {xs : List D} {n np : Nat} {body : SS} {r : Option (List (Int × Int))} {z : List (Int × Int)} (hl : xs.length = np) (hn : xs.length ≤ n) (j : JR Pdc (startE n (xs.map .d)) body r) (e : r = some z) : FDC (runDef body n np) xs z := by
  obtain ⟨v, h', e1, m, rfl, p⟩ := j _ [] _ (rep_start hn) z e
  exact ⟨m, h', run_res (by rw [List.length_map]; exact hl) e1, p⟩
def cntD (es : List D) : Option (List (Int × Int)) := match intsD es with
  | some ns => if ns.length ≤ 1000000 then some (cnt ns) else none
  | none => none
section
variable {α : Type} {env : Ev} {c : Cd α} {V : α → List D} {E : α → Ev}
theorem Rep.out_dct {ρ : Rh} {h : Hd} {f : Nat → Nat} (r : Rep ρ h f env) {n : Nat} {kvs : List (Int × Int)} (e : h[n]? = some (.dct kvs)) : Out env f n := fun i xs q z => by
  have := (r.sl i _ q).2
  rw [z, e] at this
  cases this
theorem jt_times {it : SI} {i j : Nat} (h : CI (env.set i .no) it c V E) (hij : i ≠ j) (li : i < env.length) (lj : j < env.length) : JT Pdc env (SS.times it i j) (c _ fun a => bd (cntD (V a)) some) := fun ρ h0 f r z hz => by
  have r1 := (r.new [.dct []]).rep
  have r2 : Rep (ρ.set i (some (.r h0.length))) (h0 ++ [.dct []]) f (env.set i .no) := r1.put i True.intro (fun _ => by intro z; cases z) (r1.dj_mono (fun l k x e => by
    by_cases c : i = l
    · subst c
      rw [List.getElem?_set_self li] at e
      cases e
    · rw [List.getElem?_set_ne c] at e
      exact ⟨e, List.getElem?_set_ne c⟩) fun _ _ _ _ t => t)
  obtain ⟨a, h1, k1, e1, a1⟩ := h _ _ f r2 _ _ z hz
  obtain ⟨kvs, k2, k3⟩ := bd_eq k1
  cases k3
  have nw : (h0 ++ [.dct []] : Hd)[h0.length]? = some (.dct []) := by rw [List.getElem?_append_right (Nat.le_refl _), Nat.sub_self]; rfl
  have n1 := a1.kp _ _ nw (r2.out_dct nw)
  unfold cntD at k2
  cases ei : intsD (V a) with
  | none => rw [ei] at k2; cases k2
  | some ns =>
    rw [ei] at k2
    dsimp only at k2
    by_cases lz : ns.length ≤ 1000000
    · rw [if_pos lz] at k2
      cases k2
      refine ⟨.r h0.length, h1.set h0.length (.dct (cnt ns)), ?_, h0.length, rfl, by rw [List.getElem?_set_self (List.getElem?_eq_some_iff.mp n1).1]⟩
      show (if i ≠ j ∧ i < ρ.length ∧ j < ρ.length then _ else _) = _
      rw [if_pos ⟨hij, by rw [r.len]; exact li, by rw [r.len]; exact lj⟩, e1, Oc.thn_ok, ei]
      dsimp only
      rw [if_pos ⟨lz, by unfold isNewD; rw [n1]⟩]
    · rw [if_neg lz] at k2
      cases k2
theorem co_listVals {F : FSem} {l : SL} (M : List D → Option (List (Int × Int))) (hM : ∀ xs z, M xs = some z → FDC F xs z) (hl : CL env l c V E) : CO env (SE.listVals F l) (fun R k => c R fun a => bd (M (V a)) fun z => k (a, z)) (fun p => p.2.map fun q => .int q.2) (fun p => E p.1) := fun ρ h f r R k z hz => by
  obtain ⟨x, h1, k1, e1, a1⟩ := hl ρ h f r R _ z hz
  obtain ⟨w, e3, k3⟩ := bd_eq k1
  obtain ⟨n, h3, e4, e5⟩ := hM _ _ e3
  refine ⟨(x, w), h1 ++ [.lst (w.map fun p => .d (.int p.2))], h1.length, k3, ?_, ?_, a1.len, a1.trans (a1.rep.new _)⟩
  · show ((l.ev ρ h).bind fun xs h1 => match frzL h1 xs with
      | some (ds, h2) => match F (ds.map .d) [] with
        | .ok (.r n) h3 => match h3[n]? with
          | some (.dct kvs) => (.ok (.r h2.length) (h2 ++ [.lst (kvs.map fun p => .d (.int p.2))]) : Oc Vd)
          | _ => .no
        | _ => .no
      | none => .no) = _
    rw [e1, Oc.bind_ok, frzL_d]
    dsimp only
    rw [e4]
    dsimp only
    rw [e5]
  · rw [List.getElem?_append_right (Nat.le_refl _), Nat.sub_self, List.map_map]
    rfl
end
end J
namespace J
open PySem PySem.Spec PyProof.Rows L2 G N
theorem ce_ofCO {α : Type} {env : Ev} {c : Cd α} {V : α → List D} {E : α → Ev} {e : SE} (h : CO env e c V E) : CE env (SE.frz e) c (fun a => .list (V a)) E := fun ρ h0 f r R k z hz => by
  obtain ⟨x, h1, n, k1, e1, en, ln, a1⟩ := h ρ h0 f r R k z hz
  have o1 : Out (E x) f n := fun i xs q => by
    obtain ⟨ys, q2⟩ := a1.sub i xs q
    have := (List.getElem?_eq_some_iff.mp (r.sl i _ q2).2).1
    omega
  refine ⟨x, _, k1, ?_, a1.tempE ln o1 en (.frz (.list (V x)))⟩
  rw [SE.frz_ev, e1]
  dsimp only
  rw [Oc.bind_ok, frz_own en]
end J
namespace J
open PySem PySem.Spec PyProof.Rows L2 G N
section
variable {α : Type} {env : Ev} {c : Cd α} {E : α → Ev} {s : SS}
theorem jn_fzT {xs : List D} (i : Nat) (e : env[i]? = some (.o xs)) (h : JN (env.set i (.f (.list xs))) s c E) : JN env (SS.fzT i s) c E := fun ρ h0 f r R k z hz => by
  obtain ⟨q1, q2⟩ := r.sl i _ e
  have a := r.freeze e
  obtain ⟨x, ρ', h', f', k1, e1, r1, z1⟩ := h ρ _ f a.rep R k z hz
  refine ⟨x, ρ', h', f', k1, ?_, r1, z1⟩
  show (match ρ[i]? with
    | some (some v) => match N.frz h0 v with
      | some (_, h1) => s.run ρ h1
      | none => .no
    | _ => .no) = _
  rw [q1]
  dsimp only
  rw [frz_own q2]
  exact e1
end
end J
end
section
set_option maxRecDepth 100000
set_option maxHeartbeats 4000000
namespace N
open PySem PySem.Spec PyProof.Rows L2 G
namespace SS
end SS
end N
end
section
set_option maxRecDepth 100000
set_option maxHeartbeats 4000000
namespace J
open PySem PySem.Spec PyProof.Rows L2 G N
end J
end
section
set_option maxRecDepth 100000
set_option maxHeartbeats 2000000
namespace SrtQ
open PySem PyProof.Rows Srt
open SrtO hiding Str
abbrev Ky := Sum Int Str
def ltK : Ky → Ky → Bool
  | .inl a, .inl b => decide (a < b)
  | .inr a, .inr b => decide (a.cps.toList < b.cps.toList)
  | .inl _, .inr _ => true
  | .inr _, .inl _ => false
theorem ltK_irr (a : Ky) : ltK a a = false := by
  cases a with
  | inl a => exact decide_eq_false (Int.lt_irrefl _)
  | inr a => exact decide_eq_false (List.lt_irrefl _)
theorem ltK_tr {a b c : Ky} (h : ltK a b = true) (k : ltK b c = true) : ltK a c = true := by
  match a, b, c, h, k with
  | .inl a, .inl b, .inl c, h, k =>
    have h1 : a < b := of_decide_eq_true h
    have h2 : b < c := of_decide_eq_true k
    exact decide_eq_true (p := a < c) (Int.lt_trans h1 h2)
  | .inr a, .inr b, .inr c, h, k =>
    have h1 : a.cps.toList < b.cps.toList := of_decide_eq_true h
    have h2 : b.cps.toList < c.cps.toList := of_decide_eq_true k
    exact decide_eq_true (p := a.cps.toList < c.cps.toList) (List.lt_trans h1 h2)
  | .inl _, .inl _, .inr _, _, _ => rfl
  | .inl _, .inr _, .inr _, _, _ => rfl
  | .inl _, .inr _, .inl _, _, k => cases k
  | .inr _, .inl _, _, h, _ => cases h
  | .inr _, .inr _, .inl _, _, k => cases k
theorem ltK_tot {a b : Ky} (h : a ≠ b) : ltK a b = true ∨ ltK b a = true := by
  match a, b, h with
  | .inl a, .inl b, h =>
    have h1 : a ≠ b := fun e => h (by rw [e])
    rcases Int.lt_trichotomy a b with c | c | c
    · exact .inl (decide_eq_true (p := a < b) c)
    · exact absurd c h1
    · exact .inr (decide_eq_true (p := b < a) c)
  | .inr a, .inr b, h =>
    by_cases c : a.cps.toList < b.cps.toList
    · exact .inl (decide_eq_true (p := a.cps.toList < b.cps.toList) c)
    · by_cases d : b.cps.toList < a.cps.toList
      · exact .inr (decide_eq_true (p := b.cps.toList < a.cps.toList) d)
      · exfalso
        apply h
        have e : a.cps.toList = b.cps.toList := List.le_antisymm (List.not_lt.mp d) (List.not_lt.mp c)
        cases a
        cases b
        congr 2
        exact Array.toList_inj.mp e
  | .inl _, .inr _, _ => exact .inl rfl
  | .inr _, .inl _, _ => exact .inr rfl
def ltL : List Ky → List Ky → Bool
  | [], [] => false
  | [], _ :: _ => true
  | _ :: _, [] => false
  | a :: as, b :: bs => if a = b then ltL as bs else ltK a b
theorem ltL_irr : ∀ a : List Ky, ltL a a = false
  | [] => rfl
  | a :: as => by unfold ltL; rw [if_pos rfl]; exact ltL_irr as
theorem ltL_tr : ∀ {a b c : List Ky}, ltL a b = true → ltL b c = true → ltL a c = true
  | [], [], _, h, _ => by cases h
  | [], _ :: _, [], _, k => by cases k
  | [], _ :: _, _ :: _, _, _ => rfl
  | _ :: _, [], _, h, _ => by cases h
  | _ :: _, _ :: _, [], _, k => by cases k
  | a :: as, b :: bs, c :: cs, h, k => by
    unfold ltL at h k ⊢
    by_cases e1 : a = b
    · subst e1
      rw [if_pos rfl] at h
      by_cases e2 : a = c
      · subst e2
        rw [if_pos rfl] at k ⊢
        exact ltL_tr h k
      · rw [if_neg e2] at k ⊢
        exact k
    · rw [if_neg e1] at h
      by_cases e2 : b = c
      · subst e2
        rw [if_neg e1]
        exact h
      · rw [if_neg e2] at k
        have t := ltK_tr h k
        by_cases e3 : a = c
        · subst e3
          rw [ltK_irr] at t
          cases t
        · rw [if_neg e3]
          exact t
theorem ltL_tot : ∀ {a b : List Ky}, a ≠ b → ltL a b = true ∨ ltL b a = true
  | [], [], h => absurd rfl h
  | [], _ :: _, _ => .inl rfl
  | _ :: _, [], _ => .inr rfl
  | a :: as, b :: bs, h => by
    unfold ltL
    by_cases e : a = b
    · subst e
      rw [if_pos rfl, if_pos rfl]
      exact ltL_tot fun z => h (by rw [z])
    · rw [if_neg e, if_neg fun z => e z.symm]
      exact ltK_tot e
theorem ltL_anti {a b : List Ky} (h : ltL a b = false) (k : ltL b a = false) : a = b := by
  by_cases e : a = b
  · exact e
  · rcases ltL_tot e with q | q
    · rw [h] at q; cases q
    · rw [k] at q; cases q
theorem le_tr {a b c : List Ky} (h1 : ltL b a = false) (h2 : ltL c b = false) : ltL c a = false := by
  cases q : ltL c a with
  | false => rfl
  | true =>
    exfalso
    by_cases e : b = c
    · subst e
      rw [h1] at q; cases q
    · rcases ltL_tot e with z | z
      · have t := ltL_tr z q
        rw [h1] at t; cases t
      · rw [h2] at z; cases z
def kyOf : Value → Option Ky
  | .int i _ => some (.inl i)
  | .str x _ => some (.inr x)
  | _ => none
def kv (h : Heap) (v : Value) : List Ky := match v with
  | .ref a => match h.get? a with
    | some o => match o.data with
      | .seq xs _ => xs.toList.filterMap kyOf
      | _ => []
    | none => []
  | _ => []
def sg (ks : List Ky) : List Bool := ks.map Sum.isLeft
inductive KAre : List Value → List Ky → Prop
  | nil : KAre [] []
  | int {vs : List Value} {ks : List Ky} (i : Int) (t : Tok) (h : KAre vs ks) : KAre (.int i t :: vs) (.inl i :: ks)
  | str {vs : List Value} {ks : List Ky} (x : Str) (t : Tok) (h : KAre vs ks) : KAre (.str x t :: vs) (.inr x :: ks)
theorem KAre.len : ∀ {vs : List Value} {ks : List Ky}, KAre vs ks → vs.length = ks.length
  | _, _, .nil => rfl
  | _, _, .int _ _ h => by rw [List.length_cons, List.length_cons, h.len]
  | _, _, .str _ _ h => by rw [List.length_cons, List.length_cons, h.len]
theorem KAre.map : ∀ {vs : List Value} {ks : List Ky}, KAre vs ks → vs.filterMap kyOf = ks
  | _, _, .nil => rfl
  | _, _, .int i t h => by rw [List.filterMap_cons]; show Sum.inl i :: _ = _; rw [h.map]
  | _, _, .str i t h => by rw [List.filterMap_cons]; show Sum.inr i :: _ = _; rw [h.map]
def IsK (h : Heap) (v : Value) (ks : List Ky) : Prop := ∃ (a : Addr) (xs : Array Value), v = .ref a ∧ IsTup h a xs ∧ KAre xs.toList ks
theorem IsK.kv {h : Heap} {v : Value} {ks : List Ky} (k : IsK h v ks) : kv h v = ks := by
  obtain ⟨a, xs, rfl, ⟨o, ho, hc, n, hd⟩, e⟩ := k
  unfold SrtQ.kv
  dsimp only
  rw [ho]
  dsimp only
  rw [hd]
  exact e.map
theorem IsK.keeps {h h' : Heap} {v : Value} {ks : List Ky} (x : IsK h v ks) (k : ∀ b o, h.get? b = some o → o.cls = .type "tuple" → h'.get? b = some o) : IsK h' v ks := by
  obtain ⟨a, xs, rfl, ⟨o, ho, hc, n, hd⟩, e⟩ := x
  exact ⟨a, xs, rfl, ⟨o, k _ _ ho hc, hc, n, hd⟩, e⟩
end SrtQ
namespace L2
open PySem PySem.Spec PyProof.Rows
def kyV : SrtQ.Ky → V
  | .inl i => .int i
  | .inr x => .str x
def rSortedQ (K : PySem.W.Frag) : List V → Hp → VK → Prop := fun vs H Q => ∃ (a : Addr) (xs : List V) (b : Bool) (g : List Bool), vs = [V.ref a] ∧ SqL K H a xs ∧ (∀ x ∈ xs, ∃ t ks, x = V.ref t ∧ SqT K H t (ks.map kyV) ∧ SrtQ.sg ks = b :: g) ∧
  ∀ (f : V → List SrtQ.Ky) (ys : List V) (p : Addr), (∀ x ∈ xs, ∀ t ks, x = V.ref t → SqT K H t (ks.map kyV) → f x = ks) → ys.Perm xs → ys.Pairwise (fun x y => SrtQ.ltL (f y) (f x) = false) → H p = none → Q (.ref p) (upd H p (.lst ys))
end L2
namespace N
open PySem PySem.Spec PyProof.Rows L2 G
abbrev Ky := SrtQ.Ky
def kyD : Ky → PyData
  | .inl i => .int i
  | .inr x => .str x
def tupK (ks : List Ky) : PyData := .tuple (ks.map kyD)
def kysOf : List PyData → Option (List Ky)
  | [] => some []
  | .int i :: r => match kysOf r with
    | some ks => some (.inl i :: ks)
    | none => none
  | .str i :: r => match kysOf r with
    | some ks => some (.inr i :: ks)
    | none => none
  | _ => none
theorem kysOf_ok : ∀ {ds : List PyData} {ks : List Ky}, kysOf ds = some ks → ds = ks.map kyD
  | [], _, e => by unfold kysOf at e; cases e; rfl
  | .int i :: r, ks, e => by
    unfold kysOf at e
    split at e
    · rename_i ms q
      cases e
      rw [kysOf_ok q]
      rfl
    · cases e
  | .str i :: r, ks, e => by
    unfold kysOf at e
    split at e
    · rename_i ms q
      cases e
      rw [kysOf_ok q]
      rfl
    · cases e
  | .none :: _, _, e => by cases e
  | .bool _ :: _, _, e => by cases e
  | .list _ :: _, _, e => by cases e
  | .tuple _ :: _, _, e => by cases e
  | .dict _ :: _, _, e => by cases e
def rowsOf : List PyData → Option (List (List Ky))
  | [] => some []
  | .tuple ds :: r => match kysOf ds with
    | some ks => match rowsOf r with
      | some rs => some (ks :: rs)
      | none => none
    | none => none
  | _ => none
theorem rowsOf_ok : ∀ {ds : List PyData} {rs : List (List Ky)}, rowsOf ds = some rs → ds = rs.map tupK
  | [], _, e => by unfold rowsOf at e; cases e; rfl
  | .tuple i :: r, ks, e => by
    unfold rowsOf at e
    split at e
    · rename_i ms q
      split at e
      · rename_i rs2 q2
        cases e
        rw [rowsOf_ok q2, kysOf_ok q]
        rfl
      · cases e
    · cases e
  | .none :: _, _, e => by cases e
  | .bool _ :: _, _, e => by cases e
  | .int _ :: _, _, e => by cases e
  | .str _ :: _, _, e => by cases e
  | .list _ :: _, _, e => by cases e
  | .dict _ :: _, _, e => by cases e
def okSg : List (List Ky) → Bool
  | [] => true
  | r :: rs => !r.isEmpty && rs.all fun q => decide (SrtQ.sg q = SrtQ.sg r)
theorem okSg_eq {rs : List (List Ky)} (h : okSg rs = true) : ∃ b g, ∀ r ∈ rs, SrtQ.sg r = b :: g := by
  cases rs with
  | nil => exact ⟨true, [], fun r hr => absurd hr (by simp)⟩
  | cons r rs =>
    obtain ⟨h1, h2⟩ := Bool.and_eq_true_iff.mp h
    cases r with
    | nil => cases h1
    | cons k ks =>
      refine ⟨k.isLeft, SrtQ.sg ks, fun q hq => ?_⟩
      rcases List.mem_cons.mp hq with rfl | hq
      · rfl
      · exact of_decide_eq_true (List.all_eq_true.mp h2 q hq)
def insQ (x : List Ky) : List (List Ky) → List (List Ky)
  | [] => [x]
  | y :: ys => if SrtQ.ltL y x = true then y :: insQ x ys else x :: y :: ys
def sortQ : List (List Ky) → List (List Ky)
  | [] => []
  | x :: xs => insQ x (sortQ xs)
def leQ (x y : List Ky) : Prop := SrtQ.ltL y x = false
theorem insQ_perm (x : List Ky) : ∀ xs, (insQ x xs).Perm (x :: xs)
  | [] => .refl _
  | y :: ys => by
    unfold insQ
    split
    · exact ((insQ_perm x ys).cons y).trans (.swap ..)
    · exact .refl _
theorem sortQ_perm : ∀ xs, (sortQ xs).Perm xs
  | [] => .refl _
  | x :: xs => (insQ_perm x _).trans ((sortQ_perm xs).cons x)
theorem insQ_sorted (x : List Ky) : ∀ xs : List (List Ky), xs.Pairwise leQ → (insQ x xs).Pairwise leQ
  | [], _ => List.pairwise_singleton _ _
  | y :: ys, h => by
    obtain ⟨h1, h2⟩ := List.pairwise_cons.mp h
    unfold insQ
    split
    · rename_i c
      refine List.pairwise_cons.mpr ⟨fun z hz => ?_, insQ_sorted x ys h2⟩
      rcases List.mem_cons.mp ((insQ_perm x ys).mem_iff.mp hz) with rfl | hz
      · show SrtQ.ltL _ _ = false
        cases q : SrtQ.ltL z y with
        | false => rfl
        | true =>
          have t := SrtQ.ltL_tr c q
          rw [SrtQ.ltL_irr] at t
          cases t
      · exact h1 z hz
    · rename_i c
      have c : SrtQ.ltL y x = false := by
        cases q : SrtQ.ltL y x with
        | false => rfl
        | true => exact absurd q c
      refine List.pairwise_cons.mpr ⟨fun z hz => ?_, h⟩
      rcases List.mem_cons.mp hz with rfl | hz
      · exact c
      · exact SrtQ.le_tr c (h1 z hz)
theorem sortQ_sorted : ∀ xs : List (List Ky), (sortQ xs).Pairwise leQ
  | [] => .nil
  | x :: xs => insQ_sorted x _ (sortQ_sorted xs)
theorem sortQ_of {a b : List (List Ky)} (p : a.Perm b) (h : a.Pairwise leQ) : a = sortQ b :=
  (p.trans (sortQ_perm b).symm).eq_of_pairwise (fun x y _ _ h1 h2 => SrtQ.ltL_anti h2 h1) h (sortQ_sorted b)
def srtQ (x : PyData) : Option (List PyData) := match x with
  | .list ds => match rowsOf ds with
    | some rs => match okSg rs with
      | true => some ((sortQ rs).map tupK)
      | false => none
    | none => none
  | _ => none
theorem srtQ_eq {x : PyData} {w : List PyData} (h : srtQ x = some w) : ∃ ds rs, x = .list ds ∧ rowsOf ds = some rs ∧ okSg rs = true ∧ w = (sortQ rs).map tupK := by
  unfold srtQ at h
  cases x with
  | list ds =>
    dsimp only at h
    cases q : rowsOf ds with
    | none => rw [q] at h; cases h
    | some rs =>
      rw [q] at h
      dsimp only at h
      cases q2 : okSg rs with
      | false => rw [q2] at h; cases h
      | true => rw [q2] at h; cases h; exact ⟨ds, rs, rfl, q, q2, rfl⟩
  | _ => cases h
section
variable {K : PySem.W.Frag} {B : Hp}
theorem daKys : ∀ {vs : List V} {ks : List Ky}, DaAll K B vs (ks.map kyD) → vs = ks.map kyV
  | _, [], h => by cases h; rfl
  | _, .inl n :: ns, h => by
    cases h with
    | cons p q =>
      cases p
      rw [daKys q]
      rfl
  | _, .inr n :: ns, h => by
    cases h with
    | cons p q =>
      cases p
      rw [daKys q]
      rfl
theorem da_tupK {v : V} {ks : List Ky} (h : Da K B v (tupK ks)) : ∃ t, v = .ref t ∧ SqT K B t (ks.map kyV) := by
  cases h with
  | tup h hs => exact ⟨_, rfl, daKys hs ▸ h⟩
theorem da_rows : ∀ {vs : List V} {rs : List (List Ky)}, DaAll K B vs (rs.map tupK) → ∀ v ∈ vs, ∃ ks ∈ rs, Da K B v (tupK ks)
  | _, [], h, v, hv => by cases h; cases hv
  | _, r :: rs, h, v, hv => by
    cases h with
    | cons p q =>
      rcases List.mem_cons.mp hv with rfl | hv
      · exact ⟨r, List.mem_cons_self .., p⟩
      · obtain ⟨ks, h1, h2⟩ := da_rows q v hv
        exact ⟨ks, List.mem_cons_of_mem _ h1, h2⟩
theorem da_keys {f : V → List Ky} : ∀ {vs : List V} {rs : List (List Ky)}, DaAll K B vs (rs.map tupK) → (∀ v ∈ vs, ∀ ks, Da K B v (tupK ks) → f v = ks) → vs.map f = rs
  | _, [], h, _ => by cases h; rfl
  | _, r :: rs, h, hf => by
    cases h with
    | cons p q =>
      rw [List.map_cons, hf _ (List.mem_cons_self ..) r p, da_keys q fun v hv => hf v (List.mem_cons_of_mem _ hv)]
theorem da_perm {f : V → List Ky} : ∀ {ys : List V}, (∀ v ∈ ys, ∃ ks, Da K B v (tupK ks) ∧ f v = ks) → DaAll K B ys ((ys.map f).map tupK)
  | [], _ => .nil
  | y :: ys, h => by
    obtain ⟨ks, h1, h2⟩ := h y (List.mem_cons_self ..)
    rw [List.map_cons, List.map_cons, h2]
    exact .cons h1 (da_perm fun v hv => h v (List.mem_cons_of_mem _ hv))
end
namespace SE
def sortedQ (a : SE) : SE where
  ev := fun ρ h => (a.ev ρ h).bind fun x h1 => match itemsD h1 x with
    | some ds => match srtQ (.list ds) with
      | some w => .ok (.r h1.length) (h1 ++ [.lst (w.map .d)])
      | Option.none => .no
    | Option.none => .no
  t := fun C md => tCB (rSortedQ C.K) (tCons (a.t C md) tNil)
  ok := fun C md ρ h σ B H m Q e w q => by
    refine a.ok C md ρ h σ B H m _ e w (Po.chain w q fun x h1 v B1 H1 m1 ea g1 w1 r1 q1 => ?_)
    split at q1
    · rename_i ds ei
      split at q1
      · rename_i ws en
        obtain ⟨b, vs, rfl, hv, da⟩ := itemsD_ok w1 ei r1
        obtain ⟨ds2, rs, e1, e2, e3, rfl⟩ := srtQ_eq en
        cases e1
        rw [rowsOf_ok e2] at da
        obtain ⟨bb, g, hg⟩ := okSg_eq e3
        refine ⟨_, vs, bb, g, rfl, hv, fun x hx => ?_, fun f ys p hf pm pw hp => ?_⟩
        · obtain ⟨ks, hk, dk⟩ := da_rows da x hx
          obtain ⟨t, e, st⟩ := da_tupK dk
          exact ⟨t, ks, e, same_t w1.sub st, hg ks hk⟩
        · have ff : ∀ v ∈ vs, ∀ ks, Da C.K B1 v (tupK ks) → f v = ks := fun v hv ks dk => by
            obtain ⟨t, e, st⟩ := da_tupK dk
            exact hf v hv t ks e (same_t w1.sub st)
          have e5 := da_keys da ff
          have e6 : ys.map f = sortQ rs := sortQ_of (e5 ▸ pm.map f) (List.pairwise_map.mpr pw)
          have dd : DaAll C.K B1 ys ((ys.map f).map tupK) := da_perm fun v hv => by
            have hv := pm.mem_iff.mp hv
            obtain ⟨ks, _, dk⟩ := da_rows da v hv
            exact ⟨ks, dk, ff v hv ks dk⟩
          rw [e6] at dd
          obtain ⟨k, w2⟩ := gm_new w1 hp (VRs.all (m := m1) dd)
          exact q1 _ _ _ _ k w2 (.r (by rw [← w1.len]; exact one_last _ _))
      · exact q1.elim
    · exact q1.elim
@[simp] theorem sortedQ_ev (a : SE) {ρ} {h} : (SE.sortedQ a).ev ρ h = ((a.ev ρ h).bind fun x h1 => match itemsD h1 x with
    | some ds => match srtQ (.list ds) with
      | some w => Oc.ok (.r h1.length) (h1 ++ [.lst (w.map .d)])
      | Option.none => .no
    | Option.none => .no) := (rfl)
end SE
end N
end
section
set_option maxRecDepth 100000
set_option maxHeartbeats 4000000
namespace J
open PySem PySem.Spec PyProof.Rows L2 G N
end J
end
section
set_option maxRecDepth 100000
set_option maxHeartbeats 2000000
namespace N
open PySem PySem.Spec PyProof.Rows L2 G
abbrev Kvs := List (Str × Int)
def getK (kvs : Kvs) (z : Str) : Option Int := (kvs.find? fun p => decide (p.1 = z)).map (·.2)
structure GDct (mg : Str → Option Value) (K : PySem.W.Frag) (w : World) (x : Str) (kvs : Kvs) : Prop where
  ex : ∃ d es n, mg x = some (.ref d) ∧ KDict K w d es n ∧ (∀ z m, getK kvs z = some m → ∃ u, PySem.W.nsIn K d z = some (some u) ∧ RelV (.int m) u) ∧ (∀ z, getK kvs z = none → PySem.W.nsIn K d z = some none) ∧ es.toList.map He.keyOf = He.keysIn w.params (kvs.map Prod.fst)
end N
namespace N
open PySem PySem.Spec PyProof.Rows L2 G
namespace SE
end SE
end N
namespace J
open PySem PySem.Spec PyProof.Rows L2 G N
end J
end
section
set_option maxRecDepth 100000
set_option maxHeartbeats 2000000
namespace He
open PySem PySem.Spec PyProof.Rows L2
structure SaysN (fa : List Fa) (fn : List DefD) (ts : List Tab) (ex : PySem.W.Frag → Bool) (w : World) (K : PySem.W.Frag) : Prop where
  d : SaysD fa fn K
  more : ex K = true
  tab : (ts.map fun t => dicW K (t.1 K)) = ts.map fun t => some (keysIn w.params t.2)
end He
namespace N
open PySem PySem.Spec PyProof.Rows L2 G
end N
end
section
set_option maxRecDepth 100000
set_option maxHeartbeats 0
namespace K29
open PySem PySem.Spec PyProof.Rows L2
def top (i : Nat) : Stmt := PySem.Challenge.pw_checkwright_k29_whole_pairs_that_pass.main.body.getD i (.Pass ⟨0, 0, 0, 0⟩)
abbrev s_is_whole : Stmt := top 7
abbrev s_is_from : Stmt := top 8
abbrev s_is_below : Stmt := top 9
abbrev s_are_below : Stmt := top 10
abbrev s_is_each_once : Stmt := top 11
abbrev s_size_of : Stmt := top 12
abbrev s_plus : Stmt := top 13
abbrev s_minus : Stmt := top 14
abbrev s_pluses : Stmt := top 15
abbrev s_minuses : Stmt := top 16
abbrev s_times_each : Stmt := top 17
abbrev s_how_many_pairs : Stmt := top 18
abbrev s_how_many_equal : Stmt := top 19
abbrev s_equal_pairs : Stmt := top 20
abbrev s_are_orders : Stmt := top 22
abbrev s_check_orders : Stmt := top 23
abbrev s_check_table : Stmt := top 25
abbrev s_check_row : Stmt := top 26
abbrev s_is_row_of : Stmt := top 27
abbrev s_check_wish_kind : Stmt := top 30
abbrev s_row_by : Stmt := top 31
abbrev s_passing_pairs : Stmt := top 33
abbrev s_how_many_pass : Stmt := top 34
abbrev s_check_pair : Stmt := top 35
abbrev s_sizes_of : Stmt := top 37
abbrev s_sizes_borne : Stmt := top 38
abbrev s_law_hash : Stmt := top 40
abbrev s_law_random : Stmt := top 41
abbrev s_law_cell : Stmt := top 42
abbrev s_law_generator : Stmt := top 43
abbrev s_law_groups : Stmt := top 44
abbrev s_law_size : Stmt := top 45
abbrev s_law_added : Stmt := top 46
abbrev s_law_minus : Stmt := top 47
abbrev s_law_table : Stmt := top 48
abbrev s_law_group : Stmt := top 49
abbrev s_law_row : Stmt := top 50
abbrev s_law_pairs : Stmt := top 51
abbrev s_law_sizes : Stmt := top 52
abbrev s_law_sort : Stmt := top 53
abbrev s_law_right : Stmt := top 54
abbrev s_law : Stmt := top 55
abbrev mkD (x : Str) (st : Stmt) : He.DefD := ⟨(x, none), x, x, defArgs st, defBody st, defScope st, [], []⟩
def fn0 : List He.DefD := [mkD "is_whole" s_is_whole, mkD "is_from" s_is_from, mkD "is_below" s_is_below, mkD "are_below" s_are_below, mkD "is_each_once" s_is_each_once, mkD "size_of" s_size_of, mkD "plus" s_plus, mkD "minus" s_minus, mkD "pluses" s_pluses, mkD "minuses" s_minuses, mkD "times_each" s_times_each, mkD "how_many_pairs" s_how_many_pairs, mkD "how_many_equal" s_how_many_equal, mkD "equal_pairs" s_equal_pairs, mkD "are_orders" s_are_orders, mkD "check_orders" s_check_orders, mkD "check_table" s_check_table, mkD "check_row" s_check_row, mkD "is_row_of" s_is_row_of, mkD "check_wish_kind" s_check_wish_kind]
def fn1 : List He.DefD := [mkD "row_by" s_row_by, mkD "passing_pairs" s_passing_pairs, mkD "how_many_pass" s_how_many_pass, mkD "check_pair" s_check_pair, mkD "sizes_of" s_sizes_of, mkD "sizes_borne" s_sizes_borne, mkD "_law_hash" s_law_hash, mkD "_law_random" s_law_random, mkD "_law_cell" s_law_cell, mkD "_law_generator" s_law_generator, mkD "_law_groups" s_law_groups, mkD "_law_size" s_law_size, mkD "_law_added" s_law_added, mkD "_law_minus" s_law_minus, mkD "_law_table" s_law_table, mkD "_law_group" s_law_group, mkD "_law_row" s_law_row, mkD "_law_pairs" s_law_pairs, mkD "_law_sizes" s_law_sizes, mkD "_law_sort" s_law_sort]
def fn2 : List He.DefD := [mkD "_law_right" s_law_right, mkD "law" s_law]
def fn : List He.DefD := fn0 ++ fn1 ++ fn2
def fa0 : List He.Fa := [.glo "is_whole", .glo "is_from", .glo "is_below", .glo "are_below", .glo "is_each_once", .glo "size_of", .glo "plus", .glo "minus", .glo "pluses", .glo "minuses", .glo "times_each", .glo "how_many_pairs", .glo "how_many_equal", .glo "equal_pairs", .glo "are_orders", .glo "check_orders", .glo "check_table", .glo "check_row", .glo "is_row_of", .glo "check_wish_kind", .glo "row_by", .glo "passing_pairs", .glo "how_many_pass", .glo "check_pair", .glo "sizes_of", .glo "sizes_borne", .glo "_law_hash", .glo "_law_random", .glo "_law_cell", .glo "_law_generator"]
def fa1 : List He.Fa := [.glo "_law_groups", .glo "_law_size", .glo "_law_added", .glo "_law_minus", .glo "_law_table", .glo "_law_group", .glo "_law_row", .glo "_law_pairs", .glo "_law_sizes", .glo "_law_sort", .glo "_law_right", .glo "law", .free "ValueError", .free "all", .free "bool", .free "int", .free "isinstance", .free "len", .free "list", .free "max", .free "range", .free "repr", .free "reversed", .free "set", .free "sorted", .free "sum", .free "tuple", .free "zip", .glo "KINDS"]
def fa : List He.Fa := fa0 ++ fa1
abbrev R : PySem.W.OpenRow := PySem.W.OpenLaw.row PySem.Challenge.rw_checkwright_k29_whole_pairs_that_pass
def ex (K : PySem.W.Frag) : Bool := G.smB K && He.tupB K "KINDS" [.str "swap", .str "twin"]
abbrev hk : PySem.W.Hook := He.hookM 4 fa fn ex
def ob (s : PySem.W.SharedT) : He.AlM := He.obsM 4 fa fn ex (HandSHeadRun.getT s)
theorem ob_eq (s : PySem.W.SharedT) : ob s = hk.obs s.abs := He.obsM_eq (HandSHeadRun.getT_eq s)
def ls0 : List PySem.Str := ["is_whole", "is_from", "is_below", "are_below", "is_each_once", "size_of", "plus", "minus", "pluses", "minuses", "times_each", "how_many_pairs", "how_many_equal", "equal_pairs", "are_orders", "check_orders", "check_table", "check_row", "is_row_of", "check_wish_kind", "row_by", "passing_pairs", "how_many_pass", "check_pair", "sizes_of", "sizes_borne", "_law_hash", "_law_random", "_law_cell", "_law_generator"]
def ls1 : List PySem.Str := ["_law_groups", "_law_size", "_law_added", "_law_minus", "_law_table", "_law_group", "_law_row", "_law_pairs", "_law_sizes", "_law_sort", "_law_right", "CheckError", "InvalidOrders", "InvalidTable", "InvalidRow", "InvalidWish", "KINDS"]
def ls : List PySem.Str := ls0 ++ ls1
theorem run (w : World) : HandSHeadRun.RunEq R (PySem.W.view R.prog [55]) hk ob 3800 ls w := by
  intro os
  kernel_rfl
end K29
end
section
set_option maxRecDepth 100000
set_option maxHeartbeats 2000000
namespace N
open PySem PySem.Spec PyProof.Rows L2 G
end N
end
section
set_option maxRecDepth 100000
set_option maxHeartbeats 4000000
namespace N
open PySem PySem.Spec PyProof.Rows L2 G
theorem desc_of {a b : List Int} (p : a.Perm b) (h : a.Pairwise (· ≥ ·)) : a = (sortI b).reverse := by
  have e : a.reverse = sortI b := sortI_of ((List.reverse_perm a).trans p) (List.pairwise_reverse.mpr (h.imp fun q => q))
  rw [← e, List.reverse_reverse]
def srtR (x : PyData) : Option (List PyData) := match x with
  | .list ds => match intsOf ds with
    | some ns => some ((sortI ns).reverse.map .int)
    | none => none
  | _ => none
theorem srtR_eq {x : PyData} {w : List PyData} (h : srtR x = some w) : ∃ ds ns, x = .list ds ∧ intsOf ds = some ns ∧ w = (sortI ns).reverse.map .int := by
  unfold srtR at h
  cases x with
  | list ds =>
    dsimp only at h
    cases q : intsOf ds with
    | none => rw [q] at h; cases h
    | some ns => rw [q] at h; cases h; exact ⟨ds, ns, rfl, q, rfl⟩
  | _ => cases h
namespace SE
def sortedR (a : SE) : SE where
  ev := fun ρ h => (a.ev ρ h).bind fun x h1 => match itemsD h1 x with
    | some ds => match srtR (.list ds) with
      | some w => .ok (.r h1.length) (h1 ++ [.lst (w.map .d)])
      | Option.none => .no
    | Option.none => .no
  t := fun C md => tCKw (rSortedKw C.K true [.bl true]) (tCons (a.t C md) tNil) (tCons (tC (.bl true)) tNil)
  ok := fun C md ρ h σ B H m Q e w q => by
    refine a.ok C md ρ h σ B H m _ e w (Po.chain w q fun x h1 v B1 H1 m1 ea g1 w1 r1 q1 => ?_)
    split at q1
    · rename_i ds ei
      split at q1
      · rename_i ws en
        obtain ⟨b, vs, rfl, hv, da⟩ := itemsD_ok w1 ei r1
        obtain ⟨ds2, ns, e1, e2, rfl⟩ := srtR_eq en
        cases e1
        rw [intsOf_ok e2] at da
        obtain rfl := daInts da
        refine ⟨_, ns, rfl, rfl, hv, fun ms p pm pw hp => ?_⟩
        rw [desc_of pm pw]
        obtain ⟨k, w2⟩ := gm_new w1 hp (VRs.all (m := m1) (daIn (K := C.K) (B := B1) (sortI ns).reverse))
        exact q1 _ _ _ _ k w2 (.r (by rw [← w1.len]; exact one_last _ _))
      · exact q1.elim
    · exact q1.elim
@[simp] theorem sortedR_ev (a : SE) {ρ} {h} : (SE.sortedR a).ev ρ h = ((a.ev ρ h).bind fun x h1 => match itemsD h1 x with
    | some ds => match srtR (.list ds) with
      | some w => Oc.ok (.r h1.length) (h1 ++ [.lst (w.map .d)])
      | Option.none => .no
    | Option.none => .no) := (rfl)
end SE
def insU (x : Int) : List Int → List Int
  | [] => [x]
  | y :: ys => if x < y then x :: y :: ys else if x = y then y :: ys else y :: insU x ys
def sortU : List Int → List Int
  | [] => []
  | x :: xs => insU x (sortU xs)
theorem insU_mem (x k : Int) : ∀ ys, k ∈ insU x ys ↔ k = x ∨ k ∈ ys
  | [] => by unfold insU; simp
  | y :: ys => by
    unfold insU
    split
    · simp
    · split
      · rename_i e
        subst e
        simp
      · rw [List.mem_cons, insU_mem x k ys, List.mem_cons]
        constructor
        · rintro (h | h | h)
          · exact .inr (.inl h)
          · exact .inl h
          · exact .inr (.inr h)
        · rintro (h | h | h)
          · exact .inr (.inl h)
          · exact .inl h
          · exact .inr (.inr h)
theorem sortU_mem (k : Int) : ∀ xs, k ∈ sortU xs ↔ k ∈ xs
  | [] => by unfold sortU; simp
  | x :: xs => by unfold sortU; rw [insU_mem, sortU_mem k xs, List.mem_cons]
theorem insU_lt (x : Int) : ∀ ys : List Int, ys.Pairwise (· < ·) → (insU x ys).Pairwise (· < ·)
  | [], _ => List.pairwise_singleton _ _
  | y :: ys, h => by
    obtain ⟨h1, h2⟩ := List.pairwise_cons.mp h
    unfold insU
    split
    · rename_i c
      refine List.pairwise_cons.mpr ⟨fun z hz => ?_, h⟩
      rcases List.mem_cons.mp hz with rfl | hz
      · exact c
      · exact Int.lt_trans c (h1 z hz)
    · split
      · exact h
      · refine List.pairwise_cons.mpr ⟨fun z hz => ?_, insU_lt x ys h2⟩
        rcases (insU_mem x z ys).mp hz with rfl | hz
        · omega
        · exact h1 z hz
theorem sortU_lt : ∀ xs : List Int, (sortU xs).Pairwise (· < ·)
  | [] => .nil
  | x :: xs => insU_lt x _ (sortU_lt xs)
theorem sortU_of {a xs : List Int} (h : a.Pairwise (· < ·)) (m : ∀ k, k ∈ a ↔ k ∈ xs) : a = sortU xs := by
  have p : a.Perm (sortU xs) := (List.perm_ext_iff_of_nodup (h.imp fun q => Int.ne_of_lt q) ((sortU_lt xs).imp fun q => Int.ne_of_lt q)).mpr fun k => (m k).trans (sortU_mem k xs).symm
  exact p.eq_of_pairwise (fun x y _ _ h1 h2 => absurd h1 (Int.lt_asymm h2)) h (sortU_lt xs)
def sortSetD : PyData → Option PyData
  | .list xs => match intsOf xs with
    | some ns => if ns.length < 64 then some (.list ((sortU ns).map .int)) else none
    | none => none
  | _ => none
def rSortSet (K : PySem.W.Frag) : V → Hp → VK → Prop := fun x H Q => ∃ (p : Addr) (ns : List Int), x = .ref p ∧ SqL K H p (ns.map V.int) ∧ ns.length < 64 ∧ ∀ q, H q = none → Q (.ref q) (upd H q (.lst ((sortU ns).map V.int)))
theorem sortSet_ok (K : PySem.W.Frag) (x z : PyData) (e : sortSetD x = some z) : Fn K (fun us H Q => ∃ u, us = [u] ∧ rSortSet K u H Q) [x] z := by
  unfold sortSetD at e
  split at e
  · split at e
    · rename_i ns e1
      split at e
      · rename_i hl
        cases e
        rw [intsOf_ok e1]
        intro B H s us hu Q q
        obtain ⟨u, rfl, h⟩ := da1 hu
        cases h with
        | lst h a =>
          obtain rfl := daInts a
          refine ⟨_, rfl, _, ns, rfl, same_l s h, hl, fun p hp => ?_⟩
          have k := Gr.add s hp (.lst ((sortU ns).map V.int))
          exact q _ _ _ k (.lst (.of upd_same) (daIn _))
      · cases e
    · cases e
  · cases e
def oSortSet : O1 := ⟨sortSetD, rSortSet, sortSet_ok⟩
end N
end
section
set_option maxRecDepth 100000
set_option maxHeartbeats 4000000
namespace SetL
open PySem PySem.Calls PyProof.Rows L2
abbrev S0 (w : World) : Obj := { cls := .type "set", dict := none, data := .set #[] 0 (.fresh 0 0 (!w.params.followText "set-order")) }
section
variable {P : Program} {w : World} {A : Around} {E : Value → Shared → Prop} {s : Shared}
abbrev told (w : World) (s : Shared) (ns : List Int) (h' : Heap) (c : Nat) : Prop := SetR w h' s.heap.objs.size (fun j => decide (j ∈ ns)) c ∧ c ≤ ns.length ∧ ∀ b o, s.heap.get? b = some o → h'.get? b = some o
theorem of_list {l : Addr} {its : Array Value} (ns : List Int) {Q : Value → Shared → Prop} (hh : A.handled = none) (hL : s.heap.IsList l its) (hI : IntsAre its.toList ns) (few : ns.length + 1 < scanBound)
    (K : ∀ (h' : Heap) (tk c : Nat), told w s ns h' c → Q (.ref s.heap.objs.size) { s with heap := h', toks := tk }) : wpAny (model P w) A (call (.type "set") [.ref l]) Q E s := by
  have size : its.size = ns.length := by rw [← Array.length_toList]; exact IntsAre.length hI
  obtain ⟨c, tl, mro⟩ := F.called_set.mro
  have made := F.called_set.made
  have sub := F.called_set.sub
  refine wpAny_call (codeAny_of_tree ?_)
  show wpAny _ _ (callAny (.type "set") _) _ _ _
  refine wpAny_pure ⟨Code.quiet_builtin _ (by decide +kernel), codeAny_builtin F.entry_type_call ?_⟩
  rw [Around.under_plain (weight_type_call_type "set" [.ref l] []) rfl]
  have noType := F.called_set.notType
  have canMake := F.called_set.canCreate
  have one := F.typeCall_set_1 (.ref l)
  repeat (any_goals (first | assumption | wp_step))
  refine codeAny_mono (code_set_led1 (.ref l) (E := E) (Q₁ := fun v z => v = .ref s.heap.objs.size ∧ z = { s with heap := s.heap.push (S0 w) }) ⟨rfl, rfl⟩) fun res s1 got => ?_
  cases res with
  | error _ => exact got
  | ok fin =>
    cases fin with
    | ret v =>
      obtain ⟨rfl, rfl⟩ := got
      have at0 : (s.heap.push (S0 w)).get? s.heap.objs.size = some (S0 w) := Heap.get?_push_size _ rfl
      have ty0 : Shared.TypeIs { s with heap := s.heap.push (S0 w) } (.ref s.heap.objs.size) "set" := ⟨_, at0, rfl⟩
      have look := F.called_set.init.lookup
      have bind := F.called_set.init.bind (.ref s.heap.objs.size)
      repeat (any_goals (first | assumption | wp_step))
      refine codeAny_mono (codeAny_call_builtin (R := wants (fun v z => v = .none ∧ ∃ h' tk c, z = { s with heap := h', toks := tk } ∧ told w s ns h' c) E) F.called_set.init.plain F.entry_set_init (check_set_init_1 ty0 ?_)) fun res2 s2 got2 => ?_
      · obtain ⟨⟨cl, di, da, sl⟩, here, cls, nn, dat⟩ := hL
        dsimp only at cls dat
        subst cls
        subst dat
        have there : (s.heap.push (S0 w)).get? l = some { cls := .type "list", dict := di, data := .seq its nn, slots := sl } := Heap.get?_push_of_some _ here
        have no1 := F.sub_list_set
        have no2 := F.sub_list_frozenset
        have no3 : (Value.type "list" == Value.type "dict") = false := by decide
        have hL1 : (s.heap.push (S0 w)).IsList l its := ⟨_, there, rfl, nn, rfl⟩
        unfold Builtin.«set.__init__» noKeywords Builtin.Frozenset.updateFrom
        generalize ePI : pyIter = PI
        wp_walk
        subst ePI
        refine wpAny_pyIter_list hL1 ?_
        refine wpAny_bind (wpAny_runValue ?_)
        have lt : l < s.heap.objs.size := Heap.lt_size here
        have calm3 : A.in1.in1.in1.handled = none := by simp [hh]
        have sz1 : (s.heap.push (S0 w)).objs.size = s.heap.objs.size + 1 := Heap.size_push ..
        have apart : l ≠ (s.heap.push (S0 w)).objs.size := by rw [sz1]; exact Nat.ne_of_lt (Nat.lt_succ_of_lt lt)
        have outside : s.heap.objs.size ∉ [(s.heap.push (S0 w)).objs.size, l] := by
          rw [sz1]
          simp only [List.mem_cons, List.not_mem_nil, or_false, not_or]
          exact ⟨Nat.ne_of_lt (Nat.lt_succ_self _), Nat.ne_of_gt lt⟩
        have vals : ∀ (i : Nat) (v : Value), its[i]? = some v → ∃ k t, ns[i]? = some k ∧ v = .int k t := fun i v hv => by
          have hi : i < ns.length := by rw [← size]; exact (Array.getElem?_eq_some_iff.mp hv).1
          obtain ⟨t, e⟩ := PyProof.Rows.IntsAre.int_at hI i v (by rw [Array.getElem?_toList]; exact hv)
          exact ⟨ns[i], t, List.getElem?_eq_getElem hi, by rw [e, List.getD_eq_getElem?_getD, List.getElem?_eq_getElem hi]; rfl⟩
        have W := (Walks.list (prog := P) (w := w) calm3 (s.heap.push (S0 w)).objs.size l apart its).toS
        refine set_update_ints W s.heap.objs.size outside ns size few vals (its.size - 0) 0 _ (by omega) (Nat.zero_le _) ⟨⟨_, Heap.get?_push_size _ rfl, rfl, rfl⟩, (hL1.push _)⟩ ⟨0, Nat.le_refl 0, setR_new_at (Heap.get?_push_of_some _ at0)⟩ ?_
        intro s' c' mv hc hS
        obtain ⟨h', g2, d2, tk, os2⟩ := s'
        obtain rfl : g2 = s.gens := mv.gens
        obtain rfl : d2 = s.drawn := mv.drawn
        obtain rfl : os2 = s.os := mv.os
        show wpAny _ _ _ _ _ _
        refine wpAny_pure ?_
        show wpAny _ _ (ret Value.none) _ _ _
        refine wpAny_pure ⟨rfl, h', tk, c', rfl, hS, by rw [← size]; exact hc, fun b o e => ?_⟩
        have b0 : b < s.heap.objs.size := Heap.lt_size e
        refine mv.heap b o ?_ (Heap.get?_push_of_some _ (Heap.get?_push_of_some _ e))
        rw [sz1]
        simp only [List.mem_cons, List.not_mem_nil, or_false, not_or]
        exact ⟨Nat.ne_of_lt b0, Nat.ne_of_lt (Nat.lt_succ_of_lt b0)⟩
      · cases res2 with
        | error _ => exact got2
        | ok fin2 =>
          cases fin2 with
          | ret r =>
            obtain ⟨rfl, h', tk, c', rfl, T⟩ := got2
            repeat (any_goals (first | assumption | wp_step))
            exact K _ _ _ T
          | _ => exact got2.elim
    | _ => exact got.elim
end
end SetL
namespace N
open PySem PySem.Spec PyProof.Rows L2 G
theorem pe_sortSet {X : Cx} {a : Expr} {ta : TE} {p p2 q pos : Pos} (hg : Gl X "sorted") (hm : X.mg "sorted" = none) (hg2 : Gl X "set") (hm2 : X.mg "set" = none) (ha : PE X a ta) (calm : X.calm = true := by rfl)
    (one : starEach [a] X.env = (false, eval a X.env) :: starEach [] X.env := by rfl) : PE X (.Call (.Name "sorted" p) [.Call (.Name "set" p2) [a] [] q] [] pos) (tUn (rSortSet X.K) ta) :=
  ⟨fun pins s σ H Q I h => by
    refine Call_ (ld_blt I hg hm (show bootBuiltins "sorted" = some (.builtin "sorted") by decide +kernel) (callWith_builtin1 (args_cons ?_ rfl) rfl rfl))
    refine Call_ (ld_blt I hg2 hm2 boot_set (callWith_type1 (args_cons (thn (ha.run pins s σ H _ I h) fun v s1 ⟨x, H1, J, rx, w⟩ => args_nil ?_) one) one rfl))
    obtain ⟨l, ns, rfl, hq, few, w⟩ := w
    obtain rfl : v = Value.ref l := rx
    obtain ⟨its, rv, plain, _⟩ := J.list hq
    refine SetL.of_list ns (J.ok.hd calm) plain.isList (by simpa using RZ.intsAre_vals rv) (by unfold scanBound; omega) fun h2 tk c ⟨R, hc, keep⟩ => args_nil ?_
    have J2 : L2.Inv X pins σ H1 { s1 with heap := h2, toks := tk } := J.kept keep
    have R2 : SetR X.w ({ s1 with heap := h2, toks := tk } : Shared).heap s1.heap.objs.size (fun j => decide (j ∈ ns)) c := R
    generalize ({ s1 with heap := h2, toks := tk } : Shared) = s2 at J2 R2 ⊢
    refine sorted_set (s := s2) R2 (J2.ok.hd calm) (by omega) fun s' p out c' ms k g o hp hd hi hs hmem hl => ?_
    have em : ms = sortU ns := sortU_of hs fun k => (hmem k).trans (decide_eq_true_iff)
    have hlen : (ms.map V.int).length ≤ sizeLine := by rw [List.length_map, hl, sizeLine_eq]; omega
    have hn : H1 p = none := J2.hok.fresh hp
    have J3 : L2.Inv X pins σ (upd H1 p (.lst (ms.map V.int))) { s2 with heap := s'.heap, gens := s'.gens, drawn := s'.drawn, toks := s'.toks } :=
      J2.call (ch := []) (Un.laid k hp hn) (J2.hok.laid k hp ⟨hlen, out.toList, c', vals_of_ints hi, hd⟩) (by rw [g]; exact J2.bare) (fun _ z => nomatch z)
    have es : s' = { s2 with heap := s'.heap, gens := s'.gens, drawn := s'.drawn, toks := s'.toks } := by
      obtain ⟨_, _, _, _, _⟩ := s'
      cases o
      rfl
    rw [es]
    rw [em] at J3
    exact ⟨.ref p, _, J3, rfl, w p hn⟩⟩
end N
namespace N
open PySem PySem.Spec PyProof.Rows L2 G
theorem sortSetX {X : Cx} (K : PySem.W.Frag) {a : Expr} {ta : TE} {p p2 q pos : Pos} (hg : Gl X "sorted") (hm : X.mg "sorted" = none) (hg2 : Gl X "set") (hm2 : X.mg "set" = none) (ha : PE X a ta) (h : X.K = K := by rfl) (calm : X.calm = true := by rfl)
    (one : starEach [a] X.env = (false, eval a X.env) :: starEach [] X.env := by rfl) : PE X (.Call (.Name "sorted" p) [.Call (.Name "set" p2) [a] [] q] [] pos) (tUn (rSortSet K) ta) := by
  subst h
  exact pe_sortSet hg hm hg2 hm2 ha calm one
end N
end
section
set_option maxRecDepth 100000
set_option maxHeartbeats 4000000
namespace J
open PySem PySem.Spec PyProof.Rows L2 G N
section
variable {α : Type} {env : Ev} {a : SE} {ca : Cd α} {Va : α → D} {Ea : α → Ev}
theorem co_sortedR (ha : CE env a ca Va Ea) : CO env (SE.sortedR a) (fun R k => ca R fun x => bd (srtR (Va x)) fun w => k (x, w)) (fun p => p.2) (fun p => Ea p.1) := fun ρ h f r R k z hz => by
  obtain ⟨x, h1, k1, e1, a1⟩ := ha ρ h f r R _ z hz
  obtain ⟨w, e3, k3⟩ := bd_eq k1
  refine ⟨(x, w), h1 ++ [.lst (w.map .d)], h1.length, k3, ?_, new_at, a1.len, a1.trans (a1.rep.new _)⟩
  rw [SE.sortedR_ev, e1, Oc.bind_ok]
  obtain ⟨ds, ns, q, _, _⟩ := srtR_eq e3
  rw [q] at e3 ⊢
  dsimp only [itemsD]
  rw [e3]
end
end J
end
section
set_option maxRecDepth 100000
set_option maxHeartbeats 0
namespace D
open PySem PySem.Spec PyProof.Rows L2 G N
def S_is_whole_0 : SS := (SS.ret (SE.andV (SE.isi .int (SE.var 0)) (SE.notV (SE.isi .bool (SE.var 0)))))
def B_is_whole : SS := (S_is_whole_0)
def F_is_whole : FSem := runDef B_is_whole 1 1
def S_is_from_0 : SS := (SS.ret (SE.andV (SE.call F_is_whole (SL.cons (SE.var 0) SL.nil)) (SE.op oGe (SE.var 0) (SE.var 1))))
def B_is_from : SS := (S_is_from_0)
def F_is_from : FSem := runDef B_is_from 2 2
def S_is_below_0 : SS := (SS.ret (SE.andV (SE.call F_is_whole (SL.cons (SE.var 0) SL.nil)) (SE.chain oLe oLt (SE.int 0) (SE.var 0) (SE.var 1))))
def B_is_below : SS := (S_is_below_0)
def F_is_below : FSem := runDef B_is_below 2 2
def S_are_below_0 : SS := (SS.ret (SE.andV (SE.isi .list (SE.var 0)) (SE.cb bAll (SL.cons (SE.lc (SI.seq (SE.var 0)) (ST.name 2) SB.yes (SE.call F_is_below (SL.cons (SE.var 2) (SL.cons (SE.var 1) SL.nil)))) SL.nil))))
def B_are_below : SS := (S_are_below_0)
def F_are_below : FSem := runDef B_are_below 3 2
def S_is_each_once_0 : SS := (SS.ite (SB.or (SB.not (SB.val (SE.isi .list (SE.var 0)))) (SB.test (SE.op oNe (SE.cb bLen (SL.cons (SE.var 0) SL.nil)) (SE.var 1)))) (SS.ret (SE.bl false)) SS.nil)
def S_is_each_once_1 : SS := (SS.ret (SE.andV (SE.call F_are_below (SL.cons (SE.var 0) (SL.cons (SE.var 1) SL.nil))) (SE.op oEq (SE.lenSet (SE.var 0)) (SE.var 1))))
def B_is_each_once : SS := (SS.seq (S_is_each_once_0) (S_is_each_once_1))
def F_is_each_once : FSem := runDef B_is_each_once 2 2
def L_size_of_0 : SS := (SS.set 1 (SE.op oMul (SE.var 1) (SE.var 2)))
def S_size_of_0 : SS := (SS.set 1 (SE.int 1))
def S_size_of_1 : SS := (SS.forS (SI.seq (SE.var 0)) (ST.name 2) (L_size_of_0))
def S_size_of_2 : SS := (SS.ret (SE.var 1))
def B_size_of : SS := (SS.seq (S_size_of_0) (SS.seq (S_size_of_1) (S_size_of_2)))
def F_size_of : FSem := runDef B_size_of 3 1
def L_plus_0 : SS := (SS.seq (SS.set 3 (SE.op oAdd (SE.var 3) (SE.op oMul (SE.op oMod (SE.op oAdd (SE.var 1) (SE.var 2)) (SE.var 5)) (SE.var 4))))
      (SS.par3 1 2 4 (SL.cons (SE.op oFdiv (SE.var 1) (SE.var 5)) (SL.cons (SE.op oFdiv (SE.var 2) (SE.var 5)) (SL.cons (SE.op oMul (SE.var 4) (SE.var 5)) SL.nil)))))
def S_plus_0 : SS := (SS.asgG (SE.tup (SL.cons (SE.int 0) (SL.cons (SE.int 1) SL.nil))) (SG.tup (SGs.cons (SG.name 3) (SGs.cons (SG.name 4) SGs.nil))))
def S_plus_1 : SS := (SS.forS (SI.revd (SE.var 0)) (ST.name 5) (L_plus_0))
def S_plus_2 : SS := (SS.ret (SE.var 3))
def B_plus : SS := (SS.seq (S_plus_0) (SS.seq (S_plus_1) (S_plus_2)))
def F_plus : FSem := runDef B_plus 6 3
def L_minus_0 : SS := (SS.seq (SS.set 3 (SE.op oAdd (SE.var 3) (SE.op oMul (SE.op oMod (SE.op oSub (SE.var 1) (SE.var 2)) (SE.var 5)) (SE.var 4))))
      (SS.par3 1 2 4 (SL.cons (SE.op oFdiv (SE.var 1) (SE.var 5)) (SL.cons (SE.op oFdiv (SE.var 2) (SE.var 5)) (SL.cons (SE.op oMul (SE.var 4) (SE.var 5)) SL.nil)))))
def S_minus_0 : SS := (SS.asgG (SE.tup (SL.cons (SE.int 0) (SL.cons (SE.int 1) SL.nil))) (SG.tup (SGs.cons (SG.name 3) (SGs.cons (SG.name 4) SGs.nil))))
def S_minus_1 : SS := (SS.forS (SI.revd (SE.var 0)) (ST.name 5) (L_minus_0))
def S_minus_2 : SS := (SS.ret (SE.var 3))
def B_minus : SS := (SS.seq (S_minus_0) (SS.seq (S_minus_1) (S_minus_2)))
def F_minus : FSem := runDef B_minus 6 3
def S_pluses_0 : SS := (SS.ret (SE.lcM (SI.zip (SL.cons (SE.var 1) (SL.cons (SE.var 2) SL.nil))) (ST.tup (STs.cons (ST.name 3) (STs.cons (ST.name 4) STs.nil))) SB.yes (SE.call F_plus (SL.cons (SE.var 0) (SL.cons (SE.var 3) (SL.cons (SE.var 4) SL.nil))))))
def B_pluses : SS := (S_pluses_0)
def F_pluses : FSem := runDef B_pluses 5 3
def S_minuses_0 : SS := (SS.ret (SE.lcM (SI.zip (SL.cons (SE.var 1) (SL.cons (SE.var 2) SL.nil))) (ST.tup (STs.cons (ST.name 3) (STs.cons (ST.name 4) STs.nil))) SB.yes (SE.call F_minus (SL.cons (SE.var 0) (SL.cons (SE.var 3) (SL.cons (SE.var 4) SL.nil))))))
def B_minuses : SS := (S_minuses_0)
def F_minuses : FSem := runDef B_minuses 5 3
def S_times_each_v2_0 : SS := (SS.times (SI.seq (SE.var 0)) 1 2)
def B_times_each_v2 : SS := (S_times_each_v2_0)
def F_times_each_v2 : FSem := runDef B_times_each_v2 3 1
def S_how_many_pairs_0 : SS := (SS.ret (SE.cb bSum (SL.cons (SE.lc (SI.seq (SE.var 0)) (ST.name 1) SB.yes (SE.op oFdiv (SE.op oMul (SE.var 1) (SE.op oSub (SE.var 1) (SE.int 1))) (SE.int 2))) SL.nil)))
def B_how_many_pairs : SS := (S_how_many_pairs_0)
def F_how_many_pairs : FSem := runDef B_how_many_pairs 2 1
def S_how_many_equal_v2_0 : SS := (SS.ret (SE.call F_how_many_pairs (SL.cons (SE.frz (SE.listVals F_times_each_v2 (SL.cons (SE.var 0) SL.nil))) SL.nil)))
def B_how_many_equal_v2 : SS := (S_how_many_equal_v2_0)
def F_how_many_equal_v2 : FSem := runDef B_how_many_equal_v2 1 1
def S_equal_pairs_v2_0 : SS := (SS.ret (SE.lc2M [1, 2] (SI.rng1 (SL.cons (SE.cb bLen (SL.cons (SE.var 0) SL.nil)) SL.nil)) (ST.name 1) SB.yes (SI.rng2 (SL.cons (SE.op oAdd (SE.var 1) (SE.int 1)) (SL.cons (SE.cb bLen (SL.cons (SE.var 0) SL.nil)) SL.nil))) (ST.name 2) (SB.test (SE.op oEq (SE.ix (SE.var 0) (SE.var 1)) (SE.ix (SE.var 0) (SE.var 2)))) (SE.tup (SL.cons (SE.var 1) (SL.cons (SE.var 2) SL.nil))) (by decide)))
def B_equal_pairs_v2 : SS := (S_equal_pairs_v2_0)
def F_equal_pairs_v2 : FSem := runDef B_equal_pairs_v2 3 1
def S_are_orders_0 : SS := (SS.ite (SB.or (SB.not (SB.val (SE.isi .tuple (SE.var 0)))) (SB.test (SE.op oEq (SE.cb bLen (SL.cons (SE.var 0) SL.nil)) (SE.int 0)))) (SS.ret (SE.bl false)) SS.nil)
def S_are_orders_1 : SS := (SS.ret (SE.cb bAll (SL.cons (SE.lc (SI.seq (SE.var 0)) (ST.name 1) SB.yes (SE.call F_is_from (SL.cons (SE.var 1) (SL.cons (SE.int 2) SL.nil)))) SL.nil)))
def B_are_orders : SS := (SS.seq (S_are_orders_0) (S_are_orders_1))
def F_are_orders : FSem := runDef B_are_orders 2 1
def S_check_orders_0 : SS := (SS.ite (SB.not (SB.val (SE.call F_are_orders (SL.cons (SE.var 0) SL.nil)))) SS.never SS.nil)
def B_check_orders : SS := (S_check_orders_0)
def F_check_orders : FSem := runDef B_check_orders 1 1
def S_check_table_0 : SS := (SS.ite (SB.not (SB.val (SE.call F_is_each_once (SL.cons (SE.var 1) (SL.cons (SE.call F_size_of (SL.cons (SE.var 0) SL.nil)) SL.nil))))) SS.never SS.nil)
def B_check_table : SS := (S_check_table_0)
def F_check_table : FSem := runDef B_check_table 2 2
def S_is_row_of_0 : SS := (SS.ret (SE.andV (SE.isi .list (SE.var 1)) (SE.andV (SE.op oEq (SE.cb bLen (SL.cons (SE.var 1) SL.nil)) (SE.var 0)) (SE.call F_are_below (SL.cons (SE.var 1) (SL.cons (SE.var 0) SL.nil))))))
def B_is_row_of : SS := (S_is_row_of_0)
def F_is_row_of : FSem := runDef B_is_row_of 2 2
def S_check_row_0 : SS := (SS.ite (SB.not (SB.val (SE.call F_is_row_of (SL.cons (SE.call F_size_of (SL.cons (SE.var 0) SL.nil)) (SL.cons (SE.var 1) SL.nil))))) SS.never SS.nil)
def B_check_row : SS := (S_check_row_0)
def F_check_row : FSem := runDef B_check_row 2 2
def S_check_wish_kind_0 : SS := (SS.ite (SB.test (SE.op oNin (SE.var 0) (SE.gtup [.str "swap", .str "twin"] [.str "swap", .str "twin"] rfl))) SS.never SS.nil)
def B_check_wish_kind : SS := (S_check_wish_kind_0)
def F_check_wish_kind : FSem := runDef B_check_wish_kind 1 1
def S_row_by_0 : SS := (SS.ret (SE.ifx (SB.test (SE.op oEq (SE.var 1) (SE.str "swap"))) (SE.call F_minuses (SL.cons (SE.var 0) (SL.cons (SE.var 2) (SL.cons (SE.var 3) SL.nil)))) (SE.call F_pluses (SL.cons (SE.var 0) (SL.cons (SE.var 2) (SL.cons (SE.var 3) SL.nil))))))
def B_row_by : SS := (S_row_by_0)
def F_row_by : FSem := runDef B_row_by 4 4
def S_check_pair_0 : SS := (SS.drop (SE.call F_check_orders (SL.cons (SE.var 0) SL.nil)))
def S_check_pair_1 : SS := (SS.drop (SE.call F_check_wish_kind (SL.cons (SE.var 1) SL.nil)))
def S_check_pair_2 : SS := (SS.drop (SE.call F_check_table (SL.cons (SE.var 0) (SL.cons (SE.var 2) SL.nil))))
def S_check_pair_3 : SS := (SS.drop (SE.call F_check_table (SL.cons (SE.var 0) (SL.cons (SE.var 3) SL.nil))))
def B_check_pair : SS := (SS.seq (S_check_pair_0) (SS.seq (S_check_pair_1) (SS.seq (S_check_pair_2) (S_check_pair_3))))
def F_check_pair : FSem := runDef B_check_pair 4 4
def S_sizes_borne_v2_0 : SS := (SS.ret (SE.sortedR (SE.frz (SE.listVals F_times_each_v2 (SL.cons (SE.var 0) SL.nil)))))
def B_sizes_borne_v2 : SS := (S_sizes_borne_v2_0)
def F_sizes_borne_v2 : FSem := runDef B_sizes_borne_v2 1 1
def S_sizes_of_v3_0 : SS := (SS.drop (SE.call F_check_orders (SL.cons (SE.var 0) SL.nil)))
def S_sizes_of_v3_1 : SS := (SS.drop (SE.call F_check_row (SL.cons (SE.var 0) (SL.cons (SE.var 1) SL.nil))))
def S_sizes_of_v3_2 : SS := (SS.ret (SE.call F_sizes_borne_v2 (SL.cons (SE.var 1) SL.nil)))
def B_sizes_of_v3 : SS := (SS.seq (S_sizes_of_v3_0) (SS.seq (S_sizes_of_v3_1) (S_sizes_of_v3_2)))
def F_sizes_of_v3 : FSem := runDef B_sizes_of_v3 2 2
def S_how_many_pass_v3_0 : SS := (SS.drop (SE.call F_check_pair (SL.cons (SE.var 0) (SL.cons (SE.var 1) (SL.cons (SE.var 2) (SL.cons (SE.var 3) SL.nil))))))
def S_how_many_pass_v3_1 : SS := (SS.ret (SE.call F_how_many_equal_v2 (SL.cons (SE.call F_row_by (SL.cons (SE.var 0) (SL.cons (SE.var 1) (SL.cons (SE.var 2) (SL.cons (SE.var 3) SL.nil))))) SL.nil)))
def B_how_many_pass_v3 : SS := (SS.seq (S_how_many_pass_v3_0) (S_how_many_pass_v3_1))
def F_how_many_pass_v3 : FSem := runDef B_how_many_pass_v3 4 4
def S_passing_pairs_v4_0 : SS := (SS.drop (SE.call F_check_pair (SL.cons (SE.var 0) (SL.cons (SE.var 1) (SL.cons (SE.var 2) (SL.cons (SE.var 3) SL.nil))))))
def S_passing_pairs_v4_1 : SS := (SS.ret (SE.callM F_equal_pairs_v2 (SL.cons (SE.call F_row_by (SL.cons (SE.var 0) (SL.cons (SE.var 1) (SL.cons (SE.var 2) (SL.cons (SE.var 3) SL.nil))))) SL.nil)))
def B_passing_pairs_v4 : SS := (SS.seq (S_passing_pairs_v4_0) (S_passing_pairs_v4_1))
def F_passing_pairs_v4 : FSem := runDef B_passing_pairs_v4 4 4
end D
end
section
set_option maxRecDepth 100000
set_option maxHeartbeats 0
namespace D
open PySem PySem.Spec PyProof.Rows L2 G N
def S_law_hash_0 : SS := (SS.set 2 (SE.op oMod (SE.cb bInt (SL.cons (SE.op oAdd (SE.op oAdd (SE.op oAdd (SE.op oMul (SE.var 0) (SE.int 1140671)) (SE.op oMul (SE.op oMul (SE.int 27644437) (SE.var 1)) (SE.var 1))) (SE.op oMul (SE.int 131) (SE.var 1))) (SE.int 19)) SL.nil)) (SE.int 2147483629)))
def S_law_hash_1 : SS := (SS.set 2 (SE.op oMod (SE.cb bInt (SL.cons (SE.op oAdd (SE.op oAdd (SE.op oMul (SE.var 2) (SE.var 2)) (SE.op oMul (SE.int 62089) (SE.var 1))) (SE.int 32416187)) SL.nil)) (SE.int 2147483587)))
def S_law_hash_2 : SS := (SS.ret (SE.op oMod (SE.cb bInt (SL.cons (SE.op oMul (SE.var 2) (SE.int 48271)) SL.nil)) (SE.int 2147483647)))
def B_law_hash : SS := (SS.seq (S_law_hash_0) (SS.seq (S_law_hash_1) (S_law_hash_2)))
def F_law_hash : FSem := runDef B_law_hash 3 2
def L_law_random_0 : SS := (SS.seq (SS.asgG (SE.op oAdd (SE.ix (SE.var 0) (SE.int 2)) (SE.int 1)) (SG.sub (SE.var 0) (SE.int 2)))
      (SS.set 2 (SE.op oAdd (SE.op oMul (SE.var 2) (SE.int 2147483587)) (SE.call F_law_hash (SL.cons (SE.ix (SE.var 0) (SE.int 1)) (SL.cons (SE.ix (SE.var 0) (SE.int 2)) SL.nil))))))
def S_law_random_0 : SS := (SS.ite (SB.test (SE.op oGt (SE.ix (SE.var 0) (SE.int 0)) (SE.int 0))) (SS.seq (SS.set 2 (SE.op oMod (SE.cb bInt (SL.cons (SE.ix (SE.var 0) (SE.int 0)) SL.nil)) (SE.var 1)))
      (SS.seq (SS.asgG (SE.op oFdiv (SE.ix (SE.var 0) (SE.int 0)) (SE.var 1)) (SG.sub (SE.var 0) (SE.int 0)))
      (SS.ret (SE.var 2)))) SS.nil)
def S_law_random_1 : SS := (SS.set 2 (SE.int 0))
def S_law_random_2 : SS := (SS.forS (SI.rng1 (SL.cons (SE.op oAdd (SE.int 1) (SE.op oFdiv (SE.bits (SE.var 1)) (SE.int 30))) SL.nil)) (ST.name 3) (L_law_random_0))
def S_law_random_3 : SS := (SS.ret (SE.op oMod (SE.cb bInt (SL.cons (SE.var 2) SL.nil)) (SE.var 1)))
def B_law_random : SS := (SS.seq (S_law_random_0) (SS.seq (S_law_random_1) (SS.seq (S_law_random_2) (S_law_random_3))))
def F_law_random : FSem := runDef B_law_random 4 2
def S_law_cell_0 : SS := (SS.ite (SB.test (SE.op oLt (SE.var 1) (SE.cb bLen (SL.cons (SE.var 0) SL.nil)))) (SS.ret (SE.ix (SE.var 0) (SE.var 1))) SS.nil)
def S_law_cell_1 : SS := (SS.ret (SE.op oMod (SE.cb bSum (SL.cons (SE.sl (SE.var 0) SO.none (SO.some (SE.int 1))) SL.nil)) (SE.int 1000003)))
def B_law_cell : SS := (SS.seq (S_law_cell_0) (S_law_cell_1))
def F_law_cell : FSem := runDef B_law_cell 2 2
def S_law_generator_0 : SS := (SS.set 2 (SE.call F_law_cell (SL.cons (SE.var 0) (SL.cons (SE.var 1) SL.nil))))
def S_law_generator_1 : SS := (SS.ret (SE.lstM (SL.cons (SE.op oMod (SE.cb bInt (SL.cons (SE.cb bMax (SL.cons (SE.op oSub (SE.var 2) (SE.op oPow (SE.int 10) (SE.int 18))) (SL.cons (SE.int 0) SL.nil))) SL.nil)) (SE.op oPow (SE.op oPow (SE.int 10) (SE.int 60)) (SE.int 10))) (SL.cons (SE.op oMod (SE.cb bInt (SL.cons (SE.var 2) SL.nil)) (SE.int 2147483647)) (SL.cons (SE.op oMul (SE.int 1000) (SE.var 1)) SL.nil)))))
def B_law_generator : SS := (SS.seq (S_law_generator_0) (S_law_generator_1))
def F_law_generator : FSem := runDef B_law_generator 3 2
def L_law_size_v4_0 : SS := (SS.set 1 (SE.op oMul (SE.var 1) (SE.var 2)))
def S_law_size_v4_0 : SS := (SS.set 1 (SE.int 1))
def S_law_size_v4_1 : SS := (SS.forS (SI.seq (SE.var 0)) (ST.name 2) (L_law_size_v4_0))
def S_law_size_v4_2 : SS := (SS.ret (SE.var 1))
def B_law_size_v4 : SS := (SS.seq (S_law_size_v4_0) (SS.seq (S_law_size_v4_1) (S_law_size_v4_2)))
def F_law_size_v4 : FSem := runDef B_law_size_v4 3 1
def L_law_added_0 : SS := (SS.seq (SS.set 3 (SE.op oAdd (SE.var 3) (SE.op oMul (SE.op oMod (SE.cb bInt (SL.cons (SE.op oAdd (SE.op oMod (SE.cb bInt (SL.cons (SE.var 1) SL.nil)) (SE.var 5)) (SE.op oMod (SE.cb bInt (SL.cons (SE.var 2) SL.nil)) (SE.var 5))) SL.nil)) (SE.var 5)) (SE.var 4))))
      (SS.par3 1 2 4 (SL.cons (SE.op oFdiv (SE.var 1) (SE.var 5)) (SL.cons (SE.op oFdiv (SE.var 2) (SE.var 5)) (SL.cons (SE.op oMul (SE.var 4) (SE.var 5)) SL.nil)))))
def S_law_added_0 : SS := (SS.asgG (SE.tup (SL.cons (SE.int 0) (SL.cons (SE.int 1) SL.nil))) (SG.tup (SGs.cons (SG.name 3) (SGs.cons (SG.name 4) SGs.nil))))
def S_law_added_1 : SS := (SS.forS (SI.seq (SE.rev (SE.var 0))) (ST.name 5) (L_law_added_0))
def S_law_added_2 : SS := (SS.ret (SE.var 3))
def B_law_added : SS := (SS.seq (S_law_added_0) (SS.seq (S_law_added_1) (S_law_added_2)))
def F_law_added : FSem := runDef B_law_added 6 3
def L_law_minus_v3_0 : SS := (SS.seq (SS.set 2 (SE.op oAdd (SE.var 2) (SE.op oMul (SE.op oMod (SE.cb bInt (SL.cons (SE.op oSub (SE.var 4) (SE.op oMod (SE.cb bInt (SL.cons (SE.var 1) SL.nil)) (SE.var 4))) SL.nil)) (SE.var 4)) (SE.var 3))))
      (SS.par 1 3 (SL.cons (SE.op oFdiv (SE.var 1) (SE.var 4)) (SL.cons (SE.op oMul (SE.var 3) (SE.var 4)) SL.nil))))
def S_law_minus_v3_0 : SS := (SS.asgG (SE.tup (SL.cons (SE.int 0) (SL.cons (SE.int 1) SL.nil))) (SG.tup (SGs.cons (SG.name 2) (SGs.cons (SG.name 3) SGs.nil))))
def S_law_minus_v3_1 : SS := (SS.forS (SI.seq (SE.rev (SE.var 0))) (ST.name 4) (L_law_minus_v3_0))
def S_law_minus_v3_2 : SS := (SS.ret (SE.var 2))
def B_law_minus_v3 : SS := (SS.seq (S_law_minus_v3_0) (SS.seq (S_law_minus_v3_1) (S_law_minus_v3_2)))
def F_law_minus_v3 : FSem := runDef B_law_minus_v3 5 2
def L_law_table_v3_0 : SS := (SS.drop (SE.app (SE.var 3) (SE.popAt (SE.var 2) (SE.callG F_law_random (SL.cons (SE.var 0) (SL.cons (SE.cb bLen (SL.cons (SE.var 2) SL.nil)) SL.nil))))))
def L_law_table_v3_1 : SS := (SS.set 6 (SE.lc (SI.rng1 (SL.cons (SE.cb bLen (SL.cons (SE.var 6) SL.nil)) SL.nil)) (ST.name 8) SB.yes (SE.call F_law_added (SL.cons (SE.var 1) (SL.cons (SE.ix (SE.var 6) (SE.var 8)) (SL.cons (SE.var 8) SL.nil))))))
def S_law_table_v3_0 : SS := (SS.par 2 3 (SL.cons (SE.listRg1M (SE.call F_law_size_v4 (SL.cons (SE.var 1) SL.nil))) (SL.cons (SE.lstM SL.nil) SL.nil)))
def S_law_table_v3_1 : SS := (SS.forS (SI.rng1 (SL.cons (SE.call F_law_size_v4 (SL.cons (SE.var 1) SL.nil)) SL.nil)) (ST.name 4) (L_law_table_v3_0))
def S_law_table_v3_2 : SS := (SS.fzT 3 (SS.ite (SB.test (SE.op oEq (SE.callG F_law_random (SL.cons (SE.var 0) (SL.cons (SE.int 3) SL.nil))) (SE.int 0))) (SS.seq (SS.set 5 (SE.op oAdd (SE.int 1) (SE.callG F_law_random (SL.cons (SE.var 0) (SL.cons (SE.int 3) SL.nil)))))
      (SS.seq (SS.set 6 (SE.lc (SI.seq (SE.var 3)) (ST.name 7) SB.yes (SE.int 0)))
      (SS.seq (SS.forS (SI.rng1 (SL.cons (SE.var 5) SL.nil)) (ST.name 4) (L_law_table_v3_1))
      (SS.set 3 (SE.ifx (SB.test (SE.op oEq (SE.cb bSorted (SL.cons (SE.var 6) SL.nil)) (SE.listRg1 (SE.cb bLen (SL.cons (SE.var 6) SL.nil))))) (SE.var 6) (SE.frz (SE.var 3))))))) SS.nil))
def S_law_table_v3_3 : SS := (SS.ret (SE.frz (SE.var 3)))
def B_law_table_v3 : SS := (SS.seq (S_law_table_v3_0) (SS.seq (S_law_table_v3_1) (SS.seq (S_law_table_v3_2) (S_law_table_v3_3))))
def F_law_table_v3 : FSem := runDef B_law_table_v3 9 2
def S_law_row_v4_0 : SS := (SS.ite (SB.test (SE.op oEq (SE.var 1) (SE.str "twin"))) (SS.ret (SE.lcM (SI.zip (SL.cons (SE.var 2) (SL.cons (SE.var 3) SL.nil))) (ST.tup (STs.cons (ST.name 4) (STs.cons (ST.name 5) STs.nil))) SB.yes (SE.call F_law_added (SL.cons (SE.var 0) (SL.cons (SE.var 4) (SL.cons (SE.var 5) SL.nil)))))) SS.nil)
def S_law_row_v4_1 : SS := (SS.ret (SE.lcM (SI.zip (SL.cons (SE.var 2) (SL.cons (SE.var 3) SL.nil))) (ST.tup (STs.cons (ST.name 4) (STs.cons (ST.name 5) STs.nil))) SB.yes (SE.call F_law_added (SL.cons (SE.var 0) (SL.cons (SE.var 4) (SL.cons (SE.call F_law_minus_v3 (SL.cons (SE.var 0) (SL.cons (SE.var 5) SL.nil))) SL.nil))))))
def B_law_row_v4 : SS := (SS.seq (S_law_row_v4_0) (S_law_row_v4_1))
def F_law_row_v4 : FSem := runDef B_law_row_v4 6 4
def L_law_pairs_v2_0 : SS := (SS.seq (SS.set 3 (SE.listRg2 (SE.op oAdd (SE.var 2) (SE.int 1)) (SE.cb bLen (SL.cons (SE.var 0) SL.nil))))
      (SS.set 1 (SE.op oAdd (SE.var 1) (SE.lc (SI.seq (SE.var 3)) (ST.name 4) (SB.test (SE.op oEq (SE.ix (SE.var 0) (SE.var 4)) (SE.ix (SE.var 0) (SE.var 2)))) (SE.tup (SL.cons (SE.var 2) (SL.cons (SE.var 4) SL.nil)))))))
def S_law_pairs_v2_0 : SS := (SS.set 1 (SE.lst SL.nil))
def S_law_pairs_v2_1 : SS := (SS.forS (SI.rng1 (SL.cons (SE.cb bLen (SL.cons (SE.var 0) SL.nil)) SL.nil)) (ST.name 2) (L_law_pairs_v2_0))
def S_law_pairs_v2_2 : SS := (SS.ret (SE.var 1))
def B_law_pairs_v2 : SS := (SS.seq (S_law_pairs_v2_0) (SS.seq (S_law_pairs_v2_1) (S_law_pairs_v2_2)))
def F_law_pairs_v2 : FSem := runDef B_law_pairs_v2 5 1
def S_law_sort_0 : SS := (SS.ret (SE.ix (SE.lst (SL.cons (SE.str "swap") (SL.cons (SE.str "twin") SL.nil))) (SE.callG F_law_random (SL.cons (SE.var 0) (SL.cons (SE.int 2) SL.nil)))))
def B_law_sort : SS := (S_law_sort_0)
def F_law_sort : FSem := runDef B_law_sort 1 1
def S_law_groups_v2_0 : SS := (SS.set 0 (SE.lst (SL.cons (SE.tup (SL.cons (SE.int 2) SL.nil)) (SL.cons (SE.tup (SL.cons (SE.int 3) SL.nil)) (SL.cons (SE.tup (SL.cons (SE.int 4) SL.nil)) (SL.cons (SE.tup (SL.cons (SE.int 2) (SL.cons (SE.int 2) SL.nil))) (SL.cons (SE.tup (SL.cons (SE.int 5) SL.nil)) (SL.cons (SE.tup (SL.cons (SE.int 6) SL.nil)) (SL.cons (SE.tup (SL.cons (SE.int 2) (SL.cons (SE.int 3) SL.nil))) (SL.cons (SE.tup (SL.cons (SE.int 7) SL.nil)) (SL.cons (SE.tup (SL.cons (SE.int 8) SL.nil)) (SL.cons (SE.tup (SL.cons (SE.int 2) (SL.cons (SE.int 4) SL.nil))) (SL.cons (SE.tup (SL.cons (SE.int 2) (SL.cons (SE.int 2) (SL.cons (SE.int 2) SL.nil)))) SL.nil)))))))))))))
def S_law_groups_v2_1 : SS := (SS.ret (SE.op oAdd (SE.var 0) (SE.lst (SL.cons (SE.tup (SL.cons (SE.int 9) SL.nil)) (SL.cons (SE.tup (SL.cons (SE.int 3) (SL.cons (SE.int 3) SL.nil))) (SL.cons (SE.tup (SL.cons (SE.int 10) SL.nil)) (SL.cons (SE.tup (SL.cons (SE.int 2) (SL.cons (SE.int 5) SL.nil))) (SL.cons (SE.tup (SL.cons (SE.int 12) SL.nil)) (SL.cons (SE.tup (SL.cons (SE.int 2) (SL.cons (SE.int 6) SL.nil))) SL.nil)))))))))
def B_law_groups_v2 : SS := (SS.seq (S_law_groups_v2_0) (S_law_groups_v2_1))
def F_law_groups_v2 : FSem := runDef B_law_groups_v2 1 0
def S_law_group_v6_0 : SS := (SS.set 2 (SE.lc (SI.seq (SE.call F_law_groups_v2 SL.nil)) (ST.name 3) (SB.test (SE.op oLe (SE.call F_law_size_v4 (SL.cons (SE.var 3) SL.nil)) (SE.var 1))) (SE.var 3)))
def S_law_group_v6_1 : SS := (SS.ret (SE.ix (SE.var 2) (SE.callG F_law_random (SL.cons (SE.var 0) (SL.cons (SE.cb bLen (SL.cons (SE.var 2) SL.nil)) SL.nil)))))
def B_law_group_v6 : SS := (SS.seq (S_law_group_v6_0) (S_law_group_v6_1))
def F_law_group_v6 : FSem := runDef B_law_group_v6 4 2
def S_law_sizes_v2_0 : SS := (SS.ret (SE.revM (SE.cb bSorted (SL.cons (SE.lc (SI.seq (SE.un oSortSet (SE.var 0))) (ST.name 1) SB.yes (SE.count (SE.var 0) (SE.var 1))) SL.nil))))
def B_law_sizes_v2 : SS := (S_law_sizes_v2_0)
def F_law_sizes_v2 : FSem := runDef B_law_sizes_v2 2 1
end D
end
section
set_option maxRecDepth 100000
set_option maxHeartbeats 0
namespace D
open PySem PySem.Spec PyProof.Rows L2 G N
def S_law_right_v224_0 : SS := (SS.par 1 2 (SL.cons (SE.callG F_law_group_v6 (SL.cons (SE.var 0) (SL.cons (SE.int 12) SL.nil))) (SL.cons (SE.callG F_law_sort (SL.cons (SE.var 0) SL.nil)) SL.nil)))
def S_law_right_v224_1 : SS := (SS.set 3 (SE.callG F_law_table_v3 (SL.cons (SE.var 0) (SL.cons (SE.var 1) SL.nil))))
def S_law_right_v224_2 : SS := (SS.set 4 (SE.ifx (SB.test (SE.op oGt (SE.callG F_law_random (SL.cons (SE.var 0) (SL.cons (SE.int 4) SL.nil))) (SE.int 0))) (SE.callG F_law_table_v3 (SL.cons (SE.var 0) (SL.cons (SE.var 1) SL.nil))) (SE.cb bList (SL.cons (SE.var 3) SL.nil))))
def S_law_right_v224_3 : SS := (SS.set 5 (SE.call F_law_row_v4 (SL.cons (SE.var 1) (SL.cons (SE.var 2) (SL.cons (SE.var 3) (SL.cons (SE.var 4) SL.nil))))))
def S_law_right_v224_4 : SS := (SS.set 6 (SE.cb bRepr (SL.cons (SE.lst (SL.cons (SE.var 3) (SL.cons (SE.var 4) (SL.cons (SE.var 5) SL.nil)))) SL.nil)))
def S_law_right_v224_5 : SS := (SS.par 7 8 (SL.cons (SE.call F_law_pairs_v2 (SL.cons (SE.var 5) SL.nil)) (SL.cons (SE.callM F_passing_pairs_v4 (SL.cons (SE.var 1) (SL.cons (SE.var 2) (SL.cons (SE.var 3) (SL.cons (SE.var 4) SL.nil))))) SL.nil)))
def S_law_right_v224_6 : SS := (SS.ite (SB.or (SB.test (SE.op oNe (SE.cb bRepr (SL.cons (SE.var 8) SL.nil)) (SE.cb bRepr (SL.cons (SE.var 7) SL.nil)))) (SB.test (SE.op oNe (SE.cb bRepr (SL.cons (SE.call F_sizes_of_v3 (SL.cons (SE.var 1) (SL.cons (SE.var 5) SL.nil))) SL.nil)) (SE.cb bRepr (SL.cons (SE.call F_law_sizes_v2 (SL.cons (SE.var 5) SL.nil)) SL.nil))))) (SS.ret (SE.bl false)) SS.nil)
def S_law_right_v224_7 : SS := (SS.drop (SE.app (SE.var 8) (SE.int 7)))
def S_law_right_v224_8 : SS := (SS.ite (SB.test (SE.op oNe (SE.cb bLen (SL.cons (SE.var 7) SL.nil)) (SE.cb bSum (SL.cons (SE.lc (SI.seq (SE.call F_law_sizes_v2 (SL.cons (SE.var 5) SL.nil))) (ST.name 9) SB.yes (SE.op oFdiv (SE.op oMul (SE.var 9) (SE.op oSub (SE.var 9) (SE.int 1))) (SE.int 2))) SL.nil)))) (SS.ret (SE.bl false)) SS.nil)
def S_law_right_v224_9 : SS := (SS.set 8 (SE.lstM (SL.cons (SE.callK F_passing_pairs_v4 [3, 2, 1, 0] (SL.cons (SE.var 4) (SL.cons (SE.var 3) (SL.cons (SE.var 2) (SL.cons (SE.var 1) SL.nil))))) SL.nil)))
def S_law_right_v224_10 : SS := (SS.set 8 (SE.addM (SE.frz (SE.var 8)) (SE.lst (SL.cons (SE.call F_how_many_pass_v3 (SL.cons (SE.var 1) (SL.cons (SE.var 2) (SL.cons (SE.var 3) (SL.cons (SE.var 4) SL.nil))))) SL.nil))))
def S_law_right_v224_11 : SS := (SS.set 8 (SE.addM (SE.frz (SE.var 8)) (SE.lst (SL.cons (SE.callK F_how_many_pass_v3 [3, 2, 1, 0] (SL.cons (SE.var 4) (SL.cons (SE.var 3) (SL.cons (SE.var 2) (SL.cons (SE.var 1) SL.nil))))) SL.nil))))
def S_law_right_v224_12 : SS := (SS.ret (SE.andV (SE.op oEq (SE.cb bRepr (SL.cons (SE.var 8) SL.nil)) (SE.cb bRepr (SL.cons (SE.lst (SL.cons (SE.var 7) (SL.cons (SE.cb bLen (SL.cons (SE.var 7) SL.nil)) (SL.cons (SE.cb bLen (SL.cons (SE.var 7) SL.nil)) SL.nil)))) SL.nil))) (SE.op oEq (SE.cb bRepr (SL.cons (SE.lst (SL.cons (SE.var 3) (SL.cons (SE.var 4) (SL.cons (SE.var 5) SL.nil)))) SL.nil)) (SE.var 6))))
def B_law_right_v224 : SS := (SS.seq (S_law_right_v224_0) (SS.seq (S_law_right_v224_1) (SS.seq (S_law_right_v224_2) (SS.seq (S_law_right_v224_3) (SS.seq (S_law_right_v224_4) (SS.seq (S_law_right_v224_5) (SS.seq (S_law_right_v224_6) (SS.seq (S_law_right_v224_7) (SS.seq (S_law_right_v224_8) (SS.seq (S_law_right_v224_9) (SS.seq (S_law_right_v224_10) (SS.seq (S_law_right_v224_11) (S_law_right_v224_12)))))))))))))
def F_law_right_v224 : FSem := runDef B_law_right_v224 10 1
def L_law_v346_0 : SS := (SS.ite (SB.not (SB.val (SE.callG F_law_right_v224 (SL.cons (SE.callM F_law_generator (SL.cons (SE.var 0) (SL.cons (SE.var 1) SL.nil))) SL.nil)))) (SS.ret (SE.bl false)) SS.nil)
def S_law_v346_0 : SS := (SS.forS (SI.rng1 (SL.cons (SE.int 4) SL.nil)) (ST.name 1) (L_law_v346_0))
def S_law_v346_1 : SS := (SS.set 2 (SE.lst (SL.cons (SE.call F_passing_pairs_v4 (SL.cons (SE.tup (SL.cons (SE.int 3) SL.nil)) (SL.cons (SE.str "swap") (SL.cons (SE.lst (SL.cons (SE.int 0) (SL.cons (SE.int 1) (SL.cons (SE.int 2) SL.nil)))) (SL.cons (SE.lst (SL.cons (SE.int 0) (SL.cons (SE.int 1) (SL.cons (SE.int 2) SL.nil)))) SL.nil))))) (SL.cons (SE.call F_how_many_pass_v3 (SL.cons (SE.tup (SL.cons (SE.int 3) SL.nil)) (SL.cons (SE.str "twin") (SL.cons (SE.lst (SL.cons (SE.int 0) (SL.cons (SE.int 1) (SL.cons (SE.int 2) SL.nil)))) (SL.cons (SE.lst (SL.cons (SE.int 0) (SL.cons (SE.int 1) (SL.cons (SE.int 2) SL.nil)))) SL.nil))))) SL.nil))))
def S_law_v346_2 : SS := (SS.set 2 (SE.op oAdd (SE.var 2) (SE.lst (SL.cons (SE.call F_how_many_pass_v3 (SL.cons (SE.tup (SL.cons (SE.int 2) (SL.cons (SE.int 2) SL.nil))) (SL.cons (SE.str "swap") (SL.cons (SE.lst (SL.cons (SE.int 0) (SL.cons (SE.int 1) (SL.cons (SE.int 2) (SL.cons (SE.int 3) SL.nil))))) (SL.cons (SE.lst (SL.cons (SE.int 0) (SL.cons (SE.int 1) (SL.cons (SE.int 2) (SL.cons (SE.int 3) SL.nil))))) SL.nil))))) SL.nil))))
def S_law_v346_3 : SS := (SS.set 2 (SE.op oAdd (SE.var 2) (SE.lst (SL.cons (SE.call F_how_many_pass_v3 (SL.cons (SE.tup (SL.cons (SE.int 2) (SL.cons (SE.int 2) SL.nil))) (SL.cons (SE.str "twin") (SL.cons (SE.lst (SL.cons (SE.int 0) (SL.cons (SE.int 1) (SL.cons (SE.int 2) (SL.cons (SE.int 3) SL.nil))))) (SL.cons (SE.lst (SL.cons (SE.int 3) (SL.cons (SE.int 2) (SL.cons (SE.int 1) (SL.cons (SE.int 0) SL.nil))))) SL.nil))))) SL.nil))))
def S_law_v346_4 : SS := (SS.ret (SE.op oEq (SE.cb bRepr (SL.cons (SE.var 2) SL.nil)) (SE.cb bRepr (SL.cons (SE.lst (SL.cons (SE.lst (SL.cons (SE.tup (SL.cons (SE.int 0) (SL.cons (SE.int 1) SL.nil))) (SL.cons (SE.tup (SL.cons (SE.int 0) (SL.cons (SE.int 2) SL.nil))) (SL.cons (SE.tup (SL.cons (SE.int 1) (SL.cons (SE.int 2) SL.nil))) SL.nil)))) (SL.cons (SE.int 0) (SL.cons (SE.int 6) (SL.cons (SE.int 6) SL.nil))))) SL.nil))))
def B_law_v346 : SS := (SS.seq (S_law_v346_0) (SS.seq (S_law_v346_1) (SS.seq (S_law_v346_2) (SS.seq (S_law_v346_3) (S_law_v346_4)))))
def F_law_v346 : FSem := runDef B_law_v346 3 1
end D
end
section
set_option maxRecDepth 100000
set_option maxHeartbeats 0
namespace K29
open PySem PySem.Spec PyProof.Rows L2 G N
structure Bi (mg : Str → Option Value) : Prop where
  all : mg "all" = none
  bool : mg "bool" = none
  int : mg "int" = none
  isinstance : mg "isinstance" = none
  len : mg "len" = none
  list : mg "list" = none
  max : mg "max" = none
  range : mg "range" = none
  repr : mg "repr" = none
  reversed : mg "reversed" = none
  set : mg "set" = none
  sorted : mg "sorted" = none
  sum : mg "sum" = none
  tuple : mg "tuple" = none
  zip : mg "zip" = none
theorem sc_is_whole : FnScope ["value"] ["value"] (defScope s_is_whole) := ⟨rfl, rfl, rfl, by decide +kernel, rfl, by decide +kernel, by decide +kernel⟩
theorem ok_is_whole {P : Program} {w : World} {C : N.Ctx} {mg : Str → Option Value} {base : Heap} (B : Bi mg) (sm : smB C.K = true) (h : Has C.K mg "is_whole" s_is_whole ["value"]) :
    Cal P w C.K mg base 1 "is_whole" ["value"] (spN C false D.F_is_whole) :=
  has_m (N := ["value"]) (ps := ["value"]) h sc_is_whole fun f cdv A outer s H E hg hr =>
    ⟨_, (pss_one (ps_ret (pe_and (pe_callB (isiK C.K) (by rfl) B.isinstance (by decide +kernel) (pa_cons (pv 0) (pa_cons (pe_bltn (v := .ty "int") (by rfl) B.int (by decide +kernel) rfl) pa_nil))) (pe_one (pe_not (pe_callB (isiK C.K) (by rfl) B.isinstance (by decide +kernel) (pa_cons (pv 0) (pa_cons (pe_bltn (v := .ty "bool") (by rfl) B.bool (by decide +kernel) rfl) pa_nil)))))))), by kernel_rfl⟩
theorem sc_size_of : FnScope ["orders", "many", "order"] ["orders"] (defScope s_size_of) := ⟨rfl, rfl, rfl, by decide +kernel, rfl, by decide +kernel, by decide +kernel⟩
theorem ok_size_of {P : Program} {w : World} {C : N.Ctx} {mg : Str → Option Value} {base : Heap} (B : Bi mg) (sm : smB C.K = true) (h : Has C.K mg "size_of" s_size_of ["orders"]) :
    Cal P w C.K mg base 1 "size_of" ["orders"] (spN C false D.F_size_of) :=
  has_m (N := ["orders", "many", "order"]) (ps := ["orders"]) h sc_size_of fun f cdv A outer s H E hg hr =>
    ⟨_, (pss_cons (ps_set (i := 1) sc_size_of.nd rfl (by first | exact Or.inl rfl | exact Or.inr rfl) pe_int)
      (pss_cons (ps_for PassesOwn.never rfl (pi_or (pi_listK C.K (pv 0)) (pi_tupK C.K (pv 0))) (pg_name (i := 2) sc_size_of.nd rfl (by first | exact Or.inl rfl | exact Or.inr rfl)) (pss_one (ps_set (i := 1) sc_size_of.nd rfl (by first | exact Or.inl rfl | exact Or.inr rfl) (pe_op op_mulA (pv 1) (pv 2)))))
      (pss_one (ps_ret (pv 1))))), by kernel_rfl⟩
theorem sc_plus : FnScope ["orders", "member", "other", "total", "worth", "order"] ["orders", "member", "other"] (defScope s_plus) := ⟨rfl, rfl, rfl, by decide +kernel, rfl, by decide +kernel, by decide +kernel⟩
theorem ok_plus {P : Program} {w : World} {C : N.Ctx} {mg : Str → Option Value} {base : Heap} (B : Bi mg) (sm : smB C.K = true) (h : Has C.K mg "plus" s_plus ["orders", "member", "other"]) :
    Cal P w C.K mg base 1 "plus" ["orders", "member", "other"] (spN C false D.F_plus) :=
  has_m (N := ["orders", "member", "other", "total", "worth", "order"]) (ps := ["orders", "member", "other"]) h sc_plus fun f cdv A outer s H E hg hr =>
    ⟨_, (pss_cons (ps_asg (pe_tup (pa_cons pe_int (pa_cons pe_int pa_nil))) (pg_tup rfl (pgs_cons (pg_name (i := 3) sc_plus.nd rfl (by first | exact Or.inl rfl | exact Or.inr rfl)) (pgs_cons (pg_name (i := 4) sc_plus.nd rfl (by first | exact Or.inl rfl | exact Or.inr rfl)) pgs_nil))))
      (pss_cons (ps_for PassesOwn.never rfl (pi_revK C.K (by rfl) B.reversed (pv 0)) (pg_name (i := 5) sc_plus.nd rfl (by first | exact Or.inl rfl | exact Or.inr rfl)) (pss_cons (ps_set (i := 3) sc_plus.nd rfl (by first | exact Or.inl rfl | exact Or.inr rfl) (pe_op (addK C.K) (pv 3) (pe_op op_mulA (pe_op op_modN (pe_op (addK C.K) (pv 1) (pv 2)) (pv 5)) (pv 4))))
      (pss_one (ps_par3 (i := 1) (j := 2) (l := 4) rfl sc_plus.nd rfl rfl rfl (by decide) (by decide) (by decide) rfl rfl rfl (pa_cons (pe_op op_fdivW (pv 1) (pv 5)) (pa_cons (pe_op op_fdivW (pv 2) (pv 5)) (pa_cons (pe_op op_mulA (pv 4) (pv 5)) pa_nil))) (by rfl)))))
      (pss_one (ps_ret (pv 3))))), by kernel_rfl⟩
theorem sc_minus : FnScope ["orders", "member", "other", "total", "worth", "order"] ["orders", "member", "other"] (defScope s_minus) := ⟨rfl, rfl, rfl, by decide +kernel, rfl, by decide +kernel, by decide +kernel⟩
theorem ok_minus {P : Program} {w : World} {C : N.Ctx} {mg : Str → Option Value} {base : Heap} (B : Bi mg) (sm : smB C.K = true) (h : Has C.K mg "minus" s_minus ["orders", "member", "other"]) :
    Cal P w C.K mg base 1 "minus" ["orders", "member", "other"] (spN C false D.F_minus) :=
  has_m (N := ["orders", "member", "other", "total", "worth", "order"]) (ps := ["orders", "member", "other"]) h sc_minus fun f cdv A outer s H E hg hr =>
    ⟨_, (pss_cons (ps_asg (pe_tup (pa_cons pe_int (pa_cons pe_int pa_nil))) (pg_tup rfl (pgs_cons (pg_name (i := 3) sc_minus.nd rfl (by first | exact Or.inl rfl | exact Or.inr rfl)) (pgs_cons (pg_name (i := 4) sc_minus.nd rfl (by first | exact Or.inl rfl | exact Or.inr rfl)) pgs_nil))))
      (pss_cons (ps_for PassesOwn.never rfl (pi_revK C.K (by rfl) B.reversed (pv 0)) (pg_name (i := 5) sc_minus.nd rfl (by first | exact Or.inl rfl | exact Or.inr rfl)) (pss_cons (ps_set (i := 3) sc_minus.nd rfl (by first | exact Or.inl rfl | exact Or.inr rfl) (pe_op (addK C.K) (pv 3) (pe_op op_mulA (pe_op op_modN (pe_op op_sub (pv 1) (pv 2)) (pv 5)) (pv 4))))
      (pss_one (ps_par3 (i := 1) (j := 2) (l := 4) rfl sc_minus.nd rfl rfl rfl (by decide) (by decide) (by decide) rfl rfl rfl (pa_cons (pe_op op_fdivW (pv 1) (pv 5)) (pa_cons (pe_op op_fdivW (pv 2) (pv 5)) (pa_cons (pe_op op_mulA (pv 4) (pv 5)) pa_nil))) (by rfl)))))
      (pss_one (ps_ret (pv 3))))), by kernel_rfl⟩
theorem sc_times_each : FnScope ["row", "times", "entry"] ["row"] (defScope s_times_each) := ⟨rfl, rfl, rfl, by decide +kernel, rfl, by decide +kernel, by decide +kernel⟩
theorem ok_times_each {P : Program} {w : World} {C : N.Ctx} {mg : Str → Option Value} {base : Heap} (B : Bi mg) (sm : smB C.K = true) (h : Has C.K mg "times_each" s_times_each ["row"]) :
    Cal P w C.K mg base 1 "times_each" ["row"] (spN C false D.F_times_each_v2) :=
  has_m (N := ["row", "times", "entry"]) (ps := ["row"]) h sc_times_each fun f cdv A outer s H E hg hr =>
    ⟨_, (pss_cons (ps_set (i := 1) sc_times_each.nd rfl (by first | exact Or.inl rfl | exact Or.inr rfl) pe_dnewK)
      (pss_cons (ps_for PassesOwn.never rfl (pi_or (pi_listK C.K (pv 0)) (pi_tupK C.K (pv 0))) (pg_name (i := 2) sc_times_each.nd rfl (by first | exact Or.inl rfl | exact Or.inr rfl)) (pss_one (ps_dput (hu_of hr) (pv 1) (pv 2) (pe_op (addK C.K) (pe_dget2 (hu_of hr) (pv 1) (pv 2) pe_int ⟨rfl, rfl, rfl, rfl⟩) pe_int) rfl)))
      (pss_one (ps_ret (pv 1))))), by kernel_rfl⟩
theorem sc_how_many_pairs : FnScope ["sizes", "many"] ["sizes"] (defScope s_how_many_pairs) := ⟨rfl, rfl, rfl, by decide +kernel, rfl, by decide +kernel, by decide +kernel⟩
theorem ok_how_many_pairs {P : Program} {w : World} {C : N.Ctx} {mg : Str → Option Value} {base : Heap} (B : Bi mg) (sm : smB C.K = true) (h : Has C.K mg "how_many_pairs" s_how_many_pairs ["sizes"]) :
    Cal P w C.K mg base 1 "how_many_pairs" ["sizes"] (spN C false D.F_how_many_pairs) :=
  has_m (N := ["sizes", "many"]) (ps := ["sizes"]) h sc_how_many_pairs fun f cdv A outer s H E hg hr =>
    ⟨_, (pss_one (ps_ret (pe_callB (sumK C.K rfl) (by rfl) B.sum (by decide +kernel) (pa_cons (pe_lc (own := [("many", 1)]) rfl sc_how_many_pairs.nd (pi_or (pi_listK C.K (pv 0)) (pi_tupK C.K (pv 0))) (blkOk_by (N := ["sizes", "many"]) (sc := defScope s_how_many_pairs) (own := [("many", 1)]) (by decide +kernel)) (fun _ _ _ _ _ => (pg_name (i := 1) sc_how_many_pairs.nd rfl (by first | exact Or.inl rfl | exact Or.inr rfl))) (fun _ _ _ _ _ => pts_nil) (fun _ _ _ _ _ => (pe_op op_fdivW (pe_op op_mulA (pv 1) (pe_op op_sub (pv 1) pe_int)) pe_int))) pa_nil)))), by kernel_rfl⟩
theorem sc_equal_pairs : FnScope ["row", "one", "two"] ["row"] (defScope s_equal_pairs) := ⟨rfl, rfl, rfl, by decide +kernel, rfl, by decide +kernel, by decide +kernel⟩
theorem ok_equal_pairs {P : Program} {w : World} {C : N.Ctx} {mg : Str → Option Value} {base : Heap} (B : Bi mg) (sm : smB C.K = true) (h : Has C.K mg "equal_pairs" s_equal_pairs ["row"]) :
    Cal P w C.K mg base 1 "equal_pairs" ["row"] (spN C false D.F_equal_pairs_v2) :=
  has_m (N := ["row", "one", "two"]) (ps := ["row"]) h sc_equal_pairs fun f cdv A outer s H E hg hr =>
    ⟨_, (pss_one (ps_ret (pe_lc2 (own := [("one", 1), ("two", 2)]) (vs1 := [2]) rfl sc_equal_pairs.nd (pi_range1 (by rfl) B.range (pa_cons (pe_callB (lenA C.K) (by rfl) B.len PySem.boot_len (pa_cons (pv 0) pa_nil)) pa_nil)) (blkOk_by (N := ["row", "one", "two"]) (sc := defScope s_equal_pairs) (own := [("one", 1), ("two", 2)]) (by decide +kernel)) (by decide) (fun _ _ _ _ _ => (pg_name (i := 1) sc_equal_pairs.nd rfl (by first | exact Or.inl rfl | exact Or.inr rfl))) (fun _ _ _ _ _ => pts_nil) (fun _ _ _ _ _ => (pi_range2 (by rfl) B.range (pa_cons (pe_op (addK C.K) (pv 1) pe_int) (pa_cons (pe_callB (lenA C.K) (by rfl) B.len PySem.boot_len (pa_cons (pv 0) pa_nil)) pa_nil)))) (fun _ _ _ _ _ => (pg_name (i := 2) sc_equal_pairs.nd rfl (by first | exact Or.inl rfl | exact Or.inr rfl))) (fun _ _ _ _ _ => pts_one (pt_cmpR (eqRK C.K hr) (pe_ix (ixK C.K) (pv 0) (pv 1) (fun _ _ => rfl)) (pe_ix (ixK C.K) (pv 0) (pv 2) (fun _ _ => rfl)) (nomark _))) (fun _ _ _ _ _ => (pe_tup (pa_cons (pv 1) (pa_cons (pv 2) pa_nil))))))), by kernel_rfl⟩
theorem sc_check_wish_kind : FnScope ["kind"] ["kind"] (defScope s_check_wish_kind) := ⟨rfl, rfl, rfl, by decide +kernel, rfl, by decide +kernel, by decide +kernel⟩
theorem ok_check_wish_kind {P : Program} {w : World} {C : N.Ctx} {mg : Str → Option Value} {base : Heap} (B : Bi mg) (sm : smB C.K = true) (g_KINDS : GTup mg C.K "KINDS" [.str "swap", .str "twin"]) (h : Has C.K mg "check_wish_kind" s_check_wish_kind ["kind"]) :
    Cal P w C.K mg base 1 "check_wish_kind" ["kind"] (spN C false D.F_check_wish_kind) :=
  has_m (N := ["kind"]) (ps := ["kind"]) h sc_check_wish_kind fun f cdv A outer s H E hg hr =>
    ⟨_, (pss_one (ps_if (pt_cmpR (ninEK C.K hr) (pv 0) (pe_gtup (by rfl) g_KINDS) (by rfl)) (pss_one ps_never) pss_nil)), by kernel_rfl⟩
theorem sc_law_hash : FnScope ["seed", "index", "mixed"] ["seed", "index"] (defScope s_law_hash) := ⟨rfl, rfl, rfl, by decide +kernel, rfl, by decide +kernel, by decide +kernel⟩
theorem ok_law_hash {P : Program} {w : World} {C : N.Ctx} {mg : Str → Option Value} {base : Heap} (B : Bi mg) (sm : smB C.K = true) (h : Has C.K mg "_law_hash" s_law_hash ["seed", "index"]) :
    Cal P w C.K mg base 1 "_law_hash" ["seed", "index"] (spN C false D.F_law_hash) :=
  has_m (N := ["seed", "index", "mixed"]) (ps := ["seed", "index"]) h sc_law_hash fun f cdv A outer s H E hg hr =>
    ⟨_, (pss_cons (ps_set (i := 2) sc_law_hash.nd rfl (by first | exact Or.inl rfl | exact Or.inr rfl) (pe_op op_modN (pe_callTy call_int1 (by rfl) B.int (by decide +kernel) (pa_cons (pe_op (addK C.K) (pe_op (addK C.K) (pe_op (addK C.K) (pe_op op_mulA (pv 0) pe_int) (pe_op op_mulA (pe_op op_mulA pe_int (pv 1)) (pv 1))) (pe_op op_mulA pe_int (pv 1))) pe_int) pa_nil)) pe_int))
      (pss_cons (ps_set (i := 2) sc_law_hash.nd rfl (by first | exact Or.inl rfl | exact Or.inr rfl) (pe_op op_modN (pe_callTy call_int1 (by rfl) B.int (by decide +kernel) (pa_cons (pe_op (addK C.K) (pe_op (addK C.K) (pe_op op_mulA (pv 2) (pv 2)) (pe_op op_mulA pe_int (pv 1))) pe_int) pa_nil)) pe_int))
      (pss_one (ps_ret (pe_op op_modN (pe_callTy call_int1 (by rfl) B.int (by decide +kernel) (pa_cons (pe_op op_mulA (pv 2) pe_int) pa_nil)) pe_int))))), by kernel_rfl⟩
theorem sc_law_cell : FnScope ["script", "index"] ["script", "index"] (defScope s_law_cell) := ⟨rfl, rfl, rfl, by decide +kernel, rfl, by decide +kernel, by decide +kernel⟩
theorem ok_law_cell {P : Program} {w : World} {C : N.Ctx} {mg : Str → Option Value} {base : Heap} (B : Bi mg) (sm : smB C.K = true) (h : Has C.K mg "_law_cell" s_law_cell ["script", "index"]) :
    Cal P w C.K mg base 1 "_law_cell" ["script", "index"] (spN C false D.F_law_cell) :=
  has_m (N := ["script", "index"]) (ps := ["script", "index"]) h sc_law_cell fun f cdv A outer s H E hg hr =>
    ⟨_, (pss_cons (ps_if (pt_cmpR op_lt (pv 1) (pe_callB (lenA C.K) (by rfl) B.len PySem.boot_len (pa_cons (pv 0) pa_nil)) (nomark _)) (pss_one (ps_ret (pe_ix (ixK C.K) (pv 0) (pv 1) (fun _ _ => rfl)))) pss_nil)
      (pss_one (ps_ret (pe_op op_modN (pe_callB (sumK C.K rfl) (by rfl) B.sum (by decide +kernel) (pa_cons (pe_slice (slB C.K) (pv 0) po_none (po_some pe_int)) pa_nil)) pe_int)))), by kernel_rfl⟩
theorem sc_law_groups : FnScope ["found"] [] (defScope s_law_groups) := ⟨rfl, rfl, rfl, by decide +kernel, rfl, by decide +kernel, by decide +kernel⟩
theorem ok_law_groups {P : Program} {w : World} {C : N.Ctx} {mg : Str → Option Value} {base : Heap} (B : Bi mg) (sm : smB C.K = true) (h : Has C.K mg "_law_groups" s_law_groups []) :
    Cal P w C.K mg base 1 "_law_groups" [] (spN C false D.F_law_groups_v2) :=
  has_m (N := ["found"]) (ps := []) h sc_law_groups fun f cdv A outer s H E hg hr =>
    ⟨_, (pss_cons (ps_set (i := 0) sc_law_groups.nd rfl (by first | exact Or.inl rfl | exact Or.inr rfl) (pe_lst (pa_cons (pe_tup (pa_cons pe_int pa_nil)) (pa_cons (pe_tup (pa_cons pe_int pa_nil)) (pa_cons (pe_tup (pa_cons pe_int pa_nil)) (pa_cons (pe_tup (pa_cons pe_int (pa_cons pe_int pa_nil))) (pa_cons (pe_tup (pa_cons pe_int pa_nil)) (pa_cons (pe_tup (pa_cons pe_int pa_nil)) (pa_cons (pe_tup (pa_cons pe_int (pa_cons pe_int pa_nil))) (pa_cons (pe_tup (pa_cons pe_int pa_nil)) (pa_cons (pe_tup (pa_cons pe_int pa_nil)) (pa_cons (pe_tup (pa_cons pe_int (pa_cons pe_int pa_nil))) (pa_cons (pe_tup (pa_cons pe_int (pa_cons pe_int (pa_cons pe_int pa_nil)))) pa_nil)))))))))))))
      (pss_one (ps_ret (pe_op (addK C.K) (pv 0) (pe_lst (pa_cons (pe_tup (pa_cons pe_int pa_nil)) (pa_cons (pe_tup (pa_cons pe_int (pa_cons pe_int pa_nil))) (pa_cons (pe_tup (pa_cons pe_int pa_nil)) (pa_cons (pe_tup (pa_cons pe_int (pa_cons pe_int pa_nil))) (pa_cons (pe_tup (pa_cons pe_int pa_nil)) (pa_cons (pe_tup (pa_cons pe_int (pa_cons pe_int pa_nil))) pa_nil))))))))))), by kernel_rfl⟩
theorem sc_law_size : FnScope ["orders", "found", "order"] ["orders"] (defScope s_law_size) := ⟨rfl, rfl, rfl, by decide +kernel, rfl, by decide +kernel, by decide +kernel⟩
theorem ok_law_size {P : Program} {w : World} {C : N.Ctx} {mg : Str → Option Value} {base : Heap} (B : Bi mg) (sm : smB C.K = true) (h : Has C.K mg "_law_size" s_law_size ["orders"]) :
    Cal P w C.K mg base 1 "_law_size" ["orders"] (spN C false D.F_law_size_v4) :=
  has_m (N := ["orders", "found", "order"]) (ps := ["orders"]) h sc_law_size fun f cdv A outer s H E hg hr =>
    ⟨_, (pss_cons (ps_set (i := 1) sc_law_size.nd rfl (by first | exact Or.inl rfl | exact Or.inr rfl) pe_int)
      (pss_cons (ps_for PassesOwn.never rfl (pi_or (pi_listK C.K (pv 0)) (pi_tupK C.K (pv 0))) (pg_name (i := 2) sc_law_size.nd rfl (by first | exact Or.inl rfl | exact Or.inr rfl)) (pss_one (ps_set (i := 1) sc_law_size.nd rfl (by first | exact Or.inl rfl | exact Or.inr rfl) (pe_op op_mulA (pv 1) (pv 2)))))
      (pss_one (ps_ret (pv 1))))), by kernel_rfl⟩
theorem sc_law_added : FnScope ["orders", "one", "other", "found", "worth", "order"] ["orders", "one", "other"] (defScope s_law_added) := ⟨rfl, rfl, rfl, by decide +kernel, rfl, by decide +kernel, by decide +kernel⟩
theorem ok_law_added {P : Program} {w : World} {C : N.Ctx} {mg : Str → Option Value} {base : Heap} (B : Bi mg) (sm : smB C.K = true) (h : Has C.K mg "_law_added" s_law_added ["orders", "one", "other"]) :
    Cal P w C.K mg base 1 "_law_added" ["orders", "one", "other"] (spN C false D.F_law_added) :=
  has_m (N := ["orders", "one", "other", "found", "worth", "order"]) (ps := ["orders", "one", "other"]) h sc_law_added fun f cdv A outer s H E hg hr =>
    ⟨_, (pss_cons (ps_asg (pe_tup (pa_cons pe_int (pa_cons pe_int pa_nil))) (pg_tup rfl (pgs_cons (pg_name (i := 3) sc_law_added.nd rfl (by first | exact Or.inl rfl | exact Or.inr rfl)) (pgs_cons (pg_name (i := 4) sc_law_added.nd rfl (by first | exact Or.inl rfl | exact Or.inr rfl)) pgs_nil))))
      (pss_cons (ps_for PassesOwn.never rfl (pi_or (pi_listK C.K (SE.revX (pv 0))) (pi_tupK C.K (SE.revX (pv 0)))) (pg_name (i := 5) sc_law_added.nd rfl (by first | exact Or.inl rfl | exact Or.inr rfl)) (pss_cons (ps_set (i := 3) sc_law_added.nd rfl (by first | exact Or.inl rfl | exact Or.inr rfl) (pe_op (addK C.K) (pv 3) (pe_op op_mulA (pe_op op_modN (pe_callTy call_int1 (by rfl) B.int (by decide +kernel) (pa_cons (pe_op (addK C.K) (pe_op op_modN (pe_callTy call_int1 (by rfl) B.int (by decide +kernel) (pa_cons (pv 1) pa_nil)) (pv 5)) (pe_op op_modN (pe_callTy call_int1 (by rfl) B.int (by decide +kernel) (pa_cons (pv 2) pa_nil)) (pv 5))) pa_nil)) (pv 5)) (pv 4))))
      (pss_one (ps_par3 (i := 1) (j := 2) (l := 4) rfl sc_law_added.nd rfl rfl rfl (by decide) (by decide) (by decide) rfl rfl rfl (pa_cons (pe_op op_fdivW (pv 1) (pv 5)) (pa_cons (pe_op op_fdivW (pv 2) (pv 5)) (pa_cons (pe_op op_mulA (pv 4) (pv 5)) pa_nil))) (by rfl)))))
      (pss_one (ps_ret (pv 3))))), by kernel_rfl⟩
theorem sc_law_minus : FnScope ["orders", "one", "found", "worth", "order"] ["orders", "one"] (defScope s_law_minus) := ⟨rfl, rfl, rfl, by decide +kernel, rfl, by decide +kernel, by decide +kernel⟩
theorem ok_law_minus {P : Program} {w : World} {C : N.Ctx} {mg : Str → Option Value} {base : Heap} (B : Bi mg) (sm : smB C.K = true) (h : Has C.K mg "_law_minus" s_law_minus ["orders", "one"]) :
    Cal P w C.K mg base 1 "_law_minus" ["orders", "one"] (spN C false D.F_law_minus_v3) :=
  has_m (N := ["orders", "one", "found", "worth", "order"]) (ps := ["orders", "one"]) h sc_law_minus fun f cdv A outer s H E hg hr =>
    ⟨_, (pss_cons (ps_asg (pe_tup (pa_cons pe_int (pa_cons pe_int pa_nil))) (pg_tup rfl (pgs_cons (pg_name (i := 2) sc_law_minus.nd rfl (by first | exact Or.inl rfl | exact Or.inr rfl)) (pgs_cons (pg_name (i := 3) sc_law_minus.nd rfl (by first | exact Or.inl rfl | exact Or.inr rfl)) pgs_nil))))
      (pss_cons (ps_for PassesOwn.never rfl (pi_or (pi_listK C.K (SE.revX (pv 0))) (pi_tupK C.K (SE.revX (pv 0)))) (pg_name (i := 4) sc_law_minus.nd rfl (by first | exact Or.inl rfl | exact Or.inr rfl)) (pss_cons (ps_set (i := 2) sc_law_minus.nd rfl (by first | exact Or.inl rfl | exact Or.inr rfl) (pe_op (addK C.K) (pv 2) (pe_op op_mulA (pe_op op_modN (pe_callTy call_int1 (by rfl) B.int (by decide +kernel) (pa_cons (pe_op op_sub (pv 4) (pe_op op_modN (pe_callTy call_int1 (by rfl) B.int (by decide +kernel) (pa_cons (pv 1) pa_nil)) (pv 4))) pa_nil)) (pv 4)) (pv 3))))
      (pss_one (ps_par (i := 1) (j := 3) rfl sc_law_minus.nd rfl rfl (by decide) rfl rfl (pa_cons (pe_op op_fdivW (pv 1) (pv 4)) (pa_cons (pe_op op_mulA (pv 3) (pv 4)) pa_nil)) (by rfl)))))
      (pss_one (ps_ret (pv 2))))), by kernel_rfl⟩
theorem sc_law_pairs : FnScope ["row", "found", "sign_told", "later", "other"] ["row"] (defScope s_law_pairs) := ⟨rfl, rfl, rfl, by decide +kernel, rfl, by decide +kernel, by decide +kernel⟩
theorem ok_law_pairs {P : Program} {w : World} {C : N.Ctx} {mg : Str → Option Value} {base : Heap} (B : Bi mg) (sm : smB C.K = true) (h : Has C.K mg "_law_pairs" s_law_pairs ["row"]) :
    Cal P w C.K mg base 1 "_law_pairs" ["row"] (spN C false D.F_law_pairs_v2) :=
  has_m (N := ["row", "found", "sign_told", "later", "other"]) (ps := ["row"]) h sc_law_pairs fun f cdv A outer s H E hg hr =>
    ⟨_, (pss_cons (ps_set (i := 1) sc_law_pairs.nd rfl (by first | exact Or.inl rfl | exact Or.inr rfl) (pe_lst pa_nil))
      (pss_cons (ps_for PassesOwn.never rfl (pi_range1 (by rfl) B.range (pa_cons (pe_callB (lenA C.K) (by rfl) B.len PySem.boot_len (pa_cons (pv 0) pa_nil)) pa_nil)) (pg_name (i := 2) sc_law_pairs.nd rfl (by first | exact Or.inl rfl | exact Or.inr rfl)) (pss_cons (ps_set (i := 3) sc_law_pairs.nd rfl (by first | exact Or.inl rfl | exact Or.inr rfl) (pe_listRg rfl (by rfl) B.list (prg_2 (by rfl) B.range (pe_op (addK C.K) (pv 2) pe_int) (pe_callB (lenA C.K) (by rfl) B.len PySem.boot_len (pa_cons (pv 0) pa_nil)))))
      (pss_one (ps_set (i := 1) sc_law_pairs.nd rfl (by first | exact Or.inl rfl | exact Or.inr rfl) (pe_op (addK C.K) (pv 1) (pe_lc (own := [("other", 4)]) rfl sc_law_pairs.nd (pi_or (pi_listK C.K (pv 3)) (pi_tupK C.K (pv 3))) (blkOk_by (N := ["row", "found", "sign_told", "later", "other"]) (sc := defScope s_law_pairs) (own := [("other", 4)]) (by decide +kernel)) (fun _ _ _ _ _ => (pg_name (i := 4) sc_law_pairs.nd rfl (by first | exact Or.inl rfl | exact Or.inr rfl))) (fun _ _ _ _ _ => pts_one (pt_cmpR (eqRK C.K hr) (pe_ix (ixK C.K) (pv 0) (pv 4) (fun _ _ => rfl)) (pe_ix (ixK C.K) (pv 0) (pv 2) (fun _ _ => rfl)) (nomark _))) (fun _ _ _ _ _ => (pe_tup (pa_cons (pv 2) (pa_cons (pv 4) pa_nil))))))))))
      (pss_one (ps_ret (pv 1))))), by kernel_rfl⟩
theorem sc_law_sizes : FnScope ["row", "member"] ["row"] (defScope s_law_sizes) := ⟨rfl, rfl, rfl, by decide +kernel, rfl, by decide +kernel, by decide +kernel⟩
theorem ok_law_sizes {P : Program} {w : World} {C : N.Ctx} {mg : Str → Option Value} {base : Heap} (B : Bi mg) (sm : smB C.K = true) (h : Has C.K mg "_law_sizes" s_law_sizes ["row"]) :
    Cal P w C.K mg base 1 "_law_sizes" ["row"] (spN C false D.F_law_sizes_v2) :=
  has_m (N := ["row", "member"]) (ps := ["row"]) h sc_law_sizes fun f cdv A outer s H E hg hr =>
    ⟨_, (pss_one (ps_ret (SE.revX (pe_callB (sortX C.K hr) (by rfl) B.sorted (by decide +kernel) (pa_cons (pe_lc (own := [("member", 1)]) rfl sc_law_sizes.nd (pi_or (pi_listK C.K (sortSetX C.K (by rfl) B.sorted (by rfl) B.set (pv 0))) (pi_tupK C.K (sortSetX C.K (by rfl) B.sorted (by rfl) B.set (pv 0)))) (blkOk_by (N := ["row", "member"]) (sc := defScope s_law_sizes) (own := [("member", 1)]) (by decide +kernel)) (fun _ _ _ _ _ => (pg_name (i := 1) sc_law_sizes.nd rfl (by first | exact Or.inl rfl | exact Or.inr rfl))) (fun _ _ _ _ _ => pts_nil) (fun _ _ _ _ _ => (bmK C.K PySem.F.plainAttrs_list PySem.F.slot_list_count PySem.F.type_list_count (countX C.K) (pv 0) (pa_cons (pv 1) pa_nil)))) pa_nil))))), by kernel_rfl⟩
theorem sc_is_from : FnScope ["value", "least"] ["value", "least"] (defScope s_is_from) := ⟨rfl, rfl, rfl, by decide +kernel, rfl, by decide +kernel, by decide +kernel⟩
theorem ok_is_from {P : Program} {w : World} {C : N.Ctx} {mg : Str → Option Value} {base : Heap} (B : Bi mg) (sm : smB C.K = true) (c_is_whole : Cal P w C.K mg base 1 "is_whole" ["value"] (spN C false D.F_is_whole)) (h : Has C.K mg "is_from" s_is_from ["value", "least"]) :
    Cal P w C.K mg base 2 "is_from" ["value", "least"] (spN C false D.F_is_from) :=
  has_m (N := ["value", "least"]) (ps := ["value", "least"]) h sc_is_from fun f cdv A outer s H E hg hr =>
    ⟨_, (pss_one (ps_ret (pe_and (pg_cal hg c_is_whole hr (by rfl) (pa_cons (pv 0) pa_nil)) (pe_one (pe_cmpR op_ge (pv 0) (pv 1) (nomark _)))))), by kernel_rfl⟩
theorem sc_is_below : FnScope ["value", "many"] ["value", "many"] (defScope s_is_below) := ⟨rfl, rfl, rfl, by decide +kernel, rfl, by decide +kernel, by decide +kernel⟩
theorem ok_is_below {P : Program} {w : World} {C : N.Ctx} {mg : Str → Option Value} {base : Heap} (B : Bi mg) (sm : smB C.K = true) (c_is_whole : Cal P w C.K mg base 1 "is_whole" ["value"] (spN C false D.F_is_whole)) (h : Has C.K mg "is_below" s_is_below ["value", "many"]) :
    Cal P w C.K mg base 2 "is_below" ["value", "many"] (spN C false D.F_is_below) :=
  has_m (N := ["value", "many"]) (ps := ["value", "many"]) h sc_is_below fun f cdv A outer s H E hg hr =>
    ⟨_, (pss_one (ps_ret (pe_and (pg_cal hg c_is_whole hr (by rfl) (pa_cons (pv 0) pa_nil)) (pe_one (pe_chain op_le op_lt pe_int (pv 0) (pv 1)))))), by kernel_rfl⟩
theorem sc_pluses : FnScope ["orders", "first", "second", "one", "two"] ["orders", "first", "second"] (defScope s_pluses) := ⟨rfl, rfl, rfl, by decide +kernel, rfl, by decide +kernel, by decide +kernel⟩
theorem ok_pluses {P : Program} {w : World} {C : N.Ctx} {mg : Str → Option Value} {base : Heap} (B : Bi mg) (sm : smB C.K = true) (c_plus : Cal P w C.K mg base 1 "plus" ["orders", "member", "other"] (spN C false D.F_plus)) (h : Has C.K mg "pluses" s_pluses ["orders", "first", "second"]) :
    Cal P w C.K mg base 2 "pluses" ["orders", "first", "second"] (spN C false D.F_pluses) :=
  has_m (N := ["orders", "first", "second", "one", "two"]) (ps := ["orders", "first", "second"]) h sc_pluses fun f cdv A outer s H E hg hr =>
    ⟨_, (pss_one (ps_ret (pe_lc (own := [("one", 3), ("two", 4)]) (g := (gTup C.K 2 (gCons (gName 3) (gCons (gName 4) gNil)))) rfl sc_pluses.nd (pi_zipK C.K (by rfl) B.zip (pa_cons (pv 1) (pa_cons (pv 2) pa_nil))) (blkOk_by (N := ["orders", "first", "second", "one", "two"]) (sc := defScope s_pluses) (own := [("one", 3), ("two", 4)]) (by decide +kernel)) (fun _ _ _ _ _ => (pg_tup rfl (pgs_cons (pg_name (i := 3) sc_pluses.nd rfl (by first | exact Or.inl rfl | exact Or.inr rfl)) (pgs_cons (pg_name (i := 4) sc_pluses.nd rfl (by first | exact Or.inl rfl | exact Or.inr rfl)) pgs_nil)))) (fun _ _ _ _ _ => pts_nil) (fun _ _ _ _ _ => (pg_cal hg c_plus hr (by rfl) (pa_cons (pv 0) (pa_cons (pv 3) (pa_cons (pv 4) pa_nil)))))))), by kernel_rfl⟩
theorem sc_minuses : FnScope ["orders", "first", "second", "one", "two"] ["orders", "first", "second"] (defScope s_minuses) := ⟨rfl, rfl, rfl, by decide +kernel, rfl, by decide +kernel, by decide +kernel⟩
theorem ok_minuses {P : Program} {w : World} {C : N.Ctx} {mg : Str → Option Value} {base : Heap} (B : Bi mg) (sm : smB C.K = true) (c_minus : Cal P w C.K mg base 1 "minus" ["orders", "member", "other"] (spN C false D.F_minus)) (h : Has C.K mg "minuses" s_minuses ["orders", "first", "second"]) :
    Cal P w C.K mg base 2 "minuses" ["orders", "first", "second"] (spN C false D.F_minuses) :=
  has_m (N := ["orders", "first", "second", "one", "two"]) (ps := ["orders", "first", "second"]) h sc_minuses fun f cdv A outer s H E hg hr =>
    ⟨_, (pss_one (ps_ret (pe_lc (own := [("one", 3), ("two", 4)]) (g := (gTup C.K 2 (gCons (gName 3) (gCons (gName 4) gNil)))) rfl sc_minuses.nd (pi_zipK C.K (by rfl) B.zip (pa_cons (pv 1) (pa_cons (pv 2) pa_nil))) (blkOk_by (N := ["orders", "first", "second", "one", "two"]) (sc := defScope s_minuses) (own := [("one", 3), ("two", 4)]) (by decide +kernel)) (fun _ _ _ _ _ => (pg_tup rfl (pgs_cons (pg_name (i := 3) sc_minuses.nd rfl (by first | exact Or.inl rfl | exact Or.inr rfl)) (pgs_cons (pg_name (i := 4) sc_minuses.nd rfl (by first | exact Or.inl rfl | exact Or.inr rfl)) pgs_nil)))) (fun _ _ _ _ _ => pts_nil) (fun _ _ _ _ _ => (pg_cal hg c_minus hr (by rfl) (pa_cons (pv 0) (pa_cons (pv 3) (pa_cons (pv 4) pa_nil)))))))), by kernel_rfl⟩
theorem sc_how_many_equal : FnScope ["row"] ["row"] (defScope s_how_many_equal) := ⟨rfl, rfl, rfl, by decide +kernel, rfl, by decide +kernel, by decide +kernel⟩
theorem ok_how_many_equal {P : Program} {w : World} {C : N.Ctx} {mg : Str → Option Value} {base : Heap} (B : Bi mg) (sm : smB C.K = true) (c_how_many_pairs : Cal P w C.K mg base 1 "how_many_pairs" ["sizes"] (spN C false D.F_how_many_pairs)) (c_times_each : Cal P w C.K mg base 1 "times_each" ["row"] (spN C false D.F_times_each_v2)) (h : Has C.K mg "how_many_equal" s_how_many_equal ["row"]) :
    Cal P w C.K mg base 2 "how_many_equal" ["row"] (spN C false D.F_how_many_equal_v2) :=
  has_m (N := ["row"]) (ps := ["row"]) h sc_how_many_equal fun f cdv A outer s H E hg hr =>
    ⟨_, (pss_one (ps_ret (pg_cal hg c_how_many_pairs hr (by rfl) (pa_cons (Lv.pe_listVals rfl (pg_cal hg c_times_each hr (by rfl) (pa_cons (pv 0) pa_nil)) (by rfl) B.list (by decide +kernel)) pa_nil)))), by kernel_rfl⟩
theorem sc_sizes_borne : FnScope ["row"] ["row"] (defScope s_sizes_borne) := ⟨rfl, rfl, rfl, by decide +kernel, rfl, by decide +kernel, by decide +kernel⟩
theorem ok_sizes_borne {P : Program} {w : World} {C : N.Ctx} {mg : Str → Option Value} {base : Heap} (B : Bi mg) (sm : smB C.K = true) (c_times_each : Cal P w C.K mg base 1 "times_each" ["row"] (spN C false D.F_times_each_v2)) (h : Has C.K mg "sizes_borne" s_sizes_borne ["row"]) :
    Cal P w C.K mg base 2 "sizes_borne" ["row"] (spN C false D.F_sizes_borne_v2) :=
  has_m (N := ["row"]) (ps := ["row"]) h sc_sizes_borne fun f cdv A outer s H E hg hr =>
    ⟨_, (pss_one (ps_ret (pe_callBK (cr_sortedRev (b := true)) (by rfl) B.sorted (by decide +kernel) (pa_cons (Lv.pe_listVals rfl (pg_cal hg c_times_each hr (by rfl) (pa_cons (pv 0) pa_nil)) (by rfl) B.list (by decide +kernel)) pa_nil) (pk_cons pe_bl pk_nil)))), by kernel_rfl⟩
theorem sc_law_random : FnScope ["generator", "bound", "drawn", "turn"] ["generator", "bound"] (defScope s_law_random) := ⟨rfl, rfl, rfl, by decide +kernel, rfl, by decide +kernel, by decide +kernel⟩
theorem ok_law_random {P : Program} {w : World} {C : N.Ctx} {mg : Str → Option Value} {base : Heap} (B : Bi mg) (sm : smB C.K = true) (c_law_hash : Cal P w C.K mg base 1 "_law_hash" ["seed", "index"] (spN C false D.F_law_hash)) (h : Has C.K mg "_law_random" s_law_random ["generator", "bound"]) :
    Cal P w C.K mg base 2 "_law_random" ["generator", "bound"] (spN C false D.F_law_random) :=
  has_m (N := ["generator", "bound", "drawn", "turn"]) (ps := ["generator", "bound"]) h sc_law_random fun f cdv A outer s H E hg hr =>
    ⟨_, (pss_cons (ps_if (pt_cmpR op_gt (pe_ix (ixK C.K) (pv 0) pe_int (fun _ _ => rfl)) pe_int (nomark _)) (pss_cons (ps_set (i := 2) sc_law_random.nd rfl (by first | exact Or.inl rfl | exact Or.inr rfl) (pe_op op_modN (pe_callTy call_int1 (by rfl) B.int (by decide +kernel) (pa_cons (pe_ix (ixK C.K) (pv 0) pe_int (fun _ _ => rfl)) pa_nil)) (pv 1)))
      (pss_cons (ps_asg (pe_op op_fdivW (pe_ix (ixK C.K) (pv 0) pe_int (fun _ _ => rfl)) (pv 1)) (pg_sub (pv 0) pe_int set_list))
      (pss_one (ps_ret (pv 2))))) pss_nil)
      (pss_cons (ps_set (i := 2) sc_law_random.nd rfl (by first | exact Or.inl rfl | exact Or.inr rfl) pe_int)
      (pss_cons (ps_for PassesOwn.never rfl (pi_range1 (by rfl) B.range (pa_cons (pe_op (addK C.K) pe_int (pe_op op_fdivW (pe_bits (pv 1)) pe_int)) pa_nil)) (pg_name (i := 3) sc_law_random.nd rfl (by first | exact Or.inl rfl | exact Or.inr rfl)) (pss_cons (ps_asg (pe_op (addK C.K) (pe_ix (ixK C.K) (pv 0) pe_int (fun _ _ => rfl)) pe_int) (pg_sub (pv 0) pe_int set_list))
      (pss_one (ps_set (i := 2) sc_law_random.nd rfl (by first | exact Or.inl rfl | exact Or.inr rfl) (pe_op (addK C.K) (pe_op op_mulA (pv 2) pe_int) (pg_cal hg c_law_hash hr (by rfl) (pa_cons (pe_ix (ixK C.K) (pv 0) pe_int (fun _ _ => rfl)) (pa_cons (pe_ix (ixK C.K) (pv 0) pe_int (fun _ _ => rfl)) pa_nil))))))))
      (pss_one (ps_ret (pe_op op_modN (pe_callTy call_int1 (by rfl) B.int (by decide +kernel) (pa_cons (pv 2) pa_nil)) (pv 1))))))), by kernel_rfl⟩
theorem sc_law_generator : FnScope ["script", "index", "seed"] ["script", "index"] (defScope s_law_generator) := ⟨rfl, rfl, rfl, by decide +kernel, rfl, by decide +kernel, by decide +kernel⟩
theorem ok_law_generator {P : Program} {w : World} {C : N.Ctx} {mg : Str → Option Value} {base : Heap} (B : Bi mg) (sm : smB C.K = true) (c_law_cell : Cal P w C.K mg base 1 "_law_cell" ["script", "index"] (spN C false D.F_law_cell)) (h : Has C.K mg "_law_generator" s_law_generator ["script", "index"]) :
    Cal P w C.K mg base 2 "_law_generator" ["script", "index"] (spN C false D.F_law_generator) :=
  has_m (N := ["script", "index", "seed"]) (ps := ["script", "index"]) h sc_law_generator fun f cdv A outer s H E hg hr =>
    ⟨_, (pss_cons (ps_set (i := 2) sc_law_generator.nd rfl (by first | exact Or.inl rfl | exact Or.inr rfl) (pg_cal hg c_law_cell hr (by rfl) (pa_cons (pv 0) (pa_cons (pv 1) pa_nil))))
      (pss_one (ps_ret (pe_lst (pa_cons (pe_op op_modN (pe_callTy call_int1 (by rfl) B.int (by decide +kernel) (pa_cons (pe_callB (maxA C.K rfl) (by rfl) B.max (by decide +kernel) (pa_cons (pe_op op_sub (pv 2) (pe_op op_powW pe_int pe_int)) (pa_cons pe_int pa_nil))) pa_nil)) (pe_op op_powW (pe_op op_powW pe_int pe_int) pe_int)) (pa_cons (pe_op op_modN (pe_callTy call_int1 (by rfl) B.int (by decide +kernel) (pa_cons (pv 2) pa_nil)) pe_int) (pa_cons (pe_op op_mulA pe_int (pv 1)) pa_nil))))))), by kernel_rfl⟩
theorem sc_law_row : FnScope ["orders", "sort", "first", "second", "one", "other"] ["orders", "sort", "first", "second"] (defScope s_law_row) := ⟨rfl, rfl, rfl, by decide +kernel, rfl, by decide +kernel, by decide +kernel⟩
theorem ok_law_row {P : Program} {w : World} {C : N.Ctx} {mg : Str → Option Value} {base : Heap} (B : Bi mg) (sm : smB C.K = true) (c_law_added : Cal P w C.K mg base 1 "_law_added" ["orders", "one", "other"] (spN C false D.F_law_added)) (c_law_minus : Cal P w C.K mg base 1 "_law_minus" ["orders", "one"] (spN C false D.F_law_minus_v3)) (h : Has C.K mg "_law_row" s_law_row ["orders", "sort", "first", "second"]) :
    Cal P w C.K mg base 2 "_law_row" ["orders", "sort", "first", "second"] (spN C false D.F_law_row_v4) :=
  has_m (N := ["orders", "sort", "first", "second", "one", "other"]) (ps := ["orders", "sort", "first", "second"]) h sc_law_row fun f cdv A outer s H E hg hr =>
    ⟨_, (pss_cons (ps_if (pt_cmpR (eqRK C.K hr) (pv 1) pe_str (nomark _)) (pss_one (ps_ret (pe_lc (own := [("one", 4), ("other", 5)]) (g := (gTup C.K 2 (gCons (gName 4) (gCons (gName 5) gNil)))) rfl sc_law_row.nd (pi_zipK C.K (by rfl) B.zip (pa_cons (pv 2) (pa_cons (pv 3) pa_nil))) (blkOk_by (N := ["orders", "sort", "first", "second", "one", "other"]) (sc := defScope s_law_row) (own := [("one", 4), ("other", 5)]) (by decide +kernel)) (fun _ _ _ _ _ => (pg_tup rfl (pgs_cons (pg_name (i := 4) sc_law_row.nd rfl (by first | exact Or.inl rfl | exact Or.inr rfl)) (pgs_cons (pg_name (i := 5) sc_law_row.nd rfl (by first | exact Or.inl rfl | exact Or.inr rfl)) pgs_nil)))) (fun _ _ _ _ _ => pts_nil) (fun _ _ _ _ _ => (pg_cal hg c_law_added hr (by rfl) (pa_cons (pv 0) (pa_cons (pv 4) (pa_cons (pv 5) pa_nil)))))))) pss_nil)
      (pss_one (ps_ret (pe_lc (own := [("one", 4), ("other", 5)]) (g := (gTup C.K 2 (gCons (gName 4) (gCons (gName 5) gNil)))) rfl sc_law_row.nd (pi_zipK C.K (by rfl) B.zip (pa_cons (pv 2) (pa_cons (pv 3) pa_nil))) (blkOk_by (N := ["orders", "sort", "first", "second", "one", "other"]) (sc := defScope s_law_row) (own := [("one", 4), ("other", 5)]) (by decide +kernel)) (fun _ _ _ _ _ => (pg_tup rfl (pgs_cons (pg_name (i := 4) sc_law_row.nd rfl (by first | exact Or.inl rfl | exact Or.inr rfl)) (pgs_cons (pg_name (i := 5) sc_law_row.nd rfl (by first | exact Or.inl rfl | exact Or.inr rfl)) pgs_nil)))) (fun _ _ _ _ _ => pts_nil) (fun _ _ _ _ _ => (pg_cal hg c_law_added hr (by rfl) (pa_cons (pv 0) (pa_cons (pv 4) (pa_cons (pg_cal hg c_law_minus hr (by rfl) (pa_cons (pv 0) (pa_cons (pv 5) pa_nil))) pa_nil))))))))), by kernel_rfl⟩
theorem sc_are_below : FnScope ["value", "many", "one"] ["value", "many"] (defScope s_are_below) := ⟨rfl, rfl, rfl, by decide +kernel, rfl, by decide +kernel, by decide +kernel⟩
theorem ok_are_below {P : Program} {w : World} {C : N.Ctx} {mg : Str → Option Value} {base : Heap} (B : Bi mg) (sm : smB C.K = true) (c_is_below : Cal P w C.K mg base 2 "is_below" ["value", "many"] (spN C false D.F_is_below)) (h : Has C.K mg "are_below" s_are_below ["value", "many"]) :
    Cal P w C.K mg base 3 "are_below" ["value", "many"] (spN C false D.F_are_below) :=
  has_m (N := ["value", "many", "one"]) (ps := ["value", "many"]) h sc_are_below fun f cdv A outer s H E hg hr =>
    ⟨_, (pss_one (ps_ret (pe_and (pe_callB (isiK C.K) (by rfl) B.isinstance (by decide +kernel) (pa_cons (pv 0) (pa_cons (pe_bltn (v := .ty "list") (by rfl) B.list (by decide +kernel) rfl) pa_nil))) (pe_one (pe_callB (allK C.K rfl) (by rfl) B.all (by decide +kernel) (pa_cons (pe_lc (own := [("one", 2)]) rfl sc_are_below.nd (pi_or (pi_listK C.K (pv 0)) (pi_tupK C.K (pv 0))) (blkOk_by (N := ["value", "many", "one"]) (sc := defScope s_are_below) (own := [("one", 2)]) (by decide +kernel)) (fun _ _ _ _ _ => (pg_name (i := 2) sc_are_below.nd rfl (by first | exact Or.inl rfl | exact Or.inr rfl))) (fun _ _ _ _ _ => pts_nil) (fun _ _ _ _ _ => (pg_cal hg c_is_below hr (by rfl) (pa_cons (pv 2) (pa_cons (pv 1) pa_nil))))) pa_nil)))))), by kernel_rfl⟩
theorem sc_are_orders : FnScope ["value", "order"] ["value"] (defScope s_are_orders) := ⟨rfl, rfl, rfl, by decide +kernel, rfl, by decide +kernel, by decide +kernel⟩
theorem ok_are_orders {P : Program} {w : World} {C : N.Ctx} {mg : Str → Option Value} {base : Heap} (B : Bi mg) (sm : smB C.K = true) (c_is_from : Cal P w C.K mg base 2 "is_from" ["value", "least"] (spN C false D.F_is_from)) (h : Has C.K mg "are_orders" s_are_orders ["value"]) :
    Cal P w C.K mg base 3 "are_orders" ["value"] (spN C false D.F_are_orders) :=
  has_m (N := ["value", "order"]) (ps := ["value"]) h sc_are_orders fun f cdv A outer s H E hg hr =>
    ⟨_, (pss_cons (ps_if (PW.pt (pw_or (pt_not (pt_val (pe_callB (isiK C.K) (by rfl) B.isinstance (by decide +kernel) (pa_cons (pv 0) (pa_cons (pe_bltn (v := .ty "tuple") (by rfl) B.tuple (by decide +kernel) rfl) pa_nil))))) (pw_or1 (pt_cmpR (eqRK C.K hr) (pe_callB (lenA C.K) (by rfl) B.len PySem.boot_len (pa_cons (pv 0) pa_nil)) pe_int (nomark _))))) (pss_one (ps_ret pe_bl)) pss_nil)
      (pss_one (ps_ret (pe_callB (allK C.K rfl) (by rfl) B.all (by decide +kernel) (pa_cons (pe_lc (own := [("order", 1)]) rfl sc_are_orders.nd (pi_or (pi_listK C.K (pv 0)) (pi_tupK C.K (pv 0))) (blkOk_by (N := ["value", "order"]) (sc := defScope s_are_orders) (own := [("order", 1)]) (by decide +kernel)) (fun _ _ _ _ _ => (pg_name (i := 1) sc_are_orders.nd rfl (by first | exact Or.inl rfl | exact Or.inr rfl))) (fun _ _ _ _ _ => pts_nil) (fun _ _ _ _ _ => (pg_cal hg c_is_from hr (by rfl) (pa_cons (pv 1) (pa_cons pe_int pa_nil))))) pa_nil))))), by kernel_rfl⟩
theorem sc_row_by : FnScope ["orders", "kind", "first", "second"] ["orders", "kind", "first", "second"] (defScope s_row_by) := ⟨rfl, rfl, rfl, by decide +kernel, rfl, by decide +kernel, by decide +kernel⟩
theorem ok_row_by {P : Program} {w : World} {C : N.Ctx} {mg : Str → Option Value} {base : Heap} (B : Bi mg) (sm : smB C.K = true) (c_minuses : Cal P w C.K mg base 2 "minuses" ["orders", "first", "second"] (spN C false D.F_minuses)) (c_pluses : Cal P w C.K mg base 2 "pluses" ["orders", "first", "second"] (spN C false D.F_pluses)) (h : Has C.K mg "row_by" s_row_by ["orders", "kind", "first", "second"]) :
    Cal P w C.K mg base 3 "row_by" ["orders", "kind", "first", "second"] (spN C false D.F_row_by) :=
  has_m (N := ["orders", "kind", "first", "second"]) (ps := ["orders", "kind", "first", "second"]) h sc_row_by fun f cdv A outer s H E hg hr =>
    ⟨_, (pss_one (ps_ret (pe_ifExp (pt_cmpR (eqRK C.K hr) (pv 1) pe_str (nomark _)) (pg_cal hg c_minuses hr (by rfl) (pa_cons (pv 0) (pa_cons (pv 2) (pa_cons (pv 3) pa_nil)))) (pg_cal hg c_pluses hr (by rfl) (pa_cons (pv 0) (pa_cons (pv 2) (pa_cons (pv 3) pa_nil))))))), by kernel_rfl⟩
theorem sc_law_table : FnScope ["generator", "orders", "left", "found", "turn", "factor", "made", "member", "at"] ["generator", "orders"] (defScope s_law_table) := ⟨rfl, rfl, rfl, by decide +kernel, rfl, by decide +kernel, by decide +kernel⟩
theorem ok_law_table {P : Program} {w : World} {C : N.Ctx} {mg : Str → Option Value} {base : Heap} (B : Bi mg) (sm : smB C.K = true) (c_law_size : Cal P w C.K mg base 1 "_law_size" ["orders"] (spN C false D.F_law_size_v4)) (c_law_random : Cal P w C.K mg base 2 "_law_random" ["generator", "bound"] (spN C false D.F_law_random)) (c_law_added : Cal P w C.K mg base 1 "_law_added" ["orders", "one", "other"] (spN C false D.F_law_added)) (h : Has C.K mg "_law_table" s_law_table ["generator", "orders"]) :
    Cal P w C.K mg base 3 "_law_table" ["generator", "orders"] (spN C false D.F_law_table_v3) :=
  has_m (N := ["generator", "orders", "left", "found", "turn", "factor", "made", "member", "at"]) (ps := ["generator", "orders"]) h sc_law_table fun f cdv A outer s H E hg hr =>
    ⟨_, (pss_cons (ps_par (i := 2) (j := 3) rfl sc_law_table.nd rfl rfl (by decide) rfl rfl (pa_cons (pe_listRg rfl (by rfl) B.list (prg_1 (by rfl) B.range (pg_cal hg c_law_size hr (by rfl) (pa_cons (pv 1) pa_nil)))) (pa_cons (pe_lst pa_nil) pa_nil)) (by rfl))
      (pss_cons (ps_for PassesOwn.never rfl (pi_range1 (by rfl) B.range (pa_cons (pg_cal hg c_law_size hr (by rfl) (pa_cons (pv 1) pa_nil)) pa_nil)) (pg_name (i := 4) sc_law_table.nd rfl (by first | exact Or.inl rfl | exact Or.inr rfl)) (pss_one (ps_expr (pe_bm PySem.F.plainAttrs_list PySem.F.slot_list_append PySem.F.type_list_append mt_append (pv 3) (pa_cons (pe_bm PySem.F.plainAttrs_list PySem.F.slot_list_pop PySem.F.type_list_pop mt_popAt (pv 2) (pa_cons (pg_cal hg c_law_random hr (by rfl) (pa_cons (pv 0) (pa_cons (pe_callB (lenA C.K) (by rfl) B.len PySem.boot_len (pa_cons (pv 2) pa_nil)) pa_nil))) pa_nil)) pa_nil)))))
      (pss_cons (ps_if (pt_cmpR (eqRK C.K hr) (pg_cal hg c_law_random hr (by rfl) (pa_cons (pv 0) (pa_cons pe_int pa_nil))) pe_int (nomark _)) (pss_cons (ps_set (i := 5) sc_law_table.nd rfl (by first | exact Or.inl rfl | exact Or.inr rfl) (pe_op (addK C.K) pe_int (pg_cal hg c_law_random hr (by rfl) (pa_cons (pv 0) (pa_cons pe_int pa_nil)))))
      (pss_cons (ps_set (i := 6) sc_law_table.nd rfl (by first | exact Or.inl rfl | exact Or.inr rfl) (pe_lc (own := [("member", 7)]) rfl sc_law_table.nd (pi_or (pi_listK C.K (pv 3)) (pi_tupK C.K (pv 3))) (blkOk_by (N := ["generator", "orders", "left", "found", "turn", "factor", "made", "member", "at"]) (sc := defScope s_law_table) (own := [("member", 7)]) (by decide +kernel)) (fun _ _ _ _ _ => (pg_name (i := 7) sc_law_table.nd rfl (by first | exact Or.inl rfl | exact Or.inr rfl))) (fun _ _ _ _ _ => pts_nil) (fun _ _ _ _ _ => pe_int)))
      (pss_cons (ps_for PassesOwn.never rfl (pi_range1 (by rfl) B.range (pa_cons (pv 5) pa_nil)) (pg_name (i := 4) sc_law_table.nd rfl (by first | exact Or.inl rfl | exact Or.inr rfl)) (pss_one (ps_set (i := 6) sc_law_table.nd rfl (by first | exact Or.inl rfl | exact Or.inr rfl) (pe_lc (own := [("at", 8)]) rfl sc_law_table.nd (pi_range1 (by rfl) B.range (pa_cons (pe_callB (lenA C.K) (by rfl) B.len PySem.boot_len (pa_cons (pv 6) pa_nil)) pa_nil)) (blkOk_by (N := ["generator", "orders", "left", "found", "turn", "factor", "made", "member", "at"]) (sc := defScope s_law_table) (own := [("at", 8)]) (by decide +kernel)) (fun _ _ _ _ _ => (pg_name (i := 8) sc_law_table.nd rfl (by first | exact Or.inl rfl | exact Or.inr rfl))) (fun _ _ _ _ _ => pts_nil) (fun _ _ _ _ _ => (pg_cal hg c_law_added hr (by rfl) (pa_cons (pv 1) (pa_cons (pe_ix (ixK C.K) (pv 6) (pv 8) (fun _ _ => rfl)) (pa_cons (pv 8) pa_nil)))))))))
      (pss_one (ps_set (i := 3) sc_law_table.nd rfl (by first | exact Or.inl rfl | exact Or.inr rfl) (pe_ifExp (pt_cmpR (eqRK C.K hr) (pe_callB (sortX C.K hr) (by rfl) B.sorted (by decide +kernel) (pa_cons (pv 6) pa_nil)) (pe_listRg rfl (by rfl) B.list (prg_1 (by rfl) B.range (pe_callB (lenA C.K) (by rfl) B.len PySem.boot_len (pa_cons (pv 6) pa_nil)))) (nomark _)) (pv 6) (pv 3))))))) pss_nil)
      (pss_one (ps_ret (pv 3)))))), by kernel_rfl⟩
theorem sc_law_group : FnScope ["generator", "most", "groups", "orders"] ["generator", "most"] (defScope s_law_group) := ⟨rfl, rfl, rfl, by decide +kernel, rfl, by decide +kernel, by decide +kernel⟩
theorem ok_law_group {P : Program} {w : World} {C : N.Ctx} {mg : Str → Option Value} {base : Heap} (B : Bi mg) (sm : smB C.K = true) (c_law_groups : Cal P w C.K mg base 1 "_law_groups" [] (spN C false D.F_law_groups_v2)) (c_law_size : Cal P w C.K mg base 1 "_law_size" ["orders"] (spN C false D.F_law_size_v4)) (c_law_random : Cal P w C.K mg base 2 "_law_random" ["generator", "bound"] (spN C false D.F_law_random)) (h : Has C.K mg "_law_group" s_law_group ["generator", "most"]) :
    Cal P w C.K mg base 3 "_law_group" ["generator", "most"] (spN C false D.F_law_group_v6) :=
  has_m (N := ["generator", "most", "groups", "orders"]) (ps := ["generator", "most"]) h sc_law_group fun f cdv A outer s H E hg hr =>
    ⟨_, (pss_cons (ps_setLc (i := 2) (own := [("orders", 3)]) rfl sc_law_group.nd rfl rfl (sw_true rfl rfl rfl (by decide +kernel)) (pi_or (pi_listK C.K (pg_cal0 hg c_law_groups hr (by rfl))) (pi_tupK C.K (pg_cal0 hg c_law_groups hr (by rfl)))) (blkOk_by (N := ["generator", "most", "groups", "orders"]) (sc := defScope s_law_group) (own := [("orders", 3)]) (by decide +kernel)) (fun _ _ _ _ _ => (pg_name (i := 3) sc_law_group.nd rfl (by first | exact Or.inl rfl | exact Or.inr rfl))) (fun _ _ _ _ _ => pts_one (pt_cmpR op_le (pg_cal hg c_law_size hr (by rfl) (pa_cons (pv 3) pa_nil)) (pv 1) (nomark _))) (fun _ _ _ _ _ => (pv 3)))
      (pss_one (ps_ret (pe_ix (ixK C.K) (pv 2) (pg_cal hg c_law_random hr (by rfl) (pa_cons (pv 0) (pa_cons (pe_callB (lenA C.K) (by rfl) B.len PySem.boot_len (pa_cons (pv 2) pa_nil)) pa_nil))) (fun _ _ => rfl))))), by kernel_rfl⟩
theorem sc_law_sort : FnScope ["generator"] ["generator"] (defScope s_law_sort) := ⟨rfl, rfl, rfl, by decide +kernel, rfl, by decide +kernel, by decide +kernel⟩
theorem ok_law_sort {P : Program} {w : World} {C : N.Ctx} {mg : Str → Option Value} {base : Heap} (B : Bi mg) (sm : smB C.K = true) (c_law_random : Cal P w C.K mg base 2 "_law_random" ["generator", "bound"] (spN C false D.F_law_random)) (h : Has C.K mg "_law_sort" s_law_sort ["generator"]) :
    Cal P w C.K mg base 3 "_law_sort" ["generator"] (spN C false D.F_law_sort) :=
  has_m (N := ["generator"]) (ps := ["generator"]) h sc_law_sort fun f cdv A outer s H E hg hr =>
    ⟨_, (pss_one (ps_ret (pe_ix (ixK C.K) (pe_lst (pa_cons pe_str (pa_cons pe_str pa_nil))) (pg_cal hg c_law_random hr (by rfl) (pa_cons (pv 0) (pa_cons pe_int pa_nil))) (fun _ _ => rfl)))), by kernel_rfl⟩
theorem sc_is_each_once : FnScope ["value", "many"] ["value", "many"] (defScope s_is_each_once) := ⟨rfl, rfl, rfl, by decide +kernel, rfl, by decide +kernel, by decide +kernel⟩
theorem ok_is_each_once {P : Program} {w : World} {C : N.Ctx} {mg : Str → Option Value} {base : Heap} (B : Bi mg) (sm : smB C.K = true) (c_are_below : Cal P w C.K mg base 3 "are_below" ["value", "many"] (spN C false D.F_are_below)) (h : Has C.K mg "is_each_once" s_is_each_once ["value", "many"]) :
    Cal P w C.K mg base 4 "is_each_once" ["value", "many"] (spN C false D.F_is_each_once) :=
  has_m (N := ["value", "many"]) (ps := ["value", "many"]) h sc_is_each_once fun f cdv A outer s H E hg hr =>
    ⟨_, (pss_cons (ps_if (PW.pt (pw_or (pt_not (pt_val (pe_callB (isiK C.K) (by rfl) B.isinstance (by decide +kernel) (pa_cons (pv 0) (pa_cons (pe_bltn (v := .ty "list") (by rfl) B.list (by decide +kernel) rfl) pa_nil))))) (pw_or1 (pt_cmpR (neRK C.K hr) (pe_callB (lenA C.K) (by rfl) B.len PySem.boot_len (pa_cons (pv 0) pa_nil)) (pv 1) (nomark _))))) (pss_one (ps_ret pe_bl)) pss_nil)
      (pss_one (ps_ret (pe_and (pg_cal hg c_are_below hr (by rfl) (pa_cons (pv 0) (pa_cons (pv 1) pa_nil))) (pe_one (pe_cmpR (eqRK C.K hr) (lenSetX C.K (by rfl) B.len (by rfl) B.set (pv 0)) (pv 1) (nomark _))))))), by kernel_rfl⟩
theorem sc_check_orders : FnScope ["orders"] ["orders"] (defScope s_check_orders) := ⟨rfl, rfl, rfl, by decide +kernel, rfl, by decide +kernel, by decide +kernel⟩
theorem ok_check_orders {P : Program} {w : World} {C : N.Ctx} {mg : Str → Option Value} {base : Heap} (B : Bi mg) (sm : smB C.K = true) (c_are_orders : Cal P w C.K mg base 3 "are_orders" ["value"] (spN C false D.F_are_orders)) (h : Has C.K mg "check_orders" s_check_orders ["orders"]) :
    Cal P w C.K mg base 4 "check_orders" ["orders"] (spN C false D.F_check_orders) :=
  has_m (N := ["orders"]) (ps := ["orders"]) h sc_check_orders fun f cdv A outer s H E hg hr =>
    ⟨_, (pss_one (ps_if (pt_not (pt_val (pg_cal hg c_are_orders hr (by rfl) (pa_cons (pv 0) pa_nil)))) (pss_one ps_never) pss_nil)), by kernel_rfl⟩
theorem sc_is_row_of : FnScope ["many", "value"] ["many", "value"] (defScope s_is_row_of) := ⟨rfl, rfl, rfl, by decide +kernel, rfl, by decide +kernel, by decide +kernel⟩
theorem ok_is_row_of {P : Program} {w : World} {C : N.Ctx} {mg : Str → Option Value} {base : Heap} (B : Bi mg) (sm : smB C.K = true) (c_are_below : Cal P w C.K mg base 3 "are_below" ["value", "many"] (spN C false D.F_are_below)) (h : Has C.K mg "is_row_of" s_is_row_of ["many", "value"]) :
    Cal P w C.K mg base 4 "is_row_of" ["many", "value"] (spN C false D.F_is_row_of) :=
  has_m (N := ["many", "value"]) (ps := ["many", "value"]) h sc_is_row_of fun f cdv A outer s H E hg hr =>
    ⟨_, (pss_one (ps_ret (pe_and (pe_callB (isiK C.K) (by rfl) B.isinstance (by decide +kernel) (pa_cons (pv 1) (pa_cons (pe_bltn (v := .ty "list") (by rfl) B.list (by decide +kernel) rfl) pa_nil))) (pe_and (pe_cmpR (eqRK C.K hr) (pe_callB (lenA C.K) (by rfl) B.len PySem.boot_len (pa_cons (pv 1) pa_nil)) (pv 0) (nomark _)) (pe_one (pg_cal hg c_are_below hr (by rfl) (pa_cons (pv 1) (pa_cons (pv 0) pa_nil)))))))), by kernel_rfl⟩
theorem sc_check_table : FnScope ["orders", "table"] ["orders", "table"] (defScope s_check_table) := ⟨rfl, rfl, rfl, by decide +kernel, rfl, by decide +kernel, by decide +kernel⟩
theorem ok_check_table {P : Program} {w : World} {C : N.Ctx} {mg : Str → Option Value} {base : Heap} (B : Bi mg) (sm : smB C.K = true) (c_is_each_once : Cal P w C.K mg base 4 "is_each_once" ["value", "many"] (spN C false D.F_is_each_once)) (c_size_of : Cal P w C.K mg base 1 "size_of" ["orders"] (spN C false D.F_size_of)) (h : Has C.K mg "check_table" s_check_table ["orders", "table"]) :
    Cal P w C.K mg base 5 "check_table" ["orders", "table"] (spN C false D.F_check_table) :=
  has_m (N := ["orders", "table"]) (ps := ["orders", "table"]) h sc_check_table fun f cdv A outer s H E hg hr =>
    ⟨_, (pss_one (ps_if (pt_not (pt_val (pg_cal hg c_is_each_once hr (by rfl) (pa_cons (pv 1) (pa_cons (pg_cal hg c_size_of hr (by rfl) (pa_cons (pv 0) pa_nil)) pa_nil))))) (pss_one ps_never) pss_nil)), by kernel_rfl⟩
theorem sc_check_row : FnScope ["orders", "row"] ["orders", "row"] (defScope s_check_row) := ⟨rfl, rfl, rfl, by decide +kernel, rfl, by decide +kernel, by decide +kernel⟩
theorem ok_check_row {P : Program} {w : World} {C : N.Ctx} {mg : Str → Option Value} {base : Heap} (B : Bi mg) (sm : smB C.K = true) (c_is_row_of : Cal P w C.K mg base 4 "is_row_of" ["many", "value"] (spN C false D.F_is_row_of)) (c_size_of : Cal P w C.K mg base 1 "size_of" ["orders"] (spN C false D.F_size_of)) (h : Has C.K mg "check_row" s_check_row ["orders", "row"]) :
    Cal P w C.K mg base 5 "check_row" ["orders", "row"] (spN C false D.F_check_row) :=
  has_m (N := ["orders", "row"]) (ps := ["orders", "row"]) h sc_check_row fun f cdv A outer s H E hg hr =>
    ⟨_, (pss_one (ps_if (pt_not (pt_val (pg_cal hg c_is_row_of hr (by rfl) (pa_cons (pg_cal hg c_size_of hr (by rfl) (pa_cons (pv 0) pa_nil)) (pa_cons (pv 1) pa_nil))))) (pss_one ps_never) pss_nil)), by kernel_rfl⟩
theorem sc_check_pair : FnScope ["orders", "kind", "first", "second"] ["orders", "kind", "first", "second"] (defScope s_check_pair) := ⟨rfl, rfl, rfl, by decide +kernel, rfl, by decide +kernel, by decide +kernel⟩
theorem ok_check_pair {P : Program} {w : World} {C : N.Ctx} {mg : Str → Option Value} {base : Heap} (B : Bi mg) (sm : smB C.K = true) (c_check_orders : Cal P w C.K mg base 4 "check_orders" ["orders"] (spN C false D.F_check_orders)) (c_check_wish_kind : Cal P w C.K mg base 1 "check_wish_kind" ["kind"] (spN C false D.F_check_wish_kind)) (c_check_table : Cal P w C.K mg base 5 "check_table" ["orders", "table"] (spN C false D.F_check_table)) (h : Has C.K mg "check_pair" s_check_pair ["orders", "kind", "first", "second"]) :
    Cal P w C.K mg base 6 "check_pair" ["orders", "kind", "first", "second"] (spN C false D.F_check_pair) :=
  has_m (N := ["orders", "kind", "first", "second"]) (ps := ["orders", "kind", "first", "second"]) h sc_check_pair fun f cdv A outer s H E hg hr =>
    ⟨_, (pss_cons (ps_expr (pg_cal hg c_check_orders hr (by rfl) (pa_cons (pv 0) pa_nil)))
      (pss_cons (ps_expr (pg_cal hg c_check_wish_kind hr (by rfl) (pa_cons (pv 1) pa_nil)))
      (pss_cons (ps_expr (pg_cal hg c_check_table hr (by rfl) (pa_cons (pv 0) (pa_cons (pv 2) pa_nil))))
      (pss_one (ps_expr (pg_cal hg c_check_table hr (by rfl) (pa_cons (pv 0) (pa_cons (pv 3) pa_nil)))))))), by kernel_rfl⟩
theorem sc_sizes_of : FnScope ["orders", "row"] ["orders", "row"] (defScope s_sizes_of) := ⟨rfl, rfl, rfl, by decide +kernel, rfl, by decide +kernel, by decide +kernel⟩
theorem ok_sizes_of {P : Program} {w : World} {C : N.Ctx} {mg : Str → Option Value} {base : Heap} (B : Bi mg) (sm : smB C.K = true) (c_check_orders : Cal P w C.K mg base 4 "check_orders" ["orders"] (spN C false D.F_check_orders)) (c_check_row : Cal P w C.K mg base 5 "check_row" ["orders", "row"] (spN C false D.F_check_row)) (c_sizes_borne : Cal P w C.K mg base 2 "sizes_borne" ["row"] (spN C false D.F_sizes_borne_v2)) (h : Has C.K mg "sizes_of" s_sizes_of ["orders", "row"]) :
    Cal P w C.K mg base 6 "sizes_of" ["orders", "row"] (spN C false D.F_sizes_of_v3) :=
  has_m (N := ["orders", "row"]) (ps := ["orders", "row"]) h sc_sizes_of fun f cdv A outer s H E hg hr =>
    ⟨_, (pss_cons (ps_expr (pg_cal hg c_check_orders hr (by rfl) (pa_cons (pv 0) pa_nil)))
      (pss_cons (ps_expr (pg_cal hg c_check_row hr (by rfl) (pa_cons (pv 0) (pa_cons (pv 1) pa_nil))))
      (pss_one (ps_ret (pg_cal hg c_sizes_borne hr (by rfl) (pa_cons (pv 1) pa_nil)))))), by kernel_rfl⟩
theorem sc_passing_pairs : FnScope ["orders", "kind", "first", "second"] ["orders", "kind", "first", "second"] (defScope s_passing_pairs) := ⟨rfl, rfl, rfl, by decide +kernel, rfl, by decide +kernel, by decide +kernel⟩
theorem ok_passing_pairs {P : Program} {w : World} {C : N.Ctx} {mg : Str → Option Value} {base : Heap} (B : Bi mg) (sm : smB C.K = true) (c_check_pair : Cal P w C.K mg base 6 "check_pair" ["orders", "kind", "first", "second"] (spN C false D.F_check_pair)) (c_equal_pairs : Cal P w C.K mg base 1 "equal_pairs" ["row"] (spN C false D.F_equal_pairs_v2)) (c_row_by : Cal P w C.K mg base 3 "row_by" ["orders", "kind", "first", "second"] (spN C false D.F_row_by)) (h : Has C.K mg "passing_pairs" s_passing_pairs ["orders", "kind", "first", "second"]) :
    Cal P w C.K mg base 7 "passing_pairs" ["orders", "kind", "first", "second"] (spN C false D.F_passing_pairs_v4) :=
  has_m (N := ["orders", "kind", "first", "second"]) (ps := ["orders", "kind", "first", "second"]) h sc_passing_pairs fun f cdv A outer s H E hg hr =>
    ⟨_, (pss_cons (ps_expr (pg_cal hg c_check_pair hr (by rfl) (pa_cons (pv 0) (pa_cons (pv 1) (pa_cons (pv 2) (pa_cons (pv 3) pa_nil))))))
      (pss_one (ps_ret (pg_cal hg c_equal_pairs hr (by rfl) (pa_cons (pg_cal hg c_row_by hr (by rfl) (pa_cons (pv 0) (pa_cons (pv 1) (pa_cons (pv 2) (pa_cons (pv 3) pa_nil))))) pa_nil))))), by kernel_rfl⟩
theorem sc_how_many_pass : FnScope ["orders", "kind", "first", "second"] ["orders", "kind", "first", "second"] (defScope s_how_many_pass) := ⟨rfl, rfl, rfl, by decide +kernel, rfl, by decide +kernel, by decide +kernel⟩
theorem ok_how_many_pass {P : Program} {w : World} {C : N.Ctx} {mg : Str → Option Value} {base : Heap} (B : Bi mg) (sm : smB C.K = true) (c_check_pair : Cal P w C.K mg base 6 "check_pair" ["orders", "kind", "first", "second"] (spN C false D.F_check_pair)) (c_how_many_equal : Cal P w C.K mg base 2 "how_many_equal" ["row"] (spN C false D.F_how_many_equal_v2)) (c_row_by : Cal P w C.K mg base 3 "row_by" ["orders", "kind", "first", "second"] (spN C false D.F_row_by)) (h : Has C.K mg "how_many_pass" s_how_many_pass ["orders", "kind", "first", "second"]) :
    Cal P w C.K mg base 7 "how_many_pass" ["orders", "kind", "first", "second"] (spN C false D.F_how_many_pass_v3) :=
  has_m (N := ["orders", "kind", "first", "second"]) (ps := ["orders", "kind", "first", "second"]) h sc_how_many_pass fun f cdv A outer s H E hg hr =>
    ⟨_, (pss_cons (ps_expr (pg_cal hg c_check_pair hr (by rfl) (pa_cons (pv 0) (pa_cons (pv 1) (pa_cons (pv 2) (pa_cons (pv 3) pa_nil))))))
      (pss_one (ps_ret (pg_cal hg c_how_many_equal hr (by rfl) (pa_cons (pg_cal hg c_row_by hr (by rfl) (pa_cons (pv 0) (pa_cons (pv 1) (pa_cons (pv 2) (pa_cons (pv 3) pa_nil))))) pa_nil))))), by kernel_rfl⟩
theorem sc_law_right : FnScope ["generator", "orders", "sort", "first", "second", "row", "kept", "due", "told", "part"] ["generator"] (defScope s_law_right) := ⟨rfl, rfl, rfl, by decide +kernel, rfl, by decide +kernel, by decide +kernel⟩
theorem ok_law_right {P : Program} {w : World} {C : N.Ctx} {mg : Str → Option Value} {base : Heap} (B : Bi mg) (sm : smB C.K = true) (c_law_group : Cal P w C.K mg base 3 "_law_group" ["generator", "most"] (spN C false D.F_law_group_v6)) (c_law_sort : Cal P w C.K mg base 3 "_law_sort" ["generator"] (spN C false D.F_law_sort)) (c_law_table : Cal P w C.K mg base 3 "_law_table" ["generator", "orders"] (spN C false D.F_law_table_v3)) (c_law_random : Cal P w C.K mg base 2 "_law_random" ["generator", "bound"] (spN C false D.F_law_random)) (c_law_row : Cal P w C.K mg base 2 "_law_row" ["orders", "sort", "first", "second"] (spN C false D.F_law_row_v4)) (c_law_pairs : Cal P w C.K mg base 1 "_law_pairs" ["row"] (spN C false D.F_law_pairs_v2)) (c_passing_pairs : Cal P w C.K mg base 7 "passing_pairs" ["orders", "kind", "first", "second"] (spN C false D.F_passing_pairs_v4)) (c_sizes_of : Cal P w C.K mg base 6 "sizes_of" ["orders", "row"] (spN C false D.F_sizes_of_v3)) (c_law_sizes : Cal P w C.K mg base 1 "_law_sizes" ["row"] (spN C false D.F_law_sizes_v2)) (c_how_many_pass : Cal P w C.K mg base 7 "how_many_pass" ["orders", "kind", "first", "second"] (spN C false D.F_how_many_pass_v3)) (k_passing_pairs_second_first_kind_orders : CalK P w C.K mg base 7 "passing_pairs" ["orders", "kind", "first", "second"] ["second", "first", "kind", "orders"] (kwgI [3, 2, 1, 0]) (spN C false D.F_passing_pairs_v4)) (k_how_many_pass_second_first_kind_orders : CalK P w C.K mg base 7 "how_many_pass" ["orders", "kind", "first", "second"] ["second", "first", "kind", "orders"] (kwgI [3, 2, 1, 0]) (spN C false D.F_how_many_pass_v3)) (h : Has C.K mg "_law_right" s_law_right ["generator"]) :
    Cal P w C.K mg base 8 "_law_right" ["generator"] (spN C false D.F_law_right_v224) :=
  has_m (N := ["generator", "orders", "sort", "first", "second", "row", "kept", "due", "told", "part"]) (ps := ["generator"]) h sc_law_right fun f cdv A outer s H E hg hr =>
    ⟨_, (pss_cons (ps_par (i := 1) (j := 2) rfl sc_law_right.nd rfl rfl (by decide) rfl rfl (pa_cons (pg_cal hg c_law_group hr (by rfl) (pa_cons (pv 0) (pa_cons pe_int pa_nil))) (pa_cons (pg_cal hg c_law_sort hr (by rfl) (pa_cons (pv 0) pa_nil)) pa_nil)) (by rfl))
      (pss_cons (ps_set (i := 3) sc_law_right.nd rfl (by first | exact Or.inl rfl | exact Or.inr rfl) (pg_cal hg c_law_table hr (by rfl) (pa_cons (pv 0) (pa_cons (pv 1) pa_nil))))
      (pss_cons (ps_set (i := 4) sc_law_right.nd rfl (by first | exact Or.inl rfl | exact Or.inr rfl) (pe_ifExp (pt_cmpR op_gt (pg_cal hg c_law_random hr (by rfl) (pa_cons (pv 0) (pa_cons pe_int pa_nil))) pe_int (nomark _)) (pg_cal hg c_law_table hr (by rfl) (pa_cons (pv 0) (pa_cons (pv 1) pa_nil))) (pe_callTy (listK C.K) (by rfl) B.list (by decide +kernel) (pa_cons (pv 3) pa_nil))))
      (pss_cons (ps_set (i := 5) sc_law_right.nd rfl (by first | exact Or.inl rfl | exact Or.inr rfl) (pg_cal hg c_law_row hr (by rfl) (pa_cons (pv 1) (pa_cons (pv 2) (pa_cons (pv 3) (pa_cons (pv 4) pa_nil))))))
      (pss_cons (ps_set (i := 6) sc_law_right.nd rfl (by first | exact Or.inl rfl | exact Or.inr rfl) (pe_callB (reprQK sm hg hr) (by rfl) B.repr (by decide +kernel) (pa_cons (pe_lst (pa_cons (pv 3) (pa_cons (pv 4) (pa_cons (pv 5) pa_nil)))) pa_nil)))
      (pss_cons (ps_par (i := 7) (j := 8) rfl sc_law_right.nd rfl rfl (by decide) rfl rfl (pa_cons (pg_cal hg c_law_pairs hr (by rfl) (pa_cons (pv 5) pa_nil)) (pa_cons (pg_cal hg c_passing_pairs hr (by rfl) (pa_cons (pv 1) (pa_cons (pv 2) (pa_cons (pv 3) (pa_cons (pv 4) pa_nil))))) pa_nil)) (by rfl))
      (pss_cons (ps_if (PW.pt (pw_or (pt_cmpR (neRK C.K hr) (pe_callB (reprQK sm hg hr) (by rfl) B.repr (by decide +kernel) (pa_cons (pv 8) pa_nil)) (pe_callB (reprQK sm hg hr) (by rfl) B.repr (by decide +kernel) (pa_cons (pv 7) pa_nil)) (nomark _)) (pw_or1 (pt_cmpR (neRK C.K hr) (pe_callB (reprQK sm hg hr) (by rfl) B.repr (by decide +kernel) (pa_cons (pg_cal hg c_sizes_of hr (by rfl) (pa_cons (pv 1) (pa_cons (pv 5) pa_nil))) pa_nil)) (pe_callB (reprQK sm hg hr) (by rfl) B.repr (by decide +kernel) (pa_cons (pg_cal hg c_law_sizes hr (by rfl) (pa_cons (pv 5) pa_nil)) pa_nil)) (nomark _))))) (pss_one (ps_ret pe_bl)) pss_nil)
      (pss_cons (ps_expr (pe_bm PySem.F.plainAttrs_list PySem.F.slot_list_append PySem.F.type_list_append mt_append (pv 8) (pa_cons pe_int pa_nil)))
      (pss_cons (ps_if (pt_cmpR (neRK C.K hr) (pe_callB (lenA C.K) (by rfl) B.len PySem.boot_len (pa_cons (pv 7) pa_nil)) (pe_callB (sumK C.K rfl) (by rfl) B.sum (by decide +kernel) (pa_cons (pe_lc (own := [("part", 9)]) rfl sc_law_right.nd (pi_or (pi_listK C.K (pg_cal hg c_law_sizes hr (by rfl) (pa_cons (pv 5) pa_nil))) (pi_tupK C.K (pg_cal hg c_law_sizes hr (by rfl) (pa_cons (pv 5) pa_nil)))) (blkOk_by (N := ["generator", "orders", "sort", "first", "second", "row", "kept", "due", "told", "part"]) (sc := defScope s_law_right) (own := [("part", 9)]) (by decide +kernel)) (fun _ _ _ _ _ => (pg_name (i := 9) sc_law_right.nd rfl (by first | exact Or.inl rfl | exact Or.inr rfl))) (fun _ _ _ _ _ => pts_nil) (fun _ _ _ _ _ => (pe_op op_fdivW (pe_op op_mulA (pv 9) (pe_op op_sub (pv 9) pe_int)) pe_int))) pa_nil)) (nomark _)) (pss_one (ps_ret pe_bl)) pss_nil)
      (pss_cons (ps_set (i := 8) sc_law_right.nd rfl (by first | exact Or.inl rfl | exact Or.inr rfl) (pe_lst (pa_cons (pg_calK hg k_passing_pairs_second_first_kind_orders hr (by rfl) (pk_cons (pv 4) (pk_cons (pv 3) (pk_cons (pv 2) (pk_cons (pv 1) pk_nil))))) pa_nil)))
      (pss_cons (ps_set (i := 8) sc_law_right.nd rfl (by first | exact Or.inl rfl | exact Or.inr rfl) (pe_op (addK C.K) (pv 8) (pe_lst (pa_cons (pg_cal hg c_how_many_pass hr (by rfl) (pa_cons (pv 1) (pa_cons (pv 2) (pa_cons (pv 3) (pa_cons (pv 4) pa_nil))))) pa_nil))))
      (pss_cons (ps_set (i := 8) sc_law_right.nd rfl (by first | exact Or.inl rfl | exact Or.inr rfl) (pe_op (addK C.K) (pv 8) (pe_lst (pa_cons (pg_calK hg k_how_many_pass_second_first_kind_orders hr (by rfl) (pk_cons (pv 4) (pk_cons (pv 3) (pk_cons (pv 2) (pk_cons (pv 1) pk_nil))))) pa_nil))))
      (pss_one (ps_ret (pe_and (pe_cmpR (eqRK C.K hr) (pe_callB (reprQK sm hg hr) (by rfl) B.repr (by decide +kernel) (pa_cons (pv 8) pa_nil)) (pe_callB (reprQK sm hg hr) (by rfl) B.repr (by decide +kernel) (pa_cons (pe_lst (pa_cons (pv 7) (pa_cons (pe_callB (lenA C.K) (by rfl) B.len PySem.boot_len (pa_cons (pv 7) pa_nil)) (pa_cons (pe_callB (lenA C.K) (by rfl) B.len PySem.boot_len (pa_cons (pv 7) pa_nil)) pa_nil)))) pa_nil)) (nomark _)) (pe_one (pe_cmpR (eqRK C.K hr) (pe_callB (reprQK sm hg hr) (by rfl) B.repr (by decide +kernel) (pa_cons (pe_lst (pa_cons (pv 3) (pa_cons (pv 4) (pa_cons (pv 5) pa_nil)))) pa_nil)) (pv 6) (nomark _)))))))))))))))))), by kernel_rfl⟩
theorem sc_law : FnScope ["script", "index", "told"] ["script"] (defScope s_law) := ⟨rfl, rfl, rfl, by decide +kernel, rfl, by decide +kernel, by decide +kernel⟩
theorem ok_law {P : Program} {w : World} {C : N.Ctx} {mg : Str → Option Value} {base : Heap} (B : Bi mg) (sm : smB C.K = true) (c_law_right : Cal P w C.K mg base 8 "_law_right" ["generator"] (spN C false D.F_law_right_v224)) (c_law_generator : Cal P w C.K mg base 2 "_law_generator" ["script", "index"] (spN C false D.F_law_generator)) (c_passing_pairs : Cal P w C.K mg base 7 "passing_pairs" ["orders", "kind", "first", "second"] (spN C false D.F_passing_pairs_v4)) (c_how_many_pass : Cal P w C.K mg base 7 "how_many_pass" ["orders", "kind", "first", "second"] (spN C false D.F_how_many_pass_v3)) (h : Has C.K mg "law" s_law ["script"]) :
    Cal P w C.K mg base 9 "law" ["script"] (spN C false D.F_law_v346) :=
  has_m (N := ["script", "index", "told"]) (ps := ["script"]) h sc_law fun f cdv A outer s H E hg hr =>
    ⟨_, (pss_cons (ps_for PassesOwn.never rfl (pi_range1 (by rfl) B.range (pa_cons pe_int pa_nil)) (pg_name (i := 1) sc_law.nd rfl (by first | exact Or.inl rfl | exact Or.inr rfl)) (pss_one (ps_if (pt_not (pt_val (pg_cal hg c_law_right hr (by rfl) (pa_cons (pg_cal hg c_law_generator hr (by rfl) (pa_cons (pv 0) (pa_cons (pv 1) pa_nil))) pa_nil)))) (pss_one (ps_ret pe_bl)) pss_nil)))
      (pss_cons (ps_set (i := 2) sc_law.nd rfl (by first | exact Or.inl rfl | exact Or.inr rfl) (pe_lst (pa_cons (pg_cal hg c_passing_pairs hr (by rfl) (pa_cons (pe_tup (pa_cons pe_int pa_nil)) (pa_cons pe_str (pa_cons (pe_lst (pa_cons pe_int (pa_cons pe_int (pa_cons pe_int pa_nil)))) (pa_cons (pe_lst (pa_cons pe_int (pa_cons pe_int (pa_cons pe_int pa_nil)))) pa_nil))))) (pa_cons (pg_cal hg c_how_many_pass hr (by rfl) (pa_cons (pe_tup (pa_cons pe_int pa_nil)) (pa_cons pe_str (pa_cons (pe_lst (pa_cons pe_int (pa_cons pe_int (pa_cons pe_int pa_nil)))) (pa_cons (pe_lst (pa_cons pe_int (pa_cons pe_int (pa_cons pe_int pa_nil)))) pa_nil))))) pa_nil))))
      (pss_cons (ps_set (i := 2) sc_law.nd rfl (by first | exact Or.inl rfl | exact Or.inr rfl) (pe_op (addK C.K) (pv 2) (pe_lst (pa_cons (pg_cal hg c_how_many_pass hr (by rfl) (pa_cons (pe_tup (pa_cons pe_int (pa_cons pe_int pa_nil))) (pa_cons pe_str (pa_cons (pe_lst (pa_cons pe_int (pa_cons pe_int (pa_cons pe_int (pa_cons pe_int pa_nil))))) (pa_cons (pe_lst (pa_cons pe_int (pa_cons pe_int (pa_cons pe_int (pa_cons pe_int pa_nil))))) pa_nil))))) pa_nil))))
      (pss_cons (ps_set (i := 2) sc_law.nd rfl (by first | exact Or.inl rfl | exact Or.inr rfl) (pe_op (addK C.K) (pv 2) (pe_lst (pa_cons (pg_cal hg c_how_many_pass hr (by rfl) (pa_cons (pe_tup (pa_cons pe_int (pa_cons pe_int pa_nil))) (pa_cons pe_str (pa_cons (pe_lst (pa_cons pe_int (pa_cons pe_int (pa_cons pe_int (pa_cons pe_int pa_nil))))) (pa_cons (pe_lst (pa_cons pe_int (pa_cons pe_int (pa_cons pe_int (pa_cons pe_int pa_nil))))) pa_nil))))) pa_nil))))
      (pss_one (ps_ret (pe_cmpR (eqRK C.K hr) (pe_callB (reprQK sm hg hr) (by rfl) B.repr (by decide +kernel) (pa_cons (pv 2) pa_nil)) (pe_callB (reprQK sm hg hr) (by rfl) B.repr (by decide +kernel) (pa_cons (pe_lst (pa_cons (pe_lst (pa_cons (pe_tup (pa_cons pe_int (pa_cons pe_int pa_nil))) (pa_cons (pe_tup (pa_cons pe_int (pa_cons pe_int pa_nil))) (pa_cons (pe_tup (pa_cons pe_int (pa_cons pe_int pa_nil))) pa_nil)))) (pa_cons pe_int (pa_cons pe_int (pa_cons pe_int pa_nil))))) pa_nil)) (nomark _)))))))), by kernel_rfl⟩
theorem kw_passing_pairs_second_first_kind_orders {P : Program} {w : World} {K : PySem.W.Frag} {mg : Str → Option Value} {base : Heap} {k : Nat} {q : Sp} (c : Cal P w K mg base k "passing_pairs" ["orders", "kind", "first", "second"] q) (h : Has K mg "passing_pairs" s_passing_pairs ["orders", "kind", "first", "second"]) : CalK P w K mg base k "passing_pairs" ["orders", "kind", "first", "second"] ["second", "first", "kind", "orders"] (kwgI [3, 2, 1, 0]) q :=
  c.kw h (g := kwgI [3, 2, 1, 0]) (fun _ _ _ _ _ _ us ws hl => by obtain ⟨rfl, hl2⟩ := kwgI_len hl; match ws, hl2 with | [a0, a1, a2, a3], _ => rfl) (kwgI_rel [3, 2, 1, 0])
theorem kw_how_many_pass_second_first_kind_orders {P : Program} {w : World} {K : PySem.W.Frag} {mg : Str → Option Value} {base : Heap} {k : Nat} {q : Sp} (c : Cal P w K mg base k "how_many_pass" ["orders", "kind", "first", "second"] q) (h : Has K mg "how_many_pass" s_how_many_pass ["orders", "kind", "first", "second"]) : CalK P w K mg base k "how_many_pass" ["orders", "kind", "first", "second"] ["second", "first", "kind", "orders"] (kwgI [3, 2, 1, 0]) q :=
  c.kw h (g := kwgI [3, 2, 1, 0]) (fun _ _ _ _ _ _ us ws hl => by obtain ⟨rfl, hl2⟩ := kwgI_len hl; match ws, hl2 with | [a0, a1, a2, a3], _ => rfl) (kwgI_rel [3, 2, 1, 0])
end K29
end
section
set_option maxRecDepth 100000
set_option maxHeartbeats 0
namespace K29
open PySem PySem.Spec PyProof.Rows L2 G N
theorem facts {P : Program} {w : World} {K : PySem.W.Frag} {h : Heap} {mg : Str → Option Value} (X : K.In h) (Gn : h.Ns mainGlobals mg) (c : He.SaysM fa fn ex K) :
    ∃ fd : FuncData, (∀ (s : Shared) (v : Value), BindsTo s fd ⟨[v], []⟩ [("script", v)]) ∧ ∀ base : Heap, K.In base → base.Ns mainGlobals mg → FnG P w K mg base CX0 9 (He.ga K "law") fd ["script"] (spN ⟨K, fun _ => 0⟩ false D.F_law_v346) := by
  have mo : (G.smB K && He.tupB K "KINDS" [.str "swap", .str "twin"]) = true := c.more
  simp only [Bool.and_eq_true] at mo
  obtain ⟨sm0, t_KINDS⟩ := mo
  have sm : smB (N.Ctx.mk K (fun _ => 0)).K = true := sm0
  have g_KINDS : GTup mg K "KINDS" [.str "swap", .str "twin"] := gtup_of (x := "KINDS") (He.glo_ok X Gn (c.d.fact 58 (f := .glo "KINDS") rfl)) t_KINDS
  have B : Bi mg := ⟨He.free_ok X Gn (c.d.fact 43 (f := .free "all") rfl), He.free_ok X Gn (c.d.fact 44 (f := .free "bool") rfl), He.free_ok X Gn (c.d.fact 45 (f := .free "int") rfl), He.free_ok X Gn (c.d.fact 46 (f := .free "isinstance") rfl), He.free_ok X Gn (c.d.fact 47 (f := .free "len") rfl), He.free_ok X Gn (c.d.fact 48 (f := .free "list") rfl), He.free_ok X Gn (c.d.fact 49 (f := .free "max") rfl), He.free_ok X Gn (c.d.fact 50 (f := .free "range") rfl), He.free_ok X Gn (c.d.fact 51 (f := .free "repr") rfl), He.free_ok X Gn (c.d.fact 52 (f := .free "reversed") rfl), He.free_ok X Gn (c.d.fact 53 (f := .free "set") rfl), He.free_ok X Gn (c.d.fact 54 (f := .free "sorted") rfl), He.free_ok X Gn (c.d.fact 55 (f := .free "sum") rfl), He.free_ok X Gn (c.d.fact 56 (f := .free "tuple") rfl), He.free_ok X Gn (c.d.fact 57 (f := .free "zip") rfl)⟩
  have h_is_whole : Has K mg "is_whole" s_is_whole ["value"] := has_of (c.d.def_ 0 (d := mkD "is_whole" s_is_whole) rfl) (He.glo_ok X Gn (c.d.fact 0 (f := .glo "is_whole") rfl)) fun _ _ _ _ _ _ us hl => match us, hl with | [_], _ => rfl
  have h_is_from : Has K mg "is_from" s_is_from ["value", "least"] := has_of (c.d.def_ 1 (d := mkD "is_from" s_is_from) rfl) (He.glo_ok X Gn (c.d.fact 1 (f := .glo "is_from") rfl)) fun _ _ _ _ _ _ us hl => match us, hl with | [_, _], _ => rfl
  have h_is_below : Has K mg "is_below" s_is_below ["value", "many"] := has_of (c.d.def_ 2 (d := mkD "is_below" s_is_below) rfl) (He.glo_ok X Gn (c.d.fact 2 (f := .glo "is_below") rfl)) fun _ _ _ _ _ _ us hl => match us, hl with | [_, _], _ => rfl
  have h_are_below : Has K mg "are_below" s_are_below ["value", "many"] := has_of (c.d.def_ 3 (d := mkD "are_below" s_are_below) rfl) (He.glo_ok X Gn (c.d.fact 3 (f := .glo "are_below") rfl)) fun _ _ _ _ _ _ us hl => match us, hl with | [_, _], _ => rfl
  have h_is_each_once : Has K mg "is_each_once" s_is_each_once ["value", "many"] := has_of (c.d.def_ 4 (d := mkD "is_each_once" s_is_each_once) rfl) (He.glo_ok X Gn (c.d.fact 4 (f := .glo "is_each_once") rfl)) fun _ _ _ _ _ _ us hl => match us, hl with | [_, _], _ => rfl
  have h_size_of : Has K mg "size_of" s_size_of ["orders"] := has_of (c.d.def_ 5 (d := mkD "size_of" s_size_of) rfl) (He.glo_ok X Gn (c.d.fact 5 (f := .glo "size_of") rfl)) fun _ _ _ _ _ _ us hl => match us, hl with | [_], _ => rfl
  have h_plus : Has K mg "plus" s_plus ["orders", "member", "other"] := has_of (c.d.def_ 6 (d := mkD "plus" s_plus) rfl) (He.glo_ok X Gn (c.d.fact 6 (f := .glo "plus") rfl)) fun _ _ _ _ _ _ us hl => match us, hl with | [_, _, _], _ => rfl
  have h_minus : Has K mg "minus" s_minus ["orders", "member", "other"] := has_of (c.d.def_ 7 (d := mkD "minus" s_minus) rfl) (He.glo_ok X Gn (c.d.fact 7 (f := .glo "minus") rfl)) fun _ _ _ _ _ _ us hl => match us, hl with | [_, _, _], _ => rfl
  have h_pluses : Has K mg "pluses" s_pluses ["orders", "first", "second"] := has_of (c.d.def_ 8 (d := mkD "pluses" s_pluses) rfl) (He.glo_ok X Gn (c.d.fact 8 (f := .glo "pluses") rfl)) fun _ _ _ _ _ _ us hl => match us, hl with | [_, _, _], _ => rfl
  have h_minuses : Has K mg "minuses" s_minuses ["orders", "first", "second"] := has_of (c.d.def_ 9 (d := mkD "minuses" s_minuses) rfl) (He.glo_ok X Gn (c.d.fact 9 (f := .glo "minuses") rfl)) fun _ _ _ _ _ _ us hl => match us, hl with | [_, _, _], _ => rfl
  have h_times_each : Has K mg "times_each" s_times_each ["row"] := has_of (c.d.def_ 10 (d := mkD "times_each" s_times_each) rfl) (He.glo_ok X Gn (c.d.fact 10 (f := .glo "times_each") rfl)) fun _ _ _ _ _ _ us hl => match us, hl with | [_], _ => rfl
  have h_how_many_pairs : Has K mg "how_many_pairs" s_how_many_pairs ["sizes"] := has_of (c.d.def_ 11 (d := mkD "how_many_pairs" s_how_many_pairs) rfl) (He.glo_ok X Gn (c.d.fact 11 (f := .glo "how_many_pairs") rfl)) fun _ _ _ _ _ _ us hl => match us, hl with | [_], _ => rfl
  have h_how_many_equal : Has K mg "how_many_equal" s_how_many_equal ["row"] := has_of (c.d.def_ 12 (d := mkD "how_many_equal" s_how_many_equal) rfl) (He.glo_ok X Gn (c.d.fact 12 (f := .glo "how_many_equal") rfl)) fun _ _ _ _ _ _ us hl => match us, hl with | [_], _ => rfl
  have h_equal_pairs : Has K mg "equal_pairs" s_equal_pairs ["row"] := has_of (c.d.def_ 13 (d := mkD "equal_pairs" s_equal_pairs) rfl) (He.glo_ok X Gn (c.d.fact 13 (f := .glo "equal_pairs") rfl)) fun _ _ _ _ _ _ us hl => match us, hl with | [_], _ => rfl
  have h_are_orders : Has K mg "are_orders" s_are_orders ["value"] := has_of (c.d.def_ 14 (d := mkD "are_orders" s_are_orders) rfl) (He.glo_ok X Gn (c.d.fact 14 (f := .glo "are_orders") rfl)) fun _ _ _ _ _ _ us hl => match us, hl with | [_], _ => rfl
  have h_check_orders : Has K mg "check_orders" s_check_orders ["orders"] := has_of (c.d.def_ 15 (d := mkD "check_orders" s_check_orders) rfl) (He.glo_ok X Gn (c.d.fact 15 (f := .glo "check_orders") rfl)) fun _ _ _ _ _ _ us hl => match us, hl with | [_], _ => rfl
  have h_check_table : Has K mg "check_table" s_check_table ["orders", "table"] := has_of (c.d.def_ 16 (d := mkD "check_table" s_check_table) rfl) (He.glo_ok X Gn (c.d.fact 16 (f := .glo "check_table") rfl)) fun _ _ _ _ _ _ us hl => match us, hl with | [_, _], _ => rfl
  have h_check_row : Has K mg "check_row" s_check_row ["orders", "row"] := has_of (c.d.def_ 17 (d := mkD "check_row" s_check_row) rfl) (He.glo_ok X Gn (c.d.fact 17 (f := .glo "check_row") rfl)) fun _ _ _ _ _ _ us hl => match us, hl with | [_, _], _ => rfl
  have h_is_row_of : Has K mg "is_row_of" s_is_row_of ["many", "value"] := has_of (c.d.def_ 18 (d := mkD "is_row_of" s_is_row_of) rfl) (He.glo_ok X Gn (c.d.fact 18 (f := .glo "is_row_of") rfl)) fun _ _ _ _ _ _ us hl => match us, hl with | [_, _], _ => rfl
  have h_check_wish_kind : Has K mg "check_wish_kind" s_check_wish_kind ["kind"] := has_of (c.d.def_ 19 (d := mkD "check_wish_kind" s_check_wish_kind) rfl) (He.glo_ok X Gn (c.d.fact 19 (f := .glo "check_wish_kind") rfl)) fun _ _ _ _ _ _ us hl => match us, hl with | [_], _ => rfl
  have h_row_by : Has K mg "row_by" s_row_by ["orders", "kind", "first", "second"] := has_of (c.d.def_ 20 (d := mkD "row_by" s_row_by) rfl) (He.glo_ok X Gn (c.d.fact 20 (f := .glo "row_by") rfl)) fun _ _ _ _ _ _ us hl => match us, hl with | [_, _, _, _], _ => rfl
  have h_passing_pairs : Has K mg "passing_pairs" s_passing_pairs ["orders", "kind", "first", "second"] := has_of (c.d.def_ 21 (d := mkD "passing_pairs" s_passing_pairs) rfl) (He.glo_ok X Gn (c.d.fact 21 (f := .glo "passing_pairs") rfl)) fun _ _ _ _ _ _ us hl => match us, hl with | [_, _, _, _], _ => rfl
  have h_how_many_pass : Has K mg "how_many_pass" s_how_many_pass ["orders", "kind", "first", "second"] := has_of (c.d.def_ 22 (d := mkD "how_many_pass" s_how_many_pass) rfl) (He.glo_ok X Gn (c.d.fact 22 (f := .glo "how_many_pass") rfl)) fun _ _ _ _ _ _ us hl => match us, hl with | [_, _, _, _], _ => rfl
  have h_check_pair : Has K mg "check_pair" s_check_pair ["orders", "kind", "first", "second"] := has_of (c.d.def_ 23 (d := mkD "check_pair" s_check_pair) rfl) (He.glo_ok X Gn (c.d.fact 23 (f := .glo "check_pair") rfl)) fun _ _ _ _ _ _ us hl => match us, hl with | [_, _, _, _], _ => rfl
  have h_sizes_of : Has K mg "sizes_of" s_sizes_of ["orders", "row"] := has_of (c.d.def_ 24 (d := mkD "sizes_of" s_sizes_of) rfl) (He.glo_ok X Gn (c.d.fact 24 (f := .glo "sizes_of") rfl)) fun _ _ _ _ _ _ us hl => match us, hl with | [_, _], _ => rfl
  have h_sizes_borne : Has K mg "sizes_borne" s_sizes_borne ["row"] := has_of (c.d.def_ 25 (d := mkD "sizes_borne" s_sizes_borne) rfl) (He.glo_ok X Gn (c.d.fact 25 (f := .glo "sizes_borne") rfl)) fun _ _ _ _ _ _ us hl => match us, hl with | [_], _ => rfl
  have h_law_hash : Has K mg "_law_hash" s_law_hash ["seed", "index"] := has_of (c.d.def_ 26 (d := mkD "_law_hash" s_law_hash) rfl) (He.glo_ok X Gn (c.d.fact 26 (f := .glo "_law_hash") rfl)) fun _ _ _ _ _ _ us hl => match us, hl with | [_, _], _ => rfl
  have h_law_random : Has K mg "_law_random" s_law_random ["generator", "bound"] := has_of (c.d.def_ 27 (d := mkD "_law_random" s_law_random) rfl) (He.glo_ok X Gn (c.d.fact 27 (f := .glo "_law_random") rfl)) fun _ _ _ _ _ _ us hl => match us, hl with | [_, _], _ => rfl
  have h_law_cell : Has K mg "_law_cell" s_law_cell ["script", "index"] := has_of (c.d.def_ 28 (d := mkD "_law_cell" s_law_cell) rfl) (He.glo_ok X Gn (c.d.fact 28 (f := .glo "_law_cell") rfl)) fun _ _ _ _ _ _ us hl => match us, hl with | [_, _], _ => rfl
  have h_law_generator : Has K mg "_law_generator" s_law_generator ["script", "index"] := has_of (c.d.def_ 29 (d := mkD "_law_generator" s_law_generator) rfl) (He.glo_ok X Gn (c.d.fact 29 (f := .glo "_law_generator") rfl)) fun _ _ _ _ _ _ us hl => match us, hl with | [_, _], _ => rfl
  have h_law_groups : Has K mg "_law_groups" s_law_groups [] := has_of (c.d.def_ 30 (d := mkD "_law_groups" s_law_groups) rfl) (He.glo_ok X Gn (c.d.fact 30 (f := .glo "_law_groups") rfl)) fun _ _ _ _ _ _ us hl => match us, hl with | [], _ => rfl
  have h_law_size : Has K mg "_law_size" s_law_size ["orders"] := has_of (c.d.def_ 31 (d := mkD "_law_size" s_law_size) rfl) (He.glo_ok X Gn (c.d.fact 31 (f := .glo "_law_size") rfl)) fun _ _ _ _ _ _ us hl => match us, hl with | [_], _ => rfl
  have h_law_added : Has K mg "_law_added" s_law_added ["orders", "one", "other"] := has_of (c.d.def_ 32 (d := mkD "_law_added" s_law_added) rfl) (He.glo_ok X Gn (c.d.fact 32 (f := .glo "_law_added") rfl)) fun _ _ _ _ _ _ us hl => match us, hl with | [_, _, _], _ => rfl
  have h_law_minus : Has K mg "_law_minus" s_law_minus ["orders", "one"] := has_of (c.d.def_ 33 (d := mkD "_law_minus" s_law_minus) rfl) (He.glo_ok X Gn (c.d.fact 33 (f := .glo "_law_minus") rfl)) fun _ _ _ _ _ _ us hl => match us, hl with | [_, _], _ => rfl
  have h_law_table : Has K mg "_law_table" s_law_table ["generator", "orders"] := has_of (c.d.def_ 34 (d := mkD "_law_table" s_law_table) rfl) (He.glo_ok X Gn (c.d.fact 34 (f := .glo "_law_table") rfl)) fun _ _ _ _ _ _ us hl => match us, hl with | [_, _], _ => rfl
  have h_law_group : Has K mg "_law_group" s_law_group ["generator", "most"] := has_of (c.d.def_ 35 (d := mkD "_law_group" s_law_group) rfl) (He.glo_ok X Gn (c.d.fact 35 (f := .glo "_law_group") rfl)) fun _ _ _ _ _ _ us hl => match us, hl with | [_, _], _ => rfl
  have h_law_row : Has K mg "_law_row" s_law_row ["orders", "sort", "first", "second"] := has_of (c.d.def_ 36 (d := mkD "_law_row" s_law_row) rfl) (He.glo_ok X Gn (c.d.fact 36 (f := .glo "_law_row") rfl)) fun _ _ _ _ _ _ us hl => match us, hl with | [_, _, _, _], _ => rfl
  have h_law_pairs : Has K mg "_law_pairs" s_law_pairs ["row"] := has_of (c.d.def_ 37 (d := mkD "_law_pairs" s_law_pairs) rfl) (He.glo_ok X Gn (c.d.fact 37 (f := .glo "_law_pairs") rfl)) fun _ _ _ _ _ _ us hl => match us, hl with | [_], _ => rfl
  have h_law_sizes : Has K mg "_law_sizes" s_law_sizes ["row"] := has_of (c.d.def_ 38 (d := mkD "_law_sizes" s_law_sizes) rfl) (He.glo_ok X Gn (c.d.fact 38 (f := .glo "_law_sizes") rfl)) fun _ _ _ _ _ _ us hl => match us, hl with | [_], _ => rfl
  have h_law_sort : Has K mg "_law_sort" s_law_sort ["generator"] := has_of (c.d.def_ 39 (d := mkD "_law_sort" s_law_sort) rfl) (He.glo_ok X Gn (c.d.fact 39 (f := .glo "_law_sort") rfl)) fun _ _ _ _ _ _ us hl => match us, hl with | [_], _ => rfl
  have h_law_right : Has K mg "_law_right" s_law_right ["generator"] := has_of (c.d.def_ 40 (d := mkD "_law_right" s_law_right) rfl) (He.glo_ok X Gn (c.d.fact 40 (f := .glo "_law_right") rfl)) fun _ _ _ _ _ _ us hl => match us, hl with | [_], _ => rfl
  have h_law : Has K mg "law" s_law ["script"] := has_of (c.d.def_ 41 (d := mkD "law" s_law) rfl) (He.glo_ok X Gn (c.d.fact 41 (f := .glo "law") rfl)) fun _ _ _ _ _ _ us hl => match us, hl with | [_], _ => rfl
  refine law_end (x := "law") (y := "script") (st := s_law) (c.d.def_ 41 (d := mkD "law" s_law) rfl) (He.glo_ok X Gn (c.d.fact 41 (f := .glo "law") rfl)) (fun _ _ _ _ _ _ us hl => match us, hl with | [_], _ => rfl) fun base hb hn => ?_
  have c_is_whole := ok_is_whole (P := P) (w := w) (C := ⟨K, fun _ => 0⟩) (base := base) B sm h_is_whole
  have c_size_of := ok_size_of (P := P) (w := w) (C := ⟨K, fun _ => 0⟩) (base := base) B sm h_size_of
  have c_plus := ok_plus (P := P) (w := w) (C := ⟨K, fun _ => 0⟩) (base := base) B sm h_plus
  have c_minus := ok_minus (P := P) (w := w) (C := ⟨K, fun _ => 0⟩) (base := base) B sm h_minus
  have c_times_each := ok_times_each (P := P) (w := w) (C := ⟨K, fun _ => 0⟩) (base := base) B sm h_times_each
  have c_how_many_pairs := ok_how_many_pairs (P := P) (w := w) (C := ⟨K, fun _ => 0⟩) (base := base) B sm h_how_many_pairs
  have c_equal_pairs := ok_equal_pairs (P := P) (w := w) (C := ⟨K, fun _ => 0⟩) (base := base) B sm h_equal_pairs
  have c_check_wish_kind := ok_check_wish_kind (P := P) (w := w) (C := ⟨K, fun _ => 0⟩) (base := base) B sm g_KINDS h_check_wish_kind
  have c_law_hash := ok_law_hash (P := P) (w := w) (C := ⟨K, fun _ => 0⟩) (base := base) B sm h_law_hash
  have c_law_cell := ok_law_cell (P := P) (w := w) (C := ⟨K, fun _ => 0⟩) (base := base) B sm h_law_cell
  have c_law_groups := ok_law_groups (P := P) (w := w) (C := ⟨K, fun _ => 0⟩) (base := base) B sm h_law_groups
  have c_law_size := ok_law_size (P := P) (w := w) (C := ⟨K, fun _ => 0⟩) (base := base) B sm h_law_size
  have c_law_added := ok_law_added (P := P) (w := w) (C := ⟨K, fun _ => 0⟩) (base := base) B sm h_law_added
  have c_law_minus := ok_law_minus (P := P) (w := w) (C := ⟨K, fun _ => 0⟩) (base := base) B sm h_law_minus
  have c_law_pairs := ok_law_pairs (P := P) (w := w) (C := ⟨K, fun _ => 0⟩) (base := base) B sm h_law_pairs
  have c_law_sizes := ok_law_sizes (P := P) (w := w) (C := ⟨K, fun _ => 0⟩) (base := base) B sm h_law_sizes
  have c_is_from := ok_is_from (P := P) (w := w) (C := ⟨K, fun _ => 0⟩) (base := base) B sm c_is_whole h_is_from
  have c_is_below := ok_is_below (P := P) (w := w) (C := ⟨K, fun _ => 0⟩) (base := base) B sm c_is_whole h_is_below
  have c_pluses := ok_pluses (P := P) (w := w) (C := ⟨K, fun _ => 0⟩) (base := base) B sm c_plus h_pluses
  have c_minuses := ok_minuses (P := P) (w := w) (C := ⟨K, fun _ => 0⟩) (base := base) B sm c_minus h_minuses
  have c_how_many_equal := ok_how_many_equal (P := P) (w := w) (C := ⟨K, fun _ => 0⟩) (base := base) B sm c_how_many_pairs c_times_each h_how_many_equal
  have c_sizes_borne := ok_sizes_borne (P := P) (w := w) (C := ⟨K, fun _ => 0⟩) (base := base) B sm c_times_each h_sizes_borne
  have c_law_random := ok_law_random (P := P) (w := w) (C := ⟨K, fun _ => 0⟩) (base := base) B sm c_law_hash h_law_random
  have c_law_generator := ok_law_generator (P := P) (w := w) (C := ⟨K, fun _ => 0⟩) (base := base) B sm c_law_cell h_law_generator
  have c_law_row := ok_law_row (P := P) (w := w) (C := ⟨K, fun _ => 0⟩) (base := base) B sm c_law_added c_law_minus h_law_row
  have c_are_below := ok_are_below (P := P) (w := w) (C := ⟨K, fun _ => 0⟩) (base := base) B sm c_is_below h_are_below
  have c_are_orders := ok_are_orders (P := P) (w := w) (C := ⟨K, fun _ => 0⟩) (base := base) B sm c_is_from h_are_orders
  have c_row_by := ok_row_by (P := P) (w := w) (C := ⟨K, fun _ => 0⟩) (base := base) B sm c_minuses c_pluses h_row_by
  have c_law_table := ok_law_table (P := P) (w := w) (C := ⟨K, fun _ => 0⟩) (base := base) B sm c_law_size c_law_random c_law_added h_law_table
  have c_law_group := ok_law_group (P := P) (w := w) (C := ⟨K, fun _ => 0⟩) (base := base) B sm c_law_groups c_law_size c_law_random h_law_group
  have c_law_sort := ok_law_sort (P := P) (w := w) (C := ⟨K, fun _ => 0⟩) (base := base) B sm c_law_random h_law_sort
  have c_is_each_once := ok_is_each_once (P := P) (w := w) (C := ⟨K, fun _ => 0⟩) (base := base) B sm c_are_below h_is_each_once
  have c_check_orders := ok_check_orders (P := P) (w := w) (C := ⟨K, fun _ => 0⟩) (base := base) B sm c_are_orders h_check_orders
  have c_is_row_of := ok_is_row_of (P := P) (w := w) (C := ⟨K, fun _ => 0⟩) (base := base) B sm c_are_below h_is_row_of
  have c_check_table := ok_check_table (P := P) (w := w) (C := ⟨K, fun _ => 0⟩) (base := base) B sm c_is_each_once c_size_of h_check_table
  have c_check_row := ok_check_row (P := P) (w := w) (C := ⟨K, fun _ => 0⟩) (base := base) B sm c_is_row_of c_size_of h_check_row
  have c_check_pair := ok_check_pair (P := P) (w := w) (C := ⟨K, fun _ => 0⟩) (base := base) B sm c_check_orders c_check_wish_kind c_check_table h_check_pair
  have c_sizes_of := ok_sizes_of (P := P) (w := w) (C := ⟨K, fun _ => 0⟩) (base := base) B sm c_check_orders c_check_row c_sizes_borne h_sizes_of
  have c_passing_pairs := ok_passing_pairs (P := P) (w := w) (C := ⟨K, fun _ => 0⟩) (base := base) B sm c_check_pair c_equal_pairs c_row_by h_passing_pairs
  have c_how_many_pass := ok_how_many_pass (P := P) (w := w) (C := ⟨K, fun _ => 0⟩) (base := base) B sm c_check_pair c_how_many_equal c_row_by h_how_many_pass
  have k_passing_pairs_second_first_kind_orders := kw_passing_pairs_second_first_kind_orders c_passing_pairs h_passing_pairs
  have k_how_many_pass_second_first_kind_orders := kw_how_many_pass_second_first_kind_orders c_how_many_pass h_how_many_pass
  have c_law_right := ok_law_right (P := P) (w := w) (C := ⟨K, fun _ => 0⟩) (base := base) B sm c_law_group c_law_sort c_law_table c_law_random c_law_row c_law_pairs c_passing_pairs c_sizes_of c_law_sizes c_how_many_pass k_passing_pairs_second_first_kind_orders k_how_many_pass_second_first_kind_orders h_law_right
  exact ok_law (P := P) (w := w) (C := ⟨K, fun _ => 0⟩) (base := base) B sm c_law_right c_law_generator c_passing_pairs c_how_many_pass h_law
def Good : Prop := ∀ ns : List Int, ns.length ≤ 63 → FD D.F_law_v346 [.list (ns.map .int)] = some (.bool true)
end K29
open PySem PySem.W PySem.Calls PyProof.Rows
theorem K29.holds_of (good : K29.Good) : PySem.Challenge.rw_checkwright_k29_whole_pairs_that_pass.Holds := by
  w_on; o_law
  refine HandSHeadRun.head_any (r := OpenLaw.row PySem.Challenge.rw_checkwright_k29_whole_pairs_that_pass) (q := view (OpenLaw.row PySem.Challenge.rw_checkwright_k29_whole_pairs_that_pass).prog [55]) (H := K29.hk) (ob := K29.ob) (M := 3800) (loose := K29.ls) (d := HandSHeadRun.topDef (OpenLaw.row PySem.Challenge.rw_checkwright_k29_whole_pairs_that_pass).prog 55) (kwd := []) K29.ob_eq
    (by kernel_rfl) (fun s => by kernel_rfl) K29.run (by kernel_rfl) (by kernel_rfl) (by kernel_rfl) (by rfl) (by first | assumption | decide +kernel) (by decide +kernel) ⟨rfl, rfl, rfl, rfl, rfl, by decide +kernel⟩ ?hw ?hc
  case hw => w_witness2
  case hc =>
    refine G.walk_gE (l := PySem.Challenge.rw_checkwright_k29_whole_pairs_that_pass) (n := 63) (k := 9) (x := "script") rfl (by decide) (by kernel_rfl) ⟨rfl, by decide, by decide⟩ ?F
    intro w mg fa h Y Gn hmg0
    obtain ⟨K, KX, c⟩ := Y
    have hmg : mg ("law" : PySem.Str) = some (.ref fa) := by
      have e : (HandSHeadRun.topDef (OpenLaw.row PySem.Challenge.rw_checkwright_k29_whole_pairs_that_pass).prog 55).name = ("law" : PySem.Str) := by kernel_rfl
      rw [← e]
      exact hmg0
    have e2 := hmg.symm.trans (He.glo_ok KX Gn (c.d.fact 41 (f := .glo "law") rfl))
    cases e2
    obtain ⟨fd, hb, hF⟩ := K29.facts (P := (PySem.Challenge.rw_checkwright_k29_whole_pairs_that_pass).prog) (w := w) KX Gn c
    exact ⟨K, fd, _, KX, hb, fun H a ns hl _ hS => N.law_sp hS (good ns hl), hF⟩
end
section
set_option maxRecDepth 100000
set_option maxHeartbeats 2000000
namespace D
open PySem PySem.Spec PyProof.Rows L2 G N
def hashI (s i : Int) : Int := ((((s * 1140671 + 27644437 * i * i + 131 * i + 19) % 2147483629) * ((s * 1140671 + 27644437 * i * i + 131 * i + 19) % 2147483629) + 62089 * i + 32416187) % 2147483587 * 48271) % 2147483647
theorem mod_lo {a m : Int} (h : 0 < m) : 0 ≤ a % m := Int.emod_nonneg _ (by omega)
theorem mod_hi {a m : Int} (h : 0 < m) : a % m < m := Int.emod_lt_of_pos _ h
theorem hashI_lo (s i : Int) : 0 ≤ hashI s i := mod_lo (by decide)
theorem hashI_hi (s i : Int) : hashI s i < 2147483647 := mod_hi (by decide)
theorem sm_nat {a : Int} {m : Nat} (h0 : 0 ≤ a) (h1 : a < (m : Int)) (h : m ≤ 2 ^ 4000) : sm a = true := by
  unfold sm
  refine decide_eq_true (Nat.lt_of_lt_of_le ?_ h)
  omega
theorem sm_lo {a : Int} (h0 : 0 ≤ a) (h1 : a < 1000000000000000000000000000000000000000000000000000000000000) : sm a = true := sm_nat (m := 1000000000000000000000000000000000000000000000000000000000000) h0 h1 (by decide +kernel)
structure Gn (k : Nat) (es : List PyData) : Prop where
  ex : ∃ a b c : Int, es = [.int a, .int b, .int c] ∧ 0 ≤ a ∧ sm a = true ∧ 0 ≤ b ∧ b < 2147483647 ∧ 0 ≤ c ∧ c ≤ (k : Int)
theorem Gn.mono {k l : Nat} {es : List PyData} (g : Gn k es) (h : k ≤ l) : Gn l es := by
  obtain ⟨a, b, c, h1, h2, h3, h4, h5, h6, h7⟩ := g.ex
  exact ⟨a, b, c, h1, h2, h3, h4, h5, h6, by omega⟩
theorem rng_len (a b : Int) : (SI.rng a b).length = (b - a).toNat := by unfold SI.rng; rw [List.length_map, List.length_range]
theorem bitsOf_le {n : Int} {m : Nat} (h0 : 0 < n) (h : n < ((2 ^ m : Nat) : Int)) : 0 ≤ bitsOf n ∧ bitsOf n ≤ m := by
  refine ⟨Int.natCast_nonneg _, ?_⟩
  have e : n.natAbs < 2 ^ m := by
    have : (n.natAbs : Int) < ((2 ^ m : Nat) : Int) := by rw [Int.natAbs_of_nonneg (by omega)]; exact h
    exact_mod_cast this
  have := PyProof.Rows.intBits_le e
  unfold bitsOf
  exact_mod_cast this
end D
end
section
set_option maxRecDepth 100000
set_option maxHeartbeats 2000000
namespace D
open PySem PySem.Spec PyProof.Rows L2 G N
theorem atD_ints {ns : List Int} {i : Int} (h0 : 0 ≤ i) (h1 : i < ns.length) : ∃ j, atD (ns.map PyData.int) i = some (.int j) := by
  unfold atD
  rw [if_pos h0]
  have hl : i.toNat < ns.length := by omega
  exact ⟨ns[i.toNat], by rw [List.getElem?_map, List.getElem?_eq_getElem hl]; rfl⟩
theorem cut_ints (ns : List Int) (l u : Option Int) : ∃ ms : List Int, G.cutD (ns.map PyData.int) l u = ms.map .int := by
  unfold G.cutD
  rw [List.map_drop.symm, List.map_take.symm]
  exact ⟨_, rfl⟩
def M600 : Int := 1000000000000000000000000000000000000000000000000000000000000 ^ 10
end D
end
section
set_option maxRecDepth 100000
set_option maxHeartbeats 2000000
namespace D
open PySem PySem.Spec PyProof.Rows L2 G N
structure Ps (d : PyData) : Prop where
  p : pl d = true
  dep : d.depth ≤ 60
  blk : d.bulk ≤ 900000
theorem Ps.pl {d : PyData} (h : Ps d) : Pl d := ⟨h.p, by have := h.dep; omega, by have := h.blk; omega⟩
theorem okR_of {d : PyData} (h : Ps d) : okR d = true := by
  have q := PyData.shown_le_bulk 13 (by decide) d (pl_facts d h.p).2.1
  have b := h.blk
  have e := h.dep
  unfold okR
  rw [(pl_facts d h.p).2.2.1, decide_eq_true (show d.depth ≤ 100 by omega), decide_eq_true (show d.shown.length ≤ 16000000 by omega)]
  rfl
theorem repr_pl {d : PyData} (h : Ps d) : reprD [d] = some (.str d.shown) := by
  show (if okR d = true then _ else _) = _
  rw [if_pos (okR_of h)]
@[simp] theorem eqS (x : Str) : eqD false (.str x) (.str x) = some (.bool true) := by unfold eqD; simp
@[simp] theorem neS (x : Str) : eqD true (.str x) (.str x) = some (.bool false) := by unfold eqD; simp
def isI : PyData → Bool
  | .int _ => true
  | _ => false
def below (n : Int) : PyData → Bool
  | .int i => decide (0 ≤ i) && decide (i < n)
  | _ => false
def fromB (n : Int) : PyData → Bool
  | .int i => decide (n ≤ i)
  | _ => false
theorem boolsOf_fun (f : PyData → Bool) (xs : List PyData) : boolsOf (xs.map fun x => .bool (f x)) = some (xs.map f) := by
  have e : (xs.map fun x => PyData.bool (f x)) = (xs.map f).map .bool := by rw [List.map_map]; rfl
  rw [e, boolsOf_map]
theorem all_fun (f : PyData → Bool) (xs : List PyData) : allD [.list (xs.map fun x => .bool (f x))] = some (.bool (xs.all f)) := by
  show (boolsOf _).map _ = _
  rw [boolsOf_fun]
  simp [List.all_map]
def belowL (n : Int) : PyData → Bool
  | .list xs => xs.all (below n)
  | _ => false
def toInt : PyData → Int
  | .int i => i
  | _ => 0
theorem ints_of_below {n : Int} : ∀ {xs : List PyData}, xs.all (below n) = true → intsOf xs = some (xs.map toInt)
  | [], _ => rfl
  | x :: xs, h => by
    rw [List.all_cons, Bool.and_eq_true] at h
    cases x with
    | int i =>
      rw [intsOf, ints_of_below h.2]
      rfl
    | _ => simp [below] at h
def eachB (n : Int) : PyData → Bool
  | .list xs => decide ((xs.length : Int) = n) && (xs.all (below n) && decide (((disL (xs.map toInt)).length : Int) = n))
  | _ => false
structure IsP (n : Nat) (r : List Int) : Prop where
  len : r.length = n
  nd : r.Nodup
  lo : ∀ x ∈ r, 0 ≤ x
  hi : ∀ x ∈ r, x < n
theorem all_below {n : Int} {r : List Int} (lo : ∀ x ∈ r, 0 ≤ x) (hi : ∀ x ∈ r, x < n) : (r.map PyData.int).all (below n) = true := by
  rw [List.all_eq_true]
  intro d hd
  obtain ⟨x, hx, rfl⟩ := List.mem_map.mp hd
  simp [below, lo x hx, hi x hx]
theorem toInt_ints (r : List Int) : (r.map PyData.int).map toInt = r := by
  rw [List.map_map]
  exact List.map_id r
theorem IsP.each {n : Nat} {r : List Int} (h : IsP n r) : eachB n (.list (r.map .int)) = true := by
  simp only [eachB, toInt_ints, List.length_map, h.len, all_below h.lo h.hi, Bool.and_eq_true, decide_eq_true_eq, true_and]
  rw [(dis_iff r).mpr h.nd, h.len]
end D
end
section
set_option maxRecDepth 100000
set_option maxHeartbeats 1000000
namespace D
open PySem PySem.Spec PyProof.Rows L2 G N J
def Y_is_whole (v_value : D) : Option (D) :=
  bd (boolD (.bool (isT .int v_value))) fun t4 => bd (if t4 = true then bd (boolD (.bool (isT .bool v_value))) fun t3 => some (.bool (!t3)) else some (.bool false)) fun t5 => some t5
def M_is_whole : List D → Option (D)
  | [v_value] => Y_is_whole v_value
  | _ => none
theorem y_is_whole : ∀ (xs : List D) (z : D), M_is_whole xs = some z → FD F_is_whole xs = some z
  | [v_value], z, e => fd_ofJ (xs := [v_value]) rfl (Nat.le_of_ble_eq_true rfl) (by
      have j : JR Pd [.d v_value] _ _ := (jr_of (env := [.d (v_value)]) (jt_ret (env := [.d (v_value)]) (ce_andV (ce_isi .int (ce_var 0 rfl)) fun q1 => (ce_notV (ce_isi .bool (ce_var 0 rfl))))))
      exact j) e
end D
end
section
set_option maxRecDepth 100000
set_option maxHeartbeats 1000000
namespace D
open PySem PySem.Spec PyProof.Rows L2 G N J
def Y_is_below (v_value : D) (v_many : D) : Option (D) :=
  bd (Y_is_whole v_value) fun t1 => bd (boolD t1) fun t7 => bd (if t7 = true then bd (oLe.f (.int 0) v_value) fun t4 => bd (boolD t4) fun t5 => bd (if t5 = true then oLt.f v_value v_many else some (.bool false)) fun t6 => some t6 else some (.bool false)) fun t8 => some t8
def M_is_below : List D → Option (D)
  | [v_value, v_many] => Y_is_below v_value v_many
  | _ => none
theorem y_is_below : ∀ (xs : List D) (z : D), M_is_below xs = some z → FD F_is_below xs = some z
  | [v_value, v_many], z, e => fd_ofJ (xs := [v_value, v_many]) rfl (Nat.le_of_ble_eq_true rfl) (by
      have j : JR Pd [.d v_value, .d v_many] _ _ := (jr_of (env := [.d (v_value), .d (v_many)]) (jt_ret (env := [.d (v_value), .d (v_many)]) (ce_andV (ce_call M_is_whole y_is_whole (cl_cons (ce_var 0 rfl) fun _ => cl_nil)) fun q2 => (ce_chain oLe oLt (ce_int 0) (fun _ => (ce_var 0 rfl)) fun _ _ => (ce_var 1 rfl)))))
      exact j) e
end D
end
section
set_option maxRecDepth 100000
set_option maxHeartbeats 1000000
namespace D
open PySem PySem.Spec PyProof.Rows L2 G N J
def Y_is_from (v_value : D) (v_least : D) : Option (D) :=
  bd (Y_is_whole v_value) fun t1 => bd (boolD t1) fun t5 => bd (if t5 = true then bd (oGe.f v_value v_least) fun t4 => some t4 else some (.bool false)) fun t6 => some t6
def M_is_from : List D → Option (D)
  | [v_value, v_least] => Y_is_from v_value v_least
  | _ => none
theorem y_is_from : ∀ (xs : List D) (z : D), M_is_from xs = some z → FD F_is_from xs = some z
  | [v_value, v_least], z, e => fd_ofJ (xs := [v_value, v_least]) rfl (Nat.le_of_ble_eq_true rfl) (by
      have j : JR Pd [.d v_value, .d v_least] _ _ := (jr_of (env := [.d (v_value), .d (v_least)]) (jt_ret (env := [.d (v_value), .d (v_least)]) (ce_andV (ce_call M_is_whole y_is_whole (cl_cons (ce_var 0 rfl) fun _ => cl_nil)) fun q2 => (ce_op oGe (ce_var 0 rfl) (fun _ => (ce_var 1 rfl))))))
      exact j) e
end D
end
section
set_option maxRecDepth 100000
set_option maxHeartbeats 1000000
namespace D
open PySem PySem.Spec PyProof.Rows L2 G N J
def Y_are_below (v_value : D) (v_many : D) : Option (D) :=
  bd (boolD (.bool (isT .list v_value))) fun t9 => bd (if t9 = true then bd (seqD v_value) fun t3 => bd (if (t3).length ≤ 1000000 then mapO (fun x4 => bd (Y_is_below x4 v_many) fun t6 => some t6) t3 else none) fun ys7 => bd (bAll.f [(.list ys7)]) fun t8 => some t8 else some (.bool false)) fun t10 => some t10
def M_are_below : List D → Option (D)
  | [v_value, v_many] => Y_are_below v_value v_many
  | _ => none
theorem y_are_below : ∀ (xs : List D) (z : D), M_are_below xs = some z → FD F_are_below xs = some z
  | [v_value, v_many], z, e => fd_ofJ (xs := [v_value, v_many]) rfl (Nat.le_of_ble_eq_true rfl) (by
      have j : JR Pd [.d v_value, .d v_many, .no] _ _ := (jr_of (env := [.d (v_value), .d (v_many), .no]) (jt_ret (env := [.d (v_value), .d (v_many), .no]) (ce_andV (ce_isi .list (ce_var 0 rfl)) fun q1 => (ce_cb bAll (cl_cons (ce_lcY (ci_seq (ce_var 0 rfl)) (fun _ => (ct_name 2 (Nat.lt_of_sub_pos (Nat.le_of_ble_eq_true rfl)))) fun _ a5 => (ce_call M_is_below y_is_below (cl_cons (ce_var 2 rfl) fun _ => (cl_cons (ce_var 1 rfl) fun _ => cl_nil)))) fun _ => cl_nil)))))
      exact j) e
end D
end
section
set_option maxRecDepth 100000
set_option maxHeartbeats 1000000
namespace D
open PySem PySem.Spec PyProof.Rows L2 G N J
def Y_is_each_once (v_value : D) (v_many : D) : Option (D) :=
  bd (boolD (.bool (isT .list v_value))) fun b1 => bd (if (!b1) = true then some true else bd (bLen.f [v_value]) fun t4 => bd (oNe.f t4 v_many) fun t5 => bd (boolD t5) fun b6 => some b6) fun b7 => if b7 = true then some (.bool false) else bd (Y_are_below v_value v_many) fun t9 => bd (boolD t9) fun t14 => bd (if t14 = true then bd (lenSetD v_value) fun t12 => bd (oEq.f t12 v_many) fun t13 => some t13 else some (.bool false)) fun t15 => some t15
def M_is_each_once : List D → Option (D)
  | [v_value, v_many] => Y_is_each_once v_value v_many
  | _ => none
theorem y_is_each_once : ∀ (xs : List D) (z : D), M_is_each_once xs = some z → FD F_is_each_once xs = some z
  | [v_value, v_many], z, e => fd_ofJ (xs := [v_value, v_many]) rfl (Nat.le_of_ble_eq_true rfl) (by
      have j : JR Pd [.d v_value, .d v_many] _ _ := (jr_if (env := [.d (v_value), .d (v_many)]) (cbx (cb_or (cb_not (cb_val (ce_isi .list (ce_var 0 rfl)))) fun q2 => (cb_test (ce_op oNe (ce_cb bLen (cl_cons (ce_var 0 rfl) fun _ => cl_nil)) (fun _ => (ce_var 1 rfl)))))) (fun a8 => (jt_ret (env := [.d (v_value), .d (v_many)]) (ce_bl false))) (fun a8 => (jr_of (env := [.d (v_value), .d (v_many)]) (jt_ret (env := [.d (v_value), .d (v_many)]) (ce_andV (ce_call M_are_below y_are_below (cl_cons (ce_var 0 rfl) fun _ => (cl_cons (ce_var 1 rfl) fun _ => cl_nil))) fun q10 => (ce_op oEq (ce_lenSet (ce_var 0 rfl)) (fun _ => (ce_var 1 rfl))))))))
      exact j) e
end D
end
section
set_option maxRecDepth 100000
set_option maxHeartbeats 2000000
namespace Y
open PySem PySem.Spec PyProof.Rows L2 G N J D
theorem mapO_of {α β γ : Type} {f : α → Option β} (e : γ → α) (g : γ → β) {xs : List γ} (h : ∀ x ∈ xs, f (e x) = some (g x)) : mapO f (xs.map e) = some (xs.map g) := by
  induction xs with
  | nil => rfl
  | cons x xs ih =>
    rw [List.map_cons, mapO, h x (List.mem_cons_self ..)]
    dsimp only
    rw [ih fun y hy => h y (List.mem_cons_of_mem _ hy)]
    rfl
theorem mapO_id {α β : Type} {f : α → Option β} (g : α → β) {xs : List α} (h : ∀ x ∈ xs, f x = some (g x)) : mapO f xs = some (xs.map g) := by
  have := mapO_of (f := f) id g (xs := xs) h
  rwa [List.map_id] at this
theorem lcF_of {γ : Type} {st : D → Option (Option D)} (e : γ → D) (p : γ → Bool) (g : γ → D) {xs : List γ} (h : ∀ x ∈ xs, st (e x) = some (if p x = true then some (g x) else none)) : lcF st (xs.map e) = some ((xs.filter p).map g) := by
  induction xs with
  | nil => rfl
  | cons x xs ih =>
    rw [List.map_cons, lcF, h x (List.mem_cons_self ..), ih fun y hy => h y (List.mem_cons_of_mem _ hy)]
    cases c : p x with
    | true => rw [List.filter_cons_of_pos c]; rfl
    | false => rw [List.filter_cons_of_neg (by simp [c])]; rfl
theorem bd_of {α β : Type} {o : Option α} {a : α} {k : α → Option β} {r : Option β} (h : o = some a) (q : k a = r) : bd o k = r := by rw [h]; exact q
theorem ite_t {α : Type} {c : Prop} [Decidable c] {a b : α} (h : c) {r : α} (q : a = r) : (if c then a else b) = r := by rw [if_pos h]; exact q
theorem ite_f {α : Type} {c : Prop} [Decidable c] {a b : α} (h : ¬ c) {r : α} (q : b = r) : (if c then a else b) = r := by rw [if_neg h]; exact q
theorem big_ok {n : Int} (h0 : -1000000000000000000 ≤ n) (h1 : n ≤ 1000000000000000000) : SI.big62 n = true := by
  unfold SI.big62
  rw [decide_eq_true (show -(2 ^ 62) ≤ n by omega), decide_eq_true (show n < 2 ^ 62 by omega)]
  rfl
theorem rg1_of {n : Int} (h0 : 0 ≤ n) (h1 : n ≤ 1000000000000000000) : rgI1 [.int n] = some (SI.rng 0 n) := by
  show (if SI.big62 n = true then some (SI.rng 0 n) else none) = _
  rw [if_pos (big_ok (by omega) h1)]
theorem rg2_of {l n : Int} (h0 : 0 ≤ l) (h1 : l ≤ 1000000000000000000) (h2 : 0 ≤ n) (h3 : n ≤ 1000000000000000000) : rgI2 [.int l, .int n] = some (SI.rng l n) := by
  show (if (SI.big62 l && SI.big62 n) = true then some (SI.rng l n) else none) = _
  rw [big_ok (by omega) h1, big_ok (by omega) h3]
  rfl
theorem rng_n (n : Nat) : SI.rng 0 (n : Int) = (List.range n).map fun (i : Nat) => .int i := by
  unfold SI.rng
  rw [Int.sub_zero, Int.toNat_natCast]
  apply List.map_congr_left
  intro i _
  simp
theorem rg1_n {n : Nat} (h : n ≤ 1000000000) : rgI1 [.int n] = some ((List.range n).map fun (i : Nat) => .int i) := by rw [rg1_of (by omega) (by omega), rng_n]
@[simp] theorem len_l (xs : List D) : lenD [.list xs] = some (.int xs.length) := rfl
@[simp] theorem len_t (xs : List D) : lenD [.tuple xs] = some (.int xs.length) := rfl
@[simp] theorem seq_l (xs : List D) : seqD (.list xs) = some xs := rfl
@[simp] theorem seq_t (xs : List D) : seqD (.tuple xs) = some xs := rfl
@[simp] theorem zip_ll (xs ys : List D) : SI.zipE [.list xs, .list ys] = some (zipD xs ys) := rfl
@[simp] theorem zip_tl (xs ys : List D) : SI.zipE [.tuple xs, .list ys] = some (zipD xs ys) := rfl
@[simp] theorem isT_int (i : Int) : isT .int (.int i) = true := rfl
@[simp] theorem isT_bi (i : Int) : isT .bool (.int i) = false := rfl
@[simp] theorem isT_l (xs : List D) : isT .list (.list xs) = true := rfl
@[simp] theorem isT_t (xs : List D) : isT .tuple (.tuple xs) = true := rfl
@[simp] theorem atm_i (i : Int) : atmO (some (.int i)) = some (.int i) := rfl
@[simp] theorem atm_b (b : Bool) : atmO (some (.bool b)) = some (.bool b) := rfl
theorem add_l {xs ys : List D} (h : xs.length + ys.length ≤ 1000000) : addD (.list xs) (.list ys) = some (.list (xs ++ ys)) := if_pos h
theorem app_l {xs : List D} {y : D} (h : xs.length < 1000000) : appD xs y = some (xs ++ [y]) := if_pos h
theorem whole_y (d : D) : Y_is_whole d = some (.bool (isI d)) := by cases d <;> rfl
theorem below_y (d : D) (n : Int) : Y_is_below d (.int n) = some (.bool (below n d)) := by
  unfold Y_is_below
  rw [whole_y]
  cases d with
  | int i => by_cases h : 0 ≤ i <;> simp [isI, below, h]
  | _ => simp [isI, below]
theorem from_y (d : D) (n : Int) : Y_is_from d (.int n) = some (.bool (fromB n d)) := by
  unfold Y_is_from
  rw [whole_y]
  cases d <;> simp [isI, fromB]
theorem are_below_y (d : D) (n : Int) (hl : ∀ xs, d = .list xs → xs.length ≤ 1000000) : Y_are_below d (.int n) = some (.bool (belowL n d)) := by
  unfold Y_are_below
  cases d with
  | list xs =>
    have e : mapO (fun x4 => bd (Y_is_below x4 (.int n)) fun t6 => some t6) xs = some (xs.map fun x => .bool (below n x)) := mapO_id _ fun x _ => by rw [below_y]; rfl
    simp [isT, hl xs rfl, e, all_fun, belowL]
  | _ => simp [isT, belowL]
theorem each_y (d : D) (n : Int) (hl : ∀ xs, d = .list xs → xs.length ≤ 4000) : Y_is_each_once d (.int n) = some (.bool (eachB n d)) := by
  have hb := are_below_y d n fun xs e => Nat.le_trans (hl xs e) (by decide)
  unfold Y_is_each_once
  cases d with
  | list xs =>
    by_cases c : (xs.length : Int) = n
    · cases a : xs.all (below n) with
      | false => simp [isT, hb, eachB, a, c, belowL]
      | true =>
        have l := hl xs rfl
        have e : lenSetD (.list xs) = some (.int ((disL (xs.map toInt)).length : Nat)) := by
          simp [lenSetD, ints_of_below a, l]
        simp [isT, hb, eachB, a, c, e, belowL]
    · simp [isT, c, eachB]
  | _ => simp [isT, eachB]
end Y
end
section
set_option maxRecDepth 100000
set_option maxHeartbeats 1000000
namespace D
open PySem PySem.Spec PyProof.Rows L2 G N J
def Y_law_cell (v_script : D) (v_index : D) : Option (D) :=
  bd (bLen.f [v_script]) fun t1 => bd (oLt.f v_index t1) fun t2 => bd (boolD t2) fun b3 => if b3 = true then bd (ixD v_script v_index) fun t5 => some t5 else bd (intO (.int 1)) fun i6 => bd (slD v_script none (some i6)) fun t7 => bd (bSum.f [t7]) fun t8 => bd (oMod.f t8 (.int 1000003)) fun t9 => some t9
def M_law_cell : List D → Option (D)
  | [v_script, v_index] => Y_law_cell v_script v_index
  | _ => none
theorem y_law_cell : ∀ (xs : List D) (z : D), M_law_cell xs = some z → FD F_law_cell xs = some z
  | [v_script, v_index], z, e => fd_ofJ (xs := [v_script, v_index]) rfl (Nat.le_of_ble_eq_true rfl) (by
      have j : JR Pd [.d v_script, .d v_index] _ _ := (jr_if (env := [.d (v_script), .d (v_index)]) (cbx (cb_test (ce_op oLt (ce_var 1 rfl) (fun _ => (ce_cb bLen (cl_cons (ce_var 0 rfl) fun _ => cl_nil)))))) (fun a4 => (jt_ret (env := [.d (v_script), .d (v_index)]) (ce_ix (ce_var 0 rfl) (fun _ => (ce_var 1 rfl))))) (fun a4 => (jr_of (env := [.d (v_script), .d (v_index)]) (jt_ret (env := [.d (v_script), .d (v_index)]) (ce_op oMod (ce_cb bSum (cl_cons (ce_sl (ce_var 0 rfl) (fun _ => cso_none) fun _ _ => (cso_some (ce_int 1))) fun _ => cl_nil)) (fun _ => (ce_int 1000003)))))))
      exact j) e
end D
end
section
set_option maxRecDepth 100000
set_option maxHeartbeats 1000000
namespace D
open PySem PySem.Spec PyProof.Rows L2 G N J
def Y_law_hash (v_seed : D) (v_index : D) : Option (D) :=
  bd (oMul.f v_seed (.int 1140671)) fun t2 => bd (oMul.f (.int 27644437) v_index) fun t3 => bd (oMul.f t3 v_index) fun t4 => bd (oAdd.f t2 t4) fun t5 => bd (oMul.f (.int 131) v_index) fun t6 => bd (oAdd.f t5 t6) fun t7 => bd (oAdd.f t7 (.int 19)) fun t8 => bd (bInt.f [t8]) fun t9 => bd (oMod.f t9 (.int 2147483629)) fun t10 => bd (oMul.f t10 t10) fun t12 => bd (oMul.f (.int 62089) v_index) fun t13 => bd (oAdd.f t12 t13) fun t14 => bd (oAdd.f t14 (.int 32416187)) fun t15 => bd (bInt.f [t15]) fun t16 => bd (oMod.f t16 (.int 2147483587)) fun t17 => bd (oMul.f t17 (.int 48271)) fun t18 => bd (bInt.f [t18]) fun t19 => bd (oMod.f t19 (.int 2147483647)) fun t20 => some t20
def M_law_hash : List D → Option (D)
  | [v_seed, v_index] => Y_law_hash v_seed v_index
  | _ => none
theorem y_law_hash : ∀ (xs : List D) (z : D), M_law_hash xs = some z → FD F_law_hash xs = some z
  | [v_seed, v_index], z, e => fd_ofJ (xs := [v_seed, v_index]) rfl (Nat.le_of_ble_eq_true rfl) (by
      have j : JR Pd [.d v_seed, .d v_index, .no] _ _ := (jr_seq (env := [.d (v_seed), .d (v_index), .no]) (jn_set (env := [.d (v_seed), .d (v_index), .no]) 2 (ce_op oMod (ce_cb bInt (cl_cons (ce_op oAdd (ce_op oAdd (ce_op oAdd (ce_op oMul (ce_var 0 rfl) (fun _ => (ce_int 1140671))) (fun _ => (ce_op oMul (ce_op oMul (ce_int 27644437) (fun _ => (ce_var 1 rfl))) (fun _ => (ce_var 1 rfl))))) (fun _ => (ce_op oMul (ce_int 131) (fun _ => (ce_var 1 rfl))))) (fun _ => (ce_int 19))) fun _ => cl_nil)) (fun _ => (ce_int 2147483629))) fun _ => (Nat.lt_of_sub_pos (Nat.le_of_ble_eq_true rfl))) (fun a1 => (jr_seq (env := [.d (v_seed), .d (v_index), .d (a1.2.2)]) (jn_set (env := [.d (v_seed), .d (v_index), .d (a1.2.2)]) 2 (ce_op oMod (ce_cb bInt (cl_cons (ce_op oAdd (ce_op oAdd (ce_op oMul (ce_var 2 rfl) (fun _ => (ce_var 2 rfl))) (fun _ => (ce_op oMul (ce_int 62089) (fun _ => (ce_var 1 rfl))))) (fun _ => (ce_int 32416187))) fun _ => cl_nil)) (fun _ => (ce_int 2147483587))) fun _ => (Nat.lt_of_sub_pos (Nat.le_of_ble_eq_true rfl))) (fun a11 => (jr_of (env := [.d (v_seed), .d (v_index), .d (a11.2.2)]) (jt_ret (env := [.d (v_seed), .d (v_index), .d (a11.2.2)]) (ce_op oMod (ce_cb bInt (cl_cons (ce_op oMul (ce_var 2 rfl) (fun _ => (ce_int 48271))) fun _ => cl_nil)) (fun _ => (ce_int 2147483647)))))))))
      exact j) e
end D
end
section
set_option maxRecDepth 100000
set_option maxHeartbeats 1000000
namespace D
open PySem PySem.Spec PyProof.Rows L2 G N J
def Ym_law_generator (v_script : D) (v_index : D) : Option (List D) :=
  bd (Y_law_cell v_script v_index) fun t2 => bd (oPow.f (.int 10) (.int 18)) fun t3 => bd (oSub.f t2 t3) fun t4 => bd (bMax.f [t4, (.int 0)]) fun t5 => bd (bInt.f [t5]) fun t6 => bd (oPow.f (.int 10) (.int 60)) fun t7 => bd (oPow.f t7 (.int 10)) fun t8 => bd (oMod.f t6 t8) fun t9 => bd (bInt.f [t2]) fun t10 => bd (oMod.f t10 (.int 2147483647)) fun t11 => bd (oMul.f (.int 1000) v_index) fun t12 => some [t9, t11, t12]
def Mm_law_generator : List D → Option (List D)
  | [v_script, v_index] => Ym_law_generator v_script v_index
  | _ => none
theorem ym_law_generator : ∀ (xs : List D) (z : List D), Mm_law_generator xs = some z → FM F_law_generator xs = some z
  | [v_script, v_index], z, e => fm_ofJ (xs := [v_script, v_index]) rfl (Nat.le_of_ble_eq_true rfl) (by
      have j : JR Pm [.d v_script, .d v_index, .no] _ _ := (jr_seq (env := [.d (v_script), .d (v_index), .no]) (jn_set (env := [.d (v_script), .d (v_index), .no]) 2 (ce_call M_law_cell y_law_cell (cl_cons (ce_var 0 rfl) fun _ => (cl_cons (ce_var 1 rfl) fun _ => cl_nil))) fun _ => (Nat.lt_of_sub_pos (Nat.le_of_ble_eq_true rfl))) (fun a1 => (jr_of (env := [.d (v_script), .d (v_index), .d (a1.2)]) (jt_retMO (env := [.d (v_script), .d (v_index), .d (a1.2)]) (co_lst (cl_cons (ce_op oMod (ce_cb bInt (cl_cons (ce_cb bMax (cl_cons (ce_op oSub (ce_var 2 rfl) (fun _ => (ce_op oPow (ce_int 10) (fun _ => (ce_int 18))))) fun _ => (cl_cons (ce_int 0) fun _ => cl_nil))) fun _ => cl_nil)) (fun _ => (ce_op oPow (ce_op oPow (ce_int 10) (fun _ => (ce_int 60))) (fun _ => (ce_int 10))))) fun _ => (cl_cons (ce_op oMod (ce_cb bInt (cl_cons (ce_var 2 rfl) fun _ => cl_nil)) (fun _ => (ce_int 2147483647))) fun _ => (cl_cons (ce_op oMul (ce_int 1000) (fun _ => (ce_var 1 rfl))) fun _ => cl_nil))) fun _ => Nat.le_of_ble_eq_true rfl)))))
      exact j) e
end D
end
section
set_option maxRecDepth 100000
set_option maxHeartbeats 1000000
namespace D
open PySem PySem.Spec PyProof.Rows L2 G N J
def Yg_law_random (v_generator : List D) (v_bound : D) : Option (D × List D) :=
  bd (ixD (.list v_generator) (.int 0)) fun t1 => bd (oGt.f t1 (.int 0)) fun t2 => bd (boolD t2) fun b3 => if b3 = true then bd (ixD (.list v_generator) (.int 0)) fun t6 => bd (bInt.f [t6]) fun t7 => bd (oMod.f t7 v_bound) fun t8 => bd (ixD (.list v_generator) (.int 0)) fun t10 => bd (oFdiv.f t10 v_bound) fun t11 => bd (setD v_generator t11 (.int 0)) fun t12 => some (t8, t12) else bd (intO v_bound) fun i15 => bd (oFdiv.f (.int (bitsOf i15)) (.int 30)) fun t16 => bd (oAdd.f (.int 1) t16) fun t17 => bd (rgI1 [t17]) fun t18 => bd (foldD (fun x22 s20 => bd (ixD (.list s20.1) (.int 2)) fun t24 => bd (oAdd.f t24 (.int 1)) fun t25 => bd (setD s20.1 t25 (.int 2)) fun t26 => bd (oMul.f s20.2 (.int 2147483587)) fun t28 => bd (ixD (.list t26) (.int 1)) fun t30 => bd (ixD (.list t26) (.int 2)) fun t31 => bd (Y_law_hash t30 t31) fun t29 => bd (oAdd.f t28 t29) fun t32 => some (t26, t32)) t18 (v_generator, (.int 0))) fun s34 => bd (bInt.f [s34.2]) fun t35 => bd (oMod.f t35 v_bound) fun t36 => some (t36, s34.1)
def Mg_law_random (v_generator : List D) : List D → Option (D × List D)
  | [v_bound] => Yg_law_random v_generator v_bound
  | _ => none
theorem yg_law_random : ∀ (g xs : List D) (z : D × List D), Mg_law_random g xs = some z → FG F_law_random g xs = some z
  | v_generator, [v_bound], z, e => fg_ofJ (g := v_generator) (xs := [v_bound]) rfl (Nat.le_of_ble_eq_true rfl) (by
      have j : JR Pg [.o v_generator, .d v_bound, .no, .no] _ _ := (jr_if (env := [.o (v_generator), .d (v_bound), .no, .no]) (cbx (cb_test (ce_op oGt (ce_ixo 0 rfl (ce_int 0) (fun _ => rfl)) (fun _ => (ce_int 0))))) (fun a4 => (jt_seq (env := [.o (v_generator), .d (v_bound), .no, .no]) (jn_set (env := [.o (v_generator), .d (v_bound), .no, .no]) 2 (ce_op oMod (ce_cb bInt (cl_cons (ce_ixo 0 rfl (ce_int 0) (fun _ => rfl)) fun _ => cl_nil)) (fun _ => (ce_var 1 rfl))) fun _ => (Nat.lt_of_sub_pos (Nat.le_of_ble_eq_true rfl))) (fun a5 => (jt_seq (env := [.o (v_generator), .d (v_bound), .d (a5.2.2), .no]) (jn_asg (env := [.o (v_generator), .d (v_bound), .d (a5.2.2), .no]) (ce_op oFdiv (ce_ixo 0 rfl (ce_int 0) (fun _ => rfl)) (fun _ => (ce_var 1 rfl))) fun _ => (cg_sub 0 rfl (ce_int 0) (fun _ => rfl))) (fun a9 => (jt_retG (env := [.o (a9.2.2), .d (v_bound), .d (a5.2.2), .no]) (ce_var 2 rfl) (fun _ => rfl))))))) (fun a4 => (jr_seq (env := [.o (v_generator), .d (v_bound), .no, .no]) (jn_set (env := [.o (v_generator), .d (v_bound), .no, .no]) 2 (ce_int 0) fun _ => (Nat.lt_of_sub_pos (Nat.le_of_ble_eq_true rfl))) (fun a13 => (jr_seq (env := [.o (v_generator), .d (v_bound), .d ((.int 0)), .no]) (jn_for (env := [.o (v_generator), .d (v_bound), .d ((.int 0)), .no]) (σ := List D × D) (E := fun s20 => [.o (s20.1), .d (v_bound), .d (s20.2), .no]) (ci_rng1 (cl_cons (ce_op oAdd (ce_int 1) (fun _ => (ce_op oFdiv (ce_bits (ce_var 1 rfl)) (fun _ => (ce_int 30))))) fun _ => cl_nil)) (fun a19 => (v_generator, (.int 0))) (fun _ => (Wk.kp (Wk.kp (Wk.kp (Wk.kp Wk.nil))))) (fun s20 => (ct_name 3 (Nat.lt_of_sub_pos (Nat.le_of_ble_eq_true rfl)))) (fun s20 a21 => (jn_seq (env := [.o (s20.1), .d (v_bound), .d (s20.2), .d (a21)]) (jn_asg (env := [.o (s20.1), .d (v_bound), .d (s20.2), .d (a21)]) (ce_op oAdd (ce_ixo 0 rfl (ce_int 2) (fun _ => rfl)) (fun _ => (ce_int 1))) fun _ => (cg_sub 0 rfl (ce_int 2) (fun _ => rfl))) fun a23 => (jn_set (env := [.o (a23.2.2), .d (v_bound), .d (s20.2), .d (a21)]) 2 (ce_op oAdd (ce_op oMul (ce_var 2 rfl) (fun _ => (ce_int 2147483587))) (fun _ => (ce_call M_law_hash y_law_hash (cl_cons (ce_ixo 0 rfl (ce_int 1) (fun _ => rfl)) fun _ => (cl_cons (ce_ixo 0 rfl (ce_int 2) (fun _ => rfl)) fun _ => cl_nil))))) fun _ => (Nat.lt_of_sub_pos (Nat.le_of_ble_eq_true rfl))))) (fun s20 a21 a33 => (a33.1.2.2, a33.2.2.2)) (fun _ _ _ => (Wk.kp (Wk.kp (Wk.kp (Wk.no Wk.nil)))))) (fun a14 => (jr_of (env := [.o (a14.1), .d (v_bound), .d (a14.2), .no]) (jt_retG (env := [.o (a14.1), .d (v_bound), .d (a14.2), .no]) (ce_op oMod (ce_cb bInt (cl_cons (ce_var 2 rfl) fun _ => cl_nil)) (fun _ => (ce_var 1 rfl))) (fun _ => rfl)))))))))
      exact j) e
end D
end
section
set_option maxRecDepth 100000
set_option maxHeartbeats 1000000
namespace D
open PySem PySem.Spec PyProof.Rows L2 G N J
end D
end
section
set_option maxRecDepth 100000
set_option maxHeartbeats 2000000
namespace Y
open PySem PySem.Spec PyProof.Rows L2 G N J D
theorem hash_y {s i : Int} (hs : 0 ≤ s) (hs2 : s < 2147483647) (hi : 0 ≤ i) (hi2 : i < 1000000000000) : Y_law_hash (.int s) (.int i) = some (.int (hashI s i)) := by
  have a1 : sm s = true := sm_lo hs (by omega)
  have a2 : sm i = true := sm_lo hi (by omega)
  have n1 : sm 1140671 = true := by decide +kernel
  have n2 : sm 27644437 = true := by decide +kernel
  have n3 : sm 131 = true := by decide +kernel
  have n4 : sm 62089 = true := by decide +kernel
  have n5 : sm 48271 = true := by decide +kernel
  have a3 : sm (27644437 * i) = true := sm_lo (by omega) (by omega)
  have m1 : sm ((s * 1140671 + 27644437 * i * i + 131 * i + 19) % 2147483629) = true := sm_lo (mod_lo (by decide)) (by have := mod_hi (a := s * 1140671 + 27644437 * i * i + 131 * i + 19) (m := 2147483629) (by decide); omega)
  have m2 : sm (((((s * 1140671 + 27644437 * i * i + 131 * i + 19) % 2147483629) * ((s * 1140671 + 27644437 * i * i + 131 * i + 19) % 2147483629) + 62089 * i + 32416187) % 2147483587)) = true := sm_lo (mod_lo (by decide)) (by have := mod_hi (a := (((s * 1140671 + 27644437 * i * i + 131 * i + 19) % 2147483629) * ((s * 1140671 + 27644437 * i * i + 131 * i + 19) % 2147483629) + 62089 * i + 32416187)) (m := 2147483587) (by decide); omega)
  simp [Y_law_hash, a1, a2, a3, n1, n2, n3, n4, n5, m1, m2, hashI]
theorem set0 (a b c x : D) : setD [a, b, c] x (.int 0) = some [x, b, c] := rfl
theorem set2 (a b c x : D) : setD [a, b, c] x (.int 2) = some [a, b, x] := rfl
theorem draw_y (a b : Int) (hb : 0 ≤ b) (hb2 : b < 2147483647) : ∀ (xs : List D) (j : Nat) (c dr : Int), xs.length + j ≤ 12 → 0 ≤ c → c < 999999999000 + j → 0 ≤ dr → dr < ((2147483648 ^ j : Nat) : Int) →
    ∃ dr', foldD (fun (x22 : D) (s20 : List D × D) => bd (ixD (.list s20.1) (.int 2)) fun t24 => bd (oAdd.f t24 (.int 1)) fun t25 => bd (setD s20.1 t25 (.int 2)) fun t26 => bd (oMul.f s20.2 (.int 2147483587)) fun t28 => bd (ixD (.list t26) (.int 1)) fun t30 => bd (ixD (.list t26) (.int 2)) fun t31 => bd (Y_law_hash t30 t31) fun t29 => bd (oAdd.f t28 t29) fun t32 => some (t26, t32)) xs ([.int a, .int b, .int c], .int dr) =
      some ([.int a, .int b, .int (c + xs.length)], .int dr') ∧ 0 ≤ dr'
  | [], j, c, dr, hl, hc, hc2, h0, h1 => ⟨dr, by simp [foldD], h0⟩
  | x :: xs, j, c, dr, hl, hc, hc2, h0, h1 => by
    have hl' : xs.length + 1 + j ≤ 12 := hl
    have sd : sm dr = true := sm_nat h0 h1 (Nat.le_trans (Nat.pow_le_pow_right (by decide) (show j ≤ 12 by omega)) (by decide +kernel))
    have n1 : sm 2147483587 = true := by decide +kernel
    have k1 := hashI_lo b (c + 1)
    have k2 := hashI_hi b (c + 1)
    have up : dr * 2147483587 + hashI b (c + 1) < ((2147483648 ^ (j + 1) : Nat) : Int) := by
      have z : ((2147483648 ^ (j + 1) : Nat) : Int) = ((2147483648 ^ j : Nat) : Int) * 2147483648 := by rw [Nat.pow_succ, Int.natCast_mul]; rfl
      rw [z]
      generalize ((2147483648 ^ j : Nat) : Int) = w at h1
      omega
    obtain ⟨dr', e, h⟩ := draw_y a b hb hb2 xs (j + 1) (c + 1) (dr * 2147483587 + hashI b (c + 1)) (by omega) (by omega) (by omega) (by omega) up
    refine ⟨dr', ?_, h⟩
    rw [List.length_cons, show c + ((xs.length + 1 : Nat) : Int) = c + 1 + (xs.length : Int) by omega, ← e]
    rw [foldD]
    simp [set2, hash_y hb hb2 (show 0 ≤ c + 1 by omega) (show c + 1 < 1000000000000 by omega), sd, n1]
def Dr (f : List D → D → Option (D × List D)) : Prop := ∀ {k : Nat} {es : List D} (_ : Gn k es) (_ : k ≤ 99999999999) {n : Int} (_ : 0 < n) (_ : n ≤ 1000000000000000000000000000000), ∃ r es', f es (.int n) = some (.int r, es') ∧ 0 ≤ r ∧ r < n ∧ Gn (k + 4) es'
theorem random_a {a b c n : Int} (p : 0 < a) (h0 : 0 < n) (sn : sm n = true) : Yg_law_random [.int a, .int b, .int c] (.int n) = some (.int (a % n), [.int (a / n), .int b, .int c]) := by
  have m : oMod.f (.int a) (.int n) = some (.int (a % n)) := by rw [oMod_f, modD_i, if_pos h0]
  have d : oFdiv.f (.int a) (.int n) = some (.int (a / n)) := by rw [oFdiv_f, fdivD_i, sn, decide_eq_true h0]; exact if_pos rfl
  unfold Yg_law_random
  refine bd_of (a := .int a) rfl (bd_of (a := .bool (decide (0 < a))) rfl (bd_of (a := decide (0 < a)) rfl ?_))
  rw [decide_eq_true p, if_pos rfl]
  exact bd_of (a := .int a) rfl (bd_of (a := .int a) rfl (bd_of m (bd_of (a := .int a) rfl (bd_of d (bd_of (set0 _ _ _ _) rfl)))))
theorem random_b {a b c n dr q c2 : Int} (p : ¬ 0 < a) (h0 : 0 < n) (hq : bitsOf n = q) (q1 : 0 ≤ q) (q2 : q ≤ 100)
    (e : foldD (fun (x22 : D) (s20 : List D × D) => bd (ixD (.list s20.1) (.int 2)) fun t24 => bd (oAdd.f t24 (.int 1)) fun t25 => bd (setD s20.1 t25 (.int 2)) fun t26 => bd (oMul.f s20.2 (.int 2147483587)) fun t28 => bd (ixD (.list t26) (.int 1)) fun t30 => bd (ixD (.list t26) (.int 2)) fun t31 => bd (Y_law_hash t30 t31) fun t29 => bd (oAdd.f t28 t29) fun t32 => some (t26, t32)) (SI.rng 0 (1 + q / 30)) ([.int a, .int b, .int c], .int 0) = some ([.int a, .int b, .int c2], .int dr)) :
    Yg_law_random [.int a, .int b, .int c] (.int n) = some (.int (dr % n), [.int a, .int b, .int c2]) := by
  have n30 : sm 30 = true := by decide +kernel
  have rg := rg1_of (n := 1 + q / 30) (by omega) (by omega)
  have d30 : oFdiv.f (.int q) (.int 30) = some (.int (q / 30)) := by rw [oFdiv_f, fdivD_i, n30, Bool.and_true, if_pos (by decide)]
  have m : oMod.f (.int dr) (.int n) = some (.int (dr % n)) := by rw [oMod_f, modD_i, if_pos h0]
  unfold Yg_law_random
  refine bd_of (a := .int a) rfl (bd_of (a := .bool (decide (0 < a))) rfl (bd_of (a := decide (0 < a)) rfl ?_))
  rw [decide_eq_false p, if_neg (by decide)]
  refine bd_of (a := n) rfl ?_
  rw [hq]
  exact bd_of d30 (bd_of (a := .int (1 + q / 30)) rfl (bd_of rg (bd_of e (bd_of (a := .int dr) rfl (bd_of m rfl)))))
theorem random_y : Dr Yg_law_random := fun {k es} g hk {n} h0 h1 => by
  obtain ⟨a, b, c, rfl, ha, ha2, hb, hb2, hc, hck⟩ := g.ex
  have sn : sm n = true := sm_lo (Int.le_of_lt h0) (Int.lt_of_le_of_lt h1 (by decide))
  obtain ⟨q1, q2⟩ := bitsOf_le (m := 100) h0 (Int.lt_of_le_of_lt h1 (by decide +kernel))
  have q2 : bitsOf n ≤ 100 := q2
  clear h1
  by_cases p : 0 < a
  · refine ⟨a % n, [.int (a / n), .int b, .int c], random_a p h0 sn, mod_lo h0, mod_hi h0, ⟨_, b, c, rfl, Int.ediv_nonneg ha (by omega), ?_, hb, hb2, hc, by omega⟩⟩
    refine decide_eq_true (Nat.lt_of_le_of_lt ?_ (sm_lt ha2))
    have := Int.ediv_le_self (b := n) ha
    have := Int.ediv_nonneg ha (show (0 : Int) ≤ n by omega)
    omega
  · generalize hq : bitsOf n = q at q1 q2
    obtain ⟨dr, e, hd⟩ := draw_y a b hb hb2 (SI.rng 0 (1 + q / 30)) 0 c 0 (by rw [rng_len]; omega) hc (by omega) (by decide) (by decide)
    refine ⟨dr % n, [.int a, .int b, .int (c + (SI.rng 0 (1 + q / 30)).length)], random_b p h0 hq q1 q2 e, mod_lo h0, mod_hi h0, ⟨a, b, _, rfl, ha, ha2, hb, hb2, by omega, ?_⟩⟩
    rw [rng_len]
    push_cast
    omega
theorem cell_y (ns : List Int) {i : Int} (h0 : 0 ≤ i) : ∃ j, Y_law_cell (.list (ns.map .int)) (.int i) = some (.int j) := by
  by_cases c : i < ns.length
  · obtain ⟨j, hj⟩ := atD_ints h0 c
    exact ⟨j, by simp [Y_law_cell, c, hj]⟩
  · obtain ⟨ms, e⟩ := cut_ints ns none (some 1)
    refine ⟨ms.sum % 1000003, ?_⟩
    simp [Y_law_cell, c, slD, e, sumD, intsOf_map]
theorem gen_ym (ns : List Int) {i : Int} (h0 : 0 ≤ i) (h1 : i ≤ 1000) : ∃ es, Ym_law_generator (.list (ns.map .int)) (.int i) = some es ∧ Gn (1000 * i.toNat) es := by
  obtain ⟨j, e⟩ := cell_y ns h0
  have p1 : powD (.int 10) (.int 18) = some (.int 1000000000000000000) := by kernel_rfl
  have p2 : powD (.int 10) (.int 60) = some (.int 1000000000000000000000000000000000000000000000000000000000000) := by kernel_rfl
  have p3 : powD (.int 1000000000000000000000000000000000000000000000000000000000000) (.int 10) = some (.int M600) := by kernel_rfl
  have p4 : (0 : Int) < M600 := by decide +kernel
  have p5 : sm 1000 = true := by decide +kernel
  have p6 : sm i = true := sm_lo h0 (by omega)
  refine ⟨[.int ((if 0 > j - 1000000000000000000 then 0 else j - 1000000000000000000) % M600), .int (j % 2147483647), .int (1000 * i)], ?_, ⟨_, _, _, rfl, mod_lo p4, ?_, mod_lo (by decide), mod_hi (by decide), by omega, by omega⟩⟩
  · simp [Ym_law_generator, e, p1, p2, p3, p4, p5, p6]
  · refine sm_nat (m := 1000000000000000000000000000000000000000000000000000000000000 ^ 10) (mod_lo p4) (mod_hi p4) (by decide +kernel)
end Y
end
section
namespace Lin
def linR : List Int → List Int → List Int → Int
  | [], _, _ => 0
  | o :: r, ps, ns => (ps.sum - ns.sum) % o + o * linR r (ps.map (· / o)) (ns.map (· / o))
def prodR : List Int → Int
  | [] => 1
  | o :: r => o * prodR r
def Pos (r : List Int) : Prop := ∀ o ∈ r, 2 ≤ o
theorem Pos.tail {o : Int} {r : List Int} (h : Pos (o :: r)) : Pos r := fun x hx => h x (List.mem_cons_of_mem _ hx)
theorem Pos.head {o : Int} {r : List Int} (h : Pos (o :: r)) : 2 ≤ o := h o (List.mem_cons_self ..)
theorem prodR_pos : ∀ {r : List Int}, Pos r → 1 ≤ prodR r
  | [], _ => Int.le_refl 1
  | o :: r, h => by
    have a := prodR_pos h.tail
    have b := h.head
    have := Int.mul_le_mul (a := 1) (b := 1) (c := o) (d := prodR r) (by omega) a (by omega) (by omega)
    show 1 ≤ o * prodR r
    omega
theorem lin_rng : ∀ {r : List Int}, Pos r → ∀ ps ns, 0 ≤ linR r ps ns ∧ linR r ps ns < prodR r
  | [], _, ps, ns => by simp [linR, prodR]
  | o :: r, h, ps, ns => by
    have ih := lin_rng h.tail (ps.map (· / o)) (ns.map (· / o))
    have b := h.head
    have m0 := Int.emod_nonneg (ps.sum - ns.sum) (show o ≠ 0 by omega)
    have m1 := Int.emod_lt_of_pos (ps.sum - ns.sum) (show 0 < o by omega)
    show 0 ≤ _ + o * linR r _ _ ∧ _ + o * linR r _ _ < o * prodR r
    generalize linR r (ps.map (· / o)) (ns.map (· / o)) = x at *
    generalize prodR r = p at *
    generalize (ps.sum - ns.sum) % o = m at *
    have h1 : 0 ≤ o * x := Int.mul_nonneg (by omega) ih.1
    have h2 : o * (x + 1) ≤ o * p := Int.mul_le_mul_of_nonneg_left (by omega) (by omega)
    rw [Int.mul_add, Int.mul_one] at h2
    omega
theorem low_of {o m x : Int} (h : 0 < o) (h0 : 0 ≤ m) (h1 : m < o) : (m + o * x) % o = m ∧ (m + o * x) / o = x := by
  constructor
  · rw [Int.add_mul_emod_self_left]
    exact Int.emod_eq_of_lt h0 h1
  · rw [Int.add_mul_ediv_left _ _ (by omega), Int.ediv_eq_zero_of_lt h0 h1, Int.zero_add]
theorem lin_low {o : Int} {r : List Int} (h : 2 ≤ o) (ps ns : List Int) : linR (o :: r) ps ns % o = (ps.sum - ns.sum) % o ∧ linR (o :: r) ps ns / o = linR r (ps.map (· / o)) (ns.map (· / o)) :=
  low_of (by omega) (Int.emod_nonneg _ (by omega)) (Int.emod_lt_of_pos _ (by omega))
theorem lin_in : ∀ {r : List Int}, Pos r → ∀ ps ns us vs, linR r (linR r us vs :: ps) ns = linR r (us ++ ps) (vs ++ ns)
  | [], _, _, _, _, _ => rfl
  | o :: r, h, ps, ns, us, vs => by
    have l := lin_low (r := r) h.head us vs
    have ih := lin_in h.tail (ps.map (· / o)) (ns.map (· / o)) (us.map (· / o)) (vs.map (· / o))
    have e1 : linR (o :: r) (linR (o :: r) us vs :: ps) ns = ((linR (o :: r) us vs :: ps).sum - ns.sum) % o + o * linR r ((linR (o :: r) us vs :: ps).map (· / o)) (ns.map (· / o)) := rfl
    have e2 : linR (o :: r) (us ++ ps) (vs ++ ns) = ((us ++ ps).sum - (vs ++ ns).sum) % o + o * linR r ((us ++ ps).map (· / o)) ((vs ++ ns).map (· / o)) := rfl
    rw [e1, e2, List.map_cons, l.2, ih, List.map_append, List.map_append, List.sum_cons, List.sum_append, List.sum_append]
    have e3 : (linR (o :: r) us vs + ps.sum - ns.sum) % o = (us.sum + ps.sum - (vs.sum + ns.sum)) % o := by
      have a1 : linR (o :: r) us vs + ps.sum - ns.sum = linR (o :: r) us vs + (ps.sum - ns.sum) := by omega
      have a2 : us.sum + ps.sum - (vs.sum + ns.sum) = (us.sum - vs.sum) + (ps.sum - ns.sum) := by omega
      rw [a1, a2, Int.add_emod, l.1, ← Int.add_emod]
    rw [e3]
theorem lin_out : ∀ {r : List Int}, Pos r → ∀ ps ns us vs, linR r ps (linR r us vs :: ns) = linR r (vs ++ ps) (us ++ ns)
  | [], _, _, _, _, _ => rfl
  | o :: r, h, ps, ns, us, vs => by
    have l := lin_low (r := r) h.head us vs
    have ih := lin_out h.tail (ps.map (· / o)) (ns.map (· / o)) (us.map (· / o)) (vs.map (· / o))
    have e1 : linR (o :: r) ps (linR (o :: r) us vs :: ns) = (ps.sum - (linR (o :: r) us vs :: ns).sum) % o + o * linR r (ps.map (· / o)) ((linR (o :: r) us vs :: ns).map (· / o)) := rfl
    have e2 : linR (o :: r) (vs ++ ps) (us ++ ns) = ((vs ++ ps).sum - (us ++ ns).sum) % o + o * linR r ((vs ++ ps).map (· / o)) ((us ++ ns).map (· / o)) := rfl
    rw [e1, e2, List.map_cons, l.2, ih, List.map_append, List.map_append, List.sum_cons, List.sum_append, List.sum_append]
    have e3 : (ps.sum - (linR (o :: r) us vs + ns.sum)) % o = (vs.sum + ps.sum - (us.sum + ns.sum)) % o := by
      have a1 : ps.sum - (linR (o :: r) us vs + ns.sum) = (ps.sum - ns.sum) - linR (o :: r) us vs := by omega
      have a2 : vs.sum + ps.sum - (us.sum + ns.sum) = (ps.sum - ns.sum) - (us.sum - vs.sum) := by omega
      rw [a1, a2, Int.sub_emod, l.1, ← Int.sub_emod]
    rw [e3]
theorem lin_cancel : ∀ {r : List Int} (x : Int) (ps ns : List Int), linR r (x :: ps) (x :: ns) = linR r ps ns
  | [], _, _, _ => rfl
  | o :: r, x, ps, ns => by
    show ((x :: ps).sum - (x :: ns).sum) % o + o * linR r ((x / o) :: ps.map (· / o)) ((x / o) :: ns.map (· / o)) = _
    rw [lin_cancel (x / o), List.sum_cons, List.sum_cons, show x + ps.sum - (x + ns.sum) = ps.sum - ns.sum by omega]
    rfl
theorem sum_perm {ps qs : List Int} (h : ps.Perm qs) : ps.sum = qs.sum := by
  induction h with
  | nil => rfl
  | cons x _ ih => rw [List.sum_cons, List.sum_cons, ih]
  | swap x y l => simp only [List.sum_cons]; omega
  | trans _ _ a b => rw [a, b]
theorem lin_perm : ∀ {r : List Int} {ps qs ns ms : List Int}, ps.Perm qs → ns.Perm ms → linR r ps ns = linR r qs ms
  | [], _, _, _, _, _, _ => rfl
  | o :: r, ps, qs, ns, ms, h, k => by
    show (ps.sum - ns.sum) % o + o * linR r (ps.map (· / o)) (ns.map (· / o)) = (qs.sum - ms.sum) % o + o * linR r (qs.map (· / o)) (ms.map (· / o))
    rw [sum_perm h, sum_perm k, lin_perm (h.map (· / o)) (k.map (· / o))]
theorem lin_nil : ∀ (r : List Int), linR r [] [] = 0
  | [] => rfl
  | o :: r => by
    show ((0 : Int) - 0) % o + o * linR r [] [] = 0
    rw [lin_nil r]
    simp
theorem lin_one : ∀ {r : List Int}, Pos r → ∀ {x : Int}, 0 ≤ x → x < prodR r → linR r [x] [] = x
  | [], _, x, h0, h1 => by
    have : prodR [] = 1 := rfl
    show (0 : Int) = x
    omega
  | o :: r, h, x, h0, h1 => by
    have b := h.head
    have q : x < o * prodR r := h1
    have ih := lin_one h.tail (x := x / o) (Int.ediv_nonneg h0 (by omega)) (Int.ediv_lt_of_lt_mul (by omega) (by rw [Int.mul_comm]; exact q))
    show ([x].sum - ([] : List Int).sum) % o + o * linR r [x / o] [] = x
    rw [ih]
    have : [x].sum - ([] : List Int).sum = x := by simp
    rw [this]
    exact Int.emod_add_mul_ediv x o
theorem lin_all : ∀ {r : List Int} (xs : List Int), linR r xs xs = 0
  | r, [] => lin_nil r
  | r, x :: xs => by rw [lin_cancel, lin_all xs]
end Lin
end
section
set_option maxRecDepth 100000
set_option maxHeartbeats 1000000
namespace D
open PySem PySem.Spec PyProof.Rows L2 G N J
def Y_size_of (v_orders : D) : Option (D) :=
  bd (seqD v_orders) fun t3 => bd (foldD (fun x7 s5 => bd (oMul.f s5 x7) fun t9 => some (t9)) t3 ((.int 1))) fun s10 => some s10
def M_size_of : List D → Option (D)
  | [v_orders] => Y_size_of v_orders
  | _ => none
theorem y_size_of : ∀ (xs : List D) (z : D), M_size_of xs = some z → FD F_size_of xs = some z
  | [v_orders], z, e => fd_ofJ (xs := [v_orders]) rfl (Nat.le_of_ble_eq_true rfl) (by
      have j : JR Pd [.d v_orders, .no, .no] _ _ := (jr_seq (env := [.d (v_orders), .no, .no]) (jn_set (env := [.d (v_orders), .no, .no]) 1 (ce_int 1) fun _ => (Nat.lt_of_sub_pos (Nat.le_of_ble_eq_true rfl))) (fun a1 => (jr_seq (env := [.d (v_orders), .d ((.int 1)), .no]) (jn_for (env := [.d (v_orders), .d ((.int 1)), .no]) (σ := D) (E := fun s5 => [.d (v_orders), .d (s5), .no]) (ci_seq (ce_var 0 rfl)) (fun a4 => ((.int 1))) (fun _ => (Wk.kp (Wk.kp (Wk.kp Wk.nil)))) (fun s5 => (ct_name 2 (Nat.lt_of_sub_pos (Nat.le_of_ble_eq_true rfl)))) (fun s5 a6 => (jn_set (env := [.d (v_orders), .d (s5), .d (a6)]) 1 (ce_op oMul (ce_var 1 rfl) (fun _ => (ce_var 2 rfl))) fun _ => (Nat.lt_of_sub_pos (Nat.le_of_ble_eq_true rfl)))) (fun s5 a6 a8 => (a8.2.2)) (fun _ _ _ => (Wk.kp (Wk.kp (Wk.no Wk.nil))))) (fun a2 => (jr_of (env := [.d (v_orders), .d (a2), .no]) (jt_ret (env := [.d (v_orders), .d (a2), .no]) (ce_var 1 rfl)))))))
      exact j) e
end D
end
section
set_option maxRecDepth 100000
set_option maxHeartbeats 1000000
namespace D
open PySem PySem.Spec PyProof.Rows L2 G N J
def Y_plus (v_orders : D) (v_member : D) (v_other : D) : Option (D) :=
  bd (un2 (.tuple [(.int 0), (.int 1)])) fun u2 => bd (seqD v_orders) fun t4 => bd (foldD (fun x8 s6 => bd (oAdd.f s6.1 s6.2.1) fun t10 => bd (oMod.f t10 x8) fun t11 => bd (oMul.f t11 s6.2.2.2) fun t12 => bd (oAdd.f s6.2.2.1 t12) fun t13 => bd (oFdiv.f s6.1 x8) fun t15 => bd (oFdiv.f s6.2.1 x8) fun t16 => bd (oMul.f s6.2.2.2 x8) fun t17 => some (t15, t16, t13, t17)) t4.reverse (v_member, v_other, u2.1, u2.2)) fun s19 => some s19.2.2.1
def M_plus : List D → Option (D)
  | [v_orders, v_member, v_other] => Y_plus v_orders v_member v_other
  | _ => none
theorem y_plus : ∀ (xs : List D) (z : D), M_plus xs = some z → FD F_plus xs = some z
  | [v_orders, v_member, v_other], z, e => fd_ofJ (xs := [v_orders, v_member, v_other]) rfl (Nat.le_of_ble_eq_true rfl) (by
      have j : JR Pd [.d v_orders, .d v_member, .d v_other, .no, .no, .no] _ _ := (jr_seq (env := [.d (v_orders), .d (v_member), .d (v_other), .no, .no, .no]) (jn_asg (env := [.d (v_orders), .d (v_member), .d (v_other), .no, .no, .no]) (ce_tup (cl_cons (ce_int 0) fun _ => (cl_cons (ce_int 1) fun _ => cl_nil)) fun _ => Nat.le_of_ble_eq_true rfl) fun _ => (cg_tup2 (cg_name 3 (Nat.lt_of_sub_pos (Nat.le_of_ble_eq_true rfl))) (fun _ => (cg_name 4 (Nat.lt_of_sub_pos (Nat.le_of_ble_eq_true rfl)))))) (fun a1 => (jr_seq (env := [.d (v_orders), .d (v_member), .d (v_other), .d (a1.2.1), .d (a1.2.2), .no]) (jn_for (env := [.d (v_orders), .d (v_member), .d (v_other), .d (a1.2.1), .d (a1.2.2), .no]) (σ := D × D × D × D) (E := fun s6 => [.d (v_orders), .d (s6.1), .d (s6.2.1), .d (s6.2.2.1), .d (s6.2.2.2), .no]) (ci_revd (ce_var 0 rfl)) (fun a5 => (v_member, v_other, a1.2.1, a1.2.2)) (fun _ => (Wk.kp (Wk.kp (Wk.kp (Wk.kp (Wk.kp (Wk.kp Wk.nil))))))) (fun s6 => (ct_name 5 (Nat.lt_of_sub_pos (Nat.le_of_ble_eq_true rfl)))) (fun s6 a7 => (jn_seq (env := [.d (v_orders), .d (s6.1), .d (s6.2.1), .d (s6.2.2.1), .d (s6.2.2.2), .d (a7)]) (jn_set (env := [.d (v_orders), .d (s6.1), .d (s6.2.1), .d (s6.2.2.1), .d (s6.2.2.2), .d (a7)]) 3 (ce_op oAdd (ce_var 3 rfl) (fun _ => (ce_op oMul (ce_op oMod (ce_op oAdd (ce_var 1 rfl) (fun _ => (ce_var 2 rfl))) (fun _ => (ce_var 5 rfl))) (fun _ => (ce_var 4 rfl))))) fun _ => (Nat.lt_of_sub_pos (Nat.le_of_ble_eq_true rfl))) fun a9 => (jn_par3 (env := [.d (v_orders), .d (s6.1), .d (s6.2.1), .d (a9.2.2), .d (s6.2.2.2), .d (a7)]) 1 2 4 (ce_op oFdiv (ce_var 1 rfl) (fun _ => (ce_var 5 rfl))) (fun _ => (ce_op oFdiv (ce_var 2 rfl) (fun _ => (ce_var 5 rfl)))) (fun _ _ => (ce_op oMul (ce_var 4 rfl) (fun _ => (ce_var 5 rfl)))) (fun _ _ _ => (Nat.lt_of_sub_pos (Nat.le_of_ble_eq_true rfl))) (fun _ _ _ => (Nat.lt_of_sub_pos (Nat.le_of_ble_eq_true rfl))) (fun _ _ _ => (Nat.lt_of_sub_pos (Nat.le_of_ble_eq_true rfl)))))) (fun s6 a7 a18 => (a18.2.1.2.2, a18.2.2.1.2.2, a18.1.2.2, a18.2.2.2.2.2)) (fun _ _ _ => (Wk.kp (Wk.kp (Wk.kp (Wk.kp (Wk.kp (Wk.no Wk.nil)))))))) (fun a3 => (jr_of (env := [.d (v_orders), .d (a3.1), .d (a3.2.1), .d (a3.2.2.1), .d (a3.2.2.2), .no]) (jt_ret (env := [.d (v_orders), .d (a3.1), .d (a3.2.1), .d (a3.2.2.1), .d (a3.2.2.2), .no]) (ce_var 3 rfl)))))))
      exact j) e
end D
end
section
set_option maxRecDepth 100000
set_option maxHeartbeats 1000000
namespace D
open PySem PySem.Spec PyProof.Rows L2 G N J
def Y_minus (v_orders : D) (v_member : D) (v_other : D) : Option (D) :=
  bd (un2 (.tuple [(.int 0), (.int 1)])) fun u2 => bd (seqD v_orders) fun t4 => bd (foldD (fun x8 s6 => bd (oSub.f s6.1 s6.2.1) fun t10 => bd (oMod.f t10 x8) fun t11 => bd (oMul.f t11 s6.2.2.2) fun t12 => bd (oAdd.f s6.2.2.1 t12) fun t13 => bd (oFdiv.f s6.1 x8) fun t15 => bd (oFdiv.f s6.2.1 x8) fun t16 => bd (oMul.f s6.2.2.2 x8) fun t17 => some (t15, t16, t13, t17)) t4.reverse (v_member, v_other, u2.1, u2.2)) fun s19 => some s19.2.2.1
def M_minus : List D → Option (D)
  | [v_orders, v_member, v_other] => Y_minus v_orders v_member v_other
  | _ => none
theorem y_minus : ∀ (xs : List D) (z : D), M_minus xs = some z → FD F_minus xs = some z
  | [v_orders, v_member, v_other], z, e => fd_ofJ (xs := [v_orders, v_member, v_other]) rfl (Nat.le_of_ble_eq_true rfl) (by
      have j : JR Pd [.d v_orders, .d v_member, .d v_other, .no, .no, .no] _ _ := (jr_seq (env := [.d (v_orders), .d (v_member), .d (v_other), .no, .no, .no]) (jn_asg (env := [.d (v_orders), .d (v_member), .d (v_other), .no, .no, .no]) (ce_tup (cl_cons (ce_int 0) fun _ => (cl_cons (ce_int 1) fun _ => cl_nil)) fun _ => Nat.le_of_ble_eq_true rfl) fun _ => (cg_tup2 (cg_name 3 (Nat.lt_of_sub_pos (Nat.le_of_ble_eq_true rfl))) (fun _ => (cg_name 4 (Nat.lt_of_sub_pos (Nat.le_of_ble_eq_true rfl)))))) (fun a1 => (jr_seq (env := [.d (v_orders), .d (v_member), .d (v_other), .d (a1.2.1), .d (a1.2.2), .no]) (jn_for (env := [.d (v_orders), .d (v_member), .d (v_other), .d (a1.2.1), .d (a1.2.2), .no]) (σ := D × D × D × D) (E := fun s6 => [.d (v_orders), .d (s6.1), .d (s6.2.1), .d (s6.2.2.1), .d (s6.2.2.2), .no]) (ci_revd (ce_var 0 rfl)) (fun a5 => (v_member, v_other, a1.2.1, a1.2.2)) (fun _ => (Wk.kp (Wk.kp (Wk.kp (Wk.kp (Wk.kp (Wk.kp Wk.nil))))))) (fun s6 => (ct_name 5 (Nat.lt_of_sub_pos (Nat.le_of_ble_eq_true rfl)))) (fun s6 a7 => (jn_seq (env := [.d (v_orders), .d (s6.1), .d (s6.2.1), .d (s6.2.2.1), .d (s6.2.2.2), .d (a7)]) (jn_set (env := [.d (v_orders), .d (s6.1), .d (s6.2.1), .d (s6.2.2.1), .d (s6.2.2.2), .d (a7)]) 3 (ce_op oAdd (ce_var 3 rfl) (fun _ => (ce_op oMul (ce_op oMod (ce_op oSub (ce_var 1 rfl) (fun _ => (ce_var 2 rfl))) (fun _ => (ce_var 5 rfl))) (fun _ => (ce_var 4 rfl))))) fun _ => (Nat.lt_of_sub_pos (Nat.le_of_ble_eq_true rfl))) fun a9 => (jn_par3 (env := [.d (v_orders), .d (s6.1), .d (s6.2.1), .d (a9.2.2), .d (s6.2.2.2), .d (a7)]) 1 2 4 (ce_op oFdiv (ce_var 1 rfl) (fun _ => (ce_var 5 rfl))) (fun _ => (ce_op oFdiv (ce_var 2 rfl) (fun _ => (ce_var 5 rfl)))) (fun _ _ => (ce_op oMul (ce_var 4 rfl) (fun _ => (ce_var 5 rfl)))) (fun _ _ _ => (Nat.lt_of_sub_pos (Nat.le_of_ble_eq_true rfl))) (fun _ _ _ => (Nat.lt_of_sub_pos (Nat.le_of_ble_eq_true rfl))) (fun _ _ _ => (Nat.lt_of_sub_pos (Nat.le_of_ble_eq_true rfl)))))) (fun s6 a7 a18 => (a18.2.1.2.2, a18.2.2.1.2.2, a18.1.2.2, a18.2.2.2.2.2)) (fun _ _ _ => (Wk.kp (Wk.kp (Wk.kp (Wk.kp (Wk.kp (Wk.no Wk.nil)))))))) (fun a3 => (jr_of (env := [.d (v_orders), .d (a3.1), .d (a3.2.1), .d (a3.2.2.1), .d (a3.2.2.2), .no]) (jt_ret (env := [.d (v_orders), .d (a3.1), .d (a3.2.1), .d (a3.2.2.1), .d (a3.2.2.2), .no]) (ce_var 3 rfl)))))))
      exact j) e
end D
end
section
set_option maxRecDepth 100000
set_option maxHeartbeats 1000000
namespace D
open PySem PySem.Spec PyProof.Rows L2 G N J
def Y_sum_up (v_orders : D) (v_members : D) : Option (D) :=
  bd (seqD v_members) fun t3 => bd (foldD (fun x7 s5 => bd (Y_plus v_orders s5 x7) fun t9 => some (t9)) t3 ((.int 0))) fun s10 => some s10
end D
end
section
set_option maxRecDepth 100000
set_option maxHeartbeats 1000000
namespace D
open PySem PySem.Spec PyProof.Rows L2 G N J
def Y_are_orders (v_value : D) : Option (D) :=
  bd (boolD (.bool (isT .tuple v_value))) fun b1 => bd (if (!b1) = true then some true else bd (bLen.f [v_value]) fun t4 => bd (oEq.f t4 (.int 0)) fun t5 => bd (boolD t5) fun b6 => some b6) fun b7 => if b7 = true then some (.bool false) else bd (seqD v_value) fun t9 => bd (if (t9).length ≤ 1000000 then mapO (fun x10 => bd (Y_is_from x10 (.int 2)) fun t12 => some t12) t9 else none) fun ys13 => bd (bAll.f [(.list ys13)]) fun t14 => some t14
def M_are_orders : List D → Option (D)
  | [v_value] => Y_are_orders v_value
  | _ => none
theorem y_are_orders : ∀ (xs : List D) (z : D), M_are_orders xs = some z → FD F_are_orders xs = some z
  | [v_value], z, e => fd_ofJ (xs := [v_value]) rfl (Nat.le_of_ble_eq_true rfl) (by
      have j : JR Pd [.d v_value, .no] _ _ := (jr_if (env := [.d (v_value), .no]) (cbx (cb_or (cb_not (cb_val (ce_isi .tuple (ce_var 0 rfl)))) fun q2 => (cb_test (ce_op oEq (ce_cb bLen (cl_cons (ce_var 0 rfl) fun _ => cl_nil)) (fun _ => (ce_int 0)))))) (fun a8 => (jt_ret (env := [.d (v_value), .no]) (ce_bl false))) (fun a8 => (jr_of (env := [.d (v_value), .no]) (jt_ret (env := [.d (v_value), .no]) (ce_cb bAll (cl_cons (ce_lcY (ci_seq (ce_var 0 rfl)) (fun _ => (ct_name 1 (Nat.lt_of_sub_pos (Nat.le_of_ble_eq_true rfl)))) fun _ a11 => (ce_call M_is_from y_is_from (cl_cons (ce_var 1 rfl) fun _ => (cl_cons (ce_int 2) fun _ => cl_nil)))) fun _ => cl_nil))))))
      exact j) e
end D
end
section
set_option maxRecDepth 100000
set_option maxHeartbeats 2000000
namespace Y
open PySem PySem.Spec PyProof.Rows L2 G N J D Lin
theorem oAdd_i (a b : Int) : oAdd.f (.int a) (.int b) = some (.int (a + b)) := rfl
theorem oSub_i (a b : Int) : oSub.f (.int a) (.int b) = some (.int (a - b)) := rfl
theorem oMul_i {a b : Int} (h : sm a = true) (k : sm b = true) : oMul.f (.int a) (.int b) = some (.int (a * b)) := by rw [oMul_f, mulD_i, h, k]; rfl
theorem oMod_i {a b : Int} (h : 0 < b) : oMod.f (.int a) (.int b) = some (.int (a % b)) := by rw [oMod_f, modD_i, if_pos h]
theorem oFdiv_i {a b : Int} (h : 0 < b) (k : sm b = true) : oFdiv.f (.int a) (.int b) = some (.int (a / b)) := by rw [oFdiv_f, fdivD_i, k, decide_eq_true h]; exact if_pos rfl
def os_ (os : List Int) : D := .tuple (os.map .int)
def il (xs : List Int) : D := .list (xs.map .int)
structure Ords (os : List Int) : Prop where
  ne : os ≠ []
  pos : Pos os
  top : prodR os ≤ 1000000
theorem prodR_app : ∀ (a b : List Int), prodR (a ++ b) = prodR a * prodR b
  | [], b => by show prodR b = 1 * prodR b; rw [Int.one_mul]
  | o :: a, b => by show o * prodR (a ++ b) = o * prodR a * prodR b; rw [prodR_app a b, Int.mul_assoc]
theorem prodR_rev : ∀ os : List Int, prodR os.reverse = prodR os
  | [] => rfl
  | o :: os => by
    rw [List.reverse_cons, prodR_app, prodR_rev os]
    show prodR os * (o * 1) = o * prodR os
    rw [Int.mul_one, Int.mul_comm]
theorem Ords.rev {os : List Int} (h : Ords os) : Pos os.reverse ∧ prodR os.reverse ≤ 1000000 := ⟨fun o ho => h.pos o (List.mem_reverse.mp ho), by rw [prodR_rev]; exact h.top⟩
theorem pr_le {o w p : Int} {r : List Int} (ho : 2 ≤ o) (hr : Pos r) (hw : 1 ≤ w) (h : w * prodR (o :: r) ≤ p) : o ≤ p ∧ w ≤ p ∧ 1 ≤ w * o ∧ w * o ≤ p ∧ (w * o) * prodR r ≤ p := by
  have k := prodR_pos hr
  have e : w * prodR (o :: r) = w * o * prodR r := by show w * (o * prodR r) = _; rw [Int.mul_assoc]
  rw [e] at h
  have w0 : 1 ≤ w * o := by have := Int.mul_le_mul (a := 1) (b := 1) (c := w) (d := o) hw (by omega) (by omega) (by omega); omega
  have w1 : w * o ≤ w * o * prodR r := by
    have := Int.mul_le_mul_of_nonneg_left k (show 0 ≤ w * o by omega)
    omega
  have w2 : w ≤ w * o := by
    have := Int.mul_le_mul_of_nonneg_left (show 1 ≤ o by omega) (show 0 ≤ w by omega)
    omega
  have w3 : o ≤ w * o := by
    have := Int.mul_le_mul_of_nonneg_right hw (show 0 ≤ o by omega)
    omega
  exact ⟨by omega, by omega, w0, by omega, h⟩
theorem size_loop : ∀ (r : List Int) (w : Int), Pos r → 1 ≤ w → w * prodR r ≤ 1000000 → foldD (fun x7 s5 => bd (oMul.f s5 x7) fun t9 => some (t9)) (r.map .int) (.int w) = some (.int (w * prodR r))
  | [], w, _, _, _ => by show some (PyData.int w) = some (.int (w * 1)); rw [Int.mul_one]
  | o :: r, w, h, hw, hp => by
    obtain ⟨a1, a2, a3, a4, a5⟩ := pr_le h.head h.tail hw hp
    have so : sm o = true := sm_lo (by have := h.head; omega) (by omega)
    have sw : sm w = true := sm_lo (by omega) (by omega)
    rw [List.map_cons, foldD]
    simp only [oMul_i sw so, bd_some]
    rw [size_loop r (w * o) h.tail a3 a5]
    show some (PyData.int (w * o * prodR r)) = some (.int (w * (o * prodR r)))
    rw [Int.mul_assoc]
theorem size_y {os : List Int} (h : Ords os) : Y_size_of (os_ os) = some (.int (prodR os)) := by
  unfold Y_size_of os_
  refine bd_of (seq_t _) ?_
  rw [size_loop os 1 h.pos (by omega) (by have := h.top; omega), Int.one_mul]
  rfl
theorem plus_loop : ∀ (r : List Int) (a b t w : Int), Pos r → 1 ≤ w → w * prodR r ≤ 1000000 → ∃ a' b' w', foldD (fun x8 (s6 : D × D × D × D) => bd (oAdd.f s6.1 s6.2.1) fun t10 => bd (oMod.f t10 x8) fun t11 => bd (oMul.f t11 s6.2.2.2) fun t12 => bd (oAdd.f s6.2.2.1 t12) fun t13 => bd (oFdiv.f s6.1 x8) fun t15 => bd (oFdiv.f s6.2.1 x8) fun t16 => bd (oMul.f s6.2.2.2 x8) fun t17 => some (t15, t16, t13, t17)) (r.map .int) (.int a, .int b, .int t, .int w) = some (a', b', .int (t + w * linR r [a, b] []), w')
  | [], a, b, t, w, _, _, _ => ⟨_, _, _, by
    show some (PyData.int a, PyData.int b, PyData.int t, PyData.int w) = some (_, _, .int (t + w * 0), _)
    rw [Int.mul_zero, Int.add_zero]⟩
  | o :: r, a, b, t, w, h, hw, hp => by
    obtain ⟨a1, a2, a3, a4, a5⟩ := pr_le h.head h.tail hw hp
    have h2 := h.head
    have so : sm o = true := sm_lo (by omega) (by omega)
    have sw : sm w = true := sm_lo (by omega) (by omega)
    have o0 : 0 < o := by omega
    have sa : sm ((a + b) % o) = true := sm_lo (mod_lo o0) (by have := mod_hi (a := a + b) o0; omega)
    obtain ⟨a', b', w', e⟩ := plus_loop r (a / o) (b / o) (t + (a + b) % o * w) (w * o) h.tail a3 a5
    refine ⟨a', b', w', ?_⟩
    rw [List.map_cons, foldD]
    simp only [oMul_i sa sw, oMul_i sw so, oAdd_i, oMod_i o0, oFdiv_i o0 so, bd_some]
    rw [e]
    have z : t + (a + b) % o * w + w * o * linR r [a / o, b / o] [] = t + w * linR (o :: r) [a, b] [] := by
      have d : linR (o :: r) [a, b] [] = (a + b) % o + o * linR r [a / o, b / o] [] := by
        show ([a, b].sum - ([] : List Int).sum) % o + o * linR r [a / o, b / o] [] = _
        simp
      rw [d, Int.mul_add, Int.mul_comm ((a + b) % o), Int.mul_assoc w o, Int.add_assoc]
    rw [z]
theorem minus_loop : ∀ (r : List Int) (a b t w : Int), Pos r → 1 ≤ w → w * prodR r ≤ 1000000 → ∃ a' b' w', foldD (fun x8 (s6 : D × D × D × D) => bd (oSub.f s6.1 s6.2.1) fun t10 => bd (oMod.f t10 x8) fun t11 => bd (oMul.f t11 s6.2.2.2) fun t12 => bd (oAdd.f s6.2.2.1 t12) fun t13 => bd (oFdiv.f s6.1 x8) fun t15 => bd (oFdiv.f s6.2.1 x8) fun t16 => bd (oMul.f s6.2.2.2 x8) fun t17 => some (t15, t16, t13, t17)) (r.map .int) (.int a, .int b, .int t, .int w) = some (a', b', .int (t + w * linR r [a] [b]), w')
  | [], a, b, t, w, _, _, _ => ⟨_, _, _, by
    show some (PyData.int a, PyData.int b, PyData.int t, PyData.int w) = some (_, _, .int (t + w * 0), _)
    rw [Int.mul_zero, Int.add_zero]⟩
  | o :: r, a, b, t, w, h, hw, hp => by
    obtain ⟨a1, a2, a3, a4, a5⟩ := pr_le h.head h.tail hw hp
    have h2 := h.head
    have so : sm o = true := sm_lo (by omega) (by omega)
    have sw : sm w = true := sm_lo (by omega) (by omega)
    have o0 : 0 < o := by omega
    have sa : sm ((a - b) % o) = true := sm_lo (mod_lo o0) (by have := mod_hi (a := a - b) o0; omega)
    obtain ⟨a', b', w', e⟩ := minus_loop r (a / o) (b / o) (t + (a - b) % o * w) (w * o) h.tail a3 a5
    refine ⟨a', b', w', ?_⟩
    rw [List.map_cons, foldD]
    simp only [oMul_i sa sw, oMul_i sw so, oAdd_i, oSub_i, oMod_i o0, oFdiv_i o0 so, bd_some]
    rw [e]
    have z : t + (a - b) % o * w + w * o * linR r [a / o] [b / o] = t + w * linR (o :: r) [a] [b] := by
      have d : linR (o :: r) [a] [b] = (a - b) % o + o * linR r [a / o] [b / o] := by
        show ([a].sum - [b].sum) % o + o * linR r [a / o] [b / o] = _
        simp
      rw [d, Int.mul_add, Int.mul_comm ((a - b) % o), Int.mul_assoc w o, Int.add_assoc]
    rw [z]
def lin (os ps ns : List Int) : Int := linR os.reverse ps ns
theorem plus_y {os : List Int} (h : Ords os) (a b : Int) : Y_plus (os_ os) (.int a) (.int b) = some (.int (lin os [a, b] [])) := by
  obtain ⟨a', b', w', e⟩ := plus_loop os.reverse a b 0 1 h.rev.1 (by omega) (by have := h.rev.2; omega)
  unfold Y_plus os_
  refine bd_of (un2_t _ _) (bd_of (seq_t _) ?_)
  rw [← List.map_reverse]
  refine bd_of e ?_
  rw [Int.zero_add, Int.one_mul]
  rfl
theorem minus_y {os : List Int} (h : Ords os) (a b : Int) : Y_minus (os_ os) (.int a) (.int b) = some (.int (lin os [a] [b])) := by
  obtain ⟨a', b', w', e⟩ := minus_loop os.reverse a b 0 1 h.rev.1 (by omega) (by have := h.rev.2; omega)
  unfold Y_minus os_
  refine bd_of (un2_t _ _) (bd_of (seq_t _) ?_)
  rw [← List.map_reverse]
  refine bd_of e ?_
  rw [Int.zero_add, Int.one_mul]
  rfl
theorem lin_snoc {os : List Int} (h : Ords os) (us : List Int) (m : Int) : lin os [lin os us [], m] [] = lin os (us ++ [m]) [] := by
  unfold lin
  rw [lin_in h.rev.1]
  rfl
theorem sum_up_y {os : List Int} (h : Ords os) (ms : List Int) : Y_sum_up (os_ os) (il ms) = some (.int (lin os ms [])) := by
  have go : ∀ (ms us : List Int), foldD (fun x7 s5 => bd (Y_plus (os_ os) s5 x7) fun t9 => some (t9)) (ms.map .int) (.int (lin os us [])) = some (.int (lin os (us ++ ms) [])) := by
    intro ms
    induction ms with
    | nil => intro us; rw [List.append_nil]; rfl
    | cons m ms ih =>
      intro us
      rw [List.map_cons, foldD, plus_y h, bd_some, bd_some, lin_snoc h, ih (us ++ [m]), List.append_assoc]
      rfl
  have z := go ms []
  rw [show lin os [] [] = 0 from lin_nil _] at z
  unfold Y_sum_up il
  exact bd_of (seq_l _) (bd_of z rfl)
theorem lin_lo {os : List Int} (h : Ords os) (ps ns : List Int) : 0 ≤ lin os ps ns := (lin_rng h.rev.1 ps ns).1
theorem lin_hi {os : List Int} (h : Ords os) (ps ns : List Int) : lin os ps ns < prodR os := by
  have := (lin_rng h.rev.1 ps ns).2
  rwa [prodR_rev] at this
theorem orders_y {os : List Int} (h : Ords os) (hl : os.length ≤ 1000) : Y_are_orders (os_ os) = some (.bool true) := by
  have e : mapO (fun x10 => bd (Y_is_from x10 (.int 2)) fun t12 => some t12) (os.map PyData.int) = some (os.map fun o => .bool true) := mapO_of _ _ fun o ho => by
    rw [from_y]
    have := h.pos o ho
    simp [fromB, this]
  have a : allD [.list (os.map fun o => PyData.bool true)] = some (.bool true) := by
    show (boolsOf _).map _ = _
    rw [show (os.map fun o => PyData.bool true) = (os.map fun _ => true).map .bool by rw [List.map_map]; rfl, boolsOf_map]
    simp
  have ne : ¬ os.length = 0 := by
    intro z
    exact h.ne (List.length_eq_zero_iff.mp z)
  have l : os.length ≤ 1000000 := by omega
  unfold Y_are_orders os_
  simp [ne, e, a, l, -List.map_const', h.ne]
end Y
end
section
set_option maxRecDepth 100000
set_option maxHeartbeats 1000000
namespace D
open PySem PySem.Spec PyProof.Rows L2 G N J
end D
end
section
set_option maxRecDepth 100000
set_option maxHeartbeats 1000000
namespace D
open PySem PySem.Spec PyProof.Rows L2 G N J
def Y_is_system (v_value : D) : Option (D) :=
  bd (boolD (.bool (isT .tuple v_value))) fun b1 => bd (if (!b1) = true then some true else bd (bLen.f [v_value]) fun t4 => bd (oNe.f t4 (.int 3)) fun t5 => bd (boolD t5) fun b6 => some b6) fun b7 => if b7 = true then some (.bool false) else bd (un3 v_value) fun u10 => bd (Y_are_orders u10.1) fun t11 => bd (boolD t11) fun b12 => bd (if (!b12) = true then some true else bd (boolD (.bool (isT .list u10.2.1))) fun b15 => bd (if (!b15) = true then some true else bd (bLen.f [u10.2.1]) fun t18 => bd (oLt.f t18 (.int 2)) fun t19 => bd (boolD t19) fun b20 => some b20) fun b21 => some b21) fun b22 => if b22 = true then some (.bool false) else bd (Y_size_of u10.1) fun t25 => bd (seqD u10.2.1) fun t26 => bd (if (t26).length ≤ 1000000 then mapO (fun x27 => bd (Y_is_each_once x27 t25) fun t29 => some t29) t26 else none) fun ys30 => bd (bAll.f [(.list ys30)]) fun t31 => bd (boolD t31) fun t35 => bd (if t35 = true then bd (Y_is_below u10.2.2 t25) fun t34 => some t34 else some (.bool false)) fun t36 => some t36
end D
end
section
set_option maxRecDepth 100000
set_option maxHeartbeats 1000000
namespace D
open PySem PySem.Spec PyProof.Rows L2 G N J
def Y_check_system (v_system : D) : Option (D) :=
  bd (Y_is_system v_system) fun t2 => bd (boolD t2) fun b3 => if (!b3) = true then none else some (.none)
end D
end
section
set_option maxRecDepth 100000
set_option maxHeartbeats 1000000
namespace D
open PySem PySem.Spec PyProof.Rows L2 G N J
end D
end
section
set_option maxRecDepth 100000
set_option maxHeartbeats 1000000
namespace D
open PySem PySem.Spec PyProof.Rows L2 G N J
end D
end
section
set_option maxRecDepth 100000
set_option maxHeartbeats 1000000
namespace D
open PySem PySem.Spec PyProof.Rows L2 G N J
end D
end
section
set_option maxRecDepth 100000
set_option maxHeartbeats 1000000
namespace D
open PySem PySem.Spec PyProof.Rows L2 G N J
def Y_sum_borne (v_system : D) (v_code : D) : Option (D) :=
  bd (ixD v_system (.int 0)) fun t2 => bd (ixD v_system (.int 1)) fun t3 => bd (SI.zipE [t3, v_code]) fun t4 => bd (if (t4).length ≤ 1000000 then mapO (fun x6 => bd (un2 x6) fun u5 => bd (ixD u5.1 u5.2) fun t8 => some t8) t4 else none) fun ys9 => bd (Y_sum_up t2 (.list ys9)) fun t1 => some t1
end D
end
section
set_option maxRecDepth 100000
set_option maxHeartbeats 2000000
namespace Y
open PySem PySem.Spec PyProof.Rows L2 G N J D Lin
theorem get_ints {xs : List Int} {i : Nat} (h : i < xs.length) : (xs.map PyData.int)[i]? = some (.int (xs.getD i 0)) := by
  rw [List.getElem?_map, List.getElem?_eq_getElem h, List.getD_eq_getElem?_getD, List.getElem?_eq_getElem h]
  rfl
theorem pop_ints {xs : List Int} {i : Int} (h0 : 0 ≤ i) (h1 : i < xs.length) (hl : xs.length ≤ 1000000) : popD (xs.map .int) (.int i) = some (.int (xs.getD i.toNat 0), (xs.eraseIdx i.toNat).map .int) := by
  have hi : i.toNat < xs.length := by omega
  show (if 0 ≤ i ∧ i < (xs.map PyData.int).length ∧ (xs.map PyData.int).length ≤ 1000000 then match (xs.map PyData.int)[i.toNat]? with
      | some z => some (z, (xs.map PyData.int).eraseIdx i.toNat)
      | none => none
    else none) = _
  rw [List.length_map, if_pos ⟨h0, h1, hl⟩, get_ints hi]
  dsimp only
  rw [eraseIdx_map]
theorem erase_perm : ∀ {l : List Int} {i : Nat}, i < l.length → (l.getD i 0 :: l.eraseIdx i).Perm l
  | y :: ys, 0, h => .refl _
  | y :: ys, i + 1, h => (List.Perm.swap y (ys.getD i 0) _).trans ((erase_perm (l := ys) (i := i) (by simpa using h)).cons y)
theorem isP_of {n : Nat} {t : List Int} (p : t.Perm ((List.range n).map fun (i : Nat) => (i : Int))) : IsP n t := by
  have nd : ((List.range n).map fun (i : Nat) => (i : Int)).Nodup := by
    rw [List.nodup_iff_pairwise_ne, List.pairwise_map]
    exact List.Pairwise.imp (fun h => by omega) List.pairwise_lt_range
  have mem : ∀ x ∈ t, ∃ i, i < n ∧ x = ((i : Nat) : Int) := fun x hx => by
    obtain ⟨i, hi, e⟩ := List.mem_map.mp (p.mem_iff.mp hx)
    exact ⟨i, List.mem_range.mp hi, e.symm⟩
  refine ⟨by rw [p.length_eq, List.length_map, List.length_range], p.nodup_iff.mpr nd, fun x hx => ?_, fun x hx => ?_⟩ <;> obtain ⟨i, hi, rfl⟩ := mem x hx <;> omega
def rgI (n : Nat) : List Int := (List.range n).map fun (i : Nat) => (i : Int)
theorem rgD1_n {n : Nat} (h : n ≤ 1000000) : rgD1 (.int n) = some (il (rgI n)) := by
  show (if SE.rgOk 0 (n : Int) = true then some (PyData.list (SI.rng 0 n)) else none) = _
  rw [show SE.rgOk 0 (n : Int) = true by
    unfold SE.rgOk
    rw [decide_eq_true (show (-16777216 : Int) ≤ 0 by omega), decide_eq_true (show (0 : Int) ≤ 16777216 by omega), decide_eq_true (show (-16777216 : Int) ≤ n by omega), decide_eq_true (show (n : Int) ≤ 16777216 by omega), decide_eq_true (show ((n : Int) - 0).toNat ≤ 1000000 by omega)]
    rfl, if_pos rfl, rng_n]
  unfold il rgI
  rw [List.map_map]
  rfl
def sysD (os : List Int) (ts : List (List Int)) (t : Int) : D := .tuple [os_ os, .list (ts.map il), .int t]
structure Sys (n : Nat) (os : List Int) (ts : List (List Int)) (t : Int) : Prop where
  o : Ords os
  sz : (n : Int) = prodR os
  ol : os.length ≤ 1000
  nl : n ≤ 4000
  lo : 2 ≤ ts.length
  hi : ts.length ≤ 1000
  p : ∀ tb ∈ ts, IsP n tb
  t0 : 0 ≤ t
  t1 : t < n
variable {n : Nat} {os : List Int} {ts : List (List Int)} {t : Int}
theorem all_true {α : Type} (xs : List α) : allD [.list (xs.map fun _ => PyData.bool true)] = some (.bool true) := by
  show (boolsOf _).map _ = _
  rw [show (xs.map fun _ => PyData.bool true) = (xs.map fun _ => true).map .bool by rw [List.map_map]; rfl, boolsOf_map]
  simp
theorem below_i {n : Nat} {x : Int} (h0 : 0 ≤ x) (h1 : x < n) : Y_is_below (.int x) (.int n) = some (.bool true) := by
  rw [below_y]
  simp [below, h0, h1]
theorem system_y (S : Sys n os ts t) : Y_is_system (sysD os ts t) = some (.bool true) := by
  have e : mapO (fun x27 => bd (Y_is_each_once x27 (.int n)) fun t29 => some t29) (ts.map il) = some (ts.map fun _ => .bool true) := mapO_of _ _ fun tb htb => by
    unfold il
    rw [each_y _ _ fun xs e => by cases e; rw [List.length_map, (S.p tb htb).len]; exact S.nl, (S.p tb htb).each]
    rfl
  have so := size_y S.o
  rw [← S.sz] at so
  have oo := orders_y S.o S.ol
  have lo : ¬ ((ts.map il).length : Int) < 2 := by have := S.lo; rw [List.length_map]; omega
  have hi : (ts.map il).length ≤ 1000000 := by have := S.hi; rw [List.length_map]; omega
  have bt := below_i S.t0 S.t1
  unfold Y_is_system sysD
  simp [oo, so, e, lo, hi, all_true, bt, -List.length_map, -List.map_const']
theorem chk_sys (S : Sys n os ts t) : Y_check_system (sysD os ts t) = some .none := by
  unfold Y_check_system
  rw [system_y S]
  rfl
structure Cod (n : Nat) (ts : List (List Int)) (c : List Int) : Prop where
  len : c.length = ts.length
  lo : ∀ x ∈ c, 0 ≤ x
  hi : ∀ x ∈ c, x < n
variable {c : List Int}
def mem (ts : List (List Int)) (c : List Int) : List Int := (ts.zip c).map fun p => p.1.getD p.2.toNat 0
theorem at_ints {xs : List Int} {i : Int} (h0 : 0 ≤ i) (h1 : i < xs.length) : ixD (il xs) (.int i) = some (.int (xs.getD i.toNat 0)) := by
  show atD (xs.map PyData.int) i = _
  unfold atD
  rw [if_pos h0, get_ints (by omega)]
theorem borne_y (S : Sys n os ts t) (C : Cod n ts c) : Y_sum_borne (sysD os ts t) (il c) = some (.int (lin os (mem ts c) [])) := by
  have z : zipD (ts.map il) (c.map .int) = (ts.zip c).map fun p => .tuple [il p.1, .int p.2] := by
    unfold zipD
    rw [List.zip_map, List.map_map]
    rfl
  have e : mapO (fun x6 => bd (un2 x6) fun u5 => bd (ixD u5.1 u5.2) fun t8 => some t8) (zipD (ts.map il) (c.map .int)) = some ((mem ts c).map .int) := by
    rw [z]
    have := mapO_of (f := fun x6 => bd (un2 x6) fun u5 => bd (ixD u5.1 u5.2) fun t8 => some t8) (fun (p : List Int × Int) => .tuple [il p.1, .int p.2]) (fun p => .int (p.1.getD p.2.toNat 0)) (xs := ts.zip c) fun p hp => by
      obtain ⟨h1, h2⟩ := List.of_mem_zip (a := p.1) (b := p.2) hp
      rw [un2_t, bd_some, at_ints (C.lo _ h2) (by rw [(S.p _ h1).len]; exact C.hi _ h2)]
      rfl
    rw [this]
    unfold mem
    rw [List.map_map]
    rfl
  have l : (zipD (ts.map il) (c.map .int)).length ≤ 1000000 := by
    rw [zipD_len, List.length_map]
    have := S.hi
    omega
  have su := sum_up_y S.o (mem ts c)
  unfold Y_sum_borne sysD
  refine bd_of (a := os_ os) rfl (bd_of (a := .list (ts.map il)) rfl (bd_of (zip_ll _ _) (bd_of (ite_t l e) (bd_of su rfl))))
end Y
end
section
set_option maxRecDepth 100000
set_option maxHeartbeats 1000000
namespace D
open PySem PySem.Spec PyProof.Rows L2 G N J
end D
end
section
set_option maxRecDepth 100000
set_option maxHeartbeats 1000000
namespace D
open PySem PySem.Spec PyProof.Rows L2 G N J
end D
end
section
set_option maxRecDepth 100000
set_option maxHeartbeats 1000000
namespace D
open PySem PySem.Spec PyProof.Rows L2 G N J
end D
end
section
set_option maxRecDepth 100000
set_option maxHeartbeats 1000000
namespace D
open PySem PySem.Spec PyProof.Rows L2 G N J
end D
end
section
set_option maxRecDepth 100000
set_option maxHeartbeats 1000000
namespace D
open PySem PySem.Spec PyProof.Rows L2 G N J
end D
end
section
set_option maxRecDepth 100000
set_option maxHeartbeats 1000000
namespace D
open PySem PySem.Spec PyProof.Rows L2 G N J
def Y_power (v_base : D) (v_times : D) : Option (D) :=
  bd (rgI1 [v_times]) fun t3 => bd (foldD (fun x7 s5 => bd (oMul.f s5 v_base) fun t9 => some (t9)) t3 ((.int 1))) fun s10 => some s10
end D
end
section
set_option maxRecDepth 100000
set_option maxHeartbeats 1000000
namespace D
open PySem PySem.Spec PyProof.Rows L2 G N J
def Y_how_many_codes (v_system : D) : Option (D) :=
  bd (Y_check_system v_system) fun t2 => bd (ixD v_system (.int 0)) fun t5 => bd (Y_size_of t5) fun t4 => bd (ixD v_system (.int 1)) fun t6 => bd (bLen.f [t6]) fun t7 => bd (oSub.f t7 (.int 1)) fun t8 => bd (Y_power t4 t8) fun t3 => some t3
end D
end
section
set_option maxRecDepth 100000
set_option maxHeartbeats 2000000
namespace Y
open PySem PySem.Spec PyProof.Rows L2 G N J D Lin
variable {n : Nat} {os : List Int} {ts : List (List Int)} {t : Int} {c : List Int}
def put (c : List Int) (p : Nat) (x : Int) : List Int := c.take p ++ [x] ++ c.drop (p + 1)
theorem put_len {p : Nat} (hp : p < c.length) (x : Int) : (put c p x).length = c.length := by
  unfold put
  rw [List.length_append, List.length_append, List.length_take, List.length_drop, List.length_singleton]
  omega
theorem Cod.put (C : Cod n ts c) {p : Nat} (hp : p < ts.length) {x : Int} (h0 : 0 ≤ x) (h1 : x < n) : Cod n ts (put c p x) := by
  have m : ∀ y ∈ Y.put c p x, y = x ∨ y ∈ c := fun y hy => by
    unfold Y.put at hy
    rcases List.mem_append.mp hy with hy | hy
    · rcases List.mem_append.mp hy with hy | hy
      · exact .inr (List.mem_of_mem_take hy)
      · exact .inl (List.mem_singleton.mp hy)
    · exact .inr (List.mem_of_mem_drop hy)
  refine ⟨by rw [put_len (by rw [C.len]; exact hp), C.len], fun y hy => ?_, fun y hy => ?_⟩
  · rcases m y hy with rfl | h
    · exact h0
    · exact C.lo y h
  · rcases m y hy with rfl | h
    · exact h1
    · exact C.hi y h
def rest (ts : List (List Int)) (c : List Int) (p : Nat) : List Int := mem (ts.take p) (c.take p) ++ mem (ts.drop (p + 1)) (c.drop (p + 1))
theorem getD_in {α : Type} {xs : List α} {i : Nat} {d : α} (h : i < xs.length) : xs.getD i d ∈ xs := by
  rw [List.getD_eq_getElem?_getD, List.getElem?_eq_getElem h]
  exact List.getElem_mem h
theorem nodup_le : ∀ {l S : List Int}, l.Nodup → (∀ x ∈ l, x ∈ S) → l.length ≤ S.length
  | [], _, _, _ => Nat.zero_le _
  | x :: l, S, nd, h => by
    have hx := h x (List.mem_cons_self ..)
    have nd' := List.nodup_cons.mp nd
    have ih := nodup_le (l := l) (S := S.erase x) nd'.2 fun y hy => by
      have ne : y ≠ x := fun e => nd'.1 (e ▸ hy)
      exact (List.mem_erase_of_ne ne).mpr (h y (List.mem_cons_of_mem _ hy))
    have e := List.length_erase_of_mem hx
    have p := List.length_pos_of_mem hx
    show l.length + 1 ≤ _
    omega
def off (os : List Int) (ts : List (List Int)) (t : Int) (c : List Int) : Int := lin os (mem ts c) [t]
def want (os : List Int) (ts : List (List Int)) (t : Int) (c : List Int) (p : Nat) : Int := lin os [t] (rest ts c p)
theorem eqv_ii (a b : Int) : PyData.eqv (.int a) (.int b) = decide (a = b) := by
  simp [PyData.eqv]
  by_cases c : a = b <;> simp [c]
theorem pow_y {b : Int} (h0 : 0 ≤ b) (h1 : b ≤ 4000) : ∀ (xs : List D) (j : Nat), j + xs.length ≤ 300 → foldD (fun x7 s5 => bd (oMul.f s5 (.int b)) fun t9 => some (t9)) xs (.int (b ^ j)) = some (.int (b ^ (j + xs.length)))
  | [], j, _ => rfl
  | x :: xs, j, h => by
    have sb : sm b = true := sm_lo h0 (by omega)
    have sp : sm (b ^ j) = true := by
      refine sm_of (n := 12 * 300) ?_ (by decide)
      rw [Int.natAbs_pow]
      have : b.natAbs < 2 ^ 12 := by omega
      have l1 : b.natAbs ^ j ≤ (2 ^ 12) ^ j := Nat.pow_le_pow_left (by omega) j
      rw [← Nat.pow_mul] at l1
      exact Nat.lt_of_le_of_lt l1 (Nat.pow_lt_pow_right (by decide) (by rw [List.length_cons] at h; omega))
    rw [foldD, oMul_i sp sb, bd_some, bd_some, ← Int.pow_succ, pow_y h0 h1 xs (j + 1) (by rw [List.length_cons] at h; omega), List.length_cons, show j + 1 + xs.length = j + (xs.length + 1) by omega]
theorem power_y {b : Int} (h0 : 0 ≤ b) (h1 : b ≤ 4000) {m : Nat} (hm : m ≤ 300) : Y_power (.int b) (.int m) = some (.int (b ^ m)) := by
  have z := pow_y h0 h1 ((List.range m).map fun (i : Nat) => PyData.int i) 0 (by rw [List.length_map, List.length_range]; omega)
  rw [List.length_map, List.length_range, Nat.zero_add, Int.pow_zero] at z
  unfold Y_power
  exact bd_of (rg1_n (by omega)) (bd_of z rfl)
end Y
end
section
set_option maxRecDepth 100000
set_option maxHeartbeats 1000000
namespace D
open PySem PySem.Spec PyProof.Rows L2 G N J
end D
end
section
set_option maxRecDepth 100000
set_option maxHeartbeats 1000000
namespace D
open PySem PySem.Spec PyProof.Rows L2 G N J
end D
end
section
set_option maxRecDepth 100000
set_option maxHeartbeats 1000000
namespace D
open PySem PySem.Spec PyProof.Rows L2 G N J
end D
end
section
set_option maxRecDepth 100000
set_option maxHeartbeats 1000000
namespace D
open PySem PySem.Spec PyProof.Rows L2 G N J
end D
end
section
set_option maxRecDepth 100000
set_option maxHeartbeats 1000000
namespace D
open PySem PySem.Spec PyProof.Rows L2 G N J
end D
end
section
set_option maxRecDepth 100000
set_option maxHeartbeats 1000000
namespace D
open PySem PySem.Spec PyProof.Rows L2 G N J
end D
end
section
set_option maxRecDepth 100000
set_option maxHeartbeats 1000000
namespace D
open PySem PySem.Spec PyProof.Rows L2 G N J
end D
end
section
set_option maxRecDepth 100000
set_option maxHeartbeats 1000000
namespace D
open PySem PySem.Spec PyProof.Rows L2 G N J
end D
end
section
set_option maxRecDepth 100000
set_option maxHeartbeats 2000000
namespace Y
open PySem PySem.Spec PyProof.Rows L2 G N J D Lin
variable {n : Nat} {os : List Int} {ts : List (List Int)} {t : Int} {c : List Int}
theorem bInt_i (a : Int) : bInt.f [.int a] = some (.int a) := rfl
end Y
end
section
set_option maxRecDepth 100000
set_option maxHeartbeats 1000000
namespace D
open PySem PySem.Spec PyProof.Rows L2 G N J
end D
end
section
set_option maxRecDepth 100000
set_option maxHeartbeats 1000000
namespace D
open PySem PySem.Spec PyProof.Rows L2 G N J
end D
end
section
set_option maxRecDepth 100000
set_option maxHeartbeats 1000000
namespace D
open PySem PySem.Spec PyProof.Rows L2 G N J
end D
end
section
set_option maxRecDepth 100000
set_option maxHeartbeats 1000000
namespace D
open PySem PySem.Spec PyProof.Rows L2 G N J
end D
end
section
set_option maxRecDepth 100000
set_option maxHeartbeats 2000000
namespace Y
open PySem PySem.Spec PyProof.Rows L2 G N J D Lin
variable {n : Nat} {os : List Int} {ts : List (List Int)} {t : Int} {c : List Int}
theorem forC_all {σ β τ : Type} {st : D → σ → Option (Ct σ σ τ)} {s : σ} : ∀ (xs : List D), (∀ x ∈ xs, st x s = some (.nx s)) → forC (β := β) st xs s = some (.nx s)
  | [], _ => rfl
  | x :: xs, h => by
    rw [forC, h x (List.mem_cons_self ..)]
    exact forC_all xs fun y hy => h y (List.mem_cons_of_mem _ hy)
def okO (os : List Int) : Bool := !os.isEmpty && (os.all (fun o => decide (2 ≤ o)) && (decide (prodR os ≤ 12) && decide (os.length ≤ 3)))
theorem ords_of {os : List Int} (h : okO os = true) : Ords os ∧ prodR os ≤ 12 ∧ os.length ≤ 3 := by
  unfold okO at h
  simp only [Bool.and_eq_true, decide_eq_true_eq, List.all_eq_true, Bool.not_eq_true'] at h
  obtain ⟨h1, h2, h3, h4⟩ := h
  exact ⟨⟨(fun z => (by rw [z] at h1; cases h1)), h2, (by omega)⟩, h3, h4⟩
theorem eqn0 (x : Int) : oEq.f (.int x) (.int 0) = some (.bool (decide (x = 0))) := by rw [oEq_f, eqD_if]
end Y
end
section
set_option maxRecDepth 100000
set_option maxHeartbeats 2000000
namespace Y
open PySem PySem.Spec PyProof.Rows L2 G N J D Lin
variable {n : Nat} {os : List Int} {ts : List (List Int)} {t : Int} {c : List Int}
theorem many_y (S : Sys n os ts t) (hm : ts.length ≤ 300) : Y_how_many_codes (sysD os ts t) = some (.int ((n : Int) ^ (ts.length - 1))) := by
  have so := size_y S.o
  rw [← S.sz] at so
  have lo := S.lo
  have pw := power_y (b := (n : Int)) (by omega) (by have := S.nl; omega) (m := ts.length - 1) (by omega)
  have sb : oSub.f (.int (ts.map il).length) (.int 1) = some (.int ((ts.length - 1 : Nat) : Int)) := by
    rw [oSub_i, List.length_map, show (ts.length : Int) - 1 = ((ts.length - 1 : Nat) : Int) by omega]
  unfold Y_how_many_codes
  exact bd_of (chk_sys S) (bd_of (a := os_ os) rfl (bd_of so (bd_of (a := .list (ts.map il)) rfl (bd_of (a := .int (ts.map il).length) rfl (bd_of sb (bd_of pw rfl))))))
structure Sz (d : D) (k b : Nat) : Prop where
  p : pl d = true
  dep : d.depth ≤ k
  blk : d.bulk ≤ b
theorem Sz.ps {d : D} {k b : Nat} (h : Sz d k b) (hk : k ≤ 60) (hb : b ≤ 900000) : Ps d := ⟨h.p, Nat.le_trans h.dep hk, Nat.le_trans h.blk hb⟩
theorem Sz.mono {d : D} {k b k' b' : Nat} (h : Sz d k b) (hk : k ≤ k') (hb : b ≤ b') : Sz d k' b' := ⟨h.p, Nat.le_trans h.dep hk, Nat.le_trans h.blk hb⟩
theorem sz_int {i : Int} (h : i.natAbs < 10 ^ 12) : Sz (.int i) 0 0 := ⟨pl_int h, by rw [depth_int]; omega, by rw [bulk_int]; omega⟩
end Y
end
section
set_option maxRecDepth 100000
set_option maxHeartbeats 2000000
namespace Y
open PySem PySem.Spec PyProof.Rows L2 G N J D Lin
variable {n : Nat} {os : List Int} {ts : List (List Int)} {t : Int} {c : List Int}
theorem sz_list {ds : List D} {k b : Nat} (h : ∀ d ∈ ds, Sz d k b) : Sz (.list ds) (k + 1) (ds.length * (b + 1)) := ⟨pl_list fun d hd => (h d hd).p, depth_list fun d hd => (h d hd).dep, bulk_list fun d hd => (h d hd).blk⟩
theorem sz_tuple {ds : List D} {k b : Nat} (h : ∀ d ∈ ds, Sz d k b) : Sz (.tuple ds) (k + 1) (ds.length * (b + 1)) := ⟨pl_tuple fun d hd => (h d hd).p, depth_tuple fun d hd => (h d hd).dep, bulk_tuple fun d hd => (h d hd).blk⟩
theorem sz_ints {xs : List Int} (h : ∀ x ∈ xs, x.natAbs < 10 ^ 12) : Sz (il xs) 1 xs.length := by
  have := sz_list (ds := xs.map .int) (k := 0) (b := 0) fun d hd => by
    obtain ⟨x, hx, rfl⟩ := List.mem_map.mp hd
    exact sz_int (h x hx)
  rw [List.length_map, Nat.zero_add, Nat.mul_one] at this
  exact this
theorem sz_tup {xs : List Int} (h : ∀ x ∈ xs, x.natAbs < 10 ^ 12) : Sz (os_ xs) 1 xs.length := by
  have := sz_tuple (ds := xs.map .int) (k := 0) (b := 0) fun d hd => by
    obtain ⟨x, hx, rfl⟩ := List.mem_map.mp hd
    exact sz_int (h x hx)
  rw [List.length_map, Nat.zero_add, Nat.mul_one] at this
  exact this
def ext (n : Nat) (c : List Int) : List (List Int) := (List.range n).map fun (i : Nat) => c ++ [(i : Int)]
end Y
end
section
set_option maxRecDepth 100000
set_option maxHeartbeats 1000000
namespace D
open PySem PySem.Spec PyProof.Rows L2 G N J
end D
end
section
set_option maxRecDepth 100000
set_option maxHeartbeats 1000000
namespace D
open PySem PySem.Spec PyProof.Rows L2 G N J
end D
end
section
set_option maxRecDepth 100000
set_option maxHeartbeats 1000000
namespace D
open PySem PySem.Spec PyProof.Rows L2 G N J
end D
end
section
set_option maxRecDepth 100000
set_option maxHeartbeats 1000000
namespace D
open PySem PySem.Spec PyProof.Rows L2 G N J
end D
end
section
set_option maxRecDepth 100000
set_option maxHeartbeats 1000000
namespace D
open PySem PySem.Spec PyProof.Rows L2 G N J
end D
end
section
set_option maxRecDepth 100000
set_option maxHeartbeats 1000000
namespace D
open PySem PySem.Spec PyProof.Rows L2 G N J
end D
end
section
set_option maxRecDepth 100000
set_option maxHeartbeats 1000000
namespace D
open PySem PySem.Spec PyProof.Rows L2 G N J
def Y_minuses (v_orders : D) (v_first : D) (v_second : D) : Option (D) :=
  bd (SI.zipE [v_first, v_second]) fun t1 => bd (if (t1).length ≤ 1000000 then mapO (fun x3 => bd (un2 x3) fun u2 => bd (Y_minus v_orders u2.1 u2.2) fun t5 => some t5) t1 else none) fun ys6 => some (.list ys6)
def M_minuses : List D → Option (D)
  | [v_orders, v_first, v_second] => Y_minuses v_orders v_first v_second
  | _ => none
theorem y_minuses : ∀ (xs : List D) (z : D), M_minuses xs = some z → FD F_minuses xs = some z
  | [v_orders, v_first, v_second], z, e => fd_ofJ (xs := [v_orders, v_first, v_second]) rfl (Nat.le_of_ble_eq_true rfl) (by
      have j : JR Pd [.d v_orders, .d v_first, .d v_second, .no, .no] _ _ := (jr_of (env := [.d (v_orders), .d (v_first), .d (v_second), .no, .no]) (jt_retO (env := [.d (v_orders), .d (v_first), .d (v_second), .no, .no]) (co_lcY (ci_zip (cl_cons (ce_var 1 rfl) fun _ => (cl_cons (ce_var 2 rfl) fun _ => cl_nil))) (fun _ => (ct_tup2 3 4 (Nat.lt_of_sub_pos (Nat.le_of_ble_eq_true rfl)) (Nat.lt_of_sub_pos (Nat.le_of_ble_eq_true rfl)))) fun _ a4 => (ce_call M_minus y_minus (cl_cons (ce_var 0 rfl) fun _ => (cl_cons (ce_var 3 rfl) fun _ => (cl_cons (ce_var 4 rfl) fun _ => cl_nil)))))))
      exact j) e
end D
end
section
set_option maxRecDepth 100000
set_option maxHeartbeats 1000000
namespace D
open PySem PySem.Spec PyProof.Rows L2 G N J
def Y_pluses (v_orders : D) (v_first : D) (v_second : D) : Option (D) :=
  bd (SI.zipE [v_first, v_second]) fun t1 => bd (if (t1).length ≤ 1000000 then mapO (fun x3 => bd (un2 x3) fun u2 => bd (Y_plus v_orders u2.1 u2.2) fun t5 => some t5) t1 else none) fun ys6 => some (.list ys6)
def M_pluses : List D → Option (D)
  | [v_orders, v_first, v_second] => Y_pluses v_orders v_first v_second
  | _ => none
theorem y_pluses : ∀ (xs : List D) (z : D), M_pluses xs = some z → FD F_pluses xs = some z
  | [v_orders, v_first, v_second], z, e => fd_ofJ (xs := [v_orders, v_first, v_second]) rfl (Nat.le_of_ble_eq_true rfl) (by
      have j : JR Pd [.d v_orders, .d v_first, .d v_second, .no, .no] _ _ := (jr_of (env := [.d (v_orders), .d (v_first), .d (v_second), .no, .no]) (jt_retO (env := [.d (v_orders), .d (v_first), .d (v_second), .no, .no]) (co_lcY (ci_zip (cl_cons (ce_var 1 rfl) fun _ => (cl_cons (ce_var 2 rfl) fun _ => cl_nil))) (fun _ => (ct_tup2 3 4 (Nat.lt_of_sub_pos (Nat.le_of_ble_eq_true rfl)) (Nat.lt_of_sub_pos (Nat.le_of_ble_eq_true rfl)))) fun _ a4 => (ce_call M_plus y_plus (cl_cons (ce_var 0 rfl) fun _ => (cl_cons (ce_var 3 rfl) fun _ => (cl_cons (ce_var 4 rfl) fun _ => cl_nil)))))))
      exact j) e
end D
end
section
set_option maxRecDepth 100000
set_option maxHeartbeats 1000000
namespace D
open PySem PySem.Spec PyProof.Rows L2 G N J
def Y_row_by (v_orders : D) (v_kind : D) (v_first : D) (v_second : D) : Option (D) :=
  bd (oEq.f v_kind (.str "swap")) fun t1 => bd (boolD t1) fun b2 => bd (if b2 = true then bd (Y_minuses v_orders v_first v_second) fun t6 => some t6 else bd (Y_pluses v_orders v_first v_second) fun t7 => some t7) fun t8 => some t8
def M_row_by : List D → Option (D)
  | [v_orders, v_kind, v_first, v_second] => Y_row_by v_orders v_kind v_first v_second
  | _ => none
theorem y_row_by : ∀ (xs : List D) (z : D), M_row_by xs = some z → FD F_row_by xs = some z
  | [v_orders, v_kind, v_first, v_second], z, e => fd_ofJ (xs := [v_orders, v_kind, v_first, v_second]) rfl (Nat.le_of_ble_eq_true rfl) (by
      have j : JR Pd [.d v_orders, .d v_kind, .d v_first, .d v_second] _ _ := (jr_of (env := [.d (v_orders), .d (v_kind), .d (v_first), .d (v_second)]) (jt_ret (env := [.d (v_orders), .d (v_kind), .d (v_first), .d (v_second)]) (ce_ifx (cb_test (ce_op oEq (ce_var 1 rfl) (fun _ => (ce_str "swap")))) (fun q3 => (ce_call M_minuses y_minuses (cl_cons (ce_var 0 rfl) fun _ => (cl_cons (ce_var 2 rfl) fun _ => (cl_cons (ce_var 3 rfl) fun _ => cl_nil))))) fun q3 => (ce_call M_pluses y_pluses (cl_cons (ce_var 0 rfl) fun _ => (cl_cons (ce_var 2 rfl) fun _ => (cl_cons (ce_var 3 rfl) fun _ => cl_nil)))))))
      exact j) e
end D
end
section
set_option maxRecDepth 100000
set_option maxHeartbeats 1000000
namespace D
open PySem PySem.Spec PyProof.Rows L2 G N J
end D
end
section
set_option maxRecDepth 100000
set_option maxHeartbeats 1000000
namespace D
open PySem PySem.Spec PyProof.Rows L2 G N J
def Y_is_row_of (v_many : D) (v_value : D) : Option (D) :=
  bd (boolD (.bool (isT .list v_value))) fun t10 => bd (if t10 = true then bd (bLen.f [v_value]) fun t3 => bd (oEq.f t3 v_many) fun t4 => bd (boolD t4) fun t8 => bd (if t8 = true then bd (Y_are_below v_value v_many) fun t7 => some t7 else some (.bool false)) fun t9 => some t9 else some (.bool false)) fun t11 => some t11
def M_is_row_of : List D → Option (D)
  | [v_many, v_value] => Y_is_row_of v_many v_value
  | _ => none
theorem y_is_row_of : ∀ (xs : List D) (z : D), M_is_row_of xs = some z → FD F_is_row_of xs = some z
  | [v_many, v_value], z, e => fd_ofJ (xs := [v_many, v_value]) rfl (Nat.le_of_ble_eq_true rfl) (by
      have j : JR Pd [.d v_many, .d v_value] _ _ := (jr_of (env := [.d (v_many), .d (v_value)]) (jt_ret (env := [.d (v_many), .d (v_value)]) (ce_andV (ce_isi .list (ce_var 1 rfl)) fun q1 => (ce_andV (ce_op oEq (ce_cb bLen (cl_cons (ce_var 1 rfl) fun _ => cl_nil)) (fun _ => (ce_var 0 rfl))) fun q5 => (ce_call M_are_below y_are_below (cl_cons (ce_var 1 rfl) fun _ => (cl_cons (ce_var 0 rfl) fun _ => cl_nil)))))))
      exact j) e
end D
end
section
set_option maxRecDepth 100000
set_option maxHeartbeats 1000000
namespace D
open PySem PySem.Spec PyProof.Rows L2 G N J
end D
end
section
set_option maxRecDepth 100000
set_option maxHeartbeats 1000000
namespace D
open PySem PySem.Spec PyProof.Rows L2 G N J
end D
end
section
set_option maxRecDepth 100000
set_option maxHeartbeats 1000000
namespace D
open PySem PySem.Spec PyProof.Rows L2 G N J
end D
end
section
set_option maxRecDepth 100000
set_option maxHeartbeats 1000000
namespace D
open PySem PySem.Spec PyProof.Rows L2 G N J
end D
end
section
set_option maxRecDepth 100000
set_option maxHeartbeats 1000000
namespace D
open PySem PySem.Spec PyProof.Rows L2 G N J
end D
end
section
set_option maxRecDepth 100000
set_option maxHeartbeats 1000000
namespace D
open PySem PySem.Spec PyProof.Rows L2 G N J
end D
end
section
set_option maxRecDepth 100000
set_option maxHeartbeats 1000000
namespace D
open PySem PySem.Spec PyProof.Rows L2 G N J
def Y_check_orders (v_orders : D) : Option (D) :=
  bd (Y_are_orders v_orders) fun t2 => bd (boolD t2) fun b3 => if (!b3) = true then none else some (.none)
def M_check_orders : List D → Option (D)
  | [v_orders] => Y_check_orders v_orders
  | _ => none
theorem y_check_orders : ∀ (xs : List D) (z : D), M_check_orders xs = some z → FD F_check_orders xs = some z
  | [v_orders], z, e => fd_ofJ (xs := [v_orders]) rfl (Nat.le_of_ble_eq_true rfl) (by
      have j : JR Pd [.d v_orders] _ _ := (jr_end (env := [.d (v_orders)]) (jn_never (env := [.d (v_orders)]) (a := SS.never) (cbx (cb_not (cb_val (ce_call M_are_orders y_are_orders (cl_cons (ce_var 0 rfl) fun _ => cl_nil)))))))
      exact j) e
end D
end
section
set_option maxRecDepth 100000
set_option maxHeartbeats 1000000
namespace D
open PySem PySem.Spec PyProof.Rows L2 G N J
end D
end
section
set_option maxRecDepth 100000
set_option maxHeartbeats 1000000
namespace D
open PySem PySem.Spec PyProof.Rows L2 G N J
end D
end
section
set_option maxRecDepth 100000
set_option maxHeartbeats 1000000
namespace D
open PySem PySem.Spec PyProof.Rows L2 G N J
end D
end
section
set_option maxRecDepth 100000
set_option maxHeartbeats 1000000
namespace D
open PySem PySem.Spec PyProof.Rows L2 G N J
end D
end
section
set_option maxRecDepth 100000
set_option maxHeartbeats 2000000
namespace Y
open PySem PySem.Spec PyProof.Rows L2 G N J D Lin
variable {n : Nat} {os : List Int} {ts : List (List Int)} {t : Int} {c : List Int}
theorem shuf3_loop : ∀ (xs : List D) (left found : List Int) (es : List D) (k : Nat), left.length = xs.length → found.length + xs.length ≤ 100000 → Gn k es → k + 4 * xs.length ≤ 99999999999 →
    ∃ ys es', foldD (fun x9 (s7 : List D × List D × List D) => bd (atmO (bLen.f [(.list s7.2.1)])) fun t12 => bd (Yg_law_random s7.1 t12) fun t11 => bd (popD s7.2.1 t11.1) fun t13 => bd (appD s7.2.2 t13.1) fun t14 => some (t11.2, t13.2, t14)) xs (es, left.map .int, found.map .int) = some (es', [], (found ++ ys).map .int) ∧ ys.Perm left ∧ Gn (k + 4 * xs.length) es'
  | [], left, found, es, k, h0, _, g, _ => by
    have e0 : left = [] := List.length_eq_zero_iff.mp h0
    subst e0
    exact ⟨[], es, by rw [List.append_nil]; rfl, .refl _, g⟩
  | x :: xs, left, found, es, k, h0, hl, g, hk => by
    rw [List.length_cons] at h0 hl hk
    obtain ⟨r, es1, e1, r0, r1, g1⟩ := random_y g (by omega) (n := (left.length : Int)) (by omega) (by omega)
    have hr : r.toNat < left.length := by omega
    obtain ⟨ys, es', z, pm, g2⟩ := shuf3_loop xs (left.eraseIdx r.toNat) (found ++ [left.getD r.toNat 0]) es1 (k + 4) (by rw [List.length_eraseIdx_of_lt hr]; omega) (by rw [List.length_append]; simp; omega) g1 (by omega)
    refine ⟨left.getD r.toNat 0 :: ys, es', ?_, (pm.cons _).trans (erase_perm hr), g2.mono (by rw [List.length_cons]; omega)⟩
    have ln : atmO (bLen.f [(.list (left.map .int))]) = some (.int left.length) := by rw [bLen_f, len_l, List.length_map]; rfl
    have pp := pop_ints r0 r1 (by omega)
    have ap : appD (found.map .int) (.int (left.getD r.toNat 0)) = some ((found ++ [left.getD r.toNat 0]).map .int) := by rw [app_l (by rw [List.length_map]; omega), List.map_append]; rfl
    rw [foldD]
    dsimp only
    rw [ln, bd_some, e1, bd_some, pp, bd_some, ap, bd_some, bd_some, z, List.append_assoc]
    rfl
theorem rev_t (xs : List D) : revD (.tuple xs) = some (.tuple xs.reverse) := rfl
theorem neg_mod {o a : Int} : (o - a % o) % o = (0 - a) % o := by
  have h : o - a % o = (0 - a) + o * (1 + a / o) := by
    have := Int.emod_add_mul_ediv a o
    rw [Int.mul_add]
    omega
  rw [h, Int.add_mul_emod_self_left]
def kd : Bool → D
  | true => .str "swap"
  | false => .str "twin"
theorem kd_ss : oEq.f (kd true) (.str "swap") = some (.bool true) := by kernel_rfl
theorem kd_ts : oEq.f (kd false) (.str "swap") = some (.bool false) := by kernel_rfl
theorem kd_st : oEq.f (kd true) (.str "twin") = some (.bool false) := by kernel_rfl
theorem kd_tt : oEq.f (kd false) (.str "twin") = some (.bool true) := by kernel_rfl
def rowI (os : List Int) (s : Bool) (a b : List Int) : List Int := (a.zip b).map fun p => if s = true then lin os [p.1] [p.2] else lin os [p.1, p.2] []
theorem rowI_len (s : Bool) (a b : List Int) : (rowI os s a b).length = min a.length b.length := by unfold rowI; simp
theorem rowI_in (h : Ords os) (sz : (n : Int) = prodR os) (s : Bool) (a b : List Int) : ∀ x ∈ rowI os s a b, 0 ≤ x ∧ x < n := by
  intro x hx
  obtain ⟨p, _, rfl⟩ := List.mem_map.mp hx
  rw [sz]
  cases s
  · exact ⟨lin_lo h _ _, lin_hi h _ _⟩
  · exact ⟨lin_lo h _ _, lin_hi h _ _⟩
theorem zipD_ints (a b : List Int) : zipD (a.map .int) (b.map .int) = (a.zip b).map fun p => .tuple [.int p.1, .int p.2] := by
  unfold zipD
  rw [List.zip_map, List.map_map]
  rfl
theorem minuses_y (h : Ords os) {a b : List Int} (ha : a.length ≤ 100000) : Y_minuses (os_ os) (il a) (il b) = some (il (rowI os true a b)) := by
  unfold Y_minuses
  have m : mapO (fun x3 => bd (un2 x3) fun u2 => bd (Y_minus (os_ os) u2.1 u2.2) fun t5 => some t5) (zipD (a.map .int) (b.map .int)) = some ((rowI os true a b).map .int) := by
    rw [zipD_ints]
    unfold rowI
    rw [List.map_map]
    exact mapO_of (fun p : Int × Int => PyData.tuple [.int p.1, .int p.2]) _ fun p _ => bd_of (un2_t _ _) (bd_of (minus_y h _ _) rfl)
  exact bd_of (zip_ll _ _) (bd_of (ite_t (by rw [zipD_len, List.length_map]; omega) m) rfl)
theorem pluses_y (h : Ords os) {a b : List Int} (ha : a.length ≤ 100000) : Y_pluses (os_ os) (il a) (il b) = some (il (rowI os false a b)) := by
  unfold Y_pluses
  have m : mapO (fun x3 => bd (un2 x3) fun u2 => bd (Y_plus (os_ os) u2.1 u2.2) fun t5 => some t5) (zipD (a.map .int) (b.map .int)) = some ((rowI os false a b).map .int) := by
    rw [zipD_ints]
    unfold rowI
    rw [List.map_map]
    exact mapO_of (fun p : Int × Int => PyData.tuple [.int p.1, .int p.2]) _ fun p _ => bd_of (un2_t _ _) (bd_of (plus_y h _ _) rfl)
  exact bd_of (zip_ll _ _) (bd_of (ite_t (by rw [zipD_len, List.length_map]; omega) m) rfl)
theorem row_by_y (h : Ords os) (s : Bool) {a b : List Int} (ha : a.length ≤ 100000) : Y_row_by (os_ os) (kd s) (il a) (il b) = some (il (rowI os s a b)) := by
  unfold Y_row_by
  cases s
  · exact bd_of kd_ts (bd_of (boolD_b _) (bd_of (ite_f (by decide) (bd_of (pluses_y h ha) rfl)) rfl))
  · exact bd_of kd_ss (bd_of (boolD_b _) (bd_of (ite_t rfl (bd_of (minuses_y h ha) rfl)) rfl))
theorem at_nat {xs : List Int} {i : Nat} (h : i < xs.length) : ixD (il xs) (.int i) = some (.int (xs.getD i 0)) := by
  have := at_ints (xs := xs) (i := (i : Int)) (by omega) (by omega)
  rwa [show (i : Int).toNat = i from rfl] at this
theorem len_il (xs : List Int) : bLen.f [il xs] = some (.int xs.length) := by unfold il; rw [bLen_f, len_l, List.length_map]
end Y
end
section
set_option maxRecDepth 100000
set_option maxHeartbeats 0
namespace D
open PySem PySem.Spec PyProof.Rows L2 G N
end D
end
section
set_option maxRecDepth 100000
set_option maxHeartbeats 1000000
namespace D
open PySem PySem.Spec PyProof.Rows L2 G N J
end D
end
section
set_option maxRecDepth 100000
set_option maxHeartbeats 2000000
namespace Y
open PySem PySem.Spec PyProof.Rows L2 G N J D Lin
variable {n : Nat} {os : List Int} {ts : List (List Int)} {t : Int} {c : List Int}
def rowB (n : Int) : D → Bool
  | .list xs => decide ((xs.length : Int) = n) && xs.all (below n)
  | _ => false
theorem row_of_y (d : D) (n : Int) (hl : ∀ xs, d = .list xs → xs.length ≤ 1000000) : Y_is_row_of (.int n) d = some (.bool (rowB n d)) := by
  have hb := are_below_y d n hl
  unfold Y_is_row_of
  cases d with
  | list xs =>
    by_cases h : (xs.length : Int) = n
    · simp [isT, rowB, hb, belowL, h]
    · simp [isT, rowB, h]
  | _ => simp [isT, rowB]
structure Odd (x : D) : Prop where
  sh : ∀ a b, x = .tuple [a, b] → SeqAt.shaped a = true
  row : ∀ a xs, x = .tuple [a, .list xs] → xs.length ≤ 800000 ∧ ∀ y ∈ xs, Sz y 0 0
structure IsW (n : Nat) (w : Bool × List Int) : Prop where
  len : w.2.length = n
  rng : ∀ x ∈ w.2, 0 ≤ x ∧ x < n
end Y
end
section
set_option maxRecDepth 100000
set_option maxHeartbeats 2000000
namespace Y
open PySem PySem.Spec PyProof.Rows L2 G N J D Lin
variable {n : Nat} {os : List Int} {ts : List (List Int)} {t : Int} {c : List Int}
theorem eqv_ints : ∀ xs ys : List Int, PyData.eqvAll (xs.map .int) (ys.map .int) = decide (xs = ys)
  | [], [] => by simp [PyData.eqvAll]
  | [], y :: ys => by simp [PyData.eqvAll]
  | x :: xs, [] => by simp [PyData.eqvAll]
  | x :: xs, y :: ys => by
    rw [List.map_cons, List.map_cons, PyData.eqvAll, eqv_ii, eqv_ints xs ys]
    by_cases h : x = y <;> by_cases k : xs = ys <;> simp [h, k]
theorem eqv_il (xs ys : List Int) : PyData.eqv (il xs) (il ys) = decide (xs = ys) := by
  unfold il
  rw [PyData.eqv]
  exact eqv_ints xs ys
def Sml (xs : List Int) : Prop := xs.length ≤ 100000 ∧ ∀ x ∈ xs, x.natAbs < 10 ^ 12
theorem Sml.shaped {xs : List Int} (h : Sml xs) : SeqAt.shaped (il xs) = true := (Pl.ints (ns := xs) h.2 h.1).shaped
theorem eq_il {xs ys : List Int} (h : Sml xs) (k : Sml ys) : oEq.f (il xs) (il ys) = some (.bool (decide (xs = ys))) := by
  show (if (SeqAt.shaped (il xs) && SeqAt.shaped (il ys)) = true then _ else _) = _
  rw [h.shaped, k.shaped]
  show some (PyData.bool (PyData.eqv (il xs) (il ys))) = _
  rw [eqv_il]
theorem sort_il (xs : List Int) : bSorted.f [il xs] = some (il (sortI xs)) := by
  show (intsOf (xs.map .int)).map _ = _
  rw [intsOf_map]
  rfl
theorem sort_perm {a b : List Int} (p : a.Perm b) : sortI a = sortI b := sortI_of ((sortI_perm a).trans p) (sortI_sorted a)
theorem sml_in {n : Nat} {xs : List Int} (hn : n ≤ 4000) (hl : xs.length ≤ 100000) (h : ∀ x ∈ xs, 0 ≤ x ∧ x < n) : Sml xs := ⟨hl, fun x hx => by have := h x hx; omega⟩
theorem Sml.sort {xs : List Int} (h : Sml xs) : Sml (sortI xs) := ⟨by rw [(sortI_perm xs).length_eq]; exact h.1, fun x hx => h.2 x ((sortI_perm xs).mem_iff.mp hx)⟩
theorem below_in {x : Int} (h : 0 ≤ x ∧ x < n) : below n (.int x) = true := by
  show (decide (0 ≤ x) && decide (x < n)) = true
  rw [decide_eq_true h.1, decide_eq_true h.2]
  rfl
theorem all_map {α : Type} (f : α → Bool) (xs : List α) : allD [.list (xs.map fun x => PyData.bool (f x))] = some (.bool (xs.all f)) := by
  show (boolsOf _).map _ = _
  rw [show (xs.map fun x => PyData.bool (f x)) = (xs.map f).map .bool by rw [List.map_map]; rfl, boolsOf_map]
  simp
end Y
end
section
set_option maxRecDepth 100000
set_option maxHeartbeats 1000000
namespace D
open PySem PySem.Spec PyProof.Rows L2 G N J
def Y_law_size_v3 (v_orders_told : D) : Option (D) :=
  bd (seqD v_orders_told) fun t3 => bd (foldD (fun x7 s5 => bd (oMul.f s5 x7) fun t9 => some (t9)) t3 ((.int 1))) fun s10 => some s10
end D
end
section
set_option maxRecDepth 100000
set_option maxHeartbeats 1000000
namespace D
open PySem PySem.Spec PyProof.Rows L2 G N J
end D
end
section
set_option maxRecDepth 100000
set_option maxHeartbeats 1000000
namespace D
open PySem PySem.Spec PyProof.Rows L2 G N J
end D
end
section
set_option maxRecDepth 100000
set_option maxHeartbeats 1000000
namespace D
open PySem PySem.Spec PyProof.Rows L2 G N J
end D
end
section
set_option maxRecDepth 100000
set_option maxHeartbeats 1000000
namespace D
open PySem PySem.Spec PyProof.Rows L2 G N J
end D
end
section
set_option maxRecDepth 100000
set_option maxHeartbeats 2000000
namespace Y
open PySem PySem.Spec PyProof.Rows L2 G N J D Lin
variable {n : Nat} {os : List Int} {ts : List (List Int)} {t : Int} {c : List Int}
theorem size3_y (h : Ords os) : Y_law_size_v3 (os_ os) = some (.int (prodR os)) := by
  unfold Y_law_size_v3 os_
  refine bd_of (seq_t _) ?_
  rw [size_loop os 1 h.pos (by omega) (by have := h.top; omega), Int.one_mul]
  rfl
end Y
end
section
set_option maxRecDepth 100000
set_option maxHeartbeats 2000000
namespace Y
open PySem PySem.Spec PyProof.Rows L2 G N J D Lin
variable {n : Nat} {os : List Int} {ts : List (List Int)} {t : Int} {c : List Int}
theorem rp_ {d : D} (h : Ps d) : bRepr.f [d] = some (.str d.shown) := repr_pl h
theorem ne_s (x : Str) : oNe.f (.str x) (.str x) = some (.bool false) := neS x
theorem eq_s (x : Str) : oEq.f (.str x) (.str x) = some (.bool true) := eqS x
structure OddR (x : D) : Prop where
  odd : Odd x
  rep : ∃ u, bRepr.f [x] = some (.str u)
def Rw (xs : List D) : Prop := xs.length ≤ 5000 ∧ ∀ y ∈ xs, Sz y 0 0
theorem Rw.sz {xs : List D} (h : Rw xs) : Sz (.list xs) 1 5000 := (sz_list h.2).mono (by omega) (by have := h.1; omega)
end Y
end
section
set_option maxRecDepth 100000
set_option maxHeartbeats 1000000
namespace D
open PySem PySem.Spec PyProof.Rows L2 G N J
end D
end
section
set_option maxRecDepth 100000
set_option maxHeartbeats 1000000
namespace D
open PySem PySem.Spec PyProof.Rows L2 G N J
end D
end
section
set_option maxRecDepth 100000
set_option maxHeartbeats 1000000
namespace D
open PySem PySem.Spec PyProof.Rows L2 G N J
end D
end
section
set_option maxRecDepth 100000
set_option maxHeartbeats 1000000
namespace D
open PySem PySem.Spec PyProof.Rows L2 G N J
end D
end
section
set_option maxRecDepth 100000
set_option maxHeartbeats 1000000
namespace D
open PySem PySem.Spec PyProof.Rows L2 G N J
end D
end
section
set_option maxRecDepth 100000
set_option maxHeartbeats 1000000
namespace D
open PySem PySem.Spec PyProof.Rows L2 G N J
end D
end
section
set_option maxRecDepth 100000
set_option maxHeartbeats 1000000
namespace D
open PySem PySem.Spec PyProof.Rows L2 G N J
end D
end
section
set_option maxRecDepth 100000
set_option maxHeartbeats 1000000
namespace D
open PySem PySem.Spec PyProof.Rows L2 G N J
end D
end
section
set_option maxRecDepth 100000
set_option maxHeartbeats 0
namespace D
open PySem PySem.Spec PyProof.Rows L2 G N
end D
end
section
set_option maxRecDepth 100000
set_option maxHeartbeats 1000000
namespace D
open PySem PySem.Spec PyProof.Rows L2 G N J
end D
end
section
set_option maxRecDepth 100000
set_option maxHeartbeats 2000000
namespace Y
open PySem PySem.Spec PyProof.Rows L2 G N J D Lin
variable {n : Nat} {os : List Int} {ts : List (List Int)} {t : Int} {c : List Int}
theorem Sys.n1 (S : Sys n os ts t) : 2 ≤ n := by
  have h := S.sz
  have : 2 ≤ prodR os := by
    have := S.o
    cases os with
    | nil => exact absurd rfl this.ne
    | cons o r =>
      have h1 := this.pos.head
      have h2 := prodR_pos this.pos.tail
      have := Int.mul_le_mul (a := 2) (b := 1) (c := o) (d := prodR r) h1 h2 (by decide) (by omega)
      show 2 ≤ o * prodR r
      omega
  omega
end Y
end
section
set_option maxRecDepth 100000
set_option maxHeartbeats 2000000
namespace Y
open PySem PySem.Spec PyProof.Rows L2 G N J D Lin
variable {n : Nat} {os : List Int} {ts us : List (List Int)} {t u : Int} {c d : List Int}
theorem mem_range (h : c.length = ts.length) : mem ts c = (List.range ts.length).map fun i => (ts.getD i []).getD (c.getD i 0).toNat 0 := by
  unfold mem
  refine List.ext_getElem? fun i => ?_
  rw [List.getElem?_map, List.getElem?_map]
  by_cases hi : i < ts.length
  · rw [List.getElem?_range hi, (List.getElem?_zip_eq_some (z := (ts[i], c[i]'(by omega)))).mpr ⟨List.getElem?_eq_getElem hi, List.getElem?_eq_getElem (by omega)⟩]
    show some ((ts[i]).getD (c[i]'(by omega)).toNat 0) = some ((ts.getD i []).getD (c.getD i 0).toNat 0)
    rw [List.getD_eq_getElem?_getD (l := ts), List.getElem?_eq_getElem hi, List.getD_eq_getElem?_getD (l := c), List.getElem?_eq_getElem (by omega)]
    rfl
  · rw [List.getElem?_eq_none (by rw [List.length_zip]; omega), List.getElem?_eq_none (by rw [List.length_range]; omega)]
    rfl
theorem Sys.tl (S : Sys n os ts t) : ∀ tb ∈ ts, tb.length ≤ 4000 := fun tb h => by rw [(S.p tb h).len]; exact S.nl
end Y
end
section
set_option maxRecDepth 100000
set_option maxHeartbeats 4000000
namespace Wm
open PySem PySem.Spec PyProof.Rows L2 G Lin
open Y (rgI prodR_rev)
def prodI (os : List Int) : Int := prodR os
def Ords (os : List Int) : Prop := Y.Ords os
theorem Ords.pos {os : List Int} (h : Ords os) : Pos os.reverse := Y.Ords.rev h |>.1
theorem Ords.n {os : List Int} (h : Ords os) : prodR os.reverse = prodI os := prodR_rev os
structure Tab (n : Int) (t : List Int) : Prop where
  len : (t.length : Int) = n
  mem : ∀ x ∈ t, 0 ≤ x ∧ x < n
  nd : t.Nodup
theorem nodup_le : ∀ {l S : List Int}, l.Nodup → (∀ x ∈ l, x ∈ S) → l.length ≤ S.length
  | [], _, _, _ => Nat.zero_le _
  | x :: l, S, nd, h => by
    have hx := h x (List.mem_cons_self ..)
    have nd' := List.nodup_cons.mp nd
    have ih := nodup_le (l := l) (S := S.erase x) nd'.2 fun y hy => by
      have ne : y ≠ x := fun e => nd'.1 (e ▸ hy)
      exact (List.mem_erase_of_ne ne).mpr (h y (List.mem_cons_of_mem _ hy))
    have e := List.length_erase_of_mem hx
    have p := List.length_pos_of_mem hx
    show l.length + 1 ≤ _
    omega
theorem Tab.has {n : Int} {t : List Int} (T : Tab n t) {v : Int} (h0 : 0 ≤ v) (h1 : v < n) : v ∈ t := by
  refine Decidable.byContradiction fun c => ?_
  have hv : v ∈ (List.range n.toNat).map (fun i : Nat => (i : Int)) := List.mem_map.mpr ⟨v.toNat, List.mem_range.mpr (by omega), by omega⟩
  have q := nodup_le (l := t) (S := ((List.range n.toNat).map (fun i : Nat => (i : Int))).erase v) T.nd fun y hy => by
    have ne : y ≠ v := fun e => c (e ▸ hy)
    have m := T.mem y hy
    exact (List.mem_erase_of_ne ne).mpr (List.mem_map.mpr ⟨y.toNat, List.mem_range.mpr (by omega), by omega⟩)
  rw [List.length_erase_of_mem hv, List.length_map, List.length_range] at q
  have := T.len
  omega
theorem Tab.one {n : Int} {t : List Int} (T : Tab n t) {v : Int} (h0 : 0 ≤ v) (h1 : v < n) : ∃ w : Nat, w < n.toNat ∧ t[w]? = some v ∧ ∀ m : Nat, t[m]? = some v → m = w := by
  obtain ⟨w, hw⟩ := List.mem_iff_getElem?.mp (T.has h0 h1)
  have l := (List.getElem?_eq_some_iff.mp hw).1
  refine ⟨w, by have := T.len; omega, hw, fun m hm => ?_⟩
  obtain ⟨l1, e1⟩ := List.getElem?_eq_some_iff.mp hm
  obtain ⟨l2, e2⟩ := List.getElem?_eq_some_iff.mp hw
  rcases Nat.lt_trichotomy m w with q | q | q
  · exact absurd (e1.trans e2.symm) (List.pairwise_iff_getElem.mp T.nd m w l1 l2 q)
  · exact q
  · exact absurd (e2.trans e1.symm) (List.pairwise_iff_getElem.mp T.nd w m l2 l1 q)
theorem perm_erase : ∀ {xs : List Int} {p : Nat} {x : Int}, xs[p]? = some x → xs.Perm (x :: xs.eraseIdx p)
  | [], _, _, h => by simp at h
  | y :: xs, 0, x, h => by
    simp at h
    subst h
    exact List.Perm.refl _
  | y :: xs, p + 1, x, h => by
    have ih := perm_erase (xs := xs) (p := p) (by simpa using h)
    exact (ih.cons y).trans (List.Perm.swap x y _)
theorem rg_len (n : Nat) : (rgI n).length = n := by rw [rgI, List.length_map, List.length_range]
theorem idx_at : ∀ {l : List Int} {i : Nat} {x : Int}, l.Nodup → l[i]? = some x → l.idxOf x = i
  | [], _, _, _, h => by simp at h
  | y :: l, 0, x, _, h => by
    have : y = x := by simpa using h
    subst this
    simp [List.idxOf_cons]
  | y :: l, i + 1, x, nd, h => by
    have nd' := List.nodup_cons.mp nd
    have h' : l[i]? = some x := by simpa using h
    have ne : y ≠ x := fun e => nd'.1 (e ▸ List.mem_of_getElem? h')
    have ih := idx_at nd'.2 h'
    rw [List.idxOf_cons]
    rw [show (y == x) = false from beq_eq_false_iff_ne.mpr ne, ih]
    rfl
theorem rg_at {n i : Nat} (h : i < n) : (rgI n)[i]? = some (i : Int) := by
  rw [rgI, List.getElem?_map, List.getElem?_range h]
  rfl
theorem rg_nodup (n : Nat) : (rgI n).Nodup := List.pairwise_map.mpr (List.nodup_range.imp fun {a b} h => by omega)
theorem lin_eq : ∀ {r ps ns qs ms : List Int}, (ps ++ ms).Perm (qs ++ ns) → linR r ps ns = linR r qs ms
  | [], _, _, _, _, _ => rfl
  | o :: r, ps, ns, qs, ms, h => by
    have s := sum_perm h
    rw [List.sum_append, List.sum_append] at s
    have ih := lin_eq (r := r) (ps := ps.map (· / o)) (ns := ns.map (· / o)) (qs := qs.map (· / o)) (ms := ms.map (· / o)) (by rw [← List.map_append, ← List.map_append]; exact h.map _)
    show (ps.sum - ns.sum) % o + o * _ = (qs.sum - ms.sum) % o + o * _
    rw [ih, show ps.sum - ns.sum = qs.sum - ms.sum by omega]
theorem perm_c {xs ys : List Int} (h : ∀ x : Int, xs.count x = ys.count x) : xs.Perm ys := List.perm_iff_count.mpr h
section
variable {r : List Int}
theorem lin_cut (h : Pos r) {x y : Int} (x0 : 0 ≤ x) (x1 : x < prodR r) (y0 : 0 ≤ y) (y1 : y < prodR r) (ps ns : List Int) (e : linR r (x :: ps) ns = linR r (y :: ps) ns) : x = y := by
  have a := lin_one h x0 x1
  have b := lin_one h y0 y1
  have c : ∀ z : Int, linR r [linR r (z :: ps) ns] [linR r ps ns] = linR r [z] [] := fun z => by
    rw [lin_in h, lin_eq (ps := (z :: ps) ++ []) (ns := ns ++ [linR r ps ns]) (qs := z :: ps) (ms := linR r ps ns :: ns) (perm_c fun u => by simp only [List.count_append, List.count_cons, List.count_nil]; omega), lin_out h]
    exact lin_eq (perm_c fun u => by simp only [List.count_append, List.count_cons, List.count_nil]; omega)
  rw [← a, ← b, ← c x, ← c y, e]
theorem lin_cutn (h : Pos r) {x y : Int} (x0 : 0 ≤ x) (x1 : x < prodR r) (y0 : 0 ≤ y) (y1 : y < prodR r) (ps ns : List Int) (e : linR r ps (x :: ns) = linR r ps (y :: ns)) : x = y := by
  refine lin_cut h x0 x1 y0 y1 [] [] ?_
  have c : ∀ z : Int, linR r ps [linR r ps (z :: ns), linR r ns []] = linR r [z] [] := fun z => by
    rw [lin_out h, lin_eq (ps := (z :: ns) ++ ps) (ns := ps ++ [linR r ns []]) (qs := (z :: ns) ++ ps) (ms := linR r ns [] :: ps) (perm_c fun u => by simp only [List.count_append, List.count_cons, List.count_nil]; omega), lin_out h]
    exact lin_eq (perm_c fun u => by simp only [List.count_append, List.count_cons, List.count_nil]; omega)
  rw [← c x, ← c y, e]
end
def At (b : List Int) (m v : Int) : Prop := b[m.toNat]? = some v
theorem At.uniq {b : List Int} {m v u : Int} (h : At b m v) (k : At b m u) : v = u := by
  unfold At at h k
  rw [h] at k
  exact Option.some.inj k
theorem at_set {b : List Int} {m v : Int} {n : Nat} (hl : b.length = n) (h0 : 0 ≤ m) (h : m < n) : At (b.set m.toNat v) m v := List.getElem?_set_self (by omega)
theorem at_ne {b : List Int} {m k v u : Int} (hm : 0 ≤ m) (hk : 0 ≤ k) (ne : k ≠ m) (h : At b k u) : At (b.set m.toNat v) k u := by
  unfold At
  rw [List.getElem?_set_ne (by omega)]
  exact h
theorem at_in {b : List Int} {m : Int} {n : Nat} (hl : b.length = n) (h0 : 0 ≤ m) (h : m < n) : ∃ v, At b m v := ⟨b[m.toNat]'(by omega), List.getElem?_eq_getElem _⟩
structure WInv (r : List Int) (n : Nat) (c : List Int) (F : List Int) (p q new : Int) (b br : List Int) (t w v : Int) (L : List Int) : Prop where
  lc : c.length = n
  lb : b.length = n
  lr : br.length = n
  nd : L.Nodup
  mem : ∀ x ∈ L, 0 ≤ x ∧ x < n
  tail : ∃ M, L = M ++ [t, w]
  one : L[0]? = some p
  two : L[1]? = some q
  took : ∀ (i : Nat) (x y : Int), L[i]? = some x → L[i + 1]? = some y → i + 2 < L.length → At b x (linR r [p, new, q] [y])
  fresh : ∀ x u : Int, 0 ≤ x → x < n → x ∉ L → At c x u → At b x u
  hist : ∀ (i : Nat) (x y : Int), L[i + 2]? = some x → L[i + 1]? = some y → At c x (linR r [p, new, q] [y])
  brs : ∀ u : Int, 0 ≤ u → u < n → u ∉ F → ∃ m : Int, At br u m ∧ 0 ≤ m ∧ m < n ∧ m ≠ t ∧ m ≠ w ∧ At b m u
  bs : ∀ m : Int, 0 ≤ m → m < n → m ≠ t → m ≠ w → ∃ u : Int, At b m u ∧ 0 ≤ u ∧ u < n ∧ u ∉ F ∧ At br u m
  want : v = linR r [p, new, q] [w]
section
variable {r : List Int} {n : Nat} {c F : List Int} {p q new : Int} {b br L : List Int} {t w v : Int}
theorem WInv.ts (h : WInv r n c F p q new b br t w v L) : t ∈ L ∧ w ∈ L ∧ t ≠ w := by
  obtain ⟨M, e⟩ := h.tail
  have nd := h.nd
  rw [e] at nd ⊢
  refine ⟨by simp, by simp, fun z => ?_⟩
  subst z
  have := (List.nodup_append.mp nd).2.1
  simp at this
theorem WInv.few (h : WInv r n c F p q new b br t w v L) : L.length ≤ n := by
  have q := nodup_le (l := L) (S := rgI n) h.nd fun x hx => by
    have := h.mem x hx
    exact List.mem_map.mpr ⟨x.toNat, List.mem_range.mpr (by omega), by omega⟩
  rwa [rg_len] at q
theorem WInv.vr (h : WInv r n c F p q new b br t w v L) (hp : Pos r) (hn : prodR r = n) : 0 ≤ v ∧ v < n := by
  have := lin_rng hp [p, new, q] [w]
  rw [h.want, ← hn]
  exact this
theorem WInv.step (h : WInv r n c F p q new b br t w v L) (hp : Pos r) (hn : prodR r = n) (hv : v ∉ F) :
    ∃ j, At br v j ∧ 0 ≤ j ∧ j < n ∧ WInv r n c F p q new (b.set t.toNat v) (br.set v.toNat t) w j (linR r [w, linR r [v] [j]] []) (L ++ [j]) := by
  obtain ⟨v0, v1⟩ := h.vr hp hn
  obtain ⟨tL, wL, tw⟩ := h.ts
  obtain ⟨t0, t1⟩ := h.mem t tL
  obtain ⟨w0, w1⟩ := h.mem w wL
  obtain ⟨j, hj, j0, j1, jt, jw, bj⟩ := h.brs v v0 v1 hv
  obtain ⟨M, eM⟩ := h.tail
  have hl : L.length = M.length + 2 := by rw [eM]; simp
  have lt : L[M.length]? = some t := by rw [eM]; simp
  have lw : L[M.length + 1]? = some w := by rw [eM]; simp
  have jL : j ∉ L := fun hm => by
    obtain ⟨i, hi⟩ := List.mem_iff_getElem?.mp hm
    have il := (List.getElem?_eq_some_iff.mp hi).1
    have i1 : i ≠ M.length := fun e => by
      subst e
      rw [lt] at hi
      exact jt (Option.some.inj hi).symm
    have i2 : i ≠ M.length + 1 := fun e => by
      subst e
      rw [lw] at hi
      exact jw (Option.some.inj hi).symm
    have hy : L[i + 1]? = some (L[i + 1]'(by omega)) := List.getElem?_eq_getElem _
    generalize L[i + 1]'(by omega) = y at hy
    have k := h.took i j y hi hy (by omega)
    have e := k.uniq bj
    rw [h.want] at e
    obtain ⟨y0, y1⟩ := h.mem y (List.mem_of_getElem? hy)
    have ey := lin_cutn hp y0 (by omega) w0 (by omega) [p, new, q] [] e
    subst ey
    have a1 := idx_at h.nd hy
    have a2 := idx_at h.nd lw
    omega
  have nw : linR r [w, linR r [v] [j]] [] = linR r [p, new, q] [j] := by
    rw [h.want]
    have e1 : linR r [w, linR r [linR r [p, new, q] [w]] [j]] [] = linR r [linR r [linR r [p, new, q] [w]] [j], w] [] := lin_eq (perm_c fun u => by simp only [List.count_append, List.count_cons, List.count_nil]; omega)
    rw [e1, lin_in hp]
    show linR r (linR r [p, new, q] [w] :: [w]) [j] = _
    rw [lin_in hp]
    exact lin_eq (perm_c fun u => by simp only [List.count_append, List.count_cons, List.count_nil]; omega)
  refine ⟨j, hj, j0, j1, ?_⟩
  have get_old : ∀ (i : Nat) (x : Int), i < L.length → (L ++ [j])[i]? = some x → L[i]? = some x := fun i x hi e => by
    rw [List.getElem?_append_left hi] at e
    exact e
  have get_new : ∀ (x : Int), (L ++ [j])[L.length]? = some x → x = j := fun x e => by
    rw [List.getElem?_append_right (Nat.le_refl _), Nat.sub_self] at e
    exact (Option.some.inj e).symm
  refine { lc := h.lc, lb := by rw [List.length_set]; exact h.lb, lr := by rw [List.length_set]; exact h.lr, nd := ?_, mem := ?_, tail := ⟨M ++ [t], by rw [eM]; simp⟩, one := ?_, two := ?_, took := ?_, fresh := ?_, hist := ?_, brs := ?_, bs := ?_, want := nw }
  · exact List.nodup_append.mpr ⟨h.nd, by simp, fun a ha b hb => by
      have : b = j := by simpa using hb
      subst this
      exact fun e => jL (e ▸ ha)⟩
  · intro x hx
    rcases List.mem_append.mp hx with hx | hx
    · exact h.mem x hx
    · have : x = j := by simpa using hx
      subst this
      exact ⟨j0, j1⟩
  · rw [List.getElem?_append_left (by omega)]
    exact h.one
  · rw [List.getElem?_append_left (by omega)]
    exact h.two
  · intro i x y hx hy hi
    rw [List.length_append] at hi
    have hi' : i + 2 < L.length + 1 := hi
    have hx' := get_old i x (by omega) hx
    have hy' := get_old (i + 1) y (by omega) hy
    by_cases c : i = M.length
    · subst c
      rw [lt] at hx'
      rw [lw] at hy'
      cases hx'
      cases hy'
      rw [← h.want]
      exact at_set h.lb t0 t1
    · have k := h.took i x y hx' hy' (by omega)
      have x0 := h.mem x (List.mem_of_getElem? hx')
      refine at_ne t0 x0.1 (fun e => ?_) k
      subst e
      have a1 := idx_at h.nd hx'
      have a2 := idx_at h.nd lt
      omega
  · intro x u x0 x1 hx k
    have xL : x ∉ L := fun z => hx (List.mem_append_left _ z)
    exact at_ne t0 x0 (fun e => xL (e ▸ tL)) (h.fresh x u x0 x1 xL k)
  · intro i x y hx hy
    have il : i + 2 < (L ++ [j]).length := (List.getElem?_eq_some_iff.mp hx).1
    rw [List.length_append] at il
    have il' : i + 2 < L.length + 1 := il
    have hy' := get_old (i + 1) y (by omega) hy
    by_cases c : i + 2 = L.length
    · rw [c] at hx
      have ex := get_new x hx
      subst ex
      have e2 : i + 1 = M.length + 1 := by omega
      rw [e2, lw] at hy'
      cases hy'
      obtain ⟨u, hu⟩ := at_in h.lc j0 j1
      have k := h.fresh x u j0 j1 jL hu
      rw [k.uniq bj, h.want] at hu
      exact hu
    · exact h.hist i x y (get_old (i + 2) x (by omega) hx) hy'
  · intro u u0 u1 hu
    by_cases c : u = v
    · subst c
      exact ⟨t, at_set h.lr u0 u1, t0, t1, tw, fun e => jt e.symm, at_set h.lb t0 t1⟩
    · obtain ⟨m, k1, m0, m1, mt, mw, k2⟩ := h.brs u u0 u1 hu
      refine ⟨m, at_ne v0 u0 c k1, m0, m1, mw, fun e => ?_, at_ne t0 m0 mt k2⟩
      subst e
      exact c (k2.uniq bj)
  · intro m m0 m1 mw mj
    by_cases c : m = t
    · subst c
      exact ⟨v, at_set h.lb t0 t1, v0, v1, hv, at_set h.lr v0 v1⟩
    · obtain ⟨u, k1, u0, u1, uF, k2⟩ := h.bs m m0 m1 c mw
      refine ⟨u, at_ne t0 m0 c k1, u0, u1, uF, at_ne v0 u0 (fun e => ?_) k2⟩
      subst e
      exact mj (k2.uniq hj)
end
def bv (b : List Int) (m : Int) : Int := b.getD m.toNat 0
theorem At.bv {b : List Int} {m v : Int} (h : At b m v) : bv b m = v := by
  unfold Wm.bv
  unfold At at h
  rw [List.getD_eq_getElem?_getD, h]
  rfl
theorem at_bv {b : List Int} {m : Int} {n : Nat} (hl : b.length = n) (h0 : 0 ≤ m) (h : m < n) : At b m (bv b m) := by
  obtain ⟨v, hv⟩ := at_in hl h0 h
  rw [hv.bv]
  exact hv
def dl (r b : List Int) : List Int := (rgI b.length).map fun m => linR r [bv b m] [m]
theorem mem_rg {n : Nat} {x : Int} : x ∈ rgI n ↔ 0 ≤ x ∧ x < n := by
  constructor
  · intro h
    obtain ⟨i, hi, rfl⟩ := List.mem_map.mp h
    have := List.mem_range.mp hi
    omega
  · intro h
    exact List.mem_map.mpr ⟨x.toNat, List.mem_range.mpr (by omega), by omega⟩
theorem perm_rg_of {n : Nat} {l : List Int} (nd : l.Nodup) (h : ∀ x, x ∈ l ↔ 0 ≤ x ∧ x < n) : l.Perm (rgI n) := by
  refine List.perm_iff_count.mpr fun x => ?_
  rw [nd.count, (rg_nodup n).count]
  by_cases c : 0 ≤ x ∧ x < n
  · rw [if_pos ((h x).mpr c), if_pos (mem_rg.mpr c)]
  · rw [if_neg (fun z => c ((h x).mp z)), if_neg (fun z => c (mem_rg.mp z))]
theorem split_rg {n : Nat} {L : List Int} (nd : L.Nodup) (h : ∀ x ∈ L, 0 ≤ x ∧ x < n) : (rgI n).Perm (L ++ (rgI n).filter fun x => decide (x ∉ L)) := by
  refine (perm_rg_of ?_ fun x => ?_).symm
  · refine List.nodup_append.mpr ⟨nd, (rg_nodup n).filter _, fun a ha b hb e => ?_⟩
    subst e
    have := (List.mem_filter.mp hb).2
    simp at this
    exact this ha
  · rw [List.mem_append, List.mem_filter, mem_rg]
    constructor
    · rintro (a | a)
      · exact h x a
      · exact a.1
    · intro a
      by_cases c : x ∈ L
      · exact .inl c
      · exact .inr ⟨a, by simpa using c⟩
def invT (t : List Int) : List Int := (rgI t.length).map fun m => ((t.idxOf m : Nat) : Int)
theorem inv_len (t : List Int) : (invT t).length = t.length := by unfold invT; rw [List.length_map, rg_len]
theorem inv_at {n : Nat} {t : List Int} (T : Tab (n : Int) t) {m v : Int} (h0 : 0 ≤ m) (h : At t m v) : At (invT t) v m := by
  have hv := T.mem v (List.mem_of_getElem? h)
  have hl := T.len
  unfold At invT
  rw [List.getElem?_map, rg_at (by omega)]
  have e : ((v.toNat : Nat) : Int) = v := by omega
  show some (((t.idxOf ((v.toNat : Nat) : Int) : Nat) : Int)) = _
  rw [e, idx_at T.nd h]
  congr 1
  omega
theorem at_has {n : Nat} {t : List Int} (T : Tab (n : Int) t) {v : Int} (h0 : 0 ≤ v) (h1 : v < n) : ∃ m, At t m v ∧ 0 ≤ m ∧ m < n := by
  obtain ⟨w, hw, h, _⟩ := T.one h0 h1
  exact ⟨(w : Int), by unfold At; rw [Int.toNat_natCast]; exact h, by omega, by omega⟩
theorem at_inj {n : Nat} {t : List Int} (T : Tab (n : Int) t) {m k v : Int} (m0 : 0 ≤ m) (k0 : 0 ≤ k) (h : At t m v) (g : At t k v) : m = k := by
  have a := idx_at T.nd h
  have b := idx_at T.nd g
  omega
section
variable {r : List Int} {n : Nat} {c F : List Int} {p q new : Int} {b br L : List Int} {t w v : Int}
theorem WInv.start (hp : Pos r) (hn : prodR r = n) (T : Tab (n : Int) c) (p0 : 0 ≤ p) (p1 : p < n) (q0 : 0 ≤ q) (q1 : q < n) (pq : p ≠ q) {cp cq : Int} (hcp : At c p cp) (hcq : At c q cq) :
    WInv r n c [cp, cq] p q new c (invT c) p q (linR r [p, new] []) [p, q] := by
  have hl : c.length = n := by have := T.len; omega
  refine { lc := hl, lb := hl, lr := by rw [inv_len]; exact hl, nd := by simp [pq], mem := ?_, tail := ⟨[], rfl⟩, one := rfl, two := rfl, took := ?_, fresh := fun _ _ _ _ _ h => h, hist := ?_, brs := ?_, bs := ?_, want := ?_ }
  · intro x hx
    rcases List.mem_cons.mp hx with rfl | hx
    · exact ⟨p0, p1⟩
    · have : x = q := by simpa using hx
      subst this
      exact ⟨q0, q1⟩
  · intro i x y _ _ h
    have h' : i + 2 < 2 := h
    omega
  · intro i x y h
    have h' : i + 2 < 2 := (List.getElem?_eq_some_iff.mp h).1
    omega
  · intro u u0 u1 hu
    obtain ⟨m, hm, m0, m1⟩ := at_has T u0 u1
    refine ⟨m, inv_at T m0 hm, m0, m1, fun e => ?_, fun e => ?_, hm⟩
    · subst e
      exact hu (by rw [hm.uniq hcp]; simp)
    · subst e
      exact hu (by rw [hm.uniq hcq]; simp)
  · intro m m0 m1 mp mq
    obtain ⟨u, hu⟩ := at_in hl m0 m1
    have hur := T.mem u (List.mem_of_getElem? hu)
    refine ⟨u, hu, hur.1, hur.2, fun z => ?_, inv_at T m0 hu⟩
    rcases List.mem_cons.mp z with rfl | z
    · exact mp (at_inj T m0 p0 hu hcp)
    · have : u = cq := by simpa using z
      subst this
      exact mq (at_inj T m0 q0 hu hcq)
  · exact lin_eq (perm_c fun u => by simp only [List.count_append, List.count_cons, List.count_nil]; omega)
theorem slide {fd od : Int → Int} : ∀ (T : List Int) (y : Int), (∀ (i : Nat) (x z : Int), (y :: T)[i]? = some x → (y :: T)[i + 1]? = some z → od z = fd x) → ∃ l, (y :: T).getLast? = some l ∧ (y :: T).map fd = T.map od ++ [fd l]
  | [], y, _ => ⟨y, rfl, rfl⟩
  | z :: T, y, h => by
    obtain ⟨l, e1, e2⟩ := slide T z fun i a b h1 h2 => h (i + 1) a b (by simpa using h1) (by simpa using h2)
    refine ⟨l, by rw [List.getLast?_cons_cons]; exact e1, ?_⟩
    rw [List.map_cons, e2, ← h 0 y z rfl rfl]
    rfl
theorem sum_dl (hp : Pos r) (hn : prodR r = n) {b : List Int} (T : Tab (n : Int) b) : linR r (dl r b) [] = 0 := by
  have hl : b.length = n := by have := T.len; omega
  have g : ∀ l : List Int, linR r (l.map fun m => linR r [bv b m] [m]) [] = linR r (l.map (bv b)) l := fun l => by
    induction l with
    | nil => rfl
    | cons x l ih =>
      rw [List.map_cons, lin_in hp]
      have e : ∀ us : List Int, linR r ([bv b x] ++ us) ([x] ++ []) = linR r [linR r us [], bv b x] [x] := fun us => by
        rw [lin_in hp]
        exact lin_eq (perm_c fun u => by simp only [List.count_append, List.count_cons, List.count_nil]; omega)
      rw [e, ih, lin_in hp]
      exact lin_eq (perm_c fun u => by simp only [List.map_cons, List.count_append, List.count_cons, List.count_nil]; omega)
  unfold dl
  rw [g, hl]
  have e : (rgI n).map (bv b) = b := by
    refine List.ext_getElem? fun i => ?_
    by_cases hi : i < n
    · rw [List.getElem?_map, rg_at hi]
      have k := at_bv (m := (i : Int)) hl (by omega) (by omega)
      unfold At at k
      rw [Int.toNat_natCast] at k
      exact k.symm
    · rw [List.getElem?_eq_none (by rw [List.length_map, rg_len]; omega), List.getElem?_eq_none (by omega)]
  rw [e, ← lin_all (r := r) b]
  refine lin_eq ?_
  have pb : b.Perm (rgI n) := perm_rg_of T.nd fun x => ⟨fun h => T.mem x h, fun h => T.has h.1 h.2⟩
  exact (List.Perm.refl b).append pb
theorem lin_z (h : Pos r) (ds ps : List Int) (e : linR r ds [] = 0) : linR r (ps ++ ds) [] = linR r ps [] := by
  have a := lin_in h ps [] ds []
  have b := lin_in h ps [] [] []
  rw [lin_nil] at b
  rw [e] at a
  refine (lin_eq (qs := ds ++ ps) (ms := []) (ns := []) (perm_c fun u => by simp only [List.count_append, List.count_cons, List.count_nil]; omega)).trans (?_ : linR r (ds ++ ps) [] = _)
  have a' : linR r (0 :: ps) [] = linR r (ds ++ ps) [] := by simpa using a
  have b' : linR r (0 :: ps) [] = linR r ps [] := by simpa using b
  exact a'.symm.trans b'
theorem tab_at {b : List Int} (hl : b.length = n) (h : ∀ m : Int, 0 ≤ m → m < n → ∃ u, At b m u ∧ 0 ≤ u ∧ u < n) (inj : ∀ m k u : Int, 0 ≤ m → m < n → 0 ≤ k → k < n → At b m u → At b k u → m = k) : Tab (n : Int) b := by
  refine ⟨by omega, fun x hx => ?_, List.pairwise_iff_getElem.mpr fun i j hi hj hij e => ?_⟩
  · obtain ⟨i, hi⟩ := List.mem_iff_getElem?.mp hx
    have l := (List.getElem?_eq_some_iff.mp hi).1
    obtain ⟨u, hu, u0, u1⟩ := h i (by omega) (by omega)
    unfold At at hu
    rw [Int.toNat_natCast, hi] at hu
    cases hu
    exact ⟨u0, u1⟩
  · have := inj i j b[i] (by omega) (by omega) (by omega) (by omega) (by unfold At; rw [Int.toNat_natCast]; exact List.getElem?_eq_getElem hi) (by unfold At; rw [Int.toNat_natCast, e]; exact List.getElem?_eq_getElem hj)
    omega
theorem WInv.done (h : WInv r n c F p q new b br t w v L) (hp : Pos r) (hn : prodR r = n) (T : Tab (n : Int) c) (n0 : 0 ≤ new) (n1 : new < n) {o : Int} (o0 : 0 ≤ o) (o1 : o < n) (hF : ∀ u, u ∈ F ↔ u = v ∨ u = o) (vo : v ≠ o) :
    Tab (n : Int) ((b.set t.toNat v).set w.toNat o) ∧ (linR r [bv c p] [p] :: linR r [bv c q] [q] :: dl r ((b.set t.toNat v).set w.toNat o)).Perm (new :: linR r [linR r [bv c p] [p], linR r [bv c q] [q]] [new] :: dl r c) := by
  obtain ⟨tL, wL, tw⟩ := h.ts
  obtain ⟨t0, t1⟩ := h.mem t tL
  obtain ⟨w0, w1⟩ := h.mem w wL
  obtain ⟨v0, v1⟩ := h.vr hp hn
  have cl : c.length = n := h.lc
  have bl : ((b.set t.toNat v).set w.toNat o).length = n := by rw [List.length_set, List.length_set]; exact h.lb
  have aw : At ((b.set t.toNat v).set w.toNat o) w o := at_set (by rw [List.length_set]; exact h.lb) w0 w1
  have at' : At ((b.set t.toNat v).set w.toNat o) t v := at_ne w0 t0 tw (at_set h.lb t0 t1)
  have am : ∀ m u : Int, 0 ≤ m → m ≠ t → m ≠ w → At b m u → At ((b.set t.toNat v).set w.toNat o) m u := fun m u m0 mt mw k => at_ne w0 m0 mw (at_ne t0 m0 mt k)
  generalize hb' : (b.set t.toNat v).set w.toNat o = b' at bl aw at' am ⊢
  have vF : v ∈ F := (hF v).mpr (.inl rfl)
  have oF : o ∈ F := (hF o).mpr (.inr rfl)
  have T' : Tab (n : Int) b' := by
    refine tab_at bl (fun m m0 m1 => ?_) fun m k u m0 m1 k0 k1 hm hk => ?_
    · by_cases c1 : m = t
      · exact ⟨v, by rw [c1]; exact at', v0, v1⟩
      by_cases c2 : m = w
      · exact ⟨o, by rw [c2]; exact aw, o0, o1⟩
      obtain ⟨u, k1, u0, u1, _⟩ := h.bs m m0 m1 c1 c2
      exact ⟨u, am m u m0 c1 c2 k1, u0, u1⟩
    · have key : ∀ m : Int, 0 ≤ m → m < n → At b' m u → (m = t ∧ u = v) ∨ (m = w ∧ u = o) ∨ (u ∉ F ∧ At br u m) := fun m m0 m1 hm => by
        by_cases c1 : m = t
        · subst c1
          exact .inl ⟨rfl, hm.uniq at'⟩
        by_cases c2 : m = w
        · subst c2
          exact .inr (.inl ⟨rfl, hm.uniq aw⟩)
        obtain ⟨u2, k1, _, _, uF, k2⟩ := h.bs m m0 m1 c1 c2
        have e := hm.uniq (am m u2 m0 c1 c2 k1)
        subst e
        exact .inr (.inr ⟨uF, k2⟩)
      rcases key m m0 m1 hm with ⟨a, ea⟩ | ⟨a, ea⟩ | ⟨a, ea⟩ <;> rcases key k k0 k1 hk with ⟨b2, eb⟩ | ⟨b2, eb⟩ | ⟨b2, eb⟩
      · omega
      · omega
      · exact absurd (ea ▸ vF) b2
      · omega
      · omega
      · exact absurd (ea ▸ oF) b2
      · exact absurd (eb ▸ vF) a
      · exact absurd (eb ▸ oF) a
      · exact ea.uniq eb
  refine ⟨T', ?_⟩
  -- the history
  obtain ⟨Tl, eL⟩ : ∃ Tl, L = p :: q :: Tl := by
    match L, h.one, h.two with
    | a :: b :: l, h1, h2 =>
      have e1 : a = p := by simpa using h1
      have e2 : b = q := by simpa using h2
      exact ⟨l, by rw [e1, e2]⟩
  obtain ⟨M, eM⟩ := h.tail
  have ll : L.length = M.length + 2 := by rw [eM]; simp
  have lt : L[M.length]? = some t := by rw [eM]; simp
  have lw : L[M.length + 1]? = some w := by rw [eM]; simp
  have bn : ∀ (i : Nat) (x y : Int), L[i]? = some x → L[i + 1]? = some y → At b' x (linR r [p, new, q] [y]) := fun i x y hx hy => by
    have il := (List.getElem?_eq_some_iff.mp hy).1
    by_cases c1 : i = M.length
    · subst c1
      rw [lt] at hx
      rw [lw] at hy
      cases hx
      cases hy
      rw [← h.want]
      exact at'
    · have k := h.took i x y hx hy (by omega)
      have xr := h.mem x (List.mem_of_getElem? hx)
      refine am x _ xr.1 (fun e => ?_) (fun e => ?_) k
      · subst e
        have a1 := idx_at h.nd hx
        have a2 := idx_at h.nd lt
        omega
      · subst e
        have a1 := idx_at h.nd hx
        have a2 := idx_at h.nd lw
        omega
  obtain ⟨l, _, es⟩ := slide (fd := fun m => linR r [bv b' m] [m]) (od := fun m => linR r [bv c m] [m]) Tl q fun i x z hx hz => by
    have hx' : L[i + 1]? = some x := by rw [eL]; simpa using hx
    have hz' : L[i + 2]? = some z := by rw [eL]; simpa using hz
    have k1 := bn (i + 1) x z hx' hz'
    have k2 := h.hist i z x hz' hx'
    show linR r [bv c z] [z] = linR r [bv b' x] [x]
    rw [k1.bv, k2.bv, lin_in hp, lin_in hp]
    exact lin_eq (perm_c fun u => by simp only [List.count_append, List.count_cons, List.count_nil]; omega)
  have ep : linR r [bv b' p] [p] = new := by
    have k := bn 0 p q h.one h.two
    rw [k.bv, lin_in hp, ← lin_one hp n0 (by rw [hn]; exact n1)]
    rw [lin_one hp n0 (by rw [hn]; exact n1)]
    exact (lin_eq (perm_c fun u => by simp only [List.count_append, List.count_cons, List.count_nil]; omega)).trans (lin_one hp n0 (by rw [hn]; exact n1))
  have sp := split_rg h.nd h.mem
  have d1 := sp.map (fun m => linR r [bv b' m] [m])
  have d2 := sp.map (fun m => linR r [bv c m] [m])
  have er : ((rgI n).filter fun x => decide (x ∉ L)).map (fun m => linR r [bv b' m] [m]) = ((rgI n).filter fun x => decide (x ∉ L)).map (fun m => linR r [bv c m] [m]) := by
    refine List.map_congr_left fun x hx => ?_
    obtain ⟨h1, h2⟩ := List.mem_filter.mp hx
    have xr := mem_rg.mp h1
    have xL : x ∉ L := by simpa using h2
    have k := h.fresh x _ xr.1 xr.2 xL (at_bv cl xr.1 xr.2)
    rw [(am x _ xr.1 (fun e => xL (e ▸ tL)) (fun e => xL (e ▸ wL)) k).bv]
  rw [List.map_append, er] at d1
  rw [List.map_append] at d2
  generalize ((rgI n).filter fun x => decide (x ∉ L)).map (fun m => linR r [bv c m] [m]) = R at d1 d2
  have f1 : L.map (fun m => linR r [bv b' m] [m]) = new :: (Tl.map (fun m => linR r [bv c m] [m]) ++ [linR r [bv b' l] [l]]) := by
    rw [eL, List.map_cons, es, ep]
  have f2 : L.map (fun m => linR r [bv c m] [m]) = linR r [bv c p] [p] :: linR r [bv c q] [q] :: Tl.map (fun m => linR r [bv c m] [m]) := by
    rw [eL, List.map_cons, List.map_cons]
  rw [f1] at d1
  rw [f2] at d2
  have g1 : (linR r [bv c p] [p] :: linR r [bv c q] [q] :: dl r b').Perm (new :: linR r [bv b' l] [l] :: dl r c) := by
    unfold dl
    rw [bl, cl]
    refine List.perm_iff_count.mpr fun u => ?_
    have a := d1.count_eq u
    have b := d2.count_eq u
    simp only [List.count_append, List.count_cons, List.count_nil] at a b ⊢
    omega
  have ex : linR r [bv b' l] [l] = linR r [linR r [bv c p] [p], linR r [bv c q] [q]] [new] := by
    have x0 := lin_rng hp [bv b' l] [l]
    have y0 := lin_rng hp [linR r [bv c p] [p], linR r [bv c q] [q]] [new]
    generalize linR r [bv b' l] [l] = x at g1 x0 ⊢
    refine lin_cut hp x0.1 x0.2 y0.1 y0.2 [new] [] ?_
    have s1 := lin_z hp (dl r b') [linR r [bv c p] [p], linR r [bv c q] [q]] (sum_dl hp hn T')
    have s2 := lin_z hp (dl r c) [new, x] (sum_dl hp hn T)
    have s3 : linR r ([linR r [bv c p] [p], linR r [bv c q] [q]] ++ dl r b') [] = linR r ([new, x] ++ dl r c) [] := lin_eq (by rw [List.append_nil, List.append_nil]; exact g1)
    rw [s1, s2] at s3
    refine (lin_eq (ps := [x, new]) (ns := []) (qs := [new, x]) (ms := []) (perm_c fun u => by simp only [List.count_append, List.count_cons, List.count_nil]; omega)).trans (s3.symm.trans ?_)
    rw [lin_in hp [new] [] [linR r [bv c p] [p], linR r [bv c q] [q]] [new]]
    exact lin_eq (perm_c fun u => by simp only [List.count_append, List.count_cons, List.count_nil]; omega)
  rw [← ex]
  exact g1
end
def othF (F : List Int) (v : Int) : Int := (F.erase v).headD 0
def walkL (r F : List Int) : Nat → List Int → List Int → Int → Int → Int → List Int
  | 0, b, _, _, _, _ => b
  | k + 1, b, br, t, w, v => if v ∈ F then (b.set t.toNat v).set w.toNat (othF F v) else walkL r F k (b.set t.toNat v) (br.set v.toNat t) w (bv br v) (linR r [w, linR r [v] [bv br v]] [])
def tkr (r c : List Int) (old : Int) : Nat := (dl r c).idxOf old
def wtL (D : List Int) (last p : Int) : List Int := (rgI D.length).filter fun m => decide (bv D m = last) && decide (m ≠ p)
def wtr (r c : List Int) (old last : Int) : Int := (wtL (dl r c) last (tkr r c old : Nat)).headD 0
def walkT (os c : List Int) (old last new : Int) : List Int :=
  walkL os.reverse [bv c (tkr os.reverse c old : Nat), bv c (wtr os.reverse c old last)] (c.length - 1) c (invT c) (tkr os.reverse c old : Nat) (wtr os.reverse c old last) (linR os.reverse [(tkr os.reverse c old : Nat), new] [])
structure Can (r c : List Int) (old last : Int) : Prop where
  o : old ∈ dl r c
  l : wtL (dl r c) last (tkr r c old : Nat) ≠ []
theorem dl_len (r b : List Int) : (dl r b).length = b.length := by unfold dl; rw [List.length_map, rg_len]
theorem dl_at {r b : List Int} {n : Nat} (hl : b.length = n) {m : Int} (h0 : 0 ≤ m) (h1 : m < n) : At (dl r b) m (linR r [bv b m] [m]) := by
  unfold At dl
  rw [List.getElem?_map, hl, rg_at (by omega)]
  have e : ((m.toNat : Nat) : Int) = m := by omega
  show some (linR r [bv b ((m.toNat : Nat) : Int)] [((m.toNat : Nat) : Int)]) = _
  rw [e]
theorem headD_of {l : List Int} (h : l ≠ []) : ∃ t, l = l.headD 0 :: t := by
  cases l with
  | nil => exact absurd rfl h
  | cons a t => exact ⟨t, rfl⟩
theorem Can.tk {r c : List Int} {old last : Int} (h : Can r c old last) : tkr r c old < c.length ∧ linR r [bv c (tkr r c old : Nat)] [(tkr r c old : Nat)] = old ∧ (dl r c)[tkr r c old]? = some old := by
  have l := List.idxOf_lt_length_iff.mpr h.o
  have g : (dl r c)[tkr r c old]? = some old := by
    unfold tkr
    rw [List.getElem?_eq_getElem l]
    congr 1
    exact List.getElem_idxOf l
  have l' : tkr r c old < c.length := by rw [← dl_len r c]; exact l
  refine ⟨l', ?_, g⟩
  have k := dl_at (r := r) (b := c) rfl (m := ((tkr r c old : Nat) : Int)) (by omega) (by omega)
  unfold At at k
  rw [Int.toNat_natCast, g] at k
  exact (Option.some.inj k).symm
theorem Can.wt {r c : List Int} {old last : Int} (h : Can r c old last) : 0 ≤ wtr r c old last ∧ wtr r c old last < c.length ∧ linR r [bv c (wtr r c old last)] [wtr r c old last] = last ∧ wtr r c old last ≠ (tkr r c old : Nat) := by
  obtain ⟨t, e⟩ := headD_of h.l
  have m : wtr r c old last ∈ wtL (dl r c) last (tkr r c old : Nat) := by
    unfold wtr
    rw [e]
    simp
  obtain ⟨m1, m2⟩ := List.mem_filter.mp m
  rw [dl_len] at m1
  have b := mem_rg.mp m1
  have m3 : bv (dl r c) (wtr r c old last) = last ∧ wtr r c old last ≠ (tkr r c old : Nat) := by simpa using m2
  refine ⟨b.1, b.2, ?_, m3.2⟩
  exact (dl_at (r := r) (b := c) rfl b.1 b.2).bv.symm.trans m3.1
section
variable {os c : List Int} {n : Nat} {old last new : Int}
theorem walk_go {r F : List Int} {p q : Int} (hp : Pos r) (hn : prodR r = n) (T : Tab (n : Int) c) (n0 : 0 ≤ new) (n1 : new < n) {f1 f2 : Int} (eF : F = [f1, f2]) (f12 : f1 ≠ f2) (fr : ∀ u ∈ F, 0 ≤ u ∧ u < n) :
    ∀ (k : Nat) (b br : List Int) (t w v : Int) (L : List Int), WInv r n c F p q new b br t w v L → n < L.length + k → Tab (n : Int) (walkL r F k b br t w v) ∧ (linR r [bv c p] [p] :: linR r [bv c q] [q] :: dl r (walkL r F k b br t w v)).Perm (new :: linR r [linR r [bv c p] [p], linR r [bv c q] [q]] [new] :: dl r c)
  | 0, b, br, t, w, v, L, h, hk => by have := h.few; omega
  | k + 1, b, br, t, w, v, L, h, hk => by
    rw [walkL]
    by_cases hv : v ∈ F
    · rw [if_pos hv]
      have ho : othF F v ∈ F ∧ othF F v ≠ v ∧ ∀ u, u ∈ F ↔ u = v ∨ u = othF F v := by
        subst eF
        rcases List.mem_cons.mp hv with rfl | z
        · have e : othF [v, f2] v = f2 := by simp [othF]
          rw [e]
          exact ⟨by simp, fun z => f12 z.symm, fun u => by simp⟩
        · have z' : v = f2 := by simpa using z
          subst z'
          have e : othF [f1, v] v = f1 := by
            have : (f1 == v) = false := beq_eq_false_iff_ne.mpr f12
            simp [othF, List.erase_cons, this]
          rw [e]
          exact ⟨by simp, f12, fun u => by simp [or_comm]⟩
      have r1 := fr _ ho.1
      exact h.done hp hn T n0 n1 r1.1 r1.2 ho.2.2 (fun e => ho.2.1 e.symm)
    · rw [if_neg hv]
      obtain ⟨j, hj, j0, j1, h2⟩ := h.step hp hn hv
      rw [hj.bv]
      exact walk_go hp hn T n0 n1 eF f12 fr k _ _ _ _ _ _ h2 (by rw [List.length_append]; show n < L.length + 1 + k; omega)
theorem walk_ok (ho : Ords os) (hn : prodI os = n) (T : Tab (n : Int) c) (n0 : 0 ≤ new) (n1 : new < n) (h : Can os.reverse c old last) :
    Tab (n : Int) (walkT os c old last new) ∧ (old :: last :: dl os.reverse (walkT os c old last new)).Perm (new :: linR os.reverse [old, last] [new] :: dl os.reverse c) := by
  have hl : c.length = n := by have := T.len; omega
  obtain ⟨p1, e1, _⟩ := h.tk
  obtain ⟨q0, q1, e2, pq⟩ := h.wt
  rw [hl] at p1 q1
  have hp := ho.pos
  have hN : prodR os.reverse = n := by rw [ho.n]; exact hn
  have ap := at_bv (b := c) (m := ((tkr os.reverse c old : Nat) : Int)) hl (by omega) (by omega)
  have aq := at_bv (b := c) hl q0 q1
  have w := WInv.start (new := new) hp hN T (by omega) (by omega) q0 q1 (fun e => pq e.symm) ap aq
  have f12 : bv c ((tkr os.reverse c old : Nat) : Int) ≠ bv c (wtr os.reverse c old last) := fun e => by
    rw [e] at ap
    exact pq (at_inj T q0 (by omega) aq ap)
  have z := walk_go hp hN T n0 n1 rfl f12 (fun u hu => by
    rcases List.mem_cons.mp hu with rfl | hu
    · exact T.mem _ (List.mem_of_getElem? ap)
    · have : u = bv c (wtr os.reverse c old last) := by simpa using hu
      subst this
      exact T.mem _ (List.mem_of_getElem? aq)) (c.length - 1) _ _ _ _ _ _ w (by rw [hl]; show n < 2 + (n - 1); omega)
  rw [e1, e2] at z
  exact z
end
def goW (os : List Int) : List Int → List Int → Int → List (List Int)
  | [], _, _ => []
  | e :: es, c, lack => walkT os c 0 lack e :: goW os es (walkT os c 0 lack e) (linR os.reverse [lack] [e])
def rdsT (os row : List Int) : List (List Int) := rgI row.length :: goW os row.dropLast (rgI row.length) 0
theorem tab_rg (n : Nat) : Tab (n : Int) (rgI n) := ⟨by rw [rg_len], fun x hx => mem_rg.mp hx, rg_nodup n⟩
theorem wt_some {D : List Int} {last : Int} {p : Nat} (h : last ∈ D.eraseIdx p) : wtL D last (p : Nat) ≠ [] := by
  obtain ⟨i, hi⟩ := List.mem_iff_getElem?.mp h
  rw [List.getElem?_eraseIdx] at hi
  have : ∃ m : Nat, m ≠ p ∧ D[m]? = some last := by
    split at hi
    · exact ⟨i, by omega, hi⟩
    · exact ⟨i + 1, by omega, hi⟩
  obtain ⟨m, mp, hm⟩ := this
  have ml := (List.getElem?_eq_some_iff.mp hm).1
  intro e
  have z : ((m : Nat) : Int) ∈ wtL D last (p : Nat) := List.mem_filter.mpr ⟨mem_rg.mpr (by omega), by
    have : bv D (m : Int) = last := At.bv (by unfold At; rw [Int.toNat_natCast]; exact hm)
    have mp' : ((m : Nat) : Int) ≠ ((p : Nat) : Int) := by omega
    simp [this, mp']⟩
  rw [e] at z
  simp at z
structure Rd (os : List Int) (n : Nat) (pre c : List Int) (lack : Int) : Prop where
  tab : Tab (n : Int) c
  perm : (dl os.reverse c).Perm (pre ++ List.replicate (n - 1 - pre.length) 0 ++ [lack])
  lk : lack = linR os.reverse [] pre
theorem Rd.can {os : List Int} {n : Nat} {pre c : List Int} {lack : Int} (h : Rd os n pre c lack) (hk : pre.length + 1 < n) : Can os.reverse c 0 lack := by
  have hz : 0 ∈ List.replicate (n - 1 - pre.length) (0 : Int) := List.mem_replicate.mpr ⟨by omega, rfl⟩
  have m0 : (0 : Int) ∈ dl os.reverse c := h.perm.mem_iff.mpr (by simp [hz])
  refine ⟨m0, wt_some ?_⟩
  have l := List.idxOf_lt_length_iff.mpr m0
  have g : (dl os.reverse c)[tkr os.reverse c 0]? = some 0 := by
    unfold tkr
    rw [List.getElem?_eq_getElem l]
    congr 1
    exact List.getElem_idxOf l
  have pe := (perm_erase g).symm.trans h.perm
  obtain ⟨k, ek⟩ : ∃ k, n - 1 - pre.length = k + 1 := ⟨n - 2 - pre.length, by omega⟩
  rw [ek, List.replicate_succ] at pe
  have pe2 : ((0 : Int) :: (dl os.reverse c).eraseIdx (tkr os.reverse c 0)).Perm (0 :: (pre ++ List.replicate k 0 ++ [lack])) := pe.trans (by
    refine List.perm_iff_count.mpr fun x => ?_
    simp only [List.count_append, List.count_cons, List.count_nil, List.cons_append, List.append_assoc]
    omega)
  exact pe2.cons_inv.mem_iff.mpr (by simp)
theorem Rd.next {os : List Int} {n : Nat} {pre c : List Int} {lack e : Int} (ho : Ords os) (hn : prodI os = n) (h : Rd os n pre c lack) (hk : pre.length + 1 < n) (e0 : 0 ≤ e) (e1 : e < n) : Rd os n (pre ++ [e]) (walkT os c 0 lack e) (linR os.reverse [lack] [e]) := by
  obtain ⟨T, P⟩ := walk_ok ho hn h.tab e0 e1 (h.can hk)
  refine ⟨T, ?_, ?_⟩
  · have z : linR os.reverse [0, lack] [e] = linR os.reverse [lack] [e] := by
      have a := lin_in ho.pos [lack] [e] [] []
      rw [lin_nil] at a
      simpa using a
    rw [z] at P
    obtain ⟨k, ek⟩ : ∃ k, n - 1 - pre.length = k + 1 := ⟨n - 2 - pre.length, by omega⟩
    have hp := h.perm
    rw [ek, List.replicate_succ] at hp
    have ek2 : n - 1 - (pre ++ [e]).length = k := by rw [List.length_append, List.length_singleton]; omega
    rw [ek2]
    refine List.perm_iff_count.mpr fun x => ?_
    have a := P.count_eq x
    have b := hp.count_eq x
    simp only [List.count_append, List.count_cons, List.count_nil] at a b ⊢
    omega
  · rw [h.lk, lin_in ho.pos]
    exact lin_eq (perm_c fun u => by simp only [List.count_append, List.count_cons, List.count_nil])
theorem Rd.first {os : List Int} {n : Nat} (ho : Ords os) (hn : prodI os = n) (h2 : 1 ≤ n) : Rd os n [] (rgI n) 0 := by
  refine ⟨tab_rg n, ?_, (lin_nil _).symm⟩
  have e : dl os.reverse (rgI n) = List.replicate n 0 := by
    unfold dl
    rw [rg_len]
    refine List.eq_replicate_iff.mpr ⟨by rw [List.length_map, rg_len], fun x hx => ?_⟩
    obtain ⟨m, hm, rfl⟩ := List.mem_map.mp hx
    have b := mem_rg.mp hm
    have k : At (rgI n) m m := by
      unfold At
      rw [rg_at (by omega)]
      congr 1
      omega
    rw [k.bv]
    exact lin_all [m]
  rw [e]
  refine List.perm_iff_count.mpr fun x => ?_
  simp only [List.count_append, List.count_cons, List.count_nil, List.count_replicate, List.length_nil, List.nil_append]
  by_cases c : (0 == x) = true
  · rw [if_pos c, if_pos c, if_pos c]; omega
  · rw [if_neg c, if_neg c, if_neg c]
structure Row (n : Nat) (row : List Int) : Prop where
  len : row.length = n
  mem : ∀ x ∈ row, 0 ≤ x ∧ x < n
def bornT (os row : List Int) : List Int := (rdsT os row).getLastD []
def folT (os table row : List Int) : List Int := table.map (bv (invT (bornT os row)))
def negT (os t : List Int) : List Int := t.map fun e => linR os.reverse [0] [e]
end Wm
end
section
set_option maxRecDepth 100000
set_option maxHeartbeats 1000000
namespace D
open PySem PySem.Spec PyProof.Rows L2 G N J
end D
end
section
set_option maxRecDepth 100000
set_option maxHeartbeats 1000000
namespace D
open PySem PySem.Spec PyProof.Rows L2 G N J
end D
end
section
set_option maxRecDepth 100000
set_option maxHeartbeats 1000000
namespace D
open PySem PySem.Spec PyProof.Rows L2 G N J
end D
end
section
set_option maxRecDepth 100000
set_option maxHeartbeats 1000000
namespace D
open PySem PySem.Spec PyProof.Rows L2 G N J
end D
end
section
set_option maxRecDepth 100000
set_option maxHeartbeats 1000000
namespace D
open PySem PySem.Spec PyProof.Rows L2 G N J
end D
end
section
set_option maxRecDepth 100000
set_option maxHeartbeats 1000000
namespace D
open PySem PySem.Spec PyProof.Rows L2 G N J
end D
end
section
set_option maxRecDepth 100000
set_option maxHeartbeats 1000000
namespace D
open PySem PySem.Spec PyProof.Rows L2 G N J
end D
end
section
set_option maxRecDepth 100000
set_option maxHeartbeats 4000000
namespace Y
open PySem PySem.Spec PyProof.Rows L2 G N J D Lin
open Wm (At Tab bv invT WInv walkL tkr wtr wtL othF Can goW rdsT bornT Row Rd folT negT)
variable {os : List Int} {n : Nat}
end Y
end
section
set_option maxRecDepth 100000
set_option maxHeartbeats 4000000
namespace Y
open PySem PySem.Spec PyProof.Rows L2 G N J D Lin
open Wm (At Tab bv invT WInv walkL tkr wtr wtL othF Can goW rdsT bornT Row Rd folT negT)
variable {os : List Int} {n : Nat}
theorem IsW.row {w : Bool × List Int} (W : IsW n w) : Row n w.2 := ⟨W.len, W.rng⟩
end Y
end
section
set_option maxRecDepth 100000
set_option maxHeartbeats 1000000
namespace D
open PySem PySem.Spec PyProof.Rows L2 G N J
end D
end
section
set_option maxRecDepth 100000
set_option maxHeartbeats 1000000
namespace D
open PySem PySem.Spec PyProof.Rows L2 G N J
end D
end
section
set_option maxRecDepth 100000
set_option maxHeartbeats 1000000
namespace D
open PySem PySem.Spec PyProof.Rows L2 G N J
end D
end
section
set_option maxRecDepth 100000
set_option maxHeartbeats 4000000
namespace Y
open PySem PySem.Spec PyProof.Rows L2 G N J D Lin
open Wm (At Tab bv invT WInv walkL tkr wtr wtL othF Can goW rdsT bornT Row Rd folT negT)
variable {os : List Int} {n : Nat} {ts : List (List Int)} {t : Int}
end Y
end
section
set_option maxRecDepth 100000
set_option maxHeartbeats 1000000
namespace D
open PySem PySem.Spec PyProof.Rows L2 G N J
def Y_check_table (v_orders : D) (v_table : D) : Option (D) :=
  bd (Y_size_of v_orders) fun t3 => bd (Y_is_each_once v_table t3) fun t2 => bd (boolD t2) fun b4 => if (!b4) = true then none else some (.none)
def M_check_table : List D → Option (D)
  | [v_orders, v_table] => Y_check_table v_orders v_table
  | _ => none
theorem y_check_table : ∀ (xs : List D) (z : D), M_check_table xs = some z → FD F_check_table xs = some z
  | [v_orders, v_table], z, e => fd_ofJ (xs := [v_orders, v_table]) rfl (Nat.le_of_ble_eq_true rfl) (by
      have j : JR Pd [.d v_orders, .d v_table] _ _ := (jr_end (env := [.d (v_orders), .d (v_table)]) (jn_never (env := [.d (v_orders), .d (v_table)]) (a := SS.never) (cbx (cb_not (cb_val (ce_call M_is_each_once y_is_each_once (cl_cons (ce_var 1 rfl) fun _ => (cl_cons (ce_call M_size_of y_size_of (cl_cons (ce_var 0 rfl) fun _ => cl_nil)) fun _ => cl_nil))))))))
      exact j) e
end D
end
section
set_option maxRecDepth 100000
set_option maxHeartbeats 1000000
namespace D
open PySem PySem.Spec PyProof.Rows L2 G N J
end D
end
section
set_option maxRecDepth 100000
set_option maxHeartbeats 4000000
namespace Y
open PySem PySem.Spec PyProof.Rows L2 G N J D Lin
variable {os : List Int} {n : Nat}
end Y
end
section
set_option maxRecDepth 100000
set_option maxHeartbeats 1000000
namespace D
open PySem PySem.Spec PyProof.Rows L2 G N J
end D
end
section
set_option maxRecDepth 100000
set_option maxHeartbeats 1000000
namespace D
open PySem PySem.Spec PyProof.Rows L2 G N J
end D
end
section
set_option maxRecDepth 100000
set_option maxHeartbeats 1000000
namespace D
open PySem PySem.Spec PyProof.Rows L2 G N J
end D
end
section
set_option maxRecDepth 100000
set_option maxHeartbeats 1000000
namespace D
open PySem PySem.Spec PyProof.Rows L2 G N J
end D
end
section
set_option maxRecDepth 100000
set_option maxHeartbeats 1000000
namespace D
open PySem PySem.Spec PyProof.Rows L2 G N J
end D
end
section
set_option maxRecDepth 100000
set_option maxHeartbeats 1000000
namespace D
open PySem PySem.Spec PyProof.Rows L2 G N J
def Ym_equal_pairs_v2 (v_row : D) : Option (List D) :=
  bd (bLen.f [v_row]) fun t1 => bd (rgI1 [t1]) fun t2 => bd (if (t2).length ≤ 1000000 then lc2D (fun x3 => if true = true then bd (oAdd.f x3 (.int 1)) fun t5 => bd (bLen.f [v_row]) fun t6 => bd (rgI2 [t5, t6]) fun t7 => if (t7).length ≤ 1000000 then lcF (fun x8 => bd (ixD v_row x3) fun t10 => bd (ixD v_row x8) fun t11 => bd (oEq.f t10 t11) fun t12 => bd (boolD t12) fun b13 => if b13 = true then some (some (.tuple [x3, x8])) else some none) t7 else none else some []) t2 [] else none) fun ys14 => some ys14
def Mm_equal_pairs_v2 : List D → Option (List D)
  | [v_row] => Ym_equal_pairs_v2 v_row
  | _ => none
theorem ym_equal_pairs_v2 : ∀ (xs : List D) (z : List D), Mm_equal_pairs_v2 xs = some z → FM F_equal_pairs_v2 xs = some z
  | [v_row], z, e => fm_ofJ (xs := [v_row]) rfl (Nat.le_of_ble_eq_true rfl) (by
      have j : JR Pm [.d v_row, .no, .no] _ _ := (jr_of (env := [.d (v_row), .no, .no]) (jt_retMO (env := [.d (v_row), .no, .no]) (co_lc2 (vs := [1, 2]) (by decide) (ci_rng1 (cl_cons (ce_cb bLen (cl_cons (ce_var 0 rfl) fun _ => cl_nil)) fun _ => cl_nil)) (ct_name 1 (Nat.lt_of_sub_pos (Nat.le_of_ble_eq_true rfl))) (fun a4 => cb_yes) (fun a4 => (ci_rng2 (cl_cons (ce_op oAdd (ce_var 1 rfl) (fun _ => (ce_int 1))) fun _ => (cl_cons (ce_cb bLen (cl_cons (ce_var 0 rfl) fun _ => cl_nil)) fun _ => cl_nil)))) (fun a4 => (ct_name 2 (Nat.lt_of_sub_pos (Nat.le_of_ble_eq_true rfl)))) (fun a4 a9 => (cb_test (ce_op oEq (ce_ix (ce_var 0 rfl) (fun _ => (ce_var 1 rfl))) (fun _ => (ce_ix (ce_var 0 rfl) (fun _ => (ce_var 2 rfl))))))) (fun a4 a9 => (ce_tup (cl_cons (ce_var 1 rfl) fun _ => (cl_cons (ce_var 2 rfl) fun _ => cl_nil)) fun _ => Nat.le_of_ble_eq_true rfl)))))
      exact j) e
end D
end
section
set_option maxRecDepth 100000
set_option maxHeartbeats 1000000
namespace D
open PySem PySem.Spec PyProof.Rows L2 G N J
end D
end
section
set_option maxRecDepth 100000
set_option maxHeartbeats 2000000
namespace Y
open PySem PySem.Spec PyProof.Rows L2 G N J D Lin
variable {n : Nat} {os : List Int} {ts : List (List Int)} {t : Int} {c : List Int}
theorem some_ite2 {α : Type} (b : Bool) (a : α) : (if b = true then some (some a) else some none) = some (if b = true then some a else none) := by cases b <;> rfl
theorem rg_sml {n : Nat} (hn : n ≤ 4000) : Sml (rgI n) := ⟨by rw [Wm.rg_len]; omega, fun x hx => by have := Wm.mem_rg.mp hx; omega⟩
def later (n i : Nat) : List Nat := (List.range (n - (i + 1))).map fun d => i + 1 + d
def prs (n : Nat) (q : Nat → Nat → Bool) : List D := (List.range n).flatMap fun i => ((later n i).filter (q i)).map fun (j : Nat) => .tuple [.int i, .int j]
theorem rg2_later {n i : Nat} (hn : n ≤ 1000000) (hi : i < n) : rgI2 [.int ((i : Int) + 1), .int n] = some ((later n i).map fun (j : Nat) => .int j) := by
  rw [rg2_of (by omega) (by omega) (by omega) (by omega)]
  unfold SI.rng later
  rw [List.map_map, show ((n : Int) - ((i : Int) + 1)).toNat = n - (i + 1) by omega]
  congr 1
theorem later_mem {n i j : Nat} : j ∈ later n i ↔ i < j ∧ j < n := by
  unfold later
  rw [List.mem_map]
  constructor
  · rintro ⟨d, hd, rfl⟩
    have := List.mem_range.mp hd
    omega
  · rintro ⟨h1, h2⟩
    exact ⟨j - (i + 1), List.mem_range.mpr (by omega), by omega⟩
theorem lc2_of {α : Type} {st : D → Option (List D)} (e : α → D) (g : α → List D) (m : Nat) : ∀ (xs : List α) (acc : List D), (∀ x ∈ xs, st (e x) = some (g x) ∧ (g x).length ≤ m) → acc.length + xs.length * m ≤ 1000000 → lc2D st (xs.map e) acc = some (acc ++ xs.flatMap g)
  | [], acc, _, _ => by rw [List.map_nil, lc2D]; simp
  | x :: xs, acc, h, hl => by
    obtain ⟨h1, h2⟩ := h x (List.mem_cons_self ..)
    have l2 : acc.length + (g x).length + xs.length * m ≤ 1000000 := by
      rw [List.length_cons, Nat.succ_mul] at hl
      omega
    rw [List.map_cons, lc2D, h1, bd_some, if_pos (by rw [List.length_append]; omega), lc2_of e g m xs _ (fun y hy => h y (List.mem_cons_of_mem _ hy)) (by rw [List.length_append]; omega), List.append_assoc]
    rfl
theorem later_len (n i : Nat) : (later n i).length ≤ n := by unfold later; rw [List.length_map, List.length_range]; omega
def eqQ (r : List Int) (i j : Nat) : Bool := decide (r.getD i 0 = r.getD j 0)
theorem eqp_ym {r : List Int} (hl : r.length ≤ 900) : Ym_equal_pairs_v2 (il r) = some (prs r.length (eqQ r)) := by
  unfold Ym_equal_pairs_v2
  refine bd_of (len_il r) (bd_of (rg1_n (by omega)) (bd_of (ite_t (by rw [List.length_map, List.length_range]; omega) (lc2_of (fun (i : Nat) => PyData.int i) (fun i => ((later r.length i).filter (eqQ r i)).map fun (j : Nat) => .tuple [.int i, .int j]) r.length (List.range r.length) [] (fun i hi => ?_) ?_)) ?_))
  · have hi := List.mem_range.mp hi
    refine ⟨?_, by rw [List.length_map]; exact Nat.le_trans (List.length_filter_le _ _) (later_len _ _)⟩
    rw [if_pos rfl]
    refine bd_of (oAdd_i _ _) (bd_of (len_il r) (bd_of (rg2_later (by omega) hi) (ite_t (by rw [List.length_map]; have := later_len r.length i; omega) ?_)))
    rw [lcF_of (fun (j : Nat) => PyData.int j) (eqQ r i) (fun (j : Nat) => PyData.tuple [.int i, .int j]) (xs := later r.length i) fun j hj => ?_]
    obtain ⟨h1, h2⟩ := later_mem.mp hj
    exact bd_of (at_nat hi) (bd_of (at_nat h2) (bd_of (a := .bool (eqQ r i j)) (by rw [oEq_f, eqD_if]; rfl) (bd_of (boolD_b _) (some_ite2 _ _))))
  · simp
    exact Nat.le_trans (Nat.mul_le_mul hl hl) (by decide)
  · rw [List.nil_append]
    rfl
end Y
end
section
set_option maxRecDepth 100000
set_option maxHeartbeats 1000000
namespace D
open PySem PySem.Spec PyProof.Rows L2 G N J
def Y_law_added (v_orders : D) (v_one : D) (v_other : D) : Option (D) :=
  bd (un2 (.tuple [(.int 0), (.int 1)])) fun u2 => bd (revD v_orders) fun t5 => bd (seqD t5) fun t6 => bd (foldD (fun x10 s8 => bd (bInt.f [s8.1]) fun t12 => bd (oMod.f t12 x10) fun t13 => bd (bInt.f [s8.2.1]) fun t14 => bd (oMod.f t14 x10) fun t15 => bd (oAdd.f t13 t15) fun t16 => bd (bInt.f [t16]) fun t17 => bd (oMod.f t17 x10) fun t18 => bd (oMul.f t18 s8.2.2.2) fun t19 => bd (oAdd.f s8.2.2.1 t19) fun t20 => bd (oFdiv.f s8.1 x10) fun t22 => bd (oFdiv.f s8.2.1 x10) fun t23 => bd (oMul.f s8.2.2.2 x10) fun t24 => some (t22, t23, t20, t24)) t6 (v_one, v_other, u2.1, u2.2)) fun s26 => some s26.2.2.1
def M_law_added : List D → Option (D)
  | [v_orders, v_one, v_other] => Y_law_added v_orders v_one v_other
  | _ => none
theorem y_law_added : ∀ (xs : List D) (z : D), M_law_added xs = some z → FD F_law_added xs = some z
  | [v_orders, v_one, v_other], z, e => fd_ofJ (xs := [v_orders, v_one, v_other]) rfl (Nat.le_of_ble_eq_true rfl) (by
      have j : JR Pd [.d v_orders, .d v_one, .d v_other, .no, .no, .no] _ _ := (jr_seq (env := [.d (v_orders), .d (v_one), .d (v_other), .no, .no, .no]) (jn_asg (env := [.d (v_orders), .d (v_one), .d (v_other), .no, .no, .no]) (ce_tup (cl_cons (ce_int 0) fun _ => (cl_cons (ce_int 1) fun _ => cl_nil)) fun _ => Nat.le_of_ble_eq_true rfl) fun _ => (cg_tup2 (cg_name 3 (Nat.lt_of_sub_pos (Nat.le_of_ble_eq_true rfl))) (fun _ => (cg_name 4 (Nat.lt_of_sub_pos (Nat.le_of_ble_eq_true rfl)))))) (fun a1 => (jr_seq (env := [.d (v_orders), .d (v_one), .d (v_other), .d (a1.2.1), .d (a1.2.2), .no]) (jn_for (env := [.d (v_orders), .d (v_one), .d (v_other), .d (a1.2.1), .d (a1.2.2), .no]) (σ := D × D × D × D) (E := fun s8 => [.d (v_orders), .d (s8.1), .d (s8.2.1), .d (s8.2.2.1), .d (s8.2.2.2), .no]) (ci_seq (ce_rev (ce_var 0 rfl))) (fun a7 => (v_one, v_other, a1.2.1, a1.2.2)) (fun _ => (Wk.kp (Wk.kp (Wk.kp (Wk.kp (Wk.kp (Wk.kp Wk.nil))))))) (fun s8 => (ct_name 5 (Nat.lt_of_sub_pos (Nat.le_of_ble_eq_true rfl)))) (fun s8 a9 => (jn_seq (env := [.d (v_orders), .d (s8.1), .d (s8.2.1), .d (s8.2.2.1), .d (s8.2.2.2), .d (a9)]) (jn_set (env := [.d (v_orders), .d (s8.1), .d (s8.2.1), .d (s8.2.2.1), .d (s8.2.2.2), .d (a9)]) 3 (ce_op oAdd (ce_var 3 rfl) (fun _ => (ce_op oMul (ce_op oMod (ce_cb bInt (cl_cons (ce_op oAdd (ce_op oMod (ce_cb bInt (cl_cons (ce_var 1 rfl) fun _ => cl_nil)) (fun _ => (ce_var 5 rfl))) (fun _ => (ce_op oMod (ce_cb bInt (cl_cons (ce_var 2 rfl) fun _ => cl_nil)) (fun _ => (ce_var 5 rfl))))) fun _ => cl_nil)) (fun _ => (ce_var 5 rfl))) (fun _ => (ce_var 4 rfl))))) fun _ => (Nat.lt_of_sub_pos (Nat.le_of_ble_eq_true rfl))) fun a11 => (jn_par3 (env := [.d (v_orders), .d (s8.1), .d (s8.2.1), .d (a11.2.2), .d (s8.2.2.2), .d (a9)]) 1 2 4 (ce_op oFdiv (ce_var 1 rfl) (fun _ => (ce_var 5 rfl))) (fun _ => (ce_op oFdiv (ce_var 2 rfl) (fun _ => (ce_var 5 rfl)))) (fun _ _ => (ce_op oMul (ce_var 4 rfl) (fun _ => (ce_var 5 rfl)))) (fun _ _ _ => (Nat.lt_of_sub_pos (Nat.le_of_ble_eq_true rfl))) (fun _ _ _ => (Nat.lt_of_sub_pos (Nat.le_of_ble_eq_true rfl))) (fun _ _ _ => (Nat.lt_of_sub_pos (Nat.le_of_ble_eq_true rfl)))))) (fun s8 a9 a25 => (a25.2.1.2.2, a25.2.2.1.2.2, a25.1.2.2, a25.2.2.2.2.2)) (fun _ _ _ => (Wk.kp (Wk.kp (Wk.kp (Wk.kp (Wk.kp (Wk.no Wk.nil)))))))) (fun a3 => (jr_of (env := [.d (v_orders), .d (a3.1), .d (a3.2.1), .d (a3.2.2.1), .d (a3.2.2.2), .no]) (jt_ret (env := [.d (v_orders), .d (a3.1), .d (a3.2.1), .d (a3.2.2.1), .d (a3.2.2.2), .no]) (ce_var 3 rfl)))))))
      exact j) e
end D
end
section
set_option maxRecDepth 100000
set_option maxHeartbeats 1000000
namespace D
open PySem PySem.Spec PyProof.Rows L2 G N J
def Y_law_size_v4 (v_orders : D) : Option (D) :=
  bd (seqD v_orders) fun t3 => bd (foldD (fun x7 s5 => bd (oMul.f s5 x7) fun t9 => some (t9)) t3 ((.int 1))) fun s10 => some s10
def M_law_size_v4 : List D → Option (D)
  | [v_orders] => Y_law_size_v4 v_orders
  | _ => none
theorem y_law_size_v4 : ∀ (xs : List D) (z : D), M_law_size_v4 xs = some z → FD F_law_size_v4 xs = some z
  | [v_orders], z, e => fd_ofJ (xs := [v_orders]) rfl (Nat.le_of_ble_eq_true rfl) (by
      have j : JR Pd [.d v_orders, .no, .no] _ _ := (jr_seq (env := [.d (v_orders), .no, .no]) (jn_set (env := [.d (v_orders), .no, .no]) 1 (ce_int 1) fun _ => (Nat.lt_of_sub_pos (Nat.le_of_ble_eq_true rfl))) (fun a1 => (jr_seq (env := [.d (v_orders), .d ((.int 1)), .no]) (jn_for (env := [.d (v_orders), .d ((.int 1)), .no]) (σ := D) (E := fun s5 => [.d (v_orders), .d (s5), .no]) (ci_seq (ce_var 0 rfl)) (fun a4 => ((.int 1))) (fun _ => (Wk.kp (Wk.kp (Wk.kp Wk.nil)))) (fun s5 => (ct_name 2 (Nat.lt_of_sub_pos (Nat.le_of_ble_eq_true rfl)))) (fun s5 a6 => (jn_set (env := [.d (v_orders), .d (s5), .d (a6)]) 1 (ce_op oMul (ce_var 1 rfl) (fun _ => (ce_var 2 rfl))) fun _ => (Nat.lt_of_sub_pos (Nat.le_of_ble_eq_true rfl)))) (fun s5 a6 a8 => (a8.2.2)) (fun _ _ _ => (Wk.kp (Wk.kp (Wk.no Wk.nil))))) (fun a2 => (jr_of (env := [.d (v_orders), .d (a2), .no]) (jt_ret (env := [.d (v_orders), .d (a2), .no]) (ce_var 1 rfl)))))))
      exact j) e
end D
end
section
set_option maxRecDepth 100000
set_option maxHeartbeats 1000000
namespace D
open PySem PySem.Spec PyProof.Rows L2 G N J
def Yg_law_table_v3 (v_generator : List D) (v_orders : D) : Option (D × List D) :=
  bd (Y_law_size_v4 v_orders) fun t2 => bd (rgD1 t2) fun t3 => bd (disD t3) fun t4 => bd (Y_law_size_v4 v_orders) fun t6 => bd (rgI1 [t6]) fun t7 => bd (foldD (fun x11 s9 => bd (atmO (bLen.f [(.list s9.2.1)])) fun t14 => bd (Yg_law_random s9.1 t14) fun t13 => bd (popD s9.2.1 t13.1) fun t15 => bd (appD s9.2.2 t15.1) fun t16 => some (t13.2, t15.2, t16)) t7 (v_generator, t4, [])) fun s17 => bd (Yg_law_random s17.1 (.int 3)) fun t19 => bd (oEq.f t19.1 (.int 0)) fun t20 => bd (boolD t20) fun b21 => bd (if b21 = true then bd (Yg_law_random t19.2 (.int 3)) fun t24 => bd (oAdd.f (.int 1) t24.1) fun t25 => bd (seqD (.list s17.2.2)) fun t27 => bd (if (t27).length ≤ 1000000 then mapO (fun x28 => some (.int 0)) t27 else none) fun ys30 => bd (rgI1 [t25]) fun t32 => bd (foldD (fun x36 s34 => bd (bLen.f [s34]) fun t38 => bd (rgI1 [t38]) fun t39 => bd (if (t39).length ≤ 1000000 then mapO (fun x40 => bd (ixD s34 x40) fun t43 => bd (Y_law_added v_orders t43 x40) fun t42 => some t42) t39 else none) fun ys44 => some ((.list ys44))) t32 ((.list ys30))) fun s45 => bd (bSorted.f [s45]) fun t47 => bd (bLen.f [s45]) fun t48 => bd (rgD1 t48) fun t51 => bd (oEq.f t47 t51) fun t52 => bd (boolD t52) fun b53 => bd (if b53 = true then some s45 else some (.list s17.2.2)) fun t57 => some (t24.2, t57) else some (t19.2, (.list s17.2.2))) fun s62 => some (s62.2, s62.1)
def Mg_law_table_v3 (v_generator : List D) : List D → Option (D × List D)
  | [v_orders] => Yg_law_table_v3 v_generator v_orders
  | _ => none
theorem yg_law_table_v3 : ∀ (g xs : List D) (z : D × List D), Mg_law_table_v3 g xs = some z → FG F_law_table_v3 g xs = some z
  | v_generator, [v_orders], z, e => fg_ofJ (g := v_generator) (xs := [v_orders]) rfl (Nat.le_of_ble_eq_true rfl) (by
      have j : JR Pg [.o v_generator, .d v_orders, .no, .no, .no, .no, .no, .no, .no] _ _ := (jr_seq (env := [.o (v_generator), .d (v_orders), .no, .no, .no, .no, .no, .no, .no]) (jn_par (env := [.o (v_generator), .d (v_orders), .no, .no, .no, .no, .no, .no, .no]) 2 3 (Nat.ne_of_beq_eq_false rfl) (Nat.ne_of_beq_eq_false rfl) (cx_o (co_listRg1 (ce_call M_law_size_v4 y_law_size_v4 (cl_cons (ce_var 1 rfl) fun _ => cl_nil)))) (fun _ => (cx_o (co_lst cl_nil fun _ => Nat.le_of_ble_eq_true rfl))) (fun _ _ => (Nat.lt_of_sub_pos (Nat.le_of_ble_eq_true rfl))) (fun _ _ => (Nat.lt_of_sub_pos (Nat.le_of_ble_eq_true rfl)))) (fun a1 => (jr_seq (env := [.o (v_generator), .d (v_orders), .o (a1.1.2), .o ([]), .no, .no, .no, .no, .no]) (jn_for (env := [.o (v_generator), .d (v_orders), .o (a1.1.2), .o ([]), .no, .no, .no, .no, .no]) (σ := List D × List D × List D) (E := fun s9 => [.o (s9.1), .d (v_orders), .o (s9.2.1), .o (s9.2.2), .no, .no, .no, .no, .no]) (ci_rng1 (cl_cons (ce_call M_law_size_v4 y_law_size_v4 (cl_cons (ce_var 1 rfl) fun _ => cl_nil)) fun _ => cl_nil)) (fun a8 => (v_generator, a1.1.2, [])) (fun _ => (Wk.kp (Wk.kp (Wk.kp (Wk.kp (Wk.kp (Wk.kp (Wk.kp (Wk.kp (Wk.kp Wk.nil)))))))))) (fun s9 => (ct_name 4 (Nat.lt_of_sub_pos (Nat.le_of_ble_eq_true rfl)))) (fun s9 a10 => (jn_drop (env := [.o (s9.1), .d (v_orders), .o (s9.2.1), .o (s9.2.2), .d (a10), .no, .no, .no, .no]) (ce_app 3 rfl (ce_popAt 2 rfl (ce_callG Mg_law_random yg_law_random 0 rfl (cl_cons (ce_cbA bLen (cla_cons (ca_b 2 rfl) fun _ => cla_nil) (fun _ => rfl)) fun _ => cl_nil) (fun _ => rfl)) (fun _ => rfl)) (fun _ => rfl)))) (fun s9 a10 a12 => (a12.1.1.2.2, a12.1.2.2, a12.2)) (fun _ _ _ => (Wk.kp (Wk.kp (Wk.kp (Wk.kp (Wk.no (Wk.kp (Wk.kp (Wk.kp (Wk.kp Wk.nil))))))))))) (fun a5 => (jr_seq (env := [.o (a5.1), .d (v_orders), .o (a5.2.1), .o (a5.2.2), .no, .no, .no, .no, .no]) (jn_fzT (env := [.o (a5.1), .d (v_orders), .o (a5.2.1), .o (a5.2.2), .no, .no, .no, .no, .no]) 3 rfl (jn_ite (env := [.o (a5.1), .d (v_orders), .o (a5.2.1), .f ((.list a5.2.2)), .no, .no, .no, .no, .no]) (δ := List D × D) (E' := fun s62 => [.o (s62.1), .d (v_orders), .o (a5.2.1), .f (s62.2), .no, .no, .no, .no, .no]) (cbx (cb_test (ce_op oEq (ce_callG Mg_law_random yg_law_random 0 rfl (cl_cons (ce_int 3) fun _ => cl_nil) (fun _ => rfl)) (fun _ => (ce_int 0))))) (fun a22 => (jn_seq (env := [.o (a22.1.1.2.2), .d (v_orders), .o (a5.2.1), .f ((.list a5.2.2)), .no, .no, .no, .no, .no]) (jn_set (env := [.o (a22.1.1.2.2), .d (v_orders), .o (a5.2.1), .f ((.list a5.2.2)), .no, .no, .no, .no, .no]) 5 (ce_op oAdd (ce_int 1) (fun _ => (ce_callG Mg_law_random yg_law_random 0 rfl (cl_cons (ce_int 3) fun _ => cl_nil) (fun _ => rfl)))) fun _ => (Nat.lt_of_sub_pos (Nat.le_of_ble_eq_true rfl))) fun a23 => (jn_seq (jn_set (env := [.o (a23.2.1.2.2), .d (v_orders), .o (a5.2.1), .f ((.list a5.2.2)), .no, .d (a23.2.2), .no, .no, .no]) 6 (ce_lcY (ci_seqf 3 rfl) (fun _ => (ct_name 7 (Nat.lt_of_sub_pos (Nat.le_of_ble_eq_true rfl)))) fun _ a29 => (ce_int 0)) fun _ => (Nat.lt_of_sub_pos (Nat.le_of_ble_eq_true rfl))) fun a26 => (jn_seq (jn_for (env := [.o (a23.2.1.2.2), .d (v_orders), .o (a5.2.1), .f ((.list a5.2.2)), .no, .d (a23.2.2), .d ((.list a26.2)), .no, .no]) (σ := D) (E := fun s34 => [.o (a23.2.1.2.2), .d (v_orders), .o (a5.2.1), .f ((.list a5.2.2)), .no, .d (a23.2.2), .d (s34), .no, .no]) (ci_rng1 (cl_cons (ce_var 5 rfl) fun _ => cl_nil)) (fun a33 => ((.list a26.2))) (fun _ => (Wk.kp (Wk.kp (Wk.kp (Wk.kp (Wk.kp (Wk.kp (Wk.kp (Wk.kp (Wk.kp Wk.nil)))))))))) (fun s34 => (ct_name 4 (Nat.lt_of_sub_pos (Nat.le_of_ble_eq_true rfl)))) (fun s34 a35 => (jn_set (env := [.o (a23.2.1.2.2), .d (v_orders), .o (a5.2.1), .f ((.list a5.2.2)), .d (a35), .d (a23.2.2), .d (s34), .no, .no]) 6 (ce_lcY (ci_rng1 (cl_cons (ce_cb bLen (cl_cons (ce_var 6 rfl) fun _ => cl_nil)) fun _ => cl_nil)) (fun _ => (ct_name 8 (Nat.lt_of_sub_pos (Nat.le_of_ble_eq_true rfl)))) fun _ a41 => (ce_call M_law_added y_law_added (cl_cons (ce_var 1 rfl) fun _ => (cl_cons (ce_ix (ce_var 6 rfl) (fun _ => (ce_var 8 rfl))) fun _ => (cl_cons (ce_var 8 rfl) fun _ => cl_nil))))) fun _ => (Nat.lt_of_sub_pos (Nat.le_of_ble_eq_true rfl)))) (fun s34 a35 a37 => ((.list a37.2))) (fun _ _ _ => (Wk.kp (Wk.kp (Wk.kp (Wk.kp (Wk.no (Wk.kp (Wk.kp (Wk.kp (Wk.kp Wk.nil))))))))))) fun a31 => (jn_set (env := [.o (a23.2.1.2.2), .d (v_orders), .o (a5.2.1), .f ((.list a5.2.2)), .no, .d (a23.2.2), .d (a31), .no, .no]) 3 (ce_ifx (cb_test (ce_op oEq (ce_cb bSorted (cl_cons (ce_var 6 rfl) fun _ => cl_nil)) (fun _ => (ce_listRg1 (ce_cb bLen (cl_cons (ce_var 6 rfl) fun _ => cl_nil)))))) (fun q54 => (ce_var 6 rfl)) fun q54 => (ce_frzf 3 rfl)) fun _ => (Nat.lt_of_sub_pos (Nat.le_of_ble_eq_true rfl))))))) (fun a22 => (jn_nil (env := [.o (a22.1.1.2.2), .d (v_orders), .o (a5.2.1), .f ((.list a5.2.2)), .no, .no, .no, .no, .no]))) (fun a22 a60 => (a60.1.2.1.2.2, a60.2.2.2.2)) (fun a22 a61 => (a22.1.1.2.2, (.list a5.2.2))) (fun _ _ => (Wk.kp (Wk.kp (Wk.kp (Wk.f (Wk.kp (Wk.no (Wk.no (Wk.kp (Wk.kp Wk.nil)))))))))) (fun _ _ => (Wk.kp (Wk.kp (Wk.kp (Wk.kp (Wk.kp (Wk.kp (Wk.kp (Wk.kp (Wk.kp Wk.nil)))))))))))) (fun a18 => (jr_of (env := [.o (a18.1), .d (v_orders), .o (a5.2.1), .f (a18.2), .no, .no, .no, .no, .no]) (jt_retG (env := [.o (a18.1), .d (v_orders), .o (a5.2.1), .f (a18.2), .no, .no, .no, .no, .no]) (ce_frzf 3 rfl) (fun _ => rfl)))))))))
      exact j) e
end D
end
section
set_option maxRecDepth 100000
set_option maxHeartbeats 1000000
namespace D
open PySem PySem.Spec PyProof.Rows L2 G N J
def Y_law_groups_v2 : Option (D) :=
  bd (oAdd.f (.list [(.tuple [(.int 2)]), (.tuple [(.int 3)]), (.tuple [(.int 4)]), (.tuple [(.int 2), (.int 2)]), (.tuple [(.int 5)]), (.tuple [(.int 6)]), (.tuple [(.int 2), (.int 3)]), (.tuple [(.int 7)]), (.tuple [(.int 8)]), (.tuple [(.int 2), (.int 4)]), (.tuple [(.int 2), (.int 2), (.int 2)])]) (.list [(.tuple [(.int 9)]), (.tuple [(.int 3), (.int 3)]), (.tuple [(.int 10)]), (.tuple [(.int 2), (.int 5)]), (.tuple [(.int 12)]), (.tuple [(.int 2), (.int 6)])])) fun t2 => some t2
def M_law_groups_v2 : List D → Option (D)
  | [] => Y_law_groups_v2
  | _ => none
theorem y_law_groups_v2 : ∀ (xs : List D) (z : D), M_law_groups_v2 xs = some z → FD F_law_groups_v2 xs = some z
  | [], z, e => fd_ofJ (xs := []) rfl (Nat.le_of_ble_eq_true rfl) (by
      have j : JR Pd [.no] _ _ := (jr_seq (env := [.no]) (jn_set (env := [.no]) 0 (ce_lst (cl_cons (ce_tup (cl_cons (ce_int 2) fun _ => cl_nil) fun _ => Nat.le_of_ble_eq_true rfl) fun _ => (cl_cons (ce_tup (cl_cons (ce_int 3) fun _ => cl_nil) fun _ => Nat.le_of_ble_eq_true rfl) fun _ => (cl_cons (ce_tup (cl_cons (ce_int 4) fun _ => cl_nil) fun _ => Nat.le_of_ble_eq_true rfl) fun _ => (cl_cons (ce_tup (cl_cons (ce_int 2) fun _ => (cl_cons (ce_int 2) fun _ => cl_nil)) fun _ => Nat.le_of_ble_eq_true rfl) fun _ => (cl_cons (ce_tup (cl_cons (ce_int 5) fun _ => cl_nil) fun _ => Nat.le_of_ble_eq_true rfl) fun _ => (cl_cons (ce_tup (cl_cons (ce_int 6) fun _ => cl_nil) fun _ => Nat.le_of_ble_eq_true rfl) fun _ => (cl_cons (ce_tup (cl_cons (ce_int 2) fun _ => (cl_cons (ce_int 3) fun _ => cl_nil)) fun _ => Nat.le_of_ble_eq_true rfl) fun _ => (cl_cons (ce_tup (cl_cons (ce_int 7) fun _ => cl_nil) fun _ => Nat.le_of_ble_eq_true rfl) fun _ => (cl_cons (ce_tup (cl_cons (ce_int 8) fun _ => cl_nil) fun _ => Nat.le_of_ble_eq_true rfl) fun _ => (cl_cons (ce_tup (cl_cons (ce_int 2) fun _ => (cl_cons (ce_int 4) fun _ => cl_nil)) fun _ => Nat.le_of_ble_eq_true rfl) fun _ => (cl_cons (ce_tup (cl_cons (ce_int 2) fun _ => (cl_cons (ce_int 2) fun _ => (cl_cons (ce_int 2) fun _ => cl_nil))) fun _ => Nat.le_of_ble_eq_true rfl) fun _ => cl_nil))))))))))) fun _ => Nat.le_of_ble_eq_true rfl) fun _ => (Nat.lt_of_sub_pos (Nat.le_of_ble_eq_true rfl))) (fun a1 => (jr_of (env := [.d ((.list [(.tuple [(.int 2)]), (.tuple [(.int 3)]), (.tuple [(.int 4)]), (.tuple [(.int 2), (.int 2)]), (.tuple [(.int 5)]), (.tuple [(.int 6)]), (.tuple [(.int 2), (.int 3)]), (.tuple [(.int 7)]), (.tuple [(.int 8)]), (.tuple [(.int 2), (.int 4)]), (.tuple [(.int 2), (.int 2), (.int 2)])]))]) (jt_ret (env := [.d ((.list [(.tuple [(.int 2)]), (.tuple [(.int 3)]), (.tuple [(.int 4)]), (.tuple [(.int 2), (.int 2)]), (.tuple [(.int 5)]), (.tuple [(.int 6)]), (.tuple [(.int 2), (.int 3)]), (.tuple [(.int 7)]), (.tuple [(.int 8)]), (.tuple [(.int 2), (.int 4)]), (.tuple [(.int 2), (.int 2), (.int 2)])]))]) (ce_op oAdd (ce_var 0 rfl) (fun _ => (ce_lst (cl_cons (ce_tup (cl_cons (ce_int 9) fun _ => cl_nil) fun _ => Nat.le_of_ble_eq_true rfl) fun _ => (cl_cons (ce_tup (cl_cons (ce_int 3) fun _ => (cl_cons (ce_int 3) fun _ => cl_nil)) fun _ => Nat.le_of_ble_eq_true rfl) fun _ => (cl_cons (ce_tup (cl_cons (ce_int 10) fun _ => cl_nil) fun _ => Nat.le_of_ble_eq_true rfl) fun _ => (cl_cons (ce_tup (cl_cons (ce_int 2) fun _ => (cl_cons (ce_int 5) fun _ => cl_nil)) fun _ => Nat.le_of_ble_eq_true rfl) fun _ => (cl_cons (ce_tup (cl_cons (ce_int 12) fun _ => cl_nil) fun _ => Nat.le_of_ble_eq_true rfl) fun _ => (cl_cons (ce_tup (cl_cons (ce_int 2) fun _ => (cl_cons (ce_int 6) fun _ => cl_nil)) fun _ => Nat.le_of_ble_eq_true rfl) fun _ => cl_nil)))))) fun _ => Nat.le_of_ble_eq_true rfl)))))))
      exact j) e
end D
end
section
set_option maxRecDepth 100000
set_option maxHeartbeats 1000000
namespace D
open PySem PySem.Spec PyProof.Rows L2 G N J
def Yg_law_group_v6 (v_generator : List D) (v_most : D) : Option (D × List D) :=
  bd (Y_law_groups_v2) fun t2 => bd (seqD t2) fun t3 => bd (if (t3).length ≤ 1000000 then lcF (fun x4 => bd (Y_law_size_v4 x4) fun t6 => bd (oLe.f t6 v_most) fun t7 => bd (boolD t7) fun b8 => if b8 = true then some (some x4) else some none) t3 else none) fun ys9 => bd (bLen.f [(.list ys9)]) fun t11 => bd (Yg_law_random v_generator t11) fun t10 => bd (ixD (.list ys9) t10.1) fun t12 => some (t12, t10.2)
def Mg_law_group_v6 (v_generator : List D) : List D → Option (D × List D)
  | [v_most] => Yg_law_group_v6 v_generator v_most
  | _ => none
theorem yg_law_group_v6 : ∀ (g xs : List D) (z : D × List D), Mg_law_group_v6 g xs = some z → FG F_law_group_v6 g xs = some z
  | v_generator, [v_most], z, e => fg_ofJ (g := v_generator) (xs := [v_most]) rfl (Nat.le_of_ble_eq_true rfl) (by
      have j : JR Pg [.o v_generator, .d v_most, .no, .no] _ _ := (jr_seq (env := [.o (v_generator), .d (v_most), .no, .no]) (jn_set (env := [.o (v_generator), .d (v_most), .no, .no]) 2 (ce_lc (ci_seq (ce_call M_law_groups_v2 y_law_groups_v2 cl_nil)) (fun _ => (ct_name 3 (Nat.lt_of_sub_pos (Nat.le_of_ble_eq_true rfl)))) (fun _ a5 => (cb_test (ce_op oLe (ce_call M_law_size_v4 y_law_size_v4 (cl_cons (ce_var 3 rfl) fun _ => cl_nil)) (fun _ => (ce_var 1 rfl))))) fun _ a5 => (ce_var 3 rfl)) fun _ => (Nat.lt_of_sub_pos (Nat.le_of_ble_eq_true rfl))) (fun a1 => (jr_of (env := [.o (v_generator), .d (v_most), .d ((.list a1.2)), .no]) (jt_retG (env := [.o (v_generator), .d (v_most), .d ((.list a1.2)), .no]) (ce_ix (ce_var 2 rfl) (fun _ => (ce_callG Mg_law_random yg_law_random 0 rfl (cl_cons (ce_cb bLen (cl_cons (ce_var 2 rfl) fun _ => cl_nil)) fun _ => cl_nil) (fun _ => rfl)))) (fun _ => rfl)))))
      exact j) e
end D
end
section
set_option maxRecDepth 100000
set_option maxHeartbeats 1000000
namespace D
open PySem PySem.Spec PyProof.Rows L2 G N J
end D
end
section
set_option maxRecDepth 100000
set_option maxHeartbeats 4000000
namespace Y
open PySem PySem.Spec PyProof.Rows L2 G N J D Lin
variable {n : Nat} {os : List Int} {ts : List (List Int)} {t : Int}
theorem added_loop : ∀ (r : List Int) (a b t w : Int), Pos r → 1 ≤ w → w * prodR r ≤ 1000000 → ∃ a' b' w', foldD (fun x10 (s8 : D × D × D × D) => bd (bInt.f [s8.1]) fun t12 => bd (oMod.f t12 x10) fun t13 => bd (bInt.f [s8.2.1]) fun t14 => bd (oMod.f t14 x10) fun t15 => bd (oAdd.f t13 t15) fun t16 => bd (bInt.f [t16]) fun t17 => bd (oMod.f t17 x10) fun t18 => bd (oMul.f t18 s8.2.2.2) fun t19 => bd (oAdd.f s8.2.2.1 t19) fun t20 => bd (oFdiv.f s8.1 x10) fun t22 => bd (oFdiv.f s8.2.1 x10) fun t23 => bd (oMul.f s8.2.2.2 x10) fun t24 => some (t22, t23, t20, t24)) (r.map .int) (.int a, .int b, .int t, .int w) = some (a', b', .int (t + w * linR r [a, b] []), w')
  | [], a, b, t, w, _, _, _ => ⟨_, _, _, by
    show some (PyData.int a, PyData.int b, PyData.int t, PyData.int w) = some (_, _, .int (t + w * 0), _)
    rw [Int.mul_zero, Int.add_zero]⟩
  | o :: r, a, b, t, w, h, hw, hp => by
    obtain ⟨a1, a2, a3, a4, a5⟩ := pr_le h.head h.tail hw hp
    have h2 := h.head
    have so : sm o = true := sm_lo (by omega) (by omega)
    have sw : sm w = true := sm_lo (by omega) (by omega)
    have o0 : 0 < o := by omega
    have sa : sm ((a + b) % o) = true := sm_lo (mod_lo o0) (by have := mod_hi (a := a + b) o0; omega)
    obtain ⟨a', b', w', e⟩ := added_loop r (a / o) (b / o) (t + (a + b) % o * w) (w * o) h.tail a3 a5
    refine ⟨a', b', w', ?_⟩
    rw [List.map_cons, foldD]
    simp only [bInt_i, oMod_i o0, oAdd_i, oFdiv_i o0 so, bd_some, ← Int.add_emod, oMul_i sa sw, oMul_i sw so]
    rw [e]
    have z : t + (a + b) % o * w + w * o * linR r [a / o, b / o] [] = t + w * linR (o :: r) [a, b] [] := by
      have d : linR (o :: r) [a, b] [] = (a + b) % o + o * linR r [a / o, b / o] [] := by
        show ([a, b].sum - ([] : List Int).sum) % o + o * linR r [a / o, b / o] [] = _
        simp
      rw [d, Int.mul_add, Int.mul_comm ((a + b) % o), Int.mul_assoc w o, Int.add_assoc]
    rw [z]
theorem ladded_y (h : Ords os) (a b : Int) : Y_law_added (os_ os) (.int a) (.int b) = some (.int (lin os [a, b] [])) := by
  obtain ⟨a', b', w', e⟩ := added_loop os.reverse a b 0 1 h.rev.1 (by omega) (by have := h.rev.2; omega)
  unfold Y_law_added os_
  refine bd_of (un2_t _ _) (bd_of (rev_t _) (bd_of (seq_t _) ?_))
  rw [← List.map_reverse]
  refine bd_of e ?_
  rw [Int.zero_add, Int.one_mul]
  rfl
theorem size4_y (h : Ords os) : Y_law_size_v4 (os_ os) = some (.int (prodR os)) := size3_y h
def mulS (os : List Int) (n : Nat) (ms : List Int) : List Int := (List.range n).map fun (i : Nat) => lin os [ms.getD i 0, i] []
theorem mul_loop (h : Ords os) (sz : (n : Int) = prodR os) (hn : n ≤ 4000) : ∀ (xs : List D) (ms : List Int), ms.length = n → (∀ x ∈ ms, 0 ≤ x ∧ x < n) → ∃ ms', foldD (fun x36 s34 => bd (bLen.f [s34]) fun t38 => bd (rgI1 [t38]) fun t39 => bd (if (t39).length ≤ 1000000 then mapO (fun x40 => bd (ixD s34 x40) fun t43 => bd (Y_law_added (os_ os) t43 x40) fun t42 => some t42) t39 else none) fun ys44 => some ((.list ys44))) xs (il ms) = some (il ms') ∧ ms'.length = n ∧ ∀ x ∈ ms', 0 ≤ x ∧ x < n
  | [], ms, hl, hr => ⟨ms, rfl, hl, hr⟩
  | x :: xs, ms, hl, hr => by
    obtain ⟨ms', e, l2, r2⟩ := mul_loop h sz hn xs (mulS os n ms) (by unfold mulS; simp) (fun x hx => by
      obtain ⟨i, hi, rfl⟩ := List.mem_map.mp hx
      exact ⟨lin_lo h _ _, by rw [sz]; exact lin_hi h _ _⟩)
    refine ⟨ms', ?_, l2, r2⟩
    have m : mapO (fun x40 => bd (ixD (il ms) x40) fun t43 => bd (Y_law_added (os_ os) t43 x40) fun t42 => some t42) ((List.range n).map fun (i : Nat) => PyData.int i) = some ((mulS os n ms).map .int) := by
      unfold mulS
      rw [List.map_map]
      exact mapO_of (fun (i : Nat) => PyData.int i) (fun (i : Nat) => PyData.int (lin os [ms.getD i 0, (i : Int)] [])) fun i hi => by
        have hi := List.mem_range.mp hi
        exact bd_of (at_nat (by omega)) (bd_of (ladded_y h _ _) rfl)
    rw [foldD]
    refine bd_of (bd_of (by rw [len_il, hl]) (bd_of (rg1_n (by omega)) (bd_of (ite_t (by rw [List.length_map, List.length_range]; omega) m) rfl))) ?_
    exact e
theorem table3_drawn {k : Nat} {es : List D} (g : Gn k es) (hk : k ≤ 9999999) (o : Ords os) (sz : (n : Int) = prodR os) (hn : n ≤ 4000) : ∃ tb es', Yg_law_table_v3 es (os_ os) = some (il tb, es') ∧ IsP n tb ∧ Gn (k + (4 * n + 8)) es' := by
  obtain ⟨ys, es1, e1, pm, g1⟩ := shuf3_loop ((List.range n).map fun (i : Nat) => PyData.int i) (rgI n) [] es k (by unfold rgI; simp) (by simp; omega) g (by simp; omega)
  rw [List.length_map, List.length_range] at g1
  rw [List.nil_append] at e1
  have P := isP_of pm
  obtain ⟨r, es2, e2, r0, r1, g2⟩ := random_y g1 (by omega) (n := 3) (by decide) (by decide)
  have s := size4_y o
  rw [← sz] at s
  by_cases c : r = 0
  · obtain ⟨q, es3, e3, q0, q1, g3⟩ := random_y g2 (by omega) (n := 3) (by decide) (by decide)
    obtain ⟨ms, em, lm, rm⟩ := mul_loop o sz hn ((List.range (1 + q).toNat).map fun (i : Nat) => PyData.int i) (ys.map fun _ => 0) (by rw [List.length_map, P.len]) (fun x hx => by
      obtain ⟨_, hy, rfl⟩ := List.mem_map.mp hx
      have := P.lo _ hy
      have := P.hi _ hy
      omega)
    have sm : Sml ms := sml_in hn (by omega) rm
    have ze : (if (ys.map PyData.int).length ≤ 1000000 then mapO (fun x28 => some (PyData.int 0)) (ys.map PyData.int) else none) = some ((ys.map fun _ => (0 : Int)).map .int) := ite_t (by rw [List.length_map, P.len]; omega) (by
      rw [List.map_map]
      exact mapO_of PyData.int (fun _ => PyData.int 0) fun x _ => rfl)
    have aq : oAdd.f (.int 1) (.int q) = some (.int ((1 + q).toNat : Nat)) := by rw [oAdd_i]; congr 2; omega
    obtain ⟨tb, Pt, et⟩ : ∃ tb, IsP n tb ∧ (if decide (sortI ms = rgI n) = true then some (il ms) else some (.list (ys.map .int))) = some (il tb) := by
      by_cases d : sortI ms = rgI n
      · exact ⟨ms, isP_of ((sortI_perm ms).symm.trans (by rw [d]; exact .refl _)), ite_t (decide_eq_true d) rfl⟩
      · exact ⟨ys, P, ite_f (by rw [decide_eq_false d]; decide) rfl⟩
    refine ⟨tb, es3, ?_, Pt, g3.mono (by omega)⟩
    unfold Yg_law_table_v3
    refine bd_of s (bd_of (rgD1_n (by omega)) (bd_of (disD_l _) (bd_of s (bd_of (rg1_n (by omega)) (bd_of e1 (bd_of e2 (bd_of (eqn0 _) (bd_of (boolD_b _) (bd_of (a := (es3, il tb)) (ite_t (decide_eq_true c) ?_) rfl)))))))))
    refine bd_of e3 (bd_of aq (bd_of (seq_l _) (bd_of ze (bd_of (rg1_n (by omega)) (bd_of em ?_)))))
    exact bd_of (sort_il _) (bd_of (by rw [len_il, lm]) (bd_of (rgD1_n (by omega)) (bd_of (eq_il sm.sort (rg_sml hn)) (bd_of (boolD_b _) (bd_of et rfl)))))
  · refine ⟨ys, es2, ?_, P, g2.mono (by omega)⟩
    unfold Yg_law_table_v3
    exact bd_of s (bd_of (rgD1_n (by omega)) (bd_of (disD_l _) (bd_of s (bd_of (rg1_n (by omega)) (bd_of e1 (bd_of e2 (bd_of (eqn0 _) (bd_of (boolD_b _) (bd_of (a := (es2, il ys)) (ite_f (by rw [decide_eq_false c]; decide) rfl) rfl)))))))))
def menu52 : List (List Int) := [[2], [3], [4], [2, 2], [5], [6], [2, 3], [7], [8], [2, 4], [2, 2, 2], [9], [3, 3], [10], [2, 5], [12], [2, 6]]
theorem group6_drawn {k : Nat} {es : List D} (g : Gn k es) (hk : k ≤ 99999999) {m : Int} (hm : 2 ≤ m) : ∃ os es', Yg_law_group_v6 es (.int m) = some (os_ os, es') ∧ Ords os ∧ prodR os ≤ m ∧ prodR os ≤ 12 ∧ os.length ≤ 3 ∧ Gn (k + 4) es' := by
  have ok : ∀ os ∈ menu52, okO os = true := by decide
  have two : [2] ∈ menu52.filter fun os => decide (prodR os ≤ m) := List.mem_filter.mpr ⟨by decide, decide_eq_true (by show (2 : Int) * 1 ≤ m; omega)⟩
  have pos := List.length_pos_of_mem two
  have le : (menu52.filter fun os => decide (prodR os ≤ m)).length ≤ 17 := List.length_filter_le ..
  obtain ⟨r, es1, e1, r0, r1, g1⟩ := random_y g (by omega) (n := ((menu52.filter fun os => decide (prodR os ≤ m)).length : Int)) (by omega) (by omega)
  have hr : r.toNat < (menu52.filter fun os => decide (prodR os ≤ m)).length := by omega
  have inF := getD_in (d := ([] : List Int)) hr
  obtain ⟨f1, f2⟩ := List.mem_filter.mp inF
  have f2 := of_decide_eq_true f2
  obtain ⟨o1, o2, o3⟩ := ords_of (ok _ f1)
  have lc : lcF (fun x4 => bd (Y_law_size_v4 x4) fun t6 => bd (oLe.f t6 (.int m)) fun t7 => bd (boolD t7) fun b8 => if b8 = true then some (some x4) else some none) (menu52.map os_) = some ((menu52.filter fun os => decide (prodR os ≤ m)).map os_) := lcF_of os_ (fun os => decide (prodR os ≤ m)) os_ fun x hx => by
    have ox := (ords_of (ok _ hx)).1
    exact bd_of (size4_y ox) (bd_of (a := .bool (decide (prodR x ≤ m))) rfl (bd_of (boolD_b _) (some_ite2 _ _)))
  have i : ixD (.list ((menu52.filter fun os => decide (prodR os ≤ m)).map os_)) (.int r) = some (os_ ((menu52.filter fun os => decide (prodR os ≤ m)).getD r.toNat [])) := by
    show atD ((menu52.filter fun os => decide (prodR os ≤ m)).map os_) r = _
    unfold atD
    rw [if_pos r0, List.getElem?_map, List.getElem?_eq_getElem hr, List.getD_eq_getElem?_getD, List.getElem?_eq_getElem hr]
    rfl
  have ln : bLen.f [.list ((menu52.filter fun os => decide (prodR os ≤ m)).map os_)] = some (.int ((menu52.filter fun os => decide (prodR os ≤ m)).length : Int)) := by rw [bLen_f, len_l, List.length_map]
  generalize menu52.filter (fun os => decide (prodR os ≤ m)) = F at *
  refine ⟨F.getD r.toNat [], es1, ?_, o1, f2, o2, o3, g1⟩
  unfold Yg_law_group_v6
  exact bd_of (a := .list (menu52.map os_)) rfl (bd_of (seq_l _) (bd_of (ite_t (Nat.le_of_ble_eq_true rfl) lc) (bd_of ln (bd_of e1 (bd_of i rfl)))))
end Y
end
section
set_option maxRecDepth 100000
set_option maxHeartbeats 2000000
namespace Y
open PySem PySem.Spec PyProof.Rows L2 G N J D Lin
variable {n : Nat} {os : List Int} {ts : List (List Int)} {t : Int}
structure Ok (d : D) (k b : Nat) : Prop where
  s : d.showable = true
  l : d.leavesShort 13 = true
  dep : d.depth ≤ k
  blk : d.bulk ≤ b
theorem Sz.ok {d : D} {k b : Nat} (h : Sz d k b) : Ok d k b := ⟨(pl_facts d h.p).2.2.1, (pl_facts d h.p).2.1, h.dep, h.blk⟩
theorem Ok.mono {d : D} {k b k' b' : Nat} (h : Ok d k b) (hk : k ≤ k') (hb : b ≤ b') : Ok d k' b' := ⟨h.s, h.l, Nat.le_trans h.dep hk, Nat.le_trans h.blk hb⟩
theorem Ok.rp {d : D} {k b : Nat} (h : Ok d k b) (hk : k ≤ 60) (hb : b ≤ 900000) : bRepr.f [d] = some (.str d.shown) := by
  have q := PyData.shown_le_bulk 13 (by decide) d h.l
  have h1 := h.blk
  have h2 := h.dep
  show (if okR d = true then _ else _) = _
  rw [if_pos ?_]
  unfold okR
  rw [h.s, decide_eq_true (show d.depth ≤ 100 by omega), decide_eq_true (show d.shown.length ≤ 16000000 by omega)]
  rfl
end Y
end
section
set_option maxRecDepth 100000
set_option maxHeartbeats 1000000
namespace D
open PySem PySem.Spec PyProof.Rows L2 G N J
def Y_how_many_pairs (v_sizes : D) : Option (D) :=
  bd (seqD v_sizes) fun t1 => bd (if (t1).length ≤ 1000000 then mapO (fun x2 => bd (oSub.f x2 (.int 1)) fun t4 => bd (oMul.f x2 t4) fun t5 => bd (oFdiv.f t5 (.int 2)) fun t6 => some t6) t1 else none) fun ys7 => bd (bSum.f [(.list ys7)]) fun t8 => some t8
def M_how_many_pairs : List D → Option (D)
  | [v_sizes] => Y_how_many_pairs v_sizes
  | _ => none
theorem y_how_many_pairs : ∀ (xs : List D) (z : D), M_how_many_pairs xs = some z → FD F_how_many_pairs xs = some z
  | [v_sizes], z, e => fd_ofJ (xs := [v_sizes]) rfl (Nat.le_of_ble_eq_true rfl) (by
      have j : JR Pd [.d v_sizes, .no] _ _ := (jr_of (env := [.d (v_sizes), .no]) (jt_ret (env := [.d (v_sizes), .no]) (ce_cb bSum (cl_cons (ce_lcY (ci_seq (ce_var 0 rfl)) (fun _ => (ct_name 1 (Nat.lt_of_sub_pos (Nat.le_of_ble_eq_true rfl)))) fun _ a3 => (ce_op oFdiv (ce_op oMul (ce_var 1 rfl) (fun _ => (ce_op oSub (ce_var 1 rfl) (fun _ => (ce_int 1))))) (fun _ => (ce_int 2)))) fun _ => cl_nil))))
      exact j) e
end D
end
section
set_option maxRecDepth 100000
set_option maxHeartbeats 1000000
namespace D
open PySem PySem.Spec PyProof.Rows L2 G N J
def Yc_times_each_v2 (v_row : D) : Option (List (Int × Int)) :=
  bd (seqD v_row) fun t1 => bd (cntD t1) some
def Mc_times_each_v2 : List D → Option (List (Int × Int))
  | [v_row] => Yc_times_each_v2 v_row
  | _ => none
theorem yc_times_each_v2 : ∀ (xs : List D) (z : List (Int × Int)), Mc_times_each_v2 xs = some z → FDC F_times_each_v2 xs z
  | [v_row], z, e => fdc_ofJ (xs := [v_row]) rfl (Nat.le_of_ble_eq_true rfl) (by
      have j : JR Pdc [.d v_row, .no, .no] _ _ := (jr_of (env := [.d (v_row), .no, .no]) (jt_times (i := 1) (j := 2) (ci_seq (ce_var 0 rfl)) (by decide) (Nat.lt_of_sub_pos (Nat.le_of_ble_eq_true rfl)) (Nat.lt_of_sub_pos (Nat.le_of_ble_eq_true rfl))))
      exact j) e
end D
end
section
set_option maxRecDepth 100000
set_option maxHeartbeats 1000000
namespace D
open PySem PySem.Spec PyProof.Rows L2 G N J
def Y_how_many_equal_v2 (v_row : D) : Option (D) :=
  bd (Yc_times_each_v2 v_row) fun t2 => bd (Y_how_many_pairs (.list (t2.map fun q => .int q.2))) fun t1 => some t1
def M_how_many_equal_v2 : List D → Option (D)
  | [v_row] => Y_how_many_equal_v2 v_row
  | _ => none
theorem y_how_many_equal_v2 : ∀ (xs : List D) (z : D), M_how_many_equal_v2 xs = some z → FD F_how_many_equal_v2 xs = some z
  | [v_row], z, e => fd_ofJ (xs := [v_row]) rfl (Nat.le_of_ble_eq_true rfl) (by
      have j : JR Pd [.d v_row] _ _ := (jr_of (env := [.d (v_row)]) (jt_ret (env := [.d (v_row)]) (ce_call M_how_many_pairs y_how_many_pairs (cl_cons (ce_ofCO (co_listVals Mc_times_each_v2 yc_times_each_v2 (cl_cons (ce_var 0 rfl) fun _ => cl_nil))) fun _ => cl_nil))))
      exact j) e
end D
end
section
set_option maxRecDepth 100000
set_option maxHeartbeats 2000000
namespace Y
open PySem PySem.Spec PyProof.Rows L2 G N J D Lin
def npr (n : Nat) (q : Nat → Nat → Bool) : Nat := ((List.range n).map fun i => ((later n i).filter (q i)).length).sum
theorem npr_congr {n : Nat} {q q' : Nat → Nat → Bool} (h : ∀ i j, i < j → j < n → q i j = q' i j) : npr n q = npr n q' := by
  unfold npr
  congr 1
  refine List.map_congr_left fun i _ => ?_
  congr 1
  exact List.filter_congr fun j hj => h i j (later_mem.mp hj).1 (later_mem.mp hj).2
theorem later_succ {n i : Nat} (hi : i < n) : later (n + 1) i = later n i ++ [n] := by
  unfold later
  rw [show n + 1 - (i + 1) = (n - (i + 1)) + 1 by omega, List.range_succ, List.map_append]
  congr 1
  show [i + 1 + (n - (i + 1))] = [n]
  congr 1
  omega
theorem sum_add {α : Type} (f g : α → Nat) : ∀ l : List α, (l.map fun x => f x + g x).sum = (l.map f).sum + (l.map g).sum
  | [] => rfl
  | x :: l => by
    have ih := sum_add f g l
    rw [List.map_cons, List.map_cons, List.map_cons, List.sum_cons, List.sum_cons, List.sum_cons, ih]
    omega
theorem sum_filter {α : Type} (p : α → Bool) : ∀ l : List α, (l.map fun x => if p x = true then 1 else 0).sum = (l.filter p).length
  | [] => rfl
  | x :: l => by
    have ih := sum_filter p l
    rw [List.map_cons, List.sum_cons, ih, List.filter_cons]
    cases p x with
    | true => rw [if_pos rfl, if_pos rfl, List.length_cons]; omega
    | false => rw [if_neg (by decide), if_neg (by decide)]; omega
theorem npr_succ (n : Nat) (q : Nat → Nat → Bool) : npr (n + 1) q = npr n q + ((List.range n).filter fun i => q i n).length := by
  unfold npr
  rw [List.range_succ, List.map_append, List.sum_append]
  have a : ((List.range n).map fun i => ((later (n + 1) i).filter (q i)).length) = (List.range n).map fun i => ((later n i).filter (q i)).length + if q i n = true then 1 else 0 := by
    refine List.map_congr_left fun i hi => ?_
    rw [later_succ (List.mem_range.mp hi), List.filter_append, List.length_append]
    congr 1
    rw [List.filter_cons]
    cases q i n <;> rfl
  have b : later (n + 1) n = [] := by unfold later; rw [Nat.sub_self]; rfl
  rw [a, sum_add, sum_filter (fun i => q i n)]
  show _ + ([((later (n + 1) n).filter (q n)).length] : List Nat).sum = _
  rw [b]
  rfl
theorem npr_le (n : Nat) (q : Nat → Nat → Bool) : npr n q ≤ n * n := by
  induction n with
  | zero => exact Nat.le_refl _
  | succ n ih =>
    rw [npr_succ]
    have := List.length_filter_le (fun i => q i n) (List.range n)
    rw [List.length_range] at this
    have e : (n + 1) * (n + 1) = n * n + n + n + 1 := by rw [Nat.add_mul, Nat.mul_add]; omega
    omega
theorem getD_app {α : Type} (d : α) {xs : List α} {y : α} {i : Nat} (h : i < xs.length) : (xs ++ [y]).getD i d = xs.getD i d := by
  rw [List.getD_eq_getElem?_getD, List.getD_eq_getElem?_getD, List.getElem?_append_left h]
theorem getD_end {α : Type} (d : α) (xs : List α) (y : α) : (xs ++ [y]).getD xs.length d = y := by
  rw [List.getD_eq_getElem?_getD, List.getElem?_append_right (Nat.le_refl _), Nat.sub_self]
  rfl
theorem count_at (y : Int) : ∀ xs : List Int, ((List.range xs.length).filter fun i => decide (xs.getD i 0 = y)).length = xs.count y := fun xs => by
  have e : xs = (List.range xs.length).map fun i => xs.getD i 0 := by
    refine List.ext_getElem? fun i => ?_
    rw [List.getElem?_map]
    by_cases c : i < xs.length
    · rw [List.getElem?_range c, List.getElem?_eq_getElem c, Option.map_some, List.getD_eq_getElem?_getD, List.getElem?_eq_getElem c]
      rfl
    · rw [List.getElem?_eq_none (by omega), List.getElem?_eq_none (by rw [List.length_range]; omega)]
      rfl
  have z : xs.count y = ((List.range xs.length).map fun i => xs.getD i 0).count y := congrArg (List.count y) e
  rw [z]
  unfold List.count
  rw [List.countP_map, List.countP_eq_length_filter]
  congr 1
theorem npr_snoc (xs : List Int) (y : Int) : npr (xs ++ [y]).length (eqQ (xs ++ [y])) = npr xs.length (eqQ xs) + xs.count y := by
  rw [List.length_append]
  show npr (xs.length + 1) _ = _
  rw [npr_succ, npr_congr (q := eqQ (xs ++ [y])) (q' := eqQ xs) fun i j h1 h2 => ?_]
  · congr 1
    rw [← count_at]
    congr 1
    refine List.filter_congr fun i hi => ?_
    have hi := List.mem_range.mp hi
    unfold eqQ
    rw [getD_app 0 hi, getD_end]
  · unfold eqQ
    rw [getD_app 0 (by omega), getD_app 0 h2]
def tot (kvs : List (Int × Int)) : Int := (kvs.map fun p => p.2 * (p.2 - 1) / 2).sum
def putR (k c : Int) : List (Int × Int) → List (Int × Int)
  | [] => [(k, c)]
  | p :: r => if p.1 = k then (p.1, c) :: r else p :: putR k c r
theorem put_none (k c : Int) : ∀ kvs : List (Int × Int), k ∉ kvs.map Prod.fst → kvs.map (fun p => if p.1 = k then (p.1, c) else p) = kvs
  | [], _ => rfl
  | p :: r, h => by
    rw [List.map_cons, if_neg (fun e => h (by rw [List.map_cons, e]; exact List.mem_cons_self ..)), put_none k c r fun z => h (List.mem_cons_of_mem _ z)]
theorem putI_R (k c : Int) : ∀ kvs : List (Int × Int), (kvs.map Prod.fst).Nodup → putI kvs k c = putR k c kvs
  | [], _ => rfl
  | p :: r, h => by
    rw [List.map_cons, List.nodup_cons] at h
    have ih := putI_R k c r h.2
    unfold putI at ih ⊢
    rw [List.any_cons, putR]
    by_cases e : p.1 = k
    · rw [decide_eq_true e, Bool.true_or, if_pos rfl, if_pos e, List.map_cons, if_pos e, put_none k c r (by rw [← e]; exact h.1)]
    · rw [decide_eq_false e, Bool.false_or, if_neg e, ← ih]
      by_cases a : (r.any fun p => decide (p.1 = k)) = true
      · rw [if_pos a, if_pos a, List.map_cons, if_neg e]
      · rw [if_neg a, if_neg a]
        rfl
theorem putR_keys (k c : Int) : ∀ kvs : List (Int × Int), ∀ x ∈ (putR k c kvs).map Prod.fst, x = k ∨ x ∈ kvs.map Prod.fst
  | [], x, h => .inl (by simpa [putR] using h)
  | p :: r, x, h => by
    unfold putR at h
    split at h
    · rw [List.map_cons] at h ⊢
      exact .inr h
    · rw [List.map_cons] at h ⊢
      rcases List.mem_cons.mp h with z | z
      · exact .inr (List.mem_cons.mpr (.inl z))
      · exact (putR_keys k c r x z).imp id fun z => List.mem_cons_of_mem _ z
theorem putR_nd (k c : Int) : ∀ kvs : List (Int × Int), (kvs.map Prod.fst).Nodup → ((putR k c kvs).map Prod.fst).Nodup
  | [], _ => by simp [putR]
  | p :: r, h => by
    unfold putR
    split
    · exact h
    · rename_i e
      rw [List.map_cons, List.nodup_cons] at h ⊢
      exact ⟨fun z => (putR_keys k c r p.1 z).elim e h.1, putR_nd k c r h.2⟩
theorem valI_cons (p : Int × Int) (r : List (Int × Int)) (k : Int) : valI (p :: r) k = if p.1 = k then some p.2 else valI r k := by
  unfold valI
  rw [List.find?_cons]
  by_cases e : p.1 = k
  · rw [decide_eq_true e, if_pos e]; rfl
  · rw [decide_eq_false e, if_neg e]
theorem valI_putR (k c j : Int) : ∀ kvs : List (Int × Int), valI (putR k c kvs) j = if k = j then some c else valI kvs j
  | [] => by unfold putR; rw [valI_cons]
  | p :: r => by
    unfold putR
    by_cases e : p.1 = k
    · rw [if_pos e, valI_cons, valI_cons]
      dsimp only
      rw [e]
      by_cases z : k = j
      · rw [if_pos z, if_pos z]
      · rw [if_neg z, if_neg z, if_neg z]
    · rw [if_neg e, valI_cons, valI_cons, valI_putR k c j r]
      by_cases z : p.1 = j
      · rw [if_pos z, if_neg (fun q => e (z.trans q.symm)), if_pos z]
      · rw [if_neg z, if_neg z]
theorem half_succ (v : Int) : (v + 1) * (v + 1 - 1) / 2 = v * (v - 1) / 2 + v := by
  have e : (v + 1) * (v + 1 - 1) = v * (v - 1) + v * 2 := by
    rw [show v + 1 - 1 = v by omega, Int.add_mul, Int.one_mul, Int.mul_sub, Int.mul_one]
    omega
  rw [e, Int.add_mul_ediv_right _ _ (by decide)]
theorem tot_putR (k : Int) : ∀ kvs : List (Int × Int), tot (putR k ((valI kvs k).getD 0 + 1) kvs) = tot kvs + (valI kvs k).getD 0
  | [] => by
    show (0 + 1) * (0 + 1 - 1) / 2 + 0 = (0 : Int) + 0
    decide
  | p :: r => by
    have ih := tot_putR k r
    rw [valI_cons]
    unfold putR
    by_cases e : p.1 = k
    · rw [if_pos e, if_pos e]
      unfold tot
      rw [List.map_cons, List.map_cons, List.sum_cons, List.sum_cons]
      show (p.2 + 1) * (p.2 + 1 - 1) / 2 + _ = _ + _ + p.2
      rw [half_succ]
      omega
    · rw [if_neg e, if_neg e]
      unfold tot at ih ⊢
      rw [List.map_cons, List.map_cons, List.sum_cons, List.sum_cons, ih]
      omega
structure Cnt (xs : List Int) (kvs : List (Int × Int)) : Prop where
  nd : (kvs.map Prod.fst).Nodup
  val : ∀ k, (valI kvs k).getD 0 = (xs.count k : Nat)
  tot : tot kvs = (npr xs.length (eqQ xs) : Nat)
theorem cnt_nil : Cnt [] [] := ⟨by simp, fun k => rfl, rfl⟩
theorem cnt_step {xs : List Int} {kvs : List (Int × Int)} (c : Cnt xs kvs) (y : Int) : Cnt (xs ++ [y]) (cntS kvs y) := by
  unfold cntS
  rw [putI_R _ _ _ c.nd]
  refine ⟨putR_nd _ _ _ c.nd, fun k => ?_, ?_⟩
  · rw [valI_putR, List.count_append]
    by_cases e : y = k
    · subst e
      rw [if_pos rfl, c.val y, List.count_singleton_self]
      show ((xs.count y : Nat) : Int) + 1 = ((xs.count y + 1 : Nat) : Int)
      omega
    · rw [if_neg e, c.val k, List.count_singleton, if_neg (by simpa using e), Nat.add_zero]
  · rw [tot_putR, c.tot, npr_snoc, c.val y]
    omega
theorem cnt_go : ∀ (ys xs : List Int) (kvs : List (Int × Int)), Cnt xs kvs → Cnt (xs ++ ys) (ys.foldl cntS kvs)
  | [], xs, kvs, c => by rw [List.append_nil]; exact c
  | y :: ys, xs, kvs, c => by
    have := cnt_go ys (xs ++ [y]) _ (cnt_step c y)
    rw [List.append_assoc] at this
    exact this
theorem cnt_of (xs : List Int) : Cnt xs (cnt xs) := cnt_go xs [] [] cnt_nil
theorem intsD_map : ∀ ns : List Int, intsD (ns.map .int) = some ns
  | [] => rfl
  | n :: ns => by rw [List.map_cons, intsD, intsD_map ns]
theorem times_y {xs : List Int} (hl : xs.length ≤ 1000000) : Yc_times_each_v2 (il xs) = some (cnt xs) := by
  unfold Yc_times_each_v2
  refine bd_of (seq_l _) (bd_of (a := cnt xs) ?_ rfl)
  unfold cntD
  rw [intsD_map]
  dsimp only
  rw [if_pos hl]
theorem cntF_small : ∀ (ys : List Int) (kvs : List (Int × Int)) (b : Int), (∀ p ∈ kvs, 0 ≤ p.2 ∧ p.2 ≤ b) → 0 ≤ b → ∀ p ∈ ys.foldl cntS kvs, 0 ≤ p.2 ∧ p.2 ≤ b + ys.length
  | [], kvs, b, h, b0, p, hp => by have := h p hp; simp; omega
  | y :: ys, kvs, b, h, b0, p, hp => by
    have hv : 0 ≤ (valI kvs y).getD 0 ∧ (valI kvs y).getD 0 ≤ b := by
      unfold valI
      cases c : kvs.find? fun p => decide (p.1 = y) with
      | none => exact ⟨Int.le_refl _, b0⟩
      | some q => exact h q (List.mem_of_find?_eq_some c)
    have := cntF_small ys (cntS kvs y) (b + 1) (fun q hq => by
      unfold cntS putI at hq
      split at hq
      · obtain ⟨z, hz, rfl⟩ := List.mem_map.mp hq
        have := h z hz
        split
        · dsimp only; omega
        · omega
      · rcases List.mem_append.mp hq with z | z
        · have := h q z; omega
        · rw [List.mem_singleton.mp z]; dsimp only; omega) (by omega) p hp
    rw [List.length_cons]
    omega
theorem cnt_small (xs : List Int) : ∀ p ∈ cnt xs, 0 ≤ p.2 ∧ p.2 ≤ xs.length := fun p hp => by
  have := cntF_small xs [] 0 (fun _ h => by cases h) (Int.le_refl _) p hp
  omega
theorem hme_y {xs : List Int} (hl : xs.length ≤ 1000000) : Y_how_many_equal_v2 (il xs) = some (.int (npr xs.length (eqQ xs) : Nat)) := by
  have l1 := cnt_len xs
  unfold Y_how_many_equal_v2
  refine bd_of (times_y hl) (bd_of ?_ rfl)
  unfold Y_how_many_pairs
  refine bd_of (seq_l _) (bd_of (a := (cnt xs).map fun p => PyData.int (p.2 * (p.2 - 1) / 2)) (Y.ite_t (by rw [List.length_map]; omega) (mapO_of (fun (p : Int × Int) => PyData.int p.2) (fun p => PyData.int (p.2 * (p.2 - 1) / 2)) fun p hp => ?_)) (bd_of (a := .int (tot (cnt xs))) ?_ ?_))
  · obtain ⟨h0, h1⟩ := cnt_small xs p hp
    have s1 : sm p.2 = true := sm_60 (by omega) (by omega)
    have s2 : sm (p.2 - 1) = true := sm_60 (by omega) (by omega)
    exact bd_of (oSub_i _ _) (bd_of (oMul_i s1 s2) (bd_of (oFdiv_i (by decide) (by decide)) rfl))
  · show sumD [.list ((cnt xs).map fun p => PyData.int (p.2 * (p.2 - 1) / 2))] = _
    have : ((cnt xs).map fun p => PyData.int (p.2 * (p.2 - 1) / 2)) = ((cnt xs).map fun p => p.2 * (p.2 - 1) / 2).map .int := by rw [List.map_map]; rfl
    rw [this]
    show (intsOf (((cnt xs).map fun p => p.2 * (p.2 - 1) / 2).map .int)).map _ = _
    rw [intsOf_map]
    rfl
  · rw [(cnt_of xs).tot]
end Y
end
section
set_option maxRecDepth 100000
set_option maxHeartbeats 1000000
namespace D
open PySem PySem.Spec PyProof.Rows L2 G N J
def Y_law_minus_v3 (v_orders : D) (v_one : D) : Option (D) :=
  bd (un2 (.tuple [(.int 0), (.int 1)])) fun u2 => bd (revD v_orders) fun t5 => bd (seqD t5) fun t6 => bd (foldD (fun x10 s8 => bd (bInt.f [s8.1]) fun t12 => bd (oMod.f t12 x10) fun t13 => bd (oSub.f x10 t13) fun t14 => bd (bInt.f [t14]) fun t15 => bd (oMod.f t15 x10) fun t16 => bd (oMul.f t16 s8.2.2) fun t17 => bd (oAdd.f s8.2.1 t17) fun t18 => bd (oFdiv.f s8.1 x10) fun t20 => bd (oMul.f s8.2.2 x10) fun t21 => some (t20, t18, t21)) t6 (v_one, u2.1, u2.2)) fun s23 => some s23.2.1
def M_law_minus_v3 : List D → Option (D)
  | [v_orders, v_one] => Y_law_minus_v3 v_orders v_one
  | _ => none
theorem y_law_minus_v3 : ∀ (xs : List D) (z : D), M_law_minus_v3 xs = some z → FD F_law_minus_v3 xs = some z
  | [v_orders, v_one], z, e => fd_ofJ (xs := [v_orders, v_one]) rfl (Nat.le_of_ble_eq_true rfl) (by
      have j : JR Pd [.d v_orders, .d v_one, .no, .no, .no] _ _ := (jr_seq (env := [.d (v_orders), .d (v_one), .no, .no, .no]) (jn_asg (env := [.d (v_orders), .d (v_one), .no, .no, .no]) (ce_tup (cl_cons (ce_int 0) fun _ => (cl_cons (ce_int 1) fun _ => cl_nil)) fun _ => Nat.le_of_ble_eq_true rfl) fun _ => (cg_tup2 (cg_name 2 (Nat.lt_of_sub_pos (Nat.le_of_ble_eq_true rfl))) (fun _ => (cg_name 3 (Nat.lt_of_sub_pos (Nat.le_of_ble_eq_true rfl)))))) (fun a1 => (jr_seq (env := [.d (v_orders), .d (v_one), .d (a1.2.1), .d (a1.2.2), .no]) (jn_for (env := [.d (v_orders), .d (v_one), .d (a1.2.1), .d (a1.2.2), .no]) (σ := D × D × D) (E := fun s8 => [.d (v_orders), .d (s8.1), .d (s8.2.1), .d (s8.2.2), .no]) (ci_seq (ce_rev (ce_var 0 rfl))) (fun a7 => (v_one, a1.2.1, a1.2.2)) (fun _ => (Wk.kp (Wk.kp (Wk.kp (Wk.kp (Wk.kp Wk.nil)))))) (fun s8 => (ct_name 4 (Nat.lt_of_sub_pos (Nat.le_of_ble_eq_true rfl)))) (fun s8 a9 => (jn_seq (env := [.d (v_orders), .d (s8.1), .d (s8.2.1), .d (s8.2.2), .d (a9)]) (jn_set (env := [.d (v_orders), .d (s8.1), .d (s8.2.1), .d (s8.2.2), .d (a9)]) 2 (ce_op oAdd (ce_var 2 rfl) (fun _ => (ce_op oMul (ce_op oMod (ce_cb bInt (cl_cons (ce_op oSub (ce_var 4 rfl) (fun _ => (ce_op oMod (ce_cb bInt (cl_cons (ce_var 1 rfl) fun _ => cl_nil)) (fun _ => (ce_var 4 rfl))))) fun _ => cl_nil)) (fun _ => (ce_var 4 rfl))) (fun _ => (ce_var 3 rfl))))) fun _ => (Nat.lt_of_sub_pos (Nat.le_of_ble_eq_true rfl))) fun a11 => (jn_par (env := [.d (v_orders), .d (s8.1), .d (a11.2.2), .d (s8.2.2), .d (a9)]) 1 3 (Nat.ne_of_beq_eq_false rfl) (Nat.ne_of_beq_eq_false rfl) (cx_d (ce_op oFdiv (ce_var 1 rfl) (fun _ => (ce_var 4 rfl)))) (fun _ => (cx_d (ce_op oMul (ce_var 3 rfl) (fun _ => (ce_var 4 rfl))))) (fun _ _ => (Nat.lt_of_sub_pos (Nat.le_of_ble_eq_true rfl))) (fun _ _ => (Nat.lt_of_sub_pos (Nat.le_of_ble_eq_true rfl)))))) (fun s8 a9 a22 => (a22.2.1.2.2, a22.1.2.2, a22.2.2.2.2)) (fun _ _ _ => (Wk.kp (Wk.kp (Wk.kp (Wk.kp (Wk.no Wk.nil))))))) (fun a3 => (jr_of (env := [.d (v_orders), .d (a3.1), .d (a3.2.1), .d (a3.2.2), .no]) (jt_ret (env := [.d (v_orders), .d (a3.1), .d (a3.2.1), .d (a3.2.2), .no]) (ce_var 2 rfl)))))))
      exact j) e
end D
end
section
set_option maxRecDepth 100000
set_option maxHeartbeats 1000000
namespace D
open PySem PySem.Spec PyProof.Rows L2 G N J
def Y_law_row_v4 (v_orders : D) (v_sort : D) (v_first : D) (v_second : D) : Option (D) :=
  bd (oEq.f v_sort (.str "twin")) fun t1 => bd (boolD t1) fun b2 => if b2 = true then bd (SI.zipE [v_first, v_second]) fun t4 => bd (if (t4).length ≤ 1000000 then mapO (fun x6 => bd (un2 x6) fun u5 => bd (Y_law_added v_orders u5.1 u5.2) fun t8 => some t8) t4 else none) fun ys9 => some (.list ys9) else bd (SI.zipE [v_first, v_second]) fun t10 => bd (if (t10).length ≤ 1000000 then mapO (fun x12 => bd (un2 x12) fun u11 => bd (Y_law_minus_v3 v_orders u11.2) fun t15 => bd (Y_law_added v_orders u11.1 t15) fun t14 => some t14) t10 else none) fun ys16 => some (.list ys16)
def M_law_row_v4 : List D → Option (D)
  | [v_orders, v_sort, v_first, v_second] => Y_law_row_v4 v_orders v_sort v_first v_second
  | _ => none
theorem y_law_row_v4 : ∀ (xs : List D) (z : D), M_law_row_v4 xs = some z → FD F_law_row_v4 xs = some z
  | [v_orders, v_sort, v_first, v_second], z, e => fd_ofJ (xs := [v_orders, v_sort, v_first, v_second]) rfl (Nat.le_of_ble_eq_true rfl) (by
      have j : JR Pd [.d v_orders, .d v_sort, .d v_first, .d v_second, .no, .no] _ _ := (jr_if (env := [.d (v_orders), .d (v_sort), .d (v_first), .d (v_second), .no, .no]) (cbx (cb_test (ce_op oEq (ce_var 1 rfl) (fun _ => (ce_str "twin"))))) (fun a3 => (jt_retO (env := [.d (v_orders), .d (v_sort), .d (v_first), .d (v_second), .no, .no]) (co_lcY (ci_zip (cl_cons (ce_var 2 rfl) fun _ => (cl_cons (ce_var 3 rfl) fun _ => cl_nil))) (fun _ => (ct_tup2 4 5 (Nat.lt_of_sub_pos (Nat.le_of_ble_eq_true rfl)) (Nat.lt_of_sub_pos (Nat.le_of_ble_eq_true rfl)))) fun _ a7 => (ce_call M_law_added y_law_added (cl_cons (ce_var 0 rfl) fun _ => (cl_cons (ce_var 4 rfl) fun _ => (cl_cons (ce_var 5 rfl) fun _ => cl_nil))))))) (fun a3 => (jr_of (env := [.d (v_orders), .d (v_sort), .d (v_first), .d (v_second), .no, .no]) (jt_retO (env := [.d (v_orders), .d (v_sort), .d (v_first), .d (v_second), .no, .no]) (co_lcY (ci_zip (cl_cons (ce_var 2 rfl) fun _ => (cl_cons (ce_var 3 rfl) fun _ => cl_nil))) (fun _ => (ct_tup2 4 5 (Nat.lt_of_sub_pos (Nat.le_of_ble_eq_true rfl)) (Nat.lt_of_sub_pos (Nat.le_of_ble_eq_true rfl)))) fun _ a13 => (ce_call M_law_added y_law_added (cl_cons (ce_var 0 rfl) fun _ => (cl_cons (ce_var 4 rfl) fun _ => (cl_cons (ce_call M_law_minus_v3 y_law_minus_v3 (cl_cons (ce_var 0 rfl) fun _ => (cl_cons (ce_var 5 rfl) fun _ => cl_nil))) fun _ => cl_nil)))))))))
      exact j) e
end D
end
section
set_option maxRecDepth 100000
set_option maxHeartbeats 1000000
namespace D
open PySem PySem.Spec PyProof.Rows L2 G N J
def Y_law_pairs_v2 (v_row : D) : Option (D) :=
  bd (bLen.f [v_row]) fun t3 => bd (rgI1 [t3]) fun t4 => bd (foldD (fun x8 s6 => bd (oAdd.f x8 (.int 1)) fun t10 => bd (bLen.f [v_row]) fun t11 => bd (rgD2 t10 t11) fun t14 => bd (seqD t14) fun t16 => bd (if (t16).length ≤ 1000000 then lcF (fun x17 => bd (ixD v_row x17) fun t19 => bd (ixD v_row x8) fun t20 => bd (oEq.f t19 t20) fun t21 => bd (boolD t21) fun b22 => if b22 = true then some (some (.tuple [x8, x17])) else some none) t16 else none) fun ys23 => bd (oAdd.f s6 (.list ys23)) fun t24 => some (t24)) t4 ((.list []))) fun s26 => some s26
def M_law_pairs_v2 : List D → Option (D)
  | [v_row] => Y_law_pairs_v2 v_row
  | _ => none
theorem y_law_pairs_v2 : ∀ (xs : List D) (z : D), M_law_pairs_v2 xs = some z → FD F_law_pairs_v2 xs = some z
  | [v_row], z, e => fd_ofJ (xs := [v_row]) rfl (Nat.le_of_ble_eq_true rfl) (by
      have j : JR Pd [.d v_row, .no, .no, .no, .no] _ _ := (jr_seq (env := [.d (v_row), .no, .no, .no, .no]) (jn_set (env := [.d (v_row), .no, .no, .no, .no]) 1 (ce_lst cl_nil fun _ => Nat.le_of_ble_eq_true rfl) fun _ => (Nat.lt_of_sub_pos (Nat.le_of_ble_eq_true rfl))) (fun a1 => (jr_seq (env := [.d (v_row), .d ((.list [])), .no, .no, .no]) (jn_for (env := [.d (v_row), .d ((.list [])), .no, .no, .no]) (σ := D) (E := fun s6 => [.d (v_row), .d (s6), .no, .no, .no]) (ci_rng1 (cl_cons (ce_cb bLen (cl_cons (ce_var 0 rfl) fun _ => cl_nil)) fun _ => cl_nil)) (fun a5 => ((.list []))) (fun _ => (Wk.kp (Wk.kp (Wk.kp (Wk.kp (Wk.kp Wk.nil)))))) (fun s6 => (ct_name 2 (Nat.lt_of_sub_pos (Nat.le_of_ble_eq_true rfl)))) (fun s6 a7 => (jn_seq (env := [.d (v_row), .d (s6), .d (a7), .no, .no]) (jn_set (env := [.d (v_row), .d (s6), .d (a7), .no, .no]) 3 (ce_listRg2 (ce_op oAdd (ce_var 2 rfl) (fun _ => (ce_int 1))) (fun _ => (ce_cb bLen (cl_cons (ce_var 0 rfl) fun _ => cl_nil)))) fun _ => (Nat.lt_of_sub_pos (Nat.le_of_ble_eq_true rfl))) fun a9 => (jn_set (env := [.d (v_row), .d (s6), .d (a7), .d (a9.2.2), .no]) 1 (ce_op oAdd (ce_var 1 rfl) (fun _ => (ce_lc (ci_seq (ce_var 3 rfl)) (fun _ => (ct_name 4 (Nat.lt_of_sub_pos (Nat.le_of_ble_eq_true rfl)))) (fun _ a18 => (cb_test (ce_op oEq (ce_ix (ce_var 0 rfl) (fun _ => (ce_var 4 rfl))) (fun _ => (ce_ix (ce_var 0 rfl) (fun _ => (ce_var 2 rfl))))))) fun _ a18 => (ce_tup (cl_cons (ce_var 2 rfl) fun _ => (cl_cons (ce_var 4 rfl) fun _ => cl_nil)) fun _ => Nat.le_of_ble_eq_true rfl)))) fun _ => (Nat.lt_of_sub_pos (Nat.le_of_ble_eq_true rfl))))) (fun s6 a7 a25 => (a25.2.2.2)) (fun _ _ _ => (Wk.kp (Wk.kp (Wk.no (Wk.no (Wk.kp Wk.nil))))))) (fun a2 => (jr_of (env := [.d (v_row), .d (a2), .no, .no, .no]) (jt_ret (env := [.d (v_row), .d (a2), .no, .no, .no]) (ce_var 1 rfl)))))))
      exact j) e
end D
end
section
set_option maxRecDepth 100000
set_option maxHeartbeats 1000000
namespace D
open PySem PySem.Spec PyProof.Rows L2 G N J
def Y_law_sizes_v2 (v_row : D) : Option (D) :=
  bd (sortSetD v_row) fun t1 => bd (seqD t1) fun t2 => bd (if (t2).length ≤ 1000000 then mapO (fun x3 => bd (countD v_row x3) fun t5 => some t5) t2 else none) fun ys6 => bd (bSorted.f [(.list ys6)]) fun t7 => bd (disD t7) fun t8 => some (.list t8.reverse)
def M_law_sizes_v2 : List D → Option (D)
  | [v_row] => Y_law_sizes_v2 v_row
  | _ => none
theorem y_law_sizes_v2 : ∀ (xs : List D) (z : D), M_law_sizes_v2 xs = some z → FD F_law_sizes_v2 xs = some z
  | [v_row], z, e => fd_ofJ (xs := [v_row]) rfl (Nat.le_of_ble_eq_true rfl) (by
      have j : JR Pd [.d v_row, .no] _ _ := (jr_of (env := [.d (v_row), .no]) (jt_retO (env := [.d (v_row), .no]) (co_rev (ce_cb bSorted (cl_cons (ce_lcY (ci_seq (ce_un oSortSet (ce_var 0 rfl))) (fun _ => (ct_name 1 (Nat.lt_of_sub_pos (Nat.le_of_ble_eq_true rfl)))) fun _ a4 => (ce_count (ce_var 0 rfl) (fun _ => (ce_var 1 rfl)))) fun _ => cl_nil)))))
      exact j) e
end D
end
section
set_option maxRecDepth 100000
set_option maxHeartbeats 1000000
namespace D
open PySem PySem.Spec PyProof.Rows L2 G N J
def Y_check_row (v_orders : D) (v_row : D) : Option (D) :=
  bd (Y_size_of v_orders) fun t3 => bd (Y_is_row_of t3 v_row) fun t2 => bd (boolD t2) fun b4 => if (!b4) = true then none else some (.none)
def M_check_row : List D → Option (D)
  | [v_orders, v_row] => Y_check_row v_orders v_row
  | _ => none
theorem y_check_row : ∀ (xs : List D) (z : D), M_check_row xs = some z → FD F_check_row xs = some z
  | [v_orders, v_row], z, e => fd_ofJ (xs := [v_orders, v_row]) rfl (Nat.le_of_ble_eq_true rfl) (by
      have j : JR Pd [.d v_orders, .d v_row] _ _ := (jr_end (env := [.d (v_orders), .d (v_row)]) (jn_never (env := [.d (v_orders), .d (v_row)]) (a := SS.never) (cbx (cb_not (cb_val (ce_call M_is_row_of y_is_row_of (cl_cons (ce_call M_size_of y_size_of (cl_cons (ce_var 0 rfl) fun _ => cl_nil)) fun _ => (cl_cons (ce_var 1 rfl) fun _ => cl_nil))))))))
      exact j) e
end D
end
section
set_option maxRecDepth 100000
set_option maxHeartbeats 1000000
namespace D
open PySem PySem.Spec PyProof.Rows L2 G N J
def Y_sizes_borne_v2 (v_row : D) : Option (D) :=
  bd (Yc_times_each_v2 v_row) fun t1 => bd (srtR (.list (t1.map fun q => .int q.2))) fun t2 => some (.list t2)
def M_sizes_borne_v2 : List D → Option (D)
  | [v_row] => Y_sizes_borne_v2 v_row
  | _ => none
theorem y_sizes_borne_v2 : ∀ (xs : List D) (z : D), M_sizes_borne_v2 xs = some z → FD F_sizes_borne_v2 xs = some z
  | [v_row], z, e => fd_ofJ (xs := [v_row]) rfl (Nat.le_of_ble_eq_true rfl) (by
      have j : JR Pd [.d v_row] _ _ := (jr_of (env := [.d (v_row)]) (jt_retO (env := [.d (v_row)]) (co_sortedR (ce_ofCO (co_listVals Mc_times_each_v2 yc_times_each_v2 (cl_cons (ce_var 0 rfl) fun _ => cl_nil))))))
      exact j) e
end D
end
section
set_option maxRecDepth 100000
set_option maxHeartbeats 1000000
namespace D
open PySem PySem.Spec PyProof.Rows L2 G N J
def Y_sizes_of_v3 (v_orders : D) (v_row : D) : Option (D) :=
  bd (Y_check_orders v_orders) fun t2 => bd (Y_check_row v_orders v_row) fun t4 => bd (Y_sizes_borne_v2 v_row) fun t5 => some t5
def M_sizes_of_v3 : List D → Option (D)
  | [v_orders, v_row] => Y_sizes_of_v3 v_orders v_row
  | _ => none
theorem y_sizes_of_v3 : ∀ (xs : List D) (z : D), M_sizes_of_v3 xs = some z → FD F_sizes_of_v3 xs = some z
  | [v_orders, v_row], z, e => fd_ofJ (xs := [v_orders, v_row]) rfl (Nat.le_of_ble_eq_true rfl) (by
      have j : JR Pd [.d v_orders, .d v_row] _ _ := (jr_seq (env := [.d (v_orders), .d (v_row)]) (jn_drop (env := [.d (v_orders), .d (v_row)]) (ce_call M_check_orders y_check_orders (cl_cons (ce_var 0 rfl) fun _ => cl_nil))) (fun a1 => (jr_seq (env := [.d (v_orders), .d (v_row)]) (jn_drop (env := [.d (v_orders), .d (v_row)]) (ce_call M_check_row y_check_row (cl_cons (ce_var 0 rfl) fun _ => (cl_cons (ce_var 1 rfl) fun _ => cl_nil)))) (fun a3 => (jr_of (env := [.d (v_orders), .d (v_row)]) (jt_ret (env := [.d (v_orders), .d (v_row)]) (ce_call M_sizes_borne_v2 y_sizes_borne_v2 (cl_cons (ce_var 1 rfl) fun _ => cl_nil))))))))
      exact j) e
end D
end
section
set_option maxRecDepth 100000
set_option maxHeartbeats 1000000
namespace D
open PySem PySem.Spec PyProof.Rows L2 G N J
def Y_check_wish_kind (v_kind : D) : Option (D) :=
  bd (oNin.f v_kind (.tuple [.str "swap", .str "twin"])) fun t2 => bd (boolD t2) fun b3 => if b3 = true then none else some (.none)
def M_check_wish_kind : List D → Option (D)
  | [v_kind] => Y_check_wish_kind v_kind
  | _ => none
theorem y_check_wish_kind : ∀ (xs : List D) (z : D), M_check_wish_kind xs = some z → FD F_check_wish_kind xs = some z
  | [v_kind], z, e => fd_ofJ (xs := [v_kind]) rfl (Nat.le_of_ble_eq_true rfl) (by
      have j : JR Pd [.d v_kind] _ _ := (jr_end (env := [.d (v_kind)]) (jn_never (env := [.d (v_kind)]) (a := SS.never) (cbx (cb_test (ce_op oNin (ce_var 0 rfl) (fun _ => (ce_gtup [.str "swap", .str "twin"] [.str "swap", .str "twin"] rfl)))))))
      exact j) e
end D
end
section
set_option maxRecDepth 100000
set_option maxHeartbeats 1000000
namespace D
open PySem PySem.Spec PyProof.Rows L2 G N J
def Y_check_pair (v_orders : D) (v_kind : D) (v_first : D) (v_second : D) : Option (D) :=
  bd (Y_check_orders v_orders) fun t2 => bd (Y_check_wish_kind v_kind) fun t4 => bd (Y_check_table v_orders v_first) fun t6 => bd (Y_check_table v_orders v_second) fun t8 => some (.none)
def M_check_pair : List D → Option (D)
  | [v_orders, v_kind, v_first, v_second] => Y_check_pair v_orders v_kind v_first v_second
  | _ => none
theorem y_check_pair : ∀ (xs : List D) (z : D), M_check_pair xs = some z → FD F_check_pair xs = some z
  | [v_orders, v_kind, v_first, v_second], z, e => fd_ofJ (xs := [v_orders, v_kind, v_first, v_second]) rfl (Nat.le_of_ble_eq_true rfl) (by
      have j : JR Pd [.d v_orders, .d v_kind, .d v_first, .d v_second] _ _ := (jr_seq (env := [.d (v_orders), .d (v_kind), .d (v_first), .d (v_second)]) (jn_drop (env := [.d (v_orders), .d (v_kind), .d (v_first), .d (v_second)]) (ce_call M_check_orders y_check_orders (cl_cons (ce_var 0 rfl) fun _ => cl_nil))) (fun a1 => (jr_seq (env := [.d (v_orders), .d (v_kind), .d (v_first), .d (v_second)]) (jn_drop (env := [.d (v_orders), .d (v_kind), .d (v_first), .d (v_second)]) (ce_call M_check_wish_kind y_check_wish_kind (cl_cons (ce_var 1 rfl) fun _ => cl_nil))) (fun a3 => (jr_seq (env := [.d (v_orders), .d (v_kind), .d (v_first), .d (v_second)]) (jn_drop (env := [.d (v_orders), .d (v_kind), .d (v_first), .d (v_second)]) (ce_call M_check_table y_check_table (cl_cons (ce_var 0 rfl) fun _ => (cl_cons (ce_var 2 rfl) fun _ => cl_nil)))) (fun a5 => (jr_end (env := [.d (v_orders), .d (v_kind), .d (v_first), .d (v_second)]) (jn_drop (env := [.d (v_orders), .d (v_kind), .d (v_first), .d (v_second)]) (ce_call M_check_table y_check_table (cl_cons (ce_var 0 rfl) fun _ => (cl_cons (ce_var 3 rfl) fun _ => cl_nil)))))))))))
      exact j) e
end D
end
section
set_option maxRecDepth 100000
set_option maxHeartbeats 1000000
namespace D
open PySem PySem.Spec PyProof.Rows L2 G N J
def Y_how_many_pass_v3 (v_orders : D) (v_kind : D) (v_first : D) (v_second : D) : Option (D) :=
  bd (Y_check_pair v_orders v_kind v_first v_second) fun t2 => bd (Y_row_by v_orders v_kind v_first v_second) fun t4 => bd (Y_how_many_equal_v2 t4) fun t3 => some t3
def M_how_many_pass_v3 : List D → Option (D)
  | [v_orders, v_kind, v_first, v_second] => Y_how_many_pass_v3 v_orders v_kind v_first v_second
  | _ => none
theorem y_how_many_pass_v3 : ∀ (xs : List D) (z : D), M_how_many_pass_v3 xs = some z → FD F_how_many_pass_v3 xs = some z
  | [v_orders, v_kind, v_first, v_second], z, e => fd_ofJ (xs := [v_orders, v_kind, v_first, v_second]) rfl (Nat.le_of_ble_eq_true rfl) (by
      have j : JR Pd [.d v_orders, .d v_kind, .d v_first, .d v_second] _ _ := (jr_seq (env := [.d (v_orders), .d (v_kind), .d (v_first), .d (v_second)]) (jn_drop (env := [.d (v_orders), .d (v_kind), .d (v_first), .d (v_second)]) (ce_call M_check_pair y_check_pair (cl_cons (ce_var 0 rfl) fun _ => (cl_cons (ce_var 1 rfl) fun _ => (cl_cons (ce_var 2 rfl) fun _ => (cl_cons (ce_var 3 rfl) fun _ => cl_nil)))))) (fun a1 => (jr_of (env := [.d (v_orders), .d (v_kind), .d (v_first), .d (v_second)]) (jt_ret (env := [.d (v_orders), .d (v_kind), .d (v_first), .d (v_second)]) (ce_call M_how_many_equal_v2 y_how_many_equal_v2 (cl_cons (ce_call M_row_by y_row_by (cl_cons (ce_var 0 rfl) fun _ => (cl_cons (ce_var 1 rfl) fun _ => (cl_cons (ce_var 2 rfl) fun _ => (cl_cons (ce_var 3 rfl) fun _ => cl_nil))))) fun _ => cl_nil))))))
      exact j) e
end D
end
section
set_option maxRecDepth 100000
set_option maxHeartbeats 1000000
namespace D
open PySem PySem.Spec PyProof.Rows L2 G N J
def Y_passing_pairs_v4 (v_orders : D) (v_kind : D) (v_first : D) (v_second : D) : Option (D) :=
  bd (Y_check_pair v_orders v_kind v_first v_second) fun t2 => bd (Y_row_by v_orders v_kind v_first v_second) fun t4 => bd (Ym_equal_pairs_v2 t4) fun t3 => some (.list t3)
def M_passing_pairs_v4 : List D → Option (D)
  | [v_orders, v_kind, v_first, v_second] => Y_passing_pairs_v4 v_orders v_kind v_first v_second
  | _ => none
theorem y_passing_pairs_v4 : ∀ (xs : List D) (z : D), M_passing_pairs_v4 xs = some z → FD F_passing_pairs_v4 xs = some z
  | [v_orders, v_kind, v_first, v_second], z, e => fd_ofJ (xs := [v_orders, v_kind, v_first, v_second]) rfl (Nat.le_of_ble_eq_true rfl) (by
      have j : JR Pd [.d v_orders, .d v_kind, .d v_first, .d v_second] _ _ := (jr_seq (env := [.d (v_orders), .d (v_kind), .d (v_first), .d (v_second)]) (jn_drop (env := [.d (v_orders), .d (v_kind), .d (v_first), .d (v_second)]) (ce_call M_check_pair y_check_pair (cl_cons (ce_var 0 rfl) fun _ => (cl_cons (ce_var 1 rfl) fun _ => (cl_cons (ce_var 2 rfl) fun _ => (cl_cons (ce_var 3 rfl) fun _ => cl_nil)))))) (fun a1 => (jr_of (env := [.d (v_orders), .d (v_kind), .d (v_first), .d (v_second)]) (jt_retO (env := [.d (v_orders), .d (v_kind), .d (v_first), .d (v_second)]) (co_callM Mm_equal_pairs_v2 ym_equal_pairs_v2 (cl_cons (ce_call M_row_by y_row_by (cl_cons (ce_var 0 rfl) fun _ => (cl_cons (ce_var 1 rfl) fun _ => (cl_cons (ce_var 2 rfl) fun _ => (cl_cons (ce_var 3 rfl) fun _ => cl_nil))))) fun _ => cl_nil))))))
      exact j) e
def Ym_passing_pairs_v4 (v_orders : D) (v_kind : D) (v_first : D) (v_second : D) : Option (List D) :=
  bd (Y_check_pair v_orders v_kind v_first v_second) fun t2 => bd (Y_row_by v_orders v_kind v_first v_second) fun t4 => bd (Ym_equal_pairs_v2 t4) fun t3 => some t3
def Mm_passing_pairs_v4 : List D → Option (List D)
  | [v_orders, v_kind, v_first, v_second] => Ym_passing_pairs_v4 v_orders v_kind v_first v_second
  | _ => none
theorem ym_passing_pairs_v4 : ∀ (xs : List D) (z : List D), Mm_passing_pairs_v4 xs = some z → FM F_passing_pairs_v4 xs = some z
  | [v_orders, v_kind, v_first, v_second], z, e => fm_ofJ (xs := [v_orders, v_kind, v_first, v_second]) rfl (Nat.le_of_ble_eq_true rfl) (by
      have j : JR Pm [.d v_orders, .d v_kind, .d v_first, .d v_second] _ _ := (jr_seq (env := [.d (v_orders), .d (v_kind), .d (v_first), .d (v_second)]) (jn_drop (env := [.d (v_orders), .d (v_kind), .d (v_first), .d (v_second)]) (ce_call M_check_pair y_check_pair (cl_cons (ce_var 0 rfl) fun _ => (cl_cons (ce_var 1 rfl) fun _ => (cl_cons (ce_var 2 rfl) fun _ => (cl_cons (ce_var 3 rfl) fun _ => cl_nil)))))) (fun a1 => (jr_of (env := [.d (v_orders), .d (v_kind), .d (v_first), .d (v_second)]) (jt_retMO (env := [.d (v_orders), .d (v_kind), .d (v_first), .d (v_second)]) (co_callM Mm_equal_pairs_v2 ym_equal_pairs_v2 (cl_cons (ce_call M_row_by y_row_by (cl_cons (ce_var 0 rfl) fun _ => (cl_cons (ce_var 1 rfl) fun _ => (cl_cons (ce_var 2 rfl) fun _ => (cl_cons (ce_var 3 rfl) fun _ => cl_nil))))) fun _ => cl_nil))))))
      exact j) e
end D
end
section
set_option maxRecDepth 100000
set_option maxHeartbeats 4000000
namespace K29
open PySem PySem.Spec PyProof.Rows L2 G N J D Lin Y
variable {n : Nat} {os : List Int}
theorem ff : ¬ (false = true) := by decide
theorem neg3_loop : ∀ (r : List Int) (a t w : Int), Pos r → 1 ≤ w → w * prodR r ≤ 1000000 → ∃ a' w', foldD (fun x10 (s8 : D × D × D) => bd (bInt.f [s8.1]) fun t12 => bd (oMod.f t12 x10) fun t13 => bd (oSub.f x10 t13) fun t14 => bd (bInt.f [t14]) fun t15 => bd (oMod.f t15 x10) fun t16 => bd (oMul.f t16 s8.2.2) fun t17 => bd (oAdd.f s8.2.1 t17) fun t18 => bd (oFdiv.f s8.1 x10) fun t20 => bd (oMul.f s8.2.2 x10) fun t21 => some (t20, t18, t21)) (r.map .int) (.int a, .int t, .int w) = some (a', .int (t + w * linR r [] [a]), w')
  | [], a, t, w, _, _, _ => ⟨_, _, by
    show some (PyData.int a, PyData.int t, PyData.int w) = some (_, .int (t + w * 0), _)
    rw [Int.mul_zero, Int.add_zero]⟩
  | o :: r, a, t, w, h, hw, hp => by
    obtain ⟨a1, a2, a3, a4, a5⟩ := pr_le h.head h.tail hw hp
    have h2 := h.head
    have so : sm o = true := sm_lo (by omega) (by omega)
    have sw : sm w = true := sm_lo (by omega) (by omega)
    have o0 : 0 < o := by omega
    have sa : sm ((0 - a) % o) = true := sm_lo (mod_lo o0) (by have := mod_hi (a := 0 - a) o0; omega)
    obtain ⟨a', w', e⟩ := neg3_loop r (a / o) (t + (0 - a) % o * w) (w * o) h.tail a3 a5
    refine ⟨a', w', ?_⟩
    rw [List.map_cons, foldD]
    simp only [bInt_i, oMod_i o0, oSub_i, oAdd_i, oFdiv_i o0 so, bd_some, neg_mod, oMul_i sa sw, oMul_i sw so]
    rw [e]
    have z : t + (0 - a) % o * w + w * o * linR r [] [a / o] = t + w * linR (o :: r) [] [a] := by
      have d : linR (o :: r) [] [a] = (0 - a) % o + o * linR r [] [a / o] := by
        show (([] : List Int).sum - [a].sum) % o + o * linR r [] [a / o] = _
        simp
      rw [d, Int.mul_add, Int.mul_comm ((0 - a) % o), Int.mul_assoc w o, Int.add_assoc]
    rw [z]
theorem lneg3_y (h : Ords os) (a : Int) : Y_law_minus_v3 (os_ os) (.int a) = some (.int (lin os [] [a])) := by
  obtain ⟨a', w', e⟩ := neg3_loop os.reverse a 0 1 h.rev.1 (by omega) (by have := h.rev.2; omega)
  unfold Y_law_minus_v3 os_
  refine bd_of (un2_t _ _) (bd_of (rev_t _) (bd_of (seq_t _) ?_))
  rw [← List.map_reverse]
  refine bd_of e ?_
  rw [Int.zero_add, Int.one_mul]
  rfl
theorem lrow4_y (h : Ords os) (s : Bool) {a b : List Int} (ha : a.length ≤ 100000) : Y_law_row_v4 (os_ os) (kd s) (il a) (il b) = some (il (rowI os s a b)) := by
  unfold Y_law_row_v4
  cases s with
  | false =>
    have m : mapO (fun x6 => bd (un2 x6) fun u5 => bd (Y_law_added (os_ os) u5.1 u5.2) fun t8 => some t8) (zipD (a.map .int) (b.map .int)) = some ((rowI os false a b).map .int) := by
      rw [zipD_ints]
      unfold rowI
      rw [List.map_map]
      exact mapO_of (fun p : Int × Int => PyData.tuple [.int p.1, .int p.2]) _ fun p _ => bd_of (un2_t _ _) (bd_of (ladded_y h _ _) rfl)
    exact bd_of kd_tt (bd_of (boolD_b _) (Y.ite_t rfl (bd_of (zip_ll _ _) (bd_of (Y.ite_t (by rw [zipD_len, List.length_map]; omega) m) rfl))))
  | true =>
    have m : mapO (fun x12 => bd (un2 x12) fun u11 => bd (Y_law_minus_v3 (os_ os) u11.2) fun t15 => bd (Y_law_added (os_ os) u11.1 t15) fun t14 => some t14) (zipD (a.map .int) (b.map .int)) = some ((rowI os true a b).map .int) := by
      rw [zipD_ints]
      unfold rowI
      rw [List.map_map]
      refine mapO_of (fun p : Int × Int => PyData.tuple [.int p.1, .int p.2]) _ fun p _ => bd_of (un2_t _ _) (bd_of (lneg3_y h _) (bd_of (ladded_y h _ _) ?_))
      have z : lin os [p.1, lin os [] [p.2]] [] = lin os [p.1] [p.2] := by
        unfold lin
        rw [lin_perm (List.Perm.swap (linR os.reverse [] [p.2]) p.1 []) (.refl []), lin_in h.rev.1]
        rfl
      rw [z]
      rfl
    exact bd_of kd_st (bd_of (boolD_b _) (Y.ite_f ff (bd_of (zip_ll _ _) (bd_of (Y.ite_t (by rw [zipD_len, List.length_map]; omega) m) rfl))))
theorem chk_orders (h : Ords os) (ol : os.length ≤ 1000) : Y_check_orders (os_ os) = some .none := by
  unfold Y_check_orders
  exact bd_of (orders_y h ol) rfl
theorem chk_wk (s : Bool) : Y_check_wish_kind (kd s) = some .none := by cases s <;> kernel_rfl
theorem chk_table (h : Ords os) (sz : (n : Int) = prodR os) (hn : n ≤ 4000) {a : List Int} (A : IsP n a) : Y_check_table (os_ os) (il a) = some .none := by
  have so := size_y h
  rw [← sz] at so
  have e : Y_is_each_once (il a) (.int n) = some (.bool true) := by
    unfold il
    rw [each_y _ _ fun xs e => by cases e; rw [List.length_map, A.len]; exact hn, A.each]
  unfold Y_check_table
  exact bd_of so (bd_of e (bd_of (boolD_b _) (Y.ite_f (by decide) rfl)))
theorem chk_pair (h : Ords os) (ol : os.length ≤ 1000) (sz : (n : Int) = prodR os) (hn : n ≤ 4000) (s : Bool) {a b : List Int} (A : IsP n a) (B : IsP n b) : Y_check_pair (os_ os) (kd s) (il a) (il b) = some .none := by
  unfold Y_check_pair
  exact bd_of (chk_orders h ol) (bd_of (chk_wk s) (bd_of (chk_table h sz hn A) (bd_of (chk_table h sz hn B) rfl)))
theorem chk_row (h : Ords os) (sz : (n : Int) = prodR os) {r : List Int} (hl : r.length = n) (hn : n ≤ 4000) (hr : ∀ x ∈ r, 0 ≤ x ∧ x < n) : Y_check_row (os_ os) (il r) = some .none := by
  have so := size_y h
  rw [← sz] at so
  have b : rowB n (il r) = true := by
    show (decide (((r.map PyData.int).length : Int) = n) && (r.map PyData.int).all (below n)) = true
    rw [List.length_map, hl, decide_eq_true rfl, Bool.true_and, List.all_map]
    exact List.all_eq_true.mpr fun x hx => below_in (hr x hx)
  have e : Y_is_row_of (.int n) (il r) = some (.bool true) := by
    rw [row_of_y _ _ fun xs e => by cases e; rw [List.length_map]; omega, b]
  unfold Y_check_row
  exact bd_of so (bd_of e (bd_of (boolD_b _) (Y.ite_f (by decide) rfl)))
theorem passing_ym (h : Ords os) (ol : os.length ≤ 1000) (sz : (n : Int) = prodR os) (hn : n ≤ 900) (s : Bool) {a b : List Int} (A : IsP n a) (B : IsP n b) : Ym_passing_pairs_v4 (os_ os) (kd s) (il a) (il b) = some (prs n (eqQ (rowI os s a b))) := by
  have l : (rowI os s a b).length = n := by rw [rowI_len, A.len, B.len, Nat.min_self]
  have e := eqp_ym (r := rowI os s a b) (by omega)
  rw [l] at e
  unfold Ym_passing_pairs_v4
  exact bd_of (chk_pair h ol sz (by omega) s A B) (bd_of (row_by_y h s (by rw [A.len]; omega)) (bd_of e rfl))
theorem passing_y (h : Ords os) (ol : os.length ≤ 1000) (sz : (n : Int) = prodR os) (hn : n ≤ 900) (s : Bool) {a b : List Int} (A : IsP n a) (B : IsP n b) : Y_passing_pairs_v4 (os_ os) (kd s) (il a) (il b) = some (.list (prs n (eqQ (rowI os s a b)))) := by
  have l : (rowI os s a b).length = n := by rw [rowI_len, A.len, B.len, Nat.min_self]
  have e := eqp_ym (r := rowI os s a b) (by omega)
  rw [l] at e
  unfold Y_passing_pairs_v4
  exact bd_of (chk_pair h ol sz (by omega) s A B) (bd_of (row_by_y h s (by rw [A.len]; omega)) (bd_of e rfl))
theorem many_y (h : Ords os) (ol : os.length ≤ 1000) (sz : (n : Int) = prodR os) (hn : n ≤ 900) (s : Bool) {a b : List Int} (A : IsP n a) (B : IsP n b) : Y_how_many_pass_v3 (os_ os) (kd s) (il a) (il b) = some (.int (npr n (eqQ (rowI os s a b)) : Nat)) := by
  have l : (rowI os s a b).length = n := by rw [rowI_len, A.len, B.len, Nat.min_self]
  have e := hme_y (xs := rowI os s a b) (by omega)
  rw [l] at e
  unfold Y_how_many_pass_v3
  exact bd_of (chk_pair h ol sz (by omega) s A B) (bd_of (row_by_y h s (by rw [A.len]; omega)) (bd_of e rfl))
theorem prs_len (n : Nat) (q : Nat → Nat → Bool) : (prs n q).length = npr n q := by
  unfold prs npr
  rw [List.length_flatMap]
  congr 1
  refine List.map_congr_left fun i _ => ?_
  rw [List.length_map]
theorem rgD2_later {n i : Nat} (hn : n ≤ 1000000) (hi : i < n) : rgD2 (.int ((i : Int) + 1)) (.int n) = some (.list ((later n i).map fun (j : Nat) => .int j)) := by
  have := rg2_later hn hi
  show (if SE.rgOk ((i : Int) + 1) (n : Int) = true then some (PyData.list (SI.rng ((i : Int) + 1) n)) else none) = _
  have ok : SE.rgOk ((i : Int) + 1) (n : Int) = true := by
    unfold SE.rgOk
    first
      | (simp; omega)
      | (rw [big_ok (by omega) (by omega), big_ok (by omega) (by omega)]; simp; omega)
  rw [if_pos ok]
  have e : SI.rng ((i : Int) + 1) (n : Int) = (later n i).map fun (j : Nat) => PyData.int j := by
    unfold SI.rng later
    rw [List.map_map, show ((n : Int) - ((i : Int) + 1)).toNat = n - (i + 1) by omega]
    congr 1
  rw [e]
theorem pairs_loop {r : List Int} (hl : r.length ≤ 900) : ∀ (xs : List Nat) (acc : List D), (∀ i ∈ xs, i < r.length) → acc.length + xs.length * r.length ≤ 900000 →
    foldD (fun x8 s6 => bd (oAdd.f x8 (.int 1)) fun t10 => bd (bLen.f [il r]) fun t11 => bd (rgD2 t10 t11) fun t14 => bd (seqD t14) fun t16 => bd (if (t16).length ≤ 1000000 then lcF (fun x17 => bd (ixD (il r) x17) fun t19 => bd (ixD (il r) x8) fun t20 => bd (oEq.f t19 t20) fun t21 => bd (boolD t21) fun b22 => if b22 = true then some (some (.tuple [x8, x17])) else some none) t16 else none) fun ys23 => bd (oAdd.f s6 (.list ys23)) fun t24 => some (t24)) (xs.map fun (i : Nat) => PyData.int i) (.list acc) = some (.list (acc ++ xs.flatMap fun i => ((later r.length i).filter (eqQ r i)).map fun (j : Nat) => .tuple [.int i, .int j]))
  | [], acc, _, _ => by rw [List.flatMap_nil, List.append_nil]; rfl
  | i :: xs, acc, hi, hs => by
    rw [List.length_cons, Nat.succ_mul] at hs
    have i1 := hi i (List.mem_cons_self ..)
    have ll := later_len r.length i
    have lf := List.length_filter_le (eqQ r i) (later r.length i)
    have lc : lcF (fun x17 => bd (ixD (il r) x17) fun t19 => bd (ixD (il r) (.int (i : Nat))) fun t20 => bd (oEq.f t19 t20) fun t21 => bd (boolD t21) fun b22 => if b22 = true then some (some (.tuple [.int (i : Nat), x17])) else some none) ((later r.length i).map fun (j : Nat) => PyData.int j) = some (((later r.length i).filter (eqQ r i)).map fun (j : Nat) => .tuple [.int i, .int j]) :=
      lcF_of (fun (j : Nat) => PyData.int j) (eqQ r i) (fun (j : Nat) => PyData.tuple [.int i, .int j]) fun j hj => by
        obtain ⟨h1, h2⟩ := later_mem.mp hj
        have eq_ : oEq.f (.int (r.getD j 0)) (.int (r.getD i 0)) = some (.bool (eqQ r i j)) := by
          rw [oEq_f, eqD_if]
          congr 2
          exact decide_eq_decide.mpr eq_comm
        exact bd_of (at_nat h2) (bd_of (at_nat i1) (bd_of eq_ (bd_of (boolD_b _) (some_ite2 _ _))))
    rw [List.map_cons, foldD]
    refine bd_of (a := .list (acc ++ ((later r.length i).filter (eqQ r i)).map fun (j : Nat) => .tuple [.int i, .int j])) ?_ ?_
    · exact bd_of (oAdd_i _ _) (bd_of (len_il r) (bd_of (rgD2_later (by omega) i1) (bd_of (seq_l _) (bd_of (Y.ite_t (by rw [List.length_map]; omega) lc) (bd_of (by rw [oAdd_f, add_l (by rw [List.length_map]; omega)]) rfl)))))
    · rw [pairs_loop hl xs _ (fun j hj => hi j (List.mem_cons_of_mem _ hj)) (by rw [List.length_append, List.length_map]; omega), List.append_assoc, List.flatMap_cons]
theorem lpairs_y {r : List Int} (hl : r.length ≤ 900) : Y_law_pairs_v2 (il r) = some (.list (prs r.length (eqQ r))) := by
  have m : r.length * r.length ≤ 900 * 900 := Nat.mul_le_mul hl hl
  have e := pairs_loop hl (List.range r.length) [] (fun i hi => List.mem_range.mp hi) (by rw [List.length_range]; show 0 + _ ≤ _; omega)
  rw [List.nil_append] at e
  unfold Y_law_pairs_v2
  exact bd_of (len_il r) (bd_of (rg1_n (by omega)) (bd_of e rfl))
theorem val_mem : ∀ {kvs : List (Int × Int)}, (kvs.map Prod.fst).Nodup → ∀ p ∈ kvs, valI kvs p.1 = some p.2
  | [], _, p, hp => by cases hp
  | q :: kvs, nd, p, hp => by
    rw [List.map_cons] at nd
    obtain ⟨n1, n2⟩ := List.nodup_cons.mp nd
    rw [valI_cons]
    rcases List.mem_cons.mp hp with rfl | hp
    · rw [if_pos rfl]
    · rw [if_neg (fun e => n1 (by rw [e]; exact List.mem_map.mpr ⟨p, hp, rfl⟩))]
      exact val_mem n2 p hp
theorem keys_go : ∀ (ys : List Int) (kvs : List (Int × Int)), (kvs.map Prod.fst).Nodup → ∀ x ∈ (ys.foldl cntS kvs).map Prod.fst, x ∈ kvs.map Prod.fst ∨ x ∈ ys
  | [], kvs, _, x, hx => .inl hx
  | y :: ys, kvs, nd, x, hx => by
    have e : cntS kvs y = putR y ((valI kvs y).getD 0 + 1) kvs := by unfold cntS; rw [putI_R _ _ _ nd]
    rcases keys_go ys (cntS kvs y) (by rw [e]; exact putR_nd _ _ _ nd) x hx with h | h
    · rw [e] at h
      rcases putR_keys _ _ _ x h with rfl | h
      · exact .inr (List.mem_cons_self ..)
      · exact .inl h
    · exact .inr (List.mem_cons_of_mem _ h)
theorem keys_mem (r : List Int) (k : Int) : k ∈ (cnt r).map Prod.fst ↔ k ∈ r := by
  constructor
  · intro h
    rcases keys_go r [] (by simp) k h with h | h
    · cases h
    · exact h
  · intro h
    have v := (cnt_of r).val k
    have c : 0 < r.count k := List.count_pos_iff.mpr h
    cases q : valI (cnt r) k with
    | none =>
      rw [q] at v
      have v : (0 : Int) = (r.count k : Nat) := v
      omega
    | some z =>
      unfold valI at q
      cases q2 : (cnt r).find? fun p => decide (p.1 = k) with
      | none => rw [q2] at q; cases q
      | some p =>
        have h9 := List.find?_some q2
        have e : p.1 = k := of_decide_eq_true h9
        exact List.mem_map.mpr ⟨p, List.mem_of_find?_eq_some q2, e⟩
def cts (r : List Int) : List Int := (sortU r).map fun k => ((r.count k : Nat) : Int)
theorem vals_perm (r : List Int) : ((cnt r).map Prod.snd).Perm (cts r) := by
  have c := cnt_of r
  have e : (cnt r).map Prod.snd = ((cnt r).map Prod.fst).map fun k => ((r.count k : Nat) : Int) := by
    rw [List.map_map]
    refine List.map_congr_left fun p hp => ?_
    have v := c.val p.1
    rw [val_mem c.nd p hp] at v
    exact v
  rw [e]
  refine List.Perm.map _ ((List.perm_ext_iff_of_nodup c.nd ((sortU_lt r).imp fun q => Int.ne_of_lt q)).mpr fun k => ?_)
  rw [keys_mem, sortU_mem]
def szs (r : List Int) : List Int := (sortI (cts r)).reverse
theorem borne_y {r : List Int} (hl : r.length ≤ 1000000) : Y_sizes_borne_v2 (il r) = some (il (szs r)) := by
  have e : srtR (.list ((cnt r).map fun q => PyData.int q.2)) = some ((szs r).map .int) := by
    have m : ((cnt r).map fun q => PyData.int q.2) = ((cnt r).map Prod.snd).map .int := by rw [List.map_map]; rfl
    unfold srtR
    dsimp only
    rw [m, intsOf_map]
    dsimp only
    unfold szs
    rw [sort_perm (vals_perm r)]
  unfold Y_sizes_borne_v2
  exact bd_of (times_y hl) (bd_of e rfl)
theorem sizes_y (h : Ords os) (ol : os.length ≤ 1000) (sz : (n : Int) = prodR os) {r : List Int} (hl : r.length = n) (hn : n ≤ 4000) (hr : ∀ x ∈ r, 0 ≤ x ∧ x < n) : Y_sizes_of_v3 (os_ os) (il r) = some (il (szs r)) := by
  unfold Y_sizes_of_v3
  exact bd_of (chk_orders h ol) (bd_of (chk_row h sz hl hn hr) (bd_of (borne_y (by omega)) rfl))
theorem insU_len (x : Int) : ∀ ys : List Int, (insU x ys).length ≤ ys.length + 1
  | [] => by unfold insU; simp
  | y :: ys => by
    unfold insU
    split
    · simp
    · split
      · simp
      · have := insU_len x ys
        rw [List.length_cons, List.length_cons]
        omega
theorem sortU_len : ∀ xs : List Int, (sortU xs).length ≤ xs.length
  | [] => by unfold sortU; simp
  | x :: xs => by
    unfold sortU
    have := insU_len x (sortU xs)
    have := sortU_len xs
    rw [List.length_cons]
    omega
theorem lsizes_y {r : List Int} (hl : r.length < 64) : Y_law_sizes_v2 (il r) = some (il (szs r)) := by
  have l := sortU_len r
  have e1 : sortSetD (il r) = some (il (sortU r)) := by
    unfold il sortSetD
    dsimp only
    rw [intsOf_map]
    dsimp only
    rw [if_pos hl]
  have m : mapO (fun x3 => bd (countD (il r) x3) fun t5 => some t5) ((sortU r).map .int) = some ((cts r).map .int) := by
    unfold cts
    rw [List.map_map]
    refine mapO_of PyData.int _ fun k _ => bd_of (a := .int ((r.count k : Nat) : Int)) ?_ rfl
    unfold il countD
    dsimp only
    rw [intsOf_map]
  unfold Y_law_sizes_v2
  refine bd_of e1 (bd_of (seq_l _) (bd_of (Y.ite_t (by rw [List.length_map]; omega) m) (bd_of (sort_il _) (bd_of (disD_l _) ?_))))
  unfold szs il
  rw [List.map_reverse]
theorem cts_rng {r : List Int} : ∀ x ∈ cts r, 0 ≤ x ∧ x ≤ r.length := fun x hx => by
  obtain ⟨k, _, rfl⟩ := List.mem_map.mp hx
  have := List.count_le_length (a := k) (l := r)
  omega
theorem szs_rng {r : List Int} : ∀ x ∈ szs r, 0 ≤ x ∧ x ≤ r.length := fun x hx => by
  unfold szs at hx
  exact cts_rng x ((sortI_perm _).mem_iff.mp (List.mem_reverse.mp hx))
theorem szs_len {r : List Int} : (szs r).length ≤ r.length := by
  unfold szs
  rw [List.length_reverse, (sortI_perm _).length_eq]
  unfold cts
  rw [List.length_map]
  exact sortU_len r
def hlf (x : Int) : Int := x * (x - 1) / 2
theorem sum_permI {a b : List Int} (p : a.Perm b) : a.sum = b.sum := sum_perm p
theorem tot_szs (r : List Int) : ((szs r).map hlf).sum = (npr r.length (eqQ r) : Nat) := by
  have c := cnt_of r
  rw [← c.tot]
  have p : (szs r).Perm ((cnt r).map Prod.snd) := by
    unfold szs
    exact (List.reverse_perm _).trans ((sortI_perm _).trans (vals_perm r).symm)
  rw [sum_permI (p.map hlf), List.map_map]
  rfl
theorem halves_y {r : List Int} (hl : r.length ≤ 4000) {α : Type} (k : D → Option α) : (bd (seqD (il (szs r))) fun t42 => bd (if (t42).length ≤ 1000000 then mapO (fun x43 => bd (oSub.f x43 (.int 1)) fun t45 => bd (oMul.f x43 t45) fun t46 => bd (oFdiv.f t46 (.int 2)) fun t47 => some t47) t42 else none) fun ys48 => bd (bSum.f [(.list ys48)]) k) = k (.int (npr r.length (eqQ r) : Nat)) := by
  have l := szs_len (r := r)
  refine bd_of (seq_l _) (bd_of (a := ((szs r).map hlf).map .int) (Y.ite_t (by rw [List.length_map]; omega) ?_) (bd_of (a := .int (npr r.length (eqQ r) : Nat)) ?_ rfl))
  · rw [List.map_map]
    refine mapO_of PyData.int _ fun x hx => ?_
    obtain ⟨h0, h1⟩ := szs_rng x hx
    have s1 : sm x = true := sm_60 (by omega) (by omega)
    have s2 : sm (x - 1) = true := sm_60 (by omega) (by omega)
    exact bd_of (oSub_i _ _) (bd_of (oMul_i s1 s2) (bd_of (oFdiv_i (by decide) (by decide)) rfl))
  · show (intsOf (((szs r).map hlf).map .int)).map _ = _
    rw [intsOf_map]
    show some (PyData.int ((szs r).map hlf).sum) = _
    rw [tot_szs]
end K29
end
section
set_option maxRecDepth 100000
set_option maxHeartbeats 1000000
namespace D
open PySem PySem.Spec PyProof.Rows L2 G N J
def Yg_law_sort (v_generator : List D) : Option (D × List D) :=
  bd (Yg_law_random v_generator (.int 2)) fun t1 => bd (ixD (.list [(.str "swap"), (.str "twin")]) t1.1) fun t2 => some (t2, t1.2)
def Mg_law_sort (v_generator : List D) : List D → Option (D × List D)
  | [] => Yg_law_sort v_generator
  | _ => none
theorem yg_law_sort : ∀ (g xs : List D) (z : D × List D), Mg_law_sort g xs = some z → FG F_law_sort g xs = some z
  | v_generator, [], z, e => fg_ofJ (g := v_generator) (xs := []) rfl (Nat.le_of_ble_eq_true rfl) (by
      have j : JR Pg [.o v_generator] _ _ := (jr_of (env := [.o (v_generator)]) (jt_retG (env := [.o (v_generator)]) (ce_ix (ce_lst (cl_cons (ce_str "swap") fun _ => (cl_cons (ce_str "twin") fun _ => cl_nil)) fun _ => Nat.le_of_ble_eq_true rfl) (fun _ => (ce_callG Mg_law_random yg_law_random 0 rfl (cl_cons (ce_int 2) fun _ => cl_nil) (fun _ => rfl)))) (fun _ => rfl)))
      exact j) e
end D
end
section
set_option maxRecDepth 100000
set_option maxHeartbeats 1000000
namespace D
open PySem PySem.Spec PyProof.Rows L2 G N J
def Yg_law_right_v224 (v_generator : List D) : Option (D × List D) :=
  bd (Yg_law_group_v6 v_generator (.int 12)) fun t2 => bd (Yg_law_sort t2.2) fun t3 => bd (Yg_law_table_v3 t3.2 t2.1) fun t5 => bd (Yg_law_random t5.2 (.int 4)) fun t7 => bd (oGt.f t7.1 (.int 0)) fun t8 => bd (boolD t8) fun b9 => bd (if b9 = true then bd (Yg_law_table_v3 t7.2 t2.1) fun t13 => some (t13.1, (t13.2)) else bd (bList.f [t5.1]) fun t14 => some (t14, (t7.2))) fun t15 => bd (Y_law_row_v4 t2.1 t3.1 t5.1 t15.1) fun t18 => bd (bRepr.f [(.list [t5.1, t15.1, t18])]) fun t20 => bd (Y_law_pairs_v2 t18) fun t22 => bd (Ym_passing_pairs_v4 t2.1 t3.1 t5.1 t15.1) fun t23 => bd (atmO (bRepr.f [(.list t23)])) fun t24 => bd (bRepr.f [t22]) fun t25 => bd (oNe.f t24 t25) fun t26 => bd (boolD t26) fun b27 => bd (if b27 = true then some true else bd (Y_sizes_of_v3 t2.1 t18) fun t30 => bd (bRepr.f [t30]) fun t31 => bd (Y_law_sizes_v2 t18) fun t32 => bd (bRepr.f [t32]) fun t33 => bd (oNe.f t31 t33) fun t34 => bd (boolD t34) fun b35 => some b35) fun b36 => if b36 = true then some ((.bool false), t15.2) else bd (appD t23 (.int 7)) fun t39 => bd (bLen.f [t22]) fun t40 => bd (Y_law_sizes_v2 t18) fun t41 => bd (seqD t41) fun t42 => bd (if (t42).length ≤ 1000000 then mapO (fun x43 => bd (oSub.f x43 (.int 1)) fun t45 => bd (oMul.f x43 t45) fun t46 => bd (oFdiv.f t46 (.int 2)) fun t47 => some t47) t42 else none) fun ys48 => bd (bSum.f [(.list ys48)]) fun t49 => bd (oNe.f t40 t49) fun t50 => bd (boolD t50) fun b51 => if b51 = true then some ((.bool false), t15.2) else bd (Y_passing_pairs_v4 t2.1 t3.1 t5.1 t15.1) fun t54 => bd (Y_how_many_pass_v3 t2.1 t3.1 t5.1 t15.1) fun t56 => bd (oAdd.f (.list [t54]) (.list [t56])) fun t57 => bd (disD t57) fun t58 => bd (Y_how_many_pass_v3 t2.1 t3.1 t5.1 t15.1) fun t60 => bd (oAdd.f (.list t58) (.list [t60])) fun t61 => bd (disD t61) fun t62 => bd (atmO (bRepr.f [(.list t62)])) fun t63 => bd (bLen.f [t22]) fun t64 => bd (bLen.f [t22]) fun t65 => bd (bRepr.f [(.list [t22, t64, t65])]) fun t66 => bd (oEq.f t63 t66) fun t67 => bd (boolD t67) fun t72 => bd (if t72 = true then bd (bRepr.f [(.list [t5.1, t15.1, t18])]) fun t70 => bd (oEq.f t70 t20) fun t71 => some t71 else some (.bool false)) fun t73 => some (t73, t15.2)
def Mg_law_right_v224 (v_generator : List D) : List D → Option (D × List D)
  | [] => Yg_law_right_v224 v_generator
  | _ => none
theorem yg_law_right_v224 : ∀ (g xs : List D) (z : D × List D), Mg_law_right_v224 g xs = some z → FG F_law_right_v224 g xs = some z
  | v_generator, [], z, e => fg_ofJ (g := v_generator) (xs := []) rfl (Nat.le_of_ble_eq_true rfl) (by
      have j : JR Pg [.o v_generator, .no, .no, .no, .no, .no, .no, .no, .no, .no] _ _ := (jr_seq (env := [.o (v_generator), .no, .no, .no, .no, .no, .no, .no, .no, .no]) (jn_par (env := [.o (v_generator), .no, .no, .no, .no, .no, .no, .no, .no, .no]) 1 2 (Nat.ne_of_beq_eq_false rfl) (Nat.ne_of_beq_eq_false rfl) (cx_d (ce_callG Mg_law_group_v6 yg_law_group_v6 0 rfl (cl_cons (ce_int 12) fun _ => cl_nil) (fun _ => rfl))) (fun _ => (cx_d (ce_callG Mg_law_sort yg_law_sort 0 rfl cl_nil (fun _ => rfl)))) (fun _ _ => (Nat.lt_of_sub_pos (Nat.le_of_ble_eq_true rfl))) (fun _ _ => (Nat.lt_of_sub_pos (Nat.le_of_ble_eq_true rfl)))) (fun a1 => (jr_seq (env := [.o (a1.2.2.2), .d (a1.1.2.1), .d (a1.2.2.1), .no, .no, .no, .no, .no, .no, .no]) (jn_set (env := [.o (a1.2.2.2), .d (a1.1.2.1), .d (a1.2.2.1), .no, .no, .no, .no, .no, .no, .no]) 3 (ce_callG Mg_law_table_v3 yg_law_table_v3 0 rfl (cl_cons (ce_var 1 rfl) fun _ => cl_nil) (fun _ => rfl)) fun _ => (Nat.lt_of_sub_pos (Nat.le_of_ble_eq_true rfl))) (fun a4 => (jr_seq (env := [.o (a4.2.2), .d (a1.1.2.1), .d (a1.2.2.1), .d (a4.2.1), .no, .no, .no, .no, .no, .no]) (jn_set (env := [.o (a4.2.2), .d (a1.1.2.1), .d (a1.2.2.1), .d (a4.2.1), .no, .no, .no, .no, .no, .no]) 4 (ce_ifxJ (δ := List D) (E' := (fun s16 => [.o (s16), .d (a1.1.2.1), .d (a1.2.2.1), .d (a4.2.1), .no, .no, .no, .no, .no, .no])) (g0 := fun q10 q11 => (q11.2.2)) (g1 := fun q10 q12 => (q10.1.1.2.2)) (cb_test (ce_op oGt (ce_callG Mg_law_random yg_law_random 0 rfl (cl_cons (ce_int 4) fun _ => cl_nil) (fun _ => rfl)) (fun _ => (ce_int 0)))) (fun q10 => (ce_callG Mg_law_table_v3 yg_law_table_v3 0 rfl (cl_cons (ce_var 1 rfl) fun _ => cl_nil) (fun _ => rfl))) (fun q10 => (ce_cb bList (cl_cons (ce_var 3 rfl) fun _ => cl_nil))) (by exact fun q10 q11 => (Wk.kp (Wk.kp (Wk.kp (Wk.kp (Wk.kp (Wk.kp (Wk.kp (Wk.kp (Wk.kp (Wk.kp Wk.nil))))))))))) (by exact fun q10 q12 => (Wk.kp (Wk.kp (Wk.kp (Wk.kp (Wk.kp (Wk.kp (Wk.kp (Wk.kp (Wk.kp (Wk.kp Wk.nil)))))))))))) fun _ => (Nat.lt_of_sub_pos (Nat.le_of_ble_eq_true rfl))) (fun a6 => (jr_seq (env := [.o (a6.2.2), .d (a1.1.2.1), .d (a1.2.2.1), .d (a4.2.1), .d (a6.2.1), .no, .no, .no, .no, .no]) (jn_set (env := [.o (a6.2.2), .d (a1.1.2.1), .d (a1.2.2.1), .d (a4.2.1), .d (a6.2.1), .no, .no, .no, .no, .no]) 5 (ce_call M_law_row_v4 y_law_row_v4 (cl_cons (ce_var 1 rfl) fun _ => (cl_cons (ce_var 2 rfl) fun _ => (cl_cons (ce_var 3 rfl) fun _ => (cl_cons (ce_var 4 rfl) fun _ => cl_nil))))) fun _ => (Nat.lt_of_sub_pos (Nat.le_of_ble_eq_true rfl))) (fun a17 => (jr_seq (env := [.o (a6.2.2), .d (a1.1.2.1), .d (a1.2.2.1), .d (a4.2.1), .d (a6.2.1), .d (a17.2), .no, .no, .no, .no]) (jn_set (env := [.o (a6.2.2), .d (a1.1.2.1), .d (a1.2.2.1), .d (a4.2.1), .d (a6.2.1), .d (a17.2), .no, .no, .no, .no]) 6 (ce_cb bRepr (cl_cons (ce_lst (cl_cons (ce_var 3 rfl) fun _ => (cl_cons (ce_var 4 rfl) fun _ => (cl_cons (ce_var 5 rfl) fun _ => cl_nil))) fun _ => Nat.le_of_ble_eq_true rfl) fun _ => cl_nil)) fun _ => (Nat.lt_of_sub_pos (Nat.le_of_ble_eq_true rfl))) (fun a19 => (jr_seq (env := [.o (a6.2.2), .d (a1.1.2.1), .d (a1.2.2.1), .d (a4.2.1), .d (a6.2.1), .d (a17.2), .d (a19.2), .no, .no, .no]) (jn_par (env := [.o (a6.2.2), .d (a1.1.2.1), .d (a1.2.2.1), .d (a4.2.1), .d (a6.2.1), .d (a17.2), .d (a19.2), .no, .no, .no]) 7 8 (Nat.ne_of_beq_eq_false rfl) (Nat.ne_of_beq_eq_false rfl) (cx_d (ce_call M_law_pairs_v2 y_law_pairs_v2 (cl_cons (ce_var 5 rfl) fun _ => cl_nil))) (fun _ => (cx_o (co_callM Mm_passing_pairs_v4 ym_passing_pairs_v4 (cl_cons (ce_var 1 rfl) fun _ => (cl_cons (ce_var 2 rfl) fun _ => (cl_cons (ce_var 3 rfl) fun _ => (cl_cons (ce_var 4 rfl) fun _ => cl_nil))))))) (fun _ _ => (Nat.lt_of_sub_pos (Nat.le_of_ble_eq_true rfl))) (fun _ _ => (Nat.lt_of_sub_pos (Nat.le_of_ble_eq_true rfl)))) (fun a21 => (jr_if (env := [.o (a6.2.2), .d (a1.1.2.1), .d (a1.2.2.1), .d (a4.2.1), .d (a6.2.1), .d (a17.2), .d (a19.2), .d (a21.1.2), .o (a21.2.2), .no]) (cbx (cb_or (cb_test (ce_op oNe (ce_cbA bRepr (cla_cons (ca_b 8 rfl) fun _ => cla_nil) (fun _ => rfl)) (fun _ => (ce_cb bRepr (cl_cons (ce_var 7 rfl) fun _ => cl_nil))))) fun q28 => (cb_test (ce_op oNe (ce_cb bRepr (cl_cons (ce_call M_sizes_of_v3 y_sizes_of_v3 (cl_cons (ce_var 1 rfl) fun _ => (cl_cons (ce_var 5 rfl) fun _ => cl_nil))) fun _ => cl_nil)) (fun _ => (ce_cb bRepr (cl_cons (ce_call M_law_sizes_v2 y_law_sizes_v2 (cl_cons (ce_var 5 rfl) fun _ => cl_nil)) fun _ => cl_nil))))))) (fun a37 => (jt_retG (env := [.o (a6.2.2), .d (a1.1.2.1), .d (a1.2.2.1), .d (a4.2.1), .d (a6.2.1), .d (a17.2), .d (a19.2), .d (a21.1.2), .o (a21.2.2), .no]) (ce_bl false) (fun _ => rfl))) (fun a37 => (jr_seq (env := [.o (a6.2.2), .d (a1.1.2.1), .d (a1.2.2.1), .d (a4.2.1), .d (a6.2.1), .d (a17.2), .d (a19.2), .d (a21.1.2), .o (a21.2.2), .no]) (jn_drop (env := [.o (a6.2.2), .d (a1.1.2.1), .d (a1.2.2.1), .d (a4.2.1), .d (a6.2.1), .d (a17.2), .d (a19.2), .d (a21.1.2), .o (a21.2.2), .no]) (ce_app 8 rfl (ce_int 7) (fun _ => rfl))) (fun a38 => (jr_if (env := [.o (a6.2.2), .d (a1.1.2.1), .d (a1.2.2.1), .d (a4.2.1), .d (a6.2.1), .d (a17.2), .d (a19.2), .d (a21.1.2), .o (a38.2), .no]) (cbx (cb_test (ce_op oNe (ce_cb bLen (cl_cons (ce_var 7 rfl) fun _ => cl_nil)) (fun _ => (ce_cb bSum (cl_cons (ce_lcY (ci_seq (ce_call M_law_sizes_v2 y_law_sizes_v2 (cl_cons (ce_var 5 rfl) fun _ => cl_nil))) (fun _ => (ct_name 9 (Nat.lt_of_sub_pos (Nat.le_of_ble_eq_true rfl)))) fun _ a44 => (ce_op oFdiv (ce_op oMul (ce_var 9 rfl) (fun _ => (ce_op oSub (ce_var 9 rfl) (fun _ => (ce_int 1))))) (fun _ => (ce_int 2)))) fun _ => cl_nil)))))) (fun a52 => (jt_retG (env := [.o (a6.2.2), .d (a1.1.2.1), .d (a1.2.2.1), .d (a4.2.1), .d (a6.2.1), .d (a17.2), .d (a19.2), .d (a21.1.2), .o (a38.2), .no]) (ce_bl false) (fun _ => rfl))) (fun a52 => (jr_seq (env := [.o (a6.2.2), .d (a1.1.2.1), .d (a1.2.2.1), .d (a4.2.1), .d (a6.2.1), .d (a17.2), .d (a19.2), .d (a21.1.2), .o (a38.2), .no]) (jn_seto (env := [.o (a6.2.2), .d (a1.1.2.1), .d (a1.2.2.1), .d (a4.2.1), .d (a6.2.1), .d (a17.2), .d (a19.2), .d (a21.1.2), .o (a38.2), .no]) 8 (Nat.ne_of_beq_eq_false rfl) (co_lst (cl_cons (ce_callK M_passing_pairs_v4 [3, 2, 1, 0] y_passing_pairs_v4 (cl_cons (ce_var 4 rfl) fun _ => (cl_cons (ce_var 3 rfl) fun _ => (cl_cons (ce_var 2 rfl) fun _ => (cl_cons (ce_var 1 rfl) fun _ => cl_nil)))) (fun _ => rfl)) fun _ => cl_nil) fun _ => Nat.le_of_ble_eq_true rfl)) (fun a53 => (jr_seq (env := [.o (a6.2.2), .d (a1.1.2.1), .d (a1.2.2.1), .d (a4.2.1), .d (a6.2.1), .d (a17.2), .d (a19.2), .d (a21.1.2), .o ([a53.1.2]), .no]) (jn_seto (env := [.o (a6.2.2), .d (a1.1.2.1), .d (a1.2.2.1), .d (a4.2.1), .d (a6.2.1), .d (a17.2), .d (a19.2), .d (a21.1.2), .o ([a53.1.2]), .no]) 8 (Nat.ne_of_beq_eq_false rfl) (co_add (ce_frz 8 rfl) fun _ => (ce_lst (cl_cons (ce_call M_how_many_pass_v3 y_how_many_pass_v3 (cl_cons (ce_var 1 rfl) fun _ => (cl_cons (ce_var 2 rfl) fun _ => (cl_cons (ce_var 3 rfl) fun _ => (cl_cons (ce_var 4 rfl) fun _ => cl_nil))))) fun _ => cl_nil) fun _ => Nat.le_of_ble_eq_true rfl))) (fun a55 => (jr_seq (env := [.o (a6.2.2), .d (a1.1.2.1), .d (a1.2.2.1), .d (a4.2.1), .d (a6.2.1), .d (a17.2), .d (a19.2), .d (a21.1.2), .o (a55.2.2), .no]) (jn_seto (env := [.o (a6.2.2), .d (a1.1.2.1), .d (a1.2.2.1), .d (a4.2.1), .d (a6.2.1), .d (a17.2), .d (a19.2), .d (a21.1.2), .o (a55.2.2), .no]) 8 (Nat.ne_of_beq_eq_false rfl) (co_add (ce_frz 8 rfl) fun _ => (ce_lst (cl_cons (ce_callK M_how_many_pass_v3 [3, 2, 1, 0] y_how_many_pass_v3 (cl_cons (ce_var 4 rfl) fun _ => (cl_cons (ce_var 3 rfl) fun _ => (cl_cons (ce_var 2 rfl) fun _ => (cl_cons (ce_var 1 rfl) fun _ => cl_nil)))) (fun _ => rfl)) fun _ => cl_nil) fun _ => Nat.le_of_ble_eq_true rfl))) (fun a59 => (jr_of (env := [.o (a6.2.2), .d (a1.1.2.1), .d (a1.2.2.1), .d (a4.2.1), .d (a6.2.1), .d (a17.2), .d (a19.2), .d (a21.1.2), .o (a59.2.2), .no]) (jt_retG (env := [.o (a6.2.2), .d (a1.1.2.1), .d (a1.2.2.1), .d (a4.2.1), .d (a6.2.1), .d (a17.2), .d (a19.2), .d (a21.1.2), .o (a59.2.2), .no]) (ce_andV (ce_op oEq (ce_cbA bRepr (cla_cons (ca_b 8 rfl) fun _ => cla_nil) (fun _ => rfl)) (fun _ => (ce_cb bRepr (cl_cons (ce_lst (cl_cons (ce_var 7 rfl) fun _ => (cl_cons (ce_cb bLen (cl_cons (ce_var 7 rfl) fun _ => cl_nil)) fun _ => (cl_cons (ce_cb bLen (cl_cons (ce_var 7 rfl) fun _ => cl_nil)) fun _ => cl_nil))) fun _ => Nat.le_of_ble_eq_true rfl) fun _ => cl_nil)))) fun q68 => (ce_op oEq (ce_cb bRepr (cl_cons (ce_lst (cl_cons (ce_var 3 rfl) fun _ => (cl_cons (ce_var 4 rfl) fun _ => (cl_cons (ce_var 5 rfl) fun _ => cl_nil))) fun _ => Nat.le_of_ble_eq_true rfl) fun _ => cl_nil)) (fun _ => (ce_var 6 rfl)))) (fun _ => rfl)))))))))))))))))))))))))))
      exact j) e
end D
end
section
set_option maxRecDepth 100000
set_option maxHeartbeats 1000000
namespace D
open PySem PySem.Spec PyProof.Rows L2 G N J
def Y_law_v346 (v_script : D) : Option (D) :=
  bd (bd (rgI1 [(.int 4)]) fun t1 => forC (fun x5 s3 => bd (Ym_law_generator v_script x5) fun t7 => bd (Yg_law_right_v224 t7) fun t6 => bd (boolD t6.1) fun b8 => if (!b8) = true then bd (some (.bool false)) fun z => some (.rt z) else some (.nx ())) t1 ()) fun o => ctr o fun s12 => bd (Y_passing_pairs_v4 (.tuple [(.int 3)]) (.str "swap") (.list [(.int 0), (.int 1), (.int 2)]) (.list [(.int 0), (.int 1), (.int 2)])) fun t14 => bd (Y_how_many_pass_v3 (.tuple [(.int 3)]) (.str "twin") (.list [(.int 0), (.int 1), (.int 2)]) (.list [(.int 0), (.int 1), (.int 2)])) fun t15 => bd (Y_how_many_pass_v3 (.tuple [(.int 2), (.int 2)]) (.str "swap") (.list [(.int 0), (.int 1), (.int 2), (.int 3)]) (.list [(.int 0), (.int 1), (.int 2), (.int 3)])) fun t17 => bd (oAdd.f (.list [t14, t15]) (.list [t17])) fun t18 => bd (Y_how_many_pass_v3 (.tuple [(.int 2), (.int 2)]) (.str "twin") (.list [(.int 0), (.int 1), (.int 2), (.int 3)]) (.list [(.int 3), (.int 2), (.int 1), (.int 0)])) fun t20 => bd (oAdd.f t18 (.list [t20])) fun t21 => bd (bRepr.f [t21]) fun t22 => bd (bRepr.f [(.list [(.list [(.tuple [(.int 0), (.int 1)]), (.tuple [(.int 0), (.int 2)]), (.tuple [(.int 1), (.int 2)])]), (.int 0), (.int 6), (.int 6)])]) fun t23 => bd (oEq.f t22 t23) fun t24 => some t24
def M_law_v346 : List D → Option (D)
  | [v_script] => Y_law_v346 v_script
  | _ => none
theorem y_law_v346 : ∀ (xs : List D) (z : D), M_law_v346 xs = some z → FD F_law_v346 xs = some z
  | [v_script], z, e => fd_ofJ (xs := [v_script]) rfl (Nat.le_of_ble_eq_true rfl) (by
      have j : JR Pd [.d v_script, .no, .no] _ _ := (jr_seqC (env := [.d (v_script), .no, .no]) (EB := fun e => e.elim) (jc_for (σ := Unit) (E := fun s3 => [.d (v_script), .no, .no]) (ci_rng1 (cl_cons (ce_int 4) fun _ => cl_nil)) (fun a2 => ()) (fun _ => (Wk.kp (Wk.kp (Wk.kp Wk.nil)))) (fun s3 => (ct_name 1 (Nat.lt_of_sub_pos (Nat.le_of_ble_eq_true rfl)))) (fun s3 a4 => (jc_ite (env := [.d (v_script), .d (a4), .no]) (cbx (cb_not (cb_val (ce_callGt Mg_law_right_v224 yg_law_right_v224 (co_callM Mm_law_generator ym_law_generator (cl_cons (ce_var 0 rfl) fun _ => (cl_cons (ce_var 1 rfl) fun _ => cl_nil))) fun _ => cl_nil)))) (fun a9 => (jc_rt (env := [.d (v_script), .d (a4), .no]) (jt_ret (env := [.d (v_script), .d (a4), .no]) (ce_bl false)))) (fun a9 => (jc_nx (env := [.d (v_script), .d (a4), .no]) jn_nil (fun _ => ()) (fun _ => (Wk.kp (Wk.no (Wk.kp Wk.nil))))))))) (fun a11 => (jr_seq (env := [.d (v_script), .no, .no]) (jn_set (env := [.d (v_script), .no, .no]) 2 (ce_lst (cl_cons (ce_call M_passing_pairs_v4 y_passing_pairs_v4 (cl_cons (ce_tup (cl_cons (ce_int 3) fun _ => cl_nil) fun _ => Nat.le_of_ble_eq_true rfl) fun _ => (cl_cons (ce_str "swap") fun _ => (cl_cons (ce_lst (cl_cons (ce_int 0) fun _ => (cl_cons (ce_int 1) fun _ => (cl_cons (ce_int 2) fun _ => cl_nil))) fun _ => Nat.le_of_ble_eq_true rfl) fun _ => (cl_cons (ce_lst (cl_cons (ce_int 0) fun _ => (cl_cons (ce_int 1) fun _ => (cl_cons (ce_int 2) fun _ => cl_nil))) fun _ => Nat.le_of_ble_eq_true rfl) fun _ => cl_nil))))) fun _ => (cl_cons (ce_call M_how_many_pass_v3 y_how_many_pass_v3 (cl_cons (ce_tup (cl_cons (ce_int 3) fun _ => cl_nil) fun _ => Nat.le_of_ble_eq_true rfl) fun _ => (cl_cons (ce_str "twin") fun _ => (cl_cons (ce_lst (cl_cons (ce_int 0) fun _ => (cl_cons (ce_int 1) fun _ => (cl_cons (ce_int 2) fun _ => cl_nil))) fun _ => Nat.le_of_ble_eq_true rfl) fun _ => (cl_cons (ce_lst (cl_cons (ce_int 0) fun _ => (cl_cons (ce_int 1) fun _ => (cl_cons (ce_int 2) fun _ => cl_nil))) fun _ => Nat.le_of_ble_eq_true rfl) fun _ => cl_nil))))) fun _ => cl_nil)) fun _ => Nat.le_of_ble_eq_true rfl) fun _ => (Nat.lt_of_sub_pos (Nat.le_of_ble_eq_true rfl))) (fun a13 => (jr_seq (env := [.d (v_script), .no, .d ((.list [a13.1.2, a13.2.1.2]))]) (jn_set (env := [.d (v_script), .no, .d ((.list [a13.1.2, a13.2.1.2]))]) 2 (ce_op oAdd (ce_var 2 rfl) (fun _ => (ce_lst (cl_cons (ce_call M_how_many_pass_v3 y_how_many_pass_v3 (cl_cons (ce_tup (cl_cons (ce_int 2) fun _ => (cl_cons (ce_int 2) fun _ => cl_nil)) fun _ => Nat.le_of_ble_eq_true rfl) fun _ => (cl_cons (ce_str "swap") fun _ => (cl_cons (ce_lst (cl_cons (ce_int 0) fun _ => (cl_cons (ce_int 1) fun _ => (cl_cons (ce_int 2) fun _ => (cl_cons (ce_int 3) fun _ => cl_nil)))) fun _ => Nat.le_of_ble_eq_true rfl) fun _ => (cl_cons (ce_lst (cl_cons (ce_int 0) fun _ => (cl_cons (ce_int 1) fun _ => (cl_cons (ce_int 2) fun _ => (cl_cons (ce_int 3) fun _ => cl_nil)))) fun _ => Nat.le_of_ble_eq_true rfl) fun _ => cl_nil))))) fun _ => cl_nil) fun _ => Nat.le_of_ble_eq_true rfl))) fun _ => (Nat.lt_of_sub_pos (Nat.le_of_ble_eq_true rfl))) (fun a16 => (jr_seq (env := [.d (v_script), .no, .d (a16.2.2)]) (jn_set (env := [.d (v_script), .no, .d (a16.2.2)]) 2 (ce_op oAdd (ce_var 2 rfl) (fun _ => (ce_lst (cl_cons (ce_call M_how_many_pass_v3 y_how_many_pass_v3 (cl_cons (ce_tup (cl_cons (ce_int 2) fun _ => (cl_cons (ce_int 2) fun _ => cl_nil)) fun _ => Nat.le_of_ble_eq_true rfl) fun _ => (cl_cons (ce_str "twin") fun _ => (cl_cons (ce_lst (cl_cons (ce_int 0) fun _ => (cl_cons (ce_int 1) fun _ => (cl_cons (ce_int 2) fun _ => (cl_cons (ce_int 3) fun _ => cl_nil)))) fun _ => Nat.le_of_ble_eq_true rfl) fun _ => (cl_cons (ce_lst (cl_cons (ce_int 3) fun _ => (cl_cons (ce_int 2) fun _ => (cl_cons (ce_int 1) fun _ => (cl_cons (ce_int 0) fun _ => cl_nil)))) fun _ => Nat.le_of_ble_eq_true rfl) fun _ => cl_nil))))) fun _ => cl_nil) fun _ => Nat.le_of_ble_eq_true rfl))) fun _ => (Nat.lt_of_sub_pos (Nat.le_of_ble_eq_true rfl))) (fun a19 => (jr_of (env := [.d (v_script), .no, .d (a19.2.2)]) (jt_ret (env := [.d (v_script), .no, .d (a19.2.2)]) (ce_op oEq (ce_cb bRepr (cl_cons (ce_var 2 rfl) fun _ => cl_nil)) (fun _ => (ce_cb bRepr (cl_cons (ce_lst (cl_cons (ce_lst (cl_cons (ce_tup (cl_cons (ce_int 0) fun _ => (cl_cons (ce_int 1) fun _ => cl_nil)) fun _ => Nat.le_of_ble_eq_true rfl) fun _ => (cl_cons (ce_tup (cl_cons (ce_int 0) fun _ => (cl_cons (ce_int 2) fun _ => cl_nil)) fun _ => Nat.le_of_ble_eq_true rfl) fun _ => (cl_cons (ce_tup (cl_cons (ce_int 1) fun _ => (cl_cons (ce_int 2) fun _ => cl_nil)) fun _ => Nat.le_of_ble_eq_true rfl) fun _ => cl_nil))) fun _ => Nat.le_of_ble_eq_true rfl) fun _ => (cl_cons (ce_int 0) fun _ => (cl_cons (ce_int 6) fun _ => (cl_cons (ce_int 6) fun _ => cl_nil)))) fun _ => Nat.le_of_ble_eq_true rfl) fun _ => cl_nil))))))))))))))
      exact j) e
end D
end
section
set_option maxRecDepth 100000
set_option maxHeartbeats 0
end
section
set_option maxRecDepth 100000
set_option maxHeartbeats 4000000
namespace K29
open PySem PySem.Spec PyProof.Rows L2 G N J D Lin Y
variable {n : Nat} {os : List Int}
theorem sort_drawn {k : Nat} {es : List D} (g : Gn k es) (hk : k ≤ 9999999) : ∃ s es', Yg_law_sort es = some (kd s, es') ∧ Gn (k + 4) es' := by
  obtain ⟨r, es1, e1, r0, r1, g1⟩ := random_y g (by omega) (n := 2) (by decide) (by decide)
  rcases (by omega : r = 0 ∨ r = 1) with rfl | rfl
  · refine ⟨true, es1, ?_, g1⟩
    unfold Yg_law_sort
    exact bd_of e1 (bd_of (a := kd true) rfl rfl)
  · refine ⟨false, es1, ?_, g1⟩
    unfold Yg_law_sort
    exact bd_of e1 (bd_of (a := kd false) rfl rfl)
theorem sz_prs (n12 : n ≤ 12) (q : Nat → Nat → Bool) : Sz (.list (prs n q)) 2 2000 ∧ (prs n q).length ≤ 144 := by
  have l : (prs n q).length ≤ 144 := by
    rw [prs_len]
    have := npr_le n q
    have : n * n ≤ 12 * 12 := Nat.mul_le_mul n12 n12
    omega
  refine ⟨(sz_list (ds := prs n q) (k := 1) (b := 2) fun d hd => ?_).mono (by omega) (by omega), l⟩
  unfold prs at hd
  obtain ⟨i, hi, hd⟩ := List.mem_flatMap.mp hd
  obtain ⟨j, hj, rfl⟩ := List.mem_map.mp hd
  have hi := List.mem_range.mp hi
  obtain ⟨_, h2⟩ := later_mem.mp (List.mem_filter.mp hj).1
  exact sz_tup (xs := [(i : Int), (j : Int)]) fun x hx => by
    rcases List.mem_cons.mp hx with rfl | hx
    · omega
    · rw [List.mem_singleton.mp hx]; omega
theorem right_ok {k : Nat} {es : List D} (g : Gn k es) (hk : k ≤ 9999) : ∃ es', Yg_law_right_v224 es = some (.bool true, es') := by
  obtain ⟨os, es1, e1, o, _, o12, o3, g1⟩ := group6_drawn g (by omega) (m := 12) (by decide)
  have p1 := prodR_pos o.pos
  obtain ⟨n, hn⟩ : ∃ n : Nat, prodR os = n := ⟨(prodR os).toNat, by omega⟩
  obtain ⟨s, es2, e2, g2⟩ := sort_drawn g1 (by omega)
  obtain ⟨a, es3, e3, A, g3⟩ := table3_drawn g2 (by omega) o hn.symm (by omega)
  obtain ⟨r, es4, e4, r0, r1, g4⟩ := random_y g3 (by omega) (n := 4) (by decide) (by decide)
  obtain ⟨b, es5, e5, B⟩ : ∃ b es5, (if decide (0 < r) = true then bd (Yg_law_table_v3 es4 (os_ os)) fun t13 => some (t13.1, (t13.2)) else bd (bList.f [il a]) fun t14 => some (t14, (es4))) = some (il b, es5) ∧ IsP n b := by
    by_cases c : 0 < r
    · obtain ⟨b, es5, e5, B, _⟩ := table3_drawn g4 (by omega) o hn.symm (by omega)
      exact ⟨b, es5, Y.ite_t (decide_eq_true c) (bd_of e5 rfl), B⟩
    · exact ⟨a, es4, Y.ite_f (by rw [decide_eq_false c]; decide) (bd_of (a := il a) rfl rfl), A⟩
  have l : (rowI os s a b).length = n := by rw [rowI_len, A.len, B.len, Nat.min_self]
  have rr := rowI_in o hn.symm s a b
  have er := lrow4_y o s (a := a) (b := b) (by rw [A.len]; omega)
  have ep := passing_ym o (by omega) hn.symm (by omega) s A B
  have ey := passing_y o (by omega) hn.symm (by omega) s A B
  have em := many_y o (by omega) hn.symm (by omega) s A B
  have el := lpairs_y (r := rowI os s a b) (by omega)
  rw [l] at el
  have es_ := sizes_y o (by omega) hn.symm l (by omega) rr
  have ls_ := lsizes_y (r := rowI os s a b) (by omega)
  have hv := fun (k : D → Option (D × List D)) => halves_y (r := rowI os s a b) (by omega) k
  rw [l] at hv
  have sl := szs_len (r := rowI os s a b)
  have sr := szs_rng (r := rowI os s a b)
  have zs := sz_ints (xs := szs (rowI os s a b)) fun x hx => by have := sr x hx; omega
  have rs := rp_ (zs.ps (by omega) (by omega))
  have za := sz_ints (xs := a) fun x hx => by have := A.lo x hx; have := A.hi x hx; omega
  have zb := sz_ints (xs := b) fun x hx => by have := B.lo x hx; have := B.hi x hx; omega
  have zr := sz_ints (xs := rowI os s a b) fun x hx => by have := rr x hx; omega
  have al := A.len
  have bl := B.len
  have z3 := sz_list (ds := [il a, il b, il (rowI os s a b)]) (k := 1) (b := 12) fun d hd => by
    rcases List.mem_cons.mp hd with rfl | hd
    · exact za.mono (by omega) (by omega)
    · rcases List.mem_cons.mp hd with rfl | hd
      · exact zb.mono (by omega) (by omega)
      · rw [List.mem_singleton.mp hd]
        exact zr.mono (by omega) (by omega)
  have r3 := rp_ (z3.ps (by omega) (Nat.le_of_ble_eq_true rfl))
  generalize rowI os s a b = row at *
  have pl := prs_len n (eqQ row)
  have le := npr_le n (eqQ row)
  have n144 : n * n ≤ 12 * 12 := Nat.mul_le_mul (by omega) (by omega)
  obtain ⟨zp, lp⟩ := sz_prs (n := n) (by omega) (eqQ row)
  have rp := rp_ (zp.ps (by omega) (by omega))
  have z4 := sz_list (ds := [.list (prs n (eqQ row)), .int ((npr n (eqQ row) : Nat) : Int), .int ((npr n (eqQ row) : Nat) : Int)]) (k := 2) (b := 2000) fun d hd => by
    rcases List.mem_cons.mp hd with rfl | hd
    · exact zp
    · rcases List.mem_cons.mp hd with rfl | hd
      · exact (sz_int (by omega)).mono (by omega) (by omega)
      · rw [List.mem_singleton.mp hd]
        exact (sz_int (by omega)).mono (by omega) (by omega)
  have r4 := rp_ (z4.ps (by omega) (Nat.le_of_ble_eq_true rfl))
  have ln : bLen.f [.list (prs n (eqQ row))] = some (.int ((npr n (eqQ row) : Nat) : Int)) := by rw [bLen_f, len_l, pl]
  have nei : ∀ x : Int, oNe.f (.int x) (.int x) = some (.bool false) := fun x => by rw [oNe_f, eqD_it, decide_eq_true rfl]; rfl
  refine ⟨es5, ?_⟩
  unfold Yg_law_right_v224
  refine bd_of e1 ?_
  refine bd_of e2 ?_
  refine bd_of e3 ?_
  refine bd_of e4 ?_
  refine bd_of (a := .bool (decide (0 < r))) rfl ?_
  refine bd_of (boolD_b _) ?_
  refine bd_of e5 ?_
  refine bd_of er ?_
  refine bd_of r3 ?_
  refine bd_of el ?_
  refine bd_of ep ?_
  refine bd_of (a := .str (PyData.list (prs n (eqQ row))).shown) (by rw [rp]; rfl) ?_
  refine bd_of rp ?_
  refine bd_of (ne_s _) (bd_of (boolD_b _) ?_)
  refine bd_of (a := false) (Y.ite_f ff (bd_of es_ (bd_of rs (bd_of ls_ (bd_of rs (bd_of (ne_s _) (bd_of (boolD_b _) rfl))))))) (Y.ite_f ff ?_)
  refine bd_of (app_l (by omega)) ?_
  refine bd_of ln ?_
  refine bd_of ls_ ?_
  refine (hv _).trans ?_
  refine bd_of (nei _) (bd_of (boolD_b _) (Y.ite_f ff ?_))
  refine bd_of ey (bd_of em ?_)
  refine bd_of (a := .list [.list (prs n (eqQ row)), .int ((npr n (eqQ row) : Nat) : Int)]) rfl (bd_of (disD_l _) (bd_of em ?_))
  refine bd_of (a := .list [.list (prs n (eqQ row)), .int ((npr n (eqQ row) : Nat) : Int), .int ((npr n (eqQ row) : Nat) : Int)]) rfl (bd_of (disD_l _) ?_)
  refine bd_of (a := .str _) (by rw [r4]; rfl) ?_
  refine bd_of ln (bd_of ln (bd_of r4 (bd_of (eq_s _) (bd_of (boolD_b _) ?_))))
  exact bd_of (a := .bool true) (Y.ite_t rfl (bd_of r3 (bd_of (eq_s _) rfl))) rfl
theorem law_ok (ns : List Int) : Y_law_v346 (.list (ns.map .int)) = some (.bool true) := by
  unfold Y_law_v346
  refine bd_of (a := .nx ()) (bd_of (rg1_n (n := 4) (by omega)) (forC_all _ fun x hx => ?_)) ?_
  · obtain ⟨i, hi, rfl⟩ := List.mem_map.mp hx
    have hi := List.mem_range.mp hi
    obtain ⟨es, e, g⟩ := gen_ym ns (i := (i : Int)) (by omega) (by omega)
    obtain ⟨es1, e1⟩ := right_ok g (by omega)
    exact bd_of e (bd_of e1 (bd_of (boolD_b _) rfl))
  · rw [ctr_nx]
    kernel_rfl
theorem good : Good := fun ns _ => y_law_v346 [.list (ns.map .int)] _ (law_ok ns)
end K29
end
theorem PySem.Challenge.cw_checkwright_k29_whole_pairs_that_pass_holds : PySem.Challenge.rw_checkwright_k29_whole_pairs_that_pass.Holds := by
  exact K29.holds_of K29.good
